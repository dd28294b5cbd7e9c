/-
  Walks and plain words (VkD VkE VkG).
-/
import Derived.Test.YteajlfgbmefncaaGreatDoorN20
import Derived.Test.YteajlfgbmefncaaGreatDoorN8
import Derived.Test.YteajlfgbmefncaaGreatDoorN12
namespace Go.Proofs.YteajlfgbmefncaaGreatDoor
set_option linter.unusedVariables false
open Go.ChangeShapes Go.WideShapes Go.ChangeAt Go.RowKit

theorem valid_at (l:List UInt8) (w:World) (hl:l.length≤1000000) (hT:Tabs w):Calls Tryz.prog 108 #[.string (mkB l)] w fun e w'=>e=.returned (.bool (valB l))∧Below w.heap.size w w':=by
 have h:=utf8_ValidString (mkB l) w (by rw[mkB_size];omega) hT
 have hd:(mkB l).data.toList=l:=by simp[mkB]
 rw[hd]at h
 exact h
set_option maxHeartbeats 16000000 in
set_option maxRecDepth 20000 in
theorem kindP_any (ma ea ta:Option Addr) (nm ne nt mc ec tc:Nat) (rec:Int→Nd→Bool) (x:FD) (dep:Int) (v:Value) (y:Nd) (w:World) (hT:Tabs w) (hdep:0≤dep∧dep≤1000) (hs:y.s.length≤100000) (hV:∃ fs,v=ival y fs)
  (hrec:x.kind=10→∀ W,Below w.heap.size w W→Calls Tryz.prog 56 #[.agg #[.slice ma nm mc,.slice ea ne ec,.slice ta nt tc],.int .i64 x.type,v,.int .i64 (dep+1)] W fun e w'=>e=.returned (.bool (rec x.type y))∧Below W.heap.size W w') :
  Calls Tryz.prog 107 #[.agg #[.slice ma nm mc,.slice ea ne ec,.slice ta nt tc],.agg #[.int .i64 x.num,.string (mkB x.name),.int .i64 x.kind,.bool x.rep,.int .i64 x.type],v,.int .i64 dep] w fun e w'=>e=.returned (.bool (valP rec x y))∧Below w.heap.size w w':=by
 obtain⟨num,name,kind,rep,type⟩:=x
 dsimp only at hrec ⊢
 obtain⟨R,hR⟩:∃ R,valP rec ⟨num,name,kind,rep,type⟩ y=R:=⟨_,rfl⟩
 have HR:Hid ((if kind=10 then rec type y else kindB kind y)=R):=hR
 rw[hR]
 clear hR
 obtain⟨fs,rfl⟩:=hV
 have t1:=fun W=>taInt y fs W
 have t2:=fun W=>taUint y fs W
 have t3:=fun W=>taBool y fs W
 have t4:=fun W=>taText y fs W
 have t5:=fun W=>taBytes y fs W
 have t6:=fun W=>taEnum y fs W
 generalize ival y fs=v at *
 obtain⟨Y,hY,hC,hb,hYs⟩:=box_new w #[.slice ma nm mc,.slice ea ne ec,.slice ta nt tc] 26
 obtain⟨V,hV,hD,hVb,hVs⟩:=box_new Y #[.int .i64 num,.string (mkB name),.int .i64 kind,.bool rep,.int .i64 type] 51
 have HY:=hQz hY
 have HV:=hQz hV
 rw[hYs]at hD
 have hCV:=(hVb.block _ (by omega)).trans hC
 have hBV:=hb.trans (hVb.mono hb.size)
 have HBV:=hQz hBV
 have c2:=cell_at hD 2 rfl
 by_cases h1:kind=1
 ·subst h1
  have e:R=decide (y.kind=1):=by rw[←HR.out,if_neg (by decide)];simp[kindB]
  subst e
  have t1':∃ z,∀ W,(Instr.typeAssert v 31 68 true).run Tryz.prog W=.ok (.tuple #[z,.bool (decide (y.kind=1))]) W:=⟨_,t1⟩
  clear t1
  obtain⟨z,t1⟩:=t1'
  generalize decide (y.kind=1)=b at t1 ⊢
  clear hrec HR t2 t3 t4 t5 t6 hC hD hY hb hYs hV hVb hVs hCV hBV
  go_enter Tryz.func107,Tryz.ntmps107
  go_upto_region 1 with fail
  rw[HY.out,HV.out]
  go_wp2_with fail
  go_ret
  exact⟨rfl,HBV.out⟩
 by_cases h3:kind=3
 ·subst h3
  have e:R=decide (y.kind=1):=by rw[←HR.out,if_neg (by decide)];simp[kindB]
  subst e
  have t1':∃ z,∀ W,(Instr.typeAssert v 31 68 true).run Tryz.prog W=.ok (.tuple #[z,.bool (decide (y.kind=1))]) W:=⟨_,t1⟩
  clear t1
  obtain⟨z,t1⟩:=t1'
  generalize decide (y.kind=1)=b at t1 ⊢
  clear hrec HR t2 t3 t4 t5 t6 hC hD hY hb hYs hV hVb hVs hCV hBV
  go_enter Tryz.func107,Tryz.ntmps107
  go_upto_region 1 with fail
  rw[HY.out,HV.out]
  go_wp2_with fail
  go_ret
  exact⟨rfl,HBV.out⟩
 by_cases h2:kind=2
 ·subst h2
  have e:R=decide (y.kind=2):=by rw[←HR.out,if_neg (by decide)];simp[kindB]
  subst e
  have t2':∃ z,∀ W,(Instr.typeAssert v 31 69 true).run Tryz.prog W=.ok (.tuple #[z,.bool (decide (y.kind=2))]) W:=⟨_,t2⟩
  clear t2
  obtain⟨z,t2⟩:=t2'
  generalize decide (y.kind=2)=b at t2 ⊢
  clear hrec HR t1 t3 t4 t5 t6 hC hD hY hb hYs hV hVb hVs hCV hBV
  go_enter Tryz.func107,Tryz.ntmps107
  go_upto_region 1 with fail
  rw[HY.out,HV.out]
  go_wp2_with fail
  go_ret
  exact⟨rfl,HBV.out⟩
 by_cases h8:kind=8
 ·subst h8
  have e:R=decide (y.kind=2):=by rw[←HR.out,if_neg (by decide)];simp[kindB]
  subst e
  have t2':∃ z,∀ W,(Instr.typeAssert v 31 69 true).run Tryz.prog W=.ok (.tuple #[z,.bool (decide (y.kind=2))]) W:=⟨_,t2⟩
  clear t2
  obtain⟨z,t2⟩:=t2'
  generalize decide (y.kind=2)=b at t2 ⊢
  clear hrec HR t1 t3 t4 t5 t6 hC hD hY hb hYs hV hVb hVs hCV hBV
  go_enter Tryz.func107,Tryz.ntmps107
  go_upto_region 1 with fail
  rw[HY.out,HV.out]
  go_wp2_with fail
  go_ret
  exact⟨rfl,HBV.out⟩
 by_cases h4:kind=4
 ·subst h4
  have e:R=decide (y.kind=3):=by rw[←HR.out,if_neg (by decide)];simp[kindB]
  subst e
  have t3':∃ z,∀ W,(Instr.typeAssert v 31 70 true).run Tryz.prog W=.ok (.tuple #[z,.bool (decide (y.kind=3))]) W:=⟨_,t3⟩
  clear t3
  obtain⟨z,t3⟩:=t3'
  generalize decide (y.kind=3)=b at t3 ⊢
  clear hrec HR t1 t2 t4 t5 t6 hC hD hY hb hYs hV hVb hVs hCV hBV
  go_enter Tryz.func107,Tryz.ntmps107
  go_upto_region 1 with fail
  rw[HY.out,HV.out]
  go_wp2_with fail
  go_ret
  exact⟨rfl,HBV.out⟩
 by_cases h6:kind=6
 ·subst h6
  have e:R=decide (y.kind=5):=by rw[←HR.out,if_neg (by decide)];simp[kindB]
  subst e
  have t5':∃ z,∀ W,(Instr.typeAssert v 31 72 true).run Tryz.prog W=.ok (.tuple #[z,.bool (decide (y.kind=5))]) W:=⟨_,t5⟩
  clear t5
  obtain⟨z,t5⟩:=t5'
  generalize decide (y.kind=5)=b at t5 ⊢
  clear hrec HR t1 t2 t3 t4 t6 hC hD hY hb hYs hV hVb hVs hCV hBV
  go_enter Tryz.func107,Tryz.ntmps107
  go_upto_region 1 with fail
  rw[HY.out,HV.out]
  go_wp2_with fail
  go_ret
  exact⟨rfl,HBV.out⟩
 by_cases h9:kind=9
 ·subst h9
  have e:R=decide (y.kind=6):=by rw[←HR.out,if_neg (by decide)];simp[kindB]
  subst e
  have t6':∃ z,∀ W,(Instr.typeAssert v 31 73 true).run Tryz.prog W=.ok (.tuple #[z,.bool (decide (y.kind=6))]) W:=⟨_,t6⟩
  clear t6
  obtain⟨z,t6⟩:=t6'
  generalize decide (y.kind=6)=b at t6 ⊢
  clear hrec HR t1 t2 t3 t4 t5 hC hD hY hb hYs hV hVb hVs hCV hBV
  go_enter Tryz.func107,Tryz.ntmps107
  go_upto_region 1 with fail
  rw[HY.out,HV.out]
  go_wp2_with fail
  go_ret
  exact⟨rfl,HBV.out⟩
 by_cases h7:kind=7
 ·subst h7
  by_cases hk:y.kind=2
  ·have e:R=decide (y.u<4294967296):=by rw[←HR.out,if_neg (by decide)];simp[kindB,hk]
   rw[e]
   rw[if_pos hk,decide_eq_true hk]at t2
   clear hrec HR t1 t3 t4 t5 t6 hC hD hY hb hYs hV hVb hVs hCV hBV e hk
   generalize y.u=u at *
   go_enter Tryz.func107,Tryz.ntmps107
   go_upto_region 1 with fail
   rw[HY.out,HV.out]
   go_wp2_with fail
   go_ret
   exact⟨rfl,HBV.out⟩
  ·have e:R=false:=by rw[←HR.out,if_neg (by decide)];simp[kindB,hk]
   subst e
   rw[if_neg hk,decide_eq_false hk]at t2
   clear hrec HR t1 t3 t4 t5 t6 hC hD hY hb hYs hV hVb hVs hCV hBV hk
   go_enter Tryz.func107,Tryz.ntmps107
   go_upto_region 1 with fail
   rw[HY.out,HV.out]
   go_wp2_with fail
   go_ret
   exact⟨rfl,HBV.out⟩
 by_cases h5:kind=5
 ·subst h5
  by_cases hk:y.kind=4
  ·have e:R=valB y.s:=by rw[←HR.out,if_neg (by decide)];simp[kindB,hk]
   rw[e]
   rw[if_pos hk,decide_eq_true hk]at t4
   have hva:=valid_at y.s V (by omega) (tabs_below hT hBV)
   clear hrec HR t1 t2 t3 t5 t6 hC hD hY hb hYs hV hVb hVs hCV hBV e hk
   generalize valB y.s=B at *
   go_enter Tryz.func107,Tryz.ntmps107
   go_upto_region 1 with fail
   rw[HY.out,HV.out]
   go_wp2_with fail
   refine hva.mono ?_
   rintro e W ⟨rfl,hbW⟩
   have HBW:=hQz (HBV.out.trans (hbW.mono HBV.out.size))
   clear hbW hva
   go_wp2_with fail
   go_ret
   exact⟨rfl,HBW.out⟩
  ·have e:R=false:=by rw[←HR.out,if_neg (by decide)];simp[kindB,hk]
   subst e
   rw[if_neg hk,decide_eq_false hk]at t4
   clear hrec HR t1 t2 t3 t5 t6 hC hD hY hb hYs hV hVb hVs hCV hBV hk
   go_enter Tryz.func107,Tryz.ntmps107
   go_upto_region 1 with fail
   rw[HY.out,HV.out]
   go_wp2_with fail
   go_ret
   exact⟨rfl,HBV.out⟩
 by_cases h10:kind=10
 ·subst h10
  have e:R=rec type y:=by rw[←HR.out,if_pos rfl]
  rw[e]
  have h:=hrec rfl V hBV
  have s0:=cell_at hCV 0 rfl
  have s1:=cell_at hCV 1 rfl
  have s2:=cell_at hCV 2 rfl
  have c4:=cell_at hD 4 rfl
  have hw1:IntKind.i64.wrap (dep+1)=dep+1:=by rw[IntKind.wrap_i64];omega
  clear hrec HR t1 t2 t3 t4 t5 t6 hC hD hY hb hYs hV hVb hVs hCV hBV e
  generalize rec type y=B at *
  go_enter Tryz.func107,Tryz.ntmps107
  go_upto_region 1 with fail
  rw[HY.out,HV.out]
  go_wp2_with fail
  refine h.mono ?_
  rintro e W ⟨rfl,hbW⟩
  have HBW:=hQz (HBV.out.trans (hbW.mono HBV.out.size))
  clear hbW h
  go_wp2_with fail
  go_ret
  exact⟨rfl,HBW.out⟩
 have e:R=false:=by
  rw[←HR.out,if_neg h10];unfold kindB
  rw[if_neg (by omega),if_neg (by omega),if_neg h7,if_neg h4,if_neg h5,if_neg h6,if_neg h9]
 subst e
 clear hrec HR t1 t2 t3 t4 t5 t6 hC hD hY hb hYs hV hVb hVs hCV hBV
 go_enter Tryz.func107,Tryz.ntmps107
 go_upto_region 1 with fail
 rw[HY.out,HV.out]
 go_wp2_with fail
 go_ret
 exact⟨rfl,HBV.out⟩
set_option maxHeartbeats 16000000 in
set_option maxRecDepth 20000 in
theorem fldP_any (ma ea ta:Option Addr) (nm ne nt mc ec tc:Nat) (nn:List UInt8) (fa:Option Addr) (n fc:Nat) (fs:List FD) (num:Int) (va:Option Addr) (m vc:Nat) (ys:List Nd) (rec:Int→Nd→Bool) (f:Nat) (dep:Int) (w:World) (hT:Tabs w) (hdep:0≤dep∧dep≤1000)
  (hn:fs.length=n) (hl:n≤100000) (hH:RowsIn w (fun b=>b<w.heap.size) 5 fdrow (.slice fa n fc) fs) (hm:ys.length=m) (hml:m≤100000) (hV:ValsG valS w (fun b=>b<w.heap.size) f (.slice va m vc) ys) (hs:∀ y∈ys,y.s.length≤100000)
  (hrec:∀ (x:FD) (v:Value) (y:Nd) (W:World),x∈fs→x.kind=10→y∈ys→Below w.heap.size w W→HeldV W (fun b=>b<W.heap.size) f v y→Calls Tryz.prog 56 #[.agg #[.slice ma nm mc,.slice ea ne ec,.slice ta nt tc],.int .i64 x.type,v,.int .i64 (dep+1)] W fun e w'=>e=.returned (.bool (rec x.type y))∧Below W.heap.size W w') :
  Calls Tryz.prog 85 #[.agg #[.slice ma nm mc,.slice ea ne ec,.slice ta nt tc],.agg #[.string (mkB nn),.slice fa n fc],.agg #[.int .i64 num,.slice va m vc],.int .i64 dep] w fun e w'=>e=.returned (.bool (fldP rec fs (num,ys)))∧Below w.heap.size w w':=by
 obtain⟨R,hR⟩:∃ R,fldP rec fs (num,ys)=R:=⟨_,rfl⟩
 have HR:=hQz hR
 rw[hR]
 clear hR
 obtain⟨Y,hY,hC,hb,hYs⟩:=box_new w #[.slice ma nm mc,.slice ea ne ec,.slice ta nt tc] 26
 obtain⟨U,hU,hE,hUb,hUs⟩:=box_new Y #[.string (mkB nn),.slice fa n fc] 54
 obtain⟨V,hV',hD,hVb,hVs⟩:=box_new U #[.int .i64 num,.slice va m vc] 79
 have HY:=hQz hY
 have HU:=hQz hU
 have HV:=hQz hV'
 rw[hUs,hYs]at hD
 rw[hYs]at hE
 have hE2:=(hVb.block _ (by omega)).trans hE
 have hC2:=(hVb.block _ (by omega)).trans ((hUb.block _ (by omega)).trans hC)
 have hBV:=hb.trans ((hUb.trans (hVb.mono hUb.size)).mono hb.size)
 have HBV:=hQz hBV
 have HC2:=hQz hC2
 have HD2:=hQz hD
 have d0:=cell_at hE2 0 rfl
 have d1:=cell_at hE2 1 rfl
 have f0:=cell_at hD 0 rfl
 have h:=defined_any nn fa n fc fs num V hn hl ((RowsIn.old hH fun b h=>hBV.block b h).more fun b h=>by have:=hBV.size;omega)
 have HREC:=hQz hrec
 have HVL:=hQz hV
 have HS:=hQz hs
 have HM:=hQz hm
 have HT:=hQz hT
 have hVl:w.heap.size+3≤V.heap.size:=by omega
 clear hn hl hH hm hV hs hrec hC hY hb hYs hU hUb hUs hE hV' hVb hVs hD hE2 hC2 hBV hT
 go_enter Tryz.func85,Tryz.ntmps85
 go_upto_region 1 with fail
 rw[HY.out,HU.out,HV.out]
 go_wp2_with fail
 refine h.mono ?_
 rintro e W ⟨x,b,rfl,hbt,hbf,hbW⟩
 have HBW:=hQz (HBV.out.trans (hbW.mono HBV.out.size))
 have hWs:=hbW.size
 have HCW:Hid (W.heap[w.heap.size]? = _):=(hbW.block _ (by omega)).trans HC2.out
 have HDW:Hid (W.heap[w.heap.size+2]? = _):=(hbW.block _ (by omega)).trans HD2.out
 have HXF:Hid (b=true→x∈fs∧R=(!decide (ys.length=0)&&((decide (ys.length≤1) || x.rep)&&allA ys fun _ y=>valP rec x y))):=by
  refine(?_:_→_)
  intro hb
  refine⟨(firstF_some (hbt hb)).1,?_⟩
  rw[←HR.out];unfold fldP;rw[hbt hb]
 have HXN:Hid (b=false→R=false):=by
  refine(?_:_→_)
  intro hb
  rw[←HR.out];unfold fldP;rw[hbf hb]
 clear h hbW d0 d1 f0 hbt hbf HC2 HD2 HBV HR
 obtain⟨xnum,xname,xkind,xrep,xtype⟩:=x
 dsimp only at HXF ⊢
 have hC:(W.alloc (.cells #[.int .i64 xnum,.string (mkB xname),.int .i64 xkind,.bool xrep,.int .i64 xtype] 51)).heap[W.heap.size]? = some (.cells #[.int .i64 xnum,.string (mkB xname),.int .i64 xkind,.bool xrep,.int .i64 xtype] 51 (0,0)):=alloc_heap_new _ _
 have hCb:Below W.heap.size W (W.alloc (.cells #[.int .i64 xnum,.string (mkB xname),.int .i64 xkind,.bool xrep,.int .i64 xtype] 51)):=(Below.refl _ W).alloc (Nat.le_refl _) _
 go_upto_region 2 with fail
 generalize (W.alloc (.cells #[.int .i64 xnum,.string (mkB xname),.int .i64 xkind,.bool xrep,.int .i64 xtype] 51))=X at *
 have HBX:=hQz (HBW.out.trans (hCb.mono HBW.out.size))
 have HX:=hQz hC
 have hXs:W.heap.size+1≤X.heap.size:=by have:=(Array.getElem?_eq_some_iff.1 hC).1;omega
 have HCX:Hid (X.heap[w.heap.size]? = _):=(hCb.block _ (by omega)).trans HCW.out
 have hDX:=(hCb.block _ (by omega)).trans HDW.out
 have HDX:=hQz hDX
 have q1:=cell_at hDX 1 rfl
 have q3:=cell_at hC 3 rfl
 clear hC hCb hDX HCW HDW HBW
 cases b
 case false=>
  have e:R=false:=HXN.out rfl
  subst e
  go_wp2_with fail
  go_ret
  exact⟨rfl,HBX.out⟩
 obtain⟨hxm,hRe⟩:=HXF.out rfl
 rw[HM.out]at hRe
 have HRE:=hQz hRe
 have HXM:=hQz hxm
 clear HXF HXN hRe hxm
 by_cases hm0:m=0
 ·subst hm0
  have e:R=false:=by rw[HRE.out];rfl
  subst e
  go_wp2_with fail
  go_ret
  exact⟨rfl,HBX.out⟩
 have hm0':((m:Int) == 0)=false:=beq_eq_false_iff_ne.2 (by omega)
 by_cases hm1:1<m∧xrep=false
 ·obtain⟨hm1,hr⟩:=hm1
  subst hr
  have hm1':(1:Int)<(m:Int):=by omega
  have e:R=false:=by rw[HRE.out,decide_eq_false (by omega:¬m≤1)];simp
  subst e
  go_wp2_with fail
  go_ret
  exact⟨rfl,HBX.out⟩
 have HRA:Hid (allB (atB ys fun _ y=>valP rec ⟨xnum,xname,xkind,xrep,xtype⟩ y) ys.length=R):=by
  refine(?_:_=_)
  rw[HRE.out,decide_eq_false hm0]
  have e2:(decide (m≤1) || xrep)=true:=by
   cases xrep
   ·simp at hm1;simp;omega
   ·simp
  rw[e2];simp[allA]
 have hgo:(1:Int)<(m:Int)→xrep=true:=fun h=>by
  cases xrep
  ·exact absurd ⟨by omega,rfl⟩ hm1
  ·rfl
 clear HRE hm1
 by_cases hm2:(1:Int)<(m:Int)
 ·have hr:=hgo hm2
  subst hr
  clear hgo
  go_wp2_with fail
  clear q1 q3
  go_loopw [42] (fun i wr=>∃ (k:Nat),i=.int .i64 (k:Int)∧k≤m∧allB (atB ys fun _ y=>valP rec ⟨xnum,xname,xkind,true,xtype⟩ y) k=true∧Below X.heap.size X wr) (fun i _=>m - (intOf i).toNat)
  case atStart=>exact⟨0,rfl,Nat.zero_le _,rfl,Below.refl _ _⟩
  case round=>
   generalize wr=w1 at *
   obtain⟨k,rfl,hk,hall,hbel⟩:=hrel
   have HA:=hQz hall
   have hBw1:=HBX.out.trans (hbel.mono HBX.out.size)
   have HBE:=hQz hbel
   have HBw:=hQz hBw1
   have hws:=hbel.size
   by_cases hkn:k<m
   ·obtain⟨y,hy⟩:∃ y,ys[k]? = some y:=⟨_,List.getElem?_eq_getElem (by have:=HM.out;omega)⟩
    obtain⟨g,oo,c0,fs',hsl,hg,hcl,hheld⟩:=ValsG.at HVL.out hy
    rw[HM.out]at hsl
    obtain⟨rfl,rfl⟩:=slice_two hsl
    have e0:w1.cell? ⟨g,oo+k,none⟩=some (ival y fs'):=by
     have:=(hcl.old (hBw1.block g hg)) 0 _ rfl
     simpa [valS]using this
    have hHV:HeldV w1 (fun b=>b<w1.heap.size) f (ival y fs') y:=⟨fs',rfl,fun hk7=>HeldG.mv (fun b hb=>hBw1.block b hb) (fun b hb=>by have:=hBw1.size;omega) (hheld (by simpa [valS]using hk7))⟩
    have hym:=List.mem_of_getElem? hy
    have HKB:Hid (atB ys (fun _ y=>valP rec ⟨xnum,xname,xkind,true,xtype⟩ y) k=valP rec ⟨xnum,xname,xkind,true,xtype⟩ y):=atB_some hy
    have h:=kindP_any ma ea ta nm ne nt mc ec tc rec ⟨xnum,xname,xkind,true,xtype⟩ dep (ival y fs') y w1 (tabs_below HT.out hBw1) hdep (HS.out y hym) ⟨fs',rfl⟩ (fun hk10 W hW=>HREC.out _ _ y W HXM.out hk10 hym (hBw1.trans (hW.mono hBw1.size)) (hHV.mv (fun b hb=>hW.block b hb) (fun b hb=>by have:=hW.size;omega)))
    have hk0:(0:Int)≤(k:Int):=by omega
    have hk1:(k:Int)<(m:Int):=by omega
    have hwq:=wQz k (by omega)
    have hc1:=(hbel.block _ (by omega)).trans HCX.out
    have hx1:=(hbel.block _ (by omega)).trans HX.out
    have s0:=cell_at hc1 0 rfl
    have s1:=cell_at hc1 1 rfl
    have s2:=cell_at hc1 2 rfl
    have p0:=cell_at hx1 0 rfl
    have p1:=cell_at hx1 1 rfl
    have p2:=cell_at hx1 2 rfl
    have p3:=cell_at hx1 3 rfl
    have p4:=cell_at hx1 4 rfl
    obtain⟨B,hB⟩:∃ B,valP rec ⟨xnum,xname,xkind,true,xtype⟩ y=B:=⟨_,rfl⟩
    rw[hB]at h HKB
    obtain⟨v,hv⟩:∃ v,ival y fs'=v:=⟨_,rfl⟩
    rw[hv]at h e0
    clear hB hv
    clear hsl hy hg hcl hheld hHV hym hc1 hx1 hbel hall hBw1
    dsimp only at h
    go_wp2_with fail
    refine h.mono ?_
    rintro e W2 ⟨rfl,hb2⟩
    have HB2:=hQz (HBw.out.trans (hb2.mono HBw.out.size))
    have HBR:=hQz (HBE.out.trans (hb2.mono hws))
    clear hb2 h s0 s1 s2 p0 p1 p2 p3 p4 e0
    cases B
    case false=>
     have e:R=false:=by rw[←HRA.out];exact allB_no HKB.out (by have:=HM.out;omega)
     subst e
     go_wp2_with fail
     go_ret
     exact⟨rfl,HB2.out⟩
    case true=>
     go_wp2_with fail
     go_roundw
     case rel=>exact⟨k+1,by go_num,by omega,allB_step HA.out HKB.out,HBR.out⟩
     case measure=>simp[intOf];omega
   ·have hkn':¬(k:Int)<(m:Int):=by omega
    have e:R=true:=by
     have hkk:k=ys.length:=by have:=HM.out;omega
     rw[←HRA.out,←hkk];exact HA.out
    subst e
    go_wp2_with fail
    go_ret
    exact⟨rfl,HBw.out⟩
 ·clear hgo
  go_wp2_with fail
  clear q1 q3
  go_loopw [42] (fun i wr=>∃ (k:Nat),i=.int .i64 (k:Int)∧k≤m∧allB (atB ys fun _ y=>valP rec ⟨xnum,xname,xkind,xrep,xtype⟩ y) k=true∧Below X.heap.size X wr) (fun i _=>m - (intOf i).toNat)
  case atStart=>exact⟨0,rfl,Nat.zero_le _,rfl,Below.refl _ _⟩
  case round=>
   generalize wr=w1 at *
   obtain⟨k,rfl,hk,hall,hbel⟩:=hrel
   have HA:=hQz hall
   have hBw1:=HBX.out.trans (hbel.mono HBX.out.size)
   have HBE:=hQz hbel
   have HBw:=hQz hBw1
   have hws:=hbel.size
   by_cases hkn:k<m
   ·obtain⟨y,hy⟩:∃ y,ys[k]? = some y:=⟨_,List.getElem?_eq_getElem (by have:=HM.out;omega)⟩
    obtain⟨g,oo,c0,fs',hsl,hg,hcl,hheld⟩:=ValsG.at HVL.out hy
    rw[HM.out]at hsl
    obtain⟨rfl,rfl⟩:=slice_two hsl
    have e0:w1.cell? ⟨g,oo+k,none⟩=some (ival y fs'):=by
     have:=(hcl.old (hBw1.block g hg)) 0 _ rfl
     simpa [valS]using this
    have hHV:HeldV w1 (fun b=>b<w1.heap.size) f (ival y fs') y:=⟨fs',rfl,fun hk7=>HeldG.mv (fun b hb=>hBw1.block b hb) (fun b hb=>by have:=hBw1.size;omega) (hheld (by simpa [valS]using hk7))⟩
    have hym:=List.mem_of_getElem? hy
    have HKB:Hid (atB ys (fun _ y=>valP rec ⟨xnum,xname,xkind,xrep,xtype⟩ y) k=valP rec ⟨xnum,xname,xkind,xrep,xtype⟩ y):=atB_some hy
    have h:=kindP_any ma ea ta nm ne nt mc ec tc rec ⟨xnum,xname,xkind,xrep,xtype⟩ dep (ival y fs') y w1 (tabs_below HT.out hBw1) hdep (HS.out y hym) ⟨fs',rfl⟩ (fun hk10 W hW=>HREC.out _ _ y W HXM.out hk10 hym (hBw1.trans (hW.mono hBw1.size)) (hHV.mv (fun b hb=>hW.block b hb) (fun b hb=>by have:=hW.size;omega)))
    have hk0:(0:Int)≤(k:Int):=by omega
    have hk1:(k:Int)<(m:Int):=by omega
    have hwq:=wQz k (by omega)
    have hc1:=(hbel.block _ (by omega)).trans HCX.out
    have hx1:=(hbel.block _ (by omega)).trans HX.out
    have s0:=cell_at hc1 0 rfl
    have s1:=cell_at hc1 1 rfl
    have s2:=cell_at hc1 2 rfl
    have p0:=cell_at hx1 0 rfl
    have p1:=cell_at hx1 1 rfl
    have p2:=cell_at hx1 2 rfl
    have p3:=cell_at hx1 3 rfl
    have p4:=cell_at hx1 4 rfl
    obtain⟨B,hB⟩:∃ B,valP rec ⟨xnum,xname,xkind,xrep,xtype⟩ y=B:=⟨_,rfl⟩
    rw[hB]at h HKB
    obtain⟨v,hv⟩:∃ v,ival y fs'=v:=⟨_,rfl⟩
    rw[hv]at h e0
    clear hB hv
    clear hsl hy hg hcl hheld hHV hym hc1 hx1 hbel hall hBw1
    dsimp only at h
    go_wp2_with fail
    refine h.mono ?_
    rintro e W2 ⟨rfl,hb2⟩
    have HB2:=hQz (HBw.out.trans (hb2.mono HBw.out.size))
    have HBR:=hQz (HBE.out.trans (hb2.mono hws))
    clear hb2 h s0 s1 s2 p0 p1 p2 p3 p4 e0
    cases B
    case false=>
     have e:R=false:=by rw[←HRA.out];exact allB_no HKB.out (by have:=HM.out;omega)
     subst e
     go_wp2_with fail
     go_ret
     exact⟨rfl,HB2.out⟩
    case true=>
     go_wp2_with fail
     go_roundw
     case rel=>exact⟨k+1,by go_num,by omega,allB_step HA.out HKB.out,HBR.out⟩
     case measure=>simp[intOf];omega
   ·have hkn':¬(k:Int)<(m:Int):=by omega
    have e:R=true:=by
     have hkk:k=ys.length:=by have:=HM.out;omega
     rw[←HRA.out,←hkk];exact HA.out
    subst e
    go_wp2_with fail
    go_ret
    exact⟨rfl,HBw.out⟩
def TyOK (ms:List MD):Prop:=∀ m∈ms,m.fields.length≤100000∧∀ x∈m.fields,x.kind=10→0≤x.type∧x.type<(ms.length:Int)
theorem prevF_step {fl:List (Int × List Nd)} {k:Nat} {y:Int × List Nd} (h:fl[k]? = some y):prevF fl (k+1)=y.1:=by rw[prevF,h]
set_option maxHeartbeats 32000000 in
set_option maxRecDepth 20000 in
theorem msgP_any (ma ea ta:Option Addr) (nm ne nt mc ec tc:Nat) (ms:List MD) (hnm:ms.length=nm) (hok:TyOK ms):∀ (f:Nat) (t dep:Int) (v:Value) (x:Nd) (w:World),Tabs w→0≤dep∧dep≤100→0≤t→t<(nm:Int)→HeldM w (fun b=>b<w.heap.size) (.slice ma nm mc) ms→FitG 100000 10000 f x→HeldV w (fun b=>b<w.heap.size) f v x→
  Calls Tryz.prog 56 #[.agg #[.slice ma nm mc,.slice ea ne ec,.slice ta nt tc],.int .i64 t,v,.int .i64 dep] w fun e w'=>e=.returned (.bool (fitP ms f dep t x))∧Below w.heap.size w w':=by
 intro f
 induction f using Nat.strongRecOn with
 | _ f ih=>
 intro t dep v x w hT hdep ht0 ht1 hHM hfit hHV
 obtain⟨R,hR⟩:∃ R,fitP ms f dep t x=R:=⟨_,rfl⟩
 rw[hR]
 rw[fitP_eq]at hR
 have HR:=hQz hR
 clear hR
 obtain⟨fs,rfl,hHG⟩:=hHV
 have tas:=fun W=>taMessage x fs W
 obtain⟨v,hv⟩:∃ v,ival x fs=v:=⟨_,rfl⟩
 rw[hv]at tas ⊢
 clear hv
 obtain⟨Y,hY,hC,hb,hYs⟩:=box_new w #[.slice ma nm mc,.slice ea ne ec,.slice ta nt tc] 26
 have HY:=hQz hY
 by_cases hk:x.kind=7
 case neg=>
  rw[if_neg hk,decide_eq_false hk]at tas
  have e:R=false:=by rw[←HR.out,topP,decide_eq_false (fun h=>hk h.1)];rfl
  subst e
  obtain⟨V,hV,hD,hVb,hVs⟩:=box_new Y #[.int .i64 0,.slice none 0 0,.string ⟨#[]⟩] 76
  have HV:=hQz hV
  have HBV:=hQz (hb.trans (hVb.mono hb.size))
  clear hC hY hb hYs hV hD hVb hVs HR hHG hk ih
  go_enter Tryz.func56,Tryz.ntmps56
  go_upto_region 2 with fail
  rw[HY.out,HV.out]
  go_wp2_with fail
  go_ret
  exact⟨rfl,HBV.out⟩
 rw[if_pos hk,decide_eq_true hk]at tas
 have hHG:=hHG hk
 obtain⟨xa,xc,rfl⟩:=HeldG.isSl hHG
 obtain⟨xkind,xn,xu,xb,xs,xtype,fl⟩:=x
 dsimp only at hk hHG hfit tas
 have hxs:=hfit.s
 dsimp only at hxs
 have HFIT:=hQz hfit
 have hRd:(decide (xtype=t∧dep≤16)&&(match ms[t.toNat]? with
  | none=>false
  | some m=>bodyP (recP ms dep f) m.fields ⟨xkind,xn,xu,xb,xs,xtype,fl⟩))=R:=by
  rw[←HR.out,topP]
  simp only[hk,true_and]
  rfl
 have HRD:=hQz hRd
 obtain⟨n,hn⟩:∃ n,fl.length=n:=⟨_,rfl⟩
 have HN:=hQz hn
 rw[hn]at hHG tas
 have HHG:=hQz hHG
 obtain⟨V,hV,hD,hVb,hVs⟩:=box_new Y #[.int .i64 xtype,.slice xa n xc,.string (mkB xs)] 76
 have HV:=hQz hV
 rw[hYs]at hD
 have hBV:=hb.trans (hVb.mono hb.size)
 have HBV:=hQz hBV
 have hCV:=(hVb.block _ (by omega)).trans hC
 have HCV:=hQz hCV
 have HDV:=hQz hD
 have hVl:w.heap.size+2≤V.heap.size:=by omega
 have m0:=cell_at hD 0 rfl
 have m1:=cell_at hD 1 rfl
 have HT:=hQz hT
 have HHM:=hQz hHM
 have HNM:=hQz hnm
 have HOK:=hQz hok
 have HIH:=hQz ih
 clear hC hY hb hYs hV hD hVb hVs HR hRd hHG hk hn hfit hBV hCV hT hHM hnm hok ih
 by_cases hty:xtype=t
 case neg=>
  have e:R=false:=by rw[←HRD.out,decide_eq_false (fun h=>hty h.1)];rfl
  subst e
  have hty':(xtype == t)=false:=beq_eq_false_iff_ne.2 hty
  have hty2:(xtype != t)=true:=by rw[bne,hty'];rfl
  clear HRD HIH
  go_enter Tryz.func56,Tryz.ntmps56
  go_upto_region 2 with fail
  rw[HY.out,HV.out]
  go_wp2_with fail
  go_ret
  exact⟨rfl,HBV.out⟩
 subst hty
 by_cases hd16:dep≤16
 case neg=>
  have e:R=false:=by rw[←HRD.out,decide_eq_false (fun h=>hd16 h.2)];rfl
  subst e
  have hd2:16<dep:=by omega
  clear HRD HIH
  go_enter Tryz.func56,Tryz.ntmps56
  go_upto_region 2 with fail
  rw[HY.out,HV.out]
  go_wp2_with fail
  go_ret
  exact⟨rfl,HBV.out⟩
 obtain⟨q,hq⟩:∃ q:Nat,xtype=(q:Int):=⟨xtype.toNat,by omega⟩
 subst hq
 have hqn:q<nm:=by omega
 obtain⟨m,hm⟩:∃ m,ms[q]? = some m:=⟨_,List.getElem?_eq_getElem (by have:=HNM.out;omega)⟩
 have HRB:Hid ((allB (atB fl (fun k y=>decide (prevF fl k<y.1)&&fldP (recP ms dep f) m.fields y)) fl.length&&noneOf (knownP m.fields) xs)=R):=by
  refine(?_:_=_)
  rw[←HRD.out,decide_eq_true ⟨rfl,hd16⟩]
  simp only[Int.toNat_natCast,hm,Bool.true_and]
  rfl
 have hmm:=List.mem_of_getElem? hm
 obtain⟨g,oo,c0,ka,kc,hsl,hg,e0,e1,hrow⟩:=HeldN.at HHM.out (W:=V) (fun b hb=>HBV.out.block b hb) hm
 rw[HNM.out]at hsl
 obtain⟨rfl,rfl⟩:=slice_two hsl
 obtain⟨hml,hmt⟩:=HOK.out m hmm
 obtain⟨mname,mfs⟩:=m
 dsimp only at hrow e0 e1 hml hmt HRB
 obtain⟨nf,hnf⟩:∃ n,mfs.length=n:=⟨_,rfl⟩
 have HNF:=hQz hnf
 rw[hnf]at hrow e1 hml
 have HROW:=hQz hrow
 have HMT:=hQz hmt
 have s0:=cell_at HCV.out 0 rfl
 have hq0:(0:Int)≤(q:Int):=by omega
 have hq1:(q:Int)<(nm:Int):=by omega
 have hd17:¬(16:Int)<dep:=by omega
 clear hsl hrow hnf hm hmm hmt HRD hqn ht0 ht1
 go_enter Tryz.func56,Tryz.ntmps56
 go_upto_region 2 with fail
 rw[HY.out,HV.out]
 have hC:(V.alloc (.cells #[.string (mkB mname),.slice ka nf kc] 54)).heap[V.heap.size]? = some (.cells #[.string (mkB mname),.slice ka nf kc] 54 (0,0)):=alloc_heap_new _ _
 have hCb:Below V.heap.size V (V.alloc (.cells #[.string (mkB mname),.slice ka nf kc] 54)):=(Below.refl _ V).alloc (Nat.le_refl _) _
 go_upto_region 6 with fail
 generalize (V.alloc (.cells #[.string (mkB mname),.slice ka nf kc] 54))=X at *
 have HBX:=hQz (HBV.out.trans (hCb.mono (by omega)))
 have HX:=hQz hC
 have hXs:V.heap.size+1≤X.heap.size:=by have:=(Array.getElem?_eq_some_iff.1 hC).1;omega
 have HCX:Hid (X.heap[w.heap.size]? = _):=(hCb.block _ (by omega)).trans HCV.out
 have HDX:Hid (X.heap[w.heap.size+1]? = _):=(hCb.block _ (by omega)).trans HDV.out
 have HRX:Hid (RowsIn X (fun b=>b<w.heap.size) 5 fdrow (.slice ka nf kc) mfs):=RowsIn.old HROW.out fun b hb=>hCb.block b (by omega)
 have m1:=cell_at HDX.out 1 rfl
 clear hC hCb m0 s0 e0 e1 HCV HDV HROW
 go_wp2_with fail
 clear m1
 go_loopw [12,40] (fun l i wr=>∃ (k:Nat),i=.int .i64 (k:Int)∧l=.int .i64 (prevF fl k)∧k≤n∧allB (atB fl (fun k y=>decide (prevF fl k<y.1)&&fldP (recP ms dep f) mfs y)) k=true∧Below X.heap.size X wr) (fun _ i _=>n - (intOf i).toNat)
 case atStart=>exact⟨0,rfl,rfl,Nat.zero_le _,rfl,Below.refl _ _⟩
 case round=>
  generalize wr=w1 at *
  obtain⟨k,rfl,rfl,hkl,hall,hbel⟩:=hrel
  have HA:=hQz hall
  have hBw1:=HBX.out.trans (hbel.mono HBX.out.size)
  have HBE:=hQz hbel
  have HBw:=hQz hBw1
  have hws:=hbel.size
  have hx1:=(hbel.block _ (by omega)).trans HX.out
  have HX1:=hQz hx1
  by_cases hkn:k<n
  ·obtain⟨y,hy⟩:∃ y,fl[k]? = some y:=⟨_,List.getElem?_eq_getElem (by have:=HN.out;omega)⟩
   obtain⟨f',gg,go,gc,va,vc,hf',hsl,hgg,e0,e1,hvals⟩:=HeldG.at HHG.out (W:=w1) (fun b hb=>hBw1.block b hb) hy
   subst hf'
   rw[HN.out]at hsl
   obtain⟨rfl,rfl⟩:=slice_two hsl
   have HKB:Hid (atB fl (fun k y=>decide (prevF fl k<y.1)&&fldP (recP ms dep (f'+1)) mfs y) k=(decide (prevF fl k<y.1)&&fldP (recP ms dep (f'+1)) mfs y)):=atB_some hy
   have HPS:Hid (prevF fl (k+1)=y.1):=prevF_step hy
   obtain⟨hfl1,hfl2⟩:=HFIT.out.2.2 y (List.mem_of_getElem? hy)
   have hrow1:RowsIn w1 (fun b=>b<w1.heap.size) 5 fdrow (.slice ka nf kc) mfs:=(RowsIn.old HRX.out fun b hb=>hbel.block b (by have hb':b<w.heap.size:=hb;have:=HBX.out.size;omega)).more fun b hb=>by have hb':b<w.heap.size:=hb;have:=hBw1.size;omega
   obtain⟨ynum,ys⟩:=y
   dsimp only at hvals e0 e1 HKB HPS hfl1 hfl2
   obtain⟨mv,hmv⟩:∃ n,ys.length=n:=⟨_,rfl⟩
   have HMV:=hQz hmv
   rw[hmv]at e1 hvals hfl1
   have HFL2:=hQz hfl2
   have HVA:=hQz hvals
   have hn1:n≤10000:=by have h1:=HFIT.out.2.1;have h2:=HN.out;dsimp only at h1;omega
   have hk0:(0:Int)≤(k:Int):=by omega
   have hk1:(k:Int)<(n:Int):=by omega
   have hwq:=wQz k (by omega)
   have HROW1:=hQz hrow1
   obtain⟨p,hp⟩:∃ p,prevF fl k=p:=⟨_,rfl⟩
   rw[hp]at HKB ⊢
   clear hsl hy hgg hvals hmv hfl2 hbel hall hBw1 hx1 hrow1 hp
   have hC:(w1.alloc (.cells #[.int .i64 ynum,.slice va mv vc] 79)).heap[w1.heap.size]? = some (.cells #[.int .i64 ynum,.slice va mv vc] 79 (0,0)):=alloc_heap_new _ _
   have hCb:Below w1.heap.size w1 (w1.alloc (.cells #[.int .i64 ynum,.slice va mv vc] 79)):=(Below.refl _ w1).alloc (Nat.le_refl _) _
   go_upto_region 9 with fail
   generalize (w1.alloc (.cells #[.int .i64 ynum,.slice va mv vc] 79))=Z at *
   have hBZ:=HBw.out.trans (hCb.mono HBw.out.size)
   have HBZ:=hQz hBZ
   have HBZ1:=hQz (HBE.out.trans (hCb.mono hws))
   have HZ:=hQz hC
   have hZs:w1.heap.size+1≤Z.heap.size:=by have:=(Array.getElem?_eq_some_iff.1 hC).1;omega
   have z0:=cell_at hC 0 rfl
   by_cases hpn:p<ynum
   case neg=>
    have hpn2:ynum≤p:=by omega
    have e:R=false:=by
     rw[←HRB.out,allB_no (j:=k) (by rw[HKB.out,decide_eq_false hpn];rfl) (by have:=HN.out;omega)];rfl
    subst e
    clear HKB HIH hC hCb e0 e1
    go_wp2_with fail
    go_ret
    exact⟨rfl,HBZ.out⟩
   have hpn2:¬ynum≤p:=by omega
   rw[decide_eq_true hpn,Bool.true_and]at HKB
   have hcZ:=((HBE.out.trans (hCb.mono hws)).block _ (by omega)).trans HCX.out
   have hxZ:=(hCb.block _ (by omega)).trans HX1.out
   have s0:=cell_at hcZ 0 rfl
   have s1:=cell_at hcZ 1 rfl
   have s2:=cell_at hcZ 2 rfl
   have d0:=cell_at hxZ 0 rfl
   have d1:=cell_at hxZ 1 rfl
   have z1:=cell_at hC 1 rfl
   have h:=fldP_any (some ⟨g,oo,none⟩) ea ta nm ne nt mc ec tc mname ka nf kc mfs ynum va mv vc ys (recP ms dep (f'+1)) f' dep Z (tabs_below HT.out hBZ) (by omega) HNF.out hml ((RowsIn.old HROW1.out fun b hb=>hCb.block b hb).more fun b hb=>by have hb':b<w1.heap.size:=hb;omega) HMV.out (by omega) (ValsG.mv (fun b hb=>hBZ.block b hb) (fun b hb=>by have hb':b<w.heap.size:=hb;have:=hBZ.size;omega) HVA.out) (fun y hy=>(HFL2.out y hy).s)
    (fun x v y W hx hx10 hy hW hv=>HIH.out f' (by omega) x.type (dep+1) v y W (tabs_below HT.out (hBZ.trans (hW.mono hBZ.size))) (by omega) (HMT.out x hx hx10).1 (by have:=(HMT.out x hx hx10).2;rw[HNM.out]at this;exact this) ((HeldN.old HHM.out fun b hb=>(hBZ.trans (hW.mono hBZ.size)).block b hb).more fun b hb=>by have hb':b<w.heap.size:=hb;have:=(hBZ.trans (hW.mono hBZ.size)).size;omega) (HFL2.out y hy) hv)
   obtain⟨B,hB⟩:∃ B,fldP (recP ms dep (f'+1)) mfs (ynum,ys)=B:=⟨_,rfl⟩
   rw[hB]at h HKB
   clear hC hCb hcZ hxZ hBZ hB hpn e0 e1
   go_wp2_with fail
   refine h.mono ?_
   rintro e W2 ⟨rfl,hb2⟩
   have HB2:=hQz (HBZ.out.trans (hb2.mono HBZ.out.size))
   have HBR:=hQz (HBZ1.out.trans (hb2.mono HBZ1.out.size))
   have z0:W2.cell? ⟨w1.heap.size,0,none⟩=some (.int .i64 ynum):=cell_at ((hb2.block _ (by omega)).trans HZ.out) 0 rfl
   clear hb2 h s0 s1 s2 d0 d1 z1
   cases B
   case false=>
    have e:R=false:=by
     rw[←HRB.out,allB_no (j:=k) HKB.out (by have:=HN.out;omega)];rfl
    subst e
    clear HKB HIH
    go_wp2_with fail
    go_ret
    exact⟨rfl,HB2.out⟩
   case true=>
    rw[←HPS.out]at z0
    obtain⟨p2,hp2⟩:∃ p,prevF fl (k+1)=p:=⟨_,rfl⟩
    have HP2:=hQz hp2
    rw[hp2]at z0
    clear hp2
    go_wp2_with fail
    go_roundw
    case rel=>exact⟨k+1,by go_num,by rw[HP2.out],by omega,allB_step HA.out HKB.out,HBR.out⟩
    case measure=>simp[intOf];omega
  ·have hkn':¬(k:Int)<(n:Int):=by omega
   have HRE:Hid (noneOf (knownP mfs) xs=R):=by
    refine(?_:_=_)
    have hkk:fl.length=k:=by have:=HN.out;omega
    rw[←HRB.out,hkk,HA.out,Bool.true_and]
   have hrow1:RowsIn w1 (fun b=>b<w1.heap.size) 5 fdrow (.slice ka nf kc) mfs:=(RowsIn.old HRX.out fun b hb=>hbel.block b (by have hb':b<w.heap.size:=hb;have:=HBX.out.size;omega)).more fun b hb=>by have hb':b<w.heap.size:=hb;have:=hBw1.size;omega
   have h:=noneP_any mname ka nf kc mfs xs w1 HNF.out hml hxs hrow1
   rw[HRE.out]at h
   have hd1:=(hbel.block _ (by omega)).trans HDX.out
   have d0:=cell_at hx1 0 rfl
   have d1:=cell_at hx1 1 rfl
   have m2:=cell_at hd1 2 rfl
   clear hrow1 hbel hall hBw1 hx1 hd1 HIH HRB
   go_wp2_with fail
   refine h.mono ?_
   rintro e W2 ⟨rfl,hb2⟩
   have HB2:=hQz (HBw.out.trans (hb2.mono HBw.out.size))
   clear hb2 h d0 d1 m2
   go_wp2_with fail
   go_ret
   exact⟨rfl,HB2.out⟩
end Go.Proofs.YteajlfgbmefncaaGreatDoor
