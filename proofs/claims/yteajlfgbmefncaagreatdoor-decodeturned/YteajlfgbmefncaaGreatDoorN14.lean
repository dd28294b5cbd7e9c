/-
  Walks and plain words (FoR).
-/
import Derived.Test.YteajlfgbmefncaaGreatDoorN1
import Derived.Test.YteajlfgbmefncaaGreatDoorN6
import Derived.Test.YteajlfgbmefncaaGreatDoorN13
import Derived.Test.YteajlfgbmefncaaGreatDoorN12
import Derived.BigQuiet
import Derived.OrdersHeld
import Derived.Deep.RegionHeld
import Derived.Deep.RegionHeldLaw
import Derived.Deep.Cut
import Derived.Deep.DeepCutAuto
import Derived.Lib.SlicesS
namespace Go.Proofs.YteajlfgbmefncaaGreatDoor
set_option linter.unusedVariables false
open Go.ChangeShapes Go.WideShapes Go.ChangeAt Go.RowKit

theorem mkBR_beq {a b:List UInt8} (h:¬a=b):((mkB a).toList == (mkB b).toList)=false:=(Lib.bytes_beq_false_iff _ _).2 (fun e=>h (by simpa [mkB]using e))
theorem mem_take {α β:Type} {l:List α} {f:α→β} {k j:Nat} {x:α} (hj:j<k) (hx:l[j]? = some x):f x∈(l.take k).map f:=
 List.mem_map.2 ⟨x,List.mem_of_getElem? (show (l.take k)[j]? = some x by rw[List.getElem?_take,if_pos hj];exact hx),rfl⟩
theorem not_take {α β:Type} {l:List α} {f:α→β} {k:Nat} {b:β} (h:∀ (j:Nat) (x:α),j<k→l[j]? = some x→¬f x=b):b∉(l.take k).map f:=fun hm=>by
 obtain⟨x,hx,he⟩:=List.mem_map.1 hm
 obtain⟨j,hj⟩:=List.getElem?_of_mem hx
 have hjk:=(List.getElem?_eq_some_iff.1 hj).1
 rw[List.length_take]at hjk
 rw[List.getElem?_take,if_pos (by omega)]at hj
 exact h j x (by omega) hj he
theorem allR_next {α:Type} {P:α→Prop} {l:List α} {k:Nat} {y:α} (h:∀ (j:Nat) (x:α),j<k→l[j]? = some x→P x) (hy:l[k]? = some y) (hp:P y):∀ (j:Nat) (x:α),j<k+1→l[j]? = some x→P x:=fun j x hj hx=>by
 by_cases hjk:j=k
 ·subst hjk;rw[hy]at hx;cases hx;exact hp
 ·exact h j x (by omega) hx
theorem fnR_any (n:Int) (w:World):Calls Tryz.prog 61 #[.int .i64 n] w fun e w'=>e=.returned (.bool (fnOK n))∧w'=w:=by
 obtain⟨R,hR⟩:∃ r,fnOK n=r:=⟨_,rfl⟩
 have HR:=hQz hR
 rw[hR]
 clear hR
 by_cases h1:(1:Int)≤n
 ·by_cases h2:n≤536870911
  ·by_cases h3:n<19000
   ·have HT:Hid (R=true):=by
     refine(?_:_=_)
     rw[←HR.out];unfold fnOK;simp;omega
    go_enter Tryz.func61,Tryz.ntmps61
    go_wp2_with fail
    go_ret
    exact⟨by rw[HT.out];rfl,rfl⟩
   ·by_cases h4:19999<n
    ·have HT:Hid (R=true):=by
      refine(?_:_=_)
      rw[←HR.out];unfold fnOK;simp;omega
     go_enter Tryz.func61,Tryz.ntmps61
     go_wp2_with fail
     go_ret
     exact⟨by rw[HT.out];rfl,rfl⟩
    ·have HT:Hid (R=false):=by
      refine(?_:_=_)
      rw[←HR.out];unfold fnOK;simp;omega
     go_enter Tryz.func61,Tryz.ntmps61
     go_wp2_with fail
     go_ret
     exact⟨by rw[HT.out];rfl,rfl⟩
  ·have HT:Hid (R=false):=by
    refine(?_:_=_)
    rw[←HR.out];unfold fnOK;simp;omega
   go_enter Tryz.func61,Tryz.ntmps61
   go_wp2_with fail
   go_ret
   exact⟨by rw[HT.out];rfl,rfl⟩
 ·have HT:Hid (R=false):=by
   refine(?_:_=_)
   rw[←HR.out];unfold fnOK;simp;omega
  go_enter Tryz.func61,Tryz.ntmps61
  go_wp2_with fail
  go_ret
  exact⟨by rw[HT.out];rfl,rfl⟩
set_option maxHeartbeats 16000000 in
set_option maxRecDepth 20000 in
theorem enumR_any (e:ED) (ka:Option Addr) (kc:Nat) (w:World) (hT:Tabs w) (hf:e.values.length≤100000∧∀ v∈e.values,v.name.length≤100000) (hH:RowsIn w (fun b=>b<w.heap.size) 2 vdrow (.slice ka e.values.length kc) e.values) :
  Calls Tryz.prog 35 #[.agg #[.string (mkB e.name),.slice ka e.values.length kc]] w fun e1 w'=>e1=.returned (.bool (zeroV e.values&&formV e.values))∧Below w.heap.size w w':=by
 obtain⟨Y,hY,hC,hb,hYs⟩:=box_new w #[.string (mkB e.name),.slice ka e.values.length kc] 60
 generalize e.values=vs at *
 have HH:=hQz hH
 have HF:=hQz hf.2
 have hn0:=hf.1
 obtain⟨R,hR⟩:∃ r,formV vs=r:=⟨_,rfl⟩
 have hRT:allB (atB vs (goodV vs)) vs.length=R:=hR
 obtain⟨n,hn⟩:∃ n,vs.length=n:=⟨_,rfl⟩
 have HN:=hQz hn
 obtain⟨ZR,hZR⟩:∃ b,(zeroV vs&&R)=b:=⟨_,rfl⟩
 have HZ:=hQz hZR
 rw[hR,hZR]
 rw[hn]at hn0 hRT hY hC HH ⊢
 have HRT:=hQz hRT
 have HY:=hQz hY
 have HYB:=hQz hb
 have HC:=hQz hC
 have l1:=cell_at hC 1 rfl
 have HTW:=hQz hT
 clear hH hf hn hR hRT hY hb hC hT hZR
 go_enter Tryz.func35,Tryz.ntmps35
 go_upto_region 1 with fail
 rw[HY.out]
 go_wp2_with fail
 clear l1
 go_loopw [9] (fun i wr=>∃ k:Nat,i=.int .i64 (k:Int)∧k≤n∧allB (atB vs (goodV vs)) k=true∧Below w.heap.size w wr∧wr.heap[w.heap.size]? = some (.cells #[.string (mkB e.name),.slice ka n kc] 60 (0,0))) (fun i _=>n - (intOf i).toNat)
 case atStart=>exact⟨0,rfl,Nat.zero_le _,rfl,HYB.out,HC.out⟩
 case round=>
  generalize wr=w1 at *
  obtain⟨k,rfl,hk,hall,hbel,hbx⟩:=hrel
  have hsw:=hbel.size
  have hlt:=blk_lt hbx
  have l1:=cell_at hbx 1 rfl
  have HALL:=hQz hall
  have HB:=hQz hbel
  have HX:=hQz hbx
  clear hall hbel hbx HYB HC
  by_cases hkn:k<n
  ·obtain⟨y,hy⟩:∃ y,vs[k]? = some y:=⟨_,List.getElem?_eq_getElem (by have:=HN.out;omega)⟩
   obtain⟨g,o,c0,hsl,hg,e0,e1⟩:=vd_at HH.out (W:=w1) (fun b hb=>HB.out.block b hb) hy
   rw[HN.out]at hsl
   obtain⟨rfl,rfl⟩:=slice_two hsl
   have hnl:=HF.out y (List.mem_of_getElem? hy)
   have HG:Hid (atB vs (goodV vs) k=(numOK y.num&&(!decide (y.num∈numsV vs k)&&(plainL y.name&&!decide (y.name∈namesV vs k))))):=atB_some hy
   have HNO:Hid (atB vs (goodV vs) k=false→ZR=false):=fun h=>by rw[←HZ.out,←HRT.out,allB_no h (by omega),Bool.and_false]
   have hk0:(0:Int)≤(k:Int):=by omega
   have hk1:(k:Int)<(n:Int):=by omega
   have hwk:=wQz k (by omega)
   obtain⟨U,hU,hC,hCb,hUs⟩:=box_new w1 #[.string (mkB y.name),.int .i64 y.num] 62
   have HU:=hQz hU
   clear hsl hy hU
   go_upto_region 5 with fail
   rw[HU.out]
   have l0:=cell_at hC 0 rfl
   have HBU:=hQz (HB.out.trans (hCb.mono hsw))
   have HUC:=hQz hC
   have HUX:=hQz ((hCb.block _ hlt).trans HX.out)
   have hpl:=plainQ_any y.name U (tabs_below HTW.out HBU.out) (by omega)
   clear hC hCb e0 e1 l1
   generalize hP:plainL y.name=P at *
   clear hP
   go_wp2_with fail
   refine hpl.mono ?_
   rintro e2 U1 ⟨rfl,hb1⟩
   have HB1:=hQz (HBU.out.trans (hb1.mono HBU.out.size))
   have h1c:=(hb1.block _ (by omega)).trans HUC.out
   have h1x:=(hb1.block _ (by omega)).trans HUX.out
   have HU1C:=hQz h1c
   have HU1X:=hQz h1x
   have hs1:=hb1.size
   have q1:=cell_at h1c 1 rfl
   clear hpl hb1 l0 h1c h1x
   cases P
   case false=>
    go_wp2_with fail
    go_ret
    exact⟨retB (HNO.out (by rw[HG.out];simp)).symm,HB1.out⟩
   by_cases h0:0≤y.num
   case neg=>
    have h0':y.num<0:=by omega
    go_wp2_with fail
    go_ret
    exact⟨retB (HNO.out (by rw[HG.out];unfold numOK;rw[decide_eq_false (by omega)];rfl)).symm,HB1.out⟩
   by_cases h1:y.num≤2147483647
   case neg=>
    have h0':¬y.num<0:=by omega
    have h1':2147483647<y.num:=by omega
    go_wp2_with fail
    go_ret
    exact⟨retB (HNO.out (by rw[HG.out];unfold numOK;rw[decide_eq_false (by omega)];rfl)).symm,HB1.out⟩
   have h0':¬y.num<0:=by omega
   have h1':¬2147483647<y.num:=by omega
   have hnum:numOK y.num=true:=by unfold numOK;exact decide_eq_true (by omega)
   rw[hnum]at HG
   have HB2:=hQz (Below.refl U1.heap.size U1)
   clear hnum
   go_wp2_with fail
   clear q1 h0 h1 h0' h1'
   go_loopw [32] (fun i wr=>∃ j:Nat,i=.int .i64 (j:Int)∧j≤k∧(∀ (q:Nat) (x:VD),q<j→vs[q]? = some x→¬x.name=y.name∧¬x.num=y.num)∧Below U1.heap.size U1 wr) (fun i _=>k - (intOf i).toNat)
   case atStart=>exact⟨0,rfl,Nat.zero_le _,fun q x hq=>absurd hq (Nat.not_lt_zero _),HB2.out⟩
   case round=>
    obtain⟨j,rfl,hj,hall,hbel⟩:=hrel
    have HA2:=hQz hall
    have HBJ:=hQz (HB1.out.trans (hbel.mono HB1.out.size))
    have hjc:=(hbel.block _ (by omega)).trans HU1C.out
    have hjx:=(hbel.block _ (by omega)).trans HU1X.out
    have HB3:=hQz hbel
    have l0:=cell_at hjc 0 rfl
    have l1:=cell_at hjc 1 rfl
    have m1:=cell_at hjx 1 rfl
    have HJX:=hQz hjx
    clear hall hbel hjc hjx HB2
    have hj0:(0:Int)≤(j:Int):=by omega
    have hwj:=wQz j (by omega)
    by_cases hjk:j<k
    ·obtain⟨x,hx⟩:∃ x,vs[j]? = some x:=⟨_,List.getElem?_eq_getElem (by have:=HN.out;omega)⟩
     obtain⟨g2,o2,c2,hsl,hg2,f0,f1⟩:=vd_at HH.out (W:=wr) (fun b hb=>HBJ.out.block b hb) hx
     rw[HN.out]at hsl
     obtain⟨ha2,hc2⟩:=slice_two hsl
     injection ha2 with ha2
     injection ha2 with ha2 hb2
     subst ha2 hb2
     have hj1:(j:Int)<(k:Int):=by omega
     have hj2:(j:Int)<(n:Int):=by omega
     have HM1:Hid (x.name=y.name→y.name∈namesV vs k):=fun h=>h▸mem_take (f:=VD.name) hjk hx
     have HM2:Hid (x.num=y.num→y.num∈numsV vs k):=fun h=>h▸mem_take (f:=VD.num) hjk hx
     have HNX:Hid (¬x.name=y.name→¬x.num=y.num→∀ (q:Nat) (z:VD),q<j+1→vs[q]? = some z→¬z.name=y.name∧¬z.num=y.num):=fun a b=>allR_next HA2.out hx ⟨a,b⟩
     have HTQ:Hid (∀ nq:Nat,Below U1.heap.size U1 (wr.drewN nq)):=fun nq=>HB3.out.trans ⟨rfl,rfl,rfl,Nat.le_refl _,fun _ _=>rfl⟩
     clear hsl hx hc2
     by_cases t0:x.name=y.name
     ·have hm:=HM1.out t0
      rw[t0]at f0
      clear t0 HM1 HM2 HNX
      go_wp2_with fail
      go_quiet (fail)
      go_wp2_with fail
      go_ret
      exact⟨retB (HNO.out (by rw[HG.out];simp[hm])).symm,HB1.out.trans ((HTQ.out _).mono HB1.out.size)⟩
     have t0':=mkBR_beq t0
     have t0'':=beq_eq_false_iff_ne.2 t0
     have HT0:=hQz t0
     by_cases t1:x.num=y.num
     ·have hm:=HM2.out t1
      rw[t1]at f1
      clear t1 HM1 HM2 HNX
      go_wp2_with fail
      go_quiet (fail)
      go_wp2_with fail
      go_ret
      exact⟨retB (HNO.out (by rw[HG.out];simp[hm])).symm,HB1.out.trans ((HTQ.out _).mono HB1.out.size)⟩
     have t1':=beq_eq_false_iff_ne.2 t1
     have HTE:=hQz (HNX.out t0 t1)
     clear HM1 HM2 HNX
     go_wp2_with fail
     go_quiet (fail)
     go_wp2_with fail
     go_roundw
     case rel=>exact⟨j+1,by go_num,by omega,HTE.out,HTQ.out _⟩
     case measure=>simp[intOf];omega
    ·have hjk':¬(j:Int)<(k:Int):=by omega
     have hje:j=k:=by omega
     have hn1:y.name∉namesV vs k:=not_take (f:=VD.name) fun q x hq hx=>(HA2.out q x (by omega) hx).1
     have hn2:y.num∉numsV vs k:=not_take (f:=VD.num) fun q x hq hx=>(HA2.out q x (by omega) hx).2
     have HOK:Hid (atB vs (goodV vs) k=true):=by
      refine(?_:_=_)
      rw[HG.out,decide_eq_false hn1,decide_eq_false hn2];rfl
     clear hje hn1 hn2 l0 l1 m1
     go_wp2_with fail
     go_roundw
     case rel=>exact⟨k+1,by go_num,by omega,allB_step HALL.out HOK.out,HBJ.out,HJX.out⟩
     case measure=>simp[intOf];omega
  ·have hkn':¬(k:Int)<(n:Int):=by omega
   have HRR:Hid (R=true):=by
    refine(?_:_=_)
    have h:=HALL.out
    have hke:k=n:=by omega
    rw[hke]at h
    rw[←HRT.out];exact h
   by_cases h0:n=0
   ·have hz:zeroV vs=false:=by
     have h1:vs=[]:=List.length_eq_zero_iff.1 (by rw[HN.out];exact h0)
     rw[h1];rfl
    have h0':¬(0:Int)<(n:Int):=by omega
    have hzz:ZR=false:=by rw[←HZ.out,hz];rfl
    go_wp2_with fail
    go_ret
    exact⟨retB rfl,HB.out⟩
   ·obtain⟨v0,hv0⟩:∃ v,vs[0]? = some v:=⟨_,List.getElem?_eq_getElem (by have:=HN.out;omega)⟩
    obtain⟨g2,o2,c2,hsl,hg2,f0,f1⟩:=vd_at HH.out (W:=w1) (fun b hb=>HB.out.block b hb) hv0
    rw[HN.out]at hsl
    obtain⟨rfl,rfl⟩:=slice_two hsl
    rw[Nat.zero_mul,Nat.add_zero]at f1
    have hz:zeroV vs=decide (v0.num=0):=by unfold zeroV;rw[hv0]
    have h0p:(0:Int)<(n:Int):=by omega
    have HZZ:Hid (ZR=decide (v0.num=0)):=by
     refine(?_:_=_)
     rw[←HZ.out,hz,HRR.out,Bool.and_true]
    clear hsl hv0 hz f0
    generalize v0.num=z at *
    by_cases hz0:z=0
    ·subst hz0
     go_wp2_with fail
     go_ret
     exact⟨retB (by rw[HZZ.out];rfl),HB.out⟩
    ·have hz1:=beq_eq_false_iff_ne.2 hz0
     have hz2:=decide_eq_false hz0
     go_wp2_with fail
     go_ret
     exact⟨retB (by rw[HZZ.out,hz2]),HB.out⟩
section
variable {P:Program} {ops:Array Oper} {Q:Exit→Act→World→Prop} {md:Region.Mode} {S:World→Prop}
theorem T_on (i:Nat) (v:Value) {oi:Oper} {fuel:Nat} {l:Array Bool} {a:Act} {w:World} (hi:ops[i]? = some oi) (hb:(Region.noSelect ops&&Region.free md ops l i&&(Region.ready md ops l).contains i&&Region.wanted oi (yielded ops a.tmps))=true)
  (hQ:∀ c a w,Q (.panic c) (a.put oi.dst v) w→Q (.panic c) a w) (hS:S w) (hy:∀ w,S w→(execOp a.eval oi).run P w=.ok (.value v) w)
  (h:wpAnyH P md ops Q S fuel (l.setIfInBounds i true) (a.put oi.dst v) w):wpAnyH P md ops Q S (fuel+1) l a w:=by
 simp only[Bool.and_eq_true]at hb
 exact wpAnyH_take hi hb.1.1.1 hb.1.1.2 hb.1.2 hQ (.inl ⟨hb.2,hy⟩) hS h
theorem T_off (i:Nat) {oi:Oper} {fuel:Nat} {l:Array Bool} {a:Act} {w:World} (hi:ops[i]? = some oi) (hb:(Region.noSelect ops&&Region.free md ops l i&&(Region.ready md ops l).contains i&&!Region.wanted oi (yielded ops a.tmps))=true)
  (hQ:∀ c a w,Q (.panic c) (a.put oi.dst undef) w→Q (.panic c) a w) (hS:S w)
  (h:wpAnyH P md ops Q S fuel (l.setIfInBounds i true) (a.put oi.dst undef) w):wpAnyH P md ops Q S (fuel+1) l a w:=by
 simp only[Bool.and_eq_true]at hb
 exact wpAnyH_take hi hb.1.1.1 hb.1.1.2 hb.1.2 hQ (.inr ⟨by simpa using hb.2,rfl⟩) hS h
theorem T_call (i:Nat) {oi:Oper} {fuel:Nat} {l:Array Bool} {a:Act} {w:World} (hr:Region.ready md ops l=[i]) (hi:ops[i]? = some oi)
  (h:∀ K':Act→World→Prop,Shut (∀ a w,S w→(S w→wpAnyH P md ops Q S fuel (l.setIfInBounds i true) a w)→K' a w)→if Region.wanted oi (yielded ops a.tmps)=true then Oper.wp P oi a w K' Q else K' (a.put oi.dst undef) w):wpAnyH P md ops Q S (fuel+1) l a w:=
 wpAnyH_ready hr (by simp) (AllReadyH.cons hi h AllReadyH.nil)
end
theorem typB_lo {ne nm:Nat} {f:FD} (h:f.kind<1∨10<f.kind):typB ne nm f=false:=by
 unfold typB
 rw[if_neg (by omega),if_neg (by omega)]
 exact decide_eq_false (by omega)
def mostB (ne nm:Nat) (kd:Int):Int:=if kd=9 then (ne:Int) else if kd=10 then (nm:Int) else 1
theorem typB_most {ne nm:Nat} {f:FD} (h1:1≤f.kind) (h2:f.kind≤10):typB ne nm f=decide (0≤f.type∧f.type<mostB ne nm f.kind):=by
 unfold typB mostB
 by_cases h9:f.kind=9
 ·rw[if_pos h9,if_pos h9]
 ·rw[if_neg h9,if_neg h9]
  by_cases h10:f.kind=10
  ·rw[if_pos h10,if_pos h10]
  ·rw[if_neg h10,if_neg h10,decide_eq_decide]
   omega
def RegAns (U:World) (A B:Prop) (v:Value) (wx:World):Prop:=∃ b:Bool,v=.bool b∧Below U.heap.size U wx∧(b=true→A)∧(b=false→B)
theorem prevN_zero {fs:List FD} {k:Nat} (h:k=0):prevN fs k=0:=by subst h;rfl
set_option maxHeartbeats 64000000 in
set_option maxRecDepth 20000 in
theorem messageR_any (ma ea ta:Option Addr) (nm ne nt mc ec tc:Nat) (m:MD) (ka:Option Addr) (kc:Nat) (w:World) (hT:Tabs w) (hf:m.fields.length≤100000∧∀ v∈m.fields,v.name.length≤100000) (hH:RowsIn w (fun b=>b<w.heap.size) 5 fdrow (.slice ka m.fields.length kc) m.fields) :
  Calls Tryz.prog 34 #[.agg #[.slice ma nm mc,.slice ea ne ec,.slice ta nt tc],.agg #[.string (mkB m.name),.slice ka m.fields.length kc]] w fun e1 w'=>e1=.returned (.bool (decide (m.fields.length≤32)&&formF ne nm m.fields))∧Below w.heap.size w w':=by
 obtain⟨Y,hY,hC,hb,hYs⟩:=box_new w #[.slice ma nm mc,.slice ea ne ec,.slice ta nt tc] 26
 obtain⟨V,hV,hD,hVb,hVs⟩:=box_new Y #[.string (mkB m.name),.slice ka m.fields.length kc] 54
 generalize m.fields=fs at *
 have HH:=hQz hH
 have HF:=hQz hf.2
 have hn0:=hf.1
 obtain⟨R,hR⟩:∃ r,(decide (fs.length≤32)&&formF ne nm fs)=r:=⟨_,rfl⟩
 rw[hR]
 have hRT:(decide (fs.length≤32)&&allB (atB fs (goodF ne nm fs)) fs.length)=R:=hR
 obtain⟨n,hn⟩:∃ n,fs.length=n:=⟨_,rfl⟩
 have HN:=hQz hn
 rw[hn]at hn0 hRT hV hD HH ⊢
 have HRT:=hQz hRT
 have HY:=hQz hY
 have HV:=hQz hV
 have HVB:=hQz (hb.trans (hVb.mono hb.size))
 rw[hYs]at hD hVb hVs
 have HC:=hQz ((hVb.block _ (by omega)).trans hC)
 have HD:=hQz hD
 have l1:=cell_at hD 1 rfl
 have HTW:=hQz hT
 clear hH hf hn hR hRT hY hV hb hVb hC hD hT hYs hVs
 go_enter Tryz.func34,Tryz.ntmps34
 go_upto_region 1 with fail
 rw[HY.out,HV.out]
 by_cases h32:n≤32
 case neg=>
  have h32':32<(n:Int):=by omega
  go_wp2_with fail
  go_ret
  exact⟨retB (by rw[←HRT.out,decide_eq_false (by omega)];rfl),HVB.out⟩
 have h32':¬32<(n:Int):=by omega
 go_wp2_with fail
 clear l1
 go_loopw [16] (fun i wr=>∃ k:Nat,i=.int .i64 (k:Int)∧k≤n∧allB (atB fs (goodF ne nm fs)) k=true∧Below w.heap.size w wr∧wr.heap[w.heap.size]? = some (.cells #[.slice ma nm mc,.slice ea ne ec,.slice ta nt tc] 26 (0,0))∧wr.heap[w.heap.size+1]? = some (.cells #[.string (mkB m.name),.slice ka n kc] 54 (0,0))) (fun i _=>n - (intOf i).toNat)
 case atStart=>exact⟨0,rfl,Nat.zero_le _,rfl,HVB.out,HC.out,HD.out⟩
 case round=>
  generalize wr=w1 at *
  obtain⟨k,rfl,hk,hall,hbel,hsc,hbx⟩:=hrel
  have hsw:=hbel.size
  have hlt:=blk_lt hbx
  have l1:=cell_at hbx 1 rfl
  have HALL:=hQz hall
  have HB:=hQz hbel
  have HS:=hQz hsc
  have HX:=hQz hbx
  clear hall hbel hsc hbx HVB HC HD
  by_cases hkn:k<n
  ·obtain⟨y,hy⟩:∃ y,fs[k]? = some y:=⟨_,List.getElem?_eq_getElem (by have:=HN.out;omega)⟩
   obtain⟨g,o,c0,hsl,hg,e0,e1,e2,e3,e4⟩:=fd_at HH.out (W:=w1) (fun b hb=>HB.out.block b hb) hy
   rw[HN.out]at hsl
   obtain⟨rfl,rfl⟩:=slice_two hsl
   have hnl:=HF.out y (List.mem_of_getElem? hy)
   obtain⟨p,hp⟩:∃ p,prevN fs k=p:=⟨_,rfl⟩
   have HG:Hid (atB fs (goodF ne nm fs) k=(decide (p<y.num)&&(fnOK y.num&&(plainL y.name&&(!decide (y.name∈namesF fs k)&&typB ne nm y))))):=by
    refine(?_:_=_)
    rw[atB_some hy,←hp];rfl
   have HNO:Hid (atB fs (goodF ne nm fs) k=false→R=false):=fun h=>by rw[←HRT.out,allB_no h (by omega),Bool.and_false]
   have hk0:(0:Int)≤(k:Int):=by omega
   have hk1:(k:Int)<(n:Int):=by omega
   have hwk:=wQz k (by omega)
   obtain⟨U,hU,hC,hCb,hUs⟩:=box_new w1 #[.int .i64 y.num,.string (mkB y.name),.int .i64 y.kind,.bool y.rep,.int .i64 y.type] 51
   have HU:=hQz hU
   have HBU:=hQz (HB.out.trans (hCb.mono hsw))
   have HUC:=hQz hC
   have HUS:=hQz ((hCb.block _ (by omega)).trans HS.out)
   have hUx:=(hCb.block _ (by omega)).trans HX.out
   have HUX:=hQz hUx
   have HPZ:Hid (k=0→fnOK y.num=true→decide (p<y.num)=true):=fun h0 h1=>by
    rw[←hp,prevN_zero h0]
    unfold fnOK at h1
    have h2:=of_decide_eq_true h1
    exact decide_eq_true (by omega)
   have HPP:Hid (∀ kp,k=kp+1→(∀ W,Below U.heap.size U W→W.cell? ⟨g,o+kp*5,none⟩=some (.int .i64 p))∧True):=fun kp hkp=>by
    obtain⟨z,hz⟩:∃ z,fs[kp]? = some z:=⟨_,List.getElem?_eq_getElem (by have:=HN.out;omega)⟩
    have hpz:p=z.num:=by rw[←hp,hkp,prevN_step hz]
    refine⟨fun W hW=>?_,trivial⟩
    have hWw:=HBU.out.trans (hW.mono HBU.out.size)
    obtain⟨g2,o2,c2,hsl2,hg2,f0,-,-,-,-⟩:=fd_at HH.out (W:=W) (fun b hb=>hWw.block b hb) hz
    rw[HN.out]at hsl2
    obtain⟨ha2,hc2⟩:=slice_two hsl2
    injection ha2 with ha2
    injection ha2 with ha2 hb2
    subst ha2 hb2
    rw[hpz];exact f0
   have b0:∀ W,Below U.heap.size U W→W.cell? ⟨w1.heap.size,0,none⟩=some (.int .i64 y.num):=fun W hW=>(hW.cell (by simp;omega)).trans (cell_at hC 0 rfl)
   have b1:∀ W,Below U.heap.size U W→W.cell? ⟨w1.heap.size,1,none⟩=some (.string (mkB y.name)):=fun W hW=>(hW.cell (by simp;omega)).trans (cell_at hC 1 rfl)
   have b2:∀ W,Below U.heap.size U W→W.cell? ⟨w1.heap.size,2,none⟩=some (.int .i64 y.kind):=fun W hW=>(hW.cell (by simp;omega)).trans (cell_at hC 2 rfl)
   have bm:∀ W,Below U.heap.size U W→W.cell? ⟨w.heap.size+1,1,none⟩=some (.slice (some ⟨g,o,none⟩) n kc):=fun W hW=>(hW.cell (by simp;omega)).trans (cell_at hUx 1 rfl)
   have hS0:Below U.heap.size U U.drew:=(Below.refl _ _).drew
   have hfc:=fun W=>fnR_any y.num W
   have hpl:∀ W,Below U.heap.size U W→Calls Tryz.prog 36 #[.string (mkB y.name)] W fun e w'=>e=.returned (.bool (plainL y.name))∧Below U.heap.size U w':=fun W hW=>(plainQ_any y.name W (tabs_below HTW.out (HBU.out.trans (hW.mono HBU.out.size))) (by omega)).mono fun e w' ⟨h1,h2⟩=>⟨h1,hW.trans (h2.mono hW.size)⟩
   clear hsl hy hU hC hCb hUx hp
   go_upto_region 7 with fail
   rw[HU.out]
   clear e0 e1 e2 e3 e4 l1
   obtain⟨FN,hFN⟩:∃ b,fnOK y.num=b:=⟨_,rfl⟩
   obtain⟨PL,hPL⟩:∃ b,plainL y.name=b:=⟨_,rfl⟩
   rw[hFN,hPL]at HG
   simp only[hFN]at hfc HPZ
   simp only[hPL]at hpl
   clear hFN hPL
   go_cut [59] (fun v wx=>RegAns U (atB fs (goodF ne nm fs) k=false) ((decide (p<y.num)=true∧FN=true∧PL=true)∧1≤y.kind∧y.kind≤10) v wx)
   case first=>
    cases hFn:FN
    case false=>
     rw[hFn]at hfc HG
     refine wp_region_held_drew (S:=fun W=>Below U.heap.size U W) (by kernel_rfl) hS0 (fun _=>?_)
     refine T_on 0 (.pointer (some ⟨w1.heap.size,0,none⟩)) rfl (by kernel_rfl) (fun _ _ _ h=>h) hS0 (fun W hW=>by go_simp) ?_
     refine T_on 1 (.int .i64 y.num) rfl (by kernel_rfl) (fun _ _ _ h=>h) hS0 (fun W hW=>by have c:=b0 W hW;go_simp) ?_
     refine T_call 2 (by kernel_rfl) rfl (fun K hK=>?_)
     go_simp
     refine(hfc _).mono ?_
     rintro e u1 ⟨rfl,hu1⟩
     have hu1:=hu1.symm
     subst hu1
     dsimp only
     refine hK.out _ _ hS0 (fun _=>?_)
     clear hK K
     refine T_on 3 (.bool true) rfl (by kernel_rfl) (fun _ _ _ h=>h) hS0 (fun W hW=>by go_simp) ?_
     refine T_on 4 (.bool true) rfl (by kernel_rfl) (fun _ _ _ h=>h) hS0 (fun W hW=>by go_simp) ?_
     refine T_off 5 rfl (by kernel_rfl) (fun _ _ _ h=>h) hS0 ?_
     refine T_off 6 rfl (by kernel_rfl) (fun _ _ _ h=>h) hS0 ?_
     refine T_off 7 rfl (by kernel_rfl) (fun _ _ _ h=>h) hS0 ?_
     refine T_off 8 rfl (by kernel_rfl) (fun _ _ _ h=>h) hS0 ?_
     refine T_off 9 rfl (by kernel_rfl) (fun _ _ _ h=>h) hS0 ?_
     refine T_off 10 rfl (by kernel_rfl) (fun _ _ _ h=>h) hS0 ?_
     refine T_off 11 rfl (by kernel_rfl) (fun _ _ _ h=>h) hS0 ?_
     refine T_off 12 rfl (by kernel_rfl) (fun _ _ _ h=>h) hS0 ?_
     refine T_off 13 rfl (by kernel_rfl) (fun _ _ _ h=>h) hS0 ?_
     refine T_off 14 rfl (by kernel_rfl) (fun _ _ _ h=>h) hS0 ?_
     refine T_off 15 rfl (by kernel_rfl) (fun _ _ _ h=>h) hS0 ?_
     refine T_off 16 rfl (by kernel_rfl) (fun _ _ _ h=>h) hS0 ?_
     refine T_off 17 rfl (by kernel_rfl) (fun _ _ _ h=>h) hS0 ?_
     refine T_off 18 rfl (by kernel_rfl) (fun _ _ _ h=>h) hS0 ?_
     refine T_on 19 (.bool true) rfl (by kernel_rfl) (fun _ _ _ h=>h) hS0 (fun W hW=>by go_simp) ?_
     refine T_on 20 (.bool true) rfl (by kernel_rfl) (fun _ _ _ h=>h) hS0 (fun W hW=>by go_simp) ?_
     refine T_off 21 rfl (by kernel_rfl) (fun _ _ _ h=>h) hS0 ?_
     refine T_off 22 rfl (by kernel_rfl) (fun _ _ _ h=>h) hS0 ?_
     refine T_off 23 rfl (by kernel_rfl) (fun _ _ _ h=>h) hS0 ?_
     refine T_off 24 rfl (by kernel_rfl) (fun _ _ _ h=>h) hS0 ?_
     refine T_on 25 (.bool true) rfl (by kernel_rfl) (fun _ _ _ h=>h) hS0 (fun W hW=>by go_simp) ?_
     refine T_on 26 (.bool true) rfl (by kernel_rfl) (fun _ _ _ h=>h) hS0 (fun W hW=>by go_simp) ?_
     refine T_off 27 rfl (by kernel_rfl) (fun _ _ _ h=>h) hS0 ?_
     refine T_off 28 rfl (by kernel_rfl) (fun _ _ _ h=>h) hS0 ?_
     refine T_off 29 rfl (by kernel_rfl) (fun _ _ _ h=>h) hS0 ?_
     refine T_on 30 (.bool true) rfl (by kernel_rfl) (fun _ _ _ h=>h) hS0 (fun W hW=>by go_simp) ?_
     refine T_on 31 (.bool true) rfl (by kernel_rfl) (fun _ _ _ h=>h) hS0 (fun W hW=>by go_simp) ?_
     refine T_off 32 rfl (by kernel_rfl) (fun _ _ _ h=>h) hS0 ?_
     refine T_off 33 rfl (by kernel_rfl) (fun _ _ _ h=>h) hS0 ?_
     refine T_off 34 rfl (by kernel_rfl) (fun _ _ _ h=>h) hS0 ?_
     refine T_on 35 (.bool true) rfl (by kernel_rfl) (fun _ _ _ h=>h) hS0 (fun W hW=>by go_simp) ?_
     refine wpAnyH_done (by kernel_rfl) ?_ _
     go_wp2_with fail
     go_meet
     exact⟨true,rfl,hS0,(fun _=>by rw[HG.out];simp),(fun h=>by cases h)⟩
    case true=>
     rw[hFn]at hfc HG
     by_cases hkz:k=0
     ·have hk00:¬(0:Int)<(k:Int):=by omega
      have HP0:Hid (decide (p<y.num)=true):=HPZ.out hkz hFn
      have HKZ:=hQz hkz
      clear hkz
      refine wp_region_held_drew (S:=fun W=>Below U.heap.size U W) (by kernel_rfl) hS0 (fun _=>?_)
      refine T_on 0 (.pointer (some ⟨w1.heap.size,0,none⟩)) rfl (by kernel_rfl) (fun _ _ _ h=>h) hS0 (fun W hW=>by go_simp) ?_
      refine T_on 1 (.int .i64 y.num) rfl (by kernel_rfl) (fun _ _ _ h=>h) hS0 (fun W hW=>by have c:=b0 W hW;go_simp) ?_
      refine T_call 2 (by kernel_rfl) rfl (fun K hK=>?_)
      go_simp
      refine(hfc _).mono ?_
      rintro e u1 ⟨rfl,hu1⟩
      have hu1:=hu1.symm
      subst hu1
      dsimp only
      refine hK.out _ _ hS0 (fun _=>?_)
      clear hK K
      refine T_on 3 (.bool false) rfl (by kernel_rfl) (fun _ _ _ h=>h) hS0 (fun W hW=>by go_simp) ?_
      refine T_on 4 (.bool false) rfl (by kernel_rfl) (fun _ _ _ h=>h) hS0 (fun W hW=>by go_simp) ?_
      refine T_on 5 (.int .i64 (k:Int)) rfl (by kernel_rfl) (fun _ _ _ h=>h) hS0 (fun W hW=>by go_simp) ?_
      refine T_on 6 (.bool false) rfl (by kernel_rfl) (fun _ _ _ h=>h) hS0 (fun W hW=>by go_simp;try (first | omega | (have:=HKZ.out;omega))) ?_
      refine T_on 7 (.bool false) rfl (by kernel_rfl) (fun _ _ _ h=>h) hS0 (fun W hW=>by go_simp) ?_
      refine T_off 8 rfl (by kernel_rfl) (fun _ _ _ h=>h) hS0 ?_
      refine T_off 9 rfl (by kernel_rfl) (fun _ _ _ h=>h) hS0 ?_
      refine T_off 10 rfl (by kernel_rfl) (fun _ _ _ h=>h) hS0 ?_
      refine T_off 11 rfl (by kernel_rfl) (fun _ _ _ h=>h) hS0 ?_
      refine T_off 12 rfl (by kernel_rfl) (fun _ _ _ h=>h) hS0 ?_
      refine T_off 13 rfl (by kernel_rfl) (fun _ _ _ h=>h) hS0 ?_
      refine T_off 14 rfl (by kernel_rfl) (fun _ _ _ h=>h) hS0 ?_
      refine T_off 15 rfl (by kernel_rfl) (fun _ _ _ h=>h) hS0 ?_
      refine T_off 16 rfl (by kernel_rfl) (fun _ _ _ h=>h) hS0 ?_
      refine T_off 17 rfl (by kernel_rfl) (fun _ _ _ h=>h) hS0 ?_
      refine T_on 18 (.bool false) rfl (by kernel_rfl) (fun _ _ _ h=>h) hS0 (fun W hW=>by go_simp) ?_
      refine T_on 19 (.bool false) rfl (by kernel_rfl) (fun _ _ _ h=>h) hS0 (fun W hW=>by go_simp) ?_
      refine T_on 20 (.bool false) rfl (by kernel_rfl) (fun _ _ _ h=>h) hS0 (fun W hW=>by go_simp) ?_
      refine T_on 21 (.pointer (some ⟨w1.heap.size,1,none⟩)) rfl (by kernel_rfl) (fun _ _ _ h=>h) hS0 (fun W hW=>by go_simp) ?_
      refine T_on 22 (.string (mkB y.name)) rfl (by kernel_rfl) (fun _ _ _ h=>h) hS0 (fun W hW=>by have c:=b1 W hW;go_simp) ?_
      refine T_call 23 (by kernel_rfl) rfl (fun K hK=>?_)
      go_simp
      refine(hpl _ hS0).mono ?_
      rintro e U1 ⟨rfl,hb1⟩
      have hS0:Below U.heap.size U U1:=hb1
      clear hb1
      dsimp only
      refine hK.out _ _ hS0 (fun _=>?_)
      clear hK K
      cases PL
      case false=>
       refine T_on 24 (.bool true) rfl (by kernel_rfl) (fun _ _ _ h=>h) hS0 (fun W hW=>by go_simp) ?_
       refine T_on 25 (.bool true) rfl (by kernel_rfl) (fun _ _ _ h=>h) hS0 (fun W hW=>by go_simp) ?_
       refine T_on 26 (.bool true) rfl (by kernel_rfl) (fun _ _ _ h=>h) hS0 (fun W hW=>by go_simp) ?_
       refine T_off 27 rfl (by kernel_rfl) (fun _ _ _ h=>h) hS0 ?_
       refine T_off 28 rfl (by kernel_rfl) (fun _ _ _ h=>h) hS0 ?_
       refine T_off 29 rfl (by kernel_rfl) (fun _ _ _ h=>h) hS0 ?_
       refine T_on 30 (.bool true) rfl (by kernel_rfl) (fun _ _ _ h=>h) hS0 (fun W hW=>by go_simp) ?_
       refine T_on 31 (.bool true) rfl (by kernel_rfl) (fun _ _ _ h=>h) hS0 (fun W hW=>by go_simp) ?_
       refine T_off 32 rfl (by kernel_rfl) (fun _ _ _ h=>h) hS0 ?_
       refine T_off 33 rfl (by kernel_rfl) (fun _ _ _ h=>h) hS0 ?_
       refine T_off 34 rfl (by kernel_rfl) (fun _ _ _ h=>h) hS0 ?_
       refine T_on 35 (.bool true) rfl (by kernel_rfl) (fun _ _ _ h=>h) hS0 (fun W hW=>by go_simp) ?_
       refine wpAnyH_done (by kernel_rfl) ?_ _
       go_wp2_with fail
       go_meet
       exact⟨true,rfl,hS0,(fun _=>by rw[HG.out];simp),(fun h=>by cases h)⟩
      case true=>
       refine T_on 24 (.bool false) rfl (by kernel_rfl) (fun _ _ _ h=>h) hS0 (fun W hW=>by go_simp) ?_
       refine T_on 25 (.bool false) rfl (by kernel_rfl) (fun _ _ _ h=>h) hS0 (fun W hW=>by go_simp) ?_
       refine T_on 26 (.bool false) rfl (by kernel_rfl) (fun _ _ _ h=>h) hS0 (fun W hW=>by go_simp) ?_
       refine T_on 27 (.pointer (some ⟨w1.heap.size,2,none⟩)) rfl (by kernel_rfl) (fun _ _ _ h=>h) hS0 (fun W hW=>by go_simp) ?_
       refine T_on 28 (.int .i64 y.kind) rfl (by kernel_rfl) (fun _ _ _ h=>h) hS0 (fun W hW=>by have c:=b2 W hW;go_simp) ?_
       by_cases hk1:y.kind<1
       ·refine T_on 29 (.bool true) rfl (by kernel_rfl) (fun _ _ _ h=>h) hS0 (fun W hW=>by go_simp;try omega) ?_
        refine T_on 30 (.bool true) rfl (by kernel_rfl) (fun _ _ _ h=>h) hS0 (fun W hW=>by go_simp) ?_
        refine T_on 31 (.bool true) rfl (by kernel_rfl) (fun _ _ _ h=>h) hS0 (fun W hW=>by go_simp) ?_
        refine T_off 32 rfl (by kernel_rfl) (fun _ _ _ h=>h) hS0 ?_
        refine T_off 33 rfl (by kernel_rfl) (fun _ _ _ h=>h) hS0 ?_
        refine T_off 34 rfl (by kernel_rfl) (fun _ _ _ h=>h) hS0 ?_
        refine T_on 35 (.bool true) rfl (by kernel_rfl) (fun _ _ _ h=>h) hS0 (fun W hW=>by go_simp) ?_
        refine wpAnyH_done (by kernel_rfl) ?_ _
        go_wp2_with fail
        go_meet
        exact⟨true,rfl,hS0,(fun _=>by rw[HG.out,typB_lo (.inl hk1)];simp),(fun h=>by cases h)⟩
       have hk1n:¬y.kind<1:=hk1
       refine T_on 29 (.bool false) rfl (by kernel_rfl) (fun _ _ _ h=>h) hS0 (fun W hW=>by go_simp;try omega) ?_
       refine T_on 30 (.bool false) rfl (by kernel_rfl) (fun _ _ _ h=>h) hS0 (fun W hW=>by go_simp) ?_
       refine T_on 31 (.bool false) rfl (by kernel_rfl) (fun _ _ _ h=>h) hS0 (fun W hW=>by go_simp) ?_
       refine T_on 32 (.pointer (some ⟨w1.heap.size,2,none⟩)) rfl (by kernel_rfl) (fun _ _ _ h=>h) hS0 (fun W hW=>by go_simp) ?_
       refine T_on 33 (.int .i64 y.kind) rfl (by kernel_rfl) (fun _ _ _ h=>h) hS0 (fun W hW=>by have c:=b2 W hW;go_simp) ?_
       by_cases hk2:10<y.kind
       ·refine T_on 34 (.bool true) rfl (by kernel_rfl) (fun _ _ _ h=>h) hS0 (fun W hW=>by go_simp;try omega) ?_
        refine T_on 35 (.bool true) rfl (by kernel_rfl) (fun _ _ _ h=>h) hS0 (fun W hW=>by go_simp) ?_
        refine wpAnyH_done (by kernel_rfl) ?_ _
        go_wp2_with fail
        go_meet
        exact⟨true,rfl,hS0,(fun _=>by rw[HG.out,typB_lo (.inr hk2)];simp),(fun h=>by cases h)⟩
       have hk2n:¬10<y.kind:=hk2
       refine T_on 34 (.bool false) rfl (by kernel_rfl) (fun _ _ _ h=>h) hS0 (fun W hW=>by go_simp;try omega) ?_
       refine T_on 35 (.bool false) rfl (by kernel_rfl) (fun _ _ _ h=>h) hS0 (fun W hW=>by go_simp) ?_
       refine wpAnyH_done (by kernel_rfl) ?_ _
       go_wp2_with fail
       go_meet
       exact⟨false,rfl,hS0,(fun h=>by cases h),(fun _=>⟨⟨HP0.out,hFn,trivial⟩,by omega,by omega⟩)⟩
     ·obtain⟨kp,hkp⟩:∃ kp,k=kp+1:=⟨k - 1,by omega⟩
      have hk00:(0:Int)<(k:Int):=by omega
      have hwk1:IntKind.i64.wrap ((k:Int) - 1)=(kp:Int):=by rw[IntKind.wrap_i64];omega
      have hkp0:(0:Int)≤(kp:Int):=by omega
      have hkp1:(kp:Int)<(n:Int):=by omega
      obtain⟨bz,hpz⟩:=HPP.out kp hkp
      clear hkz hkp
      by_cases hpn:p<y.num
      case neg=>
       have hpn':y.num≤p:=by omega
       refine wp_region_held_drew (S:=fun W=>Below U.heap.size U W) (by kernel_rfl) hS0 (fun _=>?_)
       refine T_on 0 (.pointer (some ⟨w1.heap.size,0,none⟩)) rfl (by kernel_rfl) (fun _ _ _ h=>h) hS0 (fun W hW=>by go_simp) ?_
       refine T_on 1 (.int .i64 y.num) rfl (by kernel_rfl) (fun _ _ _ h=>h) hS0 (fun W hW=>by have c:=b0 W hW;go_simp) ?_
       refine T_call 2 (by kernel_rfl) rfl (fun K hK=>?_)
       go_simp
       refine(hfc _).mono ?_
       rintro e u1 ⟨rfl,hu1⟩
       have hu1:=hu1.symm
       subst hu1
       dsimp only
       refine hK.out _ _ hS0 (fun _=>?_)
       clear hK K
       refine T_on 3 (.bool false) rfl (by kernel_rfl) (fun _ _ _ h=>h) hS0 (fun W hW=>by go_simp) ?_
       refine T_on 4 (.bool false) rfl (by kernel_rfl) (fun _ _ _ h=>h) hS0 (fun W hW=>by go_simp) ?_
       refine T_on 5 (.int .i64 (k:Int)) rfl (by kernel_rfl) (fun _ _ _ h=>h) hS0 (fun W hW=>by go_simp) ?_
       refine T_on 6 (.bool true) rfl (by kernel_rfl) (fun _ _ _ h=>h) hS0 (fun W hW=>by go_simp;try (first | omega | (have:=HKZ.out;omega))) ?_
       refine T_on 7 (.bool true) rfl (by kernel_rfl) (fun _ _ _ h=>h) hS0 (fun W hW=>by go_simp) ?_
       refine T_on 8 (.pointer (some ⟨w.heap.size+1,1,none⟩)) rfl (by kernel_rfl) (fun _ _ _ h=>h) hS0 (fun W hW=>by go_simp) ?_
       refine T_on 9 (.slice (some ⟨g,o,none⟩) n kc) rfl (by kernel_rfl) (fun _ _ _ h=>h) hS0 (fun W hW=>by have c:=bm W hW;go_simp) ?_
       refine T_on 10 (.int .i64 (k:Int)) rfl (by kernel_rfl) (fun _ _ _ h=>h) hS0 (fun W hW=>by go_simp) ?_
       refine T_on 11 (.int .i64 (kp:Int)) rfl (by kernel_rfl) (fun _ _ _ h=>h) hS0 (fun W hW=>by go_simp) ?_
       refine T_on 12 (.pointer (some ⟨g,o+kp*5,none⟩)) rfl (by kernel_rfl) (fun _ _ _ h=>h) hS0 (fun W hW=>by go_simp) ?_
       refine T_on 13 (.pointer (some ⟨g,o+kp*5,none⟩)) rfl (by kernel_rfl) (fun _ _ _ h=>h) hS0 (fun W hW=>by go_simp) ?_
       refine T_on 14 (.int .i64 p) rfl (by kernel_rfl) (fun _ _ _ h=>h) hS0 (fun W hW=>by have c:=bz W hW;go_simp) ?_
       refine T_on 15 (.pointer (some ⟨w1.heap.size,0,none⟩)) rfl (by kernel_rfl) (fun _ _ _ h=>h) hS0 (fun W hW=>by go_simp) ?_
       refine T_on 16 (.int .i64 y.num) rfl (by kernel_rfl) (fun _ _ _ h=>h) hS0 (fun W hW=>by have c:=b0 W hW;go_simp) ?_
       refine T_on 17 (.bool true) rfl (by kernel_rfl) (fun _ _ _ h=>h) hS0 (fun W hW=>by go_simp;try omega) ?_
       refine T_on 18 (.bool true) rfl (by kernel_rfl) (fun _ _ _ h=>h) hS0 (fun W hW=>by go_simp) ?_
       refine T_on 19 (.bool true) rfl (by kernel_rfl) (fun _ _ _ h=>h) hS0 (fun W hW=>by go_simp) ?_
       refine T_on 20 (.bool true) rfl (by kernel_rfl) (fun _ _ _ h=>h) hS0 (fun W hW=>by go_simp) ?_
       refine T_off 21 rfl (by kernel_rfl) (fun _ _ _ h=>h) hS0 ?_
       refine T_off 22 rfl (by kernel_rfl) (fun _ _ _ h=>h) hS0 ?_
       refine T_off 23 rfl (by kernel_rfl) (fun _ _ _ h=>h) hS0 ?_
       refine T_off 24 rfl (by kernel_rfl) (fun _ _ _ h=>h) hS0 ?_
       refine T_on 25 (.bool true) rfl (by kernel_rfl) (fun _ _ _ h=>h) hS0 (fun W hW=>by go_simp) ?_
       refine T_on 26 (.bool true) rfl (by kernel_rfl) (fun _ _ _ h=>h) hS0 (fun W hW=>by go_simp) ?_
       refine T_off 27 rfl (by kernel_rfl) (fun _ _ _ h=>h) hS0 ?_
       refine T_off 28 rfl (by kernel_rfl) (fun _ _ _ h=>h) hS0 ?_
       refine T_off 29 rfl (by kernel_rfl) (fun _ _ _ h=>h) hS0 ?_
       refine T_on 30 (.bool true) rfl (by kernel_rfl) (fun _ _ _ h=>h) hS0 (fun W hW=>by go_simp) ?_
       refine T_on 31 (.bool true) rfl (by kernel_rfl) (fun _ _ _ h=>h) hS0 (fun W hW=>by go_simp) ?_
       refine T_off 32 rfl (by kernel_rfl) (fun _ _ _ h=>h) hS0 ?_
       refine T_off 33 rfl (by kernel_rfl) (fun _ _ _ h=>h) hS0 ?_
       refine T_off 34 rfl (by kernel_rfl) (fun _ _ _ h=>h) hS0 ?_
       refine T_on 35 (.bool true) rfl (by kernel_rfl) (fun _ _ _ h=>h) hS0 (fun W hW=>by go_simp) ?_
       refine wpAnyH_done (by kernel_rfl) ?_ _
       go_wp2_with fail
       go_meet
       exact⟨true,rfl,hS0,(fun _=>by rw[HG.out,decide_eq_false (by omega)];rfl),(fun h=>by cases h)⟩
      have hpn':¬y.num≤p:=by omega
      have HP0:Hid (decide (p<y.num)=true):=decide_eq_true hpn
      refine wp_region_held_drew (S:=fun W=>Below U.heap.size U W) (by kernel_rfl) hS0 (fun _=>?_)
      refine T_on 0 (.pointer (some ⟨w1.heap.size,0,none⟩)) rfl (by kernel_rfl) (fun _ _ _ h=>h) hS0 (fun W hW=>by go_simp) ?_
      refine T_on 1 (.int .i64 y.num) rfl (by kernel_rfl) (fun _ _ _ h=>h) hS0 (fun W hW=>by have c:=b0 W hW;go_simp) ?_
      refine T_call 2 (by kernel_rfl) rfl (fun K hK=>?_)
      go_simp
      refine(hfc _).mono ?_
      rintro e u1 ⟨rfl,hu1⟩
      have hu1:=hu1.symm
      subst hu1
      dsimp only
      refine hK.out _ _ hS0 (fun _=>?_)
      clear hK K
      refine T_on 3 (.bool false) rfl (by kernel_rfl) (fun _ _ _ h=>h) hS0 (fun W hW=>by go_simp) ?_
      refine T_on 4 (.bool false) rfl (by kernel_rfl) (fun _ _ _ h=>h) hS0 (fun W hW=>by go_simp) ?_
      refine T_on 5 (.int .i64 (k:Int)) rfl (by kernel_rfl) (fun _ _ _ h=>h) hS0 (fun W hW=>by go_simp) ?_
      refine T_on 6 (.bool true) rfl (by kernel_rfl) (fun _ _ _ h=>h) hS0 (fun W hW=>by go_simp;try (first | omega | (have:=HKZ.out;omega))) ?_
      refine T_on 7 (.bool true) rfl (by kernel_rfl) (fun _ _ _ h=>h) hS0 (fun W hW=>by go_simp) ?_
      refine T_on 8 (.pointer (some ⟨w.heap.size+1,1,none⟩)) rfl (by kernel_rfl) (fun _ _ _ h=>h) hS0 (fun W hW=>by go_simp) ?_
      refine T_on 9 (.slice (some ⟨g,o,none⟩) n kc) rfl (by kernel_rfl) (fun _ _ _ h=>h) hS0 (fun W hW=>by have c:=bm W hW;go_simp) ?_
      refine T_on 10 (.int .i64 (k:Int)) rfl (by kernel_rfl) (fun _ _ _ h=>h) hS0 (fun W hW=>by go_simp) ?_
      refine T_on 11 (.int .i64 (kp:Int)) rfl (by kernel_rfl) (fun _ _ _ h=>h) hS0 (fun W hW=>by go_simp) ?_
      refine T_on 12 (.pointer (some ⟨g,o+kp*5,none⟩)) rfl (by kernel_rfl) (fun _ _ _ h=>h) hS0 (fun W hW=>by go_simp) ?_
      refine T_on 13 (.pointer (some ⟨g,o+kp*5,none⟩)) rfl (by kernel_rfl) (fun _ _ _ h=>h) hS0 (fun W hW=>by go_simp) ?_
      refine T_on 14 (.int .i64 p) rfl (by kernel_rfl) (fun _ _ _ h=>h) hS0 (fun W hW=>by have c:=bz W hW;go_simp) ?_
      refine T_on 15 (.pointer (some ⟨w1.heap.size,0,none⟩)) rfl (by kernel_rfl) (fun _ _ _ h=>h) hS0 (fun W hW=>by go_simp) ?_
      refine T_on 16 (.int .i64 y.num) rfl (by kernel_rfl) (fun _ _ _ h=>h) hS0 (fun W hW=>by have c:=b0 W hW;go_simp) ?_
      refine T_on 17 (.bool false) rfl (by kernel_rfl) (fun _ _ _ h=>h) hS0 (fun W hW=>by go_simp;try omega) ?_
      refine T_on 18 (.bool false) rfl (by kernel_rfl) (fun _ _ _ h=>h) hS0 (fun W hW=>by go_simp) ?_
      refine T_on 19 (.bool false) rfl (by kernel_rfl) (fun _ _ _ h=>h) hS0 (fun W hW=>by go_simp) ?_
      refine T_on 20 (.bool false) rfl (by kernel_rfl) (fun _ _ _ h=>h) hS0 (fun W hW=>by go_simp) ?_
      refine T_on 21 (.pointer (some ⟨w1.heap.size,1,none⟩)) rfl (by kernel_rfl) (fun _ _ _ h=>h) hS0 (fun W hW=>by go_simp) ?_
      refine T_on 22 (.string (mkB y.name)) rfl (by kernel_rfl) (fun _ _ _ h=>h) hS0 (fun W hW=>by have c:=b1 W hW;go_simp) ?_
      refine T_call 23 (by kernel_rfl) rfl (fun K hK=>?_)
      go_simp
      refine(hpl _ hS0).mono ?_
      rintro e U1 ⟨rfl,hb1⟩
      have hS0:Below U.heap.size U U1:=hb1
      clear hb1
      dsimp only
      refine hK.out _ _ hS0 (fun _=>?_)
      clear hK K
      cases PL
      case false=>
       refine T_on 24 (.bool true) rfl (by kernel_rfl) (fun _ _ _ h=>h) hS0 (fun W hW=>by go_simp) ?_
       refine T_on 25 (.bool true) rfl (by kernel_rfl) (fun _ _ _ h=>h) hS0 (fun W hW=>by go_simp) ?_
       refine T_on 26 (.bool true) rfl (by kernel_rfl) (fun _ _ _ h=>h) hS0 (fun W hW=>by go_simp) ?_
       refine T_off 27 rfl (by kernel_rfl) (fun _ _ _ h=>h) hS0 ?_
       refine T_off 28 rfl (by kernel_rfl) (fun _ _ _ h=>h) hS0 ?_
       refine T_off 29 rfl (by kernel_rfl) (fun _ _ _ h=>h) hS0 ?_
       refine T_on 30 (.bool true) rfl (by kernel_rfl) (fun _ _ _ h=>h) hS0 (fun W hW=>by go_simp) ?_
       refine T_on 31 (.bool true) rfl (by kernel_rfl) (fun _ _ _ h=>h) hS0 (fun W hW=>by go_simp) ?_
       refine T_off 32 rfl (by kernel_rfl) (fun _ _ _ h=>h) hS0 ?_
       refine T_off 33 rfl (by kernel_rfl) (fun _ _ _ h=>h) hS0 ?_
       refine T_off 34 rfl (by kernel_rfl) (fun _ _ _ h=>h) hS0 ?_
       refine T_on 35 (.bool true) rfl (by kernel_rfl) (fun _ _ _ h=>h) hS0 (fun W hW=>by go_simp) ?_
       refine wpAnyH_done (by kernel_rfl) ?_ _
       go_wp2_with fail
       go_meet
       exact⟨true,rfl,hS0,(fun _=>by rw[HG.out];simp),(fun h=>by cases h)⟩
      case true=>
       refine T_on 24 (.bool false) rfl (by kernel_rfl) (fun _ _ _ h=>h) hS0 (fun W hW=>by go_simp) ?_
       refine T_on 25 (.bool false) rfl (by kernel_rfl) (fun _ _ _ h=>h) hS0 (fun W hW=>by go_simp) ?_
       refine T_on 26 (.bool false) rfl (by kernel_rfl) (fun _ _ _ h=>h) hS0 (fun W hW=>by go_simp) ?_
       refine T_on 27 (.pointer (some ⟨w1.heap.size,2,none⟩)) rfl (by kernel_rfl) (fun _ _ _ h=>h) hS0 (fun W hW=>by go_simp) ?_
       refine T_on 28 (.int .i64 y.kind) rfl (by kernel_rfl) (fun _ _ _ h=>h) hS0 (fun W hW=>by have c:=b2 W hW;go_simp) ?_
       by_cases hk1:y.kind<1
       ·refine T_on 29 (.bool true) rfl (by kernel_rfl) (fun _ _ _ h=>h) hS0 (fun W hW=>by go_simp;try omega) ?_
        refine T_on 30 (.bool true) rfl (by kernel_rfl) (fun _ _ _ h=>h) hS0 (fun W hW=>by go_simp) ?_
        refine T_on 31 (.bool true) rfl (by kernel_rfl) (fun _ _ _ h=>h) hS0 (fun W hW=>by go_simp) ?_
        refine T_off 32 rfl (by kernel_rfl) (fun _ _ _ h=>h) hS0 ?_
        refine T_off 33 rfl (by kernel_rfl) (fun _ _ _ h=>h) hS0 ?_
        refine T_off 34 rfl (by kernel_rfl) (fun _ _ _ h=>h) hS0 ?_
        refine T_on 35 (.bool true) rfl (by kernel_rfl) (fun _ _ _ h=>h) hS0 (fun W hW=>by go_simp) ?_
        refine wpAnyH_done (by kernel_rfl) ?_ _
        go_wp2_with fail
        go_meet
        exact⟨true,rfl,hS0,(fun _=>by rw[HG.out,typB_lo (.inl hk1)];simp),(fun h=>by cases h)⟩
       have hk1n:¬y.kind<1:=hk1
       refine T_on 29 (.bool false) rfl (by kernel_rfl) (fun _ _ _ h=>h) hS0 (fun W hW=>by go_simp;try omega) ?_
       refine T_on 30 (.bool false) rfl (by kernel_rfl) (fun _ _ _ h=>h) hS0 (fun W hW=>by go_simp) ?_
       refine T_on 31 (.bool false) rfl (by kernel_rfl) (fun _ _ _ h=>h) hS0 (fun W hW=>by go_simp) ?_
       refine T_on 32 (.pointer (some ⟨w1.heap.size,2,none⟩)) rfl (by kernel_rfl) (fun _ _ _ h=>h) hS0 (fun W hW=>by go_simp) ?_
       refine T_on 33 (.int .i64 y.kind) rfl (by kernel_rfl) (fun _ _ _ h=>h) hS0 (fun W hW=>by have c:=b2 W hW;go_simp) ?_
       by_cases hk2:10<y.kind
       ·refine T_on 34 (.bool true) rfl (by kernel_rfl) (fun _ _ _ h=>h) hS0 (fun W hW=>by go_simp;try omega) ?_
        refine T_on 35 (.bool true) rfl (by kernel_rfl) (fun _ _ _ h=>h) hS0 (fun W hW=>by go_simp) ?_
        refine wpAnyH_done (by kernel_rfl) ?_ _
        go_wp2_with fail
        go_meet
        exact⟨true,rfl,hS0,(fun _=>by rw[HG.out,typB_lo (.inr hk2)];simp),(fun h=>by cases h)⟩
       have hk2n:¬10<y.kind:=hk2
       refine T_on 34 (.bool false) rfl (by kernel_rfl) (fun _ _ _ h=>h) hS0 (fun W hW=>by go_simp;try omega) ?_
       refine T_on 35 (.bool false) rfl (by kernel_rfl) (fun _ _ _ h=>h) hS0 (fun W hW=>by go_simp) ?_
       refine wpAnyH_done (by kernel_rfl) ?_ _
       go_wp2_with fail
       go_meet
       exact⟨false,rfl,hS0,(fun h=>by cases h),(fun _=>⟨⟨HP0.out,hFn,trivial⟩,by omega,by omega⟩)⟩
   case rest=>
    clear hfc hpl b0 b1 b2 bm
    obtain⟨b,rfl,hS0,hb1,hb2⟩:=hcut
    generalize wc=U1 at *
    have HB1:=hQz (HBU.out.trans (hS0.mono HBU.out.size))
    cases b
    case true=>
     have HNOX:=hQz (HNO.out (hb1 rfl))
     go_wp2_with fail
     go_ret
     exact⟨retB HNOX.out.symm,HB1.out⟩
    obtain⟨⟨q1,q2,q3⟩,hkd1,hkd2⟩:=hb2 rfl
    have h1c:=(hS0.block _ (by omega)).trans HUC.out
    have h1s:=(hS0.block _ (by omega)).trans HUS.out
    have h1x:=(hS0.block _ (by omega)).trans HUX.out
    have hs1:=hS0.size
    have HU1C:=hQz h1c
    have HU1S:=hQz h1s
    have HU1X:=hQz h1x
    have r2:=cell_at h1c 2 rfl
    have r4:=cell_at h1c 4 rfl
    have s0:=cell_at h1s 0 rfl
    have s1:=cell_at h1s 1 rfl
    rw[q1,q2,q3,typB_most hkd1 hkd2]at HG
    clear h1c h1s h1x hS0 hb1 hb2 q1 q2 q3 HPZ HPP HUC HUS HUX
    by_cases k9:y.kind=9
    ·rw[show mostB ne nm y.kind=(ne:Int)by unfold mostB;rw[if_pos k9]]at HG
     rw[k9]at r2
     clear k9 hkd1 hkd2
     by_cases c0:0≤y.type
     case neg=>
      have c0':y.type<0:=by omega
      go_wp2_with fail
      go_ret
      exact⟨retB (HNO.out (by rw[HG.out,decide_eq_false (show ¬(0≤y.type∧y.type<(ne:Int))by omega)];simp)).symm,HB1.out⟩
     have c0':¬y.type<0:=by omega
     by_cases c1:y.type<(ne:Int)
     case neg=>
      have c1':(ne:Int)≤y.type:=by omega
      go_wp2_with fail
      go_ret
      exact⟨retB (HNO.out (by rw[HG.out,decide_eq_false (show ¬(0≤y.type∧y.type<(ne:Int))by omega)];simp)).symm,HB1.out⟩
     have c1':¬(ne:Int)≤y.type:=by omega
     rw[decide_eq_true (⟨c0,c1⟩:0≤y.type∧y.type<(ne:Int))]at HG
     go_wp2_with fail
     clear r2 r4 s0 s1
     go_loopw [82] (fun i wr=>∃ j:Nat,i=.int .i64 (j:Int)∧j≤k∧(∀ (q:Nat) (x:FD),q<j→fs[q]? = some x→¬x.name=y.name)∧Below U1.heap.size U1 wr) (fun i _=>k - (intOf i).toNat)
     case atStart=>exact⟨0,rfl,Nat.zero_le _,fun q x hq=>absurd hq (Nat.not_lt_zero _),Below.refl _ _⟩
     case round=>
      obtain⟨j,rfl,hj,hall,hbel⟩:=hrel
      have HA2:=hQz hall
      have HBJ:=hQz (HB1.out.trans (hbel.mono HB1.out.size))
      have hjc:=(hbel.block _ (by omega)).trans HU1C.out
      have hjx:=(hbel.block _ (by omega)).trans HU1X.out
      have HJS:=hQz ((hbel.block _ (by omega)).trans HU1S.out)
      have HB3:=hQz hbel
      have l1:=cell_at hjc 1 rfl
      have m1:=cell_at hjx 1 rfl
      have HJX:=hQz hjx
      clear hall hbel hjc hjx
      have hj0:(0:Int)≤(j:Int):=by omega
      have hwj:=wQz j (by omega)
      by_cases hjk:j<k
      ·obtain⟨x,hx⟩:∃ x,fs[j]? = some x:=⟨_,List.getElem?_eq_getElem (by have:=HN.out;omega)⟩
       obtain⟨g2,o2,c2,hsl,hg2,f0,f1,-,-,-⟩:=fd_at HH.out (W:=wr) (fun b hb=>HBJ.out.block b hb) hx
       rw[HN.out]at hsl
       obtain⟨ha2,hc2⟩:=slice_two hsl
       injection ha2 with ha2
       injection ha2 with ha2 hb2
       subst ha2 hb2
       have hj1:(j:Int)<(k:Int):=by omega
       have hj2:(j:Int)<(n:Int):=by omega
       have HM1:Hid (x.name=y.name→y.name∈namesF fs k):=fun h=>h▸mem_take (f:=FD.name) hjk hx
       have HNX:Hid (¬x.name=y.name→∀ (q:Nat) (z:FD),q<j+1→fs[q]? = some z→¬z.name=y.name):=fun a=>allR_next HA2.out hx a
       have HTQ:Hid (∀ nq:Nat,Below U1.heap.size U1 (wr.drewN nq)):=fun nq=>HB3.out.trans ⟨rfl,rfl,rfl,Nat.le_refl _,fun _ _=>rfl⟩
       clear hsl hx hc2 f0
       by_cases t0:x.name=y.name
       ·have hm:=HM1.out t0
        rw[t0]at f1
        clear t0 HM1 HNX
        go_wp2_with fail
        go_quiet (fail)
        go_wp2_with fail
        go_ret
        exact⟨retB (HNO.out (by rw[HG.out];simp[hm])).symm,HB1.out.trans ((HTQ.out _).mono HB1.out.size)⟩
       have t0':=mkBR_beq t0
       have t0'':=beq_eq_false_iff_ne.2 t0
       have HTE:=hQz (HNX.out t0)
       clear HM1 HNX
       go_wp2_with fail
       go_quiet (fail)
       go_wp2_with fail
       go_roundw
       case rel=>exact⟨j+1,by go_num,by omega,HTE.out,HTQ.out _⟩
       case measure=>simp[intOf];omega
      ·have hjk':¬(j:Int)<(k:Int):=by omega
       have hn1:y.name∉namesF fs k:=not_take (f:=FD.name) fun q x hq hx=>HA2.out q x (by omega) hx
       have HOK:Hid (atB fs (goodF ne nm fs) k=true):=by
        refine(?_:_=_)
        rw[HG.out,decide_eq_false hn1];rfl
       clear hn1 l1 m1
       go_wp2_with fail
       go_roundw
       case rel=>exact⟨k+1,by go_num,by omega,allB_step HALL.out HOK.out,HBJ.out,HJS.out,HJX.out⟩
       case measure=>simp[intOf];omega
    by_cases k10:y.kind=10
    ·rw[show mostB ne nm y.kind=(nm:Int)by unfold mostB;rw[if_neg k9,if_pos k10]]at HG
     rw[k10]at r2
     clear k9 k10 hkd1 hkd2
     by_cases c0:0≤y.type
     case neg=>
      have c0':y.type<0:=by omega
      go_wp2_with fail
      go_ret
      exact⟨retB (HNO.out (by rw[HG.out,decide_eq_false (show ¬(0≤y.type∧y.type<(nm:Int))by omega)];simp)).symm,HB1.out⟩
     have c0':¬y.type<0:=by omega
     by_cases c1:y.type<(nm:Int)
     case neg=>
      have c1':(nm:Int)≤y.type:=by omega
      go_wp2_with fail
      go_ret
      exact⟨retB (HNO.out (by rw[HG.out,decide_eq_false (show ¬(0≤y.type∧y.type<(nm:Int))by omega)];simp)).symm,HB1.out⟩
     have c1':¬(nm:Int)≤y.type:=by omega
     rw[decide_eq_true (⟨c0,c1⟩:0≤y.type∧y.type<(nm:Int))]at HG
     go_wp2_with fail
     clear r2 r4 s0 s1
     go_loopw [82] (fun i wr=>∃ j:Nat,i=.int .i64 (j:Int)∧j≤k∧(∀ (q:Nat) (x:FD),q<j→fs[q]? = some x→¬x.name=y.name)∧Below U1.heap.size U1 wr) (fun i _=>k - (intOf i).toNat)
     case atStart=>exact⟨0,rfl,Nat.zero_le _,fun q x hq=>absurd hq (Nat.not_lt_zero _),Below.refl _ _⟩
     case round=>
      obtain⟨j,rfl,hj,hall,hbel⟩:=hrel
      have HA2:=hQz hall
      have HBJ:=hQz (HB1.out.trans (hbel.mono HB1.out.size))
      have hjc:=(hbel.block _ (by omega)).trans HU1C.out
      have hjx:=(hbel.block _ (by omega)).trans HU1X.out
      have HJS:=hQz ((hbel.block _ (by omega)).trans HU1S.out)
      have HB3:=hQz hbel
      have l1:=cell_at hjc 1 rfl
      have m1:=cell_at hjx 1 rfl
      have HJX:=hQz hjx
      clear hall hbel hjc hjx
      have hj0:(0:Int)≤(j:Int):=by omega
      have hwj:=wQz j (by omega)
      by_cases hjk:j<k
      ·obtain⟨x,hx⟩:∃ x,fs[j]? = some x:=⟨_,List.getElem?_eq_getElem (by have:=HN.out;omega)⟩
       obtain⟨g2,o2,c2,hsl,hg2,f0,f1,-,-,-⟩:=fd_at HH.out (W:=wr) (fun b hb=>HBJ.out.block b hb) hx
       rw[HN.out]at hsl
       obtain⟨ha2,hc2⟩:=slice_two hsl
       injection ha2 with ha2
       injection ha2 with ha2 hb2
       subst ha2 hb2
       have hj1:(j:Int)<(k:Int):=by omega
       have hj2:(j:Int)<(n:Int):=by omega
       have HM1:Hid (x.name=y.name→y.name∈namesF fs k):=fun h=>h▸mem_take (f:=FD.name) hjk hx
       have HNX:Hid (¬x.name=y.name→∀ (q:Nat) (z:FD),q<j+1→fs[q]? = some z→¬z.name=y.name):=fun a=>allR_next HA2.out hx a
       have HTQ:Hid (∀ nq:Nat,Below U1.heap.size U1 (wr.drewN nq)):=fun nq=>HB3.out.trans ⟨rfl,rfl,rfl,Nat.le_refl _,fun _ _=>rfl⟩
       clear hsl hx hc2 f0
       by_cases t0:x.name=y.name
       ·have hm:=HM1.out t0
        rw[t0]at f1
        clear t0 HM1 HNX
        go_wp2_with fail
        go_quiet (fail)
        go_wp2_with fail
        go_ret
        exact⟨retB (HNO.out (by rw[HG.out];simp[hm])).symm,HB1.out.trans ((HTQ.out _).mono HB1.out.size)⟩
       have t0':=mkBR_beq t0
       have t0'':=beq_eq_false_iff_ne.2 t0
       have HTE:=hQz (HNX.out t0)
       clear HM1 HNX
       go_wp2_with fail
       go_quiet (fail)
       go_wp2_with fail
       go_roundw
       case rel=>exact⟨j+1,by go_num,by omega,HTE.out,HTQ.out _⟩
       case measure=>simp[intOf];omega
      ·have hjk':¬(j:Int)<(k:Int):=by omega
       have hn1:y.name∉namesF fs k:=not_take (f:=FD.name) fun q x hq hx=>HA2.out q x (by omega) hx
       have HOK:Hid (atB fs (goodF ne nm fs) k=true):=by
        refine(?_:_=_)
        rw[HG.out,decide_eq_false hn1];rfl
       clear hn1 l1 m1
       go_wp2_with fail
       go_roundw
       case rel=>exact⟨k+1,by go_num,by omega,allB_step HALL.out HOK.out,HBJ.out,HJS.out,HJX.out⟩
       case measure=>simp[intOf];omega
    rw[show mostB ne nm y.kind=1 by unfold mostB;rw[if_neg k9,if_neg k10]]at HG
    have k9':=beq_eq_false_iff_ne.2 k9
    have k10':=beq_eq_false_iff_ne.2 k10
    by_cases c0:0≤y.type
    case neg=>
     have c0':y.type<0:=by omega
     go_wp2_with fail
     go_ret
     exact⟨retB (HNO.out (by rw[HG.out,decide_eq_false (show ¬(0≤y.type∧y.type<1)by omega)];simp)).symm,HB1.out⟩
    have c0':¬y.type<0:=by omega
    by_cases c1:y.type<1
    case neg=>
     have c1':1≤y.type:=by omega
     go_wp2_with fail
     go_ret
     exact⟨retB (HNO.out (by rw[HG.out,decide_eq_false (show ¬(0≤y.type∧y.type<1)by omega)];simp)).symm,HB1.out⟩
    have c1':¬1≤y.type:=by omega
    rw[decide_eq_true (⟨c0,c1⟩:0≤y.type∧y.type<1)]at HG
    go_wp2_with fail
    clear r2 r4 s0 s1
    go_loopw [82] (fun i wr=>∃ j:Nat,i=.int .i64 (j:Int)∧j≤k∧(∀ (q:Nat) (x:FD),q<j→fs[q]? = some x→¬x.name=y.name)∧Below U1.heap.size U1 wr) (fun i _=>k - (intOf i).toNat)
    case atStart=>exact⟨0,rfl,Nat.zero_le _,fun q x hq=>absurd hq (Nat.not_lt_zero _),Below.refl _ _⟩
    case round=>
     obtain⟨j,rfl,hj,hall,hbel⟩:=hrel
     have HA2:=hQz hall
     have HBJ:=hQz (HB1.out.trans (hbel.mono HB1.out.size))
     have hjc:=(hbel.block _ (by omega)).trans HU1C.out
     have hjx:=(hbel.block _ (by omega)).trans HU1X.out
     have HJS:=hQz ((hbel.block _ (by omega)).trans HU1S.out)
     have HB3:=hQz hbel
     have l1:=cell_at hjc 1 rfl
     have m1:=cell_at hjx 1 rfl
     have HJX:=hQz hjx
     clear hall hbel hjc hjx
     have hj0:(0:Int)≤(j:Int):=by omega
     have hwj:=wQz j (by omega)
     by_cases hjk:j<k
     ·obtain⟨x,hx⟩:∃ x,fs[j]? = some x:=⟨_,List.getElem?_eq_getElem (by have:=HN.out;omega)⟩
      obtain⟨g2,o2,c2,hsl,hg2,f0,f1,-,-,-⟩:=fd_at HH.out (W:=wr) (fun b hb=>HBJ.out.block b hb) hx
      rw[HN.out]at hsl
      obtain⟨ha2,hc2⟩:=slice_two hsl
      injection ha2 with ha2
      injection ha2 with ha2 hb2
      subst ha2 hb2
      have hj1:(j:Int)<(k:Int):=by omega
      have hj2:(j:Int)<(n:Int):=by omega
      have HM1:Hid (x.name=y.name→y.name∈namesF fs k):=fun h=>h▸mem_take (f:=FD.name) hjk hx
      have HNX:Hid (¬x.name=y.name→∀ (q:Nat) (z:FD),q<j+1→fs[q]? = some z→¬z.name=y.name):=fun a=>allR_next HA2.out hx a
      have HTQ:Hid (∀ nq:Nat,Below U1.heap.size U1 (wr.drewN nq)):=fun nq=>HB3.out.trans ⟨rfl,rfl,rfl,Nat.le_refl _,fun _ _=>rfl⟩
      clear hsl hx hc2 f0
      by_cases t0:x.name=y.name
      ·have hm:=HM1.out t0
       rw[t0]at f1
       clear t0 HM1 HNX
       go_wp2_with fail
       go_quiet (fail)
       go_wp2_with fail
       go_ret
       exact⟨retB (HNO.out (by rw[HG.out];simp[hm])).symm,HB1.out.trans ((HTQ.out _).mono HB1.out.size)⟩
      have t0':=mkBR_beq t0
      have t0'':=beq_eq_false_iff_ne.2 t0
      have HTE:=hQz (HNX.out t0)
      clear HM1 HNX
      go_wp2_with fail
      go_quiet (fail)
      go_wp2_with fail
      go_roundw
      case rel=>exact⟨j+1,by go_num,by omega,HTE.out,HTQ.out _⟩
      case measure=>simp[intOf];omega
     ·have hjk':¬(j:Int)<(k:Int):=by omega
      have hn1:y.name∉namesF fs k:=not_take (f:=FD.name) fun q x hq hx=>HA2.out q x (by omega) hx
      have HOK:Hid (atB fs (goodF ne nm fs) k=true):=by
       refine(?_:_=_)
       rw[HG.out,decide_eq_false hn1];rfl
      clear hn1 l1 m1
      go_wp2_with fail
      go_roundw
      case rel=>exact⟨k+1,by go_num,by omega,allB_step HALL.out HOK.out,HBJ.out,HJS.out,HJX.out⟩
      case measure=>simp[intOf];omega
  ·have hkn':¬(k:Int)<(n:Int):=by omega
   have HRR:Hid (R=true):=by
    refine(?_:_=_)
    have h:=HALL.out
    have hke:k=n:=by omega
    rw[hke]at h
    rw[←HRT.out,h,decide_eq_true h32];rfl
   go_wp2_with fail
   go_ret
   exact⟨retB HRR.out.symm,HB.out⟩
end Go.Proofs.YteajlfgbmefncaaGreatDoor
