/-
  Walks and plain words (NoP ShO VhG).
-/
import Derived.Test.YteajlfgbmefncaaGreatDoorN7
import Derived.Test.YteajlfgbmefncaaGreatDoorN15
import Derived.Test.YteajlfgbmefncaaGreatDoorN11
import Derived.Test.YteajlfgbmefncaaGreatDoorN14
import Derived.Test.YteajlfgbmefncaaGreatDoorProg
import Derived.OrdersHeld
import Derived.Deep.RegionHeld
import Derived.Test.YteajlfgbmefncaaGreatDoorN6
namespace Go.Proofs.YteajlfgbmefncaaGreatDoor
set_option linter.unusedVariables false
open Go.ChangeShapes Go.WideShapes Go.ChangeAt Go.RowKit

set_option maxHeartbeats 8000000 in
set_option maxRecDepth 20000 in
theorem stays_any (nn:List UInt8) (fa:Option Addr) (n fc:Nat) (fs:List FD) (fd:FD) (num:Int) (va:Option Addr) (m vc:Nat) (ys:List Nd) (f:Nat) (w:World) (hn:fs.length=n) (hl:n≤100000) (hH:RowsIn w (fun b=>b<w.heap.size) 5 fdrow (.slice fa n fc) fs) (hfd:firstF fs num=some fd) (hm:ys.length=m) (hm0:0<m) (hV:ValsG valS w (fun b=>b<w.heap.size) f (.slice va m vc) ys) :
  Calls Tryz.prog 32 #[.agg #[.string (mkB nn),.slice fa n fc],.agg #[.int .i64 num,.slice va m vc]] w fun e w'=>e=.returned (.bool (keepB fs (num,ys)))∧Below w.heap.size w w':=by
 obtain⟨y,hy⟩:∃ y,ys[0]? = some y:=⟨_,List.getElem?_eq_getElem (by omega)⟩
 obtain⟨R,hR⟩:∃ R,keepB fs (num,ys)=R:=⟨_,rfl⟩
 have HR:Hid ((fd.rep || !defP y)=R):=by
  refine(?_:_=_)
  rw[←hR]
  unfold keepB
  dsimp only
  rw[hfd,hy]
 rw[hR]
 clear hR
 obtain⟨Y,hY,hC,hb,hYs⟩:=box_new w #[.string (mkB nn),.slice fa n fc] 54
 obtain⟨V,hV',hD,hVb,hVs⟩:=box_new Y #[.int .i64 num,.slice va m vc] 79
 have HY:=hQz hY
 have HV:=hQz hV'
 rw[hYs]at hD
 have hC2:=(hVb.block _ (by omega)).trans hC
 have hBV:=hb.trans (hVb.mono hb.size)
 have HBV:=hQz hBV
 have HD:=hQz hD
 have d0:=cell_at hC2 0 rfl
 have d1:=cell_at hC2 1 rfl
 have f0:=cell_at hD 0 rfl
 have h:=defined_any nn fa n fc fs num V hn hl ((RowsIn.old hH fun b h=>hBV.block b h).more fun b h=>by have:=hBV.size;omega)
 obtain⟨g,o,c,yf,hsl,hg,hcl,_⟩:=ValsG.at hV hy
 rw[hm]at hsl
 obtain⟨rfl,rfl⟩:=slice_two hsl
 have hgN:g<w.heap.size:=hg
 have e0:w.cell? ⟨g,o,none⟩=some (ival y yf):=by have:=hcl 0 _ rfl;simpa [valS]using this
 have hdf:=byDef_any y yf
 have hVl:w.heap.size+2≤V.heap.size:=by omega
 have hm1:(0:Int)<(m:Int):=by omega
 generalize ival y yf=v0 at e0 hdf
 generalize defP y=D at HR hdf
 have HFD:=hQz hfd
 clear hn hl hH hm hV hC hY hb hYs hV' hVb hVs hD hC2 hBV hsl hcl hg hy hfd
 go_enter Tryz.func32,Tryz.ntmps32
 go_upto_region 1 with fail
 rw[HY.out,HV.out]
 go_wp2_with fail
 refine h.mono ?_
 rintro e W ⟨x,b,rfl,hbt,hbf,hbW⟩
 obtain rfl:b=true:=by
  cases b
  ·have:=hbf rfl;rw[HFD.out]at this;cases this
  ·rfl
 obtain rfl:x=fd:=by have:=hbt rfl;rw[HFD.out]at this;exact(Option.some.inj this).symm
 have HBW:=hQz (HBV.out.trans (hbW.mono HBV.out.size))
 have hWs:=hbW.size
 have HDW:Hid (W.heap[w.heap.size+1]? = some (.cells #[.int .i64 num,.slice (some ⟨g,o,none⟩) m vc] 79 (0,0))):=(hbW.block _ (by omega)).trans HD.out
 clear h hbW d0 d1 f0 hbt hbf HD HFD
 obtain⟨xnum,xname,xkind,xrep,xtype⟩:=x
 dsimp only at HR ⊢
 have hC:(W.alloc (.cells #[.int .i64 xnum,.string (mkB xname),.int .i64 xkind,.bool xrep,.int .i64 xtype] 51)).heap[W.heap.size]? = some (.cells #[.int .i64 xnum,.string (mkB xname),.int .i64 xkind,.bool xrep,.int .i64 xtype] 51 (0,0)):=alloc_heap_new _ _
 have hCb:Below W.heap.size W (W.alloc (.cells #[.int .i64 xnum,.string (mkB xname),.int .i64 xkind,.bool xrep,.int .i64 xtype] 51)):=(Below.refl _ W).alloc (Nat.le_refl _) _
 go_upto_region 2 with fail
 generalize (W.alloc (.cells #[.int .i64 xnum,.string (mkB xname),.int .i64 xkind,.bool xrep,.int .i64 xtype] 51))=X at *
 have HBX:=hQz (HBW.out.trans (hCb.mono HBW.out.size))
 have hDX:=(hCb.block _ (by omega)).trans HDW.out
 have q1:=cell_at hDX 1 rfl
 have q3:=cell_at hC 3 rfl
 have q0:X.cell? ⟨g,o,none⟩=some v0:=(HBX.out.cell (by simpa using hgN)).trans e0
 have hd:=hdf X
 clear hC hCb hDX HDW HBW e0 hdf
 cases xrep
 case true=>
  have e:R=true:=by rw[←HR.out];rfl
  subst e
  go_wp2_with fail
  go_ret
  exact⟨rfl,HBX.out⟩
 case false=>
  have e:R=!D:=by rw[←HR.out];rfl
  subst e
  go_wp2_with fail
  refine hd.mono ?_
  rintro e W9 ⟨rfl,hW⟩
  have hW:=hW.symm
  subst hW
  go_wp2_with fail
  go_ret
  exact⟨rfl,HBX.out⟩
set_option maxHeartbeats 8000000 in
set_option maxRecDepth 20000 in
theorem keep_any (cp:Nat) (ma ea ta:Option Addr) (nm ne nt mc ec tc:Nat) (ms:List MD) (q:Nat) (md:MD) (xa:Option Addr) (xl xc:Nat) (xs:List UInt8) (fd:FD) (num:Int) (va:Option Addr) (m vc:Nat) (ys:List Nd) (f:Nat) (w:World) (hnm:ms.length=nm) (hq:ms[q]? = some md) (hl:md.fields.length≤100000) (hcp:w.cell? ⟨cp,0,none⟩=some (.slice ma nm mc)) (hH:HeldM w (fun b=>b<w.heap.size) (.slice ma nm mc) ms) (hfd:firstF md.fields num=some fd) (hm:ys.length=m) (hm0:0<m) (hV:ValsG valS w (fun b=>b<w.heap.size) f (.slice va m vc) ys) :
  Calls Tryz.prog 31 #[.agg #[.int .i64 (q:Int),.slice xa xl xc,.string (mkB xs)],.agg #[.int .i64 num,.slice va m vc],.pointer (some ⟨cp,0,none⟩)] w fun e w'=>e=.returned (.bool (keepB md.fields (num,ys)))∧Below w.heap.size w w':=by
 have hcpl:cp<w.heap.size:=cell_ltB hcp
 obtain⟨mname,mfs⟩:=md
 dsimp only at hl hfd ⊢
 obtain⟨nf,hnf⟩:∃ n,mfs.length=n:=⟨_,rfl⟩
 obtain⟨R,hR⟩:∃ R,keepB mfs (num,ys)=R:=⟨_,rfl⟩
 rw[hR]
 obtain⟨Y,hY,hC,hb,hYs⟩:=box_new w #[.int .i64 (q:Int),.slice xa xl xc,.string (mkB xs)] 76
 obtain⟨V,hV',hD,hVb,hVs⟩:=box_new Y #[.int .i64 num,.slice va m vc] 79
 have HY:=hQz hY
 have HV:=hQz hV'
 rw[hYs]at hD
 have hC2:=(hVb.block _ (by omega)).trans hC
 have hBV:=hb.trans (hVb.mono hb.size)
 have HBV:=hQz hBV
 obtain⟨g,oo,c0,ka,kc,hsl,hg,e0,e1,hrow⟩:=HeldN.at hH (W:=V) (fun b hb=>hBV.block b hb) hq
 rw[hnm]at hsl
 obtain⟨rfl,rfl⟩:=slice_two hsl
 dsimp only at hrow e0 e1
 rw[hnf]at hrow e1 hl
 have HST:Hid (∀ W,Below V.heap.size V W→Calls Tryz.prog 32 #[.agg #[.string (mkB mname),.slice ka nf kc],.agg #[.int .i64 num,.slice va m vc]] W fun e w'=>e=.returned (.bool R)∧Below W.heap.size W w'):=by
  refine(?_:∀ W,_→_)
  intro W hW
  rw[←hR]
  have hw:=hBV.trans (hW.mono hBV.size)
  exact stays_any mname ka nf kc mfs fd num va m vc ys f W hnf hl ((RowsIn.old hrow fun b hb=>hW.block b (by have hb':b<w.heap.size:=hb;have:=hBV.size;omega)).more fun b hb=>by have hb':b<w.heap.size:=hb;have:=hw.size;omega) hfd hm hm0 (ValsG.mv (fun b hb=>hw.block b hb) (fun b hb=>by have hb':b<w.heap.size:=hb;have:=hw.size;omega) hV)
 have hgN:g<w.heap.size:=hg
 have hVl:w.heap.size+2≤V.heap.size:=by omega
 have s0:∀ W,Below V.heap.size V W→W.cell? ⟨cp,0,none⟩=some (.slice (some ⟨g,oo,none⟩) nm mc):=fun W hW=>(hW.cell (by simp;omega)).trans ((hBV.cell (by simpa using hcpl)).trans hcp)
 have s1:∀ W,Below V.heap.size V W→W.cell? ⟨w.heap.size,0,none⟩=some (.int .i64 (q:Int)):=fun W hW=>(hW.cell (by simp;omega)).trans (cell_at hC2 0 rfl)
 have s2:∀ W,Below V.heap.size V W→W.cell? ⟨g,oo+q*2,none⟩=some (.string (mkB mname)):=fun W hW=>(hW.cell (by simp;omega)).trans e0
 have s3:∀ W,Below V.heap.size V W→W.cell? ⟨g,oo+q*2+1,none⟩=some (.slice ka nf kc):=fun W hW=>(hW.cell (by simp;omega)).trans e1
 have s4:∀ W,Below V.heap.size V W→W.cell? ⟨w.heap.size+1,0,none⟩=some (.int .i64 num):=fun W hW=>(hW.cell (by simp;omega)).trans (cell_at hD 0 rfl)
 have s5:∀ W,Below V.heap.size V W→W.cell? ⟨w.heap.size+1,1,none⟩=some (.slice va m vc):=fun W hW=>(hW.cell (by simp;omega)).trans (cell_at hD 1 rfl)
 have hqn:q<nm:=by have:=(List.getElem?_eq_some_iff.1 hq).1;omega
 have hq0:(0:Int)≤(q:Int):=by omega
 have hq1:(q:Int)<(nm:Int):=by omega
 clear hY hC hb hYs hV' hD hVb hVs hC2 hBV hsl hg e0 e1 hrow hH hV hR hfd hm hq hcp
 go_enter Tryz.func31,Tryz.ntmps31
 go_upto_region 1 with fail
 rw[HY.out,HV.out]
 have hS0:Below V.heap.size V V.drew:=(Below.refl _ _).drew
 refine wp_region_held_drew (S:=fun W=>Below V.heap.size V W) (by kernel_rfl) hS0 (fun _=>?_)
 refine T_on 0 (.pointer (some ⟨cp,0,none⟩)) rfl (by kernel_rfl) (fun _ _ _ h=>h) hS0 (fun W hW=>by go_simp) ?_
 refine T_on 1 (.slice (some ⟨g,oo,none⟩) nm mc) rfl (by kernel_rfl) (fun _ _ _ h=>h) hS0 (fun W hW=>by have c:=s0 W hW;go_simp) ?_
 refine T_on 2 (.pointer (some ⟨w.heap.size,0,none⟩)) rfl (by kernel_rfl) (fun _ _ _ h=>h) hS0 (fun W hW=>by go_simp) ?_
 refine T_on 3 (.int .i64 (q:Int)) rfl (by kernel_rfl) (fun _ _ _ h=>h) hS0 (fun W hW=>by have c:=s1 W hW;go_simp) ?_
 refine T_on 4 (.pointer (some ⟨g,oo+q*2,none⟩)) rfl (by kernel_rfl) (fun _ _ _ h=>h) hS0 (fun W hW=>by go_simp) ?_
 refine T_on 5 (.agg #[.string (mkB mname),.slice ka nf kc]) rfl (by kernel_rfl) (fun _ _ _ h=>h) hS0 (fun W hW=>by have c:=s2 W hW;have c2:=s3 W hW;go_simp) ?_
 refine T_on 6 (.agg #[.int .i64 num,.slice va m vc]) rfl (by kernel_rfl) (fun _ _ _ h=>h) hS0 (fun W hW=>by have c:=s4 W hW;have c2:=s5 W hW;go_simp) ?_
 refine T_call 7 (by kernel_rfl) rfl (fun K hK=>?_)
 go_simp
 refine(HST.out _ hS0).mono ?_
 rintro e U1 ⟨rfl,hb1⟩
 have hS1:=hS0.trans (hb1.mono hS0.size)
 clear hS0 hb1
 have hS0:=hS1
 clear hS1
 dsimp only
 refine hK.out _ _ hS0 (fun _=>?_)
 clear hK K
 refine T_on 8 (.bool R) rfl (by kernel_rfl) (fun _ _ _ h=>h) hS0 (fun W hW=>by go_simp) ?_
 refine wpAnyH_done (by kernel_rfl) ?_ _
 go_simp
 have HE:=hQz (HBV.out.trans (hS0.mono HBV.out.size))
 go_wp2_with fail
 go_ret
 exact⟨rfl,HE.out⟩
section
variable {P:Program} {ops:Array Oper} {Q:Exit→Act→World→Prop} {md:Region.Mode}
def CloL (md:Region.Mode) (ops:Array Oper) (l:Array Bool):Prop:=∀ (j:Nat) (oj:Oper),ops[j]? = some oj→l.getD j false=true→∀ e∈oj.after,Region.binds md e=true→l.getD e.on false=true
def cloB (md:Region.Mode) (ops:Array Oper) (l:Array Bool):Bool:=(List.range ops.size).all fun j=>match ops[j]? with
 | some oj=>!l.getD j false || oj.after.all fun e=>!Region.binds md e || l.getD e.on false
 | none=>true
theorem clo_of {l:Array Bool} (h:cloB md ops l=true):CloL md ops l:=by
 intro j oj hj hl e he hb
 have hjs:=(Array.getElem?_eq_some_iff.1 hj).1
 have h1:=List.all_eq_true.1 h j (List.mem_range.2 hjs)
 simp only[hj,hl,Bool.not_true,Bool.false_or]at h1
 have h2:=Array.all_eq_true_iff_forall_mem.1 h1 e he
 simpa [hb]using h2
theorem clo_set {l:Array Bool} {j:Nat} (h:CloL md ops l) (hj:j∈Region.ready md ops l):CloL md ops (l.setIfInBounds j true):=by
 intro k ok hk hl e he hb
 by_cases hjk:j=k
 ·subst hjk
  obtain⟨_,oj,hoj,hall⟩:=mem_ready.1 hj
  rw[hk]at hoj
  cases hoj
  exact getD_set_true (hall e he hb)
 ·rw[getD_set_ne false hjk]at hl
  exact getD_set_true (h k ok hk hl e he hb)
def chainB (md:Region.Mode) (ops:Array Oper):Nat→List Nat→Bool
 | _,[]=>true
 | s,t :: p=>(match ops[s]? with
  | some o=>o.after.toList.any fun e=>Region.binds md e&&(e.on == t)
  | none=>false)&&chainB md ops t p
theorem clo_chain {l:Array Bool} (h:CloL md ops l):∀ (p:List Nat) (s:Nat),chainB md ops s p=true→l.getD s false=true→∀ t∈p,l.getD t false=true
 | [],s,_,_,t,ht=>by simp at ht
 | b :: p,s,hc,hs,t,ht=>by
  rw[chainB,Bool.and_eq_true]at hc
  obtain⟨h1,h2⟩:=hc
  have hb:l.getD b false=true:=by
   cases ho:ops[s]? with
   | none=>rw[ho]at h1;cases h1
   | some o=>
    rw[ho]at h1
    obtain⟨e,he,h3⟩:=List.any_eq_true.1 h1
    rw[Bool.and_eq_true]at h3
    have:=h s o ho hs e (by simpa using he) h3.1
    have e2:e.on=b:=by simpa using h3.2
    rw[e2]at this;exact this
  rcases List.mem_cons.1 ht with rfl | ht
  ·exact hb
  ·exact clo_chain h p b h2 hb t ht
def Ph (st:Nat) (Sy Sp:World→Prop) (l:Array Bool) (w:World):Prop:=Sy w∧(l.getD st false=false→Sp w)
def wpAnyG (P:Program) (md:Region.Mode) (ops:Array Oper) (Q:Exit→Act→World→Prop) (st:Nat) (Sy Sp:World→Prop):Nat→Array Bool→Act→World→Prop
 | 0,l,a,w=>Region.ready md ops l=[]∧Q .normal a w
 | fuel+1,l,a,w=>
  (Region.ready md ops l=[]→Q .normal a w)∧
  ∀ i∈Region.ready md ops l,wpOp P ops Q i (fun a' w'=>Ph st Sy Sp (l.setIfInBounds i true) w'∧wpAnyG P md ops Q st Sy Sp fuel (l.setIfInBounds i true) a' w') a w
variable {st:Nat} {Sy Sp:World→Prop}
theorem any_of_G:∀ (fuel:Nat) (l:Array Bool) (a:Act) (w:World),wpAnyG P md ops Q st Sy Sp fuel l a w→wpAny P md ops Q fuel l a w
 | 0,_,_,_,h=>h
 | fuel+1,_,_,_,h=>⟨h.1,fun i hi=>wpOp_mono (fun a' w' h'=>any_of_G fuel _ a' w' h'.2) (h.2 i hi)⟩
theorem G_first {i:Nat} {oi:Oper} {v:Value} {p:List Nat} (hch:chainB md ops st p=true) (hpi:i∈p) (hist:i≠st) (hi:ops[i]? = some oi) (hsel:∀ (j:Nat) (o:Oper) cs b,ops[j]? = some o→o.op≠.select cs b)
  (hQ:∀ c a w,Q (.panic c) (a.put oi.dst v) w→Q (.panic c) a w) :
  ∀ (fuel:Nat) (l:Array Bool) (a:Act) (w:World),CloL md ops l→
   (∀ j oj,ops[j]? = some oj→j≠i→l.getD j true=false→(∀ e∈oj.after,Region.binds md e=true→e.on≠i)→oi.apart ops oj=true)→
   i∈Region.ready md ops l→YieldsIf P ops (fun W=>Sy W∧Sp W) oi v a→Ph st Sy Sp l w→
   wpAnyG P md ops Q st Sy Sp fuel (l.setIfInBounds i true) (a.put oi.dst v) w→wpAnyG P md ops Q st Sy Sp (fuel+1) l a w:=by
 have both:∀ (l:Array Bool) (w:World),CloL md ops l→l.getD i true=false→Ph st Sy Sp l w→Sy w∧Sp w:=fun l w hc hl hS=>by
  refine⟨hS.1,hS.2 ?_⟩
  cases hs:l.getD st false with
  | false=>rfl
  | true=>
   have h1:=clo_chain hc p st hch hs i hpi
   rcases Nat.lt_or_ge i l.size with h' | h'
   ·simp[h']at hl h1;rw[hl]at h1;cases h1
   ·simp[Array.getElem?_eq_none h']at hl
 have same:∀ (l:Array Bool) (w:World),Ph st Sy Sp (l.setIfInBounds i true) w↔Ph st Sy Sp l w:=fun l w=>by
  unfold Ph
  rw[getD_set_ne false hist]
 intro fuel
 induction fuel with
 | zero=>
  intro l a w hc _ hr hy hS H
  have h0:=(mem_ready.1 hr).1
  refine⟨fun h=>(by rw[h]at hr;cases hr),fun j hj=>?_⟩
  by_cases hji:j=i
  ·subst hji;exact hy.wpOp hi (both l w hc h0 hS) ⟨(same l w).2 hS,H⟩
  ·have:=ready_mono hj hji
   rw[H.1]at this
   cases this
 | succ fuel ih=>
  intro l a w hc hfree hr hy hS H
  have h0:=(mem_ready.1 hr).1
  refine⟨fun h=>(by rw[h]at hr;cases hr),fun j hj=>?_⟩
  by_cases hji:j=i
  ·subst hji;exact hy.wpOp hi (both l w hc h0 hS) ⟨(same l w).2 hS,H⟩
  ·have h1:=H.2 j (ready_mono hj hji)
   obtain⟨hjun,oj,hoj,hall⟩:=mem_ready.1 hj
   have hnot:∀ e∈oj.after,Region.binds md e=true→e.on≠i:=fun e he hb heq=>by
    have h1:=hall e he hb
    rw[heq]at h1
    rcases Nat.lt_or_ge i l.size with h' | h'
    ·simp[h']at h0 h1;rw[h0]at h1;cases h1
    ·simp[Array.getElem?_eq_none h']at h1
   have h2:=wpOp_putIf hoj (hfree j oj hoj hji hjun hnot) (fun cs b=>hsel i oi cs b hi) (fun cs b=>hsel j oj cs b hoj) hQ hy h1
   refine wpOp_mono (fun a' w' h3=>?_) h2
   obtain⟨h3,h4,h5⟩:=h3
   rw[Array.setIfInBounds_comm _ _ (Ne.symm hji)]at h4 h5
   have h6:=(same (l.setIfInBounds j true) w').1 h4
   refine⟨h6,ih (l.setIfInBounds j true) a' w' (clo_set hc hj) ?_ (ready_mono hr (Ne.symm hji)) h3 h6 h5⟩
   intro k ok hk hki hun hno
   refine hfree k ok hk hki ?_ hno
   by_cases hjk:j=k
   ·subst hjk;exact hjun
   ·rw[getD_set_ne true hjk]at hun;exact hun
theorem G_take {i:Nat} {oi:Oper} {v:Value} {fuel:Nat} {l:Array Bool} {a:Act} {w:World} (p:List Nat) (hi:ops[i]? = some oi) (hch:(chainB md ops st p&&p.contains i&&!(i == st)&&Region.noSelect ops&&Region.free md ops l i&&(Region.ready md ops l).contains i&&cloB md ops l)=true)
  (hQ:∀ c a w,Q (.panic c) (a.put oi.dst v) w→Q (.panic c) a w) (hy:YieldsIf P ops (fun W=>Sy W∧Sp W) oi v a) (hS:Ph st Sy Sp l w)
  (h:wpAnyG P md ops Q st Sy Sp fuel (l.setIfInBounds i true) (a.put oi.dst v) w):wpAnyG P md ops Q st Sy Sp (fuel+1) l a w:=by
 simp only[Bool.and_eq_true]at hch
 obtain⟨⟨⟨⟨⟨⟨h1,h2⟩,h3⟩,h4⟩,h5⟩,h6⟩,h7⟩:=hch
 exact G_first h1 (by simpa using h2) (by simpa using h3) hi (Region.noSelect_spec h4) hQ fuel l a w (clo_of h7) (Region.free_spec hi h5) (by simpa using h6) hy hS h
theorem G_one {i:Nat} {o:Oper} {fuel:Nat} {l:Array Bool} {a:Act} {w:World} (hr:Region.ready md ops l=[i]) (ho:ops[i]? = some o)
  (h:∀ K':Act→World→Prop,Shut (∀ a w,Ph st Sy Sp (l.setIfInBounds i true) w→wpAnyG P md ops Q st Sy Sp fuel (l.setIfInBounds i true) a w→K' a w)→if Region.wanted o (yielded ops a.tmps)=true then Oper.wp P o a w K' Q else K' (a.put o.dst undef) w):wpAnyG P md ops Q st Sy Sp (fuel+1) l a w:=by
 refine⟨fun h0=>(by rw[hr]at h0;cases h0),fun j hj=>?_⟩
 rw[hr]at hj
 have:j=i:=by simpa using hj
 subst this
 exact wpOp_step ho (fun K' hK=>h K' (fun a w hS hW=>hK a w ⟨hS,hW⟩))
theorem G_done {l:Array Bool} {a:Act} {w:World} (hr:Region.ready md ops l=[]) (h:Q .normal a w):∀ fuel,wpAnyG P md ops Q st Sy Sp fuel l a w
 | 0=>⟨hr,h⟩
 | _+1=>⟨fun _=>h,by rw[hr];simp⟩
theorem region_G {id:Nat} {a:Act} {w:World} (st:Nat) (Sy Sp:World→Prop) (hm:P.follows .mixedOrders=true)
  (h:wpAnyG P .any ops Q st Sy Sp ops.size (Array.replicate ops.size false) a w.drew):(Code.region id ops true).wp P Q a w:=
 wp_region_any hm (any_of_G _ _ _ _ h)
end
section
variable {T t:TypeId} {k bytes base n:Nat} {z:Value} {wx:World} {v:Value} {xs:List Value}
theorem vpushS (ht:Tryz.prog.underlying t=some (.slice T)) (hin:(Tryz.prog.info? T).map (fun i=>(i.zero,i.size,i.bytes))=some (some z,k,bytes)) (hzk:z.cells.size=k) (hk0:0<k)
  (h:wx.ownsRow base T k v n xs) (hb0:base≤wx.heap.size) (r:List Value) (hrl:r.length=k) (hr1:∀ u∈r,u.oneCell'=true) (B:Nat) (hB:wx.heap[B]? = some (.cells r.toArray T (0,0)))
  {ops:Array Oper} {o:Oper} {a:Act} {K:Act→World→Prop} {Q:Exit→Act→World→Prop} {E:Prop} (hgd:o.guard=none) (s' x':Operand)
  (ho:o.op=.call { callee:=.builtin .append,args:=#[s',x'],argTypes:=#[t,t] }) (hs:a.eval s'=v) (hx:a.eval x'=.slice (some ⟨B,0,none⟩) 1 1) (hm:n+1≤maxLen) (hbd:(n+1)*bytes≤140737488355328)
  (hk:∀ g cap W,W.ownsRow base T k (.slice (some ⟨g,0,none⟩) (n+1) cap) (n+1) (xs++r)→wx.grownBy W v.ownBlock→(v.ownBlock=some g∨g=wx.heap.size)→g<W.heap.size→K (a.put o.dst (.slice (some ⟨g,0,none⟩) (n+1) cap)) W) :
  if Region.wanted o (yielded ops a.tmps)=true then Oper.wp Tryz.prog o a wx K Q else E:=by
 obtain⟨i0,hi0,hz0,hz1,hz2⟩:=info_parts hin
 exact step_append_lies _ hgd s' x' t ho base T i0 z k bytes ht hi0 hz0 hz1 hz2 hzk hk0 v n xs hs h ⟨B,0,none⟩ 1 1 r hx (by rw[hrl,Nat.one_mul]) (World.news_of_block (cs:=r.toArray) (t:=T) (fr:=(0,0)) hB) hr1 (by decide) hm hbd hb0 _ rfl hk
end
def VRs (s:Shp) (f:Nat) (w:World) (S:Nat→Prop) (y:Nd) (r:List Value):Prop:=∃ fs,r=s.row y fs∧(s.deep y=true→HeldG s w S f fs y.fields)
def FRs (s:Shp) (f:Nat) (w:World) (S:Nat→Prop) (x:Int × List Nd) (r:List Value):Prop:=∃ vs,r=[.int .i64 x.1,vs]∧ValsG s w S f vs x.2
theorem mvsV (s:Shp) (f:Nat):Mvs (VRs s f):=fun w w' S S' y r ⟨fs,h1,h2⟩ hb hS=>⟨fs,h1,fun hd=>HeldG.mv hb hS (h2 hd)⟩
theorem mvsF (s:Shp) (f:Nat):Mvs (FRs s f):=fun w w' S S' y r ⟨vs,h1,h2⟩ hb hS=>⟨vs,h1,ValsG.mv hb hS h2⟩
theorem Gr.vals {s:Shp} {f:Nat} {w:World} {base:Nat} {T:TypeId} {v:Value} {ys:List Nd} {rs:List (List Value)} (h:Gr (VRs s f) w base T s.k v ys rs) (S:Nat→Prop) (hS:∀ b,base≤b→b<w.heap.size→S b):ValsG s w S f v ys:=by
 refine SlIn.imp (h.held S fun b hb=>hS b (h.blk b hb).1 (h.blk b hb).2) (fun _ h=>h) fun y g o hg hy=>?_
 obtain⟨r,hc,fs,rfl,hd⟩:=hy
 exact⟨fs,hc,fun hk=>HeldG.mv (fun _ _=>rfl) (fun b hF=>hS b hF.1 hF.2.1) (hd hk)⟩
theorem Gr.fields {s:Shp} {f:Nat} {w:World} {base:Nat} {T:TypeId} {v:Value} {fl:List (Int × List Nd)} {rs:List (List Value)} (h:Gr (FRs s (f - 1)) w base T 2 v fl rs) (hf:f=0→fl=[]) (S:Nat→Prop) (hS:∀ b,base≤b→b<w.heap.size→S b):HeldG s w S f v fl:=by
 cases f with
 | zero=>
  have h0:=hf rfl
  subst h0
  obtain⟨a,c,hv⟩:=own_slice h.own
  exact⟨rfl,a,c,hv⟩
 | succ f=>
  refine SlIn.imp (h.held S fun b hb=>hS b (h.blk b hb).1 (h.blk b hb).2) (fun _ h=>h) fun x g o hg hx=>?_
  obtain⟨r,hc,vs,rfl,hv⟩:=hx
  exact⟨vs,hc,ValsG.mv (fun _ _=>rfl) (fun b hF=>hS b hF.1 hF.2.1) hv⟩
theorem val_form {w:World} {S:Nat→Prop} {f:Nat} {v:Value} {y:Nd} (h:HeldV w S f v y):v=.nilIface∨∃ U u,v=.iface U u:=by
 obtain⟨fs,rfl,_⟩:=h
 unfold ival
 repeat (split;exact .inr ⟨_,_,rfl⟩)
 exact .inl rfl
theorem ival_one (y:Nd) (fs:Value):(ival y fs).oneCell'=true:=by
 unfold ival
 repeat (split;rfl)
 rfl
theorem infoVF:(Tryz.prog.info? 79).map (fun i=>(i.zero,i.size,i.bytes))=some (some (.agg #[.int .i64 0,.slice none 0 0]),2,32):=by kernel_rfl
theorem infoNF:(Tryz.prog.info? 57).map (fun i=>(i.zero,i.size,i.bytes))=some (some (.agg #[.int .i64 0,.slice none 0 0]),2,32):=by kernel_rfl
theorem infoVV:(Tryz.prog.info? 31).map (fun i=>(i.zero,i.size,i.bytes))=some (some (.nilIface),1,16):=by kernel_rfl
theorem infoNN:(Tryz.prog.info? 38).map (fun i=>(i.zero,i.size,i.bytes))=some (some (.agg #[.int .i64 0,.int .i64 0,.int .u64 0,.bool false,.string ⟨#[]⟩,.int .i64 0,.slice none 0 0]),7,80):=by kernel_rfl
end Go.Proofs.YteajlfgbmefncaaGreatDoor
