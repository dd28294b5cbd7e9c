/-
  Walks and plain words (VlP EnE).
-/
import Derived.Test.YteajlfgbmefncaaGreatDoorN24
import Derived.Test.YteajlfgbmefncaaGreatDoorN27
import Derived.Test.YteajlfgbmefncaaGreatDoorN29
import Derived.Test.YteajlfgbmefncaaGreatDoorN10
import Derived.Test.YteajlfgbmefncaaGreatDoorN23
namespace Go.Proofs.YteajlfgbmefncaaGreatDoor
set_option linter.unusedVariables false
open Go.ChangeShapes Go.WideShapes Go.ChangeAt Go.RowKit

theorem fitS_of {s:SC} (h:SmS s):FitS s:=by
 obtain⟨h0,h1,h2,h3⟩:=h
 refine⟨⟨by omega,by omega⟩,fun m hm=>?_,fun m hm=>?_,by omega,fun t ht=>?_⟩
 ·obtain⟨a,b,c⟩:=h1 m hm
  exact⟨by omega,by omega,fun f hf=>by have:=c f hf;omega⟩
 ·obtain⟨a,b,c⟩:=h2 m hm
  exact⟨by omega,by omega,fun f hf=>by have:=c f hf;omega⟩
 ·obtain⟨a,b⟩:=h3 t ht
  exact⟨by omega,by omega⟩
theorem tyOK_of {s:SC} (hf:FitS s) (h:FormS s):TyOK s.ms:=by
 have h0:formM s.es.length s.ms.length s.ms=true:=by
  have h1:=h.1
  unfold formS at h1
  simp only[Bool.and_eq_true]at h1
  exact h1.2.2.1
 intro m hm
 refine⟨(hf.2.1 m hm).2.1,fun x hx hk=>?_⟩
 obtain⟨i,hi⟩:=List.getElem?_of_mem hm
 have h1:=allA_iff.1 h0 i m hi
 unfold goodM at h1
 rw[Bool.and_eq_true]at h1
 obtain⟨j,hj⟩:=List.getElem?_of_mem hx
 have h2:=allA_iff.1 h1.2 j x hj
 unfold goodF at h2
 simp only[Bool.and_eq_true]at h2
 have h3:=h2.2.2.2.2
 unfold typB at h3
 rw[hk,if_neg (by decide),if_pos rfl]at h3
 exact of_decide_eq_true h3
def FitsB (s:SC) (f:Nat) (t:Int) (x:Nd) (b:Bool):Prop:=b=true↔FormS s∧0≤t∧t<(s.ms.length:Int)∧fitP s.ms f 1 t x=true
def FvAns (s:SC) (f:Nat) (t:Int) (x:Nd) (w:World) (e:Ending) (w':World):Prop:=∃ b,e=.returned (.bool b)∧FitsB s f t x b∧Below w.heap.size w w'
set_option maxHeartbeats 16000000 in
set_option maxRecDepth 20000 in
theorem fitsPV_any (ma ea ta:Option Addr) (nm ne nt mc ec tc:Nat) (s:SC) (f:Nat) (t:Int) (w:World) (hT:Tabs w) (hnm:s.ms.length=nm) (hne:s.es.length=ne) (hnt:s.ts.length=nt) (hf:FitS s) (hH:HeldSc w (fun b=>b<w.heap.size) (.slice ma nm mc) (.slice ea ne ec) (.slice ta nt tc) s) (v:Value) (x:Nd) (hV:HeldV w (fun b=>b<w.heap.size) f v x) (hfit:FitG 100000 10000 f x) :
  Calls Tryz.prog 29 #[.agg #[.slice ma nm mc,.slice ea ne ec,.slice ta nt tc],.int .i64 t,v] w fun e w'=>FvAns s f t x w e w':=by
 obtain⟨Y,hY,hC,hb,hYs⟩:=box_new w #[.slice ma nm mc,.slice ea ne ec,.slice ta nt tc] 26
 obtain⟨V,hV'⟩:∃ V,Y=V:=⟨_,rfl⟩
 subst hV'
 have hBV:=hb
 have hCV:=hC
 have HY:=hQz hY
 have HBV:=hQz hBV
 have s0:∀ W,Below Y.heap.size Y W→W.cell? ⟨w.heap.size,0,none⟩=some (.slice ma nm mc):=fun W hW=>(hW.cell (by simp;omega)).trans (cell_at hCV 0 rfl)
 have s1:∀ W,Below Y.heap.size Y W→W.cell? ⟨w.heap.size,1,none⟩=some (.slice ea ne ec):=fun W hW=>(hW.cell (by simp;omega)).trans (cell_at hCV 1 rfl)
 have s2:∀ W,Below Y.heap.size Y W→W.cell? ⟨w.heap.size,2,none⟩=some (.slice ta nt tc):=fun W hW=>(hW.cell (by simp;omega)).trans (cell_at hCV 2 rfl)
 have HM:Hid (FormS s→0≤t→t<(nm:Int)→∀ W,Below Y.heap.size Y W→Calls Tryz.prog 56 #[.agg #[.slice ma nm mc,.slice ea ne ec,.slice ta nt tc],.int .i64 t,v,.int .i64 1] W fun e w'=>e=.returned (.bool (fitP s.ms f 1 t x))∧Below W.heap.size W w'):=by
  refine(?_:_→_→_→∀ W,_→_)
  intro hF h0 h1 W hW
  have hF0:formM s.es.length s.ms.length s.ms=true:=by
   have h1:=hF.1
   unfold formS at h1
   simp only[Bool.and_eq_true]at h1
   exact h1.2.2.1
  have hw:=hBV.trans (hW.mono hBV.size)
  exact(msgP_any ma ea ta nm ne nt mc ec tc s.ms hnm (tyOK_of hf hF) f t 1 v x W (tabs_below hT hw) (by decide) h0 h1 ((HeldN.old hH.1 fun b hb=>hw.block b hb).more fun b hb=>by have hb':b<w.heap.size:=hb;have:=hw.size;omega) hfit (hV.mv (fun b hb=>hw.block b hb) (fun b hb=>by have hb':b<w.heap.size:=hb;have:=hw.size;omega)))
 have hH1:HeldSc Y (fun b=>b<Y.heap.size) (.slice ma nm mc) (.slice ea ne ec) (.slice ta nt tc) s:=⟨(HeldN.old hH.1 fun b hb=>hBV.block b hb).more fun b hb=>by have hb':b<w.heap.size:=hb;have:=hBV.size;omega,(HeldN.old hH.2.1 fun b hb=>hBV.block b hb).more fun b hb=>by have hb':b<w.heap.size:=hb;have:=hBV.size;omega,(RowsIn.old hH.2.2 fun b hb=>hBV.block b hb).more fun b hb=>by have hb':b<w.heap.size:=hb;have:=hBV.size;omega⟩
 have h:=formP_any ma ea ta nm ne nt mc ec tc s Y hnm hne hnt hf hH1
 have HNM:=hQz hnm
 have b0:=s0 Y (Below.refl _ _)
 have b1:=s1 Y (Below.refl _ _)
 have b2:=s2 Y (Below.refl _ _)
 clear hY hC hb hYs hCV hBV hH hH1 hV hf hT hfit hnm hne hnt 
 go_enter Tryz.func29,Tryz.ntmps29
 go_upto_region 1 with fail
 rw[HY.out]
 go_wp2_with fail
 refine h.mono ?_
 rintro e W1 ⟨b,rfl,hbi,hb1⟩
 have HBI:=hQz hbi
 have HB1:=hQz (HBV.out.trans (hb1.mono HBV.out.size))
 have HV1:=hQz hb1
 have c0:=s0 W1 hb1
 clear h hb1 hbi b0 b1 b2
 cases b
 case false=>
  have HNO:Hid (FitsB s f t x false):=⟨(fun h=>by cases h),fun h=>by have:=HBI.out.2 h.1;cases this⟩
  go_wp2_with fail
  go_ret
  exact⟨_,rfl,HNO.out,HB1.out⟩
 have HFS:=hQz (HBI.out.1 rfl)
 by_cases h0:0≤t
 case neg=>
  have HNO:Hid (FitsB s f t x false):=⟨(fun h=>by cases h),fun h=>absurd h.2.1 h0⟩
  have h0':t<0:=by omega
  clear h0
  go_wp2_with fail
  go_ret
  exact⟨_,rfl,HNO.out,HB1.out⟩
 by_cases h1:t<(nm:Int)
 case neg=>
  have HNO:Hid (FitsB s f t x false):=⟨(fun h=>by cases h),fun h=>absurd (by have:=h.2.2.1;rw[HNM.out]at this;exact this) h1⟩
  go_wp2_with fail
  go_ret
  exact⟨_,rfl,HNO.out,HB1.out⟩
 have hm:=HM.out HFS.out h0 h1 W1 HV1.out
 obtain⟨B,hB⟩:∃ B,fitP s.ms f 1 t x=B:=⟨_,rfl⟩
 have HYE:Hid (FitsB s f t x B):=⟨fun h=>⟨HFS.out,h0,by rw[HNM.out];exact h1,by rw[hB];exact h⟩,fun h=>by rw[←hB];exact h.2.2.2⟩
 rw[hB]at hm
 have c1:=s1 W1 HV1.out
 have c2:=s2 W1 HV1.out
 clear hB HM
 go_wp2_with fail
 refine hm.mono ?_
 rintro e W2 ⟨rfl,hb2⟩
 have HB2:=hQz (HB1.out.trans (hb2.mono HB1.out.size))
 clear hm hb2 c0 c1 c2
 go_wp2_with fail
 go_ret
 exact⟨_,rfl,HYE.out,HB2.out⟩
theorem numOK_of {s:SC} (hf:FitS s) (h:FormS s):NumOK s.ms:=by
 have h0:formM s.es.length s.ms.length s.ms=true:=by
  have h1:=h.1
  unfold formS at h1
  simp only[Bool.and_eq_true]at h1
  exact h1.2.2.1
 intro m hm x hx
 refine⟨?_,(tyOK_of hf h m hm).2 x hx⟩
 obtain⟨i,hi⟩:=List.getElem?_of_mem hm
 have h1:=allA_iff.1 h0 i m hi
 unfold goodM at h1
 rw[Bool.and_eq_true]at h1
 obtain⟨j,hj⟩:=List.getElem?_of_mem hx
 have h2:=allA_iff.1 h1.2 j x hj
 unfold goodF at h2
 simp only[Bool.and_eq_true]at h2
 have h3:=h2.2.1
 unfold fnOK at h3
 have h4:=of_decide_eq_true h3
 omega
theorem heldSc_mv {w W:World} {a b c:Value} {s:SC} (h:HeldSc w (fun b=>b<w.heap.size) a b c s) (hW:Below w.heap.size w W):HeldSc W (fun b=>b<W.heap.size) a b c s:=
 ⟨(HeldN.old h.1 fun b hb=>hW.block b hb).more fun b hb=>by have hb':b<w.heap.size:=hb;have:=hW.size;omega,(HeldN.old h.2.1 fun b hb=>hW.block b hb).more fun b hb=>by have hb':b<w.heap.size:=hb;have:=hW.size;omega,(RowsIn.old h.2.2 fun b hb=>hW.block b hb).more fun b hb=>by have hb':b<w.heap.size:=hb;have:=hW.size;omega⟩
theorem heldV_mv {w W:World} {f:Nat} {v:Value} {x:Nd} (h:HeldV w (fun b=>b<w.heap.size) f v x) (hW:Below w.heap.size w W):HeldV W (fun b=>b<W.heap.size) f v x:=
 h.mv (fun b hb=>hW.block b hb) (fun b hb=>by have hb':b<w.heap.size:=hb;have:=hW.size;omega)
def FitX (s:SC) (f:Nat) (t:Int) (x:Nd):Prop:=FormS s∧0≤t∧t<(s.ms.length:Int)∧fitP s.ms f 1 t x=true
def NmAns (s:SC) (f:Nat) (t:Int) (x:Nd) (w:World) (e:Ending) (w':World):Prop:=
 ((¬FitX s f t x∧e=.returned (.tuple #[.nilIface,.int .i64 1]))∨(FitX s f t x∧∃ v,e=.returned (.tuple #[v,.int .i64 0])∧HeldV w' (fun b=>w.heap.size≤b∧b<w'.heap.size) f v (normN s.ms f x)))∧Below w.heap.size w w'
set_option maxHeartbeats 16000000 in
set_option maxRecDepth 20000 in
theorem normalP_any (ma ea ta:Option Addr) (nm ne nt mc ec tc:Nat) (s:SC) (f:Nat) (t:Int) (w:World) (hT:Tabs w) (hnm:s.ms.length=nm) (hne:s.es.length=ne) (hnt:s.ts.length=nt) (hf:FitS s) (hH:HeldSc w (fun b=>b<w.heap.size) (.slice ma nm mc) (.slice ea ne ec) (.slice ta nt tc) s) (v:Value) (x:Nd) (hV:HeldV w (fun b=>b<w.heap.size) f v x) (hfit:FitG 100000 10000 f x) :
  Calls Tryz.prog 16 #[.agg #[.slice ma nm mc,.slice ea ne ec,.slice ta nt tc],.int .i64 t,v] w fun e w'=>NmAns s f t x w e w':=by
 obtain⟨Y,hY,hC,hb,hYs⟩:=box_new w #[.slice ma nm mc,.slice ea ne ec,.slice ta nt tc] 26
 have HY:=hQz hY
 have HBY:=hQz hb
 have hYl:w.heap.size+1=Y.heap.size:=by omega
 have h:=fitsPV_any ma ea ta nm ne nt mc ec tc s f t Y (tabs_below hT hb) hnm hne hnt hf (heldSc_mv hH hb) v x (heldV_mv hV hb) hfit
 have HCP:Hid (FitX s f t x→∀ W,Below Y.heap.size Y W→Calls Tryz.prog 30 #[v,.func (.func 31) #[] #[.pointer (some ⟨w.heap.size,0,none⟩)]] W fun e w'=>TheirAns f W (normN s.ms f x) e w'):=by
  refine(?_:_→∀ W,_→_)
  intro hx W hW
  have hw:=hb.trans (hW.mono hb.size)
  exact copied_any w.heap.size ma nm mc s.ms hnm (fun m hm=>(tyOK_of hf hx.1 m hm).1) f x v W hfit (fun _=>(good_of_fit (fun m hm y hy=>(tyOK_of hf hx.1 m hm).2 y hy) f 1 t x hx.2.1 hx.2.2.1 hx.2.2.2).2) ((hW.cell (by simp;omega)).trans (cell_at hC 0 rfl)) (heldSc_mv hH hw).1 (heldV_mv hV hw)
 have b0:=cell_at hC 0 rfl
 have b1:=cell_at hC 1 rfl
 have b2:=cell_at hC 2 rfl
 clear hY hC hb hYs hT hnm hne hnt hf hH hV hfit
 go_enter Tryz.func16,Tryz.ntmps16
 go_upto_region 1 with fail
 rw[HY.out]
 go_wp2_with fail
 refine h.mono ?_
 rintro e W1 ⟨b,rfl,hbi,hb1⟩
 have HBI:=hQz hbi
 have hw1:=HBY.out.trans (hb1.mono HBY.out.size)
 have HB1:=hQz hw1
 cases b
 case false=>
  have HE:Hid (NmAns s f t x w (.returned (.tuple #[.nilIface,.int .i64 1])) W1):=⟨.inl ⟨fun hx=>(by have:=HBI.out.2 hx;cases this),rfl⟩,hw1⟩
  clear h hbi hb1 hw1 b0 b1 b2
  go_wp2_with fail
  go_ret2
  exact HE.out
 have HX:Hid (FitX s f t x):=HBI.out.1 rfl
 have hcp:=HCP.out HX.out W1 hb1
 clear h hbi hb1 hw1 b0 b1 b2
 go_wp2_with fail
 refine hcp.mono ?_
 rintro e W2 ⟨v',rfl,hv',hb2⟩
 have HE:Hid (NmAns s f t x w (.returned (.tuple #[v',.int .i64 0])) W2):=⟨.inr ⟨HX.out,v',rfl,hv'.mv (fun _ _=>rfl) (fun b hb=>⟨by have:=hb.1;have:=HB1.out.size;omega,hb.2⟩)⟩,HB1.out.trans (hb2.mono HB1.out.size)⟩
 clear hcp hv' hb2
 go_wp2_with fail
 go_ret2
 exact HE.out
def encB (s:SC) (f:Nat) (x:Nd):List Int:=msgB s.ms f (normN s.ms f x)
def NbAns (s:SC) (f:Nat) (t:Int) (x:Nd) (w:World) (e:Ending) (w':World):Prop:=
 ((¬FitX s f t x∧e=.returned (.tuple #[.slice none 0 0,.int .i64 1]))∨(FitX s f t x∧∃ a c,e=.returned (.tuple #[.slice a (encB s f x).length c,.int .i64 0])∧BIn w' (fun b=>w.heap.size≤b∧b<w'.heap.size) a c (encB s f x)))∧Below w.heap.size w w'
set_option maxHeartbeats 16000000 in
set_option maxRecDepth 20000 in
theorem normalBytes_any (ma ea ta:Option Addr) (nm ne nt mc ec tc:Nat) (s:SC) (f:Nat) (t:Int) (w:World) (hT:Tabs w) (hnm:s.ms.length=nm) (hne:s.es.length=ne) (hnt:s.ts.length=nt) (hf:FitS s) (hH:HeldSc w (fun b=>b<w.heap.size) (.slice ma nm mc) (.slice ea ne ec) (.slice ta nt tc) s) (v:Value) (x:Nd) (hV:HeldV w (fun b=>b<w.heap.size) f v x) (hfit:FitG 100000 10000 f x) (hrng:RngG f x) (hbnd:bndN f x≤1000000000) :
  Calls Tryz.prog 20 #[.agg #[.slice ma nm mc,.slice ea ne ec,.slice ta nt tc],.int .i64 t,v] w fun e w'=>NbAns s f t x w e w':=by
 obtain⟨Y,hY,hC,hb,hYs⟩:=box_new w #[.slice ma nm mc,.slice ea ne ec,.slice ta nt tc] 26
 have HY:=hQz hY
 have HBY:=hQz hb
 have hYl:w.heap.size+1=Y.heap.size:=by omega
 have h:=normalP_any ma ea ta nm ne nt mc ec tc s f t Y (tabs_below hT hb) hnm hne hnt hf (heldSc_mv hH hb) v x (heldV_mv hV hb) hfit
 have HCO:Hid (FitX s f t x→∀ (W:World) (v':Value),Below w.heap.size w W→HeldV W (fun b=>b<W.heap.size) f v' (normN s.ms f x)→Calls Tryz.prog 43 #[.agg #[.slice ma nm mc,.slice ea ne ec,.slice ta nt tc],v'] W fun e w'=>BAns (encB s f x) W e w'):=by
  refine(?_:_→∀ (W:World) (v':Value),_→_→_)
  intro hx W v' hW hv'
  have hno:=numOK_of hf hx.1
  have hft:=norm_fit hno f 1 t x hx.2.1 hx.2.2.1 hx.2.2.2
  have hen:=encG_of hno f 1 t _ hx.2.1 hx.2.2.1 hft
  have h7:=hen.one.1
  obtain⟨fs,rfl,hg⟩:=hv'
  have hgf:=norm_fitG s.ms (bs:=100000) (bf:=10000) f x hfit
  have hgr:=norm_rng s.ms f x hrng
  have hgb:=norm_bnd s.ms f x
  have hc:=contents_any ma ea ta nm ne nt mc ec tc (normN s.ms f x) fs (msgB s.ms f (normN s.ms f x)) W hgf.s (fun _=>by obtain⟨a,cc,h⟩:=HeldG.isSl (hg h7);exact⟨a,_,cc,h⟩) (fun _ W2 hW2=>by
   have hw:=hW.trans (hW2.mono hW.size)
   exact msgB_any ma ea ta nm ne nt mc ec tc s.ms hnm (fun m hm=>(tyOK_of hf hx.1 m hm).1) f (normN s.ms f x) fs W2 hen hgr hgf (by omega) (heldSc_mv hH hw).1 (HeldG.mv (fun b hb=>hW2.block b hb) (fun b hb=>by have hb':b<W.heap.size:=hb;have:=hW2.size;omega) (hg h7)))
  have e:contB (fun _=>msgB s.ms f (normN s.ms f x)) (normN s.ms f x)=encB s f x:=by
   unfold contB
   rw[if_neg (by omega),if_pos h7]
   rfl
  rw[e]at hc
  exact hc
 have s0:∀ W,Below Y.heap.size Y W→W.cell? ⟨w.heap.size,0,none⟩=some (.slice ma nm mc):=fun W hW=>(hW.cell (by simp;omega)).trans (cell_at hC 0 rfl)
 have s1:∀ W,Below Y.heap.size Y W→W.cell? ⟨w.heap.size,1,none⟩=some (.slice ea ne ec):=fun W hW=>(hW.cell (by simp;omega)).trans (cell_at hC 1 rfl)
 have s2:∀ W,Below Y.heap.size Y W→W.cell? ⟨w.heap.size,2,none⟩=some (.slice ta nt tc):=fun W hW=>(hW.cell (by simp;omega)).trans (cell_at hC 2 rfl)
 have b0:=s0 Y (Below.refl _ _)
 have b1:=s1 Y (Below.refl _ _)
 have b2:=s2 Y (Below.refl _ _)
 clear hY hC hb hYs hT hnm hne hnt hf hH hV hfit hrng hbnd
 go_enter Tryz.func20,Tryz.ntmps20
 go_upto_region 1 with fail
 rw[HY.out]
 go_wp2_with fail
 refine h.mono ?_
 rintro e W1 ⟨hor,hb1⟩
 have hw1:=HBY.out.trans (hb1.mono HBY.out.size)
 have HB1:=hQz hw1
 clear h b0 b1 b2
 rcases hor with ⟨hno,rfl⟩ | ⟨hx,v',rfl,hv'⟩
 ·have HE:Hid (NbAns s f t x w (.returned (.tuple #[.slice none 0 0,.int .i64 1])) W1):=⟨.inl ⟨hno,rfl⟩,hw1⟩
  clear hno hw1 hb1 s0 s1 s2 HCO
  go_wp2_with fail
  go_ret2
  exact HE.out
 ·have hco:=HCO.out hx W1 v' hw1 (hv'.mv (fun _ _=>rfl) (fun b hb=>hb.2))
  have c0:=s0 W1 hb1
  have c1:=s1 W1 hb1
  have c2:=s2 W1 hb1
  have HX:=hQz hx
  clear hv' hx hw1 hb1 s0 s1 s2 HCO
  go_wp2_with fail
  refine hco.mono ?_
  rintro e W2 ⟨a,c,rfl,hbi,hb2⟩
  have HE:Hid (NbAns s f t x w (.returned (.tuple #[.slice a (encB s f x).length c,.int .i64 0])) W2):=⟨.inr ⟨HX.out,a,c,rfl,hbi.mv (fun _ _=>rfl) (fun b hb=>⟨by have:=hb.1;have:=HB1.out.size;omega,hb.2⟩)⟩,HB1.out.trans (hb2.mono HB1.out.size)⟩
  clear hco hbi hb2 c0 c1 c2
  go_wp2_with fail
  go_ret2
  exact HE.out
def encE (s:SC) (f:Nat) (x:Nd):Int:=if (encB s f x).length≤4096 then 0 else 4
def encLz (s:SC) (f:Nat) (x:Nd):List Int:=if (encB s f x).length≤4096 then encB s f x else []
def EncAns (s:SC) (f:Nat) (t:Int) (x:Nd) (w:World) (e:Ending) (w':World):Prop:=
 ((¬FitX s f t x∧e=.returned (.tuple #[.slice none 0 0,.int .i64 1]))∨(FitX s f t x∧∃ a c,e=.returned (.tuple #[.slice a (encLz s f x).length c,.int .i64 (encE s f x)])∧BIn w' (fun b=>w.heap.size≤b∧b<w'.heap.size) a c (encLz s f x)))∧Below w.heap.size w w'
set_option maxHeartbeats 16000000 in
set_option maxRecDepth 20000 in
theorem encode_any (ma ea ta:Option Addr) (nm ne nt mc ec tc:Nat) (s:SC) (f:Nat) (t:Int) (w:World) (hT:Tabs w) (hnm:s.ms.length=nm) (hne:s.es.length=ne) (hnt:s.ts.length=nt) (hf:FitS s) (hH:HeldSc w (fun b=>b<w.heap.size) (.slice ma nm mc) (.slice ea ne ec) (.slice ta nt tc) s) (v:Value) (x:Nd) (hV:HeldV w (fun b=>b<w.heap.size) f v x) (hfit:FitG 100000 10000 f x) (hrng:RngG f x) (hbnd:bndN f x≤1000000000) :
  Calls Tryz.prog 12 #[.agg #[.slice ma nm mc,.slice ea ne ec,.slice ta nt tc],.int .i64 t,v] w fun e w'=>EncAns s f t x w e w':=by
 obtain⟨Y,hY,hC,hb,hYs⟩:=box_new w #[.slice ma nm mc,.slice ea ne ec,.slice ta nt tc] 26
 have HY:=hQz hY
 have HBY:=hQz hb
 have hYl:w.heap.size+1=Y.heap.size:=by omega
 have h:=normalBytes_any ma ea ta nm ne nt mc ec tc s f t Y (tabs_below hT hb) hnm hne hnt hf (heldSc_mv hH hb) v x (heldV_mv hV hb) hfit hrng hbnd
 have b0:=cell_at hC 0 rfl
 have b1:=cell_at hC 1 rfl
 have b2:=cell_at hC 2 rfl
 clear hY hC hb hYs hT hnm hne hnt hf hH hV hfit hrng hbnd
 go_enter Tryz.func12,Tryz.ntmps12
 go_upto_region 1 with fail
 rw[HY.out]
 go_wp2_with fail
 refine h.mono ?_
 rintro e W1 ⟨hor,hb1⟩
 have hw1:=HBY.out.trans (hb1.mono HBY.out.size)
 clear h b0 b1 b2
 rcases hor with ⟨hno,rfl⟩ | ⟨hx,a,c,rfl,hbi⟩
 ·have HE:Hid (EncAns s f t x w (.returned (.tuple #[.slice none 0 0,.int .i64 1])) W1):=⟨.inl ⟨hno,rfl⟩,hw1⟩
  clear hno hw1 hb1
  go_wp2_with fail
  go_ret2
  exact HE.out
 ·by_cases hl:(encB s f x).length≤4096
  ·have hl':¬(4096:Int)<((encB s f x).length:Int):=by omega
   have HE:Hid (EncAns s f t x w (.returned (.tuple #[.slice a (encB s f x).length c,.int .i64 0])) W1):=by
    refine⟨.inr ⟨hx,?_⟩,hw1⟩
    have e1:encE s f x=0:=if_pos hl
    have e2:encLz s f x=encB s f x:=if_pos hl
    rw[e1,e2]
    exact⟨a,c,rfl,hbi.mv (fun _ _=>rfl) (fun b hb=>⟨by have:=hb.1;have:=HBY.out.size;omega,hb.2⟩)⟩
   generalize (encB s f x).length=L at *
   clear hx hbi hw1 hb1 hl
   go_wp2_with fail
   go_ret2
   exact HE.out
  ·have hl':(4096:Int)<((encB s f x).length:Int):=by omega
   have HE:Hid (EncAns s f t x w (.returned (.tuple #[.slice none 0 0,.int .i64 4])) W1):=by
    refine⟨.inr ⟨hx,?_⟩,hw1⟩
    have e1:encE s f x=4:=if_neg hl
    have e2:encLz s f x=[]:=if_neg hl
    rw[e1,e2]
    exact⟨none,0,rfl,BIn.nil _ _⟩
   generalize (encB s f x).length=L at *
   clear hx hbi hw1 hb1 hl
   go_wp2_with fail
   go_ret2
   exact HE.out
end Go.Proofs.YteajlfgbmefncaaGreatDoor
