/-
  Walks and plain words (NoC).
-/
import Derived.Test.YteajlfgbmefncaaGreatDoorN16
import Derived.Test.YteajlfgbmefncaaGreatDoorN17
import Derived.Test.YteajlfgbmefncaaGreatDoorN0
import Derived.Deep.Cut
import Derived.Deep.DeepCutAuto
namespace Go.Proofs.YteajlfgbmefncaaGreatDoor
set_option linter.unusedVariables false
open Go.ChangeShapes Go.WideShapes Go.ChangeAt Go.RowKit

section
variable {P:Program} {ops:Array Oper} {Q:Exit→Act→World→Prop} {md:Region.Mode} {S:World→Prop}
theorem T_two (i j:Nat) {oi oj:Oper} {fuel:Nat} {l:Array Bool} {a:Act} {w:World} (hr:Region.ready md ops l=[i,j]) (hi:ops[i]? = some oi) (hj:ops[j]? = some oj)
  (h:∀ K':Act→World→Prop,Shut (∀ a w,S w→(S w→wpAnyH P md ops Q S fuel (l.setIfInBounds i true) a w)→K' a w)→if Region.wanted oi (yielded ops a.tmps)=true then Oper.wp P oi a w K' Q else K' (a.put oi.dst undef) w)
  (h':∀ K':Act→World→Prop,Shut (∀ a w,S w→(S w→wpAnyH P md ops Q S fuel (l.setIfInBounds j true) a w)→K' a w)→if Region.wanted oj (yielded ops a.tmps)=true then Oper.wp P oj a w K' Q else K' (a.put oj.dst undef) w):wpAnyH P md ops Q S (fuel+1) l a w:=
 wpAnyH_ready hr (by simp) (AllReadyH.cons hi h (AllReadyH.cons hj h' AllReadyH.nil))
end
theorem set3V {w:World} {B:Nat} {T:TypeId} {z0 z1 z2:Value} (h:w.heap[B]? = some (.cells #[z0,z1,z2] T (0,0))) (x0 x1 x2:Value) :
  ∃ Y,((w.setCell ⟨B,0,none⟩ x0).setCell ⟨B,1,none⟩ x1).setCell ⟨B,2,none⟩ x2=Y∧Y.heap[B]? = some (.cells #[x0,x1,x2] T (0,0))∧Below B w Y:=by
 have h1:(w.setCell ⟨B,0,none⟩ x0).heap[B]? = some (.cells #[x0,z1,z2] T (0,0)):=setCell_heap h _
 have h2:((w.setCell ⟨B,0,none⟩ x0).setCell ⟨B,1,none⟩ x1).heap[B]? = some (.cells #[x0,x1,z2] T (0,0)):=setCell_heap h1 _
 have h3:(((w.setCell ⟨B,0,none⟩ x0).setCell ⟨B,1,none⟩ x1).setCell ⟨B,2,none⟩ x2).heap[B]? = some (.cells #[x0,x1,x2] T (0,0)):=setCell_heap h2 _
 exact⟨_,rfl,h3,((((Below.refl B w).setCell (p:=⟨B,0,none⟩) (Nat.le_refl _) x0).setCell (p:=⟨B,1,none⟩) (Nat.le_refl _) x1).setCell (p:=⟨B,2,none⟩) (Nat.le_refl _) x2)⟩
theorem made_V (n:Nat):madeCells (Value.nilIface).cells n=(List.replicate n Value.nilIface).toArray:=by
 apply Array.ext
 ·simp[madeCells,Value.cells]
 ·intro i h1 h2
  simp[madeCells,Value.cells,Nat.mod_one]
theorem run_makeV (w:World) (n:Nat) (h:n≤100000) :
  (Instr.makeSlice 77 (.int .i64 (n:Int)) (.int .i64 (n:Int))).run Tryz.prog w=.ok (.slice (some ⟨w.heap.size,0,none⟩) n n) (w.alloc (.cells (List.replicate n Value.nilIface).toArray 31)):=by
 obtain⟨i0,hi,hz0,hz1,hz2⟩:=info_parts infoVV
 have:=run_make (P:=Tryz.prog) w 77 31 i0 .nilIface Tryz.underlying77 hi hz0 .i64 .i64 n n (by omega) (by omega) (by rw[hz2];omega) (by omega)
 rw[this]
 simp only[Int.toNat_natCast,hz1,Nat.mul_one]
 rw[made_V]
theorem set_made {vs:List Value} {k q:Nat} (hq:vs.length=q) (z v:Value):((vs++List.replicate (k+1) z).toArray.setIfInBounds q v)=((vs++[v])++List.replicate k z).toArray:=by
 subst hq
 apply Array.toList_inj.1
 simp[List.replicate_succ]
theorem norm_is {ms:List MD} {f:Nat} {x:Nd} (h:x.kind=7) (h0:f=0→x.fields=[]):normN ms f x=⟨x.kind,x.n,x.u,x.b,x.s,x.type,keptL ms (normF ms f) x.type x.fields⟩:=by
 cases f with
 | zero=>
  obtain⟨a,b,c,d,e,g,i⟩:=x
  have:=h0 rfl
  dsimp only at this
  subst this
  rfl
 | succ f=>unfold normN;rw[if_pos h];rfl
theorem keptL_len (ms:List MD) (g:Nd→Nd) (t:Int) (l:List (Int × List Nd)):(keptL ms g t l).length≤l.length:=by
 unfold keptL
 rw[List.length_map]
 exact List.length_filter_le _ _
def Filled (w:World) (B f:Nat) (g:Nd→Nd) (ys:List Nd) (vs:List Value):Prop:=vs.length=ys.length∧∀ (k:Nat) (y:Nd) (v:Value),ys[k]? = some y→vs[k]? = some v→HeldV w (fun b=>B<b∧b<w.heap.size) f v (g y)
theorem Filled.mv {w w':World} {B f:Nat} {g:Nd→Nd} {ys:List Nd} {vs:List Value} (h:Filled w B f g ys vs) (hb:∀ b,B<b→b<w.heap.size→w'.heap[b]? = w.heap[b]?) (hs:w.heap.size≤w'.heap.size):Filled w' B f g ys vs:=
 ⟨h.1,fun k y v h1 h2=>(h.2 k y v h1 h2).mv (fun b hb'=>hb b hb'.1 hb'.2) (fun b hb'=>⟨hb'.1,by have:=hb'.2;omega⟩)⟩
theorem Filled.snoc {w:World} {B f:Nat} {g:Nd→Nd} {ys:List Nd} {vs:List Value} (h:Filled w B f g ys vs) {y:Nd} {v:Value} (hv:HeldV w (fun b=>B<b∧b<w.heap.size) f v (g y)):Filled w B f g (ys++[y]) (vs++[v]):=by
 refine⟨by simp[h.1],fun k x u h1 h2=>?_⟩
 rcases Nat.lt_or_ge k ys.length with hl | hl
 ·rw[List.getElem?_append_left hl]at h1
  rw[List.getElem?_append_left (by rw[h.1];exact hl)]at h2
  exact h.2 k x u h1 h2
 ·rw[List.getElem?_append_right hl]at h1
  rw[List.getElem?_append_right (by rw[h.1];exact hl),h.1]at h2
  have hj:k - ys.length=0:=by
   have:=(List.getElem?_eq_some_iff.1 h1).1
   simpa using this
  rw[hj]at h1 h2
  have e1:y=x:=by simpa using h1
  have e2:v=u:=by simpa using h2
  subst e1 e2
  exact hv
theorem Filled.vals {w:World} {B f n:Nat} {g:Nd→Nd} {ys:List Nd} {vs:List Value} {T:TypeId} (h:Filled w B f g ys vs) (hB:w.heap[B]? = some (.cells vs.toArray T (0,0))) (hn:ys.length=n):ValsG valS w (fun b=>B≤b∧b<w.heap.size) f (.slice (some ⟨B,0,none⟩) n n) (ys.map g):=by
 have hBl:=(Array.getElem?_eq_some_iff.1 hB).1
 refine⟨_,_,by rw[List.length_map,hn],by rw[List.length_map,hn];exact Nat.le_refl _,.inr ⟨B,0,rfl,⟨Nat.le_refl _,hBl⟩,fun j x hj=>?_⟩⟩
 rw[List.getElem?_map]at hj
 obtain⟨y,hy,rfl⟩:=Option.map_eq_some_iff.1 hj
 obtain⟨v,hv⟩:∃ v,vs[j]? = some v:=⟨_,List.getElem?_eq_getElem (by rw[h.1];exact(List.getElem?_eq_some_iff.1 hy).1)⟩
 obtain⟨fs,rfl,hd⟩:=h.2 j y v hy hv
 refine⟨fs,fun i u hu=>?_,fun hk=>HeldG.mv (fun _ _=>rfl) (fun b hb=>⟨Nat.le_of_lt hb.1,hb.2⟩) (hd (by simpa [valS]using hk))⟩
 have hi:i=0:=by
  have:=(List.getElem?_eq_some_iff.1 hu).1
  simp[valS]at this;exact this
 subst hi
 have e:ival (g y) fs=u:=by simpa [valS]using hu
 subst e
 simp only[World.cell?,hB]
 simpa [valS]using hv
set_option maxHeartbeats 64000000 in
set_option maxRecDepth 20000 in
theorem copied_any (cp:Nat) (ma:Option Addr) (nm mc:Nat) (ms:List MD) (hnm:ms.length=nm) (hml:∀ m∈ms,m.fields.length≤100000):∀ (f:Nat) (x:Nd) (v:Value) (w:World),FitG 100000 10000 f x→(x.kind=7→GoodT ms f x)→w.cell? ⟨cp,0,none⟩=some (.slice ma nm mc)→HeldM w (fun b=>b<w.heap.size) (.slice ma nm mc) ms→HeldV w (fun b=>b<w.heap.size) f v x→
  Calls Tryz.prog 30 #[v,.func (.func 31) #[] #[.pointer (some ⟨cp,0,none⟩)]] w fun e w'=>TheirAns f w (normN ms f x) e w':=by
 intro f
 induction f using Nat.strongRecOn with
 | _ f ih=>
 intro x v w hfit hgood hcp hHM hHV
 obtain⟨fs,rfl,hHG⟩:=hHV
 have t4:=fun W=>taText x fs W
 have t5:=fun W=>taBytes x fs W
 have t7:=fun W=>taMessage x fs W
 obtain⟨v,hv⟩:∃ v,ival x fs=v:=⟨_,rfl⟩
 rw[hv]at t4 t5 t7 ⊢
 by_cases h4:x.kind=4
 ·rw[if_pos h4,decide_eq_true h4]at t4
  have hr:normN ms f x=x:=norm_else ms f x (by omega)
  have hi:Value.iface 71 (.string (mkB x.s))=ival x fs:=by unfold ival;rw[h4];rfl
  have hcl:=cloneB_any (mkB x.s) w (by rw[mkB_size];have:=hfit.s;omega)
  have HE:Hid (∀ W,Below w.heap.size w W→TheirAns f w (normN ms f x) (.returned (.iface 71 (.string (mkB x.s)))) W):=fun W hW=>by
   rw[hr,hi]
   exact⟨_,rfl,⟨fs,rfl,fun h=>absurd h (by omega)⟩,hW⟩
  clear t5 t7 hHG hHM hfit hgood ih hr hi hv hcp
  go_enter Tryz.func30,Tryz.ntmps30
  go_wp2_with fail
  refine hcl.mono ?_
  rintro e W ⟨rfl,hW⟩
  clear hcl
  go_wp2_with fail
  go_ret
  exact HE.out _ hW
 rw[if_neg h4,decide_eq_false h4]at t4
 by_cases h5:x.kind=5
 ·rw[if_pos h5,decide_eq_true h5]at t5
  have hr:normN ms f x=x:=norm_else ms f x (by omega)
  have hi:Value.iface 72 (.string (mkB x.s))=ival x fs:=by unfold ival;rw[h5];rfl
  have hcl:=cloneB_any (mkB x.s) w (by rw[mkB_size];have:=hfit.s;omega)
  have HE:Hid (∀ W,Below w.heap.size w W→TheirAns f w (normN ms f x) (.returned (.iface 72 (.string (mkB x.s)))) W):=fun W hW=>by
   rw[hr,hi]
   exact⟨_,rfl,⟨fs,rfl,fun h=>absurd h (by omega)⟩,hW⟩
  clear t7 hHG hHM hfit hgood ih hr hi hv hcp
  go_enter Tryz.func30,Tryz.ntmps30
  go_wp2_with fail
  refine hcl.mono ?_
  rintro e W ⟨rfl,hW⟩
  clear hcl
  go_wp2_with fail
  go_ret
  exact HE.out _ hW
 rw[if_neg h5,decide_eq_false h5]at t5
 by_cases h7:x.kind=7
 case neg=>
  rw[if_neg h7,decide_eq_false h7]at t7
  have hr:normN ms f x=x:=norm_else ms f x h7
  obtain⟨Y,hY,hC,hb,hYs⟩:=box_new w #[.int .i64 0,.slice none 0 0,.string ⟨#[]⟩] 76
  have HY:=hQz hY
  have HB:=hQz hb
  have HE:Hid (TheirAns f w (normN ms f x) (.returned v) Y):=by
   rw[hr,←hv]
   exact⟨_,rfl,⟨fs,rfl,fun h=>absurd h h7⟩,hb⟩
  clear hHG hHM hfit hgood ih hr hv hcp hY hC hb hYs
  go_enter Tryz.func30,Tryz.ntmps30
  go_upto_region 8 with fail
  rw[HY.out]
  go_wp2_with fail
  go_ret
  exact HE.out
 rw[if_pos h7,decide_eq_true h7]at t7
 replace hgood:=hgood h7
 replace hHG:=hHG h7
 have hcpl:cp<w.heap.size:=cell_ltB hcp
 obtain⟨xa,xc,rfl⟩:=HeldG.isSl hHG
 obtain⟨xkind,xn,xu,xb,xs,xt,fl⟩:=x
 dsimp only at h4 h5 h7 hHG hfit t4 t5 t7 hv
 subst h7
 have hxs:=hfit.s
 dsimp only at hxs
 obtain⟨n,hn⟩:∃ n,fl.length=n:=⟨_,rfl⟩
 have HN:=hQz hn
 rw[hn]at hHG t7
 obtain⟨q,hq⟩:∃ q:Nat,xt=(q:Int):=⟨xt.toNat,by
  have h1:0≤xt∧xt<(ms.length:Int):=by
   cases f with
   | zero=>exact hgood
   | succ f=>exact hgood.1
  omega⟩
 subst hq
 have hqn:q<ms.length:=by
  have h1:0≤(q:Int)∧(q:Int)<(ms.length:Int):=by
   cases f with
   | zero=>exact hgood
   | succ f=>exact hgood.1
  omega
 obtain⟨md,hmd⟩:∃ md,ms[q]? = some md:=⟨_,List.getElem?_eq_getElem hqn⟩
 have HFO:Hid (fieldsOf ms (q:Int)=md.fields):=by
  refine(?_:_=_)
  unfold fieldsOf
  rw[Int.toNat_natCast,hmd]
 have HMD:=hQz hmd
 have HML:Hid (md.fields.length≤100000):=hml md (List.mem_of_getElem? hmd)
 have HHG:=hQz hHG
 have HFIT:=hQz hfit
 have HGOOD:=hQz hgood
 have HCP:=hQz hcp
 have HHM:=hQz hHM
 have HIH:=hQz ih
 have HNRM:Hid (normN ms f ⟨7,xn,xu,xb,xs,(q:Int),fl⟩=⟨7,xn,xu,xb,xs,(q:Int),keptL ms (normF ms f) (q:Int) fl⟩):=norm_is rfl (fun h=>by subst h;exact hHG.1)
 have hcl:=fun W=>cloneB_any (mkB xs) W (by rw[mkB_size];omega)
 obtain⟨Y,hY,hC,hb,hYs⟩:=box_new w #[.int .i64 (q:Int),.slice xa n xc,.string (mkB xs)] 76
 have HY:=hQz hY
 have HBY:=hQz hb
 have HCY:=hQz hC
 have hYl:w.heap.size+1≤Y.heap.size:=by omega
 have HYS:=hQz hYs
 have s0:∀ W,Below Y.heap.size Y W→W.cell? ⟨w.heap.size,0,none⟩=some (.int .i64 (q:Int)):=fun W hW=>(hW.cell (by simp;omega)).trans (cell_at hC 0 rfl)
 have s2:∀ W,Below Y.heap.size Y W→W.cell? ⟨w.heap.size,2,none⟩=some (.string (mkB xs)):=fun W hW=>(hW.cell (by simp;omega)).trans (cell_at hC 2 rfl)
 clear hn hHG hfit ih hC hb hYs hY hv hmd hgood hqn hHM hcp h4 h5
 go_enter Tryz.func30,Tryz.ntmps30
 go_upto_region 10 with fail
 rw[HY.out]
 go_cut [11] (fun v wx=>∃ D:Nat,v=.pointer (some ⟨D,0,none⟩)∧wx.heap[D]? = some (.cells #[.int .i64 (q:Int),.slice none 0 0,.string (mkB xs)] 76 (0,0))∧Y.heap.size≤D∧Below Y.heap.size Y wx)
 case first=>
  clear HIH
  have hS0:Below Y.heap.size Y Y.drew:=(Below.refl _ _).drew
  refine wp_region_held_drew (S:=fun W=>Below Y.heap.size Y W) (by kernel_rfl) hS0 (fun _=>?_)
  refine T_on 0 (.pointer (some ⟨w.heap.size,0,none⟩)) rfl (by kernel_rfl) (fun _ _ _ h=>h) hS0 (fun W hW=>by go_simp) ?_
  refine T_on 1 (.int .i64 (q:Int)) rfl (by kernel_rfl) (fun _ _ _ h=>h) hS0 (fun W hW=>by have c:=s0 W hW;go_simp) ?_
  refine T_on 2 (.pointer (some ⟨w.heap.size,2,none⟩)) rfl (by kernel_rfl) (fun _ _ _ h=>h) hS0 (fun W hW=>by go_simp) ?_
  refine T_on 3 (.string (mkB xs)) rfl (by kernel_rfl) (fun _ _ _ h=>h) hS0 (fun W hW=>by have c:=s2 W hW;go_simp) ?_
  refine T_two 4 6 (by kernel_rfl) rfl rfl (fun K hK=>?_) (fun K hK=>?_)
  ·go_simp
   refine(hcl _).mono ?_
   rintro e W9 ⟨rfl,hW9⟩
   have hS1:=hS0.trans (hW9.mono hS0.size)
   clear hS0 hW9
   dsimp only
   refine hK.out _ _ hS1 (fun _=>?_)
   clear hK K
   refine T_on 5 (.agg #[.int .i64 (q:Int),.slice none 0 0,.string (mkB xs)]) rfl (by kernel_rfl) (fun _ _ _ h=>h) hS1 (fun W hW=>by go_simp) ?_
   refine T_call 6 (by kernel_rfl) rfl (fun K hK=>?_)
   go_simp
   have hS2:Below Y.heap.size Y (W9.alloc (.cells #[.int .i64 0,.slice none 0 0,.string ⟨#[]⟩] 76)):=hS1.alloc hS1.size _
   refine hK.out _ _ hS2 (fun _=>?_)
   clear hK K
   have hA:=alloc_heap_new W9 (.cells #[.int .i64 0,.slice none 0 0,.string ⟨#[]⟩] 76)
   have k0:=cell_at hA 0 rfl
   have k1:=cell_at hA 1 rfl
   have k2:=cell_at hA 2 rfl
   have l0:(W9.alloc (.cells #[.int .i64 0,.slice none 0 0,.string ⟨#[]⟩] 76)).frozen? ⟨W9.heap.size,0,none⟩=false:=frz_at hA 0
   have l1:(W9.alloc (.cells #[.int .i64 0,.slice none 0 0,.string ⟨#[]⟩] 76)).frozen? ⟨W9.heap.size,1,none⟩=false:=frz_at hA 1
   have l2:(W9.alloc (.cells #[.int .i64 0,.slice none 0 0,.string ⟨#[]⟩] 76)).frozen? ⟨W9.heap.size,2,none⟩=false:=frz_at hA 2
   obtain⟨Qw,hQ,hQc,hQb⟩:=set3V hA (.int .i64 (q:Int)) (.slice none 0 0) (.string (mkB xs))
   have hS3:Below Y.heap.size Y Qw:=hS2.trans (hQb.mono hS1.size)
   have hDl:Y.heap.size≤W9.heap.size:=hS1.size
   have HQ:=hQz hQ
   clear hQ hA hS1
   generalize W9.alloc (.cells #[.int .i64 0,.slice none 0 0,.string ⟨#[]⟩] 76)=WA at *
   refine T_call 7 (by kernel_rfl) rfl (fun K hK=>?_)
   go_simp
   rw[HQ.out]
   refine hK.out _ _ hS3 (fun _=>?_)
   clear hK K
   refine wpAnyH_done (by kernel_rfl) ?_ _
   go_simp
   go_wp2_with fail
   go_meet
   exact⟨W9.heap.size,rfl,hQc,hDl,hS3⟩
  ·go_simp
   have hS1:Below Y.heap.size Y ((Y.alloc (.cells #[.int .i64 0,.slice none 0 0,.string ⟨#[]⟩] 76)).drew):=((Below.refl _ Y).alloc (Nat.le_refl _) _).drew
   have hAs:((Y.alloc (.cells #[.int .i64 0,.slice none 0 0,.string ⟨#[]⟩] 76)).drew).heap.size=Y.heap.size+1:=by simp
   have hA:((Y.alloc (.cells #[.int .i64 0,.slice none 0 0,.string ⟨#[]⟩] 76)).drew).heap[Y.heap.size]? = some (.cells #[.int .i64 0,.slice none 0 0,.string ⟨#[]⟩] 76 (0,0)):=alloc_heap_new Y (.cells #[.int .i64 0,.slice none 0 0,.string ⟨#[]⟩] 76)
   refine hK.out _ _ hS1 (fun _=>?_)
   clear hK K
   generalize (Y.alloc (.cells #[.int .i64 0,.slice none 0 0,.string ⟨#[]⟩] 76)).drew=WA at *
   refine T_call 4 (by kernel_rfl) rfl (fun K hK=>?_)
   go_simp
   refine(hcl _).mono ?_
   rintro e W9 ⟨rfl,hW9⟩
   have hS2:Below Y.heap.size Y W9:=hS1.trans (hW9.mono (by omega))
   have hA2:=(hW9.block Y.heap.size (by omega)).trans hA
   clear hW9 hA
   dsimp only
   refine hK.out _ _ hS2 (fun _=>?_)
   clear hK K
   refine T_on 5 (.agg #[.int .i64 (q:Int),.slice none 0 0,.string (mkB xs)]) rfl (by kernel_rfl) (fun _ _ _ h=>h) hS2 (fun W hW=>by go_simp) ?_
   have k0:=cell_at hA2 0 rfl
   have k1:=cell_at hA2 1 rfl
   have k2:=cell_at hA2 2 rfl
   have l0:W9.frozen? ⟨Y.heap.size,0,none⟩=false:=frz_at hA2 0
   have l1:W9.frozen? ⟨Y.heap.size,1,none⟩=false:=frz_at hA2 1
   have l2:W9.frozen? ⟨Y.heap.size,2,none⟩=false:=frz_at hA2 2
   obtain⟨Qw,hQ,hQc,hQb⟩:=set3V hA2 (.int .i64 (q:Int)) (.slice none 0 0) (.string (mkB xs))
   have hS3:Below Y.heap.size Y Qw:=hS2.trans hQb
   have HQ:=hQz hQ
   clear hQ hA2
   refine T_call 7 (by kernel_rfl) rfl (fun K hK=>?_)
   go_simp
   rw[HQ.out]
   refine hK.out _ _ hS3 (fun _=>?_)
   clear hK K
   refine wpAnyH_done (by kernel_rfl) ?_ _
   go_simp
   go_wp2_with fail
   go_meet
   exact⟨Y.heap.size,rfl,hQc,Nat.le_refl _,hS3⟩
 case rest=>
 obtain⟨D,rfl,hDq,hYD,hS1⟩:=hcut
 generalize wc=Z at *
 have HDZ:=hQz hDq
 have hDl:D<Z.heap.size:=(Array.getElem?_eq_some_iff.1 hDq).1
 have HBZ:=hQz (HBY.out.trans (hS1.mono (by omega)))
 have HCZ:Hid (Z.heap[w.heap.size]? = some (.cells #[.int .i64 (q:Int),.slice xa n xc,.string (mkB xs)] 76 (0,0))):=(hS1.block _ (by omega)).trans HCY.out
 have v1:=cell_at HCZ.out 1 rfl
 clear hDq hS1 s0 s2 HCY hcl t4 t5 t7
 go_wp2_with fail
 clear v1
 go_loopw [52] (fun i wr=>∃ (j:Nat) (fv:Value) (rs:List (List Value)),i=.int .i64 (j:Int)∧j≤n∧Below D Z wr∧wr.heap[D]? = some (.cells #[.int .i64 (q:Int),fv,.string (mkB xs)] 76 (0,0))∧Gr (FRs valS (f - 1)) wr Z.heap.size 79 2 fv (keptL ms (normF ms f) (q:Int) (fl.take j)) rs) (fun i _=>n - (intOf i).toNat)
 case atStart=>exact⟨0,_,[],rfl,Nat.zero_le _,Below.refl _ _,HDZ.out,Gr.nil _ _ _ _ _⟩
 case round=>
  generalize wr=w1 at *
  obtain⟨j,fv,rs,rfl,hj,hbel,hbx,hgr⟩:=hrel
  obtain⟨fva,fvc,hfv⟩:=own_slice hgr.own
  obtain⟨kl,hkl⟩:∃ kl,(keptL ms (normF ms f) (q:Int) (fl.take j)).length=kl:=⟨_,rfl⟩
  rw[hkl]at hfv
  subst hfv
  have hkb:kl≤j:=by
   have h1:=keptL_len ms (normF ms f) (q:Int) (fl.take j)
   rw[List.length_take]at h1
   omega
  have HKL:=hQz hkl
  have HBE:=hQz hbel
  have HBX:=hQz hbx
  have HGR:=hQz hgr
  have hws:=hbel.size
  have hBw:=HBZ.out.trans (hbel.mono (by omega))
  have HBW:=hQz hBw
  have hA1:=(hbel.block w.heap.size (by omega)).trans HCZ.out
  have HA1:=hQz hA1
  have HFB:Hid (∀ b,(Value.slice fva kl fvc).ownBlock=some b→Z.heap.size≤b∧b<w1.heap.size):=hgr.blk
  clear hbel hbx hgr hkl HDZ
  by_cases hjn:j<n
  ·obtain⟨y,hy⟩:∃ y,fl[j]? = some y:=⟨_,List.getElem?_eq_getElem (by have:=HN.out;omega)⟩
   obtain⟨f',g,go,gc,va,vc,hf',hsl,hg,e0,e1,hvals⟩:=HeldG.at HHG.out (W:=w1) (fun b hb=>hBw.block b hb) hy
   subst hf'
   rw[HN.out]at hsl
   obtain⟨rfl,rfl⟩:=slice_two hsl
   have HTK:=hQz (keptL_step (ms:=ms) (g:=normF ms (f'+1)) (t:=(q:Int)) hy)
   obtain⟨hfl1,hfl2⟩:=HFIT.out.2.2 y (List.mem_of_getElem? hy)
   have hn1:n≤10000:=by have h1:=HFIT.out.2.1;have h2:=HN.out;dsimp only at h1;omega
   obtain⟨⟨fi,fd,hfi⟩,hne,hgk⟩:=HGOOD.out.2 y (List.mem_of_getElem? hy)
   obtain⟨ynum,ys⟩:=y
   dsimp only at hvals e0 e1 hfl1 hfl2 hfi hne hgk HTK
   rw[HFO.out]at hfi HTK
   have hfd:=firstF_is hfi
   obtain⟨mv,hmv⟩:∃ n,ys.length=n:=⟨_,rfl⟩
   have HMV:=hQz hmv
   have hmv0:0<mv:=by rw[←hmv];exact List.length_pos_iff.2 hne
   rw[hmv]at e1 hvals hfl1
   have HFL2:=hQz hfl2
   have HGK:=hQz hgk
   have HVA:=hQz hvals
   have hj0:(0:Int)≤(j:Int):=by omega
   have hj1:(j:Int)<(n:Int):=by omega
   have hwq:=wQz j (by omega)
   have hgN:g<w.heap.size:=hg
   obtain⟨KB,hKB⟩:∃ b,keepB md.fields (ynum,ys)=b:=⟨_,rfl⟩
   rw[hKB]at HTK
   have HKC:Hid (∀ W,Below w.heap.size w W→Calls Tryz.prog 31 #[.agg #[.int .i64 (q:Int),.slice (some ⟨g,go,none⟩) n xc,.string (mkB xs)],.agg #[.int .i64 ynum,.slice va mv vc],.pointer (some ⟨cp,0,none⟩)] W fun e w'=>e=.returned (.bool KB)∧Below W.heap.size W w'):=by
    refine(?_:∀ W,_→_)
    intro W hW
    rw[←hKB]
    exact keep_any cp ma none none nm 0 0 mc 0 0 ms q md (some ⟨g,go,none⟩) n xc xs fd ynum va mv vc ys f' W hnm HMD.out HML.out ((hW.cell (by simpa using hcpl)).trans HCP.out) ((HeldN.old HHM.out fun b hb=>hW.block b hb).more fun b hb=>by have hb':b<w.heap.size:=hb;have:=hW.size;omega) hfd hmv hmv0 (ValsG.mv (fun b hb=>hW.block b hb) (fun b hb=>by have hb':b<w.heap.size:=hb;have:=hW.size;omega) hvals)
   clear hsl hy hvals hmv hfl2 hg hfi hne hgk hfd hKB
   have hC:(w1.alloc (.cells #[.int .i64 ynum,.slice va mv vc] 79)).heap[w1.heap.size]? = some (.cells #[.int .i64 ynum,.slice va mv vc] 79 (0,0)):=alloc_heap_new _ _
   have hCb:Below w1.heap.size w1 (w1.alloc (.cells #[.int .i64 ynum,.slice va mv vc] 79)):=(Below.refl _ w1).alloc (Nat.le_refl _) _
   go_upto_region 14 with fail
   generalize (w1.alloc (.cells #[.int .i64 ynum,.slice va mv vc] 79))=X at *
   have HBX1:=hQz hCb
   have HCX:=hQz hC
   have hXs:w1.heap.size+1≤X.heap.size:=by have:=(Array.getElem?_eq_some_iff.1 hC).1;omega
   have hAX:=(hCb.block w.heap.size (by omega)).trans hA1
   have a0:=cell_at hAX 0 rfl
   have a1:=cell_at hAX 1 rfl
   have a2:=cell_at hAX 2 rfl
   have x0:=cell_at hC 0 rfl
   have x1:=cell_at hC 1 rfl
   have hkc:=HKC.out X (hBw.trans (hCb.mono hBw.size))
   clear hC hCb e0 e1 hAX hA1 hBw
   go_wp2_with fail
   refine hkc.mono ?_
   rintro e U ⟨rfl,hbU⟩
   have hUs:=hbU.size
   have HBU:=hQz (HBX1.out.trans (hbU.mono (by omega)))
   have HFU:Hid (U.heap[w1.heap.size]? = some (.cells #[.int .i64 ynum,.slice va mv vc] 79 (0,0))):=(hbU.block _ (by omega)).trans HCX.out
   clear hkc hbU a0 a1 a2 x0 x1 HKC HBX1 HCX
   cases KB
   case false=>
    have HGU:Hid (Gr (FRs valS f') U Z.heap.size 79 2 (.slice fva kl fvc) (keptL ms (normF ms (f'+1)) (q:Int) (fl.take (j+1))) rs):=by
     refine(?_:Gr _ _ _ _ _ _ _ _)
     rw[HTK.out,if_neg (by simp),List.append_nil]
     exact Gr.keep (mvsF valS f') HGR.out (fun b _ hb=>HBU.out.block b hb) HBU.out.size
    have HDU:Hid (U.heap[D]? = some (.cells #[.int .i64 (q:Int),.slice fva kl fvc,.string (mkB xs)] 76 (0,0))):=(HBU.out.block _ (by omega)).trans HBX.out
    have HBD:Hid (Below D Z U):=HBE.out.trans (HBU.out.mono (by omega))
    go_wp2_with fail
    go_roundw
    case rel=>exact⟨j+1,_,_,by go_num,by omega,HBD.out,HDU.out,HGU.out⟩
    case measure=>simp[intOf];omega
   case true=>
    have u1:=cell_at HFU.out 1 rfl
    have hmk:=run_makeV U mv (by omega)
    obtain⟨B,hB,hBC,hBb,hBs⟩:=box_new U (List.replicate mv Value.nilIface).toArray 31
    rw[hB]at hmk
    have HBB:=hQz hBb
    have HBC:=hQz hBC
    have b1:B.cell? ⟨w1.heap.size,1,none⟩=some (.slice va mv vc):=(hBb.cell (by simp;omega)).trans u1
    have hBl:U.heap.size+1≤B.heap.size:=by omega
    clear hB hBC hBb hBs
    go_wp2_with fail
    clear u1 b1 hmk
    go_loopw [68] (fun i wr=>∃ (p:Nat) (vs:List Value),i=.int .i64 (p:Int)∧p≤mv∧Below U.heap.size U wr∧U.heap.size+1≤wr.heap.size∧wr.heap[U.heap.size]? = some (.cells (vs++List.replicate (mv - p) Value.nilIface).toArray 31 (0,0))∧Filled wr U.heap.size f' (normN ms f') (ys.take p) vs) (fun i _=>mv - (intOf i).toNat)
    case atStart=>exact⟨0,[],rfl,Nat.zero_le _,HBB.out,hBl,HBC.out,⟨rfl,fun k y v h=>by simp at h⟩⟩
    case round=>
     generalize wr=w2 at *
     obtain⟨p,vs,rfl,hp,hbel,hws2,hbx,hfi⟩:=hrel
     have HB2:=hQz hbel
     have HX2:=hQz hbx
     have HFI:=hQz hfi
     have hBw2:=HBW.out.trans ((HBU.out.trans (hbel.mono HBU.out.size)).mono HBW.out.size)
     have HBW2:=hQz hBw2
     have hvl:vs.length=p:=by rw[hfi.1,List.length_take,HMV.out];omega
     have HVL:=hQz hvl
     clear hbel hbx hfi hvl HBB HBC
     by_cases hpn:p<mv
     ·obtain⟨c,hc⟩:∃ c,ys[p]? = some c:=⟨_,List.getElem?_eq_getElem (by have:=HMV.out;omega)⟩
      obtain⟨g2,o2,c2,fs2,hsl2,hg2,hcl,hheld⟩:=ValsG.at HVA.out hc
      rw[HMV.out]at hsl2
      obtain⟨rfl,rfl⟩:=slice_two hsl2
      have hg2N:g2<w.heap.size:=hg2
      have HTK2:Hid (ys.take (p+1)=ys.take p++[c]):=take_snoc hc
      have hcl2:=hcl.old (hBw2.block g2 hg2N)
      have hfitc:=HFL2.out c (List.mem_of_getElem? hc)
      obtain⟨hck,hcg⟩:=HGK.out c (List.mem_of_getElem? hc)
      have y0:w2.cell? ⟨g2,o2+p,none⟩=some (ival c fs2):=by have:=hcl2 0 _ rfl;simpa [valS]using this
      have hcall:=HIH.out f' (by omega) c (ival c fs2) w2 hfitc hcg ((hBw2.cell (by simpa using hcpl)).trans HCP.out) ((HeldN.old HHM.out fun b hb=>hBw2.block b hb).more fun b hb=>by have hb':b<w.heap.size:=hb;have:=hBw2.size;omega) ⟨fs2,rfl,fun hk=>HeldG.mv (fun b hb=>hBw2.block b hb) (fun b hb=>by have hb':b<w.heap.size:=hb;have:=hBw2.size;omega) (hheld (by simp[valS,hk]))⟩
      obtain⟨v2,hv2⟩:∃ v,ival c fs2=v:=⟨_,rfl⟩
      rw[hv2]at y0 hcall
      have hp0:(0:Int)≤(p:Int):=by omega
      have hp1:(p:Int)<(mv:Int):=by omega
      have hwp:=wQz p (by omega)
      clear hsl2 hc hg2 hcl hheld hcl2 hfitc hcg hBw2 hv2
      go_wp2_with fail
      refine hcall.mono ?_
      rintro e W5 ⟨v5,rfl,hv5,hb5⟩
      obtain⟨U5,u5,rfl⟩:∃ U u,v5=.iface U u:=by
       rcases val_form hv5 with h | h
       ·obtain⟨fsx,hvx,_⟩:=hv5
        rw[hvx]at h
        unfold ival at h
        rw[norm_kind]at h
        repeat' split at h
        all_goals first | (cases h;done) | omega
       ·exact h
      have hW5:=hb5.size
      have hX5:=(hb5.block U.heap.size (by omega)).trans HX2.out
      obtain⟨k,hk⟩:∃ k,mv - p=k+1:=⟨mv - p - 1,by omega⟩
      rw[hk]at hX5
      have c5:W5.cell? ⟨U.heap.size,p,none⟩=some .nilIface:=by
       simp only[World.cell?,hX5]
       have hvl:=HVL.out
       simp[hvl,List.replicate_succ]
      have f5:W5.frozen? ⟨U.heap.size,p,none⟩=false:=frz_at hX5 p
      obtain⟨Q,hQ⟩:∃ Q,W5.setCell ⟨U.heap.size,p,none⟩ (.iface U5 u5)=Q:=⟨_,rfl⟩
      have hQp:Q.heap[U.heap.size]? = some (.cells ((vs++[Value.iface U5 u5])++List.replicate (mv - (p+1)) Value.nilIface).toArray 31 (0,0)):=by
       rw[←hQ,setCell_heap hX5,set_made HVL.out,show mv - (p+1)=k by omega]
      have hQo:∀ b,b≠U.heap.size→Q.heap[b]? = W5.heap[b]?:=fun b hb=>by rw[←hQ];exact Below.heap_setCell _ _ _ _ hb
      have hQs:Q.heap.size=W5.heap.size:=by rw[←hQ];simp
      have hQb:Below U.heap.size U Q:=by rw[←hQ];exact(HB2.out.trans (hb5.mono (by omega))).setCell (p:=⟨U.heap.size,p,none⟩) (Nat.le_refl _) _
      have HFQ:Hid (Filled Q U.heap.size f' (normN ms f') (ys.take (p+1)) (vs++[Value.iface U5 u5])):=by
       refine(?_:Filled _ _ _ _ _ _)
       rw[HTK2.out]
       refine Filled.snoc (HFI.out.mv (fun b h1 h2=>(hQo b (by omega)).trans (hb5.block b h2)) (by omega)) ?_
       exact hv5.mv (fun b hb=>hQo b (by have:=hb.1;omega)) (fun b hb=>⟨by have:=hb.1;omega,by have:=hb.2;omega⟩)
      have HQ:=hQz hQ
      have HQP:=hQz hQp
      have HQB:=hQz hQb
      have hQl:U.heap.size+1≤Q.heap.size:=by omega
      clear hQ hQp hQo hQs hQb hv5 hb5 hX5 hcall y0
      go_wp2_with fail
      rw[HQ.out]
      clear c5 f5
      try go_wp2_with fail
      go_roundw
      case rel=>exact⟨p+1,_,by go_num,by omega,HQB.out,hQl,HQP.out,HFQ.out⟩
      case measure=>simp[intOf];omega
     ·have hpn':¬(p:Int)<(mv:Int):=by omega
      have hpe:p=mv:=by omega
      have hte:ys.take p=ys:=List.take_of_length_le (by have:=HMV.out;omega)
      rw[hte]at HFI
      have hX3:=HX2.out
      rw[hpe,Nat.sub_self,List.replicate_zero,List.append_nil]at hX3
      have hVF:=HFI.out.vals hX3 HMV.out
      have hB3:=HBU.out.trans (HB2.out.mono HBU.out.size)
      have HB3:=hQz hB3
      have hbx2:w2.heap[D]? = some (.cells #[.int .i64 (q:Int),.slice fva kl fvc,.string (mkB xs)] 76 (0,0)):=(hB3.block _ (by omega)).trans HBX.out
      have HBX2:=hQz hbx2
      have r0:w2.cell? ⟨w1.heap.size,0,none⟩=some (.int .i64 ynum):=cell_at ((HB2.out.block _ (by omega)).trans HFU.out) 0 rfl
      have p1:=cell_at hbx2 1 rfl
      have hGW:Gr (FRs valS f') (w2.alloc (.cells #[.int .i64 ynum,.slice (some ⟨U.heap.size,0,none⟩) mv mv] 79)) Z.heap.size 79 2 (.slice fva kl fvc) (keptL ms (normF ms (f'+1)) (q:Int) (fl.take j)) rs:=Gr.keep (mvsF valS f') HGR.out (fun b _ hb=>(alloc_heap_old _ _ _ (by have:=hB3.size;omega)).trans (hB3.block b hb)) (by simp;have:=hB3.size;omega)
      have hxr:FRs valS f' (w2.alloc (.cells #[.int .i64 ynum,.slice (some ⟨U.heap.size,0,none⟩) mv mv] 79)) (FarV (w2.alloc (.cells #[.int .i64 ynum,.slice (some ⟨U.heap.size,0,none⟩) mv mv] 79)) Z.heap.size (.slice fva kl fvc)) (ynum,ys.map (normN ms f')) [.int .i64 ynum,.slice (some ⟨U.heap.size,0,none⟩) mv mv]:=⟨_,rfl,ValsG.mv (fun b hb=>alloc_heap_old _ _ _ hb.2) (fun b hb=>⟨by have:=hb.1;omega,by simp;have:=hb.2;omega,fun e=>by have:=HFB.out _ e;have:=hb.1;omega⟩) hVF⟩
      have HGW:=hQz hGW
      have HXR:=hQz hxr
      have hAs:(w2.alloc (.cells #[.int .i64 ynum,.slice (some ⟨U.heap.size,0,none⟩) mv mv] 79)).heap.size=w2.heap.size+1:=by simp
      have HAN:Hid ((w2.alloc (.cells #[.int .i64 ynum,.slice (some ⟨U.heap.size,0,none⟩) mv mv] 79)).heap[w2.heap.size]? = some (.cells #[.int .i64 ynum,.slice (some ⟨U.heap.size,0,none⟩) mv mv] 79 (0,0))):=alloc_heap_new _ _
      have HOW:Hid ((w2.alloc (.cells #[.int .i64 ynum,.slice (some ⟨U.heap.size,0,none⟩) mv mv] 79)).ownsRow Z.heap.size 79 2 (.slice fva kl fvc) kl (rs.flatMap id)):=by
       refine(?_:World.ownsRow _ _ _ _ _ _ _)
       have:=hGW.own
       rw[HKL.out]at this
       exact this
      have h12:=hB3.size
      clear hte hVF hbx2 hGW hxr HIH HVA HFL2 HX2 hX3 hB3 HFI
      go_wp2_with (at_builtin;refine row_pushL (T:=79) (t:=74) Tryz.underlying74 infoVF rfl (by decide) HOW.out (by rw[hAs];omega) [.int .i64 ynum,.slice (some ⟨U.heap.size,0,none⟩) mv mv] rfl (by simp[Value.oneCell']) w2.heap.size HAN.out rfl _ _ rfl rfl rfl (by unfold maxLen;omega) (by omega) ?_)
      intro g6 cap6 W6 hown6 hgr6 hat6 hlt6
      have hgrA:w2.grownBy W6 (Value.slice fva kl fvc).ownBlock:=((World.grownBy_alloc _ _ _).trans hgr6)
      have hp6:W6.heap[D]? = some (.cells #[.int .i64 (q:Int),.slice fva kl fvc,.string (mkB xs)] 76 (0,0)):=((hgrA.block _ (by omega) (fun e=>by have:=HFB.out _ e.symm;omega)).trans HBX2.out)
      have c61:W6.cell? ⟨D,1,none⟩=some (.slice fva kl fvc):=(cell_at hp6 1 rfl)
      have f61:W6.frozen? ⟨D,1,none⟩=false:=(frz_at hp6 1)
      have HOWN6:=hQz hown6
      have HGR6:=hQz hgr6
      have HGRA:=hQz hgrA
      have HP6:=hQz hp6
      have HAT6:=hQz hat6
      clear hown6 hgr6 hgrA hp6 hat6
      have HGP:=hQz (HGW.out.push (mvsF valS f') (x:=(ynum,ys.map (normN ms f'))) (r:=[.int .i64 ynum,.slice (some ⟨U.heap.size,0,none⟩) mv mv]) rfl HXR.out HKL.out (by rw[List.flatMap_id];exact HOWN6.out) HGR6.out (by rw[hAs];exact HAT6.out))
      have hg6:Z.heap.size≤g6:=by
       rcases HAT6.out with h | h
       ·exact(HFB.out _ h).1
       ·omega
      obtain⟨Q,hQ⟩:∃ Q,W6.setCell ⟨D,1,none⟩ (.slice (some ⟨g6,0,none⟩) (kl+1) cap6)=Q:=⟨_,rfl⟩
      have hQp:Q.heap[D]? = some (.cells #[.int .i64 (q:Int),.slice (some ⟨g6,0,none⟩) (kl+1) cap6,.string (mkB xs)] 76 (0,0)):=by rw[←hQ,setCell_heap HP6.out];rfl
      have hQo:∀ b,b≠D→Q.heap[b]? = W6.heap[b]?:=fun b hb=>by rw[←hQ];exact Below.heap_setCell _ _ _ _ hb
      have hQs:Q.heap.size=W6.heap.size:=by rw[←hQ];simp
      have hB6:Below D w2 W6:=(Below.refl _ w2).grown HGRA.out (by omega) (fun b hb=>by have:=(HFB.out b hb).1;omega)
      have hQb:Below D w2 Q:=by rw[←hQ];exact hB6.setCell (p:=⟨D,1,none⟩) (Nat.le_refl _) _
      have HQ:=hQz hQ
      have HQP:=hQz hQp
      have HQB:=hQz (HBE.out.trans ((HB3.out.mono (by omega)).trans hQb))
      have HGQ:Hid (Gr (FRs valS f') Q Z.heap.size 79 2 (.slice (some ⟨g6,0,none⟩) (kl+1) cap6) (keptL ms (normF ms (f'+1)) (q:Int) (fl.take (j+1))) (rs++[[.int .i64 ynum,.slice (some ⟨U.heap.size,0,none⟩) mv mv]])):=by
       refine(?_:Gr _ _ _ _ _ _ _ _)
       rw[HTK.out,if_pos trivial]
       exact HGP.out.keep (mvsF valS f') (fun b hb _=>hQo b (by omega)) (by omega)
      clear hQ hQp hQo hQs hQb hB6 hg6
      try go_wp2_with fail
      rw[HQ.out]
      clear c61 f61
      try go_wp2_with fail
      go_roundw
      case rel=>exact⟨j+1,_,_,by go_num,by omega,HQB.out,HQP.out,HGQ.out⟩
      case measure=>simp[intOf];omega
  ·have hjn':¬(j:Int)<(n:Int):=by omega
   have hte:fl.take j=fl:=List.take_of_length_le (by have:=HN.out;omega)
   rw[hte]at HGR
   have r0:=cell_at HBX.out 0 rfl
   have r1:=cell_at HBX.out 1 rfl
   have r2:=cell_at HBX.out 2 rfl
   have HRES:Hid (TheirAns f w (normN ms f ⟨7,xn,xu,xb,xs,(q:Int),fl⟩) (.returned (.iface 76 (.agg #[.int .i64 (q:Int),.slice fva kl fvc,.string (mkB xs)]))) w1):=by
    refine(?_:TheirAns _ _ _ _ _)
    rw[HNRM.out]
    refine⟨_,rfl,⟨.slice fva kl fvc,rfl,fun _=>HGR.out.fields (fun h0=>?_) _ (fun b h1 h2=>⟨by omega,h2⟩)⟩,HBW.out⟩
    subst h0
    have h9:fl=[]:=HHG.out.1
    rw[h9];rfl
   clear hte hBw hA1
   go_wp2_with fail
   go_ret
   exact HRES.out
end Go.Proofs.YteajlfgbmefncaaGreatDoor
