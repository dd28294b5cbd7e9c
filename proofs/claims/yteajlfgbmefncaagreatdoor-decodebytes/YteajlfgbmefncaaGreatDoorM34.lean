/-
  The walk over the program's toRead: what a field's values are read from.
-/
import Derived.Test.YteajlfgbmefncaaGreatDoorM33
namespace Go.Proofs.YteajlfgbmefncaaGreatDoor
set_option linter.unusedVariables false
open Go.ChangeShapes Go.WideShapes Go.ChangeAt Go.RowKit

/-- a field's row that leads to elder memory -/
def WRo (w0 : World) (w : World) (S : Nat → Prop) (x : WF) (r : List Value) : Prop := ∃ a c, r = [.int .i64 x.num, .int .i64 x.ty, .int .u64 x.n, .slice a x.d.length c] ∧ BIn w0 (fun b => b < w0.heap.size) a c x.d
theorem mvsO (w0 : World) : Mvs (WRo w0) := fun w w' S S' x r h _ _ => h
theorem Gr.olds {w0 w : World} {base : Nat} {T : TypeId} {v : Value} {l : List WF} {rs : List (List Value)} (h : Gr (WRo w0) w base T 4 v l rs) (hb : Below w0.heap.size w0 w) : WfIn w (fun b => b < w.heap.size) v l := by
  refine SlIn.imp (h.held (fun b => b < w.heap.size) fun b hb => (h.blk b hb).2) (fun _ h => h) fun x g o hg hx => ?_
  obtain ⟨r, hc, a, c, rfl, hd⟩ := hx
  exact ⟨a, c, hc, hd.mv (fun b hb' => hb.block b hb') (fun b hb' => by have h1 : b < w0.heap.size := hb'; have := hb.size; omega)⟩
/-- what a call answers that picks fields -/
def RdAns (l : List WF) (w : World) (e : Ending) (w' : World) : Prop := ∃ ad c, e = .returned (.slice ad l.length c) ∧ WfIn w' (fun b => b < w'.heap.size) (.slice ad l.length c) l ∧ Below w.heap.size w w'
theorem ownL_step {fd : FD} {l : List WF} {k : Nat} {x : WF} (h : l[k]? = some x) : ownL fd (l.take (k + 1)) = ownL fd (l.take k) ++ (if decide (x.num = fd.num) = true then [x] else []) := by
  unfold ownL
  rw [show l.take (k + 1) = l.take k ++ [x] from take_snoc h, List.filter_append]
  congr 1
  cases hd : decide (x.num = fd.num) <;> simp [hd]
theorem wfIn_one {w : World} {S : Nat → Prop} {B : Nat} {x : WF} {a : Option Addr} {c : Nat} (hB : w.heap[B]? = some (.cells #[.int .i64 x.num, .int .i64 x.ty, .int .u64 x.n, .slice a x.d.length c] 123 (0, 0))) (hS : S B) (hd : BIn w S a c x.d) : WfIn w S (.slice (some ⟨B, 0, none⟩) 1 1) [x] := by
  refine ⟨_, _, rfl, Nat.le_refl _, .inr ⟨B, 0, rfl, hS, fun j y hj => ?_⟩⟩
  have hj0 : j = 0 := by
    have := (List.getElem?_eq_some_iff.1 hj).1
    simp at this; omega
  subst hj0
  have e : x = y := by simpa using hj
  subst e
  refine ⟨a, c, fun i u hu => ?_, hd⟩
  simp only [World.cell?, hB]
  simpa using hu
set_option maxHeartbeats 16000000 in
set_option maxRecDepth 20000 in
theorem toRead_any (fd : FD) (ad : Option Addr) (n c : Nat) (l : List WF) (w : World) (hn : l.length = n) (hn1 : n ≤ 100000) (hW : WfIn w (fun b => b < w.heap.size) (.slice ad n c) l) (hok : ∀ x ∈ l, x.d.length ≤ 100000) :
    Calls Tryz.prog 28 #[.agg #[.int .i64 fd.num, .string (mkB fd.name), .int .i64 fd.kind, .bool fd.rep, .int .i64 fd.type], .slice ad n c] w fun e w' => RdAns (toRead fd l) w e w' := by
  obtain ⟨V, hV', hD, hVb, hVs⟩ := box_new w #[.int .i64 fd.num, .string (mkB fd.name), .int .i64 fd.kind, .bool fd.rep, .int .i64 fd.type] 51
  have HV := Lib.hid hV'
  have HDA := Lib.hid hD
  have HBV := Lib.hid hVb
  have hVl : w.heap.size + 1 = V.heap.size := by omega
  have HWI := Lib.hid hW
  have HN := Lib.hid hn
  have HOK := Lib.hid hok
  clear hW hn hok hV' hD hVb hVs
  go_enter Tryz.func28, Tryz.ntmps28
  go_upto_region 1 with fail
  rw [HV.out]
  go_wp2_with fail
  go_loopw [5, 11] (fun ov i wr => ∃ (k : Nat) (o' : Value) (rs : List (List Value)), o' = ov ∧ i = .int .i64 (k : Int) ∧ k ≤ n ∧ Below V.heap.size V wr ∧ Gr (WRo w) wr V.heap.size 123 4 o' (ownL fd (l.take k)) rs) (fun _ i _ => n - (intOf i).toNat)
  case atStart => exact ⟨0, _, [], rfl, rfl, Nat.zero_le _, Below.refl _ _, Gr.nil _ _ _ _ _⟩
  case round =>
    generalize wr = w1 at *
    obtain ⟨k, o', rs, rfl, rfl, hk, hbel, hgr⟩ := hrel
    obtain ⟨oa, oc, hov⟩ := own_slice hgr.own
    obtain ⟨m, hm⟩ : ∃ m, (ownL fd (l.take k)).length = m := ⟨_, rfl⟩
    rw [hm] at hov
    subst hov
    have hmk : m ≤ 100000 := by
      have h1 : (ownL fd (l.take k)).length ≤ (l.take k).length := List.length_filter_le _ _
      rw [List.length_take] at h1
      omega
    have HM := Lib.hid hm
    have HBE := Lib.hid hbel
    have HGR := Lib.hid hgr
    have hws := hbel.size
    have hBw := HBV.out.trans (hbel.mono HBV.out.size)
    have HBW := Lib.hid hBw
    have HFB : Hid (∀ b, (Value.slice oa m oc).ownBlock = some b → V.heap.size ≤ b ∧ b < w1.heap.size) := hgr.blk
    have hdA := (hbel.block w.heap.size (by omega)).trans HDA.out
    clear hgr hm
    by_cases hkn : k < n
    · obtain ⟨x, hx⟩ : ∃ x, l[k]? = some x := ⟨_, List.getElem?_eq_getElem (by have := HN.out; omega)⟩
      obtain ⟨g, go, gc, hsl, hg, da, dc, hcl, hbi⟩ := SlIn.at HWI.out hx
      rw [HN.out] at hsl
      obtain ⟨rfl, rfl⟩ := slice_two hsl
      have hgN : g < w.heap.size := hg
      have hcl2 := hcl.old (hBw.block g hgN)
      have HTK := Lib.hid (ownL_step (fd := fd) hx)
      have HBI := Lib.hid hbi
      have e0 : w1.cell? ⟨g, go + k * 4, none⟩ = some (.int .i64 x.num) := by have := hcl2 0 _ rfl; simpa using this
      have e1 : w1.cell? ⟨g, go + k * 4 + 1, none⟩ = some (.int .i64 x.ty) := by have := hcl2 1 _ rfl; simpa using this
      have e2 : w1.cell? ⟨g, go + k * 4 + 2, none⟩ = some (.int .u64 x.n) := by have := hcl2 2 _ rfl; simpa using this
      have e3 : w1.cell? ⟨g, go + k * 4 + 3, none⟩ = some (.slice da x.d.length dc) := by have := hcl2 3 _ rfl; simpa using this
      have hk0 : (0 : Int) ≤ (k : Int) := by omega
      have hk1 : (k : Int) < (n : Int) := by omega
      have hwk : IntKind.i64.wrap ((k : Int) + 1) = (k : Int) + 1 := by rw [IntKind.wrap_i64]; omega
      obtain ⟨X, hX, hXC, hXb, hXs⟩ := box_new w1 #[.int .i64 x.num, .int .i64 x.ty, .int .u64 x.n, .slice da x.d.length dc] 123
      have HX := Lib.hid hX
      have hVX := hbel.trans (hXb.mono hws)
      have HVX := Lib.hid hVX
      have hdX := (hXb.block _ (by omega)).trans hdA
      have q0 : X.cell? ⟨w.heap.size, 0, none⟩ = some (.int .i64 fd.num) := cell_at hdX 0 rfl
      have p0 : X.cell? ⟨w1.heap.size, 0, none⟩ = some (.int .i64 x.num) := cell_at hXC 0 rfl
      have p1 : X.cell? ⟨w1.heap.size, 1, none⟩ = some (.int .i64 x.ty) := cell_at hXC 1 rfl
      have p2 : X.cell? ⟨w1.heap.size, 2, none⟩ = some (.int .u64 x.n) := cell_at hXC 2 rfl
      have p3 : X.cell? ⟨w1.heap.size, 3, none⟩ = some (.slice da x.d.length dc) := cell_at hXC 3 rfl
      have HGX : Hid (Gr (WRo w) X V.heap.size 123 4 (.slice oa m oc) (ownL fd (l.take k)) rs) := HGR.out.keep (mvsO w) (fun b _ hb => hXb.block b hb) hXb.size
      have hXl : w1.heap.size + 1 = X.heap.size := by omega
      clear hsl hg hcl hbi hcl2 hx hX hXC hXb hXs hBw hVX hdX hdA hbel
      go_upto_region 5 with fail
      rw [HX.out]
      clear e0 e1 e2 e3
      by_cases hnum : x.num = fd.num
      · have d1 : (x.num == fd.num) = true := by simp [hnum]
        have HNUM := Lib.hid hnum
        clear hnum
        obtain ⟨A, hA, hAC, hAb, hAs⟩ := box_new X #[.int .i64 x.num, .int .i64 x.ty, .int .u64 x.n, .slice da x.d.length dc] 123
        have HA := Lib.hid hA
        have HGA : Hid (Gr (WRo w) A V.heap.size 123 4 (.slice oa m oc) (ownL fd (l.take k)) rs) := HGX.out.keep (mvsO w) (fun b _ hb => hAb.block b hb) hAb.size
        have HOW : Hid (A.ownsRow V.heap.size 123 4 (.slice oa m oc) m (rs.flatMap id)) := by
          refine (?_ : World.ownsRow _ _ _ _ _ _ _)
          have := HGA.out.own
          rw [HM.out] at this
          exact this
        have HAC := Lib.hid hAC
        have HBA := Lib.hid (HVX.out.trans (hAb.mono HVX.out.size))
        have hAl : V.heap.size ≤ A.heap.size := by omega
        clear hA hAC hAb hAs
        go_wp2_with (at_builtin; rw [HA.out]; refine row_pushL (T := 123) (t := 83) Tryz.underlying83 infoWF rfl (by decide) HOW.out hAl [.int .i64 x.num, .int .i64 x.ty, .int .u64 x.n, .slice da x.d.length dc] rfl (by simp [Value.oneCell']) X.heap.size HAC.out rfl _ _ rfl rfl rfl (by unfold maxLen; omega) (by omega) ?_; intro g6 cap6 W6 hown6 hgr6 hat6 hlt6)
        have HG6 : Hid (Gr (WRo w) W6 V.heap.size 123 4 (.slice (some ⟨g6, 0, none⟩) (m + 1) cap6) (ownL fd (l.take (k + 1))) (rs ++ [[.int .i64 x.num, .int .i64 x.ty, .int .u64 x.n, .slice da x.d.length dc]])) := by
          refine (?_ : Gr _ _ _ _ _ _ _ _)
          rw [HTK.out, if_pos (decide_eq_true HNUM.out)]
          exact HGA.out.push (mvsO w) (x := x) (r := [.int .i64 x.num, .int .i64 x.ty, .int .u64 x.n, .slice da x.d.length dc]) rfl ⟨da, dc, rfl, HBI.out⟩ HM.out hown6 hgr6 hat6
        have HB6 : Hid (Below V.heap.size V W6) := HBA.out.grown hgr6 (by omega) (fun b hb => (HFB.out b hb).1)
        clear hown6 hgr6 hat6 hlt6 p0 p1 p2 p3 q0
        go_wp2_with fail
        go_roundw
        case rel => exact ⟨k + 1, _, _, rfl, by go_num, by omega, HB6.out, HG6.out⟩
        case measure => simp [intOf]; omega
      · have d1 : (x.num == fd.num) = false := by simp [hnum]
        have HG6 : Hid (Gr (WRo w) X V.heap.size 123 4 (.slice oa m oc) (ownL fd (l.take (k + 1))) rs) := by
          refine (?_ : Gr _ _ _ _ _ _ _ _)
          rw [HTK.out, if_neg (by simp [hnum]), List.append_nil]
          exact HGX.out
        go_wp2_with fail
        go_roundw
        case rel => exact ⟨k + 1, _, _, rfl, by go_num, by omega, HVX.out, HG6.out⟩
        case measure => simp [intOf]; omega
    · have hkn' : ¬ (k : Int) < (n : Int) := by omega
      have hte : l.take k = l := List.take_of_length_le (by have := HN.out; omega)
      rw [hte] at HGR HM
      have hWo := HGR.out.olds hBw
      rw [show (Value.slice oa m oc) = .slice oa m oc from rfl] at hWo
      have HWO := Lib.hid hWo
      have q2 : w1.cell? ⟨w.heap.size, 2, none⟩ = some (.int .i64 fd.kind) := cell_at hdA 2 rfl
      have q3 : w1.cell? ⟨w.heap.size, 3, none⟩ = some (.bool fd.rep) := cell_at hdA 3 rfl
      by_cases hsm : fd.rep = true ∨ m < 2
      · have HRD : Hid (toRead fd l = ownL fd l) := by
          refine (?_ : _ = _)
          unfold toRead; rw [HM.out, if_pos hsm]
        clear hte hWo hdA hBw hbel
        cases hrep : fd.rep with
        | true =>
          rw [hrep] at q3
          clear hrep hsm
          go_wp2_with fail
          go_ret
          rw [HRD.out]
          exact ⟨oa, oc, by rw [HM.out]; rfl, by rw [HM.out]; exact HWO.out, HBW.out⟩
        | false =>
          rw [hrep] at q3 hsm
          have hm2 : m < 2 := by rcases hsm with h | h; · cases h
                                 · exact h
          have hm3 : (m : Int) < 2 := by omega
          clear hrep hsm
          go_wp2_with fail
          go_ret
          rw [HRD.out]
          exact ⟨oa, oc, by rw [HM.out]; rfl, by rw [HM.out]; exact HWO.out, HBW.out⟩
      · have hrep : fd.rep = false := by
          cases h : fd.rep
          · rfl
          · exact absurd (.inl h) hsm
        have hm2 : 2 ≤ m := by
          rcases Nat.lt_or_ge m 2 with h | h
          · exact absurd (.inr h) hsm
          · exact h
        have hm3 : ¬ (m : Int) < 2 := by omega
        rw [hrep] at q3
        obtain ⟨x, hx⟩ : ∃ x, (ownL fd l)[m - 1]? = some x := ⟨_, List.getElem?_eq_getElem (by have := HM.out; omega)⟩
        have HRD : Hid (toRead fd l = [⟨x.num, x.ty, x.n, if fd.kind = 10 then (ownL fd l).flatMap WF.d else x.d⟩]) := by
          refine (?_ : _ = _)
          unfold toRead
          have e : (ownL fd l).getLast? = some x := by rw [List.getLast?_eq_getElem?, HM.out]; exact hx
          rw [HM.out, if_neg (by rw [hrep]; simp; omega), e]
        obtain ⟨g, go, gc, hsl, hg, da, dc, hcl, hbi⟩ := SlIn.at hWo hx
        rw [HM.out] at hsl
        obtain ⟨rfl, rfl⟩ := slice_two hsl
        have e0 : w1.cell? ⟨g, go + (m - 1) * 4, none⟩ = some (.int .i64 x.num) := by have := hcl 0 _ rfl; simpa using this
        have e1 : w1.cell? ⟨g, go + (m - 1) * 4 + 1, none⟩ = some (.int .i64 x.ty) := by have := hcl 1 _ rfl; simpa using this
        have e2 : w1.cell? ⟨g, go + (m - 1) * 4 + 2, none⟩ = some (.int .u64 x.n) := by have := hcl 2 _ rfl; simpa using this
        have e3 : w1.cell? ⟨g, go + (m - 1) * 4 + 3, none⟩ = some (.slice da x.d.length dc) := by have := hcl 3 _ rfl; simpa using this
        have hwm : IntKind.i64.wrap ((m : Int) - 1) = ((m - 1 : Nat) : Int) := by rw [IntKind.wrap_i64]; omega
        have hm4 : (0 : Int) ≤ ((m - 1 : Nat) : Int) := by omega
        have hm5 : ((m - 1 : Nat) : Int) < (m : Int) := by omega
        obtain ⟨X, hX, hXC, hXb, hXs⟩ := box_new w1 #[.int .i64 x.num, .int .i64 x.ty, .int .u64 x.n, .slice da x.d.length dc] 123
        have HX := Lib.hid hX
        have HXC := Lib.hid hXC
        have HXB := Lib.hid hXb
        have HBX := Lib.hid (hBw.trans (hXb.mono hBw.size))
        have r2 : X.cell? ⟨w.heap.size, 2, none⟩ = some (.int .i64 fd.kind) := (hXb.cell (by simp; omega)).trans q2
        have HDI : Hid (BIn X (fun b => b < X.heap.size) da dc x.d) := hbi.mv (fun b hb => hXb.block b hb) (fun b hb => by have hb' : b < w1.heap.size := hb; omega)
        have HWX : Hid (WfIn X (fun b => b < X.heap.size) (.slice (some ⟨g, go, none⟩) m oc) (ownL fd l)) := by
          refine (?_ : WfIn _ _ _ _)
          exact SlIn.imp hWo (fun b hb => by have hb' : b < w1.heap.size := hb; omega) (fun y g o hg hy => by
          obtain ⟨a, c, h1, h2⟩ := hy
          exact ⟨a, c, h1.old (hXb.block g hg), h2.mv (fun b hb => hXb.block b hb) (fun b hb => by have hb' : b < w1.heap.size := hb; omega)⟩)
        have hXl : w1.heap.size + 1 = X.heap.size := by omega
        have HOKL : Hid (∀ x ∈ ownL fd l, x.d.length ≤ 100000) := fun x hx => HOK.out x (List.mem_filter.1 hx).1
        clear hte hWo hdA hBw hbel hx hsl hg hcl hbi hsm hX hXC hXb hXs
        go_upto_region 11 with fail
        rw [HX.out]
        clear e0 e1 e2 e3 q2 q3
        by_cases h10 : fd.kind = 10
        · rw [if_pos h10] at HRD
          rw [h10] at r2
          clear h10 hrep
          have hj := joined_any (some ⟨g, go, none⟩) m oc (ownL fd l) X HM.out (by omega) HWX.out HOKL.out
          go_wp2_with fail
          refine hj.mono ?_
          rintro e W ⟨ja, jc, rfl, hjb, hWb⟩
          have hWs := hWb.size
          have hWC := (hWb.block w1.heap.size (by omega)).trans HXC.out
          have c3 : W.cell? ⟨w1.heap.size, 3, none⟩ = some (.slice da x.d.length dc) := cell_at hWC 3 rfl
          have f3 : W.frozen? ⟨w1.heap.size, 3, none⟩ = false := frz_at hWC 3
          obtain ⟨J, hJ⟩ : ∃ J, (ownL fd l).flatMap WF.d = J := ⟨_, rfl⟩
          rw [hJ] at hjb HRD ⊢
          obtain ⟨Q, hQ⟩ : ∃ Q, W.setCell ⟨w1.heap.size, 3, none⟩ (.slice ja J.length jc) = Q := ⟨_, rfl⟩
          have hQC : Q.heap[w1.heap.size]? = some (.cells #[.int .i64 x.num, .int .i64 x.ty, .int .u64 x.n, .slice ja J.length jc] 123 (0, 0)) := by rw [← hQ]; exact setCell_heap hWC _
          have hQo : ∀ b, b ≠ w1.heap.size → Q.heap[b]? = W.heap[b]? := fun b hb => by rw [← hQ]; exact Below.heap_setCell _ _ _ _ hb
          have hQs : Q.heap.size = W.heap.size := by rw [← hQ]; simp
          have hQb : Below w1.heap.size W Q := by rw [← hQ]; exact (Below.refl _ _).setCell (p := ⟨w1.heap.size, 3, none⟩) (Nat.le_refl _) _
          have HQ := Lib.hid hQ
          have hBQ : Below w1.heap.size w1 Q := HXB.out.trans ((hWb.mono (by omega)).trans hQb)
          have t0 : Q.cell? ⟨w1.heap.size, 0, none⟩ = some (.int .i64 x.num) := cell_at hQC 0 rfl
          have t1 : Q.cell? ⟨w1.heap.size, 1, none⟩ = some (.int .i64 x.ty) := cell_at hQC 1 rfl
          have t2 : Q.cell? ⟨w1.heap.size, 2, none⟩ = some (.int .u64 x.n) := cell_at hQC 2 rfl
          have t3 : Q.cell? ⟨w1.heap.size, 3, none⟩ = some (.slice ja J.length jc) := cell_at hQC 3 rfl
          obtain ⟨A, hA, hAC, hAb, hAs⟩ := box_new Q #[.int .i64 x.num, .int .i64 x.ty, .int .u64 x.n, .slice ja J.length jc] 123
          have HA := Lib.hid hA
          have HRES : Hid (RdAns [⟨x.num, x.ty, x.n, J⟩] w (.returned (.slice (some ⟨W.heap.size, 0, none⟩) 1 1)) A) := by
            rw [← hQs]
            have hBA : Below w.heap.size w A := HBW.out.trans ((hBQ.trans (hAb.mono hBQ.size)).mono HBW.out.size)
            refine ⟨_, _, rfl, wfIn_one (x := ⟨x.num, x.ty, x.n, J⟩) hAC (by omega) (hjb.mv (fun b hb => (hAb.block b (by rw [hQs]; exact hb.2)).trans (hQo b (by have := hb.1; omega))) (fun b hb => by have := hb.2; show b < A.heap.size; omega)), hBA⟩
          clear hjb hWb hWC hJ hQ hQC hQo hQb hBQ hA hAC hAb hj r2
          go_upto_region 13 with fail
          rw [HQ.out]
          clear c3 f3
          go_wp2_with fail
          rw [HA.out]
          try go_wp2_with fail
          go_ret
          rw [HRD.out]
          exact HRES.out
        · rw [if_neg h10] at HRD
          have d10 : (fd.kind == 10) = false := by simp [h10]
          clear hrep
          have t0 : X.cell? ⟨w1.heap.size, 0, none⟩ = some (.int .i64 x.num) := cell_at HXC.out 0 rfl
          have t1 : X.cell? ⟨w1.heap.size, 1, none⟩ = some (.int .i64 x.ty) := cell_at HXC.out 1 rfl
          have t2 : X.cell? ⟨w1.heap.size, 2, none⟩ = some (.int .u64 x.n) := cell_at HXC.out 2 rfl
          have t3 : X.cell? ⟨w1.heap.size, 3, none⟩ = some (.slice da x.d.length dc) := cell_at HXC.out 3 rfl
          obtain ⟨A, hA, hAC, hAb, hAs⟩ := box_new X #[.int .i64 x.num, .int .i64 x.ty, .int .u64 x.n, .slice da x.d.length dc] 123
          have HA := Lib.hid hA
          have HRES : Hid (RdAns [⟨x.num, x.ty, x.n, x.d⟩] w (.returned (.slice (some ⟨X.heap.size, 0, none⟩) 1 1)) A) := by
            refine ⟨_, _, rfl, wfIn_one (x := ⟨x.num, x.ty, x.n, x.d⟩) hAC (by omega) (HDI.out.mv (fun b hb => hAb.block b hb) (fun b hb => by have hb' : b < X.heap.size := hb; show b < A.heap.size; omega)), HBX.out.trans (hAb.mono HBX.out.size)⟩
          clear hA hAC hAb hAs
          go_wp2_with fail
          rw [HA.out]
          try go_wp2_with fail
          go_ret
          rw [HRD.out]
          exact HRES.out
end Go.Proofs.YteajlfgbmefncaaGreatDoor
