/-
  The walks over the program's timers, what is left: New, Stop, Due, First, Next, Len; and all of them of nil timers.
-/
import Derived.Test.YtblebbmnlbmgiaaTmQ
namespace Go.Proofs.Ytblebbmnlbmgiaa
set_option linter.unusedVariables false
open Go.ChangeShapes Go.WideShapes Go.ChangeAt Go.RowKit

theorem HoldP.old {w w' : World} {ok : Nat → Prop} {tb : Nat} {L : List (Nat × Int)} (h : HoldP w ok tb L) (hb : Below w.heap.size w w') : HoldP w' ok tb L := by
  obtain ⟨T, v, c0, c1, f0, f1, hT, hR⟩ := h
  have hlt : tb < w.heap.size := cell_lt c0
  exact ⟨T, v, (hb.cell (p := ⟨tb, 0, none⟩) hlt).trans c0, (hb.cell (p := ⟨tb, 1, none⟩) hlt).trans c1, (hb.frozen (p := ⟨tb, 0, none⟩) hlt).trans f0, (hb.frozen (p := ⟨tb, 1, none⟩) hlt).trans f1, hT.mv (fun b _ h => hb.block b h) (fun _ h _ => h), hR⟩
theorem HoldP.lt {w : World} {ok : Nat → Prop} {tb : Nat} {L : List (Nat × Int)} (h : HoldP w ok tb L) : tb < w.heap.size := by
  obtain ⟨T, v, c0, _⟩ := h
  exact cell_lt c0
theorem HoldP.ord {w : World} {ok : Nat → Prop} {tb : Nat} {L : List (Nat × Int)} (h : HoldP w ok tb L) : OrdL L := by
  obtain ⟨T, v, _, _, _, _, _, hR⟩ := h
  exact hR.2.2
theorem holdP_new {w : World} {tb : Nat} {T : TypeId} (ok : Nat → Prop) (h : w.heap[tb]? = some (.cells #[.pointer none, .int .i64 0] T (0, 0))) : HoldP w ok tb [] :=
  ⟨none, .pointer none, cell_at h 0 rfl, cell_at h 1 rfl, frozen_at h 0, frozen_at h 1, rfl, rel_nil⟩
set_option maxHeartbeats 4000000 in
theorem new_any (ok : Nat → Prop) (w : World) : Calls Try.prog 7 #[] w fun e w' => e = .returned (ptr w.heap.size) ∧ HoldP w' ok w.heap.size [] ∧ Below w.heap.size w w' ∧ w'.heap.size = w.heap.size + 1 := by
  obtain ⟨X, hX, hXc, hXb, hXs⟩ := box_new w #[.pointer none, .int .i64 0] 32
  have HX := Lib.hid hXc
  have HB := Lib.hid hXb
  clear hXc hXb
  go_enter Try.func7, Try.ntmps7
  go_wp2_with fail
  go_ret
  exact ⟨rfl, holdP_new ok HX.out, HB.out, hXs⟩
/-- find's two answers, told apart by what is in the tree -/
theorem find_two {T : Option Tr} {v : Value} {k : Nat} {ok : Nat → Prop} {w : World} (hw : ∀ t, T = some t → t.WF) (h : Calls Try.prog 18 #[v, .int .u64 k] w fun e w' => FindAns w ok T k e ∧ Below w.heap.size w w') :
    (∃ d, MemO T k d ∧ Calls Try.prog 18 #[v, .int .u64 k] w fun e w' => ∃ q, e = .returned (ptr q) ∧ ok q ∧ w.cell? ⟨q, 1, none⟩ = some (.int .i64 d) ∧ Below w.heap.size w w') ∨
      ((∀ d, ¬ MemO T k d) ∧ Calls Try.prog 18 #[v, .int .u64 k] w fun e w' => e = .returned (.pointer none) ∧ Below w.heap.size w w') := by
  by_cases hm : ∃ d, MemO T k d
  · obtain ⟨d, hd⟩ := hm
    have hone : ∀ d', MemO T k d' → d' = d := by
      rintro d' ⟨t, rfl, h1⟩
      exact (hw t rfl).one h1 ((memO_some _ _ _).1 hd)
    · refine .inl ⟨d, hd, h.mono ?_⟩
      rintro e w' ⟨⟨q, d', rfl, hm', hq, hc⟩ | ⟨_, hno⟩, hb⟩
      · rw [hone d' hm'] at hc
        exact ⟨q, rfl, hq, hc, hb⟩
      · exact absurd hd (hno d)
  · refine .inr ⟨fun d hd => hm ⟨d, hd⟩, h.mono ?_⟩
    rintro e w' ⟨⟨q, d', rfl, hm', hq, hc⟩ | ⟨he, hno⟩, hb⟩
    · exact absurd ⟨d', hm'⟩ hm
    · exact ⟨he, hb⟩
set_option maxHeartbeats 4000000 in
theorem stop_any (tb k : Nat) (L : List (Nat × Int)) (ok : Nat → Prop) (w : World) (hP : HoldP w ok tb L) (hk : k < 18446744073709551616) (hn : ¬ ok tb) (hok : ∀ b, w.heap.size ≤ b → ok b) (hL : L.length ≤ 1000000) :
    Calls Try.prog 10 #[ptr tb, .int .u64 k] w fun e w' => e = .returned (.bool (dueL L k).isSome) ∧ HoldP w' ok tb (stopL L k) ∧ w.grownBy w' (some tb) := by
  have hP0 := hP
  obtain ⟨T, v, c0, c1, f0, f1, hT, hR⟩ := hP
  have hf := find_any T v k ok w hT hR.1 hk
  have hlt := cell_lt c0
  rcases find_two hR.1 hf with ⟨dq, hm, hf⟩ | ⟨hno, hf⟩
  · rw [due_some hR.2.2 ((hR.2.1 k dq).1 hm)]
    unfold ptr at hf ⊢
    go_enter Try.func10, Try.ntmps10
    go_wp2_with fail
    refine hf.mono ?_
    rintro e W ⟨q, rfl, _, _, hB⟩
    have hTW : HeldO W ok T v := hT.mv (fun b _ h => hB.block b h) (fun _ h _ => h)
    have c0 := (hB.cell (p := ⟨tb, 0, none⟩) hlt).trans c0
    have c1 := (hB.cell (p := ⟨tb, 1, none⟩) hlt).trans c1
    have f0 := (hB.frozen (p := ⟨tb, 0, none⟩) hlt).trans f0
    have f1 := (hB.frozen (p := ⟨tb, 1, none⟩) hlt).trans f1
    obtain ⟨t, rfl, hmt⟩ := hm
    obtain ⟨b, rfl, hTb⟩ := hTW
    have hin := (hR.2.1 k dq).1 ⟨t, rfl, hmt⟩
    have hlen := len_stop hR.2.2 hin
    have hlt2 : tb < W.heap.size := cell_lt c0
    unfold ptr at *
    go_wp2_with fail
    refine (without_any t b k ok W hTb (hR.1 t rfl) hk (fun g hg => hok g (Nat.le_trans hB.size hg)) ⟨dq, hmt⟩).mono ?_
    rintro e W2 ⟨v2, T', rfl, h1, h2, h3, h4⟩
    have c0 := (h4.cell (p := ⟨tb, 0, none⟩) hlt2).trans c0
    have c1 := (h4.cell (p := ⟨tb, 1, none⟩) hlt2).trans c1
    have f0 := (h4.frozen (p := ⟨tb, 0, none⟩) hlt2).trans f0
    have f1 := (h4.frozen (p := ⟨tb, 1, none⟩) hlt2).trans f1
    have H1 := Lib.hid h1
    have HR := Lib.hid (rel_stop hR h2 h3)
    have hG := grown_on (grown_below (tb := tb) hB) h4
    clear h1 h2 h3 h4 hR
    have hw : wrap64 ((L.length : Int) - 1) = (L.length : Int) - 1 := by unfold wrap64; omega
    obtain ⟨u, hu⟩ : ∃ u, v2 = .pointer u := by
      cases T' with
      | none => exact ⟨_, H1.out⟩
      | some t' => obtain ⟨b', hb', _⟩ := H1.out; exact ⟨_, hb'⟩
    subst hu
    go_wp2_with fail
    go_ret
    refine ⟨rfl, ?_, grown_set (grown_set hG)⟩
    refine holdP_len (T := T') (v := .pointer u) (set_same c0) ((set_other (off_ne tb)).trans c1) (by simpa using f0) (by simpa using f1) (H1.out.set hn) hn HR.out (by omega)
  · rw [due_none (hR.out hno), stop_none (hR.out hno)]
    unfold ptr
    go_enter Try.func10, Try.ntmps10
    go_wp2_with fail
    refine hf.mono ?_
    rintro e W ⟨rfl, hB⟩
    have HP := Lib.hid (hP0.old hB)
    go_wp2_with fail
    go_ret
    exact ⟨rfl, HP.out, grown_below hB⟩
/-- when a key is due: what Due answers -/
def dueV (o : Option Int) : Value := .tuple #[.int .i64 (o.getD 0), .bool o.isSome]
set_option maxHeartbeats 4000000 in
theorem due_any (tb k : Nat) (L : List (Nat × Int)) (ok : Nat → Prop) (w : World) (hP : HoldP w ok tb L) (hk : k < 18446744073709551616) :
    Calls Try.prog 14 #[ptr tb, .int .u64 k] w fun e w' => e = .returned (dueV (dueL L k)) ∧ Below w.heap.size w w' := by
  obtain ⟨T, v, c0, c1, f0, f1, hT, hR⟩ := hP
  have hf := find_any T v k ok w hT hR.1 hk
  have hlt := cell_lt c0
  rcases find_two hR.1 hf with ⟨dq, hm, hf⟩ | ⟨hno, hf⟩
  · rw [due_some hR.2.2 ((hR.2.1 k dq).1 hm)]
    unfold ptr dueV at *
    go_enter Try.func14, Try.ntmps14
    go_wp2_with fail
    refine hf.mono ?_
    rintro e W ⟨q, rfl, hq, hc, hB⟩
    have hc := (hB.cell (p := ⟨q, 1, none⟩) (cell_lt hc)).trans hc
    go_wp2_with fail
    go_ret2
    exact ⟨rfl, hB⟩
  · rw [due_none (hR.out hno)]
    unfold ptr dueV
    go_enter Try.func14, Try.ntmps14
    go_wp2_with fail
    refine hf.mono ?_
    rintro e W ⟨rfl, hB⟩
    go_wp2_with fail
    go_ret2
    exact ⟨rfl, hB⟩
set_option maxHeartbeats 4000000 in
theorem first_any (tb : Nat) (L : List (Nat × Int)) (ok : Nat → Prop) (w : World) (hP : HoldP w ok tb L) :
    Calls Try.prog 16 #[ptr tb] w fun e w' => e = .returned (dueV (L.head?.map (·.2))) ∧ w' = w := by
  obtain ⟨T, v, c0, c1, f0, f1, hT, hR⟩ := hP
  cases T with
  | none =>
    obtain rfl := hT
    rw [hR.none_iff.1 rfl]
    unfold ptr dueV
    go_enter Try.func16, Try.ntmps16
    go_wp2_with fail
    go_ret2
    exact ⟨rfl, rfl⟩
  | some t =>
    obtain ⟨b, rfl, hb⟩ := hT
    cases L with
    | nil => have := hR.none_iff.2 rfl; cases this
    | cons x r =>
      obtain ⟨e1, e2⟩ := hR.first
      have b1 := hb.head.2.2.1
      rw [e2] at b1
      clear e1 e2 hR
      unfold ptr dueV at *
      go_enter Try.func16, Try.ntmps16
      go_wp2_with fail
      go_ret2
      exact ⟨rfl, rfl⟩
set_option maxHeartbeats 4000000 in
theorem len_any (tb : Nat) (L : List (Nat × Int)) (ok : Nat → Prop) (w : World) (hP : HoldP w ok tb L) :
    Calls Try.prog 17 #[ptr tb] w fun e w' => e = .returned (.int .i64 L.length) ∧ w' = w := by
  obtain ⟨T, v, c0, c1, f0, f1, hT, hR⟩ := hP
  unfold ptr
  go_enter Try.func17, Try.ntmps17
  go_wp2_with fail
  go_ret
  exact ⟨rfl, rfl⟩
/-- what Next answers, and what is left -/
def nextL (L : List (Nat × Int)) (now : Int) : Nat × Bool × List (Nat × Int) := match L with
  | [] => (0, false, [])
  | x :: r => if x.2 ≤ now then (x.1, true, r) else (0, false, x :: r)
theorem nextL_yes {x : Nat × Int} {r : List (Nat × Int)} {now : Int} (h : x.2 ≤ now) : nextL (x :: r) now = (x.1, true, r) := if_pos h
theorem nextL_no {x : Nat × Int} {r : List (Nat × Int)} {now : Int} (h : ¬ x.2 ≤ now) : nextL (x :: r) now = (0, false, x :: r) := if_neg h
theorem stop_head {x : Nat × Int} {r : List (Nat × Int)} (h : OrdL (x :: r)) : stopL (x :: r) x.1 = r := by
  have := stop_at h (i := 0) (k := x.1) (d := x.2) rfl
  simpa using this
set_option maxHeartbeats 4000000 in
theorem next_any (tb : Nat) (now : Int) (L : List (Nat × Int)) (ok : Nat → Prop) (w : World) (hP : HoldP w ok tb L) (hn : ¬ ok tb) (hok : ∀ b, w.heap.size ≤ b → ok b) (hL : L.length ≤ 1000000) :
    Calls Try.prog 12 #[ptr tb, .int .i64 now] w fun e w' => e = .returned (.tuple #[.int .u64 (nextL L now).1, .bool (nextL L now).2.1]) ∧ HoldP w' ok tb (nextL L now).2.2 ∧ w.grownBy w' (some tb) := by
  have hf := first_any tb L ok w hP
  have HP := Lib.hid hP
  have hst := fun k hk => stop_any tb k L ok w hP hk hn hok hL
  obtain ⟨T, v, c0, c1, f0, f1, hT, hR⟩ := hP
  unfold ptr dueV at *
  cases L with
  | nil =>
    unfold nextL
    go_enter Try.func12, Try.ntmps12
    go_wp2_with fail
    refine hf.mono ?_
    rintro e w1 ⟨rfl, rfl⟩
    go_wp2_with fail
    go_ret2
    exact ⟨rfl, HP.out, World.grownBy.refl _ _⟩
  | cons x r =>
    cases T with
    | none => have := hR.none_iff.1 rfl; cases this
    | some t =>
      obtain ⟨b, rfl, hb⟩ := hT
      have hlt := (hR.1 t rfl).fk_lt
      obtain ⟨e1, e2⟩ := hR.first
      have b0 := hb.head.2.1
      rw [e1] at b0 hlt
      have hst := hst _ hlt
      have hin : (x.1, x.2) ∈ x :: r := by simp
      rw [due_some hR.2.2 hin, stop_head hR.2.2] at hst
      clear hR e1 e2 hb hin
      unfold ptr at *
      by_cases hd : x.2 ≤ now
      · rw [nextL_yes hd]
        go_enter Try.func12, Try.ntmps12
        go_wp2_with fail
        refine hf.mono ?_
        rintro e w1 ⟨rfl, rfl⟩
        have hd2 : ¬ now < x.2 := by omega
        go_wp2_with fail
        refine hst.mono ?_
        rintro e w2 ⟨rfl, h1, h2⟩
        have H1 := Lib.hid h1
        have H2 := Lib.hid h2
        clear h1 h2
        go_wp2_with fail
        go_ret2
        exact ⟨rfl, H1.out, H2.out⟩
      · rw [nextL_no hd]
        have hd2 : now < x.2 := by omega
        clear hd
        go_enter Try.func12, Try.ntmps12
        go_wp2_with fail
        refine hf.mono ?_
        rintro e w1 ⟨rfl, rfl⟩
        go_wp2_with fail
        go_ret2
        exact ⟨rfl, HP.out, World.grownBy.refl _ _⟩
end Go.Proofs.Ytblebbmnlbmgiaa
