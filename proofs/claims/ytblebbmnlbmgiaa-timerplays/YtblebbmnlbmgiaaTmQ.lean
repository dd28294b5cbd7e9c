/-
  The walks over the program's timers: New, Set, Stop, Due, Next, First, Len.
-/
import Derived.Test.YtblebbmnlbmgiaaTmX
import Derived.Maps.AppendAt
namespace Go.Proofs.Ytblebbmnlbmgiaa
set_option linter.unusedVariables false
open Go.ChangeShapes Go.WideShapes Go.ChangeAt Go.RowKit

/-- the program's timers lie at a place, and are just the list's -/
def HoldP (w : World) (ok : Nat → Prop) (tb : Nat) (L : List (Nat × Int)) : Prop :=
  ∃ T v, w.cell? ⟨tb, 0, none⟩ = some v ∧ w.cell? ⟨tb, 1, none⟩ = some (.int .i64 L.length) ∧ w.frozen? ⟨tb, 0, none⟩ = false ∧ w.frozen? ⟨tb, 1, none⟩ = false ∧ HeldO w ok T v ∧ Rel T L
theorem grown_below {w w' : World} {tb : Nat} (h : Below w.heap.size w w') : w.grownBy w' (some tb) := ⟨h.os, h.tape, h.output, h.size, fun k hk _ => h.block k hk⟩
theorem withO_any (T : Option Tr) (v : Value) (k : Nat) (d : Int) (ok : Nat → Prop) (w : World) (hT : HeldO w ok T v) (hwf : ∀ t, T = some t → t.WF) (hk : k < 18446744073709551616) (hok : ∀ b, w.heap.size ≤ b → ok b) :
    Calls Try.prog 19 #[v, .agg #[.int .u64 k, .int .i64 d]] w fun e w' => WithAns w ok T k d e w' := by
  cases T with
  | none => obtain rfl := hT; exact withN_any k d ok w hk hok
  | some t => obtain ⟨b, rfl, hb⟩ := hT; exact with_any t b k d ok w hb (hwf t rfl) hk hok
theorem set_same {w : World} {a : Addr} {u v : Value} (h : w.cell? a = some u) : (w.setCell a v).cell? a = some v := World.cell?_setCell_same _ _ _ h
theorem set_other {w : World} {a b : Addr} {v : Value} (h : a ≠ b) : (w.setCell a v).cell? b = w.cell? b := World.cell?_setCell_other _ _ _ _ h
theorem setCell_far (w : World) (tb j g : Nat) (v : Value) (h : g ≠ tb) : (w.setCell ⟨tb, j, none⟩ v).heap[g]? = w.heap[g]? := Below.heap_setCell w _ _ _ h
theorem off_ne (tb : Nat) : (⟨tb, 0, none⟩ : Addr) ≠ ⟨tb, 1, none⟩ := by intro h; injection h with _ h2; cases h2
theorem HeldO.set {w : World} {ok : Nat → Prop} {T : Option Tr} {v u : Value} {tb j : Nat} (hn : ¬ ok tb) (h : HeldO w ok T v) : HeldO (w.setCell ⟨tb, j, none⟩ u) ok T v :=
  h.mv (fun b hb _ => setCell_far w tb j b u fun e => hn (e ▸ hb)) (fun _ h _ => h)
theorem grown_set {w w' : World} {tb j : Nat} {u : Value} (h : w.grownBy w' (some tb)) : w.grownBy (w'.setCell ⟨tb, j, none⟩ u) (some tb) :=
  ⟨h.os, h.tape, h.output, by rw [World.size_setCell]; exact h.size, fun k hk hne => (setCell_far w' tb j k u fun e => hne (by rw [e])).trans (h.block k hk hne)⟩
theorem grown_on {w a b : World} {tb : Nat} (h : w.grownBy a (some tb)) (k : Below a.heap.size a b) : w.grownBy b (some tb) := h.trans (grown_below k)
/-- the root is set: the timers are the new tree's -/
theorem holdP_root {W : World} {ok : Nat → Prop} {tb : Nat} {u v : Value} {T : Option Tr} {L : List (Nat × Int)} (h0 : W.cell? ⟨tb, 0, none⟩ = some u) (h1 : W.cell? ⟨tb, 1, none⟩ = some (.int .i64 L.length)) (f0 : W.frozen? ⟨tb, 0, none⟩ = false) (f1 : W.frozen? ⟨tb, 1, none⟩ = false)
    (hT : HeldO W ok T v) (hn : ¬ ok tb) (hR : Rel T L) : HoldP (W.setCell ⟨tb, 0, none⟩ v) ok tb L :=
  ⟨T, v, set_same h0, by rw [set_other (off_ne tb)]; exact h1, by simpa using f0, by simpa using f1, hT.set hn, hR⟩
theorem holdP_len {W : World} {ok : Nat → Prop} {tb : Nat} {v u : Value} {n : Int} {T : Option Tr} {L : List (Nat × Int)} (h0 : W.cell? ⟨tb, 0, none⟩ = some v) (h1 : W.cell? ⟨tb, 1, none⟩ = some u) (f0 : W.frozen? ⟨tb, 0, none⟩ = false) (f1 : W.frozen? ⟨tb, 1, none⟩ = false)
    (hT : HeldO W ok T v) (hn : ¬ ok tb) (hR : Rel T L) (hl : n = L.length) : HoldP (W.setCell ⟨tb, 1, none⟩ (.int .i64 n)) ok tb L :=
  ⟨T, v, by rw [set_other (off_ne tb).symm]; exact h0, by rw [set_same h1, hl], by simpa using f0, by simpa using f1, hT.set hn, hR⟩
theorem len_set_in {L : List (Nat × Int)} (h : OrdL L) {k : Nat} {d d' : Int} (hm : (k, d') ∈ L) : (setL L k d).length = L.length := by
  unfold setL; rw [len_put]; exact len_stop h hm
theorem len_set_out {L : List (Nat × Int)} {k : Nat} {d : Int} (hm : ∀ z ∈ L, z.1 ≠ k) : (setL L k d).length = L.length + 1 := by
  unfold setL; rw [len_put, stop_none hm]
theorem Rel.out {T : Option Tr} {L : List (Nat × Int)} (h : Rel T L) {k : Nat} (hno : ∀ d, ¬ MemO T k d) : ∀ z ∈ L, z.1 ≠ k := fun z hz e => hno z.2 ((h.2.1 _ _).2 (by rw [← e]; exact hz))
set_option maxHeartbeats 4000000 in
theorem set_any (tb k : Nat) (d : Int) (L : List (Nat × Int)) (ok : Nat → Prop) (w : World) (hP : HoldP w ok tb L) (hk : k < 18446744073709551616) (hn : ¬ ok tb) (hok : ∀ b, w.heap.size ≤ b → ok b) (hL : L.length ≤ 1000000) :
    Calls Try.prog 8 #[ptr tb, .int .u64 k, .int .i64 d] w fun e w' => e = .returned (.tuple #[]) ∧ HoldP w' ok tb (setL L k d) ∧ w.grownBy w' (some tb) := by
  obtain ⟨T, v, c0, c1, f0, f1, hT, hR⟩ := hP
  have hf := find_any T v k ok w hT hR.1 hk
  have hlt := cell_lt c0
  unfold ptr
  go_enter Try.func8, Try.ntmps8
  go_wp2_with fail
  refine hf.mono ?_
  rintro e W ⟨hA, hB⟩
  have hTW : HeldO W ok T v := hT.mv (fun b _ h => hB.block b h) (fun _ h _ => h)
  have c0 := (hB.cell (p := ⟨tb, 0, none⟩) hlt).trans c0
  have c1 := (hB.cell (p := ⟨tb, 1, none⟩) hlt).trans c1
  have f0 := (hB.frozen (p := ⟨tb, 0, none⟩) hlt).trans f0
  have f1 := (hB.frozen (p := ⟨tb, 1, none⟩) hlt).trans f1
  rcases hA with ⟨q, dq, rfl, hm, _⟩ | ⟨rfl, hno⟩
  · unfold ptr
    go_wp2_with fail
    refine (withO_any T v k d ok W hTW hR.1 hk fun g hg => hok g (Nat.le_trans hB.size hg)).mono ?_
    rintro e W2 ⟨q2, t', rfl, h1, h2, h3, h4⟩
    have hlt2 : tb < W.heap.size := cell_lt c0
    have c0 := (h4.cell (p := ⟨tb, 0, none⟩) hlt2).trans c0
    have c1 := (h4.cell (p := ⟨tb, 1, none⟩) hlt2).trans c1
    have f0 := (h4.frozen (p := ⟨tb, 0, none⟩) hlt2).trans f0
    have f1 := (h4.frozen (p := ⟨tb, 1, none⟩) hlt2).trans f1
    have H1 := Lib.hid h1
    clear h1
    unfold ptr
    go_wp2_with fail
    go_end0
    refine ⟨rfl, holdP_root (T := some t') c0 (c1.trans ?_) f0 f1 ⟨q2, rfl, H1.out⟩ hn (rel_set hR h2 h3), grown_set (grown_on (grown_below hB) h4)⟩
    rw [len_set_in hR.2.2 ((hR.2.1 _ _).1 hm)]
  · have hw : wrap64 ((L.length : Int) + 1) = (L.length : Int) + 1 := by unfold wrap64; omega
    go_wp2_with fail
    generalize hX : W.setCell ⟨tb, 1, none⟩ (.int .i64 ((L.length : Int) + 1)) = X
    have x0 : X.cell? ⟨tb, 0, none⟩ = some v := by rw [← hX, set_other (off_ne tb).symm]; exact c0
    have x1 : X.cell? ⟨tb, 1, none⟩ = some (.int .i64 ((L.length : Int) + 1)) := by rw [← hX]; exact set_same c1
    have xf0 : X.frozen? ⟨tb, 0, none⟩ = false := by rw [← hX]; simpa using f0
    have xf1 : X.frozen? ⟨tb, 1, none⟩ = false := by rw [← hX]; simpa using f1
    have hXs : X.heap.size = W.heap.size := by rw [← hX]; simp
    have hTX : HeldO X ok T v := by rw [← hX]; exact hTW.set hn
    have hGX : w.grownBy X (some tb) := by rw [← hX]; exact grown_set (grown_below hB)
    clear hX c0 c1 f0 f1
    refine (withO_any T v k d ok X hTX hR.1 hk fun g hg => hok g (Nat.le_trans hB.size (by omega))).mono ?_
    rintro e W2 ⟨q2, t', rfl, h1, h2, h3, h4⟩
    have hlt2 : tb < X.heap.size := cell_lt x0
    have c0 := (h4.cell (p := ⟨tb, 0, none⟩) hlt2).trans x0
    have c1 := (h4.cell (p := ⟨tb, 1, none⟩) hlt2).trans x1
    have f0 := (h4.frozen (p := ⟨tb, 0, none⟩) hlt2).trans xf0
    have f1 := (h4.frozen (p := ⟨tb, 1, none⟩) hlt2).trans xf1
    have H1 := Lib.hid h1
    clear h1
    unfold ptr
    go_wp2_with fail
    go_end0
    refine ⟨rfl, holdP_root (T := some t') c0 (c1.trans ?_) f0 f1 ⟨q2, rfl, H1.out⟩ hn (rel_set hR h2 h3), grown_set (grown_on hGX h4)⟩
    rw [len_set_out (hR.out hno)]
    rfl
end Go.Proofs.Ytblebbmnlbmgiaa
