/-
  The walk over the law TimerPlays.
-/
import Derived.Test.YtblebbmnlbmgiaaTmO
import Derived.Test.YtblebbmnlbmgiaaLTs
namespace Go.Proofs.Ytblebbmnlbmgiaa
set_option linter.unusedVariables false
open Go.ChangeShapes Go.WideShapes Go.ChangeAt Go.RowKit

theorem rows3_at {w : World} {S : Nat → Prop} {v : Value} {xs : List (Int × Int × Int)} (h : RowsIn w S 3 opRow v xs) {q : Nat} {x : Int × Int × Int} (hx : xs[q]? = some x) :
    ∃ g o c, v = .slice (some ⟨g, o, none⟩) xs.length c ∧ S g ∧ w.cell? ⟨g, o + q * 3, none⟩ = some (.int .i64 x.1) ∧ w.cell? ⟨g, o + q * 3 + 1, none⟩ = some (.int .u64 x.2.1) ∧ w.cell? ⟨g, o + q * 3 + 2, none⟩ = some (.int .i64 x.2.2) := by
  obtain ⟨ad, c, hsl, hcc, hrows⟩ := h
  rcases hrows with h0 | ⟨g, o, had, hg, hrow⟩
  · rw [h0] at hx; simp at hx
  subst had
  refine ⟨g, o, c, hsl, hg, ?_, ?_, ?_⟩
  · have := hrow q x hx 0 _ rfl; simpa [Nat.add_assoc] using this
  · have := hrow q x hx 1 _ rfl; simpa [Nat.add_assoc] using this
  · have := hrow q x hx 2 _ rfl; simpa [Nat.add_assoc] using this
/-- where neither of the two lies -/
def okB (tb rb : Nat) (b : Nat) : Prop := b ≠ tb ∧ b ≠ rb
/-- the program's timers and the document's lie beside each other, and are the same list's -/
def Both (w : World) (tb rb : Nat) (L : List (Nat × Int)) : Prop := HoldP w (okB tb rb) tb L ∧ HeldR w (okB tb rb) rb L ∧ tb ≠ rb
theorem HoldP.far {w w' : World} {tb rb b : Nat} {L : List (Nat × Int)} (h : HoldP w (okB tb rb) tb L) (hne : tb ≠ rb) (hg : ∀ k, k < w.heap.size → k ≠ rb → w'.heap[k]? = w.heap[k]?) : HoldP w' (okB tb rb) tb L := by
  obtain ⟨T, v, c0, c1, f0, f1, hT, hR⟩ := h
  have hlt : tb < w.heap.size := cell_lt c0
  have e := hg tb hlt hne
  exact ⟨T, v, by rw [World.cell?_of_block e]; exact c0, by rw [World.cell?_of_block e]; exact c1, by rw [World.frozen?_of_block e]; exact f0, by rw [World.frozen?_of_block e]; exact f1, hT.mv (fun b ho hb => hg b hb ho.2) (fun _ h _ => h), hR⟩
theorem Both.old {w w' : World} {tb rb : Nat} {L : List (Nat × Int)} (h : Both w tb rb L) (hb : Below w.heap.size w w') : Both w' tb rb L :=
  ⟨h.1.old hb, h.2.1.old fun b _ hl => hb.block b hl, h.2.2⟩
/-- the program's step, then the document's -/
theorem Both.stepP {w w' : World} {tb rb : Nat} {L L' : List (Nat × Int)} (h : Both w tb rb L) (hP : HoldP w' (okB tb rb) tb L') (hg : w.grownBy w' (some tb)) : HoldP w' (okB tb rb) tb L' ∧ HeldR w' (okB tb rb) rb L :=
  ⟨hP, h.2.1.old fun b hb hl => hg.block b hl fun e => by
    have := Option.some.inj e
    subst this
    rcases hb with e | e
    · exact h.2.2 e
    · exact e.1 rfl⟩
theorem both_stepR {w w' : World} {tb rb : Nat} {L : List (Nat × Int)} (h : HoldP w (okB tb rb) tb L) (hne : tb ≠ rb) (hR : HeldR w' (okB tb rb) rb L) (hg : w.grownBy w' (some rb)) : Both w' tb rb L :=
  ⟨h.far (b := 0) hne fun k hk hn => hg.block k hk fun e => hn (Option.some.inj e), hR, hne⟩
end Go.Proofs.Ytblebbmnlbmgiaa
