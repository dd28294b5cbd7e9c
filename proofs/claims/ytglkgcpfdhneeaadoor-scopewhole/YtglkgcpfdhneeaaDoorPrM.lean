/-
  The text of declarations, and which are formed, as plain functions; and the words of that text. Nothing is proved of the program here.
-/
import Derived.Test.YtglkgcpfdhneeaaDoorPcM
import Derived.Test.YtglkgcpfdhneeaaDoorLxR
import Derived.Test.YtglkgcpfdhneeaaDoorPsM
import Derived.Test.YtglkgcpfdhneeaaDoorPsW
import Derived.Lib.ItoaMem
import Derived.Lib.ItoaLen
namespace Go.Proofs.YtglkgcpfdhneeaaDoor
set_option linter.unusedVariables false

def fOK (x : Fd) : Bool := typeOK x.type && plainL x.name && numOK x.num
def vOK (x : Vl) : Bool := plainL x.name && numOK x.num
def mOK (x : Mt) : Bool := plainL x.name && pathOK x.inp && pathOK x.out
/-- are declarations that lie in so many messages formed? -/
def fmL : Nat → Nat → List Dc → Bool
  | 0, k, ds => ds.isEmpty
  | f + 1, k, ds => ds.all fun d => plainL d.name &&
      (if d.kind = 1 then decide (k < 8) && d.values.isEmpty && d.methods.isEmpty && d.fields.all fOK && fmL f (k + 1) d.inner
      else if d.kind = 2 then d.fields.isEmpty && d.methods.isEmpty && d.inner.isEmpty && d.values.all vOK
      else if d.kind = 3 then decide (k = 0) && d.fields.isEmpty && d.values.isEmpty && d.inner.isEmpty && d.methods.all mOK
      else false)
def fmD (f k : Nat) (d : Dc) : Bool := plainL d.name &&
      (if d.kind = 1 then decide (k < 8) && d.values.isEmpty && d.methods.isEmpty && d.fields.all fOK && fmL f (k + 1) d.inner
      else if d.kind = 2 then d.fields.isEmpty && d.methods.isEmpty && d.inner.isEmpty && d.values.all vOK
      else if d.kind = 3 then decide (k = 0) && d.fields.isEmpty && d.values.isEmpty && d.inner.isEmpty && d.methods.all mOK
      else false)
theorem fmL_succ (f k : Nat) (ds : List Dc) : fmL (f + 1) k ds = ds.all (fmD f k) := rfl

/-! the words -/
/-! numbers -/
/-! paths -/
theorem fmD_parts {f k : Nat} {d : Dc} (h : fmD f k d = true) : plainL d.name = true ∧ (d.kind = 1 ∨ d.kind = 2 ∨ d.kind = 3) ∧ (d.fields.all fOK = true) ∧ (d.values.all vOK = true) ∧ (d.methods.all mOK = true) ∧ (d.kind = 1 → k < 8 ∧ fmL f (k + 1) d.inner = true ∧ d.values = [] ∧ d.methods = []) ∧ (d.kind ≠ 1 → d.inner = [] ∧ d.fields = []) ∧ (d.kind = 3 → k = 0 ∧ d.values = []) ∧ (d.kind = 2 → d.methods = []) := by
  unfold fmD at h
  rw [Bool.and_eq_true] at h
  obtain ⟨h0, h⟩ := h
  refine ⟨h0, ?_⟩
  by_cases h1 : d.kind = 1
  · rw [if_pos h1] at h
    simp only [Bool.and_eq_true, List.isEmpty_iff, decide_eq_true_iff] at h
    obtain ⟨⟨⟨⟨a, b⟩, c⟩, e⟩, g⟩ := h
    exact ⟨.inl h1, e, by rw [b]; rfl, by rw [c]; rfl, fun _ => ⟨a, g, b, c⟩, fun n => absurd h1 n, fun n => by omega, fun n => by omega⟩
  · rw [if_neg h1] at h
    by_cases h2 : d.kind = 2
    · rw [if_pos h2] at h
      simp only [Bool.and_eq_true, List.isEmpty_iff] at h
      obtain ⟨⟨⟨a, b⟩, c⟩, e⟩ := h
      exact ⟨.inr (.inl h2), by rw [a]; rfl, e, by rw [b]; rfl, fun n => absurd n h1, fun _ => ⟨c, a⟩, fun n => by omega, fun _ => b⟩
    · rw [if_neg h2] at h
      by_cases h3 : d.kind = 3
      · rw [if_pos h3] at h
        simp only [Bool.and_eq_true, List.isEmpty_iff, decide_eq_true_iff] at h
        obtain ⟨⟨⟨⟨a, b⟩, c⟩, e⟩, g⟩ := h
        exact ⟨.inr (.inr h3), by rw [b]; rfl, by rw [c]; rfl, g, fun n => absurd n h1, fun _ => ⟨e, b⟩, fun _ => ⟨a, c⟩, fun n => by omega⟩
      · rw [if_neg h3] at h; cases h
theorem fm_inner {f k : Nat} {d : Dc} (h : fmD f k d = true) : fmL f (k + 1) d.inner = true := by
  obtain ⟨_, hk, _, _, _, h1, h2, _⟩ := fmD_parts h
  by_cases h' : d.kind = 1
  · exact (h1 h').2.1
  · rw [(h2 h').1]; cases f <;> rfl
end Go.Proofs.YtglkgcpfdhneeaaDoor
