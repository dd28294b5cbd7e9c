/-
  A tree of timers in memory, and the walks over the program's functions of it.
-/
import Derived.Test.YtblebbmnlbmgiaaTmM
import Derived.Test.YtblebbmnlbmgiaaShB
import Derived.Test.YtblebbmnlbmgiaaCel
import Derived.BigQuiet
namespace Go.Proofs.Ytblebbmnlbmgiaa
set_option linter.unusedVariables false
open Go.ChangeShapes Go.WideShapes Go.ChangeAt Go.RowKit

theorem ret_int {k : IntKind} {a b : Int} (h : a = b) : Ending.returned (.int k a) = .returned (.int k b) := by rw [h]
theorem cell_lt {w : World} {b o : Nat} {v : Value} (h : w.cell? ⟨b, o, none⟩ = some v) : b < w.heap.size := by
  by_cases hb : b < w.heap.size
  · exact hb
  · simp [World.cell?, Array.getElem?_eq_none (Nat.le_of_not_lt hb)] at h
/-- where a node lies -/
def ptr (b : Nat) : Value := .pointer (some ⟨b, 0, none⟩)
/-- a tree lies in memory, all its blocks such as ok says -/
def HeldT (w : World) (ok : Nat → Prop) : Tr → Nat → Prop
  | .leaf k d, b => ok b ∧ w.cell? ⟨b, 0, none⟩ = some (.int .u64 k) ∧ w.cell? ⟨b, 1, none⟩ = some (.int .i64 d) ∧ w.cell? ⟨b, 2, none⟩ = some (.int .i64 0)
  | .bin k d s x y, b => ok b ∧ w.cell? ⟨b, 0, none⟩ = some (.int .u64 k) ∧ w.cell? ⟨b, 1, none⟩ = some (.int .i64 d) ∧ w.cell? ⟨b, 2, none⟩ = some (.int .i64 s) ∧
      ∃ bx bz, w.cell? ⟨b, 3, none⟩ = some (ptr bx) ∧ w.cell? ⟨b, 4, none⟩ = some (ptr bz) ∧ HeldT w ok x bx ∧ HeldT w ok y bz
theorem HeldT.head {w : World} {ok : Nat → Prop} {t : Tr} {b : Nat} (h : HeldT w ok t b) : ok b ∧ w.cell? ⟨b, 0, none⟩ = some (.int .u64 t.fk) ∧ w.cell? ⟨b, 1, none⟩ = some (.int .i64 t.fd) ∧ w.cell? ⟨b, 2, none⟩ = some (.int .i64 t.span) := by
  cases t with
  | leaf k d => exact h
  | bin k d s x y => obtain ⟨h0, h1, h2, h3, _⟩ := h; exact ⟨h0, h1, h2, h3⟩
theorem HeldT.mv {w w' : World} {ok ok' : Nat → Prop} (hb : ∀ b, ok b → b < w.heap.size → w'.heap[b]? = w.heap[b]?) (ho : ∀ b, ok b → b < w.heap.size → ok' b) {t : Tr} {b : Nat} (h : HeldT w ok t b) : HeldT w' ok' t b := by
  induction t generalizing b with
  | leaf k d =>
    obtain ⟨h0, h1, h2, h3⟩ := h
    have hl := cell_lt h1
    have e := hb b h0 hl
    exact ⟨ho b h0 hl, by rw [World.cell?_of_block e]; exact h1, by rw [World.cell?_of_block e]; exact h2, by rw [World.cell?_of_block e]; exact h3⟩
  | bin k d s x y ihx ihy =>
    obtain ⟨h0, h1, h2, h3, bx, bz, h4, h5, h6, h7⟩ := h
    have hl := cell_lt h1
    have e := hb b h0 hl
    exact ⟨ho b h0 hl, by rw [World.cell?_of_block e]; exact h1, by rw [World.cell?_of_block e]; exact h2, by rw [World.cell?_of_block e]; exact h3, bx, bz, by rw [World.cell?_of_block e]; exact h4, by rw [World.cell?_of_block e]; exact h5, ihx h6, ihy h7⟩
theorem HeldT.old {w w' : World} {ok : Nat → Prop} (hb : Below w.heap.size w w') {t : Tr} {b : Nat} (h : HeldT w ok t b) : HeldT w' ok t b := h.mv (fun b _ hl => hb.block b hl) (fun _ h _ => h)

set_option maxHeartbeats 1000000 in
theorem side_any (k s : Nat) (w : World) (hk : k < 18446744073709551616) (h1 : 1 ≤ s) (h2 : s ≤ 64) :
    Calls Try.prog 21 #[.int .u64 k, .int .i64 s] w fun e w' => e = .returned (.int .i64 (k / 2 ^ (s - 1) % 2 : Nat)) ∧ w' = w := by
  have hq : k / 2 ^ (s - 1) < 18446744073709551616 := Nat.lt_of_le_of_lt (Nat.div_le_self _ _) hk
  have ha := u64_and_nat (k / 2 ^ (s - 1)) 1 hq (by decide)
  rw [nat_mask1] at ha
  go_enter Try.func21, Try.ntmps21
  go_wp2
  go_ret
  refine ⟨ret_int ?_, rfl⟩
  have hp : ((2 : Int) ^ (s - 1)) = ((2 ^ (s - 1) : Nat) : Int) := by simp
  rw [hp, ← Int.natCast_ediv]
  have e1 : ((1 : Int)) = ((1 : Nat) : Int) := rfl
  rw [e1, ha]
  unfold wrap64
  omega
theorem alloc_heap_new (w : World) (o : Obj) : (w.alloc o).heap[w.heap.size]? = some o := by
  show (w.heap.push o)[w.heap.size]? = _
  simp
theorem box_new (w : World) (cs : Array Value) (T : TypeId) : ∃ Y, w.alloc (.cells cs T) = Y ∧ Y.heap[w.heap.size]? = some (.cells cs T (0, 0)) ∧ Below w.heap.size w Y ∧ Y.heap.size = w.heap.size + 1 :=
  ⟨_, rfl, alloc_heap_new _ _, (Below.refl _ w).alloc (Nat.le_refl _) _, by show (w.heap.push _).size = _; simp⟩
theorem below_drewN (w : World) (n : Nat) : Below w.heap.size w (w.drewN n) := ⟨rfl, rfl, rfl, Nat.le_refl _, fun _ _ => rfl⟩
theorem bin_new {w : World} {ok : Nat → Prop} {q k s ba bb : Nat} {d : Int} {T : TypeId} {ta tb : Tr} (h : w.heap[q]? = some (.cells #[.int .u64 k, .int .i64 d, .int .i64 s, .pointer (some ⟨ba, 0, none⟩), .pointer (some ⟨bb, 0, none⟩)] T (0, 0))) (hq : ok q)
    (hA : HeldT w ok ta ba) (hB : HeldT w ok tb bb) : HeldT w ok (.bin k d s ta tb) q :=
  ⟨hq, cell_at h 0 rfl, cell_at h 1 rfl, cell_at h 2 rfl, ba, bb, cell_at h 3 rfl, cell_at h 4 rfl, hA, hB⟩
theorem leaf_new {w : World} {ok : Nat → Prop} {q k : Nat} {d : Int} {T : TypeId} {u v : Value} (h : w.heap[q]? = some (.cells #[.int .u64 k, .int .i64 d, .int .i64 0, u, v] T (0, 0))) (hq : ok q) : HeldT w ok (.leaf k d) q :=
  ⟨hq, cell_at h 0 rfl, cell_at h 1 rfl, cell_at h 2 rfl⟩
end Go.Proofs.Ytblebbmnlbmgiaa
