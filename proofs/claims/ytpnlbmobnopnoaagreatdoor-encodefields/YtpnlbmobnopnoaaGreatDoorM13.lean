/-
  How much a value's tree weighs, and the range of its numbers. Nothing is proved of the program here.
  The walks over the functions that append fixed numbers (Append32, Append64): the bytes come into one new block, behind them the number's bytes, the lowest first; nothing else changes. And of these bytes the number comes back.
  The bytes of a field, as a plain function. Nothing is proved of the program here.
-/
import Derived.Test.YtpnlbmobnopnoaaGreatDoorM12
import Derived.Test.YtpnlbmobnopnoaaGreatDoorM4
import Derived.Test.YtpnlbmobnopnoaaGreatDoorM3
namespace Go.Proofs.YtpnlbmobnopnoaaGreatDoor
set_option linter.unusedVariables false

/-- the numbers of a tree are such as a machine has -/
def Rg1 (x : Nd) : Prop := (-9223372036854775808 ≤ x.n ∧ x.n ≤ 9223372036854775807) ∧ 0 ≤ x.u ∧ x.u ≤ 18446744073709551615
def RngG : Nat → Nd → Prop
  | 0, x => Rg1 x
  | f + 1, x => Rg1 x ∧ ∀ p ∈ x.fields, ∀ y ∈ p.2, RngG f y
theorem RngG.one {f : Nat} {x : Nd} (h : RngG f x) : Rg1 x := by
  cases f with
  | zero => exact h
  | succ f => exact h.1
/-- how much a tree weighs, and how many bytes it may have -/
def sumL {α : Type} (g : α → Nat) : List α → Nat
  | [] => 0
  | a :: l => g a + sumL g l
theorem sumL_append {α : Type} (g : α → Nat) (l m : List α) : sumL g (l ++ m) = sumL g l + sumL g m := by
  induction l with
  | nil => simp [sumL]
  | cons a l ih => rw [List.cons_append, sumL, sumL, ih]; omega
theorem sumL_le {α : Type} {g h : α → Nat} {l : List α} (H : ∀ a ∈ l, g a ≤ h a) : sumL g l ≤ sumL h l := by
  induction l with
  | nil => exact Nat.le_refl _
  | cons a l ih =>
    have h1 := H a List.mem_cons_self
    have h2 := ih fun b hb => H b (List.mem_cons_of_mem _ hb)
    rw [sumL, sumL]; omega
theorem sumL_mul {α : Type} (g : α → Nat) (c : Nat) (l : List α) : sumL (fun a => c * g a) l = c * sumL g l := by
  induction l with
  | nil => rfl
  | cons a l ih => rw [sumL, sumL, ih, Nat.mul_add]
theorem sumL_mem {α : Type} {g : α → Nat} {l : List α} {a : α} (h : a ∈ l) : g a ≤ sumL g l := by
  induction l with
  | nil => cases h
  | cons b l ih =>
    rw [sumL]
    rcases List.mem_cons.1 h with rfl | h
    · omega
    · have := ih h; omega
theorem sumL_map {α β : Type} (g : β → Nat) (h : α → β) (l : List α) : sumL g (l.map h) = sumL (fun a => g (h a)) l := by
  induction l with
  | nil => rfl
  | cons a l ih => rw [List.map_cons, sumL, sumL, ih]
theorem sumL_filter {α : Type} (g : α → Nat) (p : α → Bool) (l : List α) : sumL g (l.filter p) ≤ sumL g l := by
  induction l with
  | nil => exact Nat.le_refl _
  | cons a l ih =>
    rw [List.filter_cons]
    split
    · rw [sumL, sumL]; omega
    · rw [sumL]; omega
theorem flatLen {α β : Type} (g : α → List β) (l : List α) : (l.flatMap g).length = sumL (fun a => (g a).length) l := by
  induction l with
  | nil => rfl
  | cons a l ih => rw [List.flatMap_cons, List.length_append, ih, sumL]
def wtN : Nat → Nd → Nat
  | 0, x => x.s.length / 100 + 1
  | f + 1, x => x.s.length / 100 + 1 + sumL (fun p => 1 + sumL (wtN f) p.2) x.fields
def bndN : Nat → Nd → Nat
  | 0, x => x.s.length
  | f + 1, x => x.s.length + sumL (fun p => 30 + sumL (fun y => bndN f y + 30) p.2) x.fields
theorem bnd_wt : ∀ (f : Nat) (x : Nd), bndN f x + 30 ≤ 200 * wtN f x
  | 0, x => by unfold bndN wtN; omega
  | f + 1, x => by
    have h : sumL (fun p : Int × List Nd => 30 + sumL (fun y => bndN f y + 30) p.2) x.fields ≤ sumL (fun p : Int × List Nd => 200 * (1 + sumL (wtN f) p.2)) x.fields := sumL_le fun p hp => by
      have h2 : sumL (fun y => bndN f y + 30) p.2 ≤ sumL (fun y => 200 * wtN f y) p.2 := sumL_le fun y hy => bnd_wt f y
      rw [sumL_mul] at h2
      omega
    rw [sumL_mul] at h
    unfold bndN wtN
    omega
end Go.Proofs.YtpnlbmobnopnoaaGreatDoor
namespace Go.Proofs.YtpnlbmobnopnoaaGreatDoor
set_option linter.unusedVariables false
open Go.ChangeShapes Go.WideShapes Go.ChangeAt Go.RowKit

/-- the first k bytes of a number, the lowest first -/
def lob (n : Int) : Nat → List Int
  | 0 => []
  | k + 1 => lob n k ++ [n / 2 ^ (8 * k) % 256]
theorem lob_length (n : Int) (k : Nat) : (lob n k).length = k := by
  induction k with
  | zero => rfl
  | succ k ih => simp [lob, ih]
theorem lob_bytes (n : Int) (k : Nat) : ∀ z ∈ lob n k, 0 ≤ z ∧ z ≤ 255 := by
  induction k with
  | zero => simp [lob]
  | succ k ih =>
    intro z hz
    simp only [lob, List.mem_append, List.mem_singleton] at hz
    rcases hz with hz | rfl
    · exact ih z hz
    · omega
theorem low_lob (n : Int) (k : Nat) : low (lob n k) = n % 2 ^ (8 * k) := by
  induction k with
  | zero => simp [lob, low, Int.emod_one]
  | succ k ih =>
    rw [lob, low_snoc, ih, lob_length, show 8 * (k + 1) = 8 * k + 8 by omega, Int.pow_add, show (2 : Int) ^ 8 = 256 by decide]
    have hp : (0 : Int) < 2 ^ (8 * k) := Int.pow_pos (by decide)
    generalize (2 : Int) ^ (8 * k) = P at *
    rw [Int.emod_def n (P * 256), Int.emod_def n P, Int.emod_def (n / P) 256]
    have e : n / P / 256 = n / (P * 256) := by rw [Int.ediv_ediv, if_neg (by omega), Int.sub_zero]
    rw [e]
    rw [Int.sub_mul, Int.mul_comm (n / P) P, Int.mul_comm (256 * _) P, Int.mul_assoc P 256]
    omega

theorem afix_step (w : World) (zs : List Int) (n : Int) (s k : Nat) (h : k < s) (len : Nat) (hl : zs.length = len) :
    (blk w 5 (zs ++ (lob n k ++ List.replicate (s - k) 0))).setCell ⟨w.heap.size, len + k, none⟩ (.int .u8 (n / 2 ^ (8 * k) % 256)) = blk w 5 (zs ++ (lob n (k + 1) ++ List.replicate (s - (k + 1)) 0)) := by
  rw [blk_set]
  congr 1
  subst hl
  obtain ⟨m, hm⟩ : ∃ m, s - k = m + 1 := ⟨s - k - 1, by omega⟩
  have hm2 : s - (k + 1) = m := by omega
  rw [hm, hm2, List.set_append_right _ _ (by omega), List.set_append_right _ _ (by rw [lob_length]; omega), lob_length]
  simp [lob, List.replicate_succ]
theorem afix_at (zs : List Int) (n : Int) (s k : Nat) (h : k < s) (len : Nat) (hl : zs.length = len) :
    (zs ++ (lob n k ++ List.replicate (s - k) 0))[len + k]? = some 0 := by
  subst hl
  rw [List.getElem?_append_right (by omega), List.getElem?_append_right (by rw [lob_length]; omega), lob_length]
  rw [show zs.length + k - zs.length - k = 0 by omega]
  obtain ⟨m, hm⟩ : ∃ m, s - k = m + 1 := ⟨s - k - 1, by omega⟩
  simp [hm, List.replicate_succ]

set_option maxHeartbeats 1000000 in
theorem afixed_any (a : Option Addr) (len cap : Nat) (zs : List Int) (n : Int) (s : Nat) (w : World) (hB : IsB w a len zs) (hn0 : 0 ≤ n) (hn1 : n ≤ 18446744073709551615) (hs : s ≤ 8) (hl : len ≤ 140737488351232) :
    Calls Tryz.prog 114 #[.slice a len cap, .int .u64 n, .int .i64 s] w fun e w' =>
      e = .returned (.slice (some ⟨w.heap.size, 0, none⟩) (len + s) (len + s)) ∧ w' = blk w 5 (zs ++ lob n s) := by
  have HB : Hid (IsB w a len zs) := hB
  have hzl : Hid (zs.length = len) := hB.1
  clear hB
  go_enter Tryz.func114, Tryz.ntmps114
  go_wp2_with fail
  refine (grown_any _ _ _ zs s _ HB.out (by omega)).mono ?_
  rintro e w' ⟨rfl, rfl⟩
  clear HB
  go_wp2_with fail
  go_loopw [13] (fun i wr => ∃ k : Nat, k ≤ s ∧ i = .int .i64 k ∧ wr = blk w 5 (zs ++ (lob n k ++ List.replicate (s - k) 0))) (fun i _ => s - (intOf i).toNat)
  case atStart => exact ⟨0, by omega, rfl, by simp [lob]⟩
  case round =>
    obtain ⟨k, hk, rfl, hwr⟩ := hrel
    have HW : Hid (wr = blk w 5 (zs ++ (lob n k ++ List.replicate (s - k) 0))) := hwr
    clear hwr
    by_cases hlt : k < s
    · have hcell : wr.cell? ⟨w.heap.size, len + k, none⟩ = some (.int .u8 0) := by
        rw [HW.out]; exact blk_cell w 5 _ (afix_at zs n s k hlt len hzl.out)
      have hfro : wr.frozen? ⟨w.heap.size, len + k, none⟩ = false := by
        rw [HW.out]; exact blk_frozen w 5 _ _
      go_wp2
      go_roundw
      case rel => exact ⟨k + 1, by omega, by go_num, by rw [HW.out]; exact afix_step w zs n s k hlt len hzl.out⟩
      case measure => simp [intOf]; omega
    · obtain rfl : k = s := by omega
      go_wp2
      go_ret
      exact ⟨rfl, by rw [HW.out]; simp⟩
set_option maxHeartbeats 1000000 in
theorem append32_any (a : Option Addr) (len cap : Nat) (zs : List Int) (n : Int) (w : World) (hB : IsB w a len zs) (hn0 : 0 ≤ n) (hn1 : n ≤ 4294967295) (hl : len ≤ 140737488351232) :
    Calls Tryz.prog 99 #[.slice a len cap, .int .u32 n] w fun e w' =>
      e = .returned (.slice (some ⟨w.heap.size, 0, none⟩) (len + 4) (len + 4)) ∧ w' = blk w 5 (zs ++ lob n 4) := by
  have HB : Hid (IsB w a len zs) := hB
  clear hB
  go_enter Tryz.func99, Tryz.ntmps99
  go_wp2_with fail
  refine (afixed_any _ _ _ zs n 4 _ HB.out (by omega) (by omega) (by omega) hl).mono ?_
  rintro e w' ⟨rfl, rfl⟩
  go_wp2_with fail
  go_ret
  exact ⟨rfl, rfl⟩
set_option maxHeartbeats 1000000 in
theorem append64_any (a : Option Addr) (len cap : Nat) (zs : List Int) (n : Int) (w : World) (hB : IsB w a len zs) (hn0 : 0 ≤ n) (hn1 : n ≤ 18446744073709551615) (hl : len ≤ 140737488351232) :
    Calls Tryz.prog 98 #[.slice a len cap, .int .u64 n] w fun e w' =>
      e = .returned (.slice (some ⟨w.heap.size, 0, none⟩) (len + 8) (len + 8)) ∧ w' = blk w 5 (zs ++ lob n 8) := by
  have HB : Hid (IsB w a len zs) := hB
  clear hB
  go_enter Tryz.func98, Tryz.ntmps98
  go_wp2_with fail
  refine (afixed_any _ _ _ zs n 8 _ HB.out (by omega) (by omega) (by omega) hl).mono ?_
  rintro e w' ⟨rfl, rfl⟩
  go_wp2_with fail
  go_ret
  exact ⟨rfl, rfl⟩
end Go.Proofs.YtpnlbmobnopnoaaGreatDoor
namespace Go.Proofs.YtpnlbmobnopnoaaGreatDoor
set_option linter.unusedVariables false

/-- the bytes of a field -/
def fbytes (num ty n : Int) (d : List Int) : List Int :=
  vint (8 * num + ty).toNat ++ (if ty = 0 then vint n.toNat else if ty = 1 then lob n 8 else if ty = 5 then lob n 4 else vint d.length ++ d)
end Go.Proofs.YtpnlbmobnopnoaaGreatDoor
