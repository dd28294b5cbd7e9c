/-
  The walk over the program's without: a timer less in a tree; what was there stays as it was.
-/
import Derived.Test.YtblebbmnlbmgiaaTmW
namespace Go.Proofs.Ytblebbmnlbmgiaa
set_option linter.unusedVariables false
open Go.ChangeShapes Go.WideShapes Go.ChangeAt Go.RowKit

/-- the tree with one timer less -/
def WoutAns (w : World) (ok : Nat → Prop) (t : Tr) (k : Nat) (e : Ending) (w' : World) : Prop :=
  ∃ v T', e = .returned v ∧ HeldO w' ok T' v ∧ (∀ t', T' = some t' → t'.WF) ∧ (∀ k' d', MemO T' k' d' ↔ k' ≠ k ∧ t.Mem k' d') ∧ Below w.heap.size w w'
theorem memO_some (z : Tr) (k' : Nat) (d' : Int) : MemO (some z) k' d' ↔ z.Mem k' d' := ⟨fun ⟨t, e, hm⟩ => by obtain rfl := Option.some.inj e; exact hm, fun hm => ⟨z, rfl, hm⟩⟩
theorem memO_none (k' : Nat) (d' : Int) : ¬ MemO none k' d' := fun ⟨t, e, _⟩ => by cases e
/-- what without comes to where a child loses the timer -/
theorem wout_child {tk : Nat} {td : Int} {s : Nat} {x y : Tr} (h : (Tr.bin tk td s x y).WF) {k : Nat} {T' : Option Tr} :
    (k / 2 ^ (s - 1) % 2 = 0 → (∀ k' d', MemO T' k' d' ↔ k' ≠ k ∧ x.Mem k' d') → ∀ k' d', (y.Mem k' d' ∨ MemO T' k' d') ↔ k' ≠ k ∧ (Tr.bin tk td s x y).Mem k' d') ∧
    (k / 2 ^ (s - 1) % 2 = 1 → (∀ k' d', MemO T' k' d' ↔ k' ≠ k ∧ y.Mem k' d') → ∀ k' d', (x.Mem k' d' ∨ MemO T' k' d') ↔ k' ≠ k ∧ (Tr.bin tk td s x y).Mem k' d') := by
  obtain ⟨hx, hy, h1, h2, ⟨p, hpx, hpy⟩, hl⟩ := h
  constructor
  · intro e0 hm k' d'
    rw [hm]
    constructor
    · rintro (h | h)
      · exact ⟨fun e => by have := hpy _ _ h; rw [e] at this; omega, .inr h⟩
      · exact ⟨h.1, .inl h.2⟩
    · rintro ⟨h, h3 | h3⟩
      · exact .inr ⟨h, h3⟩
      · exact .inl h3
  · intro e0 hm k' d'
    rw [hm]
    constructor
    · rintro (h | h)
      · exact ⟨fun e => by have := hpx _ _ h; rw [e] at this; omega, .inl h⟩
      · exact ⟨h.1, .inr h.2⟩
    · rintro ⟨h, h3 | h3⟩
      · exact .inl h3
      · exact .inr ⟨h, h3⟩
set_option maxHeartbeats 4000000 in
theorem woutL_any (b k tk : Nat) (td : Int) (ok : Nat → Prop) (w : World) (hT : HeldT w ok (.leaf tk td) b) (hm : ∃ d, (Tr.leaf tk td).Mem k d) :
    Calls Try.prog 20 #[ptr b, .int .u64 k] w fun e w' => WoutAns w ok (.leaf tk td) k e w' := by
  obtain ⟨_, a0, a1, a2⟩ := hT
  obtain ⟨d, rfl, _⟩ := hm
  unfold ptr
  go_enter Try.func20, Try.ntmps20
  go_wp2_with fail
  go_ret
  exact ⟨_, none, rfl, rfl, fun t e => (by cases e), fun k' d' => ⟨fun h => absurd h (memO_none _ _), fun h => absurd h.2.1 h.1⟩, Below.refl _ _⟩
set_option maxHeartbeats 4000000 in
theorem woutB_any (tk : Nat) (td : Int) (s : Nat) (x y : Tr) (b k : Nat) (ok : Nat → Prop) (w : World) (hT : HeldT w ok (.bin tk td s x y) b) (hwf : (Tr.bin tk td s x y).WF) (hk : k < 18446744073709551616) (hok : ∀ b, w.heap.size ≤ b → ok b) (hm : ∃ d, (Tr.bin tk td s x y).Mem k d)
    (ihx : ∀ (b : Nat) (w : World), HeldT w ok x b → x.WF → (∀ b, w.heap.size ≤ b → ok b) → (∃ d, x.Mem k d) → Calls Try.prog 20 #[ptr b, .int .u64 k] w fun e w' => WoutAns w ok x k e w')
    (ihy : ∀ (b : Nat) (w : World), HeldT w ok y b → y.WF → (∀ b, w.heap.size ≤ b → ok b) → (∃ d, y.Mem k d) → Calls Try.prog 20 #[ptr b, .int .u64 k] w fun e w' => WoutAns w ok y k e w') :
    Calls Try.prog 20 #[ptr b, .int .u64 k] w fun e w' => WoutAns w ok (.bin tk td s x y) k e w' := by
  have hch := fun T' => wout_child hwf (k := k) (T' := T')
  have hsi := fun d => Tr.WF.side hwf (k' := k) (d' := d)
  obtain ⟨wx, wy, hs1, hs2, ⟨p, hpx, hpy⟩, hl0⟩ := hwf
  obtain ⟨_, a0, a1, a2, bx, bz, a3, a4, hx, hy⟩ := hT
  have hlb := cell_lt a0
  have hsd := fun wz => side_any k s wz hk hs1 hs2
  have HW : Hid (x.WF ∧ y.WF) := ⟨wx, wy⟩
  have HH : Hid (HeldT w ok x bx ∧ HeldT w ok y bz) := ⟨hx, hy⟩
  have HCH := Lib.hid hch
  have hs0 : ¬ (s : Int) = 0 := by omega
  unfold ptr at *
  rcases sideN k s with e0 | e0
  · obtain ⟨d, hmd⟩ := hm
    have HC := Lib.hid (ihx bx w hx wx hok ⟨d, ((hsi d).1 e0).1 hmd⟩)
    have HJ : Hid (∀ (W : World) (q : Nat) (t' : Tr), Below w.heap.size w W → HeldT W ok t' q → t'.WF → (∀ k' d', MemO (some t') k' d' ↔ k' ≠ k ∧ x.Mem k' d') → Calls Try.prog 23 #[.pointer (some ⟨bz, 0, none⟩), .pointer (some ⟨q, 0, none⟩), .int .i64 s] W fun e w' => WoutAns w ok (.bin tk td s x y) k e w' ∧ Below W.heap.size W w') := by
      refine (?_ : ∀ (W : World) (q : Nat) (t' : Tr), _ → _ → _ → _ → _)
      intro W q t' hW hq hw' hm
      have hq2 : t'.Agree (s - 1) (2 * p) := fun k' d' h => hpx k' d' ((hm k' d').1 ((memO_some _ _ _).2 h)).2
      refine (join_any y t' bz q s _ _ ok W (hy.old hW) hq wy hw' hs1 hs2 hpy hq2 (by omega) (by omega) fun g hg => hok g (Nat.le_trans hW.size hg)).mono ?_
      rintro e w' ⟨q2, t2, rfl, h1, h2, h3, h4⟩
      refine ⟨⟨_, some t2, rfl, ⟨q2, rfl, h1⟩, fun t e => by obtain rfl := Option.some.inj e; exact h2, fun k' d' => ?_, hW.trans (h4.mono hW.size)⟩, h4⟩
      rw [memO_some, h3, ← (hch (some t')).1 e0 hm, memO_some]
    clear hch hsi hpx hpy hx hy wx wy hl0 hmd ihx ihy hok
    rw [e0] at hsd
    have HE := Lib.hid e0
    clear e0
    go_enter Try.func20, Try.ntmps20
    go_wp2_with (go_at_call 21; with_reducible refine (hsd _).mono ?_; rintro e w1 ⟨rfl, rfl⟩)
    refine HC.out.mono ?_
    rintro e W ⟨v, T', rfl, h1, h2, h3, h4⟩
    have hS0 := h4
    have HT3 := Lib.hid h3
    have HT2 := Lib.hid h2
    have s2 : ∀ W, Below w1.heap.size w1 W → W.cell? ⟨b, 2, none⟩ = some (.int .i64 s) := fun W hW => (hW.cell (p := ⟨b, 2, none⟩) hlb).trans a2
    have s3 : ∀ W, Below w1.heap.size w1 W → W.cell? ⟨b, 3, none⟩ = some (.pointer (some ⟨bx, 0, none⟩)) := fun W hW => (hW.cell (p := ⟨b, 3, none⟩) hlb).trans a3
    have s4 : ∀ W, Below w1.heap.size w1 W → W.cell? ⟨b, 4, none⟩ = some (.pointer (some ⟨bz, 0, none⟩)) := fun W hW => (hW.cell (p := ⟨b, 4, none⟩) hlb).trans a4
    clear h2 h3 h4 a0 a1 a2 a3 a4
    cases T' with
    | none =>
      have hv : v = .pointer none := h1
      subst hv
      have c := s4 W hS0
      go_wp2_with fail
      go_ret
      refine ⟨_, some y, rfl, ⟨bz, rfl, HH.out.2.old hS0⟩, fun t e => by obtain rfl := Option.some.inj e; exact HW.out.2, fun k' d' => ?_, hS0⟩
      rw [memO_some, ← (HCH.out none).1 HE.out HT3.out]
      exact ⟨.inl, fun h => h.elim id fun h => absurd h (memO_none _ _)⟩
    | some t' =>
      obtain ⟨q, hv, hq⟩ := h1
      subst hv
      unfold ptr
      go_upto_region 7 with fail
      have HJS : Hid (Below w1.heap.size w1 W) := hS0
      have HJ2 : Hid (∀ (W2 : World), Below w1.heap.size w1 W2 → W2.heap = W.heap → Calls Try.prog 23 #[.pointer (some ⟨bz, 0, none⟩), .pointer (some ⟨q, 0, none⟩), .int .i64 s] W2 fun e w' => WoutAns w1 ok (.bin tk td s x y) k e w' ∧ Below W2.heap.size W2 w') := fun W2 h2 hh => HJ.out W2 q t' h2 (hq.mv (fun b _ _ => by rw [hh]) (fun _ h _ => h)) (HT2.out t' rfl) HT3.out
      have hS1 : Below w1.heap.size w1 W.drew := hS0.drew
      have hWh : W.drew.heap = W.heap := rfl
      clear hS0 hq
      have hS0 := hS1
      clear hS1
      have HJQ := Lib.hid (HJ2.out W.drew hS0 hWh)
      clear hWh HJ2
      refine wp_region_held_drew (S := fun W => Below w1.heap.size w1 W) (by kernel_rfl) hS0 (fun _ => ?_)
      refine T_on 0 (.pointer (some ⟨b, 0, none⟩)) rfl (by kernel_rfl) (fun _ _ _ h => h) hS0 (fun W hW => by go_simp) ?_
      refine T_on 1 (.int .i64 0) rfl (by kernel_rfl) (fun _ _ _ h => h) hS0 (fun W hW => by go_simp) ?_
      refine T_on 2 (.int .i64 1) rfl (by kernel_rfl) (fun _ _ _ h => h) hS0 (fun W hW => by go_simp; decide) ?_
      refine T_on 3 (.pointer (some ⟨b, 0, none⟩)) rfl (by kernel_rfl) (fun _ _ _ h => h) hS0 (fun W hW => by go_simp) ?_
      refine T_on 4 (.pointer (some ⟨b, 3, none⟩)) rfl (by kernel_rfl) (fun _ _ _ h => h) hS0 (fun W hW => by go_simp) ?_
      refine T_on 5 (.pointer (some ⟨b, 4, none⟩)) rfl (by kernel_rfl) (fun _ _ _ h => h) hS0 (fun W hW => by go_simp) ?_
      refine T_on 6 (.pointer (some ⟨bz, 0, none⟩)) rfl (by kernel_rfl) (fun _ _ _ h => h) hS0 (fun W hW => by have c := s4 W hW; go_simp) ?_
      refine T_on 7 (.pointer (some ⟨q, 0, none⟩)) rfl (by kernel_rfl) (fun _ _ _ h => h) hS0 (fun W hW => by go_simp) ?_
      refine T_on 8 (.pointer (some ⟨b, 0, none⟩)) rfl (by kernel_rfl) (fun _ _ _ h => h) hS0 (fun W hW => by go_simp) ?_
      refine T_on 9 (.pointer (some ⟨b, 0, none⟩)) rfl (by kernel_rfl) (fun _ _ _ h => h) hS0 (fun W hW => by go_simp) ?_
      refine T_on 10 (.pointer (some ⟨b, 2, none⟩)) rfl (by kernel_rfl) (fun _ _ _ h => h) hS0 (fun W hW => by go_simp) ?_
      refine T_on 11 (.int .i64 s) rfl (by kernel_rfl) (fun _ _ _ h => h) hS0 (fun W hW => by have c := s2 W hW; go_simp) ?_
      refine T_call 12 (by kernel_rfl) rfl (fun K hK => ?_)
      go_simp
      refine HJQ.out.mono ?_
      rintro e U2 ⟨⟨v2, T2, rfl, h1, h2⟩, h4⟩
      have HA : Hid (WoutAns w1 ok (.bin tk td s x y) k (.returned v2) U2) := ⟨v2, T2, rfl, h1, h2⟩
      have hS1 := hS0.trans (h4.mono hS0.size)
      clear hS0 h1 h2 h4
      have hS0 := hS1
      clear hS1
      dsimp only
      refine hK.out _ _ hS0 (fun _ => ?_)
      clear hK K
      refine T_on 13 (v2) rfl (by kernel_rfl) (fun _ _ _ h => h) hS0 (fun W hW => by go_simp) ?_
      refine wpAnyH_done (by kernel_rfl) ?_ _
      go_simp
      go_wp2_with fail
      go_ret
      exact HA.out
  · obtain ⟨d, hmd⟩ := hm
    have HC := Lib.hid (ihy bz w hy wy hok ⟨d, ((hsi d).2 e0).1 hmd⟩)
    have HJ : Hid (∀ (W : World) (q : Nat) (t' : Tr), Below w.heap.size w W → HeldT W ok t' q → t'.WF → (∀ k' d', MemO (some t') k' d' ↔ k' ≠ k ∧ y.Mem k' d') → Calls Try.prog 23 #[.pointer (some ⟨bx, 0, none⟩), .pointer (some ⟨q, 0, none⟩), .int .i64 s] W fun e w' => WoutAns w ok (.bin tk td s x y) k e w' ∧ Below W.heap.size W w') := by
      refine (?_ : ∀ (W : World) (q : Nat) (t' : Tr), _ → _ → _ → _ → _)
      intro W q t' hW hq hw' hm
      have hq2 : t'.Agree (s - 1) (2 * p + 1) := fun k' d' h => hpy k' d' ((hm k' d').1 ((memO_some _ _ _).2 h)).2
      refine (join_any x t' bx q s _ _ ok W (hx.old hW) hq wx hw' hs1 hs2 hpx hq2 (by omega) (by omega) fun g hg => hok g (Nat.le_trans hW.size hg)).mono ?_
      rintro e w' ⟨q2, t2, rfl, h1, h2, h3, h4⟩
      refine ⟨⟨_, some t2, rfl, ⟨q2, rfl, h1⟩, fun t e => by obtain rfl := Option.some.inj e; exact h2, fun k' d' => ?_, hW.trans (h4.mono hW.size)⟩, h4⟩
      rw [memO_some, h3, ← (hch (some t')).2 e0 hm, memO_some]
    clear hch hsi hpx hpy hx hy wx wy hl0 hmd ihx ihy hok
    rw [e0] at hsd
    have HE := Lib.hid e0
    clear e0
    go_enter Try.func20, Try.ntmps20
    go_wp2_with (go_at_call 21; with_reducible refine (hsd _).mono ?_; rintro e w1 ⟨rfl, rfl⟩)
    refine HC.out.mono ?_
    rintro e W ⟨v, T', rfl, h1, h2, h3, h4⟩
    have hS0 := h4
    have HT3 := Lib.hid h3
    have HT2 := Lib.hid h2
    have s2 : ∀ W, Below w1.heap.size w1 W → W.cell? ⟨b, 2, none⟩ = some (.int .i64 s) := fun W hW => (hW.cell (p := ⟨b, 2, none⟩) hlb).trans a2
    have s3 : ∀ W, Below w1.heap.size w1 W → W.cell? ⟨b, 3, none⟩ = some (.pointer (some ⟨bx, 0, none⟩)) := fun W hW => (hW.cell (p := ⟨b, 3, none⟩) hlb).trans a3
    have s4 : ∀ W, Below w1.heap.size w1 W → W.cell? ⟨b, 4, none⟩ = some (.pointer (some ⟨bz, 0, none⟩)) := fun W hW => (hW.cell (p := ⟨b, 4, none⟩) hlb).trans a4
    clear h2 h3 h4 a0 a1 a2 a3 a4
    cases T' with
    | none =>
      have hv : v = .pointer none := h1
      subst hv
      have c := s3 W hS0
      go_wp2_with fail
      go_ret
      refine ⟨_, some x, rfl, ⟨bx, rfl, HH.out.1.old hS0⟩, fun t e => by obtain rfl := Option.some.inj e; exact HW.out.1, fun k' d' => ?_, hS0⟩
      rw [memO_some, ← (HCH.out none).2 HE.out HT3.out]
      exact ⟨.inl, fun h => h.elim id fun h => absurd h (memO_none _ _)⟩
    | some t' =>
      obtain ⟨q, hv, hq⟩ := h1
      subst hv
      unfold ptr
      go_upto_region 7 with fail
      have HJS : Hid (Below w1.heap.size w1 W) := hS0
      have HJ2 : Hid (∀ (W2 : World), Below w1.heap.size w1 W2 → W2.heap = W.heap → Calls Try.prog 23 #[.pointer (some ⟨bx, 0, none⟩), .pointer (some ⟨q, 0, none⟩), .int .i64 s] W2 fun e w' => WoutAns w1 ok (.bin tk td s x y) k e w' ∧ Below W2.heap.size W2 w') := fun W2 h2 hh => HJ.out W2 q t' h2 (hq.mv (fun b _ _ => by rw [hh]) (fun _ h _ => h)) (HT2.out t' rfl) HT3.out
      have hS1 : Below w1.heap.size w1 W.drew := hS0.drew
      have hWh : W.drew.heap = W.heap := rfl
      clear hS0 hq
      have hS0 := hS1
      clear hS1
      have HJQ := Lib.hid (HJ2.out W.drew hS0 hWh)
      clear hWh HJ2
      refine wp_region_held_drew (S := fun W => Below w1.heap.size w1 W) (by kernel_rfl) hS0 (fun _ => ?_)
      refine T_on 0 (.pointer (some ⟨b, 0, none⟩)) rfl (by kernel_rfl) (fun _ _ _ h => h) hS0 (fun W hW => by go_simp) ?_
      refine T_on 1 (.int .i64 1) rfl (by kernel_rfl) (fun _ _ _ h => h) hS0 (fun W hW => by go_simp) ?_
      refine T_on 2 (.int .i64 0) rfl (by kernel_rfl) (fun _ _ _ h => h) hS0 (fun W hW => by go_simp; decide) ?_
      refine T_on 3 (.pointer (some ⟨b, 0, none⟩)) rfl (by kernel_rfl) (fun _ _ _ h => h) hS0 (fun W hW => by go_simp) ?_
      refine T_on 4 (.pointer (some ⟨b, 3, none⟩)) rfl (by kernel_rfl) (fun _ _ _ h => h) hS0 (fun W hW => by go_simp) ?_
      refine T_on 5 (.pointer (some ⟨b, 3, none⟩)) rfl (by kernel_rfl) (fun _ _ _ h => h) hS0 (fun W hW => by go_simp) ?_
      refine T_on 6 (.pointer (some ⟨bx, 0, none⟩)) rfl (by kernel_rfl) (fun _ _ _ h => h) hS0 (fun W hW => by have c := s3 W hW; go_simp) ?_
      refine T_on 7 (.pointer (some ⟨q, 0, none⟩)) rfl (by kernel_rfl) (fun _ _ _ h => h) hS0 (fun W hW => by go_simp) ?_
      refine T_on 8 (.pointer (some ⟨b, 0, none⟩)) rfl (by kernel_rfl) (fun _ _ _ h => h) hS0 (fun W hW => by go_simp) ?_
      refine T_on 9 (.pointer (some ⟨b, 0, none⟩)) rfl (by kernel_rfl) (fun _ _ _ h => h) hS0 (fun W hW => by go_simp) ?_
      refine T_on 10 (.pointer (some ⟨b, 2, none⟩)) rfl (by kernel_rfl) (fun _ _ _ h => h) hS0 (fun W hW => by go_simp) ?_
      refine T_on 11 (.int .i64 s) rfl (by kernel_rfl) (fun _ _ _ h => h) hS0 (fun W hW => by have c := s2 W hW; go_simp) ?_
      refine T_call 12 (by kernel_rfl) rfl (fun K hK => ?_)
      go_simp
      refine HJQ.out.mono ?_
      rintro e U2 ⟨⟨v2, T2, rfl, h1, h2⟩, h4⟩
      have HA : Hid (WoutAns w1 ok (.bin tk td s x y) k (.returned v2) U2) := ⟨v2, T2, rfl, h1, h2⟩
      have hS1 := hS0.trans (h4.mono hS0.size)
      clear hS0 h1 h2 h4
      have hS0 := hS1
      clear hS1
      dsimp only
      refine hK.out _ _ hS0 (fun _ => ?_)
      clear hK K
      refine T_on 13 (v2) rfl (by kernel_rfl) (fun _ _ _ h => h) hS0 (fun W hW => by go_simp) ?_
      refine wpAnyH_done (by kernel_rfl) ?_ _
      go_simp
      go_wp2_with fail
      go_ret
      exact HA.out
theorem without_any (t : Tr) (b k : Nat) (ok : Nat → Prop) (w : World) (hT : HeldT w ok t b) (hwf : t.WF) (hk : k < 18446744073709551616) (hok : ∀ b, w.heap.size ≤ b → ok b) (hm : ∃ d, t.Mem k d) :
    Calls Try.prog 20 #[ptr b, .int .u64 k] w fun e w' => WoutAns w ok t k e w' := by
  induction t generalizing b w with
  | leaf tk td => exact woutL_any b k tk td ok w hT hm
  | bin tk td s x y ihx ihy => exact woutB_any tk td s x y b k ok w hT hwf hk hok hm (fun b w h1 h2 h3 h4 => ihx b w h1 h2 h3 h4) (fun b w h1 h2 h3 h4 => ihy b w h1 h2 h3 h4)
end Go.Proofs.Ytblebbmnlbmgiaa
