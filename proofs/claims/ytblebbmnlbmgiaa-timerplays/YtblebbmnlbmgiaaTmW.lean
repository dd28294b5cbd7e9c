/-
  The walks over the program's with and without: a timer more, or less, in a tree; what was there stays as it was.
-/
import Derived.Test.YtblebbmnlbmgiaaTmJ
import Derived.Test.YtblebbmnlbmgiaaTmF
import Derived.OrdersHeld
import Derived.Deep.RegionHeld
import Derived.Deep.RegionHeldLaw
import Derived.Deep.Cut
import Derived.Deep.DeepCutAuto
namespace Go.Proofs.Ytblebbmnlbmgiaa
set_option linter.unusedVariables false
open Go.ChangeShapes Go.WideShapes Go.ChangeAt Go.RowKit

section
variable {P : Program} {ops : Array Oper} {Q : Exit → Act → World → Prop} {md : Region.Mode} {S : World → Prop}
theorem T_on (i : Nat) (v : Value) {oi : Oper} {fuel : Nat} {l : Array Bool} {a : Act} {w : World} (hi : ops[i]? = some oi) (hb : (Region.noSelect ops && Region.free md ops l i && (Region.ready md ops l).contains i && Region.wanted oi (yielded ops a.tmps)) = true)
    (hQ : ∀ c a w, Q (.panic c) (a.put oi.dst v) w → Q (.panic c) a w) (hS : S w) (hy : ∀ w, S w → (execOp a.eval oi).run P w = .ok (.value v) w)
    (h : wpAnyH P md ops Q S fuel (l.setIfInBounds i true) (a.put oi.dst v) w) : wpAnyH P md ops Q S (fuel + 1) l a w := by
  simp only [Bool.and_eq_true] at hb
  exact wpAnyH_take hi hb.1.1.1 hb.1.1.2 hb.1.2 hQ (.inl ⟨hb.2, hy⟩) hS h
theorem T_off (i : Nat) {oi : Oper} {fuel : Nat} {l : Array Bool} {a : Act} {w : World} (hi : ops[i]? = some oi) (hb : (Region.noSelect ops && Region.free md ops l i && (Region.ready md ops l).contains i && !Region.wanted oi (yielded ops a.tmps)) = true)
    (hQ : ∀ c a w, Q (.panic c) (a.put oi.dst undef) w → Q (.panic c) a w) (hS : S w)
    (h : wpAnyH P md ops Q S fuel (l.setIfInBounds i true) (a.put oi.dst undef) w) : wpAnyH P md ops Q S (fuel + 1) l a w := by
  simp only [Bool.and_eq_true] at hb
  exact wpAnyH_take hi hb.1.1.1 hb.1.1.2 hb.1.2 hQ (.inr ⟨by simpa using hb.2, rfl⟩) hS h
theorem T_call (i : Nat) {oi : Oper} {fuel : Nat} {l : Array Bool} {a : Act} {w : World} (hr : Region.ready md ops l = [i]) (hi : ops[i]? = some oi)
    (h : ∀ K' : Act → World → Prop, Shut (∀ a w, S w → (S w → wpAnyH P md ops Q S fuel (l.setIfInBounds i true) a w) → K' a w) → if Region.wanted oi (yielded ops a.tmps) = true then Oper.wp P oi a w K' Q else K' (a.put oi.dst undef) w) : wpAnyH P md ops Q S (fuel + 1) l a w :=
  wpAnyH_ready hr (by simp) (AllReadyH.cons hi h AllReadyH.nil)
end

theorem bitLen_zero {x : Nat} (h : x < 2 ^ 64) (h0 : Lib.bitLen x = 0) : x = 0 := by
  by_cases hx : x = 0
  · exact hx
  · have := Lib.bitLen_half x hx h
    omega
theorem bitLen_lt {x : Nat} (h : x < 2 ^ 64) : x < 2 ^ Lib.bitLen x := by
  by_cases hx : x < 2 ^ Lib.bitLen x
  · exact hx
  · have h1 := Lib.bitLen_shift (Lib.bitLen x) x (by omega) h
    have h2 := bitLen_zero (x := x / 2 ^ Lib.bitLen x) (Nat.lt_of_le_of_lt (Nat.div_le_self _ _) h) (by omega)
    have h3 := Nat.div_pos (show 2 ^ Lib.bitLen x ≤ x by omega) (Nat.two_pow_pos _)
    omega
theorem bitLen_ge {x : Nat} (h : x < 2 ^ 64) (h1 : 1 ≤ Lib.bitLen x) : 2 ^ (Lib.bitLen x - 1) ≤ x := by
  by_cases hx : 2 ^ (Lib.bitLen x - 1) ≤ x
  · exact hx
  · have h0 : Lib.bitLen x ≤ 64 := Lib.bitLen_le x 64 (Nat.le_refl _) h
    have := Lib.bitLen_le x (Lib.bitLen x - 1) (by omega) (by omega)
    omega
/-- the tree with one timer more -/
def WithAns (w : World) (ok : Nat → Prop) (T : Option Tr) (k : Nat) (d : Int) (e : Ending) (w' : World) : Prop :=
  ∃ q t', e = .returned (ptr q) ∧ HeldT w' ok t' q ∧ t'.WF ∧ (∀ k' d', t'.Mem k' d' ↔ k' = k ∧ d' = d ∨ k' ≠ k ∧ MemO T k' d') ∧ Below w.heap.size w w'
/-- where the trees part: the new timer beside the old tree -/
theorem with_apart {t : Tr} (h : t.WF) {k : Nat} {d : Int} (hk : k < 18446744073709551616) (ha : t.span < Lib.bitLen (t.fk ^^^ k)) :
    1 ≤ Lib.bitLen (t.fk ^^^ k) ∧ Lib.bitLen (t.fk ^^^ k) ≤ 64 ∧ t.Agree (Lib.bitLen (t.fk ^^^ k) - 1) (t.fk / 2 ^ (Lib.bitLen (t.fk ^^^ k) - 1)) ∧ (Tr.leaf k d).Agree (Lib.bitLen (t.fk ^^^ k) - 1) (k / 2 ^ (Lib.bitLen (t.fk ^^^ k) - 1)) ∧
      t.fk / 2 ^ (Lib.bitLen (t.fk ^^^ k) - 1) / 2 = k / 2 ^ (Lib.bitLen (t.fk ^^^ k) - 1) / 2 ∧ t.fk / 2 ^ (Lib.bitLen (t.fk ^^^ k) - 1) ≠ k / 2 ^ (Lib.bitLen (t.fk ^^^ k) - 1) ∧ ∀ d', ¬ t.Mem k d' := by
  have hx : t.fk ^^^ k < 2 ^ 64 := Nat.xor_lt_two_pow (n := 64) h.fk_lt hk
  have h1 : 1 ≤ Lib.bitLen (t.fk ^^^ k) := by omega
  have hn := part_not (bitLen_ge hx h1)
  have hg := part_at (bitLen_lt hx)
  have hA : t.Agree (Lib.bitLen (t.fk ^^^ k) - 1) (t.fk / 2 ^ (Lib.bitLen (t.fk ^^^ k) - 1)) := by
    have := h.agree.up (Lib.bitLen (t.fk ^^^ k) - 1 - t.span)
    rw [show t.span + (Lib.bitLen (t.fk ^^^ k) - 1 - t.span) = Lib.bitLen (t.fk ^^^ k) - 1 by omega, Nat.div_div_eq_div_mul, ← Nat.pow_add, show t.span + (Lib.bitLen (t.fk ^^^ k) - 1 - t.span) = Lib.bitLen (t.fk ^^^ k) - 1 by omega] at this
    exact this
  refine ⟨h1, Lib.bitLen_le _ 64 (Nat.le_refl _) hx, hA, fun k' d' hm => by rw [hm.1], ?_, hn, fun d' hm => hn (hA _ _ hm).symm⟩
  rw [Tr.half _ _ h1, Tr.half _ _ h1]
  exact hg
/-- a key that is on a tree's way -/
theorem with_in {t : Tr} (h : t.WF) {k : Nat} (hk : k < 18446744073709551616) (ha : ¬ t.span < Lib.bitLen (t.fk ^^^ k)) : k / 2 ^ t.span = t.fk / 2 ^ t.span := by
  have hx : t.fk ^^^ k < 2 ^ 64 := Nat.xor_lt_two_pow (n := 64) h.fk_lt hk
  have hg : t.fk ^^^ k < 2 ^ t.span := Nat.lt_of_lt_of_le (bitLen_lt hx) (Nat.pow_le_pow_right (by decide) (by omega))
  exact (part_at hg).symm
theorem len_of (x : Int) (n : Nat) (hx : x = (n : Int)) (h : n < 18446744073709551616) (w : World) : Calls Try.prog 22 #[.int .u64 x] w fun e w' => e = .returned (.int .i64 (Lib.bitLen n : Nat)) ∧ w' = w := by
  subst hx
  have := bits_Len64 (n : Int) w (by omega) (by omega)
  rw [Int.toNat_natCast] at this
  exact this
/-- what with comes to where a child takes the timer in -/
theorem with_child {tk : Nat} {td : Int} {s : Nat} {x y : Tr} (h : (Tr.bin tk td s x y).WF) {k : Nat} {d : Int} (hk : k / 2 ^ s = tk / 2 ^ s) {t' : Tr} :
    (k / 2 ^ (s - 1) % 2 = 0 → (∀ k' d', t'.Mem k' d' ↔ k' = k ∧ d' = d ∨ k' ≠ k ∧ MemO (some x) k' d') → ∃ p, t'.Agree (s - 1) (2 * p) ∧ y.Agree (s - 1) (2 * p + 1) ∧ ∀ k' d', (y.Mem k' d' ∨ t'.Mem k' d') ↔ k' = k ∧ d' = d ∨ k' ≠ k ∧ MemO (some (Tr.bin tk td s x y)) k' d') ∧
    (k / 2 ^ (s - 1) % 2 = 1 → (∀ k' d', t'.Mem k' d' ↔ k' = k ∧ d' = d ∨ k' ≠ k ∧ MemO (some y) k' d') → ∃ p, x.Agree (s - 1) (2 * p) ∧ t'.Agree (s - 1) (2 * p + 1) ∧ ∀ k' d', (x.Mem k' d' ∨ t'.Mem k' d') ↔ k' = k ∧ d' = d ∨ k' ≠ k ∧ MemO (some (Tr.bin tk td s x y)) k' d') := by
  obtain ⟨hx, hy, h1, h2, ⟨p, hpx, hpy⟩, hl⟩ := h
  have ek := Tr.half k s h1
  have hq : k / 2 ^ s = p := by
    rw [hk]
    rcases hl.1 with hm | hm
    · have := hpx _ _ hm; rw [← Tr.half _ _ h1, this]; omega
    · have := hpy _ _ hm; rw [← Tr.half _ _ h1, this]; omega
  have mo : ∀ (z : Tr) k' d', MemO (some z) k' d' ↔ z.Mem k' d' := fun z k' d' => ⟨fun ⟨t, e, hm⟩ => by obtain rfl := Option.some.inj e; exact hm, fun hm => ⟨z, rfl, hm⟩⟩
  constructor
  · intro e0 hm
    refine ⟨p, fun k' d' hk' => ?_, hpy, fun k' d' => ?_⟩
    · rcases (hm k' d').1 hk' with ⟨rfl, _⟩ | ⟨_, h⟩
      · omega
      · exact hpx _ _ ((mo x _ _).1 h)
    · rw [hm, mo, mo]
      constructor
      · rintro (h | h | h)
        · exact .inr ⟨fun e => by have := hpy _ _ h; rw [e] at this; omega, .inr h⟩
        · exact .inl h
        · exact .inr ⟨h.1, .inl h.2⟩
      · rintro (h | ⟨h, h3 | h3⟩)
        · exact .inr (.inl h)
        · exact .inr (.inr ⟨h, h3⟩)
        · exact .inl h3
  · intro e0 hm
    refine ⟨p, hpx, fun k' d' hk' => ?_, fun k' d' => ?_⟩
    · rcases (hm k' d').1 hk' with ⟨rfl, _⟩ | ⟨_, h⟩
      · omega
      · exact hpy _ _ ((mo y _ _).1 h)
    · rw [hm, mo, mo]
      constructor
      · rintro (h | h | h)
        · exact .inr ⟨fun e => by have := hpx _ _ h; rw [e] at this; omega, .inl h⟩
        · exact .inl h
        · exact .inr ⟨h.1, .inr h.2⟩
      · rintro (h | ⟨h, h3 | h3⟩)
        · exact .inr (.inl h)
        · exact .inl h3
        · exact .inr (.inr ⟨h, h3⟩)
set_option maxHeartbeats 4000000 in
theorem withN_any (k : Nat) (d : Int) (ok : Nat → Prop) (w : World) (hk : k < 18446744073709551616) (hok : ∀ b, w.heap.size ≤ b → ok b) :
    Calls Try.prog 19 #[.pointer none, .agg #[.int .u64 k, .int .i64 d]] w fun e w' => WithAns w ok none k d e w' := by
  go_enter Try.func19, Try.ntmps19
  obtain ⟨X, hX, hXc, hXb, hXs⟩ := box_new w #[.int .u64 k, .int .i64 d] 54
  have c0 := cell_at hXc 0 rfl
  have c1 := cell_at hXc 1 rfl
  have HB := Lib.hid hXb
  clear hXb hXc
  go_wp2_with fail
  go_ret
  have e := alloc_heap_new X (.cells #[.int .u64 k, .int .i64 d, .int .i64 0, .pointer none, .pointer none] 57)
  rw [hXs] at e
  refine ⟨_, .leaf k d, rfl, leaf_new e (hok _ (by omega)), hk, fun k' d' => ?_, HB.out.alloc (by omega) _⟩
  constructor
  · exact .inl
  · rintro (h | ⟨_, t, h, _⟩)
    · exact h
    · cases h
set_option maxHeartbeats 4000000 in
theorem withJ_any (t : Tr) (b k : Nat) (d : Int) (ok : Nat → Prop) (w : World) (hT : HeldT w ok t b) (hwf : t.WF) (hk : k < 18446744073709551616) (hok : ∀ b, w.heap.size ≤ b → ok b) (ha : t.span < Lib.bitLen (t.fk ^^^ k)) :
    Calls Try.prog 19 #[ptr b, .agg #[.int .u64 k, .int .i64 d]] w fun e w' => WithAns w ok (some t) k d e w' := by
  obtain ⟨p1, p2, p3, p4, p5, p6, p7⟩ := with_apart hwf (d := d) hk ha
  obtain ⟨_, a0, a1, a2⟩ := hT.head
  have hlb := cell_lt a0
  obtain ⟨X, hX, hXc, hXb, hXs⟩ := box_new w #[.int .u64 k, .int .i64 d] 54
  have c0 := cell_at hXc 0 rfl
  have c1 := cell_at hXc 1 rfl
  have b0 := (hXb.cell (p := ⟨b, 0, none⟩) hlb).trans a0
  have b2 := (hXb.cell (p := ⟨b, 2, none⟩) hlb).trans a2
  have hx : t.fk ^^^ k < 18446744073709551616 := Nat.xor_lt_two_pow (n := 64) hwf.fk_lt hk
  have hl := fun wx => len_of (bits .xor .u64 (t.fk : Int) (k : Int)) _ (u64_xor_nat _ _ hwf.fk_lt hk) hx wx
  have HJ : Hid (∀ W qb, Below w.heap.size w W → HeldT W ok (.leaf k d) qb → Calls Try.prog 23 #[ptr b, ptr qb, .int .i64 (Lib.bitLen (t.fk ^^^ k) : Nat)] W fun e w' => WithAns w ok (some t) k d e w') := by
    refine (?_ : ∀ (W : World) (qb : Nat), _ → _ → _)
    intro W qb hW hq
    refine (join_any t (.leaf k d) b qb _ _ _ ok W (hT.old hW) hq hwf hk p1 p2 p3 p4 p5 p6 fun g hg => hok g (Nat.le_trans hW.size hg)).mono ?_
    rintro e w' ⟨q, t', rfl, h1, h2, h3, h4⟩
    refine ⟨q, t', rfl, h1, h2, fun k' d' => (h3 k' d').trans ?_, hW.trans (h4.mono hW.size)⟩
    constructor
    · rintro (h | h)
      · exact .inr ⟨fun e => p7 _ (e ▸ h), t, rfl, h⟩
      · exact .inl h
    · rintro (h | ⟨_, t2, e, h⟩)
      · exact .inr h
      · obtain rfl := Option.some.inj e; exact .inl h
  clear p1 p2 p3 p4 p5 p6 p7 hT hx hwf
  unfold ptr at HJ ⊢
  generalize Lib.bitLen (t.fk ^^^ k) = A at *
  generalize t.fk = tk at *
  generalize t.span = ts at *
  have ha2 : ¬ (A : Int) ≤ (ts : Int) := by omega
  have ha3 : (ts : Int) < (A : Int) := by omega
  have HB := Lib.hid hXb
  have HOK := Lib.hid hok
  clear hXb hXc a0 a1 a2 hok
  go_enter Try.func19, Try.ntmps19
  go_wp2_with fail
  go_quiet (with_reducible exact Calls.quiet_of_same (hl _))
  generalize hwX : X.drewN _ = Y
  have e0 : ∀ p, Y.cell? p = X.cell? p := fun p => by rw [← hwX]; rfl
  have hYs : Y.heap.size = w.heap.size + 1 := by rw [← hwX]; exact hXs
  have HYB : Hid (Below w.heap.size w Y) := by refine (?_ : Below _ _ _); rw [← hwX]; exact HB.out.trans ((below_drewN X _).mono (by omega))
  rw [← e0] at c0 c1 b0 b2
  clear e0 hwX hX hXs
  obtain ⟨Z, hZ, hZc, hZb, hZs⟩ := box_new Y #[.int .u64 k, .int .i64 d, .int .i64 0, .pointer none, .pointer none] 57
  rw [hYs] at hZc
  have HZ := Lib.hid (leaf_new (ok := ok) hZc (HOK.out _ (by omega)))
  have HZB : Hid (Below w.heap.size w Z) := HYB.out.trans (hZb.mono (by omega))
  clear hZb hZc
  go_wp2_with fail
  refine (HJ.out _ _ HZB.out HZ.out).mono ?_
  rintro e w' ⟨q, t', rfl, h⟩
  go_wp2_with fail
  go_ret
  exact ⟨q, t', rfl, h⟩
set_option maxHeartbeats 4000000 in
theorem withL_any (b k : Nat) (td d : Int) (ok : Nat → Prop) (w : World) (hT : HeldT w ok (.leaf k td) b) (hk : k < 18446744073709551616) (hok : ∀ b, w.heap.size ≤ b → ok b) :
    Calls Try.prog 19 #[ptr b, .agg #[.int .u64 k, .int .i64 d]] w fun e w' => WithAns w ok (some (.leaf k td)) k d e w' := by
  obtain ⟨_, a0, a1, a2⟩ := hT
  have hlb := cell_lt a0
  obtain ⟨X, hX, hXc, hXb, hXs⟩ := box_new w #[.int .u64 k, .int .i64 d] 54
  have c0 := cell_at hXc 0 rfl
  have c1 := cell_at hXc 1 rfl
  have b0 := (hXb.cell (p := ⟨b, 0, none⟩) hlb).trans a0
  have b2 := (hXb.cell (p := ⟨b, 2, none⟩) hlb).trans a2
  have hl := fun wx => len_of (bits .xor .u64 (k : Int) (k : Int)) (k ^^^ k) (u64_xor_nat _ _ hk hk) (Nat.xor_lt_two_pow (n := 64) hk hk) wx
  rw [Nat.xor_self, show Lib.bitLen 0 = 0 by decide] at hl
  unfold ptr
  have HB := Lib.hid hXb
  have HOK := Lib.hid hok
  clear hXb hXc a0 a1 a2 hok
  go_enter Try.func19, Try.ntmps19
  go_wp2_with fail
  go_quiet (with_reducible exact Calls.quiet_of_same (hl _))
  generalize hwX : X.drewN _ = Y
  have e0 : ∀ p, Y.cell? p = X.cell? p := fun p => by rw [← hwX]; rfl
  have hYs : Y.heap.size = w.heap.size + 1 := by rw [← hwX]; exact hXs
  have HYB : Hid (Below w.heap.size w Y) := by refine (?_ : Below _ _ _); rw [← hwX]; exact HB.out.trans ((below_drewN X _).mono (by omega))
  rw [← e0] at c0 c1 b0 b2
  clear e0 hwX hX hXs
  obtain ⟨Z, hZ, hZc, hZb, hZs⟩ := box_new Y #[.int .u64 k, .int .i64 d, .int .i64 0, .pointer none, .pointer none] 57
  rw [hYs] at hZc
  have HZ := Lib.hid (leaf_new (ok := ok) hZc (HOK.out _ (by omega)))
  have HZB : Hid (Below w.heap.size w Z) := HYB.out.trans (hZb.mono (by omega))
  clear hZb hZc
  go_wp2_with fail
  go_ret
  refine ⟨_, .leaf k d, rfl, HZ.out, hk, fun k' d' => ?_, HZB.out⟩
  constructor
  · exact .inl
  · rintro (h | ⟨h1, t, h, h2⟩)
    · exact h
    · obtain rfl := Option.some.inj h; exact absurd h2.1 h1
set_option maxHeartbeats 4000000 in
theorem withB_any (tk : Nat) (td : Int) (s : Nat) (x y : Tr) (b k : Nat) (d : Int) (ok : Nat → Prop) (w : World) (hT : HeldT w ok (.bin tk td s x y) b) (hwf : (Tr.bin tk td s x y).WF) (hk : k < 18446744073709551616) (hok : ∀ b, w.heap.size ≤ b → ok b) (ha : ¬ s < Lib.bitLen (tk ^^^ k))
    (ihx : ∀ (b : Nat) (w : World), HeldT w ok x b → x.WF → (∀ b, w.heap.size ≤ b → ok b) → Calls Try.prog 19 #[ptr b, .agg #[.int .u64 k, .int .i64 d]] w fun e w' => WithAns w ok (some x) k d e w')
    (ihy : ∀ (b : Nat) (w : World), HeldT w ok y b → y.WF → (∀ b, w.heap.size ≤ b → ok b) → Calls Try.prog 19 #[ptr b, .agg #[.int .u64 k, .int .i64 d]] w fun e w' => WithAns w ok (some y) k d e w') :
    Calls Try.prog 19 #[ptr b, .agg #[.int .u64 k, .int .i64 d]] w fun e w' => WithAns w ok (some (.bin tk td s x y)) k d e w' := by
  have hin := with_in hwf hk ha
  have hch := fun t' => with_child hwf (d := d) hin (t' := t')
  obtain ⟨wx, wy, hs1, hs2, _, hl0⟩ := hwf
  have htk : tk < 18446744073709551616 := hl0.1.elim (fun h => wx.lt h) fun h => wy.lt h
  obtain ⟨_, a0, a1, a2, bx, bz, a3, a4, hx, hy⟩ := hT
  have hlb := cell_lt a0
  obtain ⟨X, hX, hXc, hXb, hXs⟩ := box_new w #[.int .u64 k, .int .i64 d] 54
  have c0 := cell_at hXc 0 rfl
  have c1 := cell_at hXc 1 rfl
  have b0 := (hXb.cell (p := ⟨b, 0, none⟩) hlb).trans a0
  have b2 := (hXb.cell (p := ⟨b, 2, none⟩) hlb).trans a2
  have b3 := (hXb.cell (p := ⟨b, 3, none⟩) hlb).trans a3
  have b4 := (hXb.cell (p := ⟨b, 4, none⟩) hlb).trans a4
  have hl := fun wx => len_of (bits .xor .u64 (tk : Int) (k : Int)) _ (u64_xor_nat _ _ htk hk) (Nat.xor_lt_two_pow (n := 64) htk hk) wx
  have hsd := fun wz => side_any k s wz hk hs1 hs2
  have HCH := Lib.hid hch
  have HIX0 : Hid (∀ W, Below w.heap.size w W → Calls Try.prog 19 #[ptr bx, .agg #[.int .u64 k, .int .i64 d]] W fun e w' => WithAns W ok (some x) k d e w') := fun W hW => ihx bx W (hx.old hW) wx fun g hg => hok g (Nat.le_trans hW.size hg)
  have HIY0 : Hid (∀ W, Below w.heap.size w W → Calls Try.prog 19 #[ptr bz, .agg #[.int .u64 k, .int .i64 d]] W fun e w' => WithAns W ok (some y) k d e w') := fun W hW => ihy bz W (hy.old hW) wy fun g hg => hok g (Nat.le_trans hW.size hg)
  have HJX0 : Hid (k / 2 ^ (s - 1) % 2 = 0 → ∀ (W : World) (q : Nat) (t' : Tr), Below w.heap.size w W → HeldT W ok t' q → t'.WF → (∀ k' d', t'.Mem k' d' ↔ k' = k ∧ d' = d ∨ k' ≠ k ∧ MemO (some x) k' d') → Calls Try.prog 23 #[ptr bz, ptr q, .int .i64 s] W fun e w' => WithAns w ok (some (.bin tk td s x y)) k d e w' ∧ Below W.heap.size W w') := by
    refine (?_ : _ → ∀ (W : World) (q : Nat) (t' : Tr), _ → _ → _ → _ → _)
    intro e0 W q t' hW hq hw' hm
    obtain ⟨p, hp1, hp2, hp3⟩ := (hch t').1 e0 hm
    refine (join_any y t' bz q s _ _ ok W (hy.old hW) hq wy hw' hs1 hs2 hp2 hp1 (by omega) (by omega) fun g hg => hok g (Nat.le_trans hW.size hg)).mono ?_
    rintro e w' ⟨q2, t2, rfl, h1, h2, h3, h4⟩
    exact ⟨⟨q2, t2, rfl, h1, h2, fun k' d' => (h3 k' d').trans (hp3 k' d'), hW.trans (h4.mono hW.size)⟩, h4⟩
  have HJY0 : Hid (k / 2 ^ (s - 1) % 2 = 1 → ∀ (W : World) (q : Nat) (t' : Tr), Below w.heap.size w W → HeldT W ok t' q → t'.WF → (∀ k' d', t'.Mem k' d' ↔ k' = k ∧ d' = d ∨ k' ≠ k ∧ MemO (some y) k' d') → Calls Try.prog 23 #[ptr bx, ptr q, .int .i64 s] W fun e w' => WithAns w ok (some (.bin tk td s x y)) k d e w' ∧ Below W.heap.size W w') := by
    refine (?_ : _ → ∀ (W : World) (q : Nat) (t' : Tr), _ → _ → _ → _ → _)
    intro e0 W q t' hW hq hw' hm
    obtain ⟨p, hp1, hp2, hp3⟩ := (hch t').2 e0 hm
    refine (join_any x t' bx q s _ _ ok W (hx.old hW) hq wx hw' hs1 hs2 hp1 hp2 (by omega) (by omega) fun g hg => hok g (Nat.le_trans hW.size hg)).mono ?_
    rintro e w' ⟨q2, t2, rfl, h1, h2, h3, h4⟩
    exact ⟨⟨q2, t2, rfl, h1, h2, fun k' d' => (h3 k' d').trans (hp3 k' d'), hW.trans (h4.mono hW.size)⟩, h4⟩
  clear hch hin hx hy ihx ihy hl0 wx wy HCH
  generalize Lib.bitLen (tk ^^^ k) = A at *
  have ha2 : ¬ (s : Int) < (A : Int) := by omega
  have hs0 : ¬ (s : Int) = 0 := by omega
  unfold ptr at *
  have HB := Lib.hid hXb
  have HOK := Lib.hid hok
  clear hXb hXc a0 a1 a2 a3 a4 hok
  go_enter Try.func19, Try.ntmps19
  go_wp2_with fail
  go_quiet (with_reducible exact Calls.quiet_of_same (hl _))
  generalize hwX : X.drewN _ = Y
  have e0 : ∀ p, Y.cell? p = X.cell? p := fun p => by rw [← hwX]; rfl
  have hYs : Y.heap.size = w.heap.size + 1 := by rw [← hwX]; exact hXs
  have HYB : Hid (Below w.heap.size w Y) := by refine (?_ : Below _ _ _); rw [← hwX]; exact HB.out.trans ((below_drewN X _).mono (by omega))
  rw [← e0] at c0 c1 b0 b2 b3 b4
  clear e0 hwX hX hXs
  have HW : Hid (∀ W, Below Y.heap.size Y W → Below w.heap.size w W) := fun W hW => HYB.out.trans (hW.mono HYB.out.size)
  have HIX : Hid (∀ W, Below Y.heap.size Y W → Calls Try.prog 19 #[.pointer (some ⟨bx, 0, none⟩), .agg #[.int .u64 k, .int .i64 d]] W fun e w' => WithAns W ok (some x) k d e w') := fun W hW => HIX0.out W (HW.out W hW)
  have HIY : Hid (∀ W, Below Y.heap.size Y W → Calls Try.prog 19 #[.pointer (some ⟨bz, 0, none⟩), .agg #[.int .u64 k, .int .i64 d]] W fun e w' => WithAns W ok (some y) k d e w') := fun W hW => HIY0.out W (HW.out W hW)
  have s2 : ∀ W, Below Y.heap.size Y W → W.cell? ⟨b, 2, none⟩ = some (.int .i64 s) := fun W hW => (hW.cell (p := ⟨b, 2, none⟩) (by show b < Y.heap.size; omega)).trans b2
  have s3 : ∀ W, Below Y.heap.size Y W → W.cell? ⟨b, 3, none⟩ = some (.pointer (some ⟨bx, 0, none⟩)) := fun W hW => (hW.cell (p := ⟨b, 3, none⟩) (by show b < Y.heap.size; omega)).trans b3
  have s4 : ∀ W, Below Y.heap.size Y W → W.cell? ⟨b, 4, none⟩ = some (.pointer (some ⟨bz, 0, none⟩)) := fun W hW => (hW.cell (p := ⟨b, 4, none⟩) (by show b < Y.heap.size; omega)).trans b4
  have s5 : ∀ W, Below Y.heap.size Y W → W.cell? ⟨w.heap.size, 0, none⟩ = some (.int .u64 k) := fun W hW => (hW.cell (p := ⟨w.heap.size, 0, none⟩) (by show w.heap.size < Y.heap.size; omega)).trans c0
  have s6 : ∀ W, Below Y.heap.size Y W → W.cell? ⟨w.heap.size, 1, none⟩ = some (.int .i64 d) := fun W hW => (hW.cell (p := ⟨w.heap.size, 1, none⟩) (by show w.heap.size < Y.heap.size; omega)).trans c1
  clear HIX0 HIY0
  rcases sideN k s with e0 | e0
  · have HJX := Lib.hid (HJX0.out e0)
    clear HJX0 HJY0
    rw [e0] at hsd
    have HE := Lib.hid e0
    clear e0
    go_wp2_with fail
    go_quiet (with_reducible exact Calls.quiet_of_same (hsd _))
    generalize hwZ : Y.drewN _ = Z
    have hS0 : Below Y.heap.size Y Z := by rw [← hwZ]; exact below_drewN Y _
    clear hwZ
    go_upto_region 9 with fail
    have hS1 : Below Y.heap.size Y Z.drew := hS0.drew
    clear hS0
    have hS0 := hS1
    clear hS1
    refine wp_region_held_drew (S := fun W => Below Y.heap.size Y W) (by kernel_rfl) hS0 (fun _ => ?_)
    refine T_on 0 (.pointer (some ⟨b, 0, none⟩)) rfl (by kernel_rfl) (fun _ _ _ h => h) hS0 (fun W hW => by go_simp) ?_
    refine T_on 1 (.int .i64 0) rfl (by kernel_rfl) (fun _ _ _ h => h) hS0 (fun W hW => by go_simp) ?_
    refine T_on 2 (.int .i64 1) rfl (by kernel_rfl) (fun _ _ _ h => h) hS0 (fun W hW => by go_simp; decide) ?_
    refine T_on 3 (.pointer (some ⟨b, 0, none⟩)) rfl (by kernel_rfl) (fun _ _ _ h => h) hS0 (fun W hW => by go_simp) ?_
    refine T_on 4 (.pointer (some ⟨b, 3, none⟩)) rfl (by kernel_rfl) (fun _ _ _ h => h) hS0 (fun W hW => by go_simp) ?_
    refine T_on 5 (.pointer (some ⟨b, 4, none⟩)) rfl (by kernel_rfl) (fun _ _ _ h => h) hS0 (fun W hW => by go_simp) ?_
    refine T_on 6 (.pointer (some ⟨bz, 0, none⟩)) rfl (by kernel_rfl) (fun _ _ _ h => h) hS0 (fun W hW => by have c := s4 W hW; go_simp) ?_
    refine T_on 7 (.pointer (some ⟨b, 0, none⟩)) rfl (by kernel_rfl) (fun _ _ _ h => h) hS0 (fun W hW => by go_simp) ?_
    refine T_on 8 (.int .i64 0) rfl (by kernel_rfl) (fun _ _ _ h => h) hS0 (fun W hW => by go_simp) ?_
    refine T_on 9 (.pointer (some ⟨b, 0, none⟩)) rfl (by kernel_rfl) (fun _ _ _ h => h) hS0 (fun W hW => by go_simp) ?_
    refine T_on 10 (.pointer (some ⟨b, 3, none⟩)) rfl (by kernel_rfl) (fun _ _ _ h => h) hS0 (fun W hW => by go_simp) ?_
    refine T_on 11 (.pointer (some ⟨b, 3, none⟩)) rfl (by kernel_rfl) (fun _ _ _ h => h) hS0 (fun W hW => by go_simp) ?_
    refine T_on 12 (.pointer (some ⟨bx, 0, none⟩)) rfl (by kernel_rfl) (fun _ _ _ h => h) hS0 (fun W hW => by have c := s3 W hW; go_simp) ?_
    refine T_on 13 (.agg #[.int .u64 k, .int .i64 d]) rfl (by kernel_rfl) (fun _ _ _ h => h) hS0 (fun W hW => by have c := s5 W hW; have c2 := s6 W hW; go_simp) ?_
    refine T_on 15 (.pointer (some ⟨b, 0, none⟩)) rfl (by kernel_rfl) (fun _ _ _ h => h) hS0 (fun W hW => by go_simp) ?_
    refine T_on 16 (.pointer (some ⟨b, 0, none⟩)) rfl (by kernel_rfl) (fun _ _ _ h => h) hS0 (fun W hW => by go_simp) ?_
    refine T_on 17 (.pointer (some ⟨b, 2, none⟩)) rfl (by kernel_rfl) (fun _ _ _ h => h) hS0 (fun W hW => by go_simp) ?_
    refine T_on 18 (.int .i64 s) rfl (by kernel_rfl) (fun _ _ _ h => h) hS0 (fun W hW => by have c := s2 W hW; go_simp) ?_
    refine T_call 14 (by kernel_rfl) rfl (fun K hK => ?_)
    go_simp
    refine (HIX.out _ hS0).mono ?_
    rintro e U ⟨q, t', rfl, h1, h2, h3, h4⟩
    have hS1 := hS0.trans (h4.mono hS0.size)
    clear hS0
    have hS0 := hS1
    clear hS1
    have HQ := Lib.hid h1
    have HJQ := Lib.hid (HJX.out U q t' (HW.out _ hS0) h1 h2 h3)
    clear h1 h2 h3 h4
    unfold ptr
    dsimp only
    refine hK.out _ _ hS0 (fun _ => ?_)
    clear hK K
    refine T_call 19 (by kernel_rfl) rfl (fun K hK => ?_)
    go_simp
    refine HJQ.out.mono ?_
    rintro e U2 ⟨⟨q2, t2, rfl, h1⟩, h4⟩
    have HA : Hid (WithAns w ok (some (.bin tk td s x y)) k d (.returned (ptr q2)) U2) := ⟨q2, t2, rfl, h1⟩
    have hS1 := hS0.trans (h4.mono hS0.size)
    clear hS0 h1 h4
    have hS0 := hS1
    clear hS1
    unfold ptr
    dsimp only
    refine hK.out _ _ hS0 (fun _ => ?_)
    clear hK K
    refine T_on 20 (.pointer (some ⟨q2, 0, none⟩)) rfl (by kernel_rfl) (fun _ _ _ h => h) hS0 (fun W hW => by go_simp) ?_
    refine wpAnyH_done (by kernel_rfl) ?_ _
    go_simp
    go_wp2_with fail
    go_ret
    exact HA.out
  · have HJY := Lib.hid (HJY0.out e0)
    clear HJX0 HJY0
    rw [e0] at hsd
    have HE := Lib.hid e0
    clear e0
    go_wp2_with fail
    go_quiet (with_reducible exact Calls.quiet_of_same (hsd _))
    generalize hwZ : Y.drewN _ = Z
    have hS0 : Below Y.heap.size Y Z := by rw [← hwZ]; exact below_drewN Y _
    clear hwZ
    go_upto_region 9 with fail
    have hS1 : Below Y.heap.size Y Z.drew := hS0.drew
    clear hS0
    have hS0 := hS1
    clear hS1
    refine wp_region_held_drew (S := fun W => Below Y.heap.size Y W) (by kernel_rfl) hS0 (fun _ => ?_)
    refine T_on 0 (.pointer (some ⟨b, 0, none⟩)) rfl (by kernel_rfl) (fun _ _ _ h => h) hS0 (fun W hW => by go_simp) ?_
    refine T_on 1 (.int .i64 1) rfl (by kernel_rfl) (fun _ _ _ h => h) hS0 (fun W hW => by go_simp) ?_
    refine T_on 2 (.int .i64 0) rfl (by kernel_rfl) (fun _ _ _ h => h) hS0 (fun W hW => by go_simp; decide) ?_
    refine T_on 3 (.pointer (some ⟨b, 0, none⟩)) rfl (by kernel_rfl) (fun _ _ _ h => h) hS0 (fun W hW => by go_simp) ?_
    refine T_on 4 (.pointer (some ⟨b, 3, none⟩)) rfl (by kernel_rfl) (fun _ _ _ h => h) hS0 (fun W hW => by go_simp) ?_
    refine T_on 5 (.pointer (some ⟨b, 3, none⟩)) rfl (by kernel_rfl) (fun _ _ _ h => h) hS0 (fun W hW => by go_simp) ?_
    refine T_on 6 (.pointer (some ⟨bx, 0, none⟩)) rfl (by kernel_rfl) (fun _ _ _ h => h) hS0 (fun W hW => by have c := s3 W hW; go_simp) ?_
    refine T_on 7 (.pointer (some ⟨b, 0, none⟩)) rfl (by kernel_rfl) (fun _ _ _ h => h) hS0 (fun W hW => by go_simp) ?_
    refine T_on 8 (.int .i64 1) rfl (by kernel_rfl) (fun _ _ _ h => h) hS0 (fun W hW => by go_simp) ?_
    refine T_on 9 (.pointer (some ⟨b, 0, none⟩)) rfl (by kernel_rfl) (fun _ _ _ h => h) hS0 (fun W hW => by go_simp) ?_
    refine T_on 10 (.pointer (some ⟨b, 3, none⟩)) rfl (by kernel_rfl) (fun _ _ _ h => h) hS0 (fun W hW => by go_simp) ?_
    refine T_on 11 (.pointer (some ⟨b, 4, none⟩)) rfl (by kernel_rfl) (fun _ _ _ h => h) hS0 (fun W hW => by go_simp) ?_
    refine T_on 12 (.pointer (some ⟨bz, 0, none⟩)) rfl (by kernel_rfl) (fun _ _ _ h => h) hS0 (fun W hW => by have c := s4 W hW; go_simp) ?_
    refine T_on 13 (.agg #[.int .u64 k, .int .i64 d]) rfl (by kernel_rfl) (fun _ _ _ h => h) hS0 (fun W hW => by have c := s5 W hW; have c2 := s6 W hW; go_simp) ?_
    refine T_on 15 (.pointer (some ⟨b, 0, none⟩)) rfl (by kernel_rfl) (fun _ _ _ h => h) hS0 (fun W hW => by go_simp) ?_
    refine T_on 16 (.pointer (some ⟨b, 0, none⟩)) rfl (by kernel_rfl) (fun _ _ _ h => h) hS0 (fun W hW => by go_simp) ?_
    refine T_on 17 (.pointer (some ⟨b, 2, none⟩)) rfl (by kernel_rfl) (fun _ _ _ h => h) hS0 (fun W hW => by go_simp) ?_
    refine T_on 18 (.int .i64 s) rfl (by kernel_rfl) (fun _ _ _ h => h) hS0 (fun W hW => by have c := s2 W hW; go_simp) ?_
    refine T_call 14 (by kernel_rfl) rfl (fun K hK => ?_)
    go_simp
    refine (HIY.out _ hS0).mono ?_
    rintro e U ⟨q, t', rfl, h1, h2, h3, h4⟩
    have hS1 := hS0.trans (h4.mono hS0.size)
    clear hS0
    have hS0 := hS1
    clear hS1
    have HQ := Lib.hid h1
    have HJQ := Lib.hid (HJY.out U q t' (HW.out _ hS0) h1 h2 h3)
    clear h1 h2 h3 h4
    unfold ptr
    dsimp only
    refine hK.out _ _ hS0 (fun _ => ?_)
    clear hK K
    refine T_call 19 (by kernel_rfl) rfl (fun K hK => ?_)
    go_simp
    refine HJQ.out.mono ?_
    rintro e U2 ⟨⟨q2, t2, rfl, h1⟩, h4⟩
    have HA : Hid (WithAns w ok (some (.bin tk td s x y)) k d (.returned (ptr q2)) U2) := ⟨q2, t2, rfl, h1⟩
    have hS1 := hS0.trans (h4.mono hS0.size)
    clear hS0 h1 h4
    have hS0 := hS1
    clear hS1
    unfold ptr
    dsimp only
    refine hK.out _ _ hS0 (fun _ => ?_)
    clear hK K
    refine T_on 20 (.pointer (some ⟨q2, 0, none⟩)) rfl (by kernel_rfl) (fun _ _ _ h => h) hS0 (fun W hW => by go_simp) ?_
    refine wpAnyH_done (by kernel_rfl) ?_ _
    go_simp
    go_wp2_with fail
    go_ret
    exact HA.out
theorem with_any (t : Tr) (b k : Nat) (d : Int) (ok : Nat → Prop) (w : World) (hT : HeldT w ok t b) (hwf : t.WF) (hk : k < 18446744073709551616) (hok : ∀ b, w.heap.size ≤ b → ok b) :
    Calls Try.prog 19 #[ptr b, .agg #[.int .u64 k, .int .i64 d]] w fun e w' => WithAns w ok (some t) k d e w' := by
  induction t generalizing b w with
  | leaf tk td =>
    by_cases ha : 0 < Lib.bitLen (tk ^^^ k)
    · exact withJ_any (.leaf tk td) b k d ok w hT hwf hk hok ha
    · have e := with_in hwf hk ha
      have e : k = tk := by simpa [Tr.span, Tr.fk] using e
      subst e
      exact withL_any b k td d ok w hT hk hok
  | bin tk td s x y ihx ihy =>
    by_cases ha : s < Lib.bitLen (tk ^^^ k)
    · exact withJ_any (.bin tk td s x y) b k d ok w hT hwf hk hok ha
    · exact withB_any tk td s x y b k d ok w hT hwf hk hok ha (fun b w h1 h2 h3 => ihx b w h1 h2 h3) (fun b w h1 h2 h3 => ihy b w h1 h2 h3)
end Go.Proofs.Ytblebbmnlbmgiaa
