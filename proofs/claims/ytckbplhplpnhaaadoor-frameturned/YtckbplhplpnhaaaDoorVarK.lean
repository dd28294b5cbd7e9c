/-
  The document's own Varint once more: it writes into the block of what it is handed, and into new ones, nowhere else.
-/
import Derived.Test.YtckbplhplpnhaaaDoorVarR
import Derived.Maps.AppendAt
namespace Go.Proofs.YtckbplhplpnhaaaDoor
set_option linter.unusedVariables false
open Go.ChangeShapes Go.WideShapes Go.ChangeAt Go.RowKit

theorem wpB_atF {w : World} {ops : Array Oper} {rest : List Oper} {o : Oper} {a : Act} {Q : Exit → Act → World → Prop} (hgd : o.guard = none) (s x : Operand)
    (ho : o.op = .call { callee := .builtin .append, args := #[s, x], argTypes := #[23, 23] })
    (base : Nat) (v : Value) (xs : List Int) (hs : a.eval s = v) (hown : OwnB w base v xs)
    (ao : Option Addr) (m c : Nat) (zs : List Int) (hx : a.eval x = .slice ao m c) (hB : IsB w ao m zs) (hno : ao = none → m = 0 ∧ c = 0)
    (hbd : xs.length + m ≤ 140737488355328) (hbase : base ≤ w.heap.size)
    (h : ∀ v' w', OwnB w' base v' (xs ++ zs) → w.grownBy w' v.ownBlock → (v'.ownBlock = v.ownBlock ∨ v'.ownBlock = some w.heap.size) → wpList Tryd.prog ops Q rest (a.put o.dst v') w') : wpList Tryd.prog ops Q (o :: rest) a w := by
  obtain ⟨i0, hi, hz0, hz1, hz2⟩ := info_parts info5B
  cases ao with
  | none =>
    obtain ⟨rfl, rfl⟩ := hno rfl
    have hz : zs = [] := List.eq_nil_of_length_eq_zero hB.1
    subst hz
    refine wpList_append_own_none hgd s x 23 ho base 5 i0 1 Tryd.underlying23 hi v _ _ hs hown hx (h v w (by simpa using hown) (World.grownBy.refl _ _) (.inl rfl))
  | some ad =>
    refine wpList_append_own_at w hgd s x 23 ho base 5 i0 (.int .u8 0) 1 1 Tryd.underlying23 hi hz0 hz1 hz2 rfl (by decide) v _ _ hs hown ad m c (zs.map (Value.int .u8)) hx (by simp [hB.1]) (isB_cells hB)
      (by intro u hu; simp at hu; obtain ⟨z, _, rfl⟩ := hu; rfl) (by unfold maxLen; omega) (by omega) hbase ?_
    intro v' w' h1 h2 _ h4
    refine h v' w' ?_ h2 h4
    unfold OwnB
    rw [List.length_append, hB.1, List.map_append]
    exact h1
theorem grown_then {w a b : World} {row row2 : Option Nat} (h : w.grownBy a row) (k : a.grownBy b row2) (hr : row2 = row ∨ ∃ g, row2 = some g ∧ w.heap.size ≤ g) : w.grownBy b row := by
  obtain ⟨h1, h2, h3, h4, h5⟩ := h
  obtain ⟨k1, k2, k3, k4, k5⟩ := k
  refine ⟨k1.trans h1, k2.trans h2, k3.trans h3, Nat.le_trans h4 k4, fun i hi hne => (k5 i (by omega) ?_).trans (h5 i hi hne)⟩
  rcases hr with rfl | ⟨g, rfl, hg⟩
  · exact hne
  · intro e; have := Option.some.inj e; omega
/-- from v on: only v's block and new ones were written, and b lies in one of these -/
def Grw (w : World) (v b : Value) (wr : World) : Prop := w.grownBy wr v.ownBlock ∧ (b.ownBlock = v.ownBlock ∨ ∃ g, b.ownBlock = some g ∧ w.heap.size ≤ g)
theorem Grw.refl (w : World) (v : Value) : Grw w v v w := ⟨World.grownBy.refl _ _, .inl rfl⟩
theorem Grw.trans {w w1 w2 : World} {v b c : Value} (h : Grw w v b w1) (k : Grw w1 b c w2) : Grw w v c w2 := by
  have hs : w.heap.size ≤ w1.heap.size := h.1.size
  refine ⟨grown_then h.1 k.1 h.2, ?_⟩
  rcases k.2 with e | ⟨g, e, hg⟩
  · rw [e]; exact h.2
  · exact .inr ⟨g, e, by omega⟩
theorem Grw.step {w w1 w2 : World} {v b c : Value} (h : Grw w v b w1) (k : w1.grownBy w2 b.ownBlock) (hc : c.ownBlock = b.ownBlock ∨ c.ownBlock = some w1.heap.size) : Grw w v c w2 :=
  h.trans ⟨k, hc.imp id fun e => ⟨_, e, Nat.le_refl _⟩⟩
theorem Grw.alloc {w w1 : World} {v b : Value} (h : Grw w v b w1) (o : Obj) : Grw w v b (w1.alloc o) := h.trans ⟨World.grownBy_alloc w1 o _, .inl rfl⟩
theorem Grw.below {w w1 : World} {v b : Value} {B : Nat} (h : Grw w v b w1) (hB : B ≤ w.heap.size) (hv : ∀ k, v.ownBlock = some k → B ≤ k) : Below B w w1 :=
  (Below.refl B w).grown h.1 hB hv
set_option maxHeartbeats 1000000 in
theorem varintK_any (v : Value) (base : Nat) (xs : List Int) (n : Nat) (w : World) (hO : OwnB w base v xs) (hn : n ≤ 18446744073709551615) (hl : xs.length ≤ 140737488351300) (hb : base ≤ w.heap.size) :
    Calls Tryd.prog 21 #[v, .int .u64 n] w fun e w' =>
      ∃ v', e = .returned v' ∧ OwnB w' base v' (xs ++ vint n) ∧ Grw w v v' w' := by
  have HO : Hid (OwnB w base v xs) := hO
  have HN : Hid (n ≤ 18446744073709551615) := hn
  have hle := vint_ten hn
  have HLn : Hid ((vint n).length ≤ 10) := hle
  clear hO hn hle
  go_enter Tryd.func21, Tryd.ntmps21
  go_wp2_with fail
  go_loopw [0, 1] (fun b x wr => ∃ (d : List Int) (m : Nat) (M : Int), M = (m : Int) ∧ vint n = d ++ vint m ∧ m ≤ 18446744073709551615 ∧ x = .int .u64 M ∧ OwnB wr base b (xs ++ d) ∧ Grw w v b wr) (fun _ x _ => (intOf x).toNat)
  case atStart => exact ⟨[], n, n, rfl, rfl, HN.out, rfl, by simpa using HO.out, Grw.refl _ _⟩
  case round =>
    obtain ⟨d, m, M, hM, hv, hm, rfl, hown, hbel⟩ := hrel
    have hmI : 0 ≤ M ∧ M ≤ 18446744073709551615 := by omega
    have HM : Hid (m ≤ 18446744073709551615) := hm
    have HMM : Hid (M = (m : Int)) := hM
    have hor : bits .or .u8 (M % 256) 128 = M % 128 + 128 := or128 M hmI.1
    have HV : Hid (vint n = d ++ vint m) := hv
    have hdl : (xs ++ d).length ≤ 140737488351310 := by
      have := HLn.out; rw [hv, List.length_append] at this; rw [List.length_append]; omega
    have hbs : base ≤ wr.heap.size := by have := hbel.1.size; omega
    have HOW : Hid (OwnB wr base u0 (xs ++ d)) := hown
    have HBE : Hid (Grw w v u0 wr) := hbel
    have hM1 : 0 ≤ M % 128 := by omega
    have hM2 : M % 128 + 128 ≤ 255 := by omega
    clear hm hM hv hown hbel
    by_cases h : 128 ≤ M
    · have HE : Hid (vint m = ((m % 128 + 128 : Nat) : Int) :: vint (m / 128)) := vint_big (by have := HMM.out; omega)
      have e2 : Hid (((m % 128 + 128 : Nat) : Int) = M % 128 + 128) := by
        refine (?_ : ((m % 128 + 128 : Nat) : Int) = M % 128 + 128)
        rw [HMM.out]; omega
      go_wp2_with (at_builtin; refine wpB_atF rfl (.tmp 7) (.tmp 11) rfl base u0 (xs ++ d) rfl (own_alloc HOW.out _) (some ⟨wr.heap.size, 0, none⟩) 1 1 [M % 128 + 128] rfl (isB_one wr _ (by omega) (by omega)) (by simp) (by omega) (by simp; omega) ?_; intro v2 w2 hown2 hg2 hv2)
      go_roundw
      case rel =>
        refine ⟨d ++ [M % 128 + 128], m / 128, M / 128, ?_, ?_, ?_, rfl, ?_, ?_⟩
        · have := HMM.out; omega
        · rw [HV.out, HE.out, List.append_assoc, List.singleton_append, e2.out]
        · have := HM.out; omega
        · rw [← List.append_assoc]; exact hown2
        · exact (HBE.out.alloc _).step hg2 hv2
      case measure => simp [intOf]; omega
    · have HE : Hid (vint m = [(m : Int)]) := vint_small (by have := HMM.out; omega)
      have hM3 : M ≤ 255 := by omega
      go_wp2_with (at_builtin; refine wpB_atF rfl (.tmp 15) (.tmp 18) rfl base u0 (xs ++ d) rfl (own_alloc HOW.out _) (some ⟨wr.heap.size, 0, none⟩) 1 1 [M] rfl (isB_one wr _ (by omega) (by omega)) (by simp) (by omega) (by simp; omega) ?_; intro v2 w2 hown2 hg2 hv2)
      go_ret
      refine ⟨v2, rfl, ?_, (HBE.out.alloc _).step hg2 hv2⟩
      rw [HV.out, HE.out, ← HMM.out, ← List.append_assoc]; exact hown2
end Go.Proofs.YtckbplhplpnhaaaDoor
