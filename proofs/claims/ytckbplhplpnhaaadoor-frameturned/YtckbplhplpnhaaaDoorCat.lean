/-
  A law of append at slices of bytes, in the words of this seat: what was owned is owned with the new bytes behind it; nothing that was there before the call has turned. Nothing is proved of the program here.
-/
import Derived.Test.YtckbplhplpnhaaaDoorGrown
import Derived.Laws.AppendOwn
import Derived.Laws.AppendOwnNone
import Derived.OwnWalk
import Derived.ArgAppend
namespace Go.Proofs.YtckbplhplpnhaaaDoor
set_option linter.unusedVariables false
open Go.ChangeShapes Go.WideShapes Go.ChangeAt Go.RowKit

/-- a slice of bytes that the call itself has made (its block's number is base or more): xs -/
def OwnB (w : World) (base : Nat) (v : Value) (xs : List Int) : Prop := w.ownsRow base 5 1 v xs.length (xs.map (Value.int .u8))

theorem own_isB {w : World} {base : Nat} {v : Value} {xs : List Int} (h : OwnB w base v xs) (hb : ∀ z ∈ xs, 0 ≤ z ∧ z ≤ 255) (hm : xs.length ≤ 281474976710656) :
    ∃ a c, v = .slice a xs.length c ∧ IsB w a xs.length xs ∧ xs.length ≤ c ∧ (a = none → xs.length = 0 ∧ c = 0) := by
  obtain ⟨_, h2⟩ := h
  rcases h2 with ⟨rfl, h0⟩ | ⟨g, cap, cur, rfl, hg, hh, h3, h4, h5, h6⟩
  · have hx : xs = [] := List.eq_nil_of_length_eq_zero h0
    subst hx
    exact ⟨none, 0, rfl, ⟨rfl, by simp, .inl rfl⟩, Nat.le_refl _, fun _ => ⟨rfl, rfl⟩⟩
  · refine ⟨_, cap, rfl, ⟨rfl, hm, .inr ⟨g, 0, rfl, ?_, hb⟩⟩, h3, fun h => by simp at h⟩
    intro j z hj
    have hjl : j < xs.length := by
      by_cases hjl : j < xs.length
      · exact hjl
      · rw [List.getElem?_eq_none (by omega)] at hj; simp at hj
    have e : cur.toList[j]? = some (.int .u8 z) := by
      have : (cur.toList.take (xs.length * 1))[j]? = (xs.map (Value.int .u8))[j]? := by rw [h6]
      rw [List.getElem?_take, if_pos (by omega), List.getElem?_map, hj] at this
      simpa using this
    rw [Nat.zero_add]
    simp only [World.cell?, hh]
    simpa using e
theorem isB_cells {w : World} {ad : Addr} {m : Nat} {zs : List Int} (h : IsB w (some ad) m zs) : ∀ j u, (zs.map (Value.int .u8))[j]? = some u → w.cell? (ad.add j) = some u := by
  intro j u hj
  rw [List.getElem?_map] at hj
  obtain ⟨_, _, rfl | ⟨b, off, hab, hh⟩⟩ := h
  · simp at hj
  · cases hq : zs[j]? with
    | none => rw [hq] at hj; simp at hj
    | some z =>
      rw [hq] at hj
      simp at hj
      subst hj
      cases hab
      rw [add_off]; exact hh.1 j z hq
theorem own_blockB {w : World} {base : Nat} {v : Value} {xs : List Int} (h : OwnB w base v xs) : ∀ k, v.ownBlock = some k → base ≤ k := by
  intro k hk
  obtain ⟨_, ⟨rfl, _⟩ | ⟨g, cap, cur, rfl, hg, _⟩⟩ := h
  · simp [Value.ownBlock] at hk
  · simp [Value.ownBlock] at hk; omega
theorem own_blk (w : World) (l : List Int) (hm : l.length ≤ maxLen) : OwnB (blk w 5 l) w.heap.size (.slice (some ⟨w.heap.size, 0, none⟩) l.length l.length) l :=
  ⟨by simp, .inr ⟨_, _, _, rfl, Nat.le_refl _, blk_heap w 5 l, Nat.le_refl _, hm, by simp, by simpa using List.take_of_length_le (by simp)⟩⟩

theorem wpB_append {w : World} {ops : Array Oper} {rest : List Oper} {o : Oper} {a : Act} {Q : Exit → Act → World → Prop} (hgd : o.guard = none) (s x : Operand)
    (ho : o.op = .call { callee := .builtin .append, args := #[s, x], argTypes := #[23, 23] })
    (base : Nat) (v : Value) (xs : List Int) (hs : a.eval s = v) (hown : OwnB w base v xs)
    (ao : Option Addr) (m c : Nat) (zs : List Int) (hx : a.eval x = .slice ao m c) (hB : IsB w ao m zs) (hno : ao = none → m = 0 ∧ c = 0)
    (hbd : xs.length + m ≤ 140737488355328) (hbase : base ≤ w.heap.size)
    (h : ∀ v' w', OwnB w' base v' (xs ++ zs) → w.grownBy w' v.ownBlock → wpList Tryd.prog ops Q rest (a.put o.dst v') w') : wpList Tryd.prog ops Q (o :: rest) a w := by
  obtain ⟨i0, hi, hz0, hz1, hz2⟩ := info_parts info5B
  cases ao with
  | none =>
    obtain ⟨rfl, rfl⟩ := hno rfl
    have hz : zs = [] := List.eq_nil_of_length_eq_zero hB.1
    subst hz
    refine wpList_append_own_none hgd s x 23 ho base 5 i0 1 Tryd.underlying23 hi v _ _ hs hown hx (h v w (by simpa using hown) (World.grownBy.refl _ _))
  | some ad =>
    refine wpList_append_own w hgd s x 23 ho base 5 i0 (.int .u8 0) 1 1 Tryd.underlying23 hi hz0 hz1 hz2 rfl (by decide) v _ _ hs hown ad m c (zs.map (Value.int .u8)) hx (by simp [hB.1]) (isB_cells hB)
      (by intro u hu; simp at hu; obtain ⟨z, _, rfl⟩ := hu; rfl) (by unfold maxLen; omega) (by omega) hbase ?_
    intro v' w' h1 h2 _
    refine h v' w' ?_ h2
    unfold OwnB
    rw [List.length_append, hB.1, List.map_append]
    exact h1
/-- owned, or an empty slice with no room -/
def OwnE (w : World) (base : Nat) (v : Value) (xs : List Int) : Prop := OwnB w base v xs ∨ (xs = [] ∧ ∃ g, v = .slice (some ⟨g, 0, none⟩) 0 0)

theorem own_mono {w : World} {base base' : Nat} {v : Value} {xs : List Int} (h : OwnB w base v xs) (hb : base' ≤ base) : OwnB w base' v xs := by
  obtain ⟨h1, h2 | ⟨g, cap, cur, hv, hg, r⟩⟩ := h
  · exact ⟨h1, .inl h2⟩
  · exact ⟨h1, .inr ⟨g, cap, cur, hv, by omega, r⟩⟩
theorem own_old {w w' : World} {base : Nat} {v : Value} {xs : List Int} (h : OwnB w base v xs) (hb : Below w.heap.size w w') : OwnB w' base v xs := by
  obtain ⟨h1, h2 | ⟨g, cap, cur, hv, hg, hh, r⟩⟩ := h
  · exact ⟨h1, .inl h2⟩
  · exact ⟨h1, .inr ⟨g, cap, cur, hv, hg, by rw [hb.block g (Array.getElem?_eq_some_iff.1 hh).1]; exact hh, r⟩⟩
theorem ownE_full {w : World} {base : Nat} {v : Value} {xs : List Int} (h : OwnE w base v xs) (hx : 1 ≤ xs.length) : OwnB w base v xs := by
  rcases h with h | ⟨rfl, _⟩
  · exact h
  · simp at hx

theorem own_alloc {w : World} {base : Nat} {v : Value} {xs : List Int} (h : OwnB w base v xs) (o : Obj) : OwnB (w.alloc o) base v xs := World.ownsRow.alloc h o
theorem ownE_alloc {w : World} {base : Nat} {v : Value} {xs : List Int} (h : OwnE w base v xs) (o : Obj) : OwnE (w.alloc o) base v xs :=
  h.imp (fun h => own_alloc h o) id
theorem own_nil (w : World) (base : Nat) : OwnB w base (.slice none 0 0) [] := World.ownsRow_nil _ _ _ _
theorem isB_one (w : World) (z : Int) (h0 : 0 ≤ z) (h1 : z ≤ 255) : IsB (w.alloc (.cells #[.int .u8 z] 5)) (some ⟨w.heap.size, 0, none⟩) 1 [z] :=
  isB_blk w 5 [z] (by simp; omega) (by simp)

theorem runE_append (w : World) (ty : TypeId) (base : Nat) (v : Value) (xs : List Int) (hown : OwnE w base v xs)
    (ao : Option Addr) (m c : Nat) (zs : List Int) (hB : IsB w ao m zs) (hno : ao = none → m = 0 ∧ c = 0)
    (hbd : xs.length + m ≤ 140737488355328) (hbase : base ≤ w.heap.size) :
    ∃ v' w', (Builtin.append_ #[23, 23] ty #[v, .slice ao m c]).run Tryd.prog w = .ok v' w' ∧ OwnE w' base v' (xs ++ zs) ∧ Below base w w' := by
  obtain ⟨i0, hi, hz0, hz1, hz2⟩ := info_parts info5B
  have h1c : ∀ u ∈ zs.map (Value.int .u8), u.oneCell' = true := by intro u hu; simp at hu; obtain ⟨z, _, rfl⟩ := hu; rfl
  rcases hown with hown | ⟨rfl, g, rfl⟩
  · cases ao with
    | none =>
      obtain ⟨rfl, rfl⟩ := hno rfl
      have hz : zs = [] := List.eq_nil_of_length_eq_zero hB.1
      subst hz
      exact ⟨v, w, run_append_owned_none (P := Tryd.prog) (w := w) base 23 ty 5 i0 1 Tryd.underlying23 hi v _ _ hown, by rw [List.append_nil]; exact .inl hown, Below.refl _ _⟩
    | some ad =>
      obtain ⟨v', w', hr, h2, h3, _⟩ := run_append_own (P := Tryd.prog) w base 23 ty 5 i0 (.int .u8 0) 1 1 Tryd.underlying23 hi hz0 hz1 hz2 rfl (by decide) v _ _ hown ad m c (zs.map (Value.int .u8)) (by simp [hB.1]) (isB_cells hB) h1c (by unfold maxLen; omega) (by omega) hbase
      refine ⟨v', w', hr, .inl ?_, (Below.refl _ _).grown h3 hbase (own_blockB hown)⟩
      unfold OwnB
      rw [List.length_append, hB.1, List.map_append]
      exact h2
  · by_cases hm : m = 0
    · subst hm
      have hz : zs = [] := List.eq_nil_of_length_eq_zero hB.1
      subst hz
      refine ⟨.slice (some ⟨g, 0, none⟩) 0 0, w, ?_, .inr ⟨rfl, g, rfl⟩, Below.refl _ _⟩
      cases ao with
      | none =>
        obtain ⟨_, rfl⟩ := hno rfl
        simp [Builtin.append_, run_underlying Tryd.underlying23, sizeOf, typeInfo, hi, Builtin.lenOf, Builtin.firstCells, storeCells]
      | some ad =>
        have := run_append_room_cells (P := Tryd.prog) w 23 ty 5 i0 Tryd.underlying23 hi g 0 0 0 ad 0 c [] (by simp) (by simp) (by simp) (Nat.le_refl _) (by simp) (by simp)
        exact this
    · cases ao with
      | none => have := hno rfl; omega
      | some ad =>
        obtain ⟨v', w', hr, h2, h3⟩ := run_append_arg_grows (P := Tryd.prog) w 23 ty 5 i0 (.int .u8 0) 1 1 Tryd.underlying23 hi hz0 hz1 hz2 rfl (by decide) ⟨g, 0, none⟩ 0 0 [] (by simp) (by simp) ad m c (zs.map (Value.int .u8)) (by simp [hB.1]) (isB_cells hB) (by omega) (by unfold maxLen; omega) (by omega)
        refine ⟨v', w', hr, .inl ?_, (Below.refl _ _).grown h3 hbase (by intro k hk; simp at hk)⟩
        refine own_mono (base := w.heap.size) ?_ hbase
        unfold OwnB
        rw [List.nil_append, hB.1]
        simpa using h2

theorem wpE_append {w : World} {ops : Array Oper} {rest : List Oper} {o : Oper} {a : Act} {Q : Exit → Act → World → Prop} (hgd : o.guard = none) (s x : Operand)
    (ho : o.op = .call { callee := .builtin .append, args := #[s, x], argTypes := #[23, 23] })
    (base : Nat) (v : Value) (xs : List Int) (hs : a.eval s = v) (hown : OwnE w base v xs)
    (ao : Option Addr) (m c : Nat) (zs : List Int) (hx : a.eval x = .slice ao m c) (hB : IsB w ao m zs) (hno : ao = none → m = 0 ∧ c = 0)
    (hbd : xs.length + m ≤ 140737488355328) (hbase : base ≤ w.heap.size)
    (h : ∀ v' w', OwnE w' base v' (xs ++ zs) → Below base w w' → wpList Tryd.prog ops Q rest (a.put o.dst v') w') : wpList Tryd.prog ops Q (o :: rest) a w := by
  obtain ⟨v', w', hrun, h1, h2⟩ := runE_append w o.type base v xs hown ao m c zs hB hno hbd hbase
  refine wpList_plain hgd fun K hK => ?_
  unfold Oper.wp
  simp [execOp, ho, resolve, invoke, builtin, hs, hx, hrun, Result.andThen]
  exact hK _ _ (h v' w' h1 h2)
theorem stepE_append {w : World} {ops : Array Oper} {o : Oper} {a : Act} {K : Act → World → Prop} {Q : Exit → Act → World → Prop} {E : Prop} (hgd : o.guard = none) (s x : Operand)
    (ho : o.op = .call { callee := .builtin .append, args := #[s, x], argTypes := #[23, 23] })
    (base : Nat) (v : Value) (xs : List Int) (hs : a.eval s = v) (hown : OwnE w base v xs)
    (ao : Option Addr) (m c : Nat) (zs : List Int) (hx : a.eval x = .slice ao m c) (hB : IsB w ao m zs) (hno : ao = none → m = 0 ∧ c = 0)
    (hbd : xs.length + m ≤ 140737488355328) (hbase : base ≤ w.heap.size)
    (h : ∀ v' w', OwnE w' base v' (xs ++ zs) → Below base w w' → K (a.put o.dst v') w') : if Region.wanted o (yielded ops a.tmps) = true then Oper.wp Tryd.prog o a w K Q else E := by
  have hw : Region.wanted o (yielded ops a.tmps) = true := by simp [Region.wanted, hgd]
  rw [if_pos hw]
  obtain ⟨v', w', hrun, h1, h2⟩ := runE_append w o.type base v xs hown ao m c zs hB hno hbd hbase
  unfold Oper.wp
  simp [execOp, ho, resolve, invoke, builtin, hs, hx, hrun, Result.andThen]
  exact h v' w' h1 h2
end Go.Proofs.YtckbplhplpnhaaaDoor
