/-
  A slice of strings that grows, in the words of this seat. Nothing is proved of the program here.
-/
import Derived.Test.YtglkgcpfdhneeaaDoorPtD
import Derived.Laws.AppendOwn
import Derived.OwnWalk
namespace Go.Proofs.YtglkgcpfdhneeaaDoor
set_option linter.unusedVariables false
open Go.ChangeShapes Go.WideShapes Go.ChangeAt Go.RowKit

theorem info9 : (Tryd.prog.info? 9).map (fun i => (i.zero, i.size, i.bytes)) = some (some (.string ByteArray.empty), 1, 16) := by kernel_rfl
/-- a slice of strings that the call itself has made -/
def OwnS (w : World) (base : Nat) (v : Value) (xs : List ByteArray) : Prop := w.ownsRow base 9 1 v xs.length (xs.map Value.string)
theorem ownS_block {w : World} {base : Nat} {v : Value} {xs : List ByteArray} (h : OwnS w base v xs) : ∀ k, v.ownBlock = some k → base ≤ k := by
  intro k hk
  obtain ⟨_, ⟨rfl, _⟩ | ⟨g, cap, cur, rfl, hg, _⟩⟩ := h
  · simp [Value.ownBlock] at hk
  · simp [Value.ownBlock] at hk; omega
/-- one that isn't empty: where it lies -/
theorem ownS_slice {w : World} {base : Nat} {v : Value} {xs : List ByteArray} (h : OwnS w base v xs) (h1 : 1 ≤ xs.length) :
    ∃ g c cur, v = .slice (some ⟨g, 0, none⟩) xs.length c ∧ base ≤ g ∧ w.heap[g]? = some (.cells cur 9 (0, 0)) ∧ xs.length ≤ c ∧ HeldS w g xs := by
  obtain ⟨_, ⟨rfl, h0⟩ | ⟨g, cap, cur, rfl, hg, hh, h3, h4, h5, h6⟩⟩ := h
  · omega
  · refine ⟨g, cap, cur, rfl, hg, hh, h3, ?_⟩
    intro j z hj
    have hjl := (List.getElem?_eq_some_iff.1 hj).1
    have e : cur.toList[j]? = some (.string z) := by
      have : (cur.toList.take (xs.length * 1))[j]? = (xs.map Value.string)[j]? := by rw [h6]
      rw [List.getElem?_take, if_pos (by omega), List.getElem?_map, hj] at this
      simpa using this
    simp only [World.cell?, hh]
    simpa using e
theorem ownS_one (w : World) (x : ByteArray) : OwnS (w.alloc (.cells #[.string x] 9)) w.heap.size (.slice (some ⟨w.heap.size, 0, none⟩) 1 1) [x] :=
  ⟨by simp, .inr ⟨_, 1, #[.string x], rfl, Nat.le_refl _, alloc_heap _ _, Nat.le_refl _, by unfold maxLen; omega, by simp, by simp⟩⟩
/-- the last one is set anew -/
theorem ownS_set {w : World} {base g c : Nat} {pre : List ByteArray} {x : ByteArray} (y : ByteArray) (h : OwnS w base (.slice (some ⟨g, 0, none⟩) (pre ++ [x]).length c) (pre ++ [x])) :
    OwnS (w.setCell ⟨g, pre.length, none⟩ (.string y)) base (.slice (some ⟨g, 0, none⟩) (pre ++ [y]).length c) (pre ++ [y]) := by
  obtain ⟨_, ⟨h1, h0⟩ | ⟨g', cap, cur, hv, hg, hh, h3, h4, h5, h6⟩⟩ := h
  · simp at h0
  · simp only [Value.slice.injEq, Option.some.injEq, Addr.mk.injEq, and_true] at hv
    obtain ⟨rfl, _, rfl⟩ := hv
    refine ⟨by simp, .inr ⟨g, c, cur.setIfInBounds pre.length (.string y), by simp, hg, ?_, by simpa using h3, h4, by simpa using h5, ?_⟩⟩
    · rw [setCell_eq_setRow _ _ _ _ _ _ _ hh, setRow_heap w g cur _ 9 _ hh]
    · simp only [List.length_append, List.length_cons, List.length_nil, Nat.mul_one] at h6 ⊢
      rw [Array.toList_setIfInBounds, List.take_set, h6]
      simp
theorem wpS_push {w : World} {ops : Array Oper} {rest : List Oper} {o : Oper} {a : Act} {Q : Exit → Act → World → Prop} (hgd : o.guard = none) (s x : Operand)
    (ho : o.op = .call { callee := .builtin .append, args := #[s, x], argTypes := #[40, 40] })
    (base : Nat) (v : Value) (xs : List ByteArray) (r : ByteArray) (hs : a.eval s = v) (hown : OwnS w base v xs)
    (hx : a.eval x = .slice (some ⟨w.heap.size, 0, none⟩) 1 1) (hbd : xs.length ≤ 1000000000) (hbase : base ≤ w.heap.size)
    (h : ∀ v' w', OwnS w' base v' (xs ++ [r]) → Below base w w' → wpList Tryd.prog ops Q rest (a.put o.dst v') w') : wpList Tryd.prog ops Q (o :: rest) a (w.alloc (.cells #[.string r] 9)) := by
  obtain ⟨i0, hi, hz0, hz1, hz2⟩ := info_parts info9
  refine wpList_append_own _ hgd s x 40 ho base 9 i0 (.string ByteArray.empty) 1 16 Tryd.underlying40 hi hz0 hz1 hz2 rfl (by decide) v _ _ hs (World.ownsRow.alloc hown _) ⟨w.heap.size, 0, none⟩ 1 1 [.string r] hx rfl ?_ ?_ (by unfold maxLen; omega) (by omega) (by simp; omega) ?_
  · intro j u hj
    cases j with
    | zero => simp at hj; subst hj; simp [Addr.add]
    | succ j => simp at hj
  · intro u hu; simp at hu; subst hu; rfl
  · intro v' w' h1 h2 _
    refine h v' w' ?_ (((Below.refl base w).alloc hbase _).grown h2 (by simp; omega) (ownS_block hown))
    unfold OwnS
    rw [List.length_append, List.map_append]
    exact h1
/-- a byte more -/
theorem cat_byte (cur : List UInt8) (s : ByteArray) (k : Nat) (hp : k < s.size) : (ByteArray.mk cur.toArray) ++ s.extract k (k + 1) = ByteArray.mk (cur ++ [s[k]'hp]).toArray := by
  have e : s.extract k (k + 1) = ⟨#[s[k]'hp]⟩ := by
    apply ByteArray.ext
    rw [ByteArray.data_extract]
    apply Array.ext'
    rw [Array.toList_extract]
    have hk : k < s.data.toList.length := by rw [len_data]; exact hp
    rw [List.extract_eq_take_drop]
    rw [List.drop_eq_getElem_cons hk]
    simp
    rfl
  rw [e, ByteArray.mk_append_mk]
  first | done | (congr 1; apply Array.ext'; simp)
end Go.Proofs.YtglkgcpfdhneeaaDoor
