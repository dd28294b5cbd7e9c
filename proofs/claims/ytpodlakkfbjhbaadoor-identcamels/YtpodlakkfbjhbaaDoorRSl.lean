/-
  A slice of runes that grows: what append and string(..) make of it, in the words of this seat; and the walks over the document's own Camel and Snake.
-/
import Derived.Test.YtpodlakkfbjhbaaDoorNam
import Derived.Test.YtpodlakkfbjhbaaDoorEncS
import Derived.Test.YtpodlakkfbjhbaaDoorDRun
import Derived.Laws.AppendOwn
import Derived.OwnWalk
namespace Go.Proofs.YtpodlakkfbjhbaaDoor
set_option linter.unusedVariables false
open Go.ChangeShapes Go.WideShapes Go.ChangeAt Go.RowKit

theorem infoR : (Tryd.prog.info? 21).map (fun i => (i.zero, i.size, i.bytes)) = some (some (.int .i32 0), 1, 4) := by kernel_rfl
/-- a slice of runes that the call itself has made -/
def OwnR (w : World) (base : Nat) (v : Value) (xs : List Int) : Prop := w.ownsRow base 21 1 v xs.length (xs.map (Value.int .i32))
theorem ownR_nil (w : World) (base : Nat) : OwnR w base (.slice none 0 0) [] := World.ownsRow_nil _ _ _ _
theorem ownR_block {w : World} {base : Nat} {v : Value} {xs : List Int} (h : OwnR w base v xs) : ∀ k, v.ownBlock = some k → base ≤ k := by
  intro k hk
  obtain ⟨_, ⟨rfl, _⟩ | ⟨g, cap, cur, rfl, hg, _⟩⟩ := h
  · simp [Value.ownBlock] at hk
  · simp [Value.ownBlock] at hk; omega
theorem ownR_slice {w : World} {base : Nat} {v : Value} {xs : List Int} (h : OwnR w base v xs) : ∃ a c, v = .slice a xs.length c := by
  obtain ⟨_, ⟨rfl, h0⟩ | ⟨g, cap, cur, rfl, _⟩⟩ := h
  · exact ⟨none, 0, by rw [h0]⟩
  · exact ⟨_, _, rfl⟩
theorem ownR_str {w : World} {base : Nat} {v : Value} {xs : List Int} (h : OwnR w base v xs) : (convert 26 9 v).run Tryd.prog w = .ok (.string ⟨(encL xs).toArray⟩) w := by
  obtain ⟨_, ⟨rfl, h0⟩ | ⟨g, cap, cur, rfl, hg, hh, h3, h4, h5, h6⟩⟩ := h
  · have hx : xs = [] := List.eq_nil_of_length_eq_zero h0
    subst hx
    exact run_convert_runes_nil w 26 9 21 0 0 Tryd.underlying26 Tryd.underlying21 Tryd.underlying9
  · have := run_convert_runes (P := Tryd.prog) w 26 9 21 ⟨g, 0, none⟩ xs.length cap xs (Nat.le_refl _) Tryd.underlying26 Tryd.underlying21 Tryd.underlying9 (by
      intro j hj
      have e : cur.toList[j]? = some (.int .i32 (xs.getD j 0)) := by
        have : (cur.toList.take (xs.length * 1))[j]? = (xs.map (Value.int .i32))[j]? := by rw [h6]
        rw [List.getElem?_take, if_pos (by omega), List.getElem?_map, List.getElem?_eq_getElem hj] at this
        rw [this, List.getD_eq_getElem?_getD, List.getElem?_eq_getElem hj]; rfl
      have ea : (⟨g, 0, none⟩ : Addr).add j = ⟨g, j, none⟩ := by unfold Addr.add; split <;> simp_all
      rw [ea]
      simp only [World.cell?, hh]
      simpa using e)
    rw [List.take_length, runesBytes_eq] at this
    exact this
theorem wpR_push {w : World} {ops : Array Oper} {rest : List Oper} {o : Oper} {a : Act} {Q : Exit → Act → World → Prop} (hgd : o.guard = none) (s x : Operand)
    (ho : o.op = .call { callee := .builtin .append, args := #[s, x], argTypes := #[26, 26] })
    (base : Nat) (v : Value) (xs : List Int) (r : Int) (hs : a.eval s = v) (hown : OwnR w base v xs)
    (hx : a.eval x = .slice (some ⟨w.heap.size, 0, none⟩) 1 1) (hbd : xs.length ≤ 1000000000) (hbase : base ≤ w.heap.size)
    (h : ∀ v' w', OwnR w' base v' (xs ++ [r]) → Below base w w' → wpList Tryd.prog ops Q rest (a.put o.dst v') w') : wpList Tryd.prog ops Q (o :: rest) a (w.alloc (.cells #[.int .i32 r] 21)) := by
  obtain ⟨i0, hi, hz0, hz1, hz2⟩ := info_parts infoR
  refine wpList_append_own _ hgd s x 26 ho base 21 i0 (.int .i32 0) 1 4 Tryd.underlying26 hi hz0 hz1 hz2 rfl (by decide) v _ _ hs (World.ownsRow.alloc hown _) ⟨w.heap.size, 0, none⟩ 1 1 [.int .i32 r] hx rfl ?_ ?_ (by unfold maxLen; omega) (by omega) (by simp; omega) ?_
  · intro j u hj
    cases j with
    | zero => simp at hj; subst hj; simp [Addr.add]
    | succ j => simp at hj
  · intro u hu; simp at hu; subst hu; rfl
  · intro v' w' h1 h2 _
    refine h v' w' ?_ (((Below.refl base w).alloc hbase _).grown h2 (by simp; omega) (ownR_block hown))
    unfold OwnR
    rw [List.length_append, List.map_append]
    exact h1
/-- the rest from a place on -/
theorem drop_at {l : List Int} {k : Nat} {z : Int} (h : l[k]? = some z) : l.drop k = z :: l.drop (k + 1) := by
  have hlt := (List.getElem?_eq_some_iff.1 h).1
  rw [List.drop_eq_getElem_cons hlt, (List.getElem?_eq_some_iff.1 h).2]
end Go.Proofs.YtpodlakkfbjhbaaDoor
