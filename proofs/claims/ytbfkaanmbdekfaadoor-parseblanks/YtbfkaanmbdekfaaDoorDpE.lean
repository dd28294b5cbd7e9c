/-
  The place behind the last rune of a text, as the program reckons it: the line feeds are counted, and the runes behind the last one.
-/
import Derived.Test.YtbfkaanmbdekfaaDoorPsM
import Derived.Test.YtbfkaanmbdekfaaDoorShD
import Derived.Test.YtbfkaanmbdekfaaDoorDvM
import Derived.WalkKit
namespace Go.Proofs.YtbfkaanmbdekfaaDoor
set_option linter.unusedVariables false
open Go.ChangeShapes Go.WideShapes Go.ChangeAt Go.RowKit

/-- how many runes -/
def cntL : Nat → List UInt8 → Nat
  | 0, _ => 0
  | f + 1, l => if l = [] then 0 else 1 + cntL f (l.drop (nx l).2)
theorem nx_dec (l : List UInt8) (h : l ≠ []) : (nx l).2 = (Lib.decodeL l).2 := by
  unfold nx
  rw [if_neg h]
  split <;> rfl
theorem cnt_rune (s : ByteArray) : ∀ (f pos : Nat), Lib.runeCountFrom s f pos = cntL f (s.data.toList.drop pos)
  | 0, pos => rfl
  | f + 1, pos => by
    have hl : s.data.toList.length = s.size := len_data s
    by_cases hp : pos < s.size
    · have hne : s.data.toList.drop pos ≠ [] := by
        intro e
        have := congrArg List.length e
        rw [List.length_drop, hl] at this
        simp at this; omega
      rw [Lib.runeCountFrom, if_pos hp, cntL, if_neg hne, nx_dec _ hne, Lib.decodeL_drop, List.drop_drop, cnt_rune s f]
    · have hne : s.data.toList.drop pos = [] := List.drop_eq_nil_of_le (by omega)
      rw [Lib.runeCountFrom, if_neg hp, cntL, if_pos hne]
theorem end_none : ∀ (f : Nat) (l : List UInt8) (line col : Nat), (∀ b ∈ l, b ≠ 10) → l.length ≤ f → endL f l line col = (line, col + cntL f l)
  | 0, l, line, col, _, h => rfl
  | f + 1, l, line, col, hb, h => by
    by_cases hl : l = []
    · rw [endL, if_pos hl, cntL, if_pos hl]; rfl
    · have hn := nx_not10 l hl (by
        cases l with
        | nil => exact absurd rfl hl
        | cons a t => intro e; exact hb a (by simp) (by simpa using e))
      have hw := nx_width l hl
      rw [endL, if_neg hl, if_neg hn, cntL, if_neg hl, end_none f (l.drop (nx l).2) line (col + 1) (fun b hb' => hb b (List.mem_of_mem_drop hb')) (by rw [List.length_drop]; omega)]
      rw [Nat.add_assoc]
theorem no_feed (a y : List UInt8) (ha : a ≠ []) (h10 : a.head? ≠ some 10) : (a.take (nx (a ++ 10 :: y)).2).count 10 = 0 := by
  apply List.count_eq_zero.2
  intro hm
  obtain ⟨i, hi⟩ := List.getElem?_of_mem hm
  have hil := (List.getElem?_eq_some_iff.1 hi).1
  rw [List.length_take] at hil
  rw [List.getElem?_take, if_pos (by omega)] at hi
  have hia : i < a.length := by omega
  have hsp : a = a.take i ++ 10 :: a.drop (i + 1) := by
    have e := List.getElem?_eq_some_iff.1 hi
    conv => lhs; rw [← List.take_append_drop i a]
    rw [List.drop_eq_getElem_cons hia, e.2]
  have hi0 : i ≠ 0 := by
    intro e; subst e
    apply h10
    rw [← hi]
    cases a <;> rfl
  have hne : a.take i ≠ [] := by
    intro e
    have := congrArg List.length e
    rw [List.length_take] at this
    simp at this
    rcases this with h | h
    · exact hi0 h
    · exact ha h
  have hl := (nx_local (a.take i) (a.drop (i + 1) ++ 10 :: y) hne).2
  have e2 : a.take i ++ 10 :: (a.drop (i + 1) ++ 10 :: y) = a ++ 10 :: y := by
    conv => rhs; rw [hsp]
    simp
  rw [e2, List.length_take] at hl
  omega
theorem end_feed (b : List UInt8) : ∀ (n : Nat) (a : List UInt8), a.length ≤ n → ∀ (f line col : Nat), (a ++ 10 :: b).length ≤ f → ∃ f', b.length ≤ f' ∧ endL f (a ++ 10 :: b) line col = endL f' b (line + a.count 10 + 1) 1 := by
  intro n
  induction n with
  | zero =>
    intro a ha f line col hf
    have : a = [] := List.eq_nil_of_length_eq_zero (by omega)
    subst this
    simp at hf
    obtain ⟨f, rfl⟩ : ∃ g, f = g + 1 := ⟨f - 1, by omega⟩
    refine ⟨f, by omega, ?_⟩
    rw [List.nil_append, endL, if_neg (by simp), nx_feed, if_pos rfl]; rfl
  | succ n ih =>
    intro a ha f line col hf
    by_cases hz : a = []
    · subst hz
      exact ih [] (by simp) f line col hf
    · obtain ⟨f, rfl⟩ : ∃ g, f = g + 1 := ⟨f - 1, by rw [List.length_append] at hf; simp at hf; omega⟩
      have hne : a ++ 10 :: b ≠ [] := by simp
      have hw := nx_width _ hne
      have hl := nx_local a b hz
      have hd : (a ++ 10 :: b).drop (nx (a ++ 10 :: b)).2 = a.drop (nx (a ++ 10 :: b)).2 ++ 10 :: b := by
        rw [List.drop_append_of_le_length hl.2]
      have hlen : (a.drop (nx (a ++ 10 :: b)).2).length ≤ n := by rw [List.length_drop]; omega
      have hf2 : (a.drop (nx (a ++ 10 :: b)).2 ++ 10 :: b).length ≤ f := by rw [← hd, List.length_drop]; omega
      have hcount : a.count 10 = (a.take (nx (a ++ 10 :: b)).2).count 10 + (a.drop (nx (a ++ 10 :: b)).2).count 10 := by
        rw [← List.count_append, List.take_append_drop]
      by_cases h10 : a.head? = some 10
      · cases a with
        | nil => exact absurd rfl hz
        | cons x t =>
          have hx : x = 10 := by simpa using h10
          subst hx
          have hn : nx (10 :: t ++ 10 :: b) = (10, 1) := nx_feed _
          rw [hn] at hd hlen hf2 hcount
          obtain ⟨f', h1, h2⟩ := ih _ hlen f (line + 1) 1 hf2
          refine ⟨f', h1, ?_⟩
          rw [endL, if_neg hne, hn, if_pos rfl, hd, h2]
          congr 1
          simp
          omega
      · have hnx := nx_not10 (a ++ 10 :: b) hne (by
          cases a with
          | nil => exact absurd rfl hz
          | cons x t => exact h10)
        obtain ⟨f', h1, h2⟩ := ih _ hlen f line (col + 1) hf2
        refine ⟨f', h1, ?_⟩
        rw [endL, if_neg hne, if_neg hnx, hd, h2, hcount, no_feed a b hz h10, Nat.zero_add]
theorem end_is (s : ByteArray) (t : ByteArray) (ht : t.data.toList = s.data.toList.drop ((Lib.lastIndexByte s 10 + 1).toNat)) :
    endOf s.data.toList = (1 + Lib.countByte s.data.toList 10, 1 + Lib.runeCount t) := by
  have hls : s.data.toList.length = s.size := len_data s
  have hlt : t.data.toList.length = t.size := len_data t
  have hrc : Lib.runeCount t = cntL t.size t.data.toList := by
    unfold Lib.runeCount; rw [cnt_rune, List.drop_zero]
  have hget : ∀ j (hj : j < s.size), s.data[j]! = s.data.toList[j]'(by rw [hls]; exact hj) := by
    intro j hj
    rw [getElem!_pos s.data j hj]
    simp
  unfold endOf Lib.countByte
  rcases Lib.lastIndexByte_spec s 10 with ⟨h1, h2⟩ | ⟨i, h1, h2, h3, h4⟩
  · have hno : ∀ b ∈ s.data.toList, b ≠ 10 := by
      intro b hb e
      obtain ⟨j, hj⟩ := List.getElem?_of_mem hb
      obtain ⟨hj1, hj2⟩ := List.getElem?_eq_some_iff.1 hj
      have := h2 j (by omega)
      rw [hget j (by omega), hj2, e] at this
      exact this rfl
    have htt : t.data.toList = s.data.toList := by rw [ht, h1]; rfl
    rw [end_none _ _ _ _ hno (Nat.le_refl _), hrc, htt, ← hlt, htt, List.count_eq_zero.2 (fun hm => hno 10 hm rfl)]
  · have hi : i < s.data.toList.length := by omega
    have h10 : s.data.toList[i] = 10 := by
      have := h3
      rw [hget i h1] at this
      apply UInt8.toNat_inj.1
      show _ = 10
      omega
    have hb : t.data.toList = s.data.toList.drop (i + 1) := by
      rw [ht, h2]; congr 1
    have hsp : s.data.toList = s.data.toList.take i ++ 10 :: t.data.toList := by
      conv => lhs; rw [← List.take_append_drop i s.data.toList]
      rw [List.drop_eq_getElem_cons hi, h10, hb]
    have hno : ∀ b ∈ t.data.toList, b ≠ 10 := by
      intro b hb' e
      rw [hb] at hb'
      obtain ⟨j, hj⟩ := List.getElem?_of_mem hb'
      rw [List.getElem?_drop] at hj
      obtain ⟨hj1, hj2⟩ := List.getElem?_eq_some_iff.1 hj
      have := h4 (i + 1 + j) (by omega) (by omega)
      rw [hget (i + 1 + j) (by omega), hj2, e] at this
      exact this rfl
    obtain ⟨f', g1, g2⟩ := end_feed t.data.toList _ (s.data.toList.take i) (Nat.le_refl _) (s.data.toList.take i ++ 10 :: t.data.toList).length 1 1 (Nat.le_refl _)
    have hcs : s.data.toList.count 10 = (s.data.toList.take i).count 10 + 1 := by
      conv => lhs; rw [hsp]
      rw [List.count_append, List.count_cons_self, List.count_eq_zero.2 (fun hm => hno 10 hm rfl)]
    rw [hcs]
    conv => lhs; rw [hsp]
    rw [g2, end_none f' _ _ _ hno g1, hrc]
    have hfu : ∀ (f g : Nat) (l : List UInt8), l.length ≤ f → l.length ≤ g → cntL f l = cntL g l := by
      intro f
      induction f with
      | zero =>
        intro g l hf hg
        have : l = [] := List.eq_nil_of_length_eq_zero (by omega)
        subst this
        cases g with
        | zero => rfl
        | succ g => rw [cntL, cntL, if_pos rfl]
      | succ f ih =>
        intro g l hf hg
        by_cases hl : l = []
        · subst hl
          cases g with
          | zero => rw [cntL, cntL, if_pos rfl]
          | succ g => rw [cntL, cntL, if_pos rfl, if_pos rfl]
        · have hp := List.length_pos_iff.2 hl
          obtain ⟨g, rfl⟩ : ∃ g', g = g' + 1 := ⟨g - 1, by omega⟩
          have hw := nx_width l hl
          rw [cntL, cntL, if_neg hl, if_neg hl, ih g (l.drop (nx l).2) (by rw [List.length_drop]; omega) (by rw [List.length_drop]; omega)]
    rw [hfu f' t.size t.data.toList g1 (by omega)]
    congr 1
theorem alloc_heap_new' (w : World) (o : Obj) : (w.alloc o).heap[w.heap.size]? = some o := by
  show (w.heap.push o)[w.heap.size]? = _
  simp
theorem setCell_heap' {w : World} {R j : Nat} {cs : Array Value} {t : TypeId} {fr : Nat × Nat} (h : w.heap[R]? = some (.cells cs t fr)) (x : Value) : (w.setCell ⟨R, j, none⟩ x).heap[R]? = some (.cells (cs.setIfInBounds j x) t fr) := by
  rw [setCell_eq_setRow _ _ _ _ _ _ _ h, setRow_heap w R _ _ _ _ h]
set_option maxHeartbeats 4000000 in
set_option maxRecDepth 20000 in
theorem behindD_any (s : ByteArray) (w : World) (hs : s.size ≤ 1048576) :
    Calls Tryd.prog 11 #[.string s] w fun e w' => e = .returned (.agg #[.int .i64 ((endOf s.data.toList).1 : Int), .int .i64 ((endOf s.data.toList).2 : Int)]) ∧ Below w.heap.size w w' := by
  have hls : s.data.toList.length = s.size := len_data s
  obtain ⟨p, hp1, hp2⟩ : ∃ p : Nat, Lib.lastIndexByte s 10 = (p : Int) - 1 ∧ p ≤ s.size := by
    rcases Lib.lastIndexByte_spec s 10 with ⟨h1, _⟩ | ⟨i, h1, h2, _⟩
    · exact ⟨0, by rw [h1]; rfl, by omega⟩
    · exact ⟨i + 1, by rw [h2]; omega, by omega⟩
  have hLI := fun W => strings_LastIndexByte s 10 (by omega) W
  have hCt := fun W => strings_Count_one s 10 W
  have hex : (s.extract p s.size).data.toList = s.data.toList.drop p := by
    rw [Lib.extract_eq]
    show (List.take (s.size - p) (List.drop p s.data.toList)) = _
    rw [List.take_of_length_le (by rw [List.length_drop]; omega)]
  have htz : (s.extract p s.size).size ≤ 1048576 := by rw [← len_data, hex, List.length_drop]; omega
  have hRC := fun W => utf8_RuneCountInString (s.extract p s.size) W (by omega)
  have hrl := Lib.runeCount_le (s.extract p s.size)
  have hcl : Lib.countByte s.data.toList 10 ≤ s.size := by unfold Lib.countByte; have := List.count_le_length (a := (10 : UInt8)) (l := s.data.toList); omega
  have HE : Hid (endOf s.data.toList = (1 + Lib.countByte s.data.toList 10, 1 + Lib.runeCount (s.extract p s.size))) := end_is s _ (by
    rw [hex, hp1]; congr 1; omega)
  rw [hp1] at hLI
  have w1 : wrap64 ((p : Int) - 1 + 1) = (p : Int) := by unfold wrap64; omega
  have w2 : wrap64 (p : Int) = (p : Int) := by unfold wrap64; omega
  have i1 : ¬ (p : Int) < 0 := by omega
  have i2 : (p : Int) ≤ (s.size : Int) := by omega
  generalize Lib.runeCount (s.extract p s.size) = rc at *
  generalize Lib.countByte s.data.toList 10 = cb at *
  have w3 : wrap64 (1 + (cb : Int)) = 1 + (cb : Int) := by unfold wrap64; omega
  have w4 : wrap64 (1 + (rc : Int)) = 1 + (rc : Int) := by unfold wrap64; omega
  clear hex htz hp1 hls
  go_enter Tryd.func11, Tryd.ntmps11
  go_wp2_with fail
  refine (hLI _).mono ?_
  rintro e w9 ⟨rfl, h9⟩
  have h9 := h9.symm
  subst h9
  have HB0 := Lib.hid ((Below.refl w.heap.size w).alloc (Nat.le_refl _) (.cells #[.int .i64 0, .int .i64 0] 25))
  have HC0 := Lib.hid (alloc_heap_new' w (.cells #[.int .i64 0, .int .i64 0] 25))
  go_wp2_with fail
  refine (hCt _).mono ?_
  rintro e w9 ⟨rfl, h9⟩
  have h9 := h9.symm
  subst h9
  go_wp2_with fail
  refine (hRC _).mono ?_
  rintro e W ⟨rfl, pos, hW⟩
  have hbW : Below (w.alloc (.cells #[.int .i64 0, .int .i64 0] 25)).heap.size (w.alloc (.cells #[.int .i64 0, .int .i64 0] 25)) W := by
    rw [hW]; exact (Below.refl _ _).alloc (Nat.le_refl _) _
  have hsV : (w.alloc (.cells #[.int .i64 0, .int .i64 0] 25)).heap.size = w.heap.size + 1 := by simp
  have hcW : W.heap[w.heap.size]? = some (.cells #[.int .i64 0, .int .i64 0] 25 (0, 0)) := by rw [hbW.block _ (by omega)]; exact HC0.out
  have HBW := Lib.hid (HB0.out.trans ⟨hbW.os, hbW.tape, hbW.output, hbW.size, fun k hk => hbW.block k (by omega)⟩)
  have k0 : W.cell? ⟨w.heap.size, 0, none⟩ = some (.int .i64 0) := by simp [World.cell?, hcW]
  have k1 : W.cell? ⟨w.heap.size, 1, none⟩ = some (.int .i64 0) := by simp [World.cell?, hcW]
  have f0 : W.frozen? ⟨w.heap.size, 0, none⟩ = false := by simp [World.frozen?, hcW]
  have f1 : W.frozen? ⟨w.heap.size, 1, none⟩ = false := by simp [World.frozen?, hcW]
  have HF : Hid (((W.setCell ⟨w.heap.size, 0, none⟩ (.int .i64 (1 + (cb : Int)))).setCell ⟨w.heap.size, 1, none⟩ (.int .i64 (1 + (rc : Int)))).heap[w.heap.size]? = some (.cells #[.int .i64 (1 + (cb : Int)), .int .i64 (1 + (rc : Int))] 25 (0, 0))) := by
    refine (?_ : _ = _)
    have a1 : (W.setCell ⟨w.heap.size, 0, none⟩ (.int .i64 (1 + (cb : Int)))).heap[w.heap.size]? = some (.cells #[.int .i64 (1 + (cb : Int)), .int .i64 0] 25 (0, 0)) := setCell_heap' hcW _
    exact setCell_heap' a1 _
  have HB2 := Lib.hid ((HBW.out.setCell (p := ⟨w.heap.size, 0, none⟩) (Nat.le_refl _) (.int .i64 (1 + (cb : Int)))).setCell (p := ⟨w.heap.size, 1, none⟩) (Nat.le_refl _) (.int .i64 (1 + (rc : Int))))
  clear hW hbW hcW hLI hCt hRC
  go_wp2_with fail
  generalize (W.setCell ⟨w.heap.size, 0, none⟩ (.int .i64 (1 + (cb : Int)))).setCell ⟨w.heap.size, 1, none⟩ (.int .i64 (1 + (rc : Int))) = Y at *
  have y0 : Y.cell? ⟨w.heap.size, 0, none⟩ = some (.int .i64 (1 + (cb : Int))) := by simp [World.cell?, HF.out]
  have y1 : Y.cell? ⟨w.heap.size, 1, none⟩ = some (.int .i64 (1 + (rc : Int))) := by simp [World.cell?, HF.out]
  refine bodyPost_ret (v := .agg #[.int .i64 (1 + (cb : Int)), .int .i64 (1 + (rc : Int))]) (by simp [results, Tryd.results11, go_sem, y0, y1]) rfl ⟨?_, HB2.out⟩
  rw [HE.out]
  simp
end Go.Proofs.YtbfkaanmbdekfaaDoor
