/-
  The place behind the last rune of a text, as the program reckons it: the line feeds are counted, and the runes behind the last one.
  The walks over the program's own digit, run, remarkSize, nameSize, numberSize, behind and take: what it takes at a text's head.
  The walks over the program's own remarkSize, nameSize, numberSize, take and behind.
  A slice of the program's words that grows, and what its Words keeps in memory while it goes along a text. Nothing is proved of the program here.
-/
import Derived.Test.YtbfkaanmbdekfaaGreatDoorGf2
import Derived.Test.YtbfkaanmbdekfaaGreatDoorGf4
import Derived.Test.YtbfkaanmbdekfaaGreatDoorGf9
import Derived.WalkKit
import Derived.Test.YtbfkaanmbdekfaaGreatDoorGf3
import Derived.Laws.AppendOwn
import Derived.OwnWalk
import Derived.Deep.AppendLies
import Derived.WalkSmall
import Derived.Lib.OthersKept
namespace Go.Proofs.YtbfkaanmbdekfaaGreatDoor
set_option linter.unusedVariables false
open Go.ChangeShapes Go.WideShapes Go.ChangeAt Go.RowKit

/-- how many runes -/
def cntL : Nat → List UInt8 → Nat
  | 0, _ => 0
  | f + 1, l => if l = [] then 0 else 1 + cntL f (l.drop (nx l).2)
theorem nx_dec (l : List UInt8) (h : l ≠ []) : (nx l).2 = (Lib.decodeL l).2 := by
  unfold nx
  rw [if_neg h]
  split <;> rfl
theorem cnt_rune (s : ByteArray) : ∀ (f pos : Nat), Lib.runeCountFrom s f pos = cntL f (s.data.toList.drop pos)
  | 0, pos => rfl
  | f + 1, pos => by
    have hl : s.data.toList.length = s.size := len_data s
    by_cases hp : pos < s.size
    · have hne : s.data.toList.drop pos ≠ [] := by
        intro e
        have := congrArg List.length e
        rw [List.length_drop, hl] at this
        simp at this; omega
      rw [Lib.runeCountFrom, if_pos hp, cntL, if_neg hne, nx_dec _ hne, Lib.decodeL_drop, List.drop_drop, cnt_rune s f]
    · have hne : s.data.toList.drop pos = [] := List.drop_eq_nil_of_le (by omega)
      rw [Lib.runeCountFrom, if_neg hp, cntL, if_pos hne]
theorem end_none : ∀ (f : Nat) (l : List UInt8) (line col : Nat), (∀ b ∈ l, b ≠ 10) → l.length ≤ f → endL f l line col = (line, col + cntL f l)
  | 0, l, line, col, _, h => rfl
  | f + 1, l, line, col, hb, h => by
    by_cases hl : l = []
    · rw [endL, if_pos hl, cntL, if_pos hl]; rfl
    · have hn := nx_not10 l hl (by
        cases l with
        | nil => exact absurd rfl hl
        | cons a t => intro e; exact hb a (by simp) (by simpa using e))
      have hw := nx_width l hl
      rw [endL, if_neg hl, if_neg hn, cntL, if_neg hl, end_none f (l.drop (nx l).2) line (col + 1) (fun b hb' => hb b (List.mem_of_mem_drop hb')) (by rw [List.length_drop]; omega)]
      rw [Nat.add_assoc]
theorem no_feed (a y : List UInt8) (ha : a ≠ []) (h10 : a.head? ≠ some 10) : (a.take (nx (a ++ 10 :: y)).2).count 10 = 0 := by
  apply List.count_eq_zero.2
  intro hm
  obtain ⟨i, hi⟩ := List.getElem?_of_mem hm
  have hil := (List.getElem?_eq_some_iff.1 hi).1
  rw [List.length_take] at hil
  rw [List.getElem?_take, if_pos (by omega)] at hi
  have hia : i < a.length := by omega
  have hsp : a = a.take i ++ 10 :: a.drop (i + 1) := by
    have e := List.getElem?_eq_some_iff.1 hi
    conv => lhs; rw [← List.take_append_drop i a]
    rw [List.drop_eq_getElem_cons hia, e.2]
  have hi0 : i ≠ 0 := by
    intro e; subst e
    apply h10
    rw [← hi]
    cases a <;> rfl
  have hne : a.take i ≠ [] := by
    intro e
    have := congrArg List.length e
    rw [List.length_take] at this
    simp at this
    rcases this with h | h
    · exact hi0 h
    · exact ha h
  have hl := (nx_local (a.take i) (a.drop (i + 1) ++ 10 :: y) hne).2
  have e2 : a.take i ++ 10 :: (a.drop (i + 1) ++ 10 :: y) = a ++ 10 :: y := by
    conv => rhs; rw [hsp]
    simp
  rw [e2, List.length_take] at hl
  omega
theorem end_feed (b : List UInt8) : ∀ (n : Nat) (a : List UInt8), a.length ≤ n → ∀ (f line col : Nat), (a ++ 10 :: b).length ≤ f → ∃ f', b.length ≤ f' ∧ endL f (a ++ 10 :: b) line col = endL f' b (line + a.count 10 + 1) 1 := by
  intro n
  induction n with
  | zero =>
    intro a ha f line col hf
    have : a = [] := List.eq_nil_of_length_eq_zero (by omega)
    subst this
    simp at hf
    obtain ⟨f, rfl⟩ : ∃ g, f = g + 1 := ⟨f - 1, by omega⟩
    refine ⟨f, by omega, ?_⟩
    rw [List.nil_append, endL, if_neg (by simp), nx_feed, if_pos rfl]; rfl
  | succ n ih =>
    intro a ha f line col hf
    by_cases hz : a = []
    · subst hz
      exact ih [] (by simp) f line col hf
    · obtain ⟨f, rfl⟩ : ∃ g, f = g + 1 := ⟨f - 1, by rw [List.length_append] at hf; simp at hf; omega⟩
      have hne : a ++ 10 :: b ≠ [] := by simp
      have hw := nx_width _ hne
      have hl := nx_local a b hz
      have hd : (a ++ 10 :: b).drop (nx (a ++ 10 :: b)).2 = a.drop (nx (a ++ 10 :: b)).2 ++ 10 :: b := by
        rw [List.drop_append_of_le_length hl.2]
      have hlen : (a.drop (nx (a ++ 10 :: b)).2).length ≤ n := by rw [List.length_drop]; omega
      have hf2 : (a.drop (nx (a ++ 10 :: b)).2 ++ 10 :: b).length ≤ f := by rw [← hd, List.length_drop]; omega
      have hcount : a.count 10 = (a.take (nx (a ++ 10 :: b)).2).count 10 + (a.drop (nx (a ++ 10 :: b)).2).count 10 := by
        rw [← List.count_append, List.take_append_drop]
      by_cases h10 : a.head? = some 10
      · cases a with
        | nil => exact absurd rfl hz
        | cons x t =>
          have hx : x = 10 := by simpa using h10
          subst hx
          have hn : nx (10 :: t ++ 10 :: b) = (10, 1) := nx_feed _
          rw [hn] at hd hlen hf2 hcount
          obtain ⟨f', h1, h2⟩ := ih _ hlen f (line + 1) 1 hf2
          refine ⟨f', h1, ?_⟩
          rw [endL, if_neg hne, hn, if_pos rfl, hd, h2]
          congr 1
          simp
          omega
      · have hnx := nx_not10 (a ++ 10 :: b) hne (by
          cases a with
          | nil => exact absurd rfl hz
          | cons x t => exact h10)
        obtain ⟨f', h1, h2⟩ := ih _ hlen f line (col + 1) hf2
        refine ⟨f', h1, ?_⟩
        rw [endL, if_neg hne, if_neg hnx, hd, h2, hcount, no_feed a b hz h10, Nat.zero_add]
theorem end_is (s : ByteArray) (t : ByteArray) (ht : t.data.toList = s.data.toList.drop ((Lib.lastIndexByte s 10 + 1).toNat)) :
    endOf s.data.toList = (1 + Lib.countByte s.data.toList 10, 1 + Lib.runeCount t) := by
  have hls : s.data.toList.length = s.size := len_data s
  have hlt : t.data.toList.length = t.size := len_data t
  have hrc : Lib.runeCount t = cntL t.size t.data.toList := by
    unfold Lib.runeCount; rw [cnt_rune, List.drop_zero]
  have hget : ∀ j (hj : j < s.size), s.data[j]! = s.data.toList[j]'(by rw [hls]; exact hj) := by
    intro j hj
    rw [getElem!_pos s.data j hj]
    simp
  unfold endOf Lib.countByte
  rcases Lib.lastIndexByte_spec s 10 with ⟨h1, h2⟩ | ⟨i, h1, h2, h3, h4⟩
  · have hno : ∀ b ∈ s.data.toList, b ≠ 10 := by
      intro b hb e
      obtain ⟨j, hj⟩ := List.getElem?_of_mem hb
      obtain ⟨hj1, hj2⟩ := List.getElem?_eq_some_iff.1 hj
      have := h2 j (by omega)
      rw [hget j (by omega), hj2, e] at this
      exact this rfl
    have htt : t.data.toList = s.data.toList := by rw [ht, h1]; rfl
    rw [end_none _ _ _ _ hno (Nat.le_refl _), hrc, htt, ← hlt, htt, List.count_eq_zero.2 (fun hm => hno 10 hm rfl)]
  · have hi : i < s.data.toList.length := by omega
    have h10 : s.data.toList[i] = 10 := by
      have := h3
      rw [hget i h1] at this
      apply UInt8.toNat_inj.1
      show _ = 10
      omega
    have hb : t.data.toList = s.data.toList.drop (i + 1) := by
      rw [ht, h2]; congr 1
    have hsp : s.data.toList = s.data.toList.take i ++ 10 :: t.data.toList := by
      conv => lhs; rw [← List.take_append_drop i s.data.toList]
      rw [List.drop_eq_getElem_cons hi, h10, hb]
    have hno : ∀ b ∈ t.data.toList, b ≠ 10 := by
      intro b hb' e
      rw [hb] at hb'
      obtain ⟨j, hj⟩ := List.getElem?_of_mem hb'
      rw [List.getElem?_drop] at hj
      obtain ⟨hj1, hj2⟩ := List.getElem?_eq_some_iff.1 hj
      have := h4 (i + 1 + j) (by omega) (by omega)
      rw [hget (i + 1 + j) (by omega), hj2, e] at this
      exact this rfl
    obtain ⟨f', g1, g2⟩ := end_feed t.data.toList _ (s.data.toList.take i) (Nat.le_refl _) (s.data.toList.take i ++ 10 :: t.data.toList).length 1 1 (Nat.le_refl _)
    have hcs : s.data.toList.count 10 = (s.data.toList.take i).count 10 + 1 := by
      conv => lhs; rw [hsp]
      rw [List.count_append, List.count_cons_self, List.count_eq_zero.2 (fun hm => hno 10 hm rfl)]
    rw [hcs]
    conv => lhs; rw [hsp]
    rw [g2, end_none f' _ _ _ hno g1, hrc]
    have hfu : ∀ (f g : Nat) (l : List UInt8), l.length ≤ f → l.length ≤ g → cntL f l = cntL g l := by
      intro f
      induction f with
      | zero =>
        intro g l hf hg
        have : l = [] := List.eq_nil_of_length_eq_zero (by omega)
        subst this
        cases g with
        | zero => rfl
        | succ g => rw [cntL, cntL, if_pos rfl]
      | succ f ih =>
        intro g l hf hg
        by_cases hl : l = []
        · subst hl
          cases g with
          | zero => rw [cntL, cntL, if_pos rfl]
          | succ g => rw [cntL, cntL, if_pos rfl, if_pos rfl]
        · have hp := List.length_pos_iff.2 hl
          obtain ⟨g, rfl⟩ : ∃ g', g = g' + 1 := ⟨g - 1, by omega⟩
          have hw := nx_width l hl
          rw [cntL, cntL, if_neg hl, if_neg hl, ih g (l.drop (nx l).2) (by rw [List.length_drop]; omega) (by rw [List.length_drop]; omega)]
    rw [hfu f' t.size t.data.toList g1 (by omega)]
    congr 1
theorem alloc_heap_new' (w : World) (o : Obj) : (w.alloc o).heap[w.heap.size]? = some o := by
  show (w.heap.push o)[w.heap.size]? = _
  simp
theorem setCell_heap' {w : World} {R j : Nat} {cs : Array Value} {t : TypeId} {fr : Nat × Nat} (h : w.heap[R]? = some (.cells cs t fr)) (x : Value) : (w.setCell ⟨R, j, none⟩ x).heap[R]? = some (.cells (cs.setIfInBounds j x) t fr) := by
  rw [setCell_eq_setRow _ _ _ _ _ _ _ h, setRow_heap w R _ _ _ _ h]
set_option maxHeartbeats 4000000 in
set_option maxRecDepth 20000 in
theorem behindD_any (s : ByteArray) (w : World) (hs : s.size ≤ 1048576) :
    Calls Tryz.prog 16 #[.string s] w fun e w' => e = .returned (.agg #[.int .i64 ((endOf s.data.toList).1 : Int), .int .i64 ((endOf s.data.toList).2 : Int)]) ∧ Below w.heap.size w w' := by
  have hls : s.data.toList.length = s.size := len_data s
  obtain ⟨p, hp1, hp2⟩ : ∃ p : Nat, Lib.lastIndexByte s 10 = (p : Int) - 1 ∧ p ≤ s.size := by
    rcases Lib.lastIndexByte_spec s 10 with ⟨h1, _⟩ | ⟨i, h1, h2, _⟩
    · exact ⟨0, by rw [h1]; rfl, by omega⟩
    · exact ⟨i + 1, by rw [h2]; omega, by omega⟩
  have hLI := fun W => strings_LastIndexByte s 10 (by omega) W
  have hCt := fun W => strings_Count_one s 10 W
  have hex : (s.extract p s.size).data.toList = s.data.toList.drop p := by
    rw [Lib.extract_eq]
    show (List.take (s.size - p) (List.drop p s.data.toList)) = _
    rw [List.take_of_length_le (by rw [List.length_drop]; omega)]
  have htz : (s.extract p s.size).size ≤ 1048576 := by rw [← len_data, hex, List.length_drop]; omega
  have hRC := fun W => utf8_RuneCountInString (s.extract p s.size) W (by omega)
  have hrl := Lib.runeCount_le (s.extract p s.size)
  have hcl : Lib.countByte s.data.toList 10 ≤ s.size := by unfold Lib.countByte; have := List.count_le_length (a := (10 : UInt8)) (l := s.data.toList); omega
  have HE : Hid (endOf s.data.toList = (1 + Lib.countByte s.data.toList 10, 1 + Lib.runeCount (s.extract p s.size))) := end_is s _ (by
    rw [hex, hp1]; congr 1; omega)
  rw [hp1] at hLI
  have w1 : wrap64 ((p : Int) - 1 + 1) = (p : Int) := by unfold wrap64; omega
  have w2 : wrap64 (p : Int) = (p : Int) := by unfold wrap64; omega
  have i1 : ¬ (p : Int) < 0 := by omega
  have i2 : (p : Int) ≤ (s.size : Int) := by omega
  generalize Lib.runeCount (s.extract p s.size) = rc at *
  generalize Lib.countByte s.data.toList 10 = cb at *
  have w3 : wrap64 (1 + (cb : Int)) = 1 + (cb : Int) := by unfold wrap64; omega
  have w4 : wrap64 (1 + (rc : Int)) = 1 + (rc : Int) := by unfold wrap64; omega
  clear hex htz hp1 hls
  go_enter Tryz.func16, Tryz.ntmps16
  go_wp2_with fail
  refine (hLI _).mono ?_
  rintro e w9 ⟨rfl, h9⟩
  have h9 := h9.symm
  subst h9
  have HB0 := Lib.hid ((Below.refl w.heap.size w).alloc (Nat.le_refl _) (.cells #[.int .i64 0, .int .i64 0] 25))
  have HC0 := Lib.hid (alloc_heap_new' w (.cells #[.int .i64 0, .int .i64 0] 25))
  go_wp2_with fail
  refine (hCt _).mono ?_
  rintro e w9 ⟨rfl, h9⟩
  have h9 := h9.symm
  subst h9
  go_wp2_with fail
  refine (hRC _).mono ?_
  rintro e W ⟨rfl, pos, hW⟩
  have hbW : Below (w.alloc (.cells #[.int .i64 0, .int .i64 0] 25)).heap.size (w.alloc (.cells #[.int .i64 0, .int .i64 0] 25)) W := by
    rw [hW]; exact (Below.refl _ _).alloc (Nat.le_refl _) _
  have hsV : (w.alloc (.cells #[.int .i64 0, .int .i64 0] 25)).heap.size = w.heap.size + 1 := by simp
  have hcW : W.heap[w.heap.size]? = some (.cells #[.int .i64 0, .int .i64 0] 25 (0, 0)) := by rw [hbW.block _ (by omega)]; exact HC0.out
  have HBW := Lib.hid (HB0.out.trans ⟨hbW.os, hbW.tape, hbW.output, hbW.size, fun k hk => hbW.block k (by omega)⟩)
  have k0 : W.cell? ⟨w.heap.size, 0, none⟩ = some (.int .i64 0) := by simp [World.cell?, hcW]
  have k1 : W.cell? ⟨w.heap.size, 1, none⟩ = some (.int .i64 0) := by simp [World.cell?, hcW]
  have f0 : W.frozen? ⟨w.heap.size, 0, none⟩ = false := by simp [World.frozen?, hcW]
  have f1 : W.frozen? ⟨w.heap.size, 1, none⟩ = false := by simp [World.frozen?, hcW]
  have HF : Hid (((W.setCell ⟨w.heap.size, 0, none⟩ (.int .i64 (1 + (cb : Int)))).setCell ⟨w.heap.size, 1, none⟩ (.int .i64 (1 + (rc : Int)))).heap[w.heap.size]? = some (.cells #[.int .i64 (1 + (cb : Int)), .int .i64 (1 + (rc : Int))] 25 (0, 0))) := by
    refine (?_ : _ = _)
    have a1 : (W.setCell ⟨w.heap.size, 0, none⟩ (.int .i64 (1 + (cb : Int)))).heap[w.heap.size]? = some (.cells #[.int .i64 (1 + (cb : Int)), .int .i64 0] 25 (0, 0)) := setCell_heap' hcW _
    exact setCell_heap' a1 _
  have HB2 := Lib.hid ((HBW.out.setCell (p := ⟨w.heap.size, 0, none⟩) (Nat.le_refl _) (.int .i64 (1 + (cb : Int)))).setCell (p := ⟨w.heap.size, 1, none⟩) (Nat.le_refl _) (.int .i64 (1 + (rc : Int))))
  clear hW hbW hcW hLI hCt hRC
  go_wp2_with fail
  generalize (W.setCell ⟨w.heap.size, 0, none⟩ (.int .i64 (1 + (cb : Int)))).setCell ⟨w.heap.size, 1, none⟩ (.int .i64 (1 + (rc : Int))) = Y at *
  have y0 : Y.cell? ⟨w.heap.size, 0, none⟩ = some (.int .i64 (1 + (cb : Int))) := by simp [World.cell?, HF.out]
  have y1 : Y.cell? ⟨w.heap.size, 1, none⟩ = some (.int .i64 (1 + (rc : Int))) := by simp [World.cell?, HF.out]
  refine bodyPost_ret (v := .agg #[.int .i64 (1 + (cb : Int)), .int .i64 (1 + (rc : Int))]) (by simp [results, Tryz.results16, go_sem, y0, y1]) rfl ⟨?_, HB2.out⟩
  rw [HE.out]
  simp
end Go.Proofs.YtbfkaanmbdekfaaGreatDoor
namespace Go.Proofs.YtbfkaanmbdekfaaGreatDoor
set_option linter.unusedVariables false
open Go.ChangeShapes Go.WideShapes Go.ChangeAt Go.RowKit

/-- the library's two errors of numbers lie in the world -/
def Errs (w : World) : Prop := (∃ ev, w.cell? ⟨laysC174_ren.g 15, 0, none⟩ = some ev ∧ (ev = .nilIface ∨ ∃ te pe, ev = .iface te pe)) ∧ (∃ ev, w.cell? ⟨laysC174_ren.g 16, 0, none⟩ = some ev ∧ (ev = .nilIface ∨ ∃ te pe, ev = .iface te pe))
theorem errs_below {w w' : World} (h : Errs w) (hb : Below w.heap.size w w') : Errs w' := by
  obtain ⟨⟨e1, h1, k1⟩, ⟨e2, h2, k2⟩⟩ := h
  exact ⟨⟨e1, by rw [hb.cell (World.block_lt_of_cell? _ _ h1)]; exact h1, k1⟩, ⟨e2, by rw [hb.cell (World.block_lt_of_cell? _ _ h2)]; exact h2, k2⟩⟩
theorem retID {a b : Int} (h : a = b) : Ending.returned (.int .i64 a) = .returned (.int .i64 b) := by rw [h]
theorem retSD {a b : ByteArray} (h : a = b) : Ending.returned (.string a) = .returned (.string b) := by rw [h]
theorem retIID {a b c d : Int} (h1 : a = c) (h2 : b = d) : Ending.returned (.tuple #[.int .i64 a, .int .i64 b]) = .returned (.tuple #[.int .i64 c, .int .i64 d]) := by rw [h1, h2]
set_option maxHeartbeats 1000000 in
theorem digitD_any (r : Int) (w : World) :
    Calls Tryz.prog 60 #[.int .i32 r] w fun e w' => e = .returned (.bool (isDigit r)) ∧ w' = w := by
  go_enter Tryz.func60, Tryz.ntmps60
  go_wp2
  all_goals
    go_ret
    refine ⟨retB ?_, rfl⟩
    unfold isDigit
    rw [Bool.eq_iff_iff]
    simp
    omega
theorem runD_step (f : Nat) (l : List UInt8) (k : Nat) (h : l.drop k ≠ []) (hr : nameRune (nx (l.drop k)).1 = true) : runL (f + 1) (l.drop k) = ((nx (l.drop k)).2 + (runL f (l.drop (k + (nx (l.drop k)).2))).1, (runL f (l.drop (k + (nx (l.drop k)).2))).2 + 1) := by
  rw [runL, if_pos ⟨h, hr⟩, List.drop_drop]
theorem runD_stop (f : Nat) (l : List UInt8) (h : l = [] ∨ nameRune (nx l).1 = false) : runL f l = (0, 0) := by
  cases f with
  | zero => rfl
  | succ f =>
    rw [runL, if_neg]
    rintro ⟨h1, h2⟩
    rcases h with h | h
    · exact h1 h
    · rw [h] at h2; simp at h2
set_option maxHeartbeats 2000000 in
theorem runD_any (s : ByteArray) (w : World) (hs : s.size ≤ 1048576) :
    Calls Tryz.prog 83 #[.string s] w fun e w' => e = .returned (.string (mkB (s.data.toList.take (runL s.size s.data.toList).1))) ∧ Below w.heap.size w w' := by
  have HL : Hid (s.data.toList.length = s.size) := len_data s
  obtain ⟨R, hR⟩ : ∃ R, (runL s.size s.data.toList).1 = R := ⟨_, rfl⟩
  rw [hR]
  have HR : Hid ((runL s.size s.data.toList).1 = R) := hR
  clear hR
  have HEX : Hid (∀ k, s.extract 0 k = mkB (s.data.toList.take k)) := fun k => by
    rw [Lib.extract_eq, List.drop_zero, Nat.sub_zero]; rfl
  obtain ⟨T, hT⟩ : ∃ T, mkB (s.data.toList.take R) = T := ⟨_, rfl⟩
  have HT : Hid (mkB (s.data.toList.take R) = T) := hT
  rw [hT]
  clear hT
  go_enter Tryz.func83, Tryz.ntmps83
  go_wp2_with fail
  go_loopw [3] (fun _ w' => ∃ (pos f : Nat), w' = w.iter s pos ∧ pos ≤ s.size ∧ s.size ≤ pos + f ∧ (runL s.size s.data.toList).1 = pos + (runL f (s.data.toList.drop pos)).1) (fun _ w' => s.size - w'.iterPos w.heap.size)
  case atStart => exact ⟨0, s.size, rfl, by omega, by omega, by rw [List.drop_zero]; omega⟩
  case round =>
    obtain ⟨pos, f, rfl, hps, hf, hc⟩ := hrel
    have HC : Hid ((runL s.size s.data.toList).1 = pos + (runL f (s.data.toList.drop pos)).1) := hc
    clear hc
    have HB : ∀ p, Below w.heap.size w (w.iter s p) := fun p => (Below.refl _ w).alloc (Nat.le_refl _) _
    by_cases hp : pos < s.size
    · have hnx : ∀ ty, (Instr.next (.pointer (some ⟨w.heap.size, 0, none⟩)) true ty).run Tryz.prog (w.iter s pos) = _ := fun ty => run_next_any w s pos ty hp
      have hne : s.data.toList.drop pos ≠ [] := drop_some (by rw [HL.out]; exact hp)
      obtain ⟨hnm, _, _, _⟩ := rn_name _ hne
      have hrn := rn_nx _ hne
      have hwl := nx_width _ hne
      have hdd : Lib.decodeL (s.data.toList.drop pos) = Utf8.decode s pos := Lib.decodeL_drop s pos
      have hwd : (nx (s.data.toList.drop pos)).2 = (Utf8.decode s pos).2 := by rw [← hrn.2, hdd]
      have hrr : nameRune (nx (s.data.toList.drop pos)).1 = nameRune ((Utf8.decode s pos).1 : Int) := by rw [← hnm]; unfold rn; rw [hdd]
      rw [List.length_drop, HL.out, hwd] at hwl
      obtain ⟨f, rfl⟩ : ∃ f', f = f' + 1 := ⟨f - 1, by omega⟩
      have HGO : Hid (nameRune ((Utf8.decode s pos).1 : Int) = true → (runL s.size s.data.toList).1 = (pos + (Utf8.decode s pos).2) + (runL f (s.data.toList.drop (pos + (Utf8.decode s pos).2))).1) := fun h => by
        rw [HC.out, runD_step f _ pos hne (by rw [hrr]; exact h), hwd]; simp only; omega
      have HEN : Hid (nameRune ((Utf8.decode s pos).1 : Int) = false → R = pos) := fun h => by
        rw [← HR.out, HC.out, runD_stop _ _ (.inr (by rw [hrr]; exact h))]; rfl
      clear hnm hrn hdd hwd hrr hne HC
      generalize (Utf8.decode s pos).2 = wd at *
      generalize ((Utf8.decode s pos).1 : Int) = r at *
      have hLe := fun W => letter_any r W
      have hDi := fun W => digitD_any r W
      have hnr : nameRune r = (isLetter r || isDigit r || decide (r = 95)) := rfl
      obtain ⟨L, hL⟩ : ∃ L, isLetter r = L := ⟨_, rfl⟩
      obtain ⟨D, hD⟩ : ∃ D, isDigit r = D := ⟨_, rfl⟩
      rw [hL] at hLe hnr
      rw [hD] at hDi hnr
      have HNR : Hid (nameRune r = (L || D || decide (r = 95))) := hnr
      clear hL hD hnr
      have hgo : nameRune r = true ∨ (L = false ∧ D = false ∧ r ≠ 95) := by
        rw [HNR.out]
        cases L <;> cases D <;> simp
        exact Decidable.em _
      by_cases hstop : L = false ∧ D = false ∧ r ≠ 95
      · obtain ⟨rfl, rfl, h95⟩ := hstop
        have h95' : (r != 95) = true := by simpa using h95
        have HE : Hid (s.extract 0 pos = T) := by
          refine (?_ : _ = _)
          rw [HEX.out, ← HT.out, HEN.out (by rw [HNR.out]; simpa using h95)]
        have hps' : (pos : Int) ≤ (s.size : Int) := by omega
        clear HGO HEN HNR hgo
        go_wp2_with (first
          | (go_at_call 58; refine (hLe _).mono ?_; rintro e w' ⟨rfl, rfl⟩)
          | (go_at_call 60; refine (hDi _).mono ?_; rintro e w' ⟨rfl, rfl⟩))
        go_ret
        exact ⟨retSD HE.out, HB _⟩
      · have hn : nameRune r = true := by
          rcases hgo with h | h
          · exact h
          · exact absurd h hstop
        have HX : Hid ((runL s.size s.data.toList).1 = (pos + wd) + (runL f (s.data.toList.drop (pos + wd))).1) := HGO.out hn
        have hcs : L = true ∨ (L = false ∧ D = true) ∨ (L = false ∧ D = false ∧ r = 95) := by
          cases L <;> cases D <;> simp
          exact Decidable.byContradiction fun h => hstop ⟨rfl, rfl, h⟩
        clear HGO HEN HNR hgo hstop hn
        rcases hcs with rfl | ⟨rfl, rfl⟩ | ⟨rfl, rfl, rfl⟩
        all_goals
          go_wp2_with (first
            | (go_at_call 58; refine (hLe _).mono ?_; rintro e w' ⟨rfl, rfl⟩)
            | (go_at_call 60; refine (hDi _).mono ?_; rintro e w' ⟨rfl, rfl⟩))
          go_roundw
          case rel => exact ⟨pos + wd, f, rfl, by omega, by omega, HX.out⟩
          case measure => simp; omega
    · have hnx : ∀ ty, (Instr.next (.pointer (some ⟨w.heap.size, 0, none⟩)) true ty).run Tryz.prog (w.iter s pos) = _ := fun ty => run_next_end w s pos ty hp
      have HE : Hid (s = T) := by
        refine (?_ : _ = _)
        have hRs : R = s.size := by
          rw [← HR.out, HC.out, runD_stop _ _ (.inl (List.drop_eq_nil_of_le (by rw [HL.out]; omega)))]
          simp only; omega
        rw [← HT.out, hRs, List.take_of_length_le (by rw [HL.out]; exact Nat.le_refl _), mkB_data]
      go_wp2
      go_ret
      exact ⟨retSD HE.out, HB _⟩
end Go.Proofs.YtbfkaanmbdekfaaGreatDoor
namespace Go.Proofs.YtbfkaanmbdekfaaGreatDoor
set_option linter.unusedVariables false
open Go.ChangeShapes Go.WideShapes Go.ChangeAt Go.RowKit

theorem prefix_two (l : List UInt8) (h : l.head? = some 47) : Lib.hasPrefix l [47, 47] = decide (l[1]? = some 47) := by
  cases l with
  | nil => simp at h
  | cons a t =>
    rw [List.head?_cons] at h
    obtain rfl : a = 47 := Option.some.inj h
    cases t with
    | nil => rfl
    | cons b t =>
      have e1 : Lib.hasPrefix (47 :: b :: t) [47, 47] = ((47 : UInt8) == b) := by
        show ((47 : UInt8) == 47 && ((47 : UInt8) == b && true)) = _
        simp
      have e2 : (47 :: b :: t)[1]? = some b := rfl
      rw [e1, e2, Bool.eq_iff_iff, decide_eq_true_iff, beq_iff_eq]
      exact ⟨fun h => by rw [h], fun h => (Option.some.inj h).symm⟩
theorem head_rn (l : List UInt8) (h : l ≠ []) (k : UInt8) (hk : k.toNat < 128) (hr : rn l = (k.toNat : Int)) : l.head? = some k := by
  have hn := (rn_is l h _ (by omega) (by omega)).1 hr
  cases l with
  | nil => exact absurd rfl h
  | cons b t =>
    by_cases hb : b.toNat < 128
    · rw [nx_ascii b t hb] at hn
      have e : b.toNat = k.toNat := by have : (b.toNat : Int) = (k.toNat : Int) := hn; omega
      rw [List.head?_cons, UInt8.toNat_inj.1 e]
    · have := nx_high b t (by omega)
      omega
set_option maxHeartbeats 1000000 in
theorem remarkD_any (s : ByteArray) (w : World) (hs : s.size ≤ 1048576) (h47 : s.data.toList.head? = some 47) :
    Calls Tryz.prog 57 #[.string s] w fun e w' => e = .returned (.int .i64 (remL s.data.toList : Int)) ∧ w' = w := by
  have hH := fun W => strings_HasPrefix s ⟨#[47, 47]⟩ W
  have e47 : Lib.hasPrefix s.data.toList (ByteArray.mk #[47, 47]).data.toList = decide (s.data.toList[1]? = some 47) := prefix_two _ h47
  rw [e47] at hH
  have hI := fun W => strings_IndexByte s 10 W
  have e10 : ((10 : Int).toNat.toUInt8) = 10 := rfl
  rw [e10] at hI
  have hsk := skip_index s.data.toList
  rw [len_data] at hsk
  obtain ⟨R, hR⟩ : ∃ R, remL s.data.toList = R := ⟨_, rfl⟩
  rw [hR]
  have HR : Hid (remL s.data.toList = R) := hR
  clear hR e47 e10
  by_cases h1 : s.data.toList[1]? = some 47
  · rw [decide_eq_true h1] at hH
    have hRv : (R : Int) = ((skipL s.data.toList.length s.data.toList).1 : Int) := by rw [← HR.out]; unfold remL; rw [if_pos h1]
    rw [len_data] at hRv
    clear h1 h47
    generalize Lib.indexByte s.data.toList 10 = I at *
    generalize ((skipL s.size s.data.toList).1) = K at *
    rcases hsk with ⟨a, b⟩ | ⟨a, b⟩
    · have hz : ¬ (0 : Int) ≤ I := by omega
      have HV : Hid ((s.size : Int) = (R : Int)) := by refine (?_ : _ = _); omega
      clear hRv a b
      go_enter Tryz.func57, Tryz.ntmps57
      go_wp2_with (first
        | (go_at_call 79; refine (hH _).mono ?_; rintro e w' ⟨rfl, rfl⟩)
        | (go_at_call 80; refine (hI _).mono ?_; rintro e w' ⟨rfl, rfl⟩))
      go_ret
      exact ⟨retID HV.out, rfl⟩
    · have HV : Hid (I = (R : Int)) := by refine (?_ : _ = _); omega
      clear hRv b
      go_enter Tryz.func57, Tryz.ntmps57
      go_wp2_with (first
        | (go_at_call 79; refine (hH _).mono ?_; rintro e w' ⟨rfl, rfl⟩)
        | (go_at_call 80; refine (hI _).mono ?_; rintro e w' ⟨rfl, rfl⟩))
      go_ret
      exact ⟨retID HV.out, rfl⟩
  · rw [decide_eq_false h1] at hH
    have HV : Hid (R = 0) := by refine (?_ : R = 0); rw [← HR.out]; unfold remL; rw [if_neg h1]
    clear h1 h47 hsk hI
    go_enter Tryz.func57, Tryz.ntmps57
    go_wp2_with (go_at_call 79; refine (hH _).mono ?_; rintro e w' ⟨rfl, rfl⟩)
    go_ret
    exact ⟨retID (by rw [HV.out]; rfl), rfl⟩
theorem mkB_size (l : List UInt8) : (mkB l).size = l.length := by
  have := len_data (mkB l)
  rw [← this]; rfl
set_option maxHeartbeats 1000000 in
theorem nameL_any (s : ByteArray) (w : World) (hs : s.size ≤ 1048576) :
    Calls Tryz.prog 59 #[.string s] w fun e w' => e = .returned (.int .i64 ((if nameOf (runes ⟨(s.data.toList.take (runL s.data.toList.length s.data.toList).1).toArray⟩) = true then (runL s.data.toList.length s.data.toList).1 else 0 : Nat) : Int)) ∧ Below w.heap.size w w' := by
  have hR := runD_any s w hs
  rw [len_data]
  have hle := (runL_le s.size s.data.toList).1
  rw [len_data] at hle
  have hts : (mkB (s.data.toList.take (runL s.size s.data.toList).1)).size = (runL s.size s.data.toList).1 := by rw [mkB_size, List.length_take, len_data]; omega
  have hN := fun W => name_any (mkB (s.data.toList.take (runL s.size s.data.toList).1)) W (by rw [hts]; omega)
  obtain ⟨V, hV⟩ : ∃ V : Nat, (if nameOf (runes ⟨(s.data.toList.take (runL s.size s.data.toList).1).toArray⟩) = true then (runL s.size s.data.toList).1 else 0 : Nat) = V := ⟨_, rfl⟩
  rw [hV]
  have hV' : (if nameOf (runes (mkB (s.data.toList.take (runL s.size s.data.toList).1))) = true then (runL s.size s.data.toList).1 else 0 : Nat) = V := hV
  clear hV
  generalize mkB (s.data.toList.take (runL s.size s.data.toList).1) = T at *
  generalize (runL s.size s.data.toList).1 = R at *
  generalize nameOf (runes T) = N at *
  cases N with
  | false =>
    have HV : Hid (V = 0) := by refine (?_ : V = 0); rw [← hV']; rfl
    clear hV' hle hts
    go_enter Tryz.func59, Tryz.ntmps59
    go_wp2_with fail
    refine hR.mono ?_
    rintro e w1 ⟨rfl, hb1⟩
    go_wp2_with fail
    refine (hN w1).mono ?_
    rintro e w2 ⟨rfl, hb2⟩
    go_wp2_with fail
    go_ret
    exact ⟨retID (by rw [HV.out]; rfl), hb1.trans (hb2.mono hb1.size)⟩
  | true =>
    have HV : Hid ((T.size : Int) = (V : Int)) := by refine (?_ : _ = _); rw [← hV', if_pos rfl, hts]
    clear hV' hle hts
    go_enter Tryz.func59, Tryz.ntmps59
    go_wp2_with fail
    refine hR.mono ?_
    rintro e w1 ⟨rfl, hb1⟩
    go_wp2_with fail
    refine (hN w1).mono ?_
    rintro e w2 ⟨rfl, hb2⟩
    go_wp2_with fail
    go_ret
    exact ⟨retID HV.out, hb1.trans (hb2.mono hb1.size)⟩
set_option maxHeartbeats 2000000 in
theorem numberL_any (s : ByteArray) (w : World) (hE : Errs w) (hs : s.size ≤ 1048576) (h1 : 1 ≤ (runL s.size s.data.toList).1) (hd : isDig (s.data.toList.headD 0) = true) :
    Calls Tryz.prog 61 #[.string s] w fun e w' => e = .returned (.int .i64 ((if ((s.data.toList.take (runL s.data.toList.length s.data.toList).1).all isDig && numL (s.data.toList.take (runL s.data.toList.length s.data.toList).1)) = true then (runL s.data.toList.length s.data.toList).1 else 0 : Nat) : Int)) ∧ Below w.heap.size w w' := by
  have hR := runD_any s w hs
  rw [len_data]
  have hle := (runL_le s.size s.data.toList).1
  rw [len_data] at hle
  have hts : (mkB (s.data.toList.take (runL s.size s.data.toList).1)).size = (runL s.size s.data.toList).1 := by rw [mkB_size, List.length_take, len_data]; omega
  have htd : (mkB (s.data.toList.take (runL s.size s.data.toList).1)).data.toList = s.data.toList.take (runL s.size s.data.toList).1 := rfl
  have hhd : (s.data.toList.take (runL s.size s.data.toList).1).head? = s.data.toList.head? := by
    obtain ⟨m, hm⟩ : ∃ m, (runL s.size s.data.toList).1 = m + 1 := ⟨(runL s.size s.data.toList).1 - 1, by omega⟩
    rw [hm]
    cases s.data.toList <;> rfl
  have hd' : isDig ((s.data.toList.take (runL s.size s.data.toList).1).headD 0) = true := by
    rw [List.headD_eq_head?_getD, hhd, ← List.headD_eq_head?_getD]; exact hd
  rw [← htd] at hd' ⊢
  obtain ⟨V, hV⟩ : ∃ V : Nat, (if ((mkB (s.data.toList.take (runL s.size s.data.toList).1)).data.toList.all isDig && numL (mkB (s.data.toList.take (runL s.size s.data.toList).1)).data.toList) = true then (runL s.size s.data.toList).1 else 0 : Nat) = V := ⟨_, rfl⟩
  rw [hV]
  clear hhd htd hd
  generalize mkB (s.data.toList.take (runL s.size s.data.toList).1) = T at *
  generalize (runL s.size s.data.toList).1 = R at *
  have h0t : 0 < T.size := by omega
  have hat := at_data T 0 h0t
  have hlen := len_data T
  have hne : T.data.toList ≠ [] := by intro e; rw [e] at hlen; simp at hlen; omega
  have P := parse32 T.data.toList hne hd'
  by_cases hz : T.data.toList.head? = some 48 ∧ 1 < T.data.toList.length
  · have HV : Hid (V = 0) := by
      refine (?_ : V = 0)
      rw [← hV, if_neg]
      unfold numL
      rw [decide_eq_true hz.1, decide_eq_true hz.2]
      simp
    have h48 : T[0]'h0t = 48 := by
      have e := hz.1
      rw [List.head?_eq_getElem?, hat] at e
      exact Option.some.inj e
    have h48' : (((T[0]'h0t).toNat : Int) == 48) = true := by rw [h48]; rfl
    have hl1 : (1 : Int) < (T.size : Int) := by have := hz.2; rw [hlen] at this; omega
    clear hV P hz h48 hat hlen hne hd'
    go_enter Tryz.func61, Tryz.ntmps61
    go_wp2_with fail
    refine hR.mono ?_
    rintro e w1 ⟨rfl, hb1⟩
    clear hR
    go_wp2_with fail
    go_ret
    exact ⟨retID (by rw [HV.out]; rfl), hb1⟩
  · have P := P hz
    have hzc : ¬ (1 : Int) < (T.size : Int) ∨ ((1 : Int) < (T.size : Int) ∧ (((T[0]'h0t).toNat : Int) == 48) = false) := by
      by_cases hl1 : 1 < T.size
      · right
        refine ⟨by omega, ?_⟩
        rw [beq_eq_false_iff_ne]
        intro e
        apply hz
        refine ⟨?_, by rw [hlen]; exact hl1⟩
        rw [List.head?_eq_getElem?, hat]
        have e2 : (T[0]'h0t).toNat = (48 : UInt8).toNat := by have : ((T[0]'h0t).toNat : Int) = 48 := e; show _ = 48; omega
        rw [UInt8.toNat_inj.1 e2]
      · left; omega
    have hcall : ∀ W, Below w.heap.size w W → ∃ (v : Int) (ev : Value), (ev = .nilIface ∧ V = T.size ∨ (∃ t x, ev = .iface t x) ∧ V = 0) ∧ Calls Tryz.prog 85 #[.string T, .int .i64 10, .int .i64 32] W fun e w' => ∃ ev', e = .returned (.tuple #[.int .i64 v, ev']) ∧ (ev = .nilIface ↔ ev' = .nilIface) ∧ ((∃ t x, ev = .iface t x) ↔ ∃ t x, ev' = .iface t x) ∧ Below W.heap.size W w' := by
      intro W hbW
      have hEW : Errs W := errs_below hE hbW
      cases hb : (T.data.toList.all isDig && numL T.data.toList) with
      | true =>
        obtain ⟨v, hv⟩ := P.1 hb
        refine ⟨v, .nilIface, .inl ⟨rfl, by rw [← hV, hb, if_pos rfl, hts]⟩, (strconv_ParseInt_10_at32_ok T (by omega) v hv W).mono ?_⟩
        rintro e w' ⟨rfl, hw⟩
        refine ⟨_, rfl, Iff.rfl, Iff.rfl, ?_⟩
        rcases hw with rfl | ⟨t, rfl⟩
        · exact Below.refl _ _
        · exact Lib.bytesWorld_below _ _ _
      | false =>
        have hV0 : V = 0 := by rw [← hV, hb]; rfl
        rcases P.2 hb with hp | hp
        · obtain ⟨ev, h1, h2⟩ := hEW.1
          refine ⟨0, .iface 0 .nilIface, .inr ⟨⟨_, _, rfl⟩, hV0⟩, (strconv_ParseInt_10_at32_syntax T (by omega) hp ev W h1 h2).mono ?_⟩
          rintro e w' ⟨N, rfl, _, _, hb⟩
          exact ⟨_, rfl, by simp, by simp, hb⟩
        · obtain ⟨ev, h1, h2⟩ := hEW.2
          refine ⟨Lib.intSat 32 T.data.toList, .iface 0 .nilIface, .inr ⟨⟨_, _, rfl⟩, hV0⟩, (strconv_ParseInt_10_at32_range T (by omega) hp ev W h1 h2).mono ?_⟩
          rintro e w' ⟨N, rfl, _, _, hb⟩
          exact ⟨_, rfl, by simp, by simp, hb⟩
    have HCA : Hid (∀ W, Below w.heap.size w W → ∃ (v : Int) (ev : Value), (ev = .nilIface ∧ V = T.size ∨ (∃ t x, ev = .iface t x) ∧ V = 0) ∧ Calls Tryz.prog 85 #[.string T, .int .i64 10, .int .i64 32] W fun e w' => ∃ ev', e = .returned (.tuple #[.int .i64 v, ev']) ∧ (ev = .nilIface ↔ ev' = .nilIface) ∧ ((∃ t x, ev = .iface t x) ↔ ∃ t x, ev' = .iface t x) ∧ Below W.heap.size W w') := hcall
    clear hcall P hV hz hat hlen hne hd'
    go_enter Tryz.func61, Tryz.ntmps61
    go_wp2_with fail
    refine hR.mono ?_
    rintro e w1 ⟨rfl, hb1⟩
    clear hR
    obtain ⟨v, ev, hev, hC⟩ := HCA.out w1 hb1
    clear HCA
    rcases hzc with hz | ⟨hz1, hz2⟩
    all_goals
      go_wp2_with fail
      refine hC.mono ?_
      rintro e w2 ⟨ev', rfl, q1, q2, hb2⟩
      have hb3 := hb1.trans (hb2.mono hb1.size)
      clear hC hb1 hb2
      rcases hev with ⟨hn, hV⟩ | ⟨hn, hV⟩
      · obtain rfl := q1.1 hn
        have HV : Hid (V = T.size) := hV
        clear q1 q2 hV hn
        go_wp2_with fail
        go_ret
        exact ⟨retID (by rw [HV.out]; omega), hb3⟩
      · obtain ⟨t, x, rfl⟩ := q2.1 hn
        have HV : Hid (V = 0) := hV
        clear q1 q2 hV hn
        go_wp2_with fail
        go_ret
        exact ⟨retID (by rw [HV.out]; rfl), hb3⟩
theorem cells_two (w : World) (a : Obj) (x y : Value) (t : TypeId) : ((w.alloc a).alloc (.cells #[x, y] t)).cell? ⟨w.heap.size + 1, 0, none⟩ = some x ∧ ((w.alloc a).alloc (.cells #[x, y] t)).cell? ⟨w.heap.size + 1, 1, none⟩ = some y := by
  have h : ((w.alloc a).alloc (.cells #[x, y] t)).heap[w.heap.size + 1]? = some (.cells #[x, y] t) := by
    have : (w.heap.push a).size = w.heap.size + 1 := by simp
    show ((w.heap.push a).push _)[w.heap.size + 1]? = _
    rw [Array.getElem?_push, if_pos this.symm]
  generalize (w.alloc a).alloc (.cells #[x, y] t) = W at *
  constructor <;> simp [World.cell?, h]
set_option maxHeartbeats 2000000 in
theorem behindL_any (line col : Nat) (r : Int) (w : World) (hl : line ≤ 1000000) (hc : col ≤ 1000000) :
    Calls Tryz.prog 34 #[.agg #[.int .i64 (line : Int), .int .i64 (col : Int)], .int .i32 r] w fun e w' =>
      e = .returned (.agg #[.int .i64 ((if r = 10 then line + 1 else line : Nat) : Int), .int .i64 ((if r = 10 then 1 else col + 1 : Nat) : Int)]) ∧ Below w.heap.size w w' := by
  have hw1 : IntKind.i64.wrap ((line : Int) + 1) = (line : Int) + 1 := by rw [IntKind.wrap_i64]; omega
  have hw2 : IntKind.i64.wrap ((col : Int) + 1) = (col : Int) + 1 := by rw [IntKind.wrap_i64]; omega
  by_cases h : r = 10
  · subst h
    rw [if_pos rfl, if_pos rfl]
    obtain ⟨r0, r1⟩ := cells_two w (.cells #[.int .i64 (line : Int), .int .i64 (col : Int)] 25) (.int .i64 ((line : Int) + 1)) (.int .i64 1) 25
    go_enter Tryz.func34, Tryz.ntmps34
    go_wp2_with fail
    refine bodyPost_ret (v := .agg #[.int .i64 ((line : Int) + 1), .int .i64 1]) (by simp [results, Tryz.results34, go_sem, r0, r1]) rfl ⟨rfl, ?_⟩
    exact ((Below.refl _ w).alloc (Nat.le_refl _) _).alloc (by simp) _
  · have h' : (r == 10) = false := by simpa using h
    rw [if_neg h, if_neg h]
    clear h
    obtain ⟨r0, r1⟩ := cells_two w (.cells #[.int .i64 (line : Int), .int .i64 (col : Int)] 25) (.int .i64 (line : Int)) (.int .i64 ((col : Int) + 1)) 25
    go_enter Tryz.func34, Tryz.ntmps34
    go_wp2_with fail
    refine bodyPost_ret (v := .agg #[.int .i64 (line : Int), .int .i64 ((col : Int) + 1)]) (by simp [results, Tryz.results34, go_sem, r0, r1]) rfl ⟨rfl, ?_⟩
    exact ((Below.refl _ w).alloc (Nat.le_refl _) _).alloc (by simp) _
set_option maxHeartbeats 4000000 in
theorem takeD_any (s : ByteArray) (r : Int) (w : World) (hE : Errs w) (hs : s.size ≤ 1048576) (hne : s.data.toList ≠ []) (hr : rn s.data.toList = r) :
    Calls Tryz.prog 33 #[.string s, .int .i32 r] w fun e w' => e = .returned (.tuple #[.int .i64 (takeL s.data.toList).1, .int .i64 ((takeL s.data.toList).2 : Int)]) ∧ Below w.heap.size w w' := by
  obtain ⟨K, hK⟩ : ∃ K, (takeL s.data.toList).1 = K := ⟨_, rfl⟩
  obtain ⟨N, hN⟩ : ∃ N, (takeL s.data.toList).2 = N := ⟨_, rfl⟩
  rw [hK, hN]
  have hB := Below.refl w.heap.size w
  by_cases hb : r = 32 ∨ r = 9 ∨ r = 10
  · have e : takeL s.data.toList = (0, 1) := by unfold takeL; rw [hr, if_pos hb]
    have HV : Hid (0 = K ∧ (1 : Int) = (N : Int)) := by refine (?_ : _ ∧ _); rw [← hK, ← hN, e]; exact ⟨rfl, rfl⟩
    clear hK hN e hr
    rcases hb with rfl | rfl | rfl
    all_goals
      go_enter Tryz.func33, Tryz.ntmps33
      go_wp2_with fail
      go_ret2
      exact ⟨retIID HV.out.1 HV.out.2, hB⟩
  by_cases h47 : r = 47
  · subst h47
    have e : takeL s.data.toList = (0, remL s.data.toList) := by unfold takeL; rw [hr, if_neg hb, if_pos rfl]
    have hR := remarkD_any s w hs (head_rn _ hne 47 (by decide) hr)
    have HV : Hid (0 = K ∧ (remL s.data.toList : Int) = (N : Int)) := by refine (?_ : _ ∧ _); rw [← hK, ← hN, e]; exact ⟨rfl, rfl⟩
    clear hK hN e hr hb
    generalize (remL s.data.toList : Int) = R at *
    go_enter Tryz.func33, Tryz.ntmps33
    go_wp2_with fail
    refine hR.mono ?_
    rintro e w1 ⟨rfl, h1⟩
    have h1 := h1.symm
    subst h1
    go_wp2_with fail
    go_ret2
    exact ⟨retIID HV.out.1 HV.out.2, hB⟩
  by_cases hsg : signR r = true
  · have e : takeL s.data.toList = (3, 1) := by unfold takeL; rw [hr, if_neg hb, if_neg h47, if_pos hsg]
    have HV : Hid (3 = K ∧ (1 : Int) = (N : Int)) := by refine (?_ : _ ∧ _); rw [← hK, ← hN, e]; exact ⟨rfl, rfl⟩
    clear hK hN e hr hb h47
    simp only [signR, decide_eq_true_iff] at hsg
    rcases hsg with rfl | rfl | rfl | rfl | rfl | rfl | rfl
    all_goals
      go_enter Tryz.func33, Tryz.ntmps33
      go_wp2_with fail
      go_ret2
      exact ⟨retIID HV.out.1 HV.out.2, hB⟩
  have hn : (r == 32) = false ∧ (r == 9) = false ∧ (r == 10) = false ∧ (r == 47) = false ∧ (r == 123) = false ∧ (r == 125) = false ∧ (r == 40) = false ∧ (r == 41) = false ∧ (r == 61) = false ∧ (r == 59) = false ∧ (r == 46) = false := by
    have hsg' : ¬ (r = 123 ∨ r = 125 ∨ r = 40 ∨ r = 41 ∨ r = 61 ∨ r = 59 ∨ r = 46) := fun h => hsg (by simp only [signR, decide_eq_true_iff]; exact h)
    simp only [beq_eq_false_iff_ne]
    omega
  obtain ⟨n1, n2, n3, n4, n5, n6, n7, n8, n9, n10, n11⟩ := hn
  have hLe := fun W => letter_any r W
  have hDi := fun W => digitD_any r W
  obtain ⟨m, hm⟩ : ∃ m, s.size = m + 1 := ⟨s.size - 1, by
    have := len_data s
    have h0 : 0 < s.data.toList.length := List.length_pos_iff.2 hne
    omega⟩
  have hnm := rn_name _ hne
  rw [hr] at hnm
  by_cases hL : isLetter r = true
  · have e : takeL s.data.toList = (1, if nameOf (runes ⟨(s.data.toList.take (runL s.data.toList.length s.data.toList).1).toArray⟩) = true then (runL s.data.toList.length s.data.toList).1 else 0) := by
      unfold takeL; rw [hr, if_neg hb, if_neg h47, if_neg hsg, if_pos hL]
    have hR := nameL_any s w hs
    rw [hL] at hLe
    generalize (if nameOf (runes ⟨(s.data.toList.take (runL s.data.toList.length s.data.toList).1).toArray⟩) = true then (runL s.data.toList.length s.data.toList).1 else 0) = R at *
    have HV : Hid (1 = K ∧ (R : Int) = (N : Int)) := by refine (?_ : _ ∧ _); rw [← hK, ← hN, e]; exact ⟨rfl, rfl⟩
    clear hK hN e hr hb h47 hsg hL hnm hDi hm
    go_enter Tryz.func33, Tryz.ntmps33
    go_wp2_with fail
    refine (hLe _).mono ?_
    rintro e w1 ⟨rfl, h1⟩
    have h1 := h1.symm
    subst h1
    go_wp2_with fail
    refine hR.mono ?_
    rintro e w2 ⟨rfl, hb2⟩
    go_wp2_with fail
    go_ret2
    exact ⟨retIID HV.out.1 HV.out.2, hb2⟩
  by_cases hD : isDigit r = true
  · have e : takeL s.data.toList = (2, if ((s.data.toList.take (runL s.data.toList.length s.data.toList).1).all isDig && numL (s.data.toList.take (runL s.data.toList.length s.data.toList).1)) = true then (runL s.data.toList.length s.data.toList).1 else 0) := by
      unfold takeL; rw [hr, if_neg hb, if_neg h47, if_neg hsg, if_neg hL, if_pos hD]
    have hdr : 48 ≤ r ∧ r ≤ 57 := by simpa [isDigit] using hD
    have hhd : isDig (s.data.toList.headD 0) = true := by
      have hn := (rn_is _ hne r (by omega) (by omega)).1 hr
      revert hn
      cases hl : s.data.toList with
      | nil => exact absurd hl hne
      | cons b t =>
        intro hn
        by_cases hbb : b.toNat < 128
        · rw [nx_ascii b t hbb] at hn
          have hn' : (b.toNat : Int) = r := hn
          show isDig b = true
          simp only [isDig, decide_eq_true_iff]
          omega
        · have := nx_high b t (by omega)
          omega
    have hp1 := (runL_pos m s.data.toList hne (by rw [← hnm.1]; unfold nameRune; rw [hD]; simp)).1
    rw [← hm] at hp1
    have hR := numberL_any s w hE hs hp1 hhd
    have hL' : isLetter r = false := by simpa using hL
    rw [hL'] at hLe
    rw [hD] at hDi
    generalize (if ((s.data.toList.take (runL s.data.toList.length s.data.toList).1).all isDig && numL (s.data.toList.take (runL s.data.toList.length s.data.toList).1)) = true then (runL s.data.toList.length s.data.toList).1 else 0) = R at *
    have HV : Hid (2 = K ∧ (R : Int) = (N : Int)) := by refine (?_ : _ ∧ _); rw [← hK, ← hN, e]; exact ⟨rfl, rfl⟩
    clear hK hN e hr hb h47 hsg hL hL' hnm hm hdr hhd hp1 hD
    go_enter Tryz.func33, Tryz.ntmps33
    go_wp2_with fail
    refine (hLe _).mono ?_
    rintro e w1 ⟨rfl, h1⟩
    have h1 := h1.symm
    subst h1
    go_wp2_with fail
    refine (hDi _).mono ?_
    rintro e w1 ⟨rfl, h1⟩
    have h1 := h1.symm
    subst h1
    go_wp2_with fail
    refine hR.mono ?_
    rintro e w2 ⟨rfl, hb2⟩
    go_wp2_with fail
    go_ret2
    exact ⟨retIID HV.out.1 HV.out.2, hb2⟩
  · have e : takeL s.data.toList = (0, 0) := by unfold takeL; rw [hr, if_neg hb, if_neg h47, if_neg hsg, if_neg hL, if_neg hD]
    have HV : Hid (0 = K ∧ (0 : Int) = (N : Int)) := by refine (?_ : _ ∧ _); rw [← hK, ← hN, e]; exact ⟨rfl, rfl⟩
    have hL' : isLetter r = false := by simpa using hL
    have hD' : isDigit r = false := by simpa using hD
    rw [hL'] at hLe
    rw [hD'] at hDi
    clear hK hN e hr hb h47 hsg hL hL' hnm hm hD hD'
    go_enter Tryz.func33, Tryz.ntmps33
    go_wp2_with fail
    refine (hLe _).mono ?_
    rintro e w1 ⟨rfl, h1⟩
    have h1 := h1.symm
    subst h1
    go_wp2_with fail
    refine (hDi _).mono ?_
    rintro e w1 ⟨rfl, h1⟩
    have h1 := h1.symm
    subst h1
    go_wp2_with fail
    go_ret2
    exact ⟨retIID HV.out.1 HV.out.2, hB⟩
end Go.Proofs.YtbfkaanmbdekfaaGreatDoor
namespace Go.Proofs.YtbfkaanmbdekfaaGreatDoor
set_option linter.unusedVariables false
open Go.ChangeShapes Go.WideShapes Go.ChangeAt Go.RowKit

/-- a word's cells -/
def wrowD (x : Wd) : List Value := [.int .i64 x.kind, .string (mkB x.text), .int .i64 (x.line : Int), .int .i64 (x.col : Int)]
theorem infoD : (Tryz.prog.info? 87).map (fun i => (i.zero, i.size, i.bytes)) = some (some (.agg #[.int .i64 0, .string ⟨#[]⟩, .int .i64 0, .int .i64 0]), 4, 40) := by kernel_rfl
/-- a slice of words that the call itself has made -/
def OwnD (w : World) (base : Nat) (v : Value) (xs : List Wd) : Prop := w.ownsRow base 87 4 v xs.length (xs.flatMap wrowD)
theorem ownD_block {w : World} {base : Nat} {v : Value} {xs : List Wd} (h : OwnD w base v xs) : ∀ k, v.ownBlock = some k → base ≤ k := by
  intro k hk
  obtain ⟨_, ⟨rfl, _⟩ | ⟨g, cap, cur, rfl, hg, _⟩⟩ := h
  · simp [Value.ownBlock] at hk
  · simp [Value.ownBlock] at hk; omega
theorem ownD_slice {w : World} {base : Nat} {v : Value} {xs : List Wd} (h : OwnD w base v xs) : ∃ a c, v = .slice a xs.length c := by
  obtain ⟨_, ⟨rfl, h0⟩ | ⟨g, cap, cur, rfl, _⟩⟩ := h
  · exact ⟨none, 0, by rw [h0]⟩
  · exact ⟨_, _, rfl⟩
theorem ownD_heap {w w' : World} {base : Nat} {v : Value} {xs : List Wd} (h : OwnD w base v xs) (hh : ∀ (k : Nat) (o : Obj), base ≤ k → w.heap[k]? = some o → w'.heap[k]? = some o) : OwnD w' base v xs := by
  obtain ⟨h1, h2 | ⟨g, cap, cur, hv, hg, hhp, r⟩⟩ := h
  · exact ⟨h1, .inl h2⟩
  · exact ⟨h1, .inr ⟨g, cap, cur, hv, hg, hh g _ hg hhp, r⟩⟩

/-- the state while the program's Words goes along: the answer's place (still zero), the place at hand, how far the range has come, the words so far -/
structure Sd (w0 w : World) (B : Nat) (s : ByteArray) (p line col : Nat) (v : Value) (acc : List Wd) : Prop where
  ans : w.heap[B]? = some (.cells #[.int .i64 0, .int .i64 0] 25 (0, 0))
  pos : w.heap[B + 1]? = some (.cells #[.int .i64 (line : Int), .int .i64 (col : Int)] 25 (0, 0))
  it : w.heap[B + 2]? = some (.stringIter s p)
  own : OwnD w (B + 3) v acc
  below : Below B w0 w
section
variable {w0 w : World} {B : Nat} {s : ByteArray} {p line col : Nat} {v : Value} {acc : List Wd}
theorem Sd.size (h : Sd w0 w B s p line col v acc) : B + 3 ≤ w.heap.size := by
  have := (Array.getElem?_eq_some_iff.1 h.it).1; omega
theorem Sd.old {w' : World} (h : Sd w0 w B s p line col v acc) (hb : Below w.heap.size w w') : Sd w0 w' B s p line col v acc := by
  have hsz := h.size
  refine ⟨by rw [hb.block B (by omega)]; exact h.ans, by rw [hb.block (B + 1) (by omega)]; exact h.pos, by rw [hb.block (B + 2) (by omega)]; exact h.it, ?_, h.below.trans (hb.mono (by omega))⟩
  exact ownD_heap h.own fun k o _ hk => by rw [hb.block k (Array.getElem?_eq_some_iff.1 hk).1]; exact hk
theorem Sd.cells (h : Sd w0 w B s p line col v acc) :
    w.cell? ⟨B + 1, 0, none⟩ = some (.int .i64 (line : Int)) ∧ w.cell? ⟨B + 1, 1, none⟩ = some (.int .i64 (col : Int)) ∧ w.frozen? ⟨B + 1, 0, none⟩ = false ∧ w.frozen? ⟨B + 1, 1, none⟩ = false ∧
    w.cell? ⟨B, 0, none⟩ = some (.int .i64 0) ∧ w.cell? ⟨B, 1, none⟩ = some (.int .i64 0) ∧ w.frozen? ⟨B, 0, none⟩ = false ∧ w.frozen? ⟨B, 1, none⟩ = false := by
  simp [World.cell?, World.frozen?, h.pos, h.ans]
theorem Sd.iterPos (h : Sd w0 w B s p line col v acc) : w.iterPos (B + 2) = p := by simp [World.iterPos, h.it]
theorem Sd.alloc (h : Sd w0 w B s p line col v acc) (o : Obj) : Sd w0 (w.alloc o) B s p line col v acc := h.old ((Below.refl _ w).alloc (Nat.le_refl _) o)
theorem Sd.drew (h : Sd w0 w B s p line col v acc) : Sd w0 w.drew B s p line col v acc := ⟨h.ans, h.pos, h.it, h.own, h.below.drew⟩
/-- the range goes on -/
theorem Sd.next (h : Sd w0 w B s p line col v acc) (q : Nat) : Sd w0 (w.iterAt (B + 2) s q) B s q line col v acc := by
  refine ⟨by rw [Lib.iterAt_other _ _ _ _ _ (by omega)]; exact h.ans, by rw [Lib.iterAt_other _ _ _ _ _ (by omega)]; exact h.pos, Lib.iterAt_heap _ _ _ _ _ h.it, ?_, Lib.below_iterAt h.below (by omega) _ _⟩
  exact ownD_heap h.own fun k o hk hko => by rw [Lib.iterAt_other _ _ _ _ _ (by omega)]; exact hko
/-- the place at hand is another one -/
theorem Sd.place (h : Sd w0 w B s p line col v acc) (line' col' : Nat) : Sd w0 ((w.setCell ⟨B + 1, 0, none⟩ (.int .i64 (line' : Int))).setCell ⟨B + 1, 1, none⟩ (.int .i64 (col' : Int))) B s p line' col' v acc := by
  have h1 : (w.setCell ⟨B + 1, 0, none⟩ (.int .i64 (line' : Int))).heap[B + 1]? = some (.cells #[.int .i64 (line' : Int), .int .i64 (col : Int)] 25 (0, 0)) := by
    rw [setCell_eq_setRow _ _ _ _ _ _ _ h.pos, setRow_heap w (B + 1) _ _ _ _ h.pos]; rfl
  have h2 : ((w.setCell ⟨B + 1, 0, none⟩ (.int .i64 (line' : Int))).setCell ⟨B + 1, 1, none⟩ (.int .i64 (col' : Int))).heap[B + 1]? = some (.cells #[.int .i64 (line' : Int), .int .i64 (col' : Int)] 25 (0, 0)) := by
    rw [setCell_eq_setRow _ _ _ _ _ _ _ h1, setRow_heap _ (B + 1) _ _ _ _ h1]; rfl
  have ho : ∀ k, k ≠ B + 1 → ((w.setCell ⟨B + 1, 0, none⟩ (.int .i64 (line' : Int))).setCell ⟨B + 1, 1, none⟩ (.int .i64 (col' : Int))).heap[k]? = w.heap[k]? := fun k hk => by
    rw [Below.heap_setCell _ _ _ _ hk, Below.heap_setCell _ _ _ _ hk]
  refine ⟨by rw [ho B (by omega)]; exact h.ans, h2, by rw [ho (B + 2) (by omega)]; exact h.it, ownD_heap h.own fun k o hk hko => by rw [ho k (by omega)]; exact hko, ?_⟩
  exact (h.below.setCell (p := ⟨B + 1, 0, none⟩) (by show B ≤ B + 1; omega) _).setCell (p := ⟨B + 1, 1, none⟩) (by show B ≤ B + 1; omega) _
/-- the answer's place is told -/
theorem Sd.final (h : Sd w0 w B s p line col v acc) (x y : Value) :
    ((w.setCell ⟨B, 0, none⟩ x).setCell ⟨B, 1, none⟩ y).cell? ⟨B, 0, none⟩ = some x ∧ ((w.setCell ⟨B, 0, none⟩ x).setCell ⟨B, 1, none⟩ y).cell? ⟨B, 1, none⟩ = some y ∧
    OwnD ((w.setCell ⟨B, 0, none⟩ x).setCell ⟨B, 1, none⟩ y) (B + 3) v acc ∧ Below B w0 ((w.setCell ⟨B, 0, none⟩ x).setCell ⟨B, 1, none⟩ y) := by
  have h1 : (w.setCell ⟨B, 0, none⟩ x).heap[B]? = some (.cells #[x, .int .i64 0] 25 (0, 0)) := by
    rw [setCell_eq_setRow _ _ _ _ _ _ _ h.ans, setRow_heap w B _ _ _ _ h.ans]; rfl
  have h2 : ((w.setCell ⟨B, 0, none⟩ x).setCell ⟨B, 1, none⟩ y).heap[B]? = some (.cells #[x, y] 25 (0, 0)) := by
    rw [setCell_eq_setRow _ _ _ _ _ _ _ h1, setRow_heap _ B _ _ _ _ h1]; rfl
  have ho : ∀ k, k ≠ B → ((w.setCell ⟨B, 0, none⟩ x).setCell ⟨B, 1, none⟩ y).heap[k]? = w.heap[k]? := fun k hk => by
    rw [Below.heap_setCell _ _ _ _ hk, Below.heap_setCell _ _ _ _ hk]
  refine ⟨by simp [World.cell?, h2], by simp [World.cell?, h2], ownD_heap h.own fun k o hk hko => by rw [ho k (by omega)]; exact hko, ?_⟩
  exact (h.below.setCell (p := ⟨B, 0, none⟩) (Nat.le_refl _) x).setCell (p := ⟨B, 1, none⟩) (Nat.le_refl _) y
/-- a word more, at a step of a region that draws its order -/
theorem Sd.push (h : Sd w0 w B s p line col v acc) (r : Wd) {ops : Array Oper} {o : Oper} {a : Act} {K : Act → World → Prop} {Q : Exit → Act → World → Prop} {E : Prop} (hgd : o.guard = none) (s' x' : Operand)
    (ho : o.op = .call { callee := .builtin .append, args := #[s', x'], argTypes := #[47, 47] })
    (cs : Array Value) (hcs : cs = (wrowD r).toArray) (hs : a.eval s' = v) (hx : a.eval x' = .slice (some ⟨w.heap.size, 0, none⟩) 1 1) (hbd : acc.length ≤ 4000)
    (hk : ∀ g cap W, Sd w0 W B s p line col (.slice (some ⟨g, 0, none⟩) (acc.length + 1) cap) (acc ++ [r]) → K (a.put o.dst (.slice (some ⟨g, 0, none⟩) (acc.length + 1) cap)) W) :
    if Region.wanted o (yielded ops a.tmps) = true then Oper.wp Tryz.prog o a (w.alloc (.cells cs 87)) K Q else E := by
  subst hcs
  have hsz := h.size
  have ha := h.alloc (.cells (wrowD r).toArray 87)
  obtain ⟨i0, hi, hz0, hz1, hz2⟩ := info_parts infoD
  refine step_append_lies _ hgd s' x' 47 ho (B + 3) 87 i0 _ 4 40 Tryz.underlying47 hi hz0 hz1 hz2 rfl (by decide) v acc.length (acc.flatMap wrowD) hs ha.own ⟨w.heap.size, 0, none⟩ 1 1 (wrowD r) hx rfl ?_ ?_ (by decide) (by unfold maxLen; omega) (by omega) (by simp; omega) _ rfl ?_
  · exact World.news_of_block (cs := (wrowD r).toArray) (t := 87) (fr := (0, 0)) (by show (w.heap.push _)[w.heap.size]? = _; simp)
  · intro u hu
    simp only [wrowD, List.mem_cons, List.not_mem_nil, or_false] at hu
    rcases hu with rfl | rfl | rfl | rfl <;> rfl
  · intro g cap W hown hg _ _
    refine hk g cap W ?_
    have hb : ∀ k, k < B + 3 → W.heap[k]? = (w.alloc (.cells (wrowD r).toArray 87)).heap[k]? := fun k hk => hg.block k (by simp; omega) (fun e => by have := ownD_block h.own k e.symm; omega)
    refine ⟨by rw [hb B (by omega)]; exact ha.ans, by rw [hb (B + 1) (by omega)]; exact ha.pos, by rw [hb (B + 2) (by omega)]; exact ha.it, ?_, ha.below.grown hg (by simp; omega) (fun k hk => by have := ownD_block h.own k hk; omega)⟩
    unfold OwnD
    rw [List.length_append, List.flatMap_append]
    simpa using hown
end
/-- what the state is when the range begins -/
theorem Sd.start (w : World) (s : ByteArray) : Sd w (((w.alloc (.cells #[.int .i64 0, .int .i64 0] 25)).alloc (.cells #[.int .i64 1, .int .i64 1] 25)).iter s 0) w.heap.size s 0 1 1 (.slice none 0 0) [] := by
  have e1 : (w.alloc (.cells #[.int .i64 0, .int .i64 0] 25)).heap.size = w.heap.size + 1 := by simp
  have e2 : ((w.alloc (.cells #[.int .i64 0, .int .i64 0] 25)).alloc (.cells #[.int .i64 1, .int .i64 1] 25)).heap.size = w.heap.size + 2 := by simp
  have h0 : (w.alloc (.cells #[.int .i64 0, .int .i64 0] 25)).heap[w.heap.size]? = some (.cells #[.int .i64 0, .int .i64 0] 25 (0, 0)) := by
    show (w.heap.push _)[w.heap.size]? = _; simp
  have b1 := (Below.refl _ (w.alloc (.cells #[.int .i64 0, .int .i64 0] 25))).alloc (Nat.le_refl _) (.cells #[.int .i64 1, .int .i64 1] 25)
  have h1 : ((w.alloc (.cells #[.int .i64 0, .int .i64 0] 25)).alloc (.cells #[.int .i64 1, .int .i64 1] 25)).heap[w.heap.size + 1]? = some (.cells #[.int .i64 1, .int .i64 1] 25 (0, 0)) := by
    rw [← e1]
    generalize w.alloc (.cells #[.int .i64 0, .int .i64 0] 25) = W
    show (W.heap.push _)[W.heap.size]? = _; simp
  have bw : Below w.heap.size w ((w.alloc (.cells #[.int .i64 0, .int .i64 0] 25)).alloc (.cells #[.int .i64 1, .int .i64 1] 25)) := ((Below.refl _ w).alloc (Nat.le_refl _) _).alloc (by simp) _
  have h0' : ((w.alloc (.cells #[.int .i64 0, .int .i64 0] 25)).alloc (.cells #[.int .i64 1, .int .i64 1] 25)).heap[w.heap.size]? = some (.cells #[.int .i64 0, .int .i64 0] 25 (0, 0)) := by
    rw [b1.block w.heap.size (by rw [e1]; omega)]; exact h0
  generalize (w.alloc (.cells #[.int .i64 0, .int .i64 0] 25)).alloc (.cells #[.int .i64 1, .int .i64 1] 25) = W at *
  have bi : Below W.heap.size W (W.iter s 0) := (Below.refl _ W).alloc (Nat.le_refl _) _
  refine ⟨by rw [bi.block _ (by omega)]; exact h0', by rw [bi.block _ (by omega)]; exact h1, ?_, World.ownsRow_nil _ _ _ _, bw.trans (bi.mono (by omega))⟩
  rw [← e2]; exact World.iter_heap W s 0
end Go.Proofs.YtbfkaanmbdekfaaGreatDoor
