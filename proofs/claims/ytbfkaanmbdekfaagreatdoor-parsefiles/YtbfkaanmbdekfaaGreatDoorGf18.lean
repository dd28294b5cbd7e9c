/-
  The document's own File: what it keeps in memory while it goes along the words. Nothing is proved of the program here.
  The walk over the document's own End: the place behind the last rune.
  The walk over the document's own File: what a text declares, or its error, and place.
  A slice that a loop fills in a declaration of its own: what holds in memory meanwhile. Nothing is proved of the program here.
-/
import Derived.Test.YtbfkaanmbdekfaaGreatDoorGf15
import Derived.Test.YtbfkaanmbdekfaaGreatDoorGf17
import Derived.Test.YtbfkaanmbdekfaaGreatDoorGf2
import Derived.Test.YtbfkaanmbdekfaaGreatDoorGf12
import Derived.Test.YtbfkaanmbdekfaaGreatDoorGf14
import Derived.Deep.RegionLaw
import Derived.Deep.RegionHeldLaw
namespace Go.Proofs.YtbfkaanmbdekfaaGreatDoor
set_option linter.unusedVariables false
open Go.ChangeShapes Go.WideShapes Go.ChangeAt Go.RowKit

/-- the blocks of what is declared: behind the reader, and not the slice's own -/
def AwayF (R : Nat) (wx : World) (v : Value) (b : Nat) : Prop := R + 1 ≤ b ∧ b < wx.heap.size ∧ v.ownBlock ≠ some b
structure Lf (w0 wx : World) (A R : Nat) (en : Int × Int) (q : Rd) (v : Value) (ds : List Dc) (rs : List (List Value)) : Prop where
  rd : RdAt wx R en q
  bel : Below w0.heap.size w0 wx
  ans : wx.heap[A]? = some (.cells #[.int .i64 0, .int .i64 0] 25 (0, 0))
  decls : Ds 9 wx (R + 1) (AwayF R wx v) v ds rs
  ge : w0.heap.size ≤ A
  lt : A < R
section
variable {w0 wx w' : World} {A R : Nat} {en : Int × Int} {q q' : Rd} {v : Value} {ds : List Dc} {rs : List (List Value)}
theorem Lf.step (h : Lf w0 wx A R en q v ds rs) (hr : RdAt w' R en q') (hg : wx.grownBy w' (some R)) : Lf w0 w' A R en q' v ds rs := by
  have hl := h.lt
  have hge := h.ge
  have hRl := h.rd.lt
  have hs := hg.size
  have hb : ∀ b, R + 1 ≤ b → b < wx.heap.size → w'.heap[b]? = wx.heap[b]? := fun b h1 h2 => hg.block b h2 (by intro e; cases e; omega)
  exact ⟨hr, h.bel.grown hg (by have := h.bel.size; omega) (fun k hk => by cases hk; omega), by rw [hg.block A (by omega) (by intro e; cases e; omega)]; exact h.ans,
    h.decls.keep (fun b hb' => hb b (own_block h.decls.own b hb').1 (own_block h.decls.own b hb').2) (fun b hb' => hb b hb'.1 hb'.2.1) (fun b hb' => ⟨hb'.1, by have := hb'.2.1; omega, hb'.2.2⟩), hge, hl⟩
theorem Lf.alloc (h : Lf w0 wx A R en q v ds rs) (o : Obj) : Lf w0 (wx.alloc o) A R en q v ds rs := h.step (h.rd.alloc o) (World.grownBy_alloc _ _ _)
theorem Lf.below (h : Lf w0 wx A R en q v ds rs) (hb : Below wx.heap.size wx w') : Lf w0 w' A R en q v ds rs := h.step (h.rd.below hb) (grownBy_below hb _)
theorem Lf.push (h : Lf w0 wx A R en q v ds rs) (x : Dc) (kf kv km ki : Value) (hkid : Kids 9 wx (AwayF R wx v) kf kv km ki x) (hone : ∀ u ∈ drow x kf kv km ki, u.oneCell' = true) {ops : Array Oper} {rest : List Oper} {o : Oper} {a : Act} {Q : Exit → Act → World → Prop} (hgd : o.guard = none) (s' x' : Operand)
    (ho : o.op = .call { callee := .builtin .append, args := #[s', x'], argTypes := #[29, 29] })
    (crow : Array Value) (hcs : crow = (drow x kf kv km ki).toArray) (hs : a.eval s' = v) (hx : a.eval x' = .slice (some ⟨wx.heap.size, 0, none⟩) 1 1) (hbd : ds.length ≤ 100000)
    (hk : ∀ g cap W, Lf w0 W A R en q (.slice (some ⟨g, 0, none⟩) (ds.length + 1) cap) (ds ++ [x]) (rs ++ [drow x kf kv km ki]) → wpList Tryz.prog ops Q rest (a.put o.dst (.slice (some ⟨g, 0, none⟩) (ds.length + 1) cap)) W) :
    wpList Tryz.prog ops Q (o :: rest) a (wx.alloc (.cells crow 65)) := by
  subst hcs
  have hRl := h.rd.lt
  have hl := h.lt
  have hge := h.ge
  have ha := h.alloc (.cells (drow x kf kv km ki).toArray 65)
  obtain ⟨i0, hi0, hz0, hz1, hz2⟩ := info_parts infoDc
  refine wpList_append_lies _ hgd s' x' 29 ho (R + 1) 65 i0 _ 8 136 Tryz.underlying29 hi0 hz0 hz1 hz2 rfl (by decide) v ds.length (rs.flatMap id) hs ha.decls.own ⟨wx.heap.size, 0, none⟩ 1 1 (drow x kf kv km ki) hx rfl ?_ hone (by decide) (by unfold maxLen; omega) (by omega) (by simp; omega) _ rfl ?_
  · exact World.news_of_block (cs := (drow x kf kv km ki).toArray) (t := 65) (fr := (0, 0)) (by show (wx.heap.push _)[wx.heap.size]? = _; simp)
  · intro g cap W hown hg hat hlt
    have hsa : (wx.alloc (.cells (drow x kf kv km ki).toArray 65)).heap.size = wx.heap.size + 1 := by simp
    have hsW := hg.size
    have hkW : ∀ b, b < wx.heap.size → v.ownBlock ≠ some b → W.heap[b]? = wx.heap[b]? := fun b hb hne => by
      rw [hg.block b (by rw [hsa]; omega) (fun e => hne e.symm), alloc_heap_old _ _ _ hb]
    have hno : ∀ b, b < R + 1 → v.ownBlock ≠ some b := fun b hb e => by have := (own_block h.decls.own b e).1; omega
    have hgb : R + 1 ≤ g := by
      rcases hat with e | e
      · exact (own_block h.decls.own g e).1
      · rw [hsa] at e; omega
    have hAw : ∀ b, AwayF R wx v b → AwayF R W (.slice (some ⟨g, 0, none⟩) (ds.length + 1) cap) b := fun b hb' => by
      refine ⟨hb'.1, by have := hb'.2.1; rw [hsa] at hsW; omega, ?_⟩
      intro e
      have e' : g = b := by simpa [Value.ownBlock] using e
      subst e'
      rcases hat with e | e
      · exact hb'.2.2 e
      · have := hb'.2.1; rw [hsa] at e; omega
    refine hk g cap W ⟨h.rd.old fun b hb => hkW b (by omega) (hno b hb), (h.bel.alloc (by have := h.bel.size; omega) _).grown hg (by rw [hsa]; have := h.bel.size; omega) (fun b hb => by have := (own_block h.decls.own b hb).1; omega), by rw [hkW A (by omega) (hno A (by omega))]; exact h.ans, ⟨?_, ?_, ?_⟩, hge, hl⟩
    · rw [List.length_append, List.flatMap_append]
      simpa using hown
    · rw [List.length_append, List.length_append, h.decls.len]; rfl
    · intro j d hj
      by_cases hjl : j < ds.length
      · rw [List.getElem?_append_left hjl] at hj
        obtain ⟨f1, v1, m1, i1, hr1, hk1⟩ := h.decls.kids j d hj
        exact ⟨f1, v1, m1, i1, by rw [List.getElem?_append_left (by rw [h.decls.len]; exact hjl)]; exact hr1, (hk1.old fun b hb' => hkW b hb'.2.1 hb'.2.2).more hAw⟩
      · have hjn := (List.getElem?_eq_some_iff.1 hj).1
        rw [List.length_append] at hjn
        have hje : j = ds.length := by simp at hjn; omega
        subst hje
        rw [List.getElem?_append_right (Nat.le_refl _), Nat.sub_self] at hj
        have e : x = d := by simpa using hj
        subst e
        exact ⟨kf, kv, km, ki, by rw [← h.decls.len, List.getElem?_append_right (Nat.le_refl _), Nat.sub_self]; rfl, (hkid.old fun b hb' => hkW b hb'.2.1 hb'.2.2).more hAw⟩
end
/-- what File answers -/
def FAns (a : List Dc × (Int × Int) × Int) (e : Ending) (w' : World) : Prop :=
  ∃ (ad : Option Addr) (c : Nat) (pl pc : Int), e = .returned (.tuple #[.slice ad a.1.length c, .agg #[.int .i64 pl, .int .i64 pc], .int .i64 a.2.2]) ∧ HeldD 10 w' (fun b => b < w'.heap.size) (.slice ad a.1.length c) a.1 ∧ (a.2.2 ≠ 0 → pl = a.2.1.1 ∧ pc = a.2.1.2)
/-- the words that Words has made, as a reader reads them -/
theorem own_words {w : World} {base : Nat} {v : Value} {xs : List Wd} (h : OwnW w base v xs) : ∃ ad c, v = .slice ad xs.length c ∧ xs.length ≤ c ∧ ∀ R, w.heap.size ≤ R → WordsAt w R ad xs := by
  obtain ⟨hl, ⟨rfl, h0⟩ | ⟨g, cap, cur, rfl, hg, hh, h3, h4, h5, h6⟩⟩ := h
  · exact ⟨none, 0, by rw [h0], by omega, fun R _ => .inl (List.eq_nil_of_length_eq_zero h0)⟩
  · refine ⟨_, cap, rfl, h3, fun R hR => .inr ⟨g, 0, rfl, by have := (Array.getElem?_eq_some_iff.1 hh).1; omega, fun j x hj => ?_⟩⟩
    have hjl := (List.getElem?_eq_some_iff.1 hj).1
    have key : ∀ i, i < 4 → w.cell? ⟨g, 0 + (j * 4 + i), none⟩ = (wrow x)[i]? := fun i hi => by
      have e := flat_at (k := 4) (row := wrow) (fun _ => rfl) xs j x i hi hj
      rw [← h6, List.getElem?_take, if_pos (by omega)] at e
      simp only [World.cell?, hh]
      rw [Nat.zero_add, ← e]
      simp
    exact ⟨key 0 (by omega), key 1 (by omega), key 2 (by omega), key 3 (by omega)⟩
end Go.Proofs.YtbfkaanmbdekfaaGreatDoor
namespace Go.Proofs.YtbfkaanmbdekfaaGreatDoor
set_option linter.unusedVariables false
open Go.ChangeShapes Go.WideShapes Go.ChangeAt Go.RowKit

theorem endL_nil (f line col : Nat) : endL f [] line col = (line, col) := by cases f <;> rfl
def strLen : Value → Nat
  | .string s => s.size
  | _ => 0
set_option maxHeartbeats 4000000 in
set_option maxRecDepth 20000 in
theorem endR_any (s : ByteArray) (w : World) (hT : Tabs w) (hs : s.size ≤ 1048576) :
    Calls Tryz.prog 19 #[.string s] w fun e w' => e = .returned (.agg #[.int .i64 ((endOf s.data.toList).1 : Int), .int .i64 ((endOf s.data.toList).2 : Int)]) ∧ Below w.heap.size w w' := by
  have HT := Lib.hid hT
  have HEN : Hid (endOf s.data.toList = endL s.size s.data.toList 1 1) := by refine (?_ : _ = _); unfold endOf; rw [len_data]
  obtain ⟨EN, hEN⟩ : ∃ EN, endOf s.data.toList = EN := ⟨_, rfl⟩
  rw [hEN] at HEN ⊢
  clear hEN hT
  go_enter Tryz.func19, Tryz.ntmps19
  go_wp2_with fail
  go_loopw [0] (fun s0 wr => ∃ (t : ByteArray) (f line col : Nat), s0 = .string t ∧ t.size ≤ f ∧ t.size ≤ 1048576 ∧ line + t.size ≤ 1048577 ∧ col + t.size ≤ 1048577 ∧ wr.heap[w.heap.size]? = some (.cells #[.int .i64 0, .int .i64 0] 25 (0, 0)) ∧ wr.heap[w.heap.size + 1]? = some (.cells #[.int .i64 (line : Int), .int .i64 (col : Int)] 25 (0, 0)) ∧ Below w.heap.size w wr ∧ EN = endL f t.data.toList line col) (fun s0 _ => strLen s0)
  case atStart =>
    have e1 : (w.alloc (.cells #[.int .i64 0, .int .i64 0] 25)).heap.size = w.heap.size + 1 := by simp
    refine ⟨s, s.size, 1, 1, rfl, by omega, by omega, by omega, by omega, ?_, ?_, ((Below.refl _ w).alloc (Nat.le_refl _) _).alloc (by simp) _, HEN.out⟩
    · rw [alloc_heap_old _ _ _ (by rw [e1]; omega)]; exact alloc_heap_new _ _
    · rw [← e1]; exact alloc_heap_new _ _
  case round =>
    obtain ⟨t, f, line, col, rfl, hf, ht, hln, hcl, hA, hP, hbel, hen⟩ := hrel
    have HE := Lib.hid hen
    have HTL := Lib.hid (len_data t)
    have hsz := (Array.getElem?_eq_some_iff.1 hP).1
    have HA := Lib.hid hA
    have HP := Lib.hid hP
    have HB := Lib.hid hbel
    clear hen hA hP hbel
    by_cases h0 : t.size = 0
    · have hz : ¬ (0 : Int) < (t.size : Int) := by omega
      obtain rfl : EN = (line, col) := by
        have e : t.data.toList = [] := List.eq_nil_of_length_eq_zero (by rw [HTL.out]; exact h0)
        rw [HE.out, e, endL_nil]
      have p0 : wr.cell? ⟨w.heap.size + 1, 0, none⟩ = some (.int .i64 (line : Int)) := by simp [World.cell?, HP.out]
      have p1 : wr.cell? ⟨w.heap.size + 1, 1, none⟩ = some (.int .i64 (col : Int)) := by simp [World.cell?, HP.out]
      have a0 : wr.cell? ⟨w.heap.size, 0, none⟩ = some (.int .i64 0) := by simp [World.cell?, HA.out]
      have a1 : wr.cell? ⟨w.heap.size, 1, none⟩ = some (.int .i64 0) := by simp [World.cell?, HA.out]
      have b0 : wr.frozen? ⟨w.heap.size, 0, none⟩ = false := by simp [World.frozen?, HA.out]
      have b1 : wr.frozen? ⟨w.heap.size, 1, none⟩ = false := by simp [World.frozen?, HA.out]
      have s1 : (wr.setCell ⟨w.heap.size, 0, none⟩ (.int .i64 (line : Int))).heap[w.heap.size]? = some (.cells #[.int .i64 (line : Int), .int .i64 0] 25 (0, 0)) := setCell_heap HA.out _
      have s2 : ((wr.setCell ⟨w.heap.size, 0, none⟩ (.int .i64 (line : Int))).setCell ⟨w.heap.size, 1, none⟩ (.int .i64 (col : Int))).heap[w.heap.size]? = some (.cells #[.int .i64 (line : Int), .int .i64 (col : Int)] 25 (0, 0)) := setCell_heap s1 _
      have HS2 := Lib.hid s2
      have HB2 := Lib.hid ((HB.out.setCell (p := ⟨w.heap.size, 0, none⟩) (Nat.le_refl _) (.int .i64 (line : Int))).setCell (p := ⟨w.heap.size, 1, none⟩) (Nat.le_refl _) (.int .i64 (col : Int)))
      clear s1 s2
      go_wp2_with fail
      generalize (wr.setCell ⟨w.heap.size, 0, none⟩ (.int .i64 (line : Int))).setCell ⟨w.heap.size, 1, none⟩ (.int .i64 (col : Int)) = Y at *
      have s2 := HS2.out
      have r0 : Y.cell? ⟨w.heap.size, 0, none⟩ = some (.int .i64 (line : Int)) := by simp [World.cell?, s2]
      have r1 : Y.cell? ⟨w.heap.size, 1, none⟩ = some (.int .i64 (col : Int)) := by simp [World.cell?, s2]
      exact bodyPost_ret (v := .agg #[.int .i64 (line : Int), .int .i64 (col : Int)]) (by simp [results, Tryz.results19, go_sem, r0, r1]) rfl ⟨rfl, HB2.out⟩
    · have hz : (0 : Int) < (t.size : Int) := by omega
      have hne : t.data.toList ≠ [] := by intro e; have := HTL.out; rw [e] at this; simp at this; omega
      have hwd := nx_width _ hne
      rw [HTL.out] at hwd
      have hNx := nextR_any t wr (tabs_below HT.out HB.out)
      obtain ⟨f, rfl⟩ : ∃ f', f = f' + 1 := ⟨f - 1, by omega⟩
      have HEX : Hid (∀ n, (t.extract n t.size).data.toList = t.data.toList.drop n) := fun n => by
        rw [Lib.extract_data, List.take_of_length_le (by rw [List.length_drop, HTL.out]; omega)]
      have HZ : Hid (∀ n, (t.extract n t.size).size = t.size - n) := fun n => by rw [← len_data, HEX.out, List.length_drop, HTL.out]
      have HE2 : Hid (EN = if (nx t.data.toList).1 = 10 then endL f (t.data.toList.drop (nx t.data.toList).2) (line + 1) 1 else endL f (t.data.toList.drop (nx t.data.toList).2) line (col + 1)) := by
        refine (?_ : _ = _)
        rw [HE.out, endL, if_neg hne]
      generalize (nx t.data.toList).2 = n at *
      generalize (nx t.data.toList).1 = rr at *
      have w1 : IntKind.i64.wrap ((col : Int) + 1) = (col : Int) + 1 := by rw [IntKind.wrap_i64]; omega
      have w2 : IntKind.i64.wrap ((line : Int) + 1) = (line : Int) + 1 := by rw [IntKind.wrap_i64]; omega
      have hn1 : (n : Int) ≤ (t.size : Int) := by omega
      clear HE hne
      go_wp2_with fail
      refine hNx.mono ?_
      rintro e w3 ⟨rfl, hb3⟩
      have HA3 : Hid (w3.heap[w.heap.size]? = some (.cells #[.int .i64 0, .int .i64 0] 25 (0, 0))) := by refine (?_ : _ = _); rw [hb3.block _ (by omega)]; exact HA.out
      have hP3 : w3.heap[w.heap.size + 1]? = some (.cells #[.int .i64 (line : Int), .int .i64 (col : Int)] 25 (0, 0)) := by rw [hb3.block _ (by omega)]; exact HP.out
      have HB3 := Lib.hid (HB.out.trans (hb3.mono (by have := HB.out.size; omega)))
      have p0 : w3.cell? ⟨w.heap.size + 1, 0, none⟩ = some (.int .i64 (line : Int)) := by simp [World.cell?, hP3]
      have p1 : w3.cell? ⟨w.heap.size + 1, 1, none⟩ = some (.int .i64 (col : Int)) := by simp [World.cell?, hP3]
      have f0 : w3.frozen? ⟨w.heap.size + 1, 0, none⟩ = false := by simp [World.frozen?, hP3]
      have f1 : w3.frozen? ⟨w.heap.size + 1, 1, none⟩ = false := by simp [World.frozen?, hP3]
      have HP3 := Lib.hid hP3
      clear hNx hb3 hP3 HA HP HB
      by_cases h10 : rr = 10
      · subst h10
        rw [if_pos rfl] at HE2
        go_wp2_with fail
        go_roundw
        case rel =>
          refine ⟨t.extract n t.size, f, line + 1, 1, rfl, by rw [HZ.out]; omega, by rw [HZ.out]; omega, by rw [HZ.out]; omega, by rw [HZ.out]; omega, ?_, ?_, ?_, by rw [HEX.out]; exact HE2.out⟩
          · rw [Below.heap_setCell _ _ _ _ (by show w.heap.size ≠ w.heap.size + 1; omega), Below.heap_setCell _ _ _ _ (by show w.heap.size ≠ w.heap.size + 1; omega), Below.heap_setCell _ _ _ _ (by show w.heap.size ≠ w.heap.size + 1; omega)]; exact HA3.out
          · have g1 : (w3.setCell ⟨w.heap.size + 1, 1, none⟩ (.int .i64 ((col : Int) + 1))).heap[w.heap.size + 1]? = some (.cells #[.int .i64 (line : Int), .int .i64 ((col : Int) + 1)] 25 (0, 0)) := setCell_heap HP3.out _
            have g2 : ((w3.setCell ⟨w.heap.size + 1, 1, none⟩ (.int .i64 ((col : Int) + 1))).setCell ⟨w.heap.size + 1, 0, none⟩ (.int .i64 ((line : Int) + 1))).heap[w.heap.size + 1]? = some (.cells #[.int .i64 ((line : Int) + 1), .int .i64 ((col : Int) + 1)] 25 (0, 0)) := setCell_heap g1 _
            exact setCell_heap g2 _
          · exact ((HB3.out.setCell (p := ⟨w.heap.size + 1, 1, none⟩) (by show w.heap.size ≤ w.heap.size + 1; omega) _).setCell (p := ⟨w.heap.size + 1, 0, none⟩) (by show w.heap.size ≤ w.heap.size + 1; omega) _).setCell (p := ⟨w.heap.size + 1, 1, none⟩) (by show w.heap.size ≤ w.heap.size + 1; omega) _
        case measure => show (t.extract n t.size).size < t.size; rw [HZ.out]; omega
      · have h10' : (rr == 10) = false := by simpa using h10
        rw [if_neg h10] at HE2
        go_wp2_with fail
        go_roundw
        case rel =>
          refine ⟨t.extract n t.size, f, line, col + 1, rfl, by rw [HZ.out]; omega, by rw [HZ.out]; omega, by rw [HZ.out]; omega, by rw [HZ.out]; omega, ?_, ?_, ?_, by rw [HEX.out]; exact HE2.out⟩
          · rw [Below.heap_setCell _ _ _ _ (by show w.heap.size ≠ w.heap.size + 1; omega)]; exact HA3.out
          · exact setCell_heap HP3.out _
          · exact HB3.out.setCell (p := ⟨w.heap.size + 1, 1, none⟩) (by show w.heap.size ≤ w.heap.size + 1; omega) _
        case measure => show (t.extract n t.size).size < t.size; rw [HZ.out]; omega
end Go.Proofs.YtbfkaanmbdekfaaGreatDoor
namespace Go.Proofs.YtbfkaanmbdekfaaGreatDoor
set_option linter.unusedVariables false
open Go.ChangeShapes Go.WideShapes Go.ChangeAt Go.RowKit

theorem fans_err (pl pc er : Int) (w' : World) : FAns ([], (pl, pc), er) (.returned (.tuple #[.slice none 0 0, .agg #[.int .i64 pl, .int .i64 pc], .int .i64 er])) w' :=
  ⟨none, 0, pl, pc, rfl, HeldD.nil _ _ _ _ _, fun _ => ⟨rfl, rfl⟩⟩
set_option maxHeartbeats 16000000 in
set_option maxRecDepth 20000 in
theorem fileR_any (s : ByteArray) (w : World) (hT : Tabs w) (hs : s.size ≤ 9223372036854775807) :
    Calls Tryz.prog 7 #[.string s] w fun e w' => FAns (fileL s.data.toList) e w' ∧ Below w.heap.size w w' := by
  have hb0 := (Below.refl w.heap.size w).alloc (Nat.le_refl _) (.cells #[.int .i64 0, .int .i64 0] 25)
  have HB0 := Lib.hid hb0
  have HT0 := Lib.hid (tabs_below hT hb0)
  have HA0 := Lib.hid (alloc_heap_new w (.cells #[.int .i64 0, .int .i64 0] 25))
  have hW := wordsR_any s (w.alloc (.cells #[.int .i64 0, .int .i64 0] 25)) HT0.out hs
  have hzV : (w.alloc (.cells #[.int .i64 0, .int .i64 0] 25)).heap.size = w.heap.size + 1 := by simp
  unfold WAns at hW
  clear hb0 hT
  by_cases h0 : (wordsL s.data.toList).2.2 = 0
  · simp only [if_pos h0] at hW
    have hfl : fileL s.data.toList = fileW (((endOf s.data.toList).1 : Int), ((endOf s.data.toList).2 : Int)) (wordsL s.data.toList).1 := by unfold fileL; rw [if_pos h0]
    have hsh : s.size ≤ 20000 := by have := words_short _ h0; rw [len_data] at this; exact this
    have hEn := fun W hTW => endR_any s W hTW (by omega)
    have HGD := Lib.hid (words_good s.data.toList)
    have HFW := Lib.hid (words_few s.data.toList)
    rw [hfl]
    obtain ⟨en, hen⟩ : ∃ en : Int × Int, (((endOf s.data.toList).1 : Int), ((endOf s.data.toList).2 : Int)) = en := ⟨_, rfl⟩
    rw [hen]
    have e1 : ((endOf s.data.toList).1 : Int) = en.1 := by rw [← hen]
    have e2 : ((endOf s.data.toList).2 : Int) = en.2 := by rw [← hen]
    rw [e1, e2] at hEn
    clear hfl h0 hen e1 e2
    generalize (wordsL s.data.toList).1 = ws at *
    obtain ⟨DL, hDL⟩ : ∃ DL, declsL en (ws.length + 1) ⟨ws, 0, 0, 0⟩ [] = DL := ⟨_, rfl⟩
    have HDL := Lib.hid hDL
    have hfw : fileW en ws = if DL.2.e = 0 then (DL.1, (0, 0), 0) else ([], (DL.2.pl, DL.2.pc), DL.2.e) := by unfold fileW; rw [hDL]
    rw [hfw]
    obtain ⟨ANS, hANS⟩ : ∃ A : List Dc × (Int × Int) × Int, (if DL.2.e = 0 then (DL.1, (0, 0), 0) else ([], (DL.2.pl, DL.2.pc), DL.2.e)) = A := ⟨_, rfl⟩
    have HAN := Lib.hid hANS
    rw [hANS]
    clear hfw hDL hANS
    go_enter Tryz.func7, Tryz.ntmps7
    go_wp2_with fail
    generalize w.alloc (.cells #[.int .i64 0, .int .i64 0] 25) = V0 at *
    refine hW.mono ?_
    rintro e w1 ⟨⟨v, rfl, hown⟩, hb1⟩
    obtain ⟨ad, c, rfl, hlc, hwa⟩ := own_words hown
    have HWA := Lib.hid hwa
    have HT1 : Hid (∀ o, Tabs (w1.alloc o)) := fun o => tabs_below (tabs_below HT0.out hb1) ((Below.refl _ w1).alloc (Nat.le_refl _) o)
    have HB1 := Lib.hid (HB0.out.trans (hb1.mono (by omega)))
    have HA1 : Hid (w1.heap[w.heap.size]? = some (.cells #[.int .i64 0, .int .i64 0] 25 (0, 0))) := by refine (?_ : _ = _); rw [hb1.block _ (by omega)]; exact HA0.out
    have hz1 := hb1.size
    clear hW hown hwa hb1 HT0 HB0 HA0
    go_wp2_with fail
    refine (hEn _ (HT1.out _)).mono ?_
    rintro e w2 ⟨rfl, hb2⟩
    have hzA : (w1.alloc (.cells #[.int .i64 0, .int .i64 0] 25)).heap.size = w1.heap.size + 1 := by simp
    have HB2 := Lib.hid ((HB1.out.alloc HB1.out.size (.cells #[.int .i64 0, .int .i64 0] 25)).trans (hb2.mono (by have := HB1.out.size; omega)))
    have hz2 := hb2.size
    have HA2 : Hid (w2.heap[w.heap.size]? = some (.cells #[.int .i64 0, .int .i64 0] 25 (0, 0))) := by refine (?_ : _ = _); rw [hb2.block _ (by omega), alloc_heap_old _ _ _ (by omega)]; exact HA1.out
    have HW2 : Hid (WordsAt w2 w2.heap.size ad ws) := by
      refine (?_ : WordsAt w2 w2.heap.size ad ws)
      rcases HWA.out w1.heap.size (Nat.le_refl _) with hh | ⟨g, o, rfl, hg, hh⟩
      · exact .inl hh
      · refine .inr ⟨g, o, rfl, by omega, fun j x hj => ?_⟩
        have eb : w2.heap[g]? = w1.heap[g]? := by rw [hb2.block g (by omega), alloc_heap_old _ _ _ hg]
        obtain ⟨x1, x2, x3, x4⟩ := hh j x hj
        exact ⟨by rw [World.cell?_of_block eb]; exact x1, by rw [World.cell?_of_block eb]; exact x2, by rw [World.cell?_of_block eb]; exact x3, by rw [World.cell?_of_block eb]; exact x4⟩
    clear hb2 HWA HB1 HA1 hEn HT1
    go_wp2_with fail
    have HRD : Hid (RdAt (w2.alloc (.cells #[.slice ad ws.length c, .int .i64 en.1, .int .i64 en.2, .int .i64 0, .int .i64 0, .int .i64 0] 60)) w2.heap.size en ⟨ws, 0, 0, 0⟩) :=
      ⟨⟨ad, c, alloc_heap_new _ _, hlc, HW2.out.old fun k hk => alloc_heap_old _ _ _ hk⟩, HGD.out, HFW.out⟩
    have HLF : Hid (Lf w (w2.alloc (.cells #[.slice ad ws.length c, .int .i64 en.1, .int .i64 en.2, .int .i64 0, .int .i64 0, .int .i64 0] 60)) w.heap.size w2.heap.size en ⟨ws, 0, 0, 0⟩ (.slice none 0 0) [] []) :=
      ⟨HRD.out, HB2.out.alloc HB2.out.size _, by rw [alloc_heap_old _ _ _ (by omega)]; exact HA2.out, Ds.nil _ _ _ _, Nat.le_refl _, by omega⟩
    have hfew := HFW.out
    clear HRD HW2 HB2 HA2 HGD HFW
    generalize w2.heap.size = R at *
    go_loopw [9] (fun v wr => ∃ (f : Nat) (q : Rd) (ds : List Dc) (rs : List (List Value)), Lf w wr w.heap.size R en q v ds rs ∧ q.m ≤ f ∧ ds.length + q.m ≤ 4001 ∧ DL = declsL en f q ds) (fun _ wr => rdM wr R)
    case atStart => exact ⟨ws.length + 1, ⟨ws, 0, 0, 0⟩, [], [], HLF.out, Rd.m_le _, by have := Rd.m_le ⟨ws, 0, 0, 0⟩; show 0 + _ ≤ _; have e : (Rd.mk ws 0 0 0).l.length = ws.length := rfl; omega, HDL.out.symm⟩
    case round =>
      obtain ⟨f, q, ds, rs, hLf, hmf, hacc, hdl⟩ := hrel
      obtain ⟨va, vc, rfl⟩ := own_slice hLf.decls.own
      have HDQ := Lib.hid hdl
      have HLf := Lib.hid hLf
      obtain ⟨qa, qc, hql, hqw, _, c0, c1, c2, c3, c4, c5, hqf⟩ := hLf.rd.get
      have HM0 := Lib.hid hLf.rd.m
      have hAR := hLf.lt
      have hRl := hLf.rd.lt
      clear hdl hLf
      by_cases hgo : q.e = 0 ∧ q.l ≠ []
      · obtain ⟨he, hne⟩ := hgo
        rw [he] at c5
        have hm1 : 1 ≤ q.m := by unfold Rd.m; rw [if_pos he]; omega
        obtain ⟨f, rfl⟩ : ∃ f', f = f' + 1 := ⟨f - 1, by omega⟩
        have hDG := declsL_go en f q ds ⟨he, hne⟩
        rw [← HDQ.out] at hDG
        have hql0 : 0 < q.l.length := List.length_pos_iff.2 hne
        have hz : (0 : Int) < (q.l.length : Int) := by omega
        have HVO : Hid (∀ b, (Value.slice va ds.length vc).ownBlock = some b → b < wr.heap.size) := fun b hb => (own_block HLf.out.decls.own b hb).2
        have hIm := isR_any R en q ⟨#[109, 101, 115, 115, 97, 103, 101]⟩ wr HLf.out.rd
        have eM : (ByteArray.mk #[109, 101, 115, 115, 97, 103, 101]).data.toList = tMessage := rfl
        rw [eM] at hIm
        have hIe := isR_any R en q ⟨#[101, 110, 117, 109]⟩ wr HLf.out.rd
        have eE : (ByteArray.mk #[101, 110, 117, 109]).data.toList = tEnum := rfl
        rw [eE] at hIe
        have hIv := isR_any R en q ⟨#[115, 101, 114, 118, 105, 99, 101]⟩ wr HLf.out.rd
        have eS : (ByteArray.mk #[115, 101, 114, 118, 105, 99, 101]).data.toList = tService := rfl
        rw [eS] at hIv
        clear HDQ he hne eM eE eS hqw hqf c1 c2 c3 c4
        by_cases hM : q.is tMessage = true
        · rw [if_pos hM] at hDG
          rw [hM] at hIm
          have hRec := fun W hW => messageRd_any en 8 1 rfl R q W hW
          have hmch : (q.message en 1).2.m ≤ q.m - 1 := messageL_m en 8 1 q
          have hE1 : messageL en (8 + 1) 1 q = q.message en 1 := rfl
          rw [hE1] at hRec
          obtain ⟨CH, hCH⟩ : ∃ CH, q.message en 1 = CH := ⟨_, rfl⟩
          rw [hCH] at hRec hDG hmch
          have HDG := Lib.hid hDG
          clear hDG hCH hM hIe hIv hE1
          go_wp2_with fail
          refine hIm.mono ?_
          rintro e w4 ⟨rfl, h4⟩
          have h4 := h4.symm
          subst h4
          clear hIm
          clear c0 c5
          go_wp2_with fail
          refine (hRec wr HLf.out.rd).mono ?_
          rintro e W5 ⟨kfa, kfc, kia, kic, rfl, hr5, hg5, hk1, hkid⟩
          have HL5 := Lib.hid (HLf.out.step hr5 hg5)
          have HKD : Hid (Kids 9 W5 (AwayF R W5 (.slice va ds.length vc)) _ _ _ _ CH.1) := hkid.more fun b hb => by
            have hb1 := hb.1
            exact ⟨by omega, hb.2, fun e => by have := HVO.out b e; omega⟩
          clear hRec hkid hr5 hg5 hk1
          unfold dval
          go_wp2_with (at_builtin; refine HL5.out.push CH.1 _ _ _ _ HKD.out (by intro u hu; simp only [drow, List.mem_cons, List.not_mem_nil, or_false] at hu; rcases hu with rfl | rfl | rfl | rfl | rfl | rfl | rfl | rfl <;> rfl) rfl _ _ rfl _ rfl rfl rfl (by omega) ?_)
          intro g cap W6 hLf6
          have HL6 := Lib.hid hLf6
          clear hLf6
          go_wp2_with fail
          go_roundw
          case rel => exact ⟨f, CH.2, ds ++ [CH.1], _, HL6.out, by omega, by simp; omega, HDG.out⟩
          case measure =>
            have e1 := HL6.out.rd.m
            have e2 := HM0.out
            exact Nat.lt_of_le_of_lt (Nat.le_of_eq e1) (by rw [e2]; omega)
        · have hM' : q.is tMessage = false := by simpa using hM
          rw [if_neg hM] at hDG
          rw [hM'] at hIm
          by_cases hX : q.is tEnum = true
          · rw [if_pos hX] at hDG
            rw [hX] at hIe
            have hRec := fun W hW => enumRd_kids R en q W hW 9
            have hmch := Rd.m_enum en q
            obtain ⟨CH, hCH⟩ : ∃ CH, q.enum en = CH := ⟨_, rfl⟩
            rw [hCH] at hRec hDG hmch
            have HDG := Lib.hid hDG
            clear hDG hCH hM hM' hX hIv
            go_wp2_with fail
            refine hIm.mono ?_
            rintro e w4 ⟨rfl, h4⟩
            have h4 := h4.symm
            subst h4
            clear hIm
            go_wp2_with fail
            refine hIe.mono ?_
            rintro e w4 ⟨rfl, h4⟩
            have h4 := h4.symm
            subst h4
            clear hIe
            clear c0 c5
            go_wp2_with fail
            refine (hRec wr HLf.out.rd).mono ?_
            rintro e W5 ⟨kva, kvc, kma, kmc, rfl, hr5, hg5, hkid⟩
            have HL5 := Lib.hid (HLf.out.step hr5 hg5)
            have HKD : Hid (Kids 9 W5 (AwayF R W5 (.slice va ds.length vc)) _ _ _ _ CH.1) := hkid.more fun b hb => by
              have hb1 := hb.1
              exact ⟨by omega, hb.2, fun e => by have := HVO.out b e; omega⟩
            clear hRec hkid hr5 hg5
            unfold dval
            go_wp2_with (at_builtin; refine HL5.out.push CH.1 _ _ _ _ HKD.out (by intro u hu; simp only [drow, List.mem_cons, List.not_mem_nil, or_false] at hu; rcases hu with rfl | rfl | rfl | rfl | rfl | rfl | rfl | rfl <;> rfl) rfl _ _ rfl _ rfl rfl rfl (by omega) ?_)
            intro g cap W6 hLf6
            have HL6 := Lib.hid hLf6
            clear hLf6
            go_wp2_with fail
            go_roundw
            case rel => exact ⟨f, CH.2, ds ++ [CH.1], _, HL6.out, by omega, by simp; omega, HDG.out⟩
            case measure =>
              have e1 := HL6.out.rd.m
              have e2 := HM0.out
              exact Nat.lt_of_le_of_lt (Nat.le_of_eq e1) (by rw [e2]; omega)
          · have hX' : q.is tEnum = false := by simpa using hX
            rw [if_neg hX] at hDG
            rw [hX'] at hIe
            by_cases hY : q.is tService = true
            · rw [if_pos hY] at hDG
              rw [hY] at hIv
              have hRec := fun W hW => serviceRd_kids R en q W hW 9
              have hmch := Rd.m_service en q
              obtain ⟨CH, hCH⟩ : ∃ CH, q.service en = CH := ⟨_, rfl⟩
              rw [hCH] at hRec hDG hmch
              have HDG := Lib.hid hDG
              clear hDG hCH hM hM' hX hX' hY
              go_wp2_with fail
              refine hIm.mono ?_
              rintro e w4 ⟨rfl, h4⟩
              have h4 := h4.symm
              subst h4
              clear hIm
              go_wp2_with fail
              refine hIe.mono ?_
              rintro e w4 ⟨rfl, h4⟩
              have h4 := h4.symm
              subst h4
              clear hIe
              go_wp2_with fail
              refine hIv.mono ?_
              rintro e w4 ⟨rfl, h4⟩
              have h4 := h4.symm
              subst h4
              clear hIv
              clear c0 c5
              go_wp2_with fail
              refine (hRec wr HLf.out.rd).mono ?_
              rintro e W5 ⟨kva, kvc, kma, kmc, rfl, hr5, hg5, hkid⟩
              have HL5 := Lib.hid (HLf.out.step hr5 hg5)
              have HKD : Hid (Kids 9 W5 (AwayF R W5 (.slice va ds.length vc)) _ _ _ _ CH.1) := hkid.more fun b hb => by
                have hb1 := hb.1
                exact ⟨by omega, hb.2, fun e => by have := HVO.out b e; omega⟩
              clear hRec hkid hr5 hg5
              unfold dval
              go_wp2_with (at_builtin; refine HL5.out.push CH.1 _ _ _ _ HKD.out (by intro u hu; simp only [drow, List.mem_cons, List.not_mem_nil, or_false] at hu; rcases hu with rfl | rfl | rfl | rfl | rfl | rfl | rfl | rfl <;> rfl) rfl _ _ rfl _ rfl rfl rfl (by omega) ?_)
              intro g cap W6 hLf6
              have HL6 := Lib.hid hLf6
              clear hLf6
              go_wp2_with fail
              go_roundw
              case rel => exact ⟨f, CH.2, ds ++ [CH.1], _, HL6.out, by omega, by simp; omega, HDG.out⟩
              case measure =>
                have e1 := HL6.out.rd.m
                have e2 := HM0.out
                exact Nat.lt_of_le_of_lt (Nat.le_of_eq e1) (by rw [e2]; omega)
            · have hY' : q.is tService = false := by simpa using hY
              rw [if_neg hY] at hDG
              rw [hY'] at hIv
              have HDG := Lib.hid hDG
              have hHe := hereR_any R en q wr HLf.out.rd
              have hFa := fun W hW => failR_any R en q 7 (q.here en).1 (q.here en).2 W hW
              have hmf0 := Rd.m_fail q 7 (q.here en) (by decide)
              rw [show ((q.here en).1, (q.here en).2) = q.here en from rfl] at hFa
              clear hDG hM hM' hX hX' hY hY'
              go_wp2_with fail
              refine hIm.mono ?_
              rintro e w4 ⟨rfl, h4⟩
              have h4 := h4.symm
              subst h4
              clear hIm
              go_wp2_with fail
              refine hIe.mono ?_
              rintro e w4 ⟨rfl, h4⟩
              have h4 := h4.symm
              subst h4
              clear hIe
              go_wp2_with fail
              refine hIv.mono ?_
              rintro e w4 ⟨rfl, h4⟩
              have h4 := h4.symm
              subst h4
              clear hIv
              clear c0 c5
              go_wp2_with fail
              refine hHe.mono ?_
              rintro e W5 ⟨rfl, hb5⟩
              have HL5 := Lib.hid (HLf.out.below hb5)
              clear hHe hb5
              go_wp2_with fail
              refine (hFa W5 HL5.out.rd).mono ?_
              rintro e W6 ⟨rfl, hr6, hg6⟩
              have HL6 := Lib.hid (HL5.out.step hr6 hg6)
              clear hFa hr6 hg6
              go_wp2_with fail
              go_roundw
              case rel => exact ⟨f, q.fail 7 (q.here en), ds, _, HL6.out, by omega, by omega, HDG.out⟩
              case measure =>
                have e1 := HL6.out.rd.m
                have e2 := HM0.out
                exact Nat.lt_of_le_of_lt (Nat.le_of_eq e1) (by rw [e2]; omega)
      · obtain rfl : DL = (ds, q) := by rw [HDQ.out, declsL_stop en f q ds hgo]
        have hA := HLf.out.ans
        have a0 : wr.cell? ⟨w.heap.size, 0, none⟩ = some (.int .i64 0) := by simp [World.cell?, hA]
        have a1 : wr.cell? ⟨w.heap.size, 1, none⟩ = some (.int .i64 0) := by simp [World.cell?, hA]
        have b0 : wr.frozen? ⟨w.heap.size, 0, none⟩ = false := by simp [World.frozen?, hA]
        have b1 : wr.frozen? ⟨w.heap.size, 1, none⟩ = false := by simp [World.frozen?, hA]
        have HST : Hid (∀ x y, ∃ Y, (wr.setCell ⟨w.heap.size, 0, none⟩ x).setCell ⟨w.heap.size, 1, none⟩ y = Y ∧ Y.cell? ⟨w.heap.size, 0, none⟩ = some x ∧ Y.cell? ⟨w.heap.size, 1, none⟩ = some y ∧ Below w.heap.size w Y ∧ (∀ b, b ≠ w.heap.size → Y.heap[b]? = wr.heap[b]?)) := fun x y => by
          have g1 : (wr.setCell ⟨w.heap.size, 0, none⟩ x).heap[w.heap.size]? = some (.cells #[x, .int .i64 0] 25 (0, 0)) := setCell_heap hA _
          have g2 : ((wr.setCell ⟨w.heap.size, 0, none⟩ x).setCell ⟨w.heap.size, 1, none⟩ y).heap[w.heap.size]? = some (.cells #[x, y] 25 (0, 0)) := setCell_heap g1 _
          have g3 := (HLf.out.bel.setCell (p := ⟨w.heap.size, 0, none⟩) (Nat.le_refl _) x).setCell (p := ⟨w.heap.size, 1, none⟩) (Nat.le_refl _) y
          have g4 : ∀ b, b ≠ w.heap.size → ((wr.setCell ⟨w.heap.size, 0, none⟩ x).setCell ⟨w.heap.size, 1, none⟩ y).heap[b]? = wr.heap[b]? := fun b hb => by rw [Below.heap_setCell _ _ _ _ hb, Below.heap_setCell _ _ _ _ hb]
          generalize (wr.setCell ⟨w.heap.size, 0, none⟩ x).setCell ⟨w.heap.size, 1, none⟩ y = Y at *
          exact ⟨Y, rfl, by simp [World.cell?, g2], by simp [World.cell?, g2], g3, g4⟩
        clear hA HDQ
        by_cases he : q.e = 0
        · have hl0 : q.l = [] := Decidable.byContradiction fun h => hgo ⟨he, h⟩
          obtain rfl : ANS = (ds, (0, 0), 0) := by rw [← HAN.out, if_pos he]
          rw [hl0] at c0
          rw [he] at c5
          have c0' : wr.cell? ⟨R, 0, none⟩ = some (.slice qa 0 qc) := c0
          obtain ⟨Y, hY, r0, r1, hBY, hoY⟩ := HST.out (.int .i64 0) (.int .i64 0)
          have HY := Lib.hid hY
          have HHD : Hid (HeldD 10 Y (fun b => b < Y.heap.size) (.slice va ds.length vc) ds) := by
            refine (?_ : HeldD 10 Y _ _ _)
            have hsY : Y.heap.size = wr.heap.size := by rw [← hY]; simp
            have hd := HLf.out.decls.keep (w' := Y) (S' := AwayF R wr (.slice va ds.length vc)) (fun b hb => hoY b (by have := (own_block HLf.out.decls.own b hb).1; omega)) (fun b hb => hoY b (by have := hb.1; omega)) (fun b hb => hb)
            refine hd.held (fun b hb => by rw [hsY]; exact hb.2.1) fun b hb => ?_
            rw [hsY]; exact (own_block HLf.out.decls.own b hb).2
          clear hgo hl0 c0 hqw hqf hY hoY c1 c2 c3 c4 he
          go_wp2_with fail
          rw [HY.out]
          exact bodyPost_ret (v := .tuple #[.slice va ds.length vc, .agg #[.int .i64 0, .int .i64 0], .int .i64 0]) (by simp [results, Tryz.results7, go_sem, r0, r1]) rfl ⟨⟨va, vc, 0, 0, rfl, HHD.out, fun h => absurd rfl h⟩, hBY⟩
        · obtain rfl : ANS = ([], (q.pl, q.pc), q.e) := by rw [← HAN.out, if_neg he]
          have he' : (q.e == 0) = false := by simpa using he
          have he'' : (q.e != 0) = true := by simpa using he
          obtain ⟨Y, hY, r0, r1, hBY, hoY⟩ := HST.out (.int .i64 q.pl) (.int .i64 q.pc)
          have HY := Lib.hid hY
          clear hgo c0 hqw hqf hY hoY c1 c2 he HST
          go_wp2_with fail
          go_region
          all_goals
            go_wp2_with fail
            rw [HY.out]
            exact bodyPost_ret (v := .tuple #[.slice none 0 0, .agg #[.int .i64 q.pl, .int .i64 q.pc], .int .i64 q.e]) (by
              have r0' : Y.drew.cell? ⟨w.heap.size, 0, none⟩ = some (.int .i64 q.pl) := r0
              have r1' : Y.drew.cell? ⟨w.heap.size, 1, none⟩ = some (.int .i64 q.pc) := r1
              simp [results, Tryz.results7, go_sem, r0, r1]) rfl ⟨fans_err _ _ _ _, hBY.drew⟩
  · simp only [if_neg h0] at hW
    have hfl : fileL s.data.toList = ([], (((wordsL s.data.toList).2.1.1 : Int), ((wordsL s.data.toList).2.1.2 : Int)), (wordsL s.data.toList).2.2) := by unfold fileL; rw [if_neg h0]
    rw [hfl]
    have h0' : ((wordsL s.data.toList).2.2 != 0) = true := by simpa using h0
    clear hfl h0 HT0
    generalize (wordsL s.data.toList).2.1.1 = PL at *
    generalize (wordsL s.data.toList).2.1.2 = PC at *
    generalize (wordsL s.data.toList).2.2 = ER at *
    go_enter Tryz.func7, Tryz.ntmps7
    go_wp2_with fail
    generalize w.alloc (.cells #[.int .i64 0, .int .i64 0] 25) = V0 at *
    refine hW.mono ?_
    rintro e w1 ⟨rfl, hb1⟩
    have HB1 := Lib.hid (HB0.out.trans (hb1.mono (by omega)))
    have hz1 := hb1.size
    have hA1 : ∀ o, (w1.alloc o).heap[w.heap.size]? = some (.cells #[.int .i64 0, .int .i64 0] 25 (0, 0)) := fun o => by rw [alloc_heap_old _ _ _ (by omega), hb1.block _ (by omega)]; exact HA0.out
    have a0 : ∀ o, (w1.alloc o).cell? ⟨w.heap.size, 0, none⟩ = some (.int .i64 0) := fun o => by have := hA1 o; simp [World.cell?, this]
    have a1 : ∀ o, (w1.alloc o).cell? ⟨w.heap.size, 1, none⟩ = some (.int .i64 0) := fun o => by have := hA1 o; simp [World.cell?, this]
    have b0 : ∀ o, (w1.alloc o).frozen? ⟨w.heap.size, 0, none⟩ = false := fun o => by have := hA1 o; simp [World.frozen?, this]
    have b1 : ∀ o, (w1.alloc o).frozen? ⟨w.heap.size, 1, none⟩ = false := fun o => by have := hA1 o; simp [World.frozen?, this]
    have HA1 := Lib.hid hA1
    clear hW hb1 hA1
    go_wp2_with fail
    have q0 : (w1.alloc (.cells #[.int .i64 (PL : Int), .int .i64 (PC : Int)] 25)).cell? ⟨w1.heap.size, 0, none⟩ = some (.int .i64 (PL : Int)) := by simp
    have q1 : (w1.alloc (.cells #[.int .i64 (PL : Int), .int .i64 (PC : Int)] 25)).cell? ⟨w1.heap.size, 1, none⟩ = some (.int .i64 (PC : Int)) := by simp
    have x0 := a0 (.cells #[.int .i64 (PL : Int), .int .i64 (PC : Int)] 25)
    have x1 := a1 (.cells #[.int .i64 (PL : Int), .int .i64 (PC : Int)] 25)
    have y0 := b0 (.cells #[.int .i64 (PL : Int), .int .i64 (PC : Int)] 25)
    have y1 := b1 (.cells #[.int .i64 (PL : Int), .int .i64 (PC : Int)] 25)
    have HAV := Lib.hid (HA1.out (.cells #[.int .i64 (PL : Int), .int .i64 (PC : Int)] 25))
    have HBV := Lib.hid (HB1.out.alloc HB1.out.size (.cells #[.int .i64 (PL : Int), .int .i64 (PC : Int)] 25))
    clear a0 a1 b0 b1 HA1
    generalize w1.alloc (.cells #[.int .i64 (PL : Int), .int .i64 (PC : Int)] 25) = V at *
    go_region
    all_goals
      go_wp2_with fail
      have g1 : (V.setCell ⟨w.heap.size, 0, none⟩ (.int .i64 (PL : Int))).heap[w.heap.size]? = some (.cells #[.int .i64 (PL : Int), .int .i64 0] 25 (0, 0)) := setCell_heap HAV.out _
      have g2 : ((V.setCell ⟨w.heap.size, 0, none⟩ (.int .i64 (PL : Int))).setCell ⟨w.heap.size, 1, none⟩ (.int .i64 (PC : Int))).heap[w.heap.size]? = some (.cells #[.int .i64 (PL : Int), .int .i64 (PC : Int)] 25 (0, 0)) := setCell_heap g1 _
      have g3 := (HBV.out.setCell (p := ⟨w.heap.size, 0, none⟩) (Nat.le_refl _) (.int .i64 (PL : Int))).setCell (p := ⟨w.heap.size, 1, none⟩) (Nat.le_refl _) (.int .i64 (PC : Int))
      generalize (V.setCell ⟨w.heap.size, 0, none⟩ (.int .i64 (PL : Int))).setCell ⟨w.heap.size, 1, none⟩ (.int .i64 (PC : Int)) = Y at *
      have r0 : Y.cell? ⟨w.heap.size, 0, none⟩ = some (.int .i64 (PL : Int)) := by simp [World.cell?, g2]
      have r1 : Y.cell? ⟨w.heap.size, 1, none⟩ = some (.int .i64 (PC : Int)) := by simp [World.cell?, g2]
      exact bodyPost_ret (v := .tuple #[.slice none 0 0, .agg #[.int .i64 (PL : Int), .int .i64 (PC : Int)], .int .i64 ER]) (by simp [results, Tryz.results7, go_sem, r0, r1]) rfl ⟨fans_err _ _ _ _, g3.drew⟩
end Go.Proofs.YtbfkaanmbdekfaaGreatDoor
namespace Go.Proofs.YtbfkaanmbdekfaaGreatDoor
set_option linter.unusedVariables false
open Go.ChangeShapes Go.WideShapes Go.ChangeAt Go.RowKit

/-- since ws only the declaration at D has changed; its slice has been made since -/
structure Lp (ws wx : World) (D : Nat) (DT : TypeId) (cs : Array Value) (E : TypeId) (k : Nat) (v : Value) (n : Nat) (xs : List Value) : Prop where
  gr : ws.grownBy wx (some D)
  loc : wx.heap[D]? = some (.cells cs DT (0, 0))
  own : wx.ownsRow ws.heap.size E k v n xs
  lt : D < ws.heap.size
section
variable {ws wx : World} {D : Nat} {DT : TypeId} {cs : Array Value} {E : TypeId} {k : Nat} {v : Value} {n : Nat} {xs : List Value}
theorem Lp.size (h : Lp ws wx D DT cs E k v n xs) : ws.heap.size ≤ wx.heap.size := h.gr.size
theorem Lp.start (ws : World) {D : Nat} {DT : TypeId} {cs : Array Value} (h : ws.heap[D]? = some (.cells cs DT (0, 0))) (E : TypeId) (k : Nat) : Lp ws ws D DT cs E k (.slice none 0 0) 0 [] :=
  ⟨World.grownBy.refl _ _, h, World.ownsRow_nil _ _ _ _, (Array.getElem?_eq_some_iff.1 h).1⟩
theorem Lp.alloc (h : Lp ws wx D DT cs E k v n xs) (o : Obj) : Lp ws (wx.alloc o) D DT cs E k v n xs := by
  have hl := h.lt
  have hs := h.size
  exact ⟨h.gr.trans (World.grownBy_alloc _ _ _), by rw [alloc_heap_old _ _ _ (by omega)]; exact h.loc, World.ownsRow.alloc h.own o, hl⟩
theorem Lp.drew (h : Lp ws wx D DT cs E k v n xs) : Lp ws wx.drew D DT cs E k v n xs := ⟨h.gr.trans (grownBy_drew _ _), h.loc, h.own, h.lt⟩
theorem Lp.keep (h : Lp ws wx D DT cs E k v n xs) {b : Nat} (hb : b < ws.heap.size) (hne : b ≠ D) : wx.heap[b]? = ws.heap[b]? := h.gr.block b hb (by intro e; cases e; exact hne rfl)
/-- one more, at a step of a region that draws its order; it is then stored at the declaration's cell j -/
theorem Lp.push (h : Lp ws wx D DT cs E k v n xs) (j : Nat) {ops : Array Oper} {o : Oper} {a : Act} {K : Act → World → Prop} {Q : Exit → Act → World → Prop} {EE : Prop} (hgd : o.guard = none) (s' x' : Operand) (t : TypeId)
    (ho : o.op = .call { callee := .builtin .append, args := #[s', x'], argTypes := #[t, t] }) (ht : Tryz.prog.underlying t = some (.slice E)) (z : Value) (bytes : Nat)
    (hi : (Tryz.prog.info? E).map (fun i => (i.zero, i.size, i.bytes)) = some (some z, k, bytes)) (hzs : z.cells.size = k) (hk0 : 0 < k) (row : List Value) (hrow : row.length = k) (hone : ∀ u ∈ row, u.oneCell' = true)
    (crow : Array Value) (hcs : crow = row.toArray) (hs : a.eval s' = v) (hx : a.eval x' = .slice (some ⟨wx.heap.size, 0, none⟩) 1 1) (hbd : n ≤ 100000) (hby : bytes ≤ 1000)
    (hk : ∀ g cap W, W.heap[D]? = some (.cells cs DT (0, 0)) → Lp ws (W.setCell ⟨D, j, none⟩ (.slice (some ⟨g, 0, none⟩) (n + 1) cap)) D DT (cs.setIfInBounds j (.slice (some ⟨g, 0, none⟩) (n + 1) cap)) E k (.slice (some ⟨g, 0, none⟩) (n + 1) cap) (n + 1) (xs ++ row) → K (a.put o.dst (.slice (some ⟨g, 0, none⟩) (n + 1) cap)) W) :
    if Region.wanted o (yielded ops a.tmps) = true then Oper.wp Tryz.prog o a (wx.alloc (.cells crow E)) K Q else EE := by
  subst hcs
  have hl := h.lt
  have hss := h.size
  have ha := h.alloc (.cells row.toArray E)
  obtain ⟨i0, hi0, hz0, hz1, hz2⟩ := info_parts hi
  have hmul : (n + 1) * bytes ≤ 100001 * 1000 := Nat.mul_le_mul (by omega) hby
  refine step_append_lies _ hgd s' x' t ho ws.heap.size E i0 z k bytes ht hi0 hz0 hz1 hz2 hzs hk0 v n xs hs ha.own ⟨wx.heap.size, 0, none⟩ 1 1 row hx (by rw [hrow]; omega) ?_ hone (by decide) (by unfold maxLen; omega) (by omega) (by simp; omega) _ rfl ?_
  · exact World.news_of_block (cs := row.toArray) (t := E) (fr := (0, 0)) (by show (wx.heap.push _)[wx.heap.size]? = _; simp)
  · intro g cap W hown hg hat hlt
    have hno : v.ownBlock ≠ some D := fun e => by have := (own_block h.own D e).1; omega
    have hD : W.heap[D]? = some (.cells cs DT (0, 0)) := by
      rw [hg.block D (by simp; omega) (fun e => hno e.symm)]; exact ha.loc
    have hgb : ws.heap.size ≤ g := by
      rcases hat with e | e
      · exact (own_block h.own g e).1
      · simp at e; omega
    refine hk g cap W hD ⟨?_, setCell_heap hD _, ?_, hl⟩
    · refine grow_then (grow_then ha.gr hg fun b hb => ?_) (grownBy_set _ _ _ _) (fun b hb => .inr hb)
      left; exact (own_block h.own b hb).1
    · refine own_keep (w := W) hown fun b hb => Below.heap_setCell _ _ _ _ ?_
      have e : g = b := by simpa [Value.ownBlock] using hb
      show b ≠ D
      omega
end
/-- one declaration more, in a plain list of operations -/
theorem Ds.pushL {f : Nat} {wx : World} {base : Nat} {S : Nat → Prop} {v : Value} {ds : List Dc} {rs : List (List Value)} (h : Ds f wx base S v ds rs) (hb0 : base ≤ wx.heap.size) (x : Dc) (kf kv km ki : Value) (T : Nat → Prop) (hkid : Kids f wx T kf kv km ki x) (hone : ∀ u ∈ drow x kf kv km ki, u.oneCell' = true)
    (hS : ∀ b, S b ∨ T b → b < wx.heap.size ∧ v.ownBlock ≠ some b) {ops : Array Oper} {rest : List Oper} {o : Oper} {a : Act} {Q : Exit → Act → World → Prop} (hgd : o.guard = none) (s' x' : Operand)
    (ho : o.op = .call { callee := .builtin .append, args := #[s', x'], argTypes := #[29, 29] })
    (crow : Array Value) (hcs : crow = (drow x kf kv km ki).toArray) (hs : a.eval s' = v) (hx : a.eval x' = .slice (some ⟨wx.heap.size, 0, none⟩) 1 1) (hbd : ds.length ≤ 100000)
    (hk : ∀ g cap W, Ds f W base (fun b => S b ∨ T b) (.slice (some ⟨g, 0, none⟩) (ds.length + 1) cap) (ds ++ [x]) (rs ++ [drow x kf kv km ki]) → wx.grownBy W v.ownBlock → (∀ b, S b ∨ T b → b ≠ g) → base ≤ g → wpList Tryz.prog ops Q rest (a.put o.dst (.slice (some ⟨g, 0, none⟩) (ds.length + 1) cap)) W) :
    wpList Tryz.prog ops Q (o :: rest) a (wx.alloc (.cells crow 65)) := by
  subst hcs
  obtain ⟨i0, hi0, hz0, hz1, hz2⟩ := info_parts infoDc
  refine wpList_append_lies _ hgd s' x' 29 ho base 65 i0 _ 8 136 Tryz.underlying29 hi0 hz0 hz1 hz2 rfl (by decide) v ds.length (rs.flatMap id) hs (World.ownsRow.alloc h.own _) ⟨wx.heap.size, 0, none⟩ 1 1 (drow x kf kv km ki) hx rfl ?_ hone (by decide) (by unfold maxLen; omega) (by omega) (by simp; omega) _ rfl ?_
  · exact World.news_of_block (cs := (drow x kf kv km ki).toArray) (t := 65) (fr := (0, 0)) (by show (wx.heap.push _)[wx.heap.size]? = _; simp)
  · intro g cap W hown hg hat hlt
    have hsa : (wx.alloc (.cells (drow x kf kv km ki).toArray 65)).heap.size = wx.heap.size + 1 := by simp
    have hkW : ∀ b, b < wx.heap.size → v.ownBlock ≠ some b → W.heap[b]? = wx.heap[b]? := fun b hb hne => by
      rw [hg.block b (by rw [hsa]; omega) (fun e => hne e.symm), alloc_heap_old _ _ _ hb]
    have hng : ∀ b, S b ∨ T b → b ≠ g := fun b hb e => by
      subst e
      obtain ⟨h1, h2⟩ := hS b hb
      rcases hat with e | e
      · exact h2 e
      · rw [hsa] at e; omega
    have hgb : base ≤ g := by
      rcases hat with e | e
      · exact (own_block h.own g e).1
      · rw [hsa] at e; omega
    refine hk g cap W ⟨?_, ?_, ?_⟩ ((World.grownBy_alloc _ _ _).trans hg) hng hgb
    · rw [List.length_append, List.flatMap_append]
      simpa using hown
    · rw [List.length_append, List.length_append, h.len]; rfl
    · intro j d hj
      by_cases hjl : j < ds.length
      · rw [List.getElem?_append_left hjl] at hj
        obtain ⟨f1, v1, m1, i1, hr1, hk1⟩ := h.kids j d hj
        exact ⟨f1, v1, m1, i1, by rw [List.getElem?_append_left (by rw [h.len]; exact hjl)]; exact hr1, (hk1.old fun b hb' => hkW b (hS b (.inl hb')).1 (hS b (.inl hb')).2).more fun b hb => .inl hb⟩
      · have hjn := (List.getElem?_eq_some_iff.1 hj).1
        rw [List.length_append] at hjn
        have hje : j = ds.length := by simp at hjn; omega
        subst hje
        rw [List.getElem?_append_right (Nat.le_refl _), Nat.sub_self] at hj
        have e : x = d := by simpa using hj
        subst e
        exact ⟨kf, kv, km, ki, by rw [← h.len, List.getElem?_append_right (Nat.le_refl _), Nat.sub_self]; rfl, (hkid.old fun b hb' => hkW b (hS b (.inr hb')).1 (hS b (.inr hb')).2).more fun b hb => .inr hb⟩
/-- eight cells of a block are set -/
theorem set8_all {w : World} {B : Nat} {T : TypeId} {z0 z1 z2 z3 z4 z5 z6 z7 : Value} (h : w.heap[B]? = some (.cells #[z0, z1, z2, z3, z4, z5, z6, z7] T (0, 0))) (x0 x1 x2 x3 x4 x5 x6 x7 : Value) :
    ∃ Y, ((((((((w.setCell ⟨B, 0, none⟩ x0).setCell ⟨B, 1, none⟩ x1).setCell ⟨B, 2, none⟩ x2).setCell ⟨B, 3, none⟩ x3).setCell ⟨B, 4, none⟩ x4).setCell ⟨B, 5, none⟩ x5).setCell ⟨B, 6, none⟩ x6).setCell ⟨B, 7, none⟩ x7) = Y ∧ Y.heap[B]? = some (.cells #[x0, x1, x2, x3, x4, x5, x6, x7] T (0, 0)) ∧ (∀ b, b ≠ B → Y.heap[b]? = w.heap[b]?) ∧ Y.heap.size = w.heap.size ∧ Below B w Y := by
  have s8 := set8 h x0 x1 x2 x3 x4 x5 x6 x7
  have ho : ∀ b, b ≠ B → ((((((((w.setCell ⟨B, 0, none⟩ x0).setCell ⟨B, 1, none⟩ x1).setCell ⟨B, 2, none⟩ x2).setCell ⟨B, 3, none⟩ x3).setCell ⟨B, 4, none⟩ x4).setCell ⟨B, 5, none⟩ x5).setCell ⟨B, 6, none⟩ x6).setCell ⟨B, 7, none⟩ x7).heap[b]? = w.heap[b]? := fun b hb => by
    rw [Below.heap_setCell _ _ _ _ hb, Below.heap_setCell _ _ _ _ hb, Below.heap_setCell _ _ _ _ hb, Below.heap_setCell _ _ _ _ hb, Below.heap_setCell _ _ _ _ hb, Below.heap_setCell _ _ _ _ hb, Below.heap_setCell _ _ _ _ hb, Below.heap_setCell _ _ _ _ hb]
  have hz : ((((((((w.setCell ⟨B, 0, none⟩ x0).setCell ⟨B, 1, none⟩ x1).setCell ⟨B, 2, none⟩ x2).setCell ⟨B, 3, none⟩ x3).setCell ⟨B, 4, none⟩ x4).setCell ⟨B, 5, none⟩ x5).setCell ⟨B, 6, none⟩ x6).setCell ⟨B, 7, none⟩ x7).heap.size = w.heap.size := by simp
  have hb : Below B w ((((((((w.setCell ⟨B, 0, none⟩ x0).setCell ⟨B, 1, none⟩ x1).setCell ⟨B, 2, none⟩ x2).setCell ⟨B, 3, none⟩ x3).setCell ⟨B, 4, none⟩ x4).setCell ⟨B, 5, none⟩ x5).setCell ⟨B, 6, none⟩ x6).setCell ⟨B, 7, none⟩ x7) := (((((((((Below.refl B w).setCell (p := ⟨B, 0, none⟩) (Nat.le_refl _) x0).setCell (p := ⟨B, 1, none⟩) (Nat.le_refl _) x1).setCell (p := ⟨B, 2, none⟩) (Nat.le_refl _) x2).setCell (p := ⟨B, 3, none⟩) (Nat.le_refl _) x3).setCell (p := ⟨B, 4, none⟩) (Nat.le_refl _) x4).setCell (p := ⟨B, 5, none⟩) (Nat.le_refl _) x5).setCell (p := ⟨B, 6, none⟩) (Nat.le_refl _) x6).setCell (p := ⟨B, 7, none⟩) (Nat.le_refl _) x7)
  exact ⟨_, rfl, s8, ho, hz, hb⟩
end Go.Proofs.YtbfkaanmbdekfaaGreatDoor
