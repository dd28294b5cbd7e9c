/-
  The document's own reader of words in memory, and the walks over its fail, here, is and take.
  The walks over the document's own reader: here, is, take, name and number.
  The walk over the document's own number of a reader.
  The walk over the document's own path of a reader.
  A function of the document's reader that has an answer and one thing of its own in memory: what holds there while it runs. Nothing is proved of the program here.
-/
import Derived.Test.YtbfkaanmbdekfaaGreatDoorGf3
import Derived.Test.YtbfkaanmbdekfaaGreatDoorGf11
import Derived.Laws.AppendOwn
import Derived.OwnWalk
import Derived.Maps.AppendAt
import Derived.BigQuiet
import Derived.Deep.QuietTactic
import Derived.Lib.Hide
namespace Go.Proofs.YtbfkaanmbdekfaaGreatDoor
set_option linter.unusedVariables false
open Go.ChangeShapes Go.WideShapes Go.ChangeAt Go.RowKit

/-- the reader in memory -/
structure RdAt (w : World) (R : Nat) (en : Int × Int) (r : Rd) : Prop where
  cells : ∃ ad c, w.heap[R]? = some (.cells #[.slice ad r.l.length c, .int .i64 en.1, .int .i64 en.2, .int .i64 r.pl, .int .i64 r.pc, .int .i64 r.e] 60 (0, 0)) ∧ r.l.length ≤ c ∧ WordsAt w R ad r.l
  good : ∀ x ∈ r.l, GoodW x
  few : r.l.length ≤ 4000
theorem RdAt.lt {w : World} {R : Nat} {en : Int × Int} {r : Rd} (h : RdAt w R en r) : R < w.heap.size := by
  obtain ⟨ad, c, hc, _⟩ := h.cells
  exact (Array.getElem?_eq_some_iff.1 hc).1
theorem RdAt.old {w w' : World} {R : Nat} {en : Int × Int} {r : Rd} (h : RdAt w R en r) (hb : ∀ k, k < R + 1 → w'.heap[k]? = w.heap[k]?) : RdAt w' R en r := by
  obtain ⟨ad, c, hc, hl, hw⟩ := h.cells
  exact ⟨⟨ad, c, by rw [hb R (by omega)]; exact hc, hl, hw.old fun k hk => hb k (by omega)⟩, h.good, h.few⟩
theorem RdAt.below {w w' : World} {R : Nat} {en : Int × Int} {r : Rd} (h : RdAt w R en r) (hb : Below w.heap.size w w') : RdAt w' R en r :=
  h.old fun k hk => hb.block k (by have := h.lt; omega)
theorem RdAt.alloc {w : World} {R : Nat} {en : Int × Int} {r : Rd} (h : RdAt w R en r) (o : Obj) : RdAt (w.alloc o) R en r := h.below ((Below.refl _ w).alloc (Nat.le_refl _) o)
theorem RdAt.drew {w : World} {R : Nat} {en : Int × Int} {r : Rd} (h : RdAt w R en r) : RdAt w.drew R en r := h.old fun _ _ => rfl
/-- a cell of a block behind the reader is set -/
theorem RdAt.far {w : World} {R : Nat} {en : Int × Int} {r : Rd} (h : RdAt w R en r) (g j : Nat) (hg : R < g) (x : Value) : RdAt (w.setCell ⟨g, j, none⟩ x) R en r :=
  h.old fun k hk => Below.heap_setCell _ _ _ _ (by show k ≠ g; omega)
/-- the reader's cells, as a walk reads them -/
theorem RdAt.get {w : World} {R : Nat} {en : Int × Int} {r : Rd} (h : RdAt w R en r) : ∃ ad c, r.l.length ≤ c ∧ WordsAt w R ad r.l ∧
    w.heap[R]? = some (.cells #[.slice ad r.l.length c, .int .i64 en.1, .int .i64 en.2, .int .i64 r.pl, .int .i64 r.pc, .int .i64 r.e] 60 (0, 0)) ∧
    w.cell? ⟨R, 0, none⟩ = some (.slice ad r.l.length c) ∧ w.cell? ⟨R, 1, none⟩ = some (.int .i64 en.1) ∧ w.cell? ⟨R, 2, none⟩ = some (.int .i64 en.2) ∧ w.cell? ⟨R, 3, none⟩ = some (.int .i64 r.pl) ∧ w.cell? ⟨R, 4, none⟩ = some (.int .i64 r.pc) ∧ w.cell? ⟨R, 5, none⟩ = some (.int .i64 r.e) ∧
    (∀ j, w.frozen? ⟨R, j, none⟩ = false) := by
  obtain ⟨ad, c, hc, hl, hw⟩ := h.cells
  refine ⟨ad, c, hl, hw, hc, ?_, ?_, ?_, ?_, ?_, ?_, ?_⟩
  all_goals simp [World.cell?, World.frozen?, hc]
set_option maxHeartbeats 2000000 in
theorem failR_any (R : Nat) (en : Int × Int) (r : Rd) (e : Int) (p1 p2 : Int) (w : World) (h : RdAt w R en r) :
    Calls Tryz.prog 24 #[.pointer (some ⟨R, 0, none⟩), .int .i64 e, .agg #[.int .i64 p1, .int .i64 p2]] w fun x w' => x = .returned (.tuple #[]) ∧ RdAt w' R en (r.fail e (p1, p2)) ∧ w.grownBy w' (some R) := by
  have hlt := h.lt
  have ha := h.alloc (.cells #[.int .i64 p1, .int .i64 p2] 25)
  have HA := Lib.hid ha
  obtain ⟨ad, c, hl, hw, hc, c0, c1, c2, c3, c4, c5, hf⟩ := ha.get
  have f3 := hf 3
  have f4 := hf 4
  have f5 := hf 5
  have HW := Lib.hid hw
  have HC := Lib.hid hc
  have HG : Hid (w.grownBy (w.alloc (.cells #[.int .i64 p1, .int .i64 p2] 25)) (some R)) := World.grownBy_alloc w _ _
  clear hw hc ha
  have hne : w.heap.size ≠ R := by omega
  have hne' : R ≠ w.heap.size := by omega
  by_cases he : r.e = 0
  · have hfl : r.fail e (p1, p2) = ⟨r.l, e, p1, p2⟩ := by unfold Rd.fail; rw [if_pos he]
    have HF := Lib.hid hfl
    rw [he] at c5
    have hgd := h.good
    have hfw := h.few
    clear hfl
    go_enter Tryz.func24, Tryz.ntmps24
    go_wp2_with fail
    have q0 : (w.alloc (.cells #[.int .i64 p1, .int .i64 p2] 25)).cell? ⟨w.heap.size, 0, none⟩ = some (.int .i64 p1) := by simp
    have q1 : (w.alloc (.cells #[.int .i64 p1, .int .i64 p2] 25)).cell? ⟨w.heap.size, 1, none⟩ = some (.int .i64 p2) := by simp
    clear HA h c0 c1 c2 hf
    generalize w.alloc (.cells #[.int .i64 p1, .int .i64 p2] 25) = V at *
    generalize w.heap.size = B at *
    go_region
    all_goals
      go_wp2_with fail
      go_end0
      refine ⟨rfl, ?_, ?_⟩
      · rw [HF.out]
        refine ⟨⟨ad, c, ?_, hl, HW.out.old fun k hk => ?_⟩, hgd, hfw⟩
        · exact setCell_heap (setCell_heap (setCell_heap HC.out _) _) _
        · exact ((Below.heap_setCell _ _ _ _ (by show k ≠ R; omega)).trans (Below.heap_setCell _ _ _ _ (by show k ≠ R; omega))).trans (Below.heap_setCell _ _ _ _ (by show k ≠ R; omega))
      · exact HG.out.trans ((grownBy_set _ _ _ _).trans ((grownBy_set _ _ _ _).trans ((grownBy_set _ _ _ _).trans (grownBy_drew _ _))))
  · have hfl : r.fail e (p1, p2) = r := by unfold Rd.fail; rw [if_neg he]
    rw [hfl]
    have he' : (r.e == 0) = false := by simpa using he
    clear hfl he
    go_enter Tryz.func24, Tryz.ntmps24
    go_wp2_with fail
    go_end0
    exact ⟨rfl, HA.out, HG.out⟩
end Go.Proofs.YtbfkaanmbdekfaaGreatDoor
namespace Go.Proofs.YtbfkaanmbdekfaaGreatDoor
set_option linter.unusedVariables false
open Go.ChangeShapes Go.WideShapes Go.ChangeAt Go.RowKit

set_option maxHeartbeats 2000000 in
theorem hereR_any (R : Nat) (en : Int × Int) (r : Rd) (w : World) (h : RdAt w R en r) :
    Calls Tryz.prog 25 #[.pointer (some ⟨R, 0, none⟩)] w fun x w' => x = .returned (.agg #[.int .i64 (r.here en).1, .int .i64 (r.here en).2]) ∧ Below w.heap.size w w' := by
  have hlt := h.lt
  have ha := h.alloc (.cells #[.int .i64 0, .int .i64 0] 25)
  obtain ⟨ad, c, hl, hw, hc, c0, c1, c2, c3, c4, c5, hf⟩ := ha.get
  have hb := fun a b => (Below.refl w.heap.size w).alloc (Nat.le_refl _) (.cells #[.int .i64 a, .int .i64 b] 25)
  have r0 : ∀ a b, (w.alloc (.cells #[.int .i64 a, .int .i64 b] 25)).cell? ⟨w.heap.size, 0, none⟩ = some (.int .i64 a) := fun a b => by simp
  have r1 : ∀ a b, (w.alloc (.cells #[.int .i64 a, .int .i64 b] 25)).cell? ⟨w.heap.size, 1, none⟩ = some (.int .i64 b) := fun a b => by simp
  cases hrl : r.l with
  | nil =>
    have hh : r.here en = en := by unfold Rd.here; rw [hrl]
    rw [hh]
    rw [hrl] at c0
    have c0' : (w.alloc (.cells #[.int .i64 0, .int .i64 0] 25)).cell? ⟨R, 0, none⟩ = some (.slice ad 0 c) := c0
    clear hw hc c0 c3 c4 c5 hf hrl hh ha h hl
    go_enter Tryz.func25, Tryz.ntmps25
    go_wp2_with fail
    refine bodyPost_ret (v := .agg #[.int .i64 en.1, .int .i64 en.2]) (by simp [results, Tryz.results25, go_sem, r0, r1]) rfl ⟨rfl, hb _ _⟩
  | cons y t =>
    have hh : r.here en = ((y.line : Int), (y.col : Int)) := by unfold Rd.here; rw [hrl]
    rw [hh]
    rw [hrl] at c0 hw hl
    obtain ⟨g, o, rfl, hg, d0, d1, d2, d3⟩ := hw.head
    have c0' : (w.alloc (.cells #[.int .i64 0, .int .i64 0] 25)).cell? ⟨R, 0, none⟩ = some (.slice (some ⟨g, o, none⟩) (t.length + 1) c) := c0
    have hne : ((t.length : Int) + 1 == 0) = false := beq_eq_false_iff_ne.2 (by omega)
    have hgs : g < w.heap.size := by omega
    clear hw hc c0 c3 c4 c5 hf hrl hh ha h
    go_enter Tryz.func25, Tryz.ntmps25
    go_wp2_with fail
    refine bodyPost_ret (v := .agg #[.int .i64 (y.line : Int), .int .i64 (y.col : Int)]) (by simp [results, Tryz.results25, go_sem, r0, r1]) rfl ⟨rfl, hb _ _⟩
set_option maxHeartbeats 2000000 in
set_option maxRecDepth 20000 in
theorem isR_any (R : Nat) (en : Int × Int) (r : Rd) (s : ByteArray) (w : World) (h : RdAt w R en r) :
    Calls Tryz.prog 20 #[.pointer (some ⟨R, 0, none⟩), .string s] w fun x w' => x = .returned (.bool (r.is s.data.toList)) ∧ w' = w := by
  have hlt := h.lt
  obtain ⟨ad, c, hl, hw, hc, c0, c1, c2, c3, c4, c5, hf⟩ := h.get
  by_cases he : r.e = 0
  · cases hrl : r.l with
    | nil =>
      have hh : r.is s.data.toList = false := by unfold Rd.is; rw [hrl]; simp
      rw [hh]
      rw [hrl] at c0
      rw [he] at c5
      have c0' : w.cell? ⟨R, 0, none⟩ = some (.slice ad 0 c) := c0
      clear hw hc c0 c1 c2 c3 c4 hf hrl hh h hl he
      go_enter Tryz.func20, Tryz.ntmps20
      go_wp2_with fail
      go_ret
      exact ⟨rfl, rfl⟩
    | cons y t =>
      have hh : r.is s.data.toList = (y.text == s.data.toList) := by unfold Rd.is; rw [hrl, he]; simp
      rw [hh]
      rw [hrl] at c0 hw hl
      rw [he] at c5
      obtain ⟨g, o, rfl, hg, d0, d1, d2, d3⟩ := hw.head
      have c0' : w.cell? ⟨R, 0, none⟩ = some (.slice (some ⟨g, o, none⟩) (t.length + 1) c) := c0
      have hz : (0 : Int) < (t.length : Int) + 1 := by omega
      clear hw hc c0 c1 c2 c3 c4 hf hrl hh h he
      go_enter Tryz.func20, Tryz.ntmps20
      go_wp2_with fail
      go_ret
      refine ⟨retB ?_, rfl⟩
      rw [mkB_list, ByteArray.toList_eq]
  · have hh : r.is s.data.toList = false := by unfold Rd.is; simp [he]
    rw [hh]
    have he' : (r.e == 0) = false := by simpa using he
    clear hw hc c1 c2 c3 c4 hf hh h he
    go_enter Tryz.func20, Tryz.ntmps20
    go_wp2_with fail
    go_ret
    exact ⟨rfl, rfl⟩
/-- the words behind the first one, cut off -/
theorem cut_words (g o n c : Nat) (h : n + 1 ≤ c) : ∃ ad', (n = 0 ∨ ad' = some ⟨g, o + 4, none⟩) ∧ ∀ W, (Instr.slice 55 (.slice (some ⟨g, o, none⟩) (n + 1) c) (some (.int .i64 1)) none none).run Tryz.prog W = .ok (.slice ad' n (c - 1)) W := by
  have hsz : ∀ W, (sizeOf (Tryz.prog.elem 55)).run Tryz.prog W = .ok 4 W := fun W => by
    have : (Tryz.prog.info? (Tryz.prog.elem 55)).map (fun i => i.size) = some 4 := by kernel_rfl
    obtain ⟨i, hi, hs⟩ := Option.map_eq_some_iff.1 this
    simp [sizeOf, typeInfo, hi, hs]
  by_cases hc : c = 1
  · subst hc
    obtain rfl : n = 0 := by omega
    refine ⟨some ⟨g, o, none⟩, .inl rfl, fun W => ?_⟩
    rw [run_slice_l (P := Tryz.prog) W 55 _ _ _ (by kernel_rfl) .i64 1 (by decide) (by decide), hsz]
    simp [Result.andThen, sliced]
  · refine ⟨some ⟨g, o + 4, none⟩, .inr rfl, fun W => ?_⟩
    rw [run_slice_l (P := Tryz.prog) W 55 _ _ _ (by kernel_rfl) .i64 1 (by decide) (by omega), hsz]
    have ea : (⟨g, o, none⟩ : Addr).add 4 = ⟨g, o + 4, none⟩ := by unfold Addr.add; split <;> simp_all
    simp [Result.andThen, sliced, hc, ea]
/-- the reader behind its first word -/
theorem RdAt.tail {w : World} {R : Nat} {en : Int × Int} {r : Rd} (h : RdAt w R en r) {y : Wd} {t : List Wd} (hrl : r.l = y :: t) {g o c : Nat}
    (hc : w.heap[R]? = some (.cells #[.slice (some ⟨g, o, none⟩) r.l.length c, .int .i64 en.1, .int .i64 en.2, .int .i64 r.pl, .int .i64 r.pc, .int .i64 r.e] 60 (0, 0))) (hw : WordsAt w R (some ⟨g, o, none⟩) r.l) (hl : r.l.length ≤ c)
    (ad' : Option Addr) (hd : t.length = 0 ∨ ad' = some ⟨g, o + 4, none⟩) : RdAt (w.setCell ⟨R, 0, none⟩ (.slice ad' t.length (c - 1))) R en r.tail := by
  have e : r.tail.l = t := by unfold Rd.tail; rw [hrl]; rfl
  refine ⟨⟨ad', c - 1, ?_, ?_, ?_⟩, ?_, ?_⟩
  · rw [setCell_heap hc, e]; rfl
  · rw [e]; rw [hrl] at hl; simp at hl; omega
  · rw [e]
    refine WordsAt.old (w := w) ?_ fun k hk => Below.heap_setCell _ _ _ _ (by show k ≠ R; omega)
    rw [hrl] at hw
    exact hw.tail rfl ad' (hd.imp List.eq_nil_of_length_eq_zero id)
  · intro x hx; rw [e] at hx; exact h.good x (by rw [hrl]; exact List.mem_cons_of_mem _ hx)
  · rw [e]; have := h.few; rw [hrl] at this; simp at this; omega
set_option maxHeartbeats 2000000 in
set_option maxRecDepth 20000 in
theorem takeR_any (R : Nat) (en : Int × Int) (r : Rd) (s : ByteArray) (w : World) (h : RdAt w R en r) :
    Calls Tryz.prog 48 #[.pointer (some ⟨R, 0, none⟩), .string s] w fun x w' => x = .returned (.tuple #[]) ∧ RdAt w' R en (r.take en s.data.toList) ∧ w.grownBy w' (some R) := by
  have hI := isR_any R en r s w h
  by_cases hi : r.is s.data.toList = true
  · have ht : r.take en s.data.toList = r.tail := by unfold Rd.take; rw [if_pos hi]
    rw [ht]
    rw [hi] at hI
    obtain ⟨y, t, hrl⟩ := Rd.is_head hi
    obtain ⟨ad, c, hl, hw, hc, c0, c1, c2, c3, c4, c5, hf⟩ := h.get
    have hw0 := hw
    rw [hrl] at hw0
    obtain ⟨g, o, rfl, hg, _⟩ := hw0.head
    obtain ⟨ad', hd, hcut⟩ := cut_words g o t.length c (by rw [hrl] at hl; simpa using hl)
    have HT := Lib.hid (h.tail hrl hc hw hl ad' hd)
    rw [hrl] at c0
    have c0' : w.cell? ⟨R, 0, none⟩ = some (.slice (some ⟨g, o, none⟩) (t.length + 1) c) := c0
    have f0 := hf 0
    clear hw hc c0 c1 c2 c3 c4 c5 hf ht hi hw0 hl hd hrl h
    go_enter Tryz.func48, Tryz.ntmps48
    go_wp2_with fail
    refine hI.mono ?_
    rintro e w1 ⟨rfl, h1⟩
    have h1 := h1.symm
    subst h1
    go_wp2_with fail
    go_end0
    exact ⟨rfl, HT.out, grownBy_set _ _ _ _⟩
  · have hi' : r.is s.data.toList = false := by simpa using hi
    have ht : r.take en s.data.toList = r.fail 7 (r.here en) := by unfold Rd.take; rw [if_neg hi]
    rw [ht]
    rw [hi'] at hI
    have hH := hereR_any R en r w h
    have hF := fun W hW => failR_any R en r 7 (r.here en).1 (r.here en).2 W hW
    have HR := Lib.hid h
    clear ht hi hi'
    go_enter Tryz.func48, Tryz.ntmps48
    go_wp2_with fail
    refine hI.mono ?_
    rintro e w1 ⟨rfl, h1⟩
    have h1 := h1.symm
    subst h1
    go_wp2_with fail
    refine hH.mono ?_
    rintro e w2 ⟨rfl, hb2⟩
    have HG2 := Lib.hid (grownBy_below hb2 (some R))
    go_wp2_with fail
    refine (hF w2 (HR.out.below hb2)).mono ?_
    rintro e w3 ⟨rfl, h3, hg3⟩
    go_wp2_with fail
    exact bodyPost_ret (v := .tuple #[]) (by simp [results, Tryz.results48, go_sem]) rfl ⟨rfl, h3, HG2.out.trans hg3⟩
set_option maxHeartbeats 4000000 in
set_option maxRecDepth 20000 in
theorem nameRd_any (R : Nat) (en : Int × Int) (r : Rd) (w : World) (h : RdAt w R en r) :
    Calls Tryz.prog 49 #[.pointer (some ⟨R, 0, none⟩)] w fun x w' => x = .returned (.tuple #[.string (mkB r.nameT), .agg #[.int .i64 (r.nameP en).1, .int .i64 (r.nameP en).2]]) ∧ RdAt w' R en (r.name en) ∧ w.grownBy w' (some R) := by
  have hB := h.lt
  have ha := h.alloc (.cells #[.int .i64 0, .int .i64 0] 25)
  have HG0 : Hid (w.grownBy (w.alloc (.cells #[.int .i64 0, .int .i64 0] 25)) (some R)) := World.grownBy_alloc w _ _
  have z0 : (w.alloc (.cells #[.int .i64 0, .int .i64 0] 25)).heap[w.heap.size]? = some (.cells #[.int .i64 0, .int .i64 0] 25 (0, 0)) := alloc_heap_new w _
  have HZ := Lib.hid z0
  have hRs := fun (t : List UInt8) W => reservedR_any (mkB t) W
  have hFA := fun W hW => failR_any R en r 7 (r.here en).1 (r.here en).2 W hW
  have hHE := fun W hW => hereR_any R en r W hW
  have HR := Lib.hid ha
  obtain ⟨ad, c, hl, hw, hc, c0, c1, c2, c3, c4, c5, hf⟩ := ha.get
  have hlt := ha.lt
  by_cases hi : r.isName = true
  · obtain ⟨y, t, hrl, he, hk, hres⟩ := Rd.name_head hi
    have hT : r.nameT = y.text := by unfold Rd.nameT Rd.text; rw [if_pos hi, hrl]
    have hP : r.nameP en = ((y.line : Int), (y.col : Int)) := by unfold Rd.nameP Rd.here; rw [if_pos hi, hrl]
    have hN : r.name en = r.tail := by unfold Rd.name; rw [if_pos hi]
    rw [hT, hP, hN]
    have hw0 := hw
    rw [hrl] at hw0
    obtain ⟨g, o, rfl, hg, d0, d1, d2, d3⟩ := hw0.head
    obtain ⟨ad', hd, hcut⟩ := cut_words g o t.length c (by rw [hrl] at hl; simpa using hl)
    rw [hrl] at c0
    rw [he] at c5
    rw [hk] at d0
    have c0' : (w.alloc (.cells #[.int .i64 0, .int .i64 0] 25)).cell? ⟨R, 0, none⟩ = some (.slice (some ⟨g, o, none⟩) (t.length + 1) c) := c0
    have hRs' := fun W => hRs y.text W
    rw [mkB_list, hres] at hRs'
    have hz : ((t.length : Int) + 1 == 0) = false := beq_eq_false_iff_ne.2 (by omega)
    have HTL : Hid (∀ W, RdAt W R en r → W.heap[R]? = some (.cells #[.slice (some ⟨g, o, none⟩) r.l.length c, .int .i64 en.1, .int .i64 en.2, .int .i64 r.pl, .int .i64 r.pc, .int .i64 r.e] 60 (0, 0)) → WordsAt W R (some ⟨g, o, none⟩) r.l → RdAt (W.setCell ⟨R, 0, none⟩ (.slice ad' t.length (c - 1))) R en r.tail) :=
      fun W hW hcW hwW => hW.tail hrl hcW hwW hl ad' hd
    have HWW := Lib.hid hw
    have HCC := Lib.hid hc
    clear hw hc c0 c1 c2 c3 c4 hw0 hd hRs hFA hHE hT hP hN hi hk hres h z0
    go_enter Tryz.func49, Tryz.ntmps49
    go_wp2_with fail
    refine (hRs' _).mono ?_
    rintro e w1 ⟨rfl, h1⟩
    have h1 := h1.symm
    subst h1
    have hVB : (w.alloc (.cells #[.int .i64 0, .int .i64 0] 25)).heap.size = w.heap.size + 1 := by simp
    have f0 := hf 0
    clear hf ha
    generalize w.alloc (.cells #[.int .i64 0, .int .i64 0] 25) = V at *
    have hgV : g < V.heap.size := by omega
    obtain ⟨X, hX⟩ : ∃ X, (V.setCell ⟨R, 0, none⟩ (.slice ad' t.length (c - 1))).alloc (.cells #[.int .i64 1, .string (mkB y.text), .int .i64 (y.line : Int), .int .i64 (y.col : Int)] 97) = X := ⟨_, rfl⟩
    have hsz : (V.setCell ⟨R, 0, none⟩ (.slice ad' t.length (c - 1))).heap.size = w.heap.size + 1 := by simp; omega
    have xw : X.heap[w.heap.size + 1]? = some (.cells #[.int .i64 1, .string (mkB y.text), .int .i64 (y.line : Int), .int .i64 (y.col : Int)] 97 (0, 0)) := by
      rw [← hX, ← hsz]; exact alloc_heap_new _ _
    have xb : X.heap[w.heap.size]? = some (.cells #[.int .i64 0, .int .i64 0] 25 (0, 0)) := by
      rw [← hX, alloc_heap_old _ _ _ (by rw [hsz]; omega), Below.heap_setCell _ _ _ _ (by show w.heap.size ≠ R; omega)]; exact HZ.out
    have HXR : Hid (RdAt X R en r.tail) := by
      refine (?_ : RdAt X R en r.tail)
      rw [← hX]
      exact (HTL.out _ HR.out HCC.out HWW.out).alloc _
    have HXG : Hid (w.grownBy X (some R)) := by
      refine (?_ : w.grownBy X (some R))
      rw [← hX]
      exact HG0.out.trans ((grownBy_set _ _ _ _).trans (World.grownBy_alloc _ _ _))
    have x1 : X.cell? ⟨w.heap.size + 1, 1, none⟩ = some (.string (mkB y.text)) := by simp [World.cell?, xw]
    have x2 : X.cell? ⟨w.heap.size + 1, 2, none⟩ = some (.int .i64 (y.line : Int)) := by simp [World.cell?, xw]
    have x3 : X.cell? ⟨w.heap.size + 1, 3, none⟩ = some (.int .i64 (y.col : Int)) := by simp [World.cell?, xw]
    have b0 : X.cell? ⟨w.heap.size, 0, none⟩ = some (.int .i64 0) := by simp [World.cell?, xb]
    have b1 : X.cell? ⟨w.heap.size, 1, none⟩ = some (.int .i64 0) := by simp [World.cell?, xb]
    have bf0 : X.frozen? ⟨w.heap.size, 0, none⟩ = false := by simp [World.frozen?, xb]
    have bf1 : X.frozen? ⟨w.heap.size, 1, none⟩ = false := by simp [World.frozen?, xb]
    have HXB := Lib.hid xb
    have HXX := Lib.hid hX
    clear xw xb hX HTL HWW HCC HZ hl hlt HR
    go_wp2_with fail
    rw [HXX.out]
    clear c5 d0 d1 d2 d3 c0' f0 HXX hcut
    go_region
    all_goals
      go_wp2_with fail
      have r0 : ((X.setCell ⟨w.heap.size, 0, none⟩ (.int .i64 (y.line : Int))).setCell ⟨w.heap.size, 1, none⟩ (.int .i64 (y.col : Int))).heap[w.heap.size]? = some (.cells #[.int .i64 (y.line : Int), .int .i64 (y.col : Int)] 25 (0, 0)) := setCell_heap (setCell_heap HXB.out _) _
      have HG1 : w.grownBy ((X.setCell ⟨w.heap.size, 0, none⟩ (.int .i64 (y.line : Int))).setCell ⟨w.heap.size, 1, none⟩ (.int .i64 (y.col : Int))) (some R) := grow_then HXG.out ((grownBy_set X w.heap.size 0 _).trans (grownBy_set _ w.heap.size 1 _)) (fun j hj => by cases hj; exact .inl (Nat.le_refl _))
      have HR1 := (HXR.out.far w.heap.size 0 (by omega) (.int .i64 (y.line : Int))).far w.heap.size 1 (by omega) (.int .i64 (y.col : Int))
      generalize (X.setCell ⟨w.heap.size, 0, none⟩ (.int .i64 (y.line : Int))).setCell ⟨w.heap.size, 1, none⟩ (.int .i64 (y.col : Int)) = Y at *
      have r0' : Y.cell? ⟨w.heap.size, 0, none⟩ = some (.int .i64 (y.line : Int)) := by simp [World.cell?, r0]
      have r1' : Y.cell? ⟨w.heap.size, 1, none⟩ = some (.int .i64 (y.col : Int)) := by simp [World.cell?, r0]
      exact bodyPost_ret (v := .tuple #[.string (mkB y.text), .agg #[.int .i64 (y.line : Int), .int .i64 (y.col : Int)]]) (by simp [results, Tryz.results49, go_sem, r0', r1']) rfl ⟨rfl, HR1.drew, HG1.trans (grownBy_drew _ _)⟩
  · have hT : r.nameT = [] := by unfold Rd.nameT; rw [if_neg hi]
    have hP : r.nameP en = (0, 0) := by unfold Rd.nameP; rw [if_neg hi]
    have hN : r.name en = r.fail 7 (r.here en) := by unfold Rd.name; rw [if_neg hi]
    rw [hT, hP, hN]
    have HT : Hid (r.here en = r.here en) := rfl
    have z1 : (w.alloc (.cells #[.int .i64 0, .int .i64 0] 25)).heap.size = w.heap.size + 1 := by simp
    have key : ∀ W, Below (w.alloc (.cells #[.int .i64 0, .int .i64 0] 25)).heap.size (w.alloc (.cells #[.int .i64 0, .int .i64 0] 25)) W → RdAt W R en r := fun W hb => HR.out.below hb
    have hcase : r.e ≠ 0 ∨ (r.e = 0 ∧ r.l = []) ∨ (∃ y t, r.e = 0 ∧ r.l = y :: t ∧ y.kind ≠ 1) ∨ ∃ y t, r.e = 0 ∧ r.l = y :: t ∧ y.kind = 1 ∧ resOf y.text = true := by
      by_cases he : r.e = 0
      · right
        cases hl' : r.l with
        | nil => exact .inl ⟨he, rfl⟩
        | cons y t =>
          right
          by_cases hk : y.kind = 1
          · right
            refine ⟨y, t, he, rfl, hk, ?_⟩
            cases hx : resOf y.text with
            | true => rfl
            | false =>
              exfalso; apply hi
              unfold Rd.isName
              rw [hl', he]
              simp [hk, hx]
          · exact .inl ⟨y, t, he, rfl, hk⟩
      · exact .inl he
    have HKEY := Lib.hid key
    have HB0 : Hid (Below w.heap.size w (w.alloc (.cells #[.int .i64 0, .int .i64 0] 25))) := (Below.refl _ w).alloc (Nat.le_refl _) _
    have fin : ∀ W2 w3, Below (w.alloc (.cells #[.int .i64 0, .int .i64 0] 25)).heap.size (w.alloc (.cells #[.int .i64 0, .int .i64 0] 25)) W2 → W2.grownBy w3 (some R) → RdAt w3 R en (r.fail 7 (r.here en)) →
        w3.cell? ⟨w.heap.size, 0, none⟩ = some (.int .i64 0) ∧ w3.cell? ⟨w.heap.size, 1, none⟩ = some (.int .i64 0) ∧ w3.frozen? ⟨w.heap.size, 0, none⟩ = false ∧ w3.frozen? ⟨w.heap.size, 1, none⟩ = false ∧
        ((w3.setCell ⟨w.heap.size, 0, none⟩ (.int .i64 0)).setCell ⟨w.heap.size, 1, none⟩ (.int .i64 0)).cell? ⟨w.heap.size, 0, none⟩ = some (.int .i64 0) ∧ ((w3.setCell ⟨w.heap.size, 0, none⟩ (.int .i64 0)).setCell ⟨w.heap.size, 1, none⟩ (.int .i64 0)).cell? ⟨w.heap.size, 1, none⟩ = some (.int .i64 0) ∧
        RdAt ((w3.setCell ⟨w.heap.size, 0, none⟩ (.int .i64 0)).setCell ⟨w.heap.size, 1, none⟩ (.int .i64 0)) R en (r.fail 7 (r.here en)) ∧ w.grownBy ((w3.setCell ⟨w.heap.size, 0, none⟩ (.int .i64 0)).setCell ⟨w.heap.size, 1, none⟩ (.int .i64 0)) (some R) := by
      intro W2 w3 hb hg hr
      have e3 : w3.heap[w.heap.size]? = some (.cells #[.int .i64 0, .int .i64 0] 25 (0, 0)) := by
        rw [hg.block _ (by have := hb.size; omega) (by intro e; cases e; omega), hb.block _ (by rw [z1]; omega)]; exact HZ.out
      have e4 : ((w3.setCell ⟨w.heap.size, 0, none⟩ (.int .i64 0)).setCell ⟨w.heap.size, 1, none⟩ (.int .i64 0)).heap[w.heap.size]? = some (.cells #[.int .i64 0, .int .i64 0] 25 (0, 0)) := setCell_heap (setCell_heap e3 _) _
      have hG1 : w.grownBy ((w3.setCell ⟨w.heap.size, 0, none⟩ (.int .i64 0)).setCell ⟨w.heap.size, 1, none⟩ (.int .i64 0)) (some R) :=
        grow_then ((HG0.out.trans (grownBy_below hb (some R))).trans hg) ((grownBy_set w3 w.heap.size 0 _).trans (grownBy_set _ w.heap.size 1 _)) (fun j hj => by cases hj; exact .inl (Nat.le_refl _))
      have hR1 := (hr.far w.heap.size 0 (by omega) (.int .i64 0)).far w.heap.size 1 (by omega) (.int .i64 0)
      generalize (w3.setCell ⟨w.heap.size, 0, none⟩ (.int .i64 0)).setCell ⟨w.heap.size, 1, none⟩ (.int .i64 0) = Y at *
      refine ⟨?_, ?_, ?_, ?_, ?_, ?_, hR1, hG1⟩
      · simp [World.cell?, e3]
      · simp [World.cell?, e3]
      · simp [World.frozen?, e3]
      · simp [World.frozen?, e3]
      · simp [World.cell?, e4]
      · simp [World.cell?, e4]
    have FIN := Lib.hid fin
    clear fin key hT hP hN hi h z0 ha hc HT z1 c1 c2 c3 c4 hf
    rcases hcase with he | ⟨he, hrl⟩ | ⟨y, t, he, hrl, hk⟩ | ⟨y, t, he, hrl, hk, hres⟩
    · have he' : (r.e != 0) = true := by simpa using he
      clear he c0 hw hRs
      go_enter Tryz.func49, Tryz.ntmps49
      go_wp2_with fail
      generalize w.alloc (.cells #[.int .i64 0, .int .i64 0] 25) = V at *
      refine (hHE V HR.out).mono ?_
      rintro e w2 ⟨rfl, hb2⟩
      go_wp2_with fail
      refine (hFA w2 (HKEY.out w2 hb2)).mono ?_
      rintro e w3 ⟨rfl, h3, hg3⟩
      obtain ⟨k0, k1, k2, k3, k4, k5, k6, k7⟩ := FIN.out w2 w3 hb2 hg3 h3
      clear c5 hb2 hg3
      go_wp2_with fail
      exact bodyPost_ret (v := .tuple #[.string (mkB []), .agg #[.int .i64 0, .int .i64 0]]) (by simp [results, Tryz.results49, go_sem, k4, k5]; rfl) rfl ⟨rfl, k6, k7⟩
    · rw [hrl] at c0
      rw [he] at c5
      have c0' : (w.alloc (.cells #[.int .i64 0, .int .i64 0] 25)).cell? ⟨R, 0, none⟩ = some (.slice ad 0 c) := c0
      clear he c0 hw hRs
      go_enter Tryz.func49, Tryz.ntmps49
      go_wp2_with fail
      generalize w.alloc (.cells #[.int .i64 0, .int .i64 0] 25) = V at *
      refine (hHE V HR.out).mono ?_
      rintro e w2 ⟨rfl, hb2⟩
      go_wp2_with fail
      refine (hFA w2 (HKEY.out w2 hb2)).mono ?_
      rintro e w3 ⟨rfl, h3, hg3⟩
      obtain ⟨k0, k1, k2, k3, k4, k5, k6, k7⟩ := FIN.out w2 w3 hb2 hg3 h3
      clear c5 hb2 hg3 c0'
      go_wp2_with fail
      exact bodyPost_ret (v := .tuple #[.string (mkB []), .agg #[.int .i64 0, .int .i64 0]]) (by simp [results, Tryz.results49, go_sem, k4, k5]; rfl) rfl ⟨rfl, k6, k7⟩
    · rw [hrl] at c0 hw
      rw [he] at c5
      obtain ⟨g, o, rfl, hg, d0, d1, d2, d3⟩ := hw.head
      have c0' : (w.alloc (.cells #[.int .i64 0, .int .i64 0] 25)).cell? ⟨R, 0, none⟩ = some (.slice (some ⟨g, o, none⟩) (t.length + 1) c) := c0
      have hz : ((t.length : Int) + 1 == 0) = false := beq_eq_false_iff_ne.2 (by omega)
      have hk' : (y.kind != 1) = true := by simpa using hk
      have hgB : g < w.heap.size := by omega
      clear he c0 hw hRs hk
      go_enter Tryz.func49, Tryz.ntmps49
      go_wp2_with fail
      generalize w.alloc (.cells #[.int .i64 0, .int .i64 0] 25) = V at *
      refine (hHE V HR.out).mono ?_
      rintro e w2 ⟨rfl, hb2⟩
      go_wp2_with fail
      refine (hFA w2 (HKEY.out w2 hb2)).mono ?_
      rintro e w3 ⟨rfl, h3, hg3⟩
      obtain ⟨k0, k1, k2, k3, k4, k5, k6, k7⟩ := FIN.out w2 w3 hb2 hg3 h3
      clear c5 hb2 hg3 c0' d0 d1 d2 d3
      go_wp2_with fail
      exact bodyPost_ret (v := .tuple #[.string (mkB []), .agg #[.int .i64 0, .int .i64 0]]) (by simp [results, Tryz.results49, go_sem, k4, k5]; rfl) rfl ⟨rfl, k6, k7⟩
    · rw [hrl] at c0 hw
      rw [he] at c5
      obtain ⟨g, o, rfl, hg, d0, d1, d2, d3⟩ := hw.head
      rw [hk] at d0
      have hRs' := fun W => hRs y.text W
      rw [mkB_list, hres] at hRs'
      have c0' : (w.alloc (.cells #[.int .i64 0, .int .i64 0] 25)).cell? ⟨R, 0, none⟩ = some (.slice (some ⟨g, o, none⟩) (t.length + 1) c) := c0
      have hz : ((t.length : Int) + 1 == 0) = false := beq_eq_false_iff_ne.2 (by omega)
      have hgB : g < w.heap.size := by omega
      clear he c0 hw hRs hk hres
      go_enter Tryz.func49, Tryz.ntmps49
      go_wp2_with fail
      refine (hRs' _).mono ?_
      rintro e w1 ⟨rfl, h1⟩
      have h1 := h1.symm
      subst h1
      go_wp2_with fail
      generalize w.alloc (.cells #[.int .i64 0, .int .i64 0] 25) = V at *
      refine (hHE V HR.out).mono ?_
      rintro e w2 ⟨rfl, hb2⟩
      go_wp2_with fail
      refine (hFA w2 (HKEY.out w2 hb2)).mono ?_
      rintro e w3 ⟨rfl, h3, hg3⟩
      obtain ⟨k0, k1, k2, k3, k4, k5, k6, k7⟩ := FIN.out w2 w3 hb2 hg3 h3
      clear c5 hb2 hg3 c0' d0 d1 d2 d3
      go_wp2_with fail
      exact bodyPost_ret (v := .tuple #[.string (mkB []), .agg #[.int .i64 0, .int .i64 0]]) (by simp [results, Tryz.results49, go_sem, k4, k5]; rfl) rfl ⟨rfl, k6, k7⟩
end Go.Proofs.YtbfkaanmbdekfaaGreatDoor
namespace Go.Proofs.YtbfkaanmbdekfaaGreatDoor
set_option linter.unusedVariables false
open Go.ChangeShapes Go.WideShapes Go.ChangeAt Go.RowKit

theorem Rd.num_head {r : Rd} (h : r.isNum = true) : ∃ y l, r.l = y :: l ∧ r.e = 0 ∧ y.kind = 2 := by
  unfold Rd.isNum at h
  cases hl : r.l with
  | nil => rw [hl] at h; simp at h
  | cons y l =>
    rw [hl] at h
    simp only [Bool.and_eq_true, decide_eq_true_iff] at h
    exact ⟨y, l, rfl, h.1, h.2⟩
theorem Rd.num_not {r : Rd} (hi : ¬ r.isNum = true) : r.e ≠ 0 ∨ (r.e = 0 ∧ r.l = []) ∨ (∃ y t, r.e = 0 ∧ r.l = y :: t ∧ y.kind ≠ 2) := by
  by_cases he : r.e = 0
  · right
    cases hl' : r.l with
    | nil => exact .inl ⟨he, rfl⟩
    | cons y t =>
      right
      refine ⟨y, t, he, rfl, fun hk => hi ?_⟩
      unfold Rd.isNum
      rw [hl', he]
      simp [hk]
  · exact .inl he
theorem numV_one (l : List UInt8) (b : UInt8) (n : Int) : numV n (l ++ [b]) = 10 * numV n l + ((b.toNat : Int) - 48) := by
  unfold numV; rw [List.foldl_append]; rfl
theorem numV_bd : ∀ (l : List UInt8) (n : Int) (k : Nat), l.all isDig = true → 0 ≤ n → n < 10 ^ k → 0 ≤ numV n l ∧ numV n l < 10 ^ (k + l.length)
  | [], n, k, _, h0, h1 => ⟨h0, h1⟩
  | b :: t, n, k, hd, h0, h1 => by
    rw [List.all_cons, Bool.and_eq_true] at hd
    have hb := hd.1
    simp only [isDig, decide_eq_true_iff] at hb
    have := numV_bd t (10 * n + ((b.toNat : Int) - 48)) (k + 1) hd.2 (by omega) (by rw [Int.pow_succ]; omega)
    rw [show k + (b :: t).length = k + 1 + t.length by simp; omega]
    exact this
theorem numV_ten (l : List UInt8) (hd : l.all isDig = true) (hl : l.length ≤ 10) (i : Nat) : 0 ≤ numV 0 (l.take i) ∧ numV 0 (l.take i) < 10000000000 := by
  have h := numV_bd (l.take i) 0 0 (by rw [List.all_eq_true] at hd ⊢; exact fun x hx => hd x (List.mem_of_mem_take hx)) (by decide) (by decide)
  refine ⟨h.1, Int.lt_of_lt_of_le h.2 ?_⟩
  have hn := Nat.pow_le_pow_right (n := 10) (by decide) (show 0 + (l.take i).length ≤ 10 by rw [List.length_take]; omega)
  have e1 : (10 : Int) ^ (0 + (l.take i).length) = ((10 ^ (0 + (l.take i).length) : Nat) : Int) := (Int.natCast_pow 10 _).symm
  have e2 : (10000000000 : Int) = ((10000000000 : Nat) : Int) := rfl
  rw [e1, e2]
  exact Int.ofNat_le.2 hn
set_option maxHeartbeats 4000000 in
set_option maxRecDepth 20000 in
theorem numberRd_any (R : Nat) (en : Int × Int) (r : Rd) (w : World) (h : RdAt w R en r) :
    Calls Tryz.prog 51 #[.pointer (some ⟨R, 0, none⟩)] w fun x w' => x = .returned (.int .i64 r.numberV) ∧ RdAt w' R en (r.number en) ∧ w.grownBy w' (some R) := by
  have hFA := fun W hW => failR_any R en r 7 (r.here en).1 (r.here en).2 W hW
  have hHE := hereR_any R en r w h
  have HR := Lib.hid h
  obtain ⟨ad, c, hl, hw, hc, c0, c1, c2, c3, c4, c5, hf⟩ := h.get
  have hlt := h.lt
  by_cases hi : r.isNum = true
  · obtain ⟨y, t, hrl, he, hk⟩ := Rd.num_head hi
    obtain ⟨hd, hten⟩ := (h.good y (by rw [hrl]; simp)).2 hk
    have hT : r.numberV = numV 0 y.text := by unfold Rd.numberV Rd.text; rw [if_pos hi, hrl]
    have hN : r.number en = r.tail := by unfold Rd.number; rw [if_pos hi]
    rw [hT, hN]
    have hw0 := hw
    rw [hrl] at hw0
    obtain ⟨g, o, rfl, hg, d0, d1, d2, d3⟩ := hw0.head
    obtain ⟨ad', hdd, hcut⟩ := cut_words g o t.length c (by rw [hrl] at hl; simpa using hl)
    have HT := Lib.hid (h.tail hrl hc hw hl ad' hdd)
    rw [hrl] at c0
    rw [he] at c5
    rw [hk] at d0
    have c0' : w.cell? ⟨R, 0, none⟩ = some (.slice (some ⟨g, o, none⟩) (t.length + 1) c) := c0
    have hz : ((t.length : Int) + 1 == 0) = false := beq_eq_false_iff_ne.2 (by omega)
    have f0 := hf 0
    have hTs : (mkB y.text).size = y.text.length := by rw [← len_data]; rfl
    have HTS := Lib.hid hTs
    have HTD : Hid ((mkB y.text).data.toList = y.text) := rfl
    have HNB : Hid (∀ i, 0 ≤ numV 0 (y.text.take i) ∧ numV 0 (y.text.take i) < 10000000000) := numV_ten y.text hd hten
    have HDG : Hid (∀ b ∈ y.text, 48 ≤ b.toNat ∧ b.toNat ≤ 57) := fun b hb => by
      have := List.all_eq_true.1 hd b hb
      simpa [isDig] using this
    have hTl : (mkB y.text).size ≤ 10 := by rw [hTs]; exact hten
    obtain ⟨NV, hNV⟩ : ∃ n, numV 0 y.text = n := ⟨_, rfl⟩
    rw [hNV]
    have HNV := Lib.hid hNV
    clear hw hc c0 c1 c2 c3 c4 hw0 hdd hFA hHE hT hN hi hk h hf hrl he hTs hten hd hl hNV
    generalize mkB y.text = T at *
    go_enter Tryz.func51, Tryz.ntmps51
    go_wp2_with fail
    go_loopw [3, 4] (fun n i wr => ∃ k : Nat, k ≤ T.size ∧ n = .int .i64 (numV 0 (y.text.take k)) ∧ i = .int .i64 (k : Int) ∧ wr = w) (fun _ i _ => T.size - (intOf i).toNat)
    case atStart => exact ⟨0, by omega, rfl, rfl, rfl⟩
    case round =>
      obtain ⟨k, hkT, rfl, rfl, hwr⟩ := hrel
      have hwr := hwr.symm
      subst hwr
      by_cases hlt2 : k < T.size
      · have hb := HNB.out k
        have hbk : ∃ b, T[k]'hlt2 = b ∧ 48 ≤ b.toNat ∧ b.toNat ≤ 57 ∧ numV 0 (y.text.take (k + 1)) = 10 * numV 0 (y.text.take k) + ((b.toNat : Int) - 48) := by
          refine ⟨_, rfl, ?_⟩
          have hat := at_data T k hlt2
          rw [HTD.out] at hat
          have hm := HDG.out (T[k]'hlt2) (List.mem_of_getElem? hat)
          refine ⟨hm.1, hm.2, ?_⟩
          rw [List.take_add_one, hat]
          exact numV_one _ _ _
        obtain ⟨b, hbe, hb1, hb2, hbn⟩ := hbk
        have HBN := Lib.hid hbn
        generalize numV 0 (y.text.take k) = nk at *
        have e1 : IntKind.i64.wrap (10 * nk) = 10 * nk := by rw [IntKind.wrap_i64]; omega
        have e2 : IntKind.u8.wrap ((b.toNat : Int) + -48) = (b.toNat : Int) - 48 := by rw [IntKind.wrap_u8]; omega
        have e3 : IntKind.i64.wrap (10 * nk + ((b.toNat : Int) - 48)) = 10 * nk + ((b.toNat : Int) - 48) := by rw [IntKind.wrap_i64]; omega
        have e4 : IntKind.i64.wrap ((k : Int) + 1) = (k : Int) + 1 := by rw [IntKind.wrap_i64]; omega
        have hk1 : (k : Int) < (T.size : Int) := by omega
        clear hbn
        go_wp2_with fail
        go_roundw
        case rel => exact ⟨k + 1, by omega, by rw [HBN.out], by go_num, by first | rfl | trivial⟩
        case measure => simp [intOf]; omega
      · obtain rfl : k = T.size := by omega
        have hk1 : ¬ (T.size : Int) < (T.size : Int) := by omega
        have hall : numV 0 (y.text.take T.size) = NV := by rw [← HNV.out, List.take_of_length_le (by rw [HTS.out]; exact Nat.le_refl _)]
        rw [hall]
        clear hall
        go_wp2_with fail
        go_ret
        exact ⟨rfl, HT.out, grownBy_set _ _ _ _⟩
  · have hT : r.numberV = 0 := by unfold Rd.numberV; rw [if_neg hi]
    have hN : r.number en = r.fail 7 (r.here en) := by unfold Rd.number; rw [if_neg hi]
    rw [hT, hN]
    have hcase := Rd.num_not hi
    have fin : ∀ w2 w3, Below w.heap.size w w2 → w2.grownBy w3 (some R) → w.grownBy w3 (some R) := fun w2 w3 hb hg => (grownBy_below hb (some R)).trans hg
    clear hT hN hi h hc c1 c2 c3 c4 hf
    rcases hcase with he | ⟨he, hrl⟩ | ⟨y, t, he, hrl, hk⟩
    · have he' : (r.e != 0) = true := by simpa using he
      clear he c0 hw
      go_enter Tryz.func51, Tryz.ntmps51
      go_wp2_with fail
      refine hHE.mono ?_
      rintro e w2 ⟨rfl, hb2⟩
      go_wp2_with fail
      refine (hFA w2 (HR.out.below hb2)).mono ?_
      rintro e w3 ⟨rfl, h3, hg3⟩
      go_wp2_with fail
      go_ret
      exact ⟨rfl, h3, fin _ _ hb2 hg3⟩
    · rw [hrl] at c0
      rw [he] at c5
      have c0' : w.cell? ⟨R, 0, none⟩ = some (.slice ad 0 c) := c0
      clear he c0 hw
      go_enter Tryz.func51, Tryz.ntmps51
      go_wp2_with fail
      refine hHE.mono ?_
      rintro e w2 ⟨rfl, hb2⟩
      go_wp2_with fail
      refine (hFA w2 (HR.out.below hb2)).mono ?_
      rintro e w3 ⟨rfl, h3, hg3⟩
      go_wp2_with fail
      go_ret
      exact ⟨rfl, h3, fin _ _ hb2 hg3⟩
    · rw [hrl] at c0 hw
      rw [he] at c5
      obtain ⟨g, o, rfl, hg, d0, d1, d2, d3⟩ := hw.head
      have c0' : w.cell? ⟨R, 0, none⟩ = some (.slice (some ⟨g, o, none⟩) (t.length + 1) c) := c0
      have hz : ((t.length : Int) + 1 == 0) = false := beq_eq_false_iff_ne.2 (by omega)
      have hk' : (y.kind != 2) = true := by simpa using hk
      clear he c0 hw hk
      go_enter Tryz.func51, Tryz.ntmps51
      go_wp2_with fail
      refine hHE.mono ?_
      rintro e w2 ⟨rfl, hb2⟩
      go_wp2_with fail
      refine (hFA w2 (HR.out.below hb2)).mono ?_
      rintro e w3 ⟨rfl, h3, hg3⟩
      go_wp2_with fail
      go_ret
      exact ⟨rfl, h3, fin _ _ hb2 hg3⟩
end Go.Proofs.YtbfkaanmbdekfaaGreatDoor
namespace Go.Proofs.YtbfkaanmbdekfaaGreatDoor
set_option linter.unusedVariables false
open Go.ChangeShapes Go.WideShapes Go.ChangeAt Go.RowKit

theorem Rd.nameT_len {w : World} {R : Nat} {en : Int × Int} {r : Rd} (h : RdAt w R en r) : r.nameT.length ≤ 20000 := by
  unfold Rd.nameT Rd.text
  split
  · cases hl : r.l with
    | nil => simp
    | cons y t => exact (h.good y (by rw [hl]; simp)).1
  · simp
set_option maxHeartbeats 4000000 in
set_option maxRecDepth 20000 in
theorem pathRd_any (R : Nat) (en : Int × Int) (r : Rd) (w : World) (h : RdAt w R en r) :
    Calls Tryz.prog 52 #[.pointer (some ⟨R, 0, none⟩)] w fun x w' => x = .returned (.string (mkB (r.path en).1)) ∧ RdAt w' R en (r.path en).2 ∧ w.grownBy w' (some R) ∧ (r.path en).1.length ≤ 1000000 := by
  have hlt := h.lt
  have hHE := hereR_any R en r w h
  have HR := Lib.hid h
  obtain ⟨FP, hFP⟩ : ∃ FP, r.here en = FP := ⟨_, rfl⟩
  have HPA : Hid (r.path en = pathL en FP (r.l.length + 1) 1 r.nameT (r.name en)) := by
    refine (?_ : _ = _); unfold Rd.path; rw [hFP]
  have HM0 : Hid ((r.name en).m ≤ r.l.length + 1) := by
    refine (?_ : (r.name en).m ≤ r.l.length + 1)
    have := Rd.m_name en r
    have := Rd.m_le r
    omega
  have HL0 := Lib.hid (Rd.nameT_len h)
  rw [hFP] at hHE
  obtain ⟨PA, hPA⟩ : ∃ PA, r.path en = PA := ⟨_, rfl⟩
  rw [hPA] at HPA ⊢
  clear hFP hPA h
  go_enter Tryz.func52, Tryz.ntmps52
  go_wp2_with fail
  refine hHE.mono ?_
  rintro e w1 ⟨rfl, hb1⟩
  have hz1 := hb1.size
  have hR1 := (HR.out.below hb1).alloc (.cells #[.int .i64 FP.1, .int .i64 FP.2] 25)
  have HG1 := Lib.hid ((grownBy_below hb1 (some R)).trans (World.grownBy_alloc w1 (.cells #[.int .i64 FP.1, .int .i64 FP.2] 25) (some R)))
  have HF1 := Lib.hid (alloc_heap_new w1 (.cells #[.int .i64 FP.1, .int .i64 FP.2] 25))
  have hNA := nameRd_any R en r _ hR1
  clear hHE hb1 hR1
  go_wp2_with fail
  have hzA : (w1.alloc (.cells #[.int .i64 FP.1, .int .i64 FP.2] 25)).heap.size = w1.heap.size + 1 := by simp
  generalize w1.alloc (.cells #[.int .i64 FP.1, .int .i64 FP.2] 25) = V at *
  generalize w1.heap.size = F at *
  refine hNA.mono ?_
  rintro e w2 ⟨rfl, hR2, hg2⟩
  have HR2 := Lib.hid hR2
  have HG2 := Lib.hid (HG1.out.trans hg2)
  have HF2 : Hid (w2.heap[F]? = some (.cells #[.int .i64 FP.1, .int .i64 FP.2] 25 (0, 0))) := by
    refine (?_ : _ = _)
    rw [hg2.block F (by omega) (by intro e; cases e; omega)]; exact HF1.out
  have hz2 := hg2.size
  clear hNA hR2 hg2
  go_wp2_with fail
  go_loopw [4, 6] (fun s n wr => ∃ (k f : Nat) (t : List UInt8) (q : Rd), s = .string (mkB t) ∧ n = .int .i64 (k : Int) ∧ 1 ≤ k ∧ k ≤ 9 ∧ (q.e = 0 → k ≤ 8) ∧ t.length ≤ 20001 * k ∧ RdAt wr R en q ∧ w.grownBy wr (some R) ∧ wr.heap[F]? = some (.cells #[.int .i64 FP.1, .int .i64 FP.2] 25 (0, 0)) ∧ q.m ≤ f ∧ PA = pathL en FP f k t q) (fun _ n _ => 10 - (intOf n).toNat)
  case atStart =>
    refine ⟨1, r.l.length + 1, r.nameT, r.name en, rfl, rfl, by omega, by omega, fun _ => by omega, ?_, HR2.out.alloc _, HG2.out.trans (World.grownBy_alloc _ _ _), ?_, HM0.out, HPA.out⟩
    · have := HL0.out; omega
    · rw [alloc_heap_old _ _ _ (by omega)]; exact HF2.out
  case round =>
    obtain ⟨k, f, t, q, rfl, rfl, hk1, hk9, hk8, htl, hRq, hgq, hFq, hmf, hpa⟩ := hrel
    have HPQ := Lib.hid hpa
    have hIs := isR_any R en q ⟨#[46]⟩ wr hRq
    have e46 : (ByteArray.mk #[46]).data.toList = [46] := rfl
    rw [e46] at hIs
    have hFlt : F < wr.heap.size := (Array.getElem?_eq_some_iff.1 hFq).1
    have HGQ := Lib.hid hgq
    have HFQ := Lib.hid hFq
    have HRQ := Lib.hid hRq
    clear hpa hgq hFq hRq
    by_cases hi : q.is [46] = true
    · rw [hi] at hIs
      have hmp := Rd.m_pos hi
      have hq0 := hk8 (Rd.is_ok hi).1
      obtain ⟨f, rfl⟩ : ∃ f', f = f' + 1 := ⟨f - 1, by omega⟩
      have hTa := takeR_any R en q ⟨#[46]⟩ wr HRQ.out
      rw [e46] at hTa
      have m1 := Rd.m_take en q [46]
      have m2 := Rd.m_name en (q.take en [46])
      have HNX : Hid (PA = pathL en FP f (k + 1) (t ++ [46] ++ (q.take en [46]).nameT) (if k = 8 then ((q.take en [46]).name en).fail 8 FP else (q.take en [46]).name en)) := by
        refine (?_ : _ = _)
        rw [HPQ.out, pathL_go en FP f k t q hi]
      have hNA := fun W hW => nameRd_any R en (q.take en [46]) W hW
      have hNL := fun W (hW : RdAt W R en (q.take en [46])) => Rd.nameT_len hW
      have w46 : IntKind.i64.wrap ((k : Int) + 1) = (k : Int) + 1 := by rw [IntKind.wrap_i64]; omega
      clear HPQ hi e46
      generalize q.take en [46] = q1 at *
      go_wp2_with fail
      refine hIs.mono ?_
      rintro e x1 ⟨rfl, h1⟩
      have h1 := h1.symm
      subst h1
      go_wp2_with fail
      refine hTa.mono ?_
      rintro e x2 ⟨rfl, hR2', hg2'⟩
      have hL2 := hNL x2 hR2'
      have hx2 := hg2'.size
      have HG2' := Lib.hid hg2'
      go_wp2_with fail
      refine (hNA x2 hR2').mono ?_
      rintro e x3 ⟨rfl, hR3, hg3⟩
      have HG3 := Lib.hid (HGQ.out.trans (HG2'.out.trans hg3))
      have HF3 : Hid (x3.heap[F]? = some (.cells #[.int .i64 FP.1, .int .i64 FP.2] 25 (0, 0))) := by
        refine (?_ : _ = _)
        rw [hg3.block F (by omega) (by intro e; cases e; omega), HG2'.out.block F (by omega) (by intro e; cases e; omega)]; exact HFQ.out
      have hx3 := hg3.size
      have HR3 := Lib.hid hR3
      have s46 : (ByteArray.mk #[46]).size = 1 := rfl
      have st := mkB_len t
      have sn := mkB_len q1.nameT
      have ha1 : ∀ W : World, (Op.stringOp .add (mkB t) ⟨#[46]⟩).run Tryz.prog W = .ok (.string (mkB t ++ ⟨#[46]⟩)) W := fun W => run_string_add_sum W _ _ (by rw [s46]; omega)
      have ha2 : ∀ W : World, (Op.stringOp .add (mkB t ++ ⟨#[46]⟩) (mkB q1.nameT)).run Tryz.prog W = .ok (.string (mkB t ++ ⟨#[46]⟩ ++ mkB q1.nameT)) W := fun W => run_string_add_sum W _ _ (by rw [ByteArray.size_append, s46]; omega)
      have hcat : mkB t ++ ⟨#[46]⟩ ++ mkB q1.nameT = mkB (t ++ [46] ++ q1.nameT) := by rw [mkB_app, mkB_app]; rfl
      rw [hcat] at ha2
      have htl2 : (t ++ [46] ++ q1.nameT).length ≤ 20001 * (k + 1) := by rw [List.length_append, List.length_append]; show t.length + 1 + _ ≤ _; omega
      clear hTa hIs hNA hNL hR2' hg2' hR3 hg3 hcat st sn s46
      generalize t ++ [46] ++ q1.nameT = t2 at *
      generalize mkB t ++ ⟨#[46]⟩ = t1 at *
      by_cases h8 : k = 8
      · subst h8
        rw [if_pos rfl] at HNX
        have hFA := fun W hW => failR_any R en (q1.name en) 8 FP.1 FP.2 W hW
        have hm3 := Rd.m_fail (q1.name en) 8 FP (by decide)
        have he3 := Rd.fail_e (q1.name en) 8 FP (by decide)
        have y0 : ∀ o, (x3.alloc o).cell? ⟨F, 0, none⟩ = some (.int .i64 FP.1) := fun o => by
          have := (alloc_heap_old x3 o F (by omega)).trans HF3.out
          simp [World.cell?, this]
        have y1 : ∀ o, (x3.alloc o).cell? ⟨F, 1, none⟩ = some (.int .i64 FP.2) := fun o => by
          have := (alloc_heap_old x3 o F (by omega)).trans HF3.out
          simp [World.cell?, this]
        go_wp2_with fail
        refine (hFA _ (HR3.out.alloc _)).mono ?_
        rintro e x4 ⟨rfl, hR4, hg4⟩
        clear hFA y0 y1
        go_wp2_with fail
        go_roundw
        case rel =>
          refine ⟨9, f, t2, (q1.name en).fail 8 FP, rfl, rfl, by omega, by omega, fun h => absurd h he3, htl2, hR4, HG3.out.trans ((World.grownBy_alloc _ _ _).trans hg4), ?_, by omega, HNX.out⟩
          rw [hg4.block F (by simp; omega) (by intro e; cases e; omega), alloc_heap_old _ _ _ (by omega)]; exact HF3.out
        case measure => simp [intOf]
      · rw [if_neg h8] at HNX
        have h8' : ((k : Int) == 8) = false := beq_eq_false_iff_ne.2 (by omega)
        go_wp2_with fail
        go_roundw
        case rel =>
          refine ⟨k + 1, f, t2, q1.name en, rfl, by go_num, by omega, by omega, fun _ => by omega, htl2, HR3.out.alloc _, HG3.out.trans (World.grownBy_alloc _ _ _), ?_, by omega, HNX.out⟩
          rw [alloc_heap_old _ _ _ (by omega)]; exact HF3.out
        case measure => simp [intOf]; omega
    · have hi' : q.is [46] = false := by simpa using hi
      rw [hi'] at hIs
      obtain rfl : PA = (t, q) := by rw [HPQ.out, pathL_stop en FP f k t q hi']
      clear HPQ hi hi' e46
      go_wp2_with fail
      refine hIs.mono ?_
      rintro e x1 ⟨rfl, h1⟩
      have h1 := h1.symm
      subst h1
      go_wp2_with fail
      go_ret
      exact ⟨rfl, HRQ.out, HGQ.out, by show t.length ≤ _; omega⟩
end Go.Proofs.YtbfkaanmbdekfaaGreatDoor
namespace Go.Proofs.YtbfkaanmbdekfaaGreatDoor
set_option linter.unusedVariables false
open Go.ChangeShapes Go.WideShapes Go.ChangeAt Go.RowKit

/-- the reader stands at q; the answer's block is w0's next one, the thing's the one behind it -/
structure Lo (w0 wx : World) (R : Nat) (en : Int × Int) (q : Rd) (T : TypeId) (za cs : Array Value) : Prop where
  rd : RdAt wx R en q
  gr : w0.grownBy wx (some R)
  ans : wx.heap[w0.heap.size]? = some (.cells za T (0, 0))
  loc : wx.heap[w0.heap.size + 1]? = some (.cells cs T (0, 0))
  lt : R < w0.heap.size
section
variable {w0 wx w' : World} {R : Nat} {en : Int × Int} {q q' : Rd} {T : TypeId} {za cs : Array Value}
theorem Lo.size (h : Lo w0 wx R en q T za cs) : w0.heap.size + 2 ≤ wx.heap.size := by
  have := (Array.getElem?_eq_some_iff.1 h.loc).1; omega
theorem Lo.step (h : Lo w0 wx R en q T za cs) (hr : RdAt w' R en q') (hg : wx.grownBy w' (some R)) : Lo w0 w' R en q' T za cs := by
  have hs := h.size
  have hl := h.lt
  exact ⟨hr, h.gr.trans hg, by rw [hg.block _ (by omega) (by intro e; cases e; omega)]; exact h.ans, by rw [hg.block _ (by omega) (by intro e; cases e; omega)]; exact h.loc, hl⟩
theorem Lo.below (h : Lo w0 wx R en q T za cs) (hb : Below wx.heap.size wx w') : Lo w0 w' R en q T za cs := h.step (h.rd.below hb) (grownBy_below hb _)
theorem Lo.alloc (h : Lo w0 wx R en q T za cs) (o : Obj) : Lo w0 (wx.alloc o) R en q T za cs := h.step (h.rd.alloc o) (World.grownBy_alloc _ _ _)
theorem Lo.drew (h : Lo w0 wx R en q T za cs) : Lo w0 wx.drew R en q T za cs := h.step h.rd.drew (grownBy_drew _ _)
theorem Lo.set (h : Lo w0 wx R en q T za cs) (j : Nat) (x : Value) : Lo w0 (wx.setCell ⟨w0.heap.size + 1, j, none⟩ x) R en q T za (cs.setIfInBounds j x) := by
  have hl := h.lt
  refine ⟨h.rd.far _ _ (by omega) _, grow_then h.gr (grownBy_set _ _ _ _) (fun k hk => by cases hk; left; omega), ?_, setCell_heap h.loc _, hl⟩
  rw [Below.heap_setCell _ _ _ _ (by show w0.heap.size ≠ w0.heap.size + 1; omega)]; exact h.ans
/-- a cell of another block that is the call's own -/
theorem Lo.far (h : Lo w0 wx R en q T za cs) (g j : Nat) (hg : w0.heap.size + 2 ≤ g) (x : Value) : Lo w0 (wx.setCell ⟨g, j, none⟩ x) R en q T za cs := by
  have hl := h.lt
  refine ⟨h.rd.far _ _ (by omega) _, grow_then h.gr (grownBy_set _ _ _ _) (fun k hk => by cases hk; left; omega), ?_, ?_, hl⟩
  · rw [Below.heap_setCell _ _ _ _ (by show w0.heap.size ≠ g; omega)]; exact h.ans
  · rw [Below.heap_setCell _ _ _ _ (by show w0.heap.size + 1 ≠ g; omega)]; exact h.loc
theorem Lo.cell (h : Lo w0 wx R en q T za cs) (j : Nat) : wx.cell? ⟨w0.heap.size + 1, j, none⟩ = cs[j]? ∧ wx.frozen? ⟨w0.heap.size + 1, j, none⟩ = false ∧ wx.cell? ⟨w0.heap.size, j, none⟩ = za[j]? ∧ wx.frozen? ⟨w0.heap.size, j, none⟩ = false := by
  simp [World.cell?, World.frozen?, h.loc, h.ans]
/-- the reader's own cell is set: it stands behind its first word -/
theorem Lo.tail (h : Lo w0 wx R en q T za cs) {ad' : Option Addr} {n c : Nat} (hr : RdAt (wx.setCell ⟨R, 0, none⟩ (.slice ad' n c)) R en q') : Lo w0 (wx.setCell ⟨R, 0, none⟩ (.slice ad' n c)) R en q' T za cs := h.step hr (grownBy_set _ _ _ _)
theorem Lo.start (w : World) {R : Nat} {en : Int × Int} {r : Rd} (h : RdAt w R en r) (T : TypeId) (za cs : Array Value) : Lo w ((w.alloc (.cells za T)).alloc (.cells cs T)) R en r T za cs := by
  have hl := h.lt
  have e1 : (w.alloc (.cells za T)).heap.size = w.heap.size + 1 := by simp
  refine ⟨(h.alloc _).alloc _, (World.grownBy_alloc _ _ _).trans (World.grownBy_alloc _ _ _), ?_, ?_, hl⟩
  · rw [alloc_heap_old _ _ _ (by rw [e1]; omega)]; exact alloc_heap_new _ _
  · rw [← e1]; exact alloc_heap_new _ _
end
/-- what is kept when cells of a block are set -/
theorem keep_set {w : World} {R : Nat} {en : Int × Int} {q : Rd} {B : Nat} (h : RdAt w R en q) (hB : R < B) (j : Nat) (x : Value) : RdAt (w.setCell ⟨B, j, none⟩ x) R en q := h.far B j hB x
end Go.Proofs.YtbfkaanmbdekfaaGreatDoor
