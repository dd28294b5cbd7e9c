/-
  The walks over the program's own reader: text, place, fail, refuse, skip and want.
-/
import Derived.Test.YtbfkaanmbdekfaaDoorDpR
import Derived.Test.YtbfkaanmbdekfaaDoorDev
import Derived.Deep.Cut
import Derived.Deep.DeepCutAuto
namespace Go.Proofs.YtbfkaanmbdekfaaDoor
set_option linter.unusedVariables false
open Go.ChangeShapes Go.WideShapes Go.ChangeAt Go.RowKit

set_option maxHeartbeats 2000000 in
theorem textD_any (R : Nat) (en : Int × Int) (r : Rd) (w : World) (h : DrAt w R en r) :
    Calls Tryd.prog 24 #[.pointer (some ⟨R, 0, none⟩)] w fun x w' => x = .returned (.string (mkB r.text)) ∧ w' = w := by
  have hlt := h.lt
  obtain ⟨ad, c, hl, hw, hc, c0, c1, c2, c3, c4, c5, hf⟩ := h.get
  cases hrl : r.l with
  | nil =>
    have hh : r.text = [] := by unfold Rd.text; rw [hrl]
    rw [hh]
    rw [hrl] at c0
    have c0' : w.cell? ⟨R, 0, none⟩ = some (.slice ad 0 c) := c0
    clear hw hc c0 c1 c2 c3 c4 c5 hf hrl hh h hl
    go_enter Tryd.func24, Tryd.ntmps24
    go_wp2_with fail
    go_ret
    exact ⟨rfl, rfl⟩
  | cons y t =>
    have hh : r.text = y.text := by unfold Rd.text; rw [hrl]
    rw [hh]
    rw [hrl] at c0 hw hl
    obtain ⟨g, o, rfl, hg, d0, d1, d2, d3⟩ := hw.head
    have c0' : w.cell? ⟨R, 0, none⟩ = some (.slice (some ⟨g, o, none⟩) (t.length + 1) c) := c0
    have hne : ((t.length : Int) + 1 == 0) = false := beq_eq_false_iff_ne.2 (by omega)
    clear hw hc c0 c1 c2 c3 c4 c5 hf hrl hh h
    go_enter Tryd.func24, Tryd.ntmps24
    go_wp2_with fail
    go_ret
    exact ⟨rfl, rfl⟩
set_option maxHeartbeats 2000000 in
theorem placeD_any (R : Nat) (en : Int × Int) (r : Rd) (w : World) (h : DrAt w R en r) :
    Calls Tryd.prog 42 #[.pointer (some ⟨R, 0, none⟩)] w fun x w' => x = .returned (.agg #[.int .i64 (r.here en).1, .int .i64 (r.here en).2]) ∧ Below w.heap.size w w' := by
  have hlt := h.lt
  have ha := h.alloc (.cells #[.int .i64 0, .int .i64 0] 25)
  obtain ⟨ad, c, hl, hw, hc, c0, c1, c2, c3, c4, c5, hf⟩ := ha.get
  have hb := fun a b => (Below.refl w.heap.size w).alloc (Nat.le_refl _) (.cells #[.int .i64 a, .int .i64 b] 25)
  have r0 : ∀ a b, (w.alloc (.cells #[.int .i64 a, .int .i64 b] 25)).cell? ⟨w.heap.size, 0, none⟩ = some (.int .i64 a) := fun a b => by simp
  have r1 : ∀ a b, (w.alloc (.cells #[.int .i64 a, .int .i64 b] 25)).cell? ⟨w.heap.size, 1, none⟩ = some (.int .i64 b) := fun a b => by simp
  cases hrl : r.l with
  | nil =>
    have hh : r.here en = en := by unfold Rd.here; rw [hrl]
    rw [hh]
    rw [hrl] at c0
    have c0' : (w.alloc (.cells #[.int .i64 0, .int .i64 0] 25)).cell? ⟨R, 0, none⟩ = some (.slice ad 0 c) := c0
    clear hw hc c0 c3 c4 c5 hf hrl hh ha h hl
    go_enter Tryd.func42, Tryd.ntmps42
    go_wp2_with fail
    refine bodyPost_ret (v := .agg #[.int .i64 en.1, .int .i64 en.2]) (by simp [results, Tryd.results42, go_sem, r0, r1]) rfl ⟨rfl, hb _ _⟩
  | cons y t =>
    have hh : r.here en = ((y.line : Int), (y.col : Int)) := by unfold Rd.here; rw [hrl]
    rw [hh]
    rw [hrl] at c0 hw hl
    obtain ⟨g, o, rfl, hg, d0, d1, d2, d3⟩ := hw.head
    have c0' : (w.alloc (.cells #[.int .i64 0, .int .i64 0] 25)).cell? ⟨R, 0, none⟩ = some (.slice (some ⟨g, o, none⟩) (t.length + 1) c) := c0
    have hne : ((t.length : Int) + 1 == 0) = false := beq_eq_false_iff_ne.2 (by omega)
    have hgs : g < w.heap.size := by omega
    clear hw hc c0 c3 c4 c5 hf hrl hh ha h
    go_enter Tryd.func42, Tryd.ntmps42
    go_wp2_with fail
    refine bodyPost_ret (v := .agg #[.int .i64 (y.line : Int), .int .i64 (y.col : Int)]) (by simp [results, Tryd.results42, go_sem, r0, r1]) rfl ⟨rfl, hb _ _⟩
set_option maxHeartbeats 2000000 in
theorem failD_any (R : Nat) (en : Int × Int) (r : Rd) (e : Int) (p1 p2 : Int) (w : World) (he : r.e = 0) (h : DrAt w R en r) :
    Calls Tryd.prog 41 #[.pointer (some ⟨R, 0, none⟩), .agg #[.int .i64 p1, .int .i64 p2], .int .i64 e] w fun x w' => x = .returned (.bool false) ∧ DrAt w' R en (r.fail e (p1, p2)) ∧ w.grownBy w' (some R) := by
  have hlt := h.lt
  have ha := h.alloc (.cells #[.int .i64 p1, .int .i64 p2] 25)
  have HG : Hid (w.grownBy (w.alloc (.cells #[.int .i64 p1, .int .i64 p2] 25)) (some R)) := World.grownBy_alloc w _ _
  obtain ⟨ad, c, hl, hw, hc, c0, c1, c2, c3, c4, c5, hf⟩ := ha.get
  have r0 : (w.alloc (.cells #[.int .i64 p1, .int .i64 p2] 25)).cell? ⟨w.heap.size, 0, none⟩ = some (.int .i64 p1) := by simp
  have r1 : (w.alloc (.cells #[.int .i64 p1, .int .i64 p2] 25)).cell? ⟨w.heap.size, 1, none⟩ = some (.int .i64 p2) := by simp
  have HF : Hid (r.fail e (p1, p2) = ⟨r.l, e, p1, p2⟩) := by refine (?_ : _ = _); unfold Rd.fail; rw [if_pos he]
  have f3 := hf 3
  have f4 := hf 4
  have f5 := hf 5
  have HW := Lib.hid hw
  have HC := Lib.hid hc
  have hgd := h.good
  have hfw := h.few
  have hne : w.heap.size ≠ R := by omega
  have hne' : R ≠ w.heap.size := by omega
  clear hw hc he hf c0 c1 c2 ha h
  go_enter Tryd.func41, Tryd.ntmps41
  go_upto_region 1 with fail
  generalize w.alloc (.cells #[.int .i64 p1, .int .i64 p2] 25) = V at *
  generalize w.heap.size = B at *
  go_wp2_with fail
  go_ret
  refine ⟨rfl, ?_, ?_⟩
  · rw [HF.out]
    refine ⟨⟨ad, c, ?_, hl, HW.out.old fun k hk => ?_⟩, hgd, hfw⟩
    · exact setCell_heap (setCell_heap (setCell_heap HC.out _) _) _
    · exact ((Below.heap_setCell _ _ _ _ (by show k ≠ R; omega)).trans (Below.heap_setCell _ _ _ _ (by show k ≠ R; omega))).trans (Below.heap_setCell _ _ _ _ (by show k ≠ R; omega))
  · exact HG.out.trans ((grownBy_set _ _ _ _).trans ((grownBy_set _ _ _ _).trans (grownBy_set _ _ _ _)))
set_option maxHeartbeats 2000000 in
theorem refuseD_any (R : Nat) (en : Int × Int) (r : Rd) (w : World) (he : r.e = 0) (h : DrAt w R en r) :
    Calls Tryd.prog 28 #[.pointer (some ⟨R, 0, none⟩)] w fun x w' => x = .returned (.bool false) ∧ DrAt w' R en (r.fail 7 (r.here en)) ∧ w.grownBy w' (some R) := by
  have hH := placeD_any R en r w h
  have hF := fun W hW => failD_any R en r 7 (r.here en).1 (r.here en).2 W he hW
  have HR := Lib.hid h
  clear h he
  go_enter Tryd.func28, Tryd.ntmps28
  go_wp2_with fail
  refine hH.mono ?_
  rintro e w2 ⟨rfl, hb2⟩
  have HG2 := Lib.hid (grownBy_below hb2 (some R))
  go_wp2_with fail
  refine (hF w2 (HR.out.below hb2)).mono ?_
  rintro e w3 ⟨rfl, h3, hg3⟩
  go_wp2_with fail
  go_ret
  exact ⟨rfl, h3, HG2.out.trans hg3⟩
theorem Rd.is_text {r : Rd} {t : List UInt8} (he : r.e = 0) (ht : t ≠ []) : r.is t = (r.text == t) := by
  unfold Rd.is Rd.text
  rw [he]
  cases r.l with
  | nil =>
    have : (([] : List UInt8) == t) = false := by
      cases t with
      | nil => exact absurd rfl ht
      | cons a b => rfl
    simp [this]
  | cons y l => simp
/-- behind the next word, if it is this one -/
def Rd.skip (r : Rd) (t : List UInt8) : Rd := if r.is t = true then r.tail else r
set_option maxHeartbeats 2000000 in
set_option maxRecDepth 20000 in
theorem skipD_any (R : Nat) (en : Int × Int) (r : Rd) (s : ByteArray) (w : World) (he : r.e = 0) (hs : s.data.toList ≠ []) (h : DrAt w R en r) :
    Calls Tryd.prog 44 #[.pointer (some ⟨R, 0, none⟩), .string s] w fun x w' => x = .returned (.bool (r.is s.data.toList)) ∧ DrAt w' R en (r.skip s.data.toList) ∧ w.grownBy w' (some R) := by
  have hI := textD_any R en r w h
  have hit := Rd.is_text he hs
  have hsl : s.toList = s.data.toList := ByteArray.toList_eq s
  by_cases hi : r.is s.data.toList = true
  · have ht : r.skip s.data.toList = r.tail := by unfold Rd.skip; rw [if_pos hi]
    rw [ht, hi]
    obtain ⟨y, t, hrl⟩ := Rd.is_head hi
    obtain ⟨ad, c, hl, hw, hc, c0, c1, c2, c3, c4, c5, hf⟩ := h.get
    have hw0 := hw
    rw [hrl] at hw0
    obtain ⟨g, o, rfl, hg, _⟩ := hw0.head
    obtain ⟨ad', hd, hcut⟩ := cut_wordsD g o t.length c (by rw [hrl] at hl; simpa using hl)
    have HT := Lib.hid (h.tail hrl hc hw hl ad' hd)
    rw [hrl] at c0
    have c0' : w.cell? ⟨R, 0, none⟩ = some (.slice (some ⟨g, o, none⟩) (t.length + 1) c) := c0
    have f0 := hf 0
    have hne : ((mkB r.text).toList == s.toList) = true := by rw [mkB_list, hsl, ← hit, hi]
    clear hw hc c0 c1 c2 c3 c4 c5 hf ht hi hw0 hl hd hrl h he hit hsl hs
    go_enter Tryd.func44, Tryd.ntmps44
    go_wp2_with fail
    refine hI.mono ?_
    rintro e w1 ⟨rfl, h1⟩
    have h1 := h1.symm
    subst h1
    go_wp2_with fail
    go_ret
    exact ⟨rfl, HT.out, grownBy_set _ _ _ _⟩
  · have hi' : r.is s.data.toList = false := by simpa using hi
    have ht : r.skip s.data.toList = r := by unfold Rd.skip; rw [if_neg hi]
    rw [ht, hi']
    have hne : ((mkB r.text).toList == s.toList) = false := by rw [mkB_list, hsl, ← hit, hi']
    have HR := Lib.hid h
    clear ht hi hi' h he hit hsl hs
    go_enter Tryd.func44, Tryd.ntmps44
    go_wp2_with fail
    refine hI.mono ?_
    rintro e w1 ⟨rfl, h1⟩
    have h1 := h1.symm
    subst h1
    go_wp2_with fail
    go_ret
    exact ⟨rfl, HR.out, World.grownBy.refl _ _⟩
end Go.Proofs.YtbfkaanmbdekfaaDoor
