/-
  The walk over the laws' own awake: one enum is printed as the document says.
-/
import Derived.Test.YtngmimbpakmkiaaGreatDoorPnFz
namespace Go.Proofs.YtngmimbpakmkiaaGreatDoor
set_option linter.unusedVariables false
open Go.ChangeShapes Go.WideShapes Go.ChangeAt Go.RowKit

/-- the library's table of powers of ten lies in the world -/
def Pow (w : World) : Prop := Lib.TabIs Tryz.prog w "internal/strconv.uint64pow10" .u64 Lib.pow10Tab
theorem Pow.tab {w : World} (h : Pow w) : Lib.TabBelow Tryz.prog w.heap.size w "internal/strconv.uint64pow10" .u64 Lib.pow10Tab := Lib.tabBelow_of_tabIs h
theorem Pow.below {w w' : World} (h : Pow w) (hb : Below w.heap.size w w') : Pow w' := h.tab w' hb
abbrev d6 : Dc := ⟨2, [69], 0, 0, [], [⟨[97], 0, 0, 0⟩], [], []⟩
abbrev t6 : List UInt8 := [101, 110, 117, 109, 32, 69, 32, 123, 10, 9, 97, 32, 61, 32, 48, 59, 10, 125, 10]
theorem itoa0 : Lib.itoa 0 = [48] := by
  show Lib.itoa ((0 : Nat) : Int) = _
  rw [Lib.itoa_nonneg, Lib.decDigits_one (by decide)]
  rfl
theorem text6 : textL 1 [d6] = t6 := by
  rw [textL_one]
  show dT (0 + 1) 0 d6 = _
  rw [dT]
  simp [vT, itoa0, tb, kindT]
theorem print6 : printL 1 [d6] = (t6, 0) := by
  unfold printL
  rw [text6, if_pos (by decide +kernel), if_pos (by decide +kernel)]
set_option maxHeartbeats 4000000 in
set_option maxRecDepth 20000 in
theorem awake6_any (w : World) (hE : Errs w) (hP : Pow w) :
    Calls Tryz.prog 16 #[] w fun e w' => e = .returned (.bool true) ∧ Below w.heap.size w w' := by
  obtain ⟨V, hV⟩ : ∃ V, (w.alloc (.cells #[.string ⟨#[97]⟩, .int .i64 0, .int .i64 0, .int .i64 0] 59)).alloc (.cells #[.int .i64 2, .string ⟨#[69]⟩, .int .i64 0, .int .i64 0, .slice none 0 0, .slice (some ⟨w.heap.size, 0, none⟩) 1 1, .slice none 0 0, .slice none 0 0] 46) = V := ⟨_, rfl⟩
  have hb : Below w.heap.size w V := by
    rw [← hV]
    exact ((Below.refl _ w).alloc (Nat.le_refl _) _).alloc (by simp) _
  have h1 : V.heap[w.heap.size]? = some (.cells #[.string ⟨#[97]⟩, .int .i64 0, .int .i64 0, .int .i64 0] 59 (0, 0)) := by
    rw [← hV, alloc_heap_old _ _ _ (by simp)]; exact alloc_heap_new _ _
  have h2 : V.heap[w.heap.size + 1]? = some (.cells #[.int .i64 2, .string ⟨#[69]⟩, .int .i64 0, .int .i64 0, .slice none 0 0, .slice (some ⟨w.heap.size, 0, none⟩) 1 1, .slice none 0 0, .slice none 0 0] 46 (0, 0)) := by
    rw [← hV, show w.heap.size + 1 = (w.alloc (.cells #[.string ⟨#[97]⟩, .int .i64 0, .int .i64 0, .int .i64 0] 59)).heap.size by simp]; exact alloc_heap_new _ _
  have hs : V.heap.size = w.heap.size + 2 := by rw [← hV]; simp
  have hH : HeldD (0 + 1) V (fun b => b < V.heap.size) (.slice (some ⟨w.heap.size + 1, 0, none⟩) 1 1) [d6] := by
    refine ⟨_, _, rfl, Nat.le_refl _, .inr ⟨_, _, rfl, by omega, fun j d hj => ?_⟩⟩
    have hj0 : j = 0 := by
      have := (List.getElem?_eq_some_iff.1 hj).1
      simp at this
      omega
    subst hj0
    have hd : d = d6 := by simpa using hj.symm
    subst hd
    refine ⟨.slice none 0 0, .slice (some ⟨w.heap.size, 0, none⟩) 1 1, .slice none 0 0, .slice none 0 0, fun i u hu => ?_, RowsIn.nil _ _ _ _ _ _, ?_, RowsIn.nil _ _ _ _ _ _, rfl, _, _, rfl⟩
    · have e : V.cell? ⟨w.heap.size + 1, 0 + (0 * 8 + i), none⟩ = (drow d6 (.slice none 0 0) (.slice (some ⟨w.heap.size, 0, none⟩) 1 1) (.slice none 0 0) (.slice none 0 0))[i]? := by
        simp only [World.cell?, h2]
        simp only [Nat.zero_mul, Nat.zero_add]
        rw [if_neg (by simp)]
        show (drow d6 (.slice none 0 0) (.slice (some ⟨w.heap.size, 0, none⟩) 1 1) (.slice none 0 0) (.slice none 0 0)).toArray[i]? = _
        rw [List.getElem?_toArray]
      rw [e]; exact hu
    · refine ⟨_, _, rfl, Nat.le_refl _, .inr ⟨_, 0, rfl, by omega, fun j x hj i u hu => ?_⟩⟩
      have hj0 : j = 0 := by
        have := (List.getElem?_eq_some_iff.1 hj).1
        simp at this
        omega
      subst hj0
      have hx : x = ⟨[97], 0, 0, 0⟩ := by simpa using hj.symm
      subst hx
      have e : V.cell? ⟨w.heap.size, 0 + (0 * 4 + i), none⟩ = (vrow ⟨[97], 0, 0, 0⟩)[i]? := by
        simp only [World.cell?, h1]
        simp only [Nat.zero_mul, Nat.zero_add]
        rw [if_neg (by simp)]
        show (vrow ⟨[97], 0, 0, 0⟩).toArray[i]? = _
        rw [List.getElem?_toArray]
      rw [e]; exact hu
  have hF := printP_any 0 [d6] _ V (errs_below hE hb) (Pow.below hP hb).tab ⟨by decide, fun d hd => by rw [List.mem_singleton.1 hd]; exact ⟨by decide, by decide, by decide, trivial⟩⟩ (fun d hd => by rw [List.mem_singleton.1 hd]; exact ⟨by decide, by simp, by simp, by simp, trivial⟩) hH
  rw [show printL (0 + 1) [d6] = (t6, 0) from print6, show mkB (t6, (0 : Int)).1 = (⟨#[101, 110, 117, 109, 32, 69, 32, 123, 10, 9, 97, 32, 61, 32, 48, 59, 10, 125, 10]⟩ : ByteArray) from rfl] at hF
  have HB := Lib.hid hb
  clear hH h1 h2 hs hb hE hP
  subst hV
  go_enter Tryz.func16, Tryz.ntmps16
  go_wp2_with fail
  refine hF.mono ?_
  rintro e w1 ⟨rfl, hb1⟩
  have HB1 := Lib.hid (HB.out.trans (hb1.mono HB.out.size))
  clear hF hb1
  go_wp2_with fail
  go_ret
  exact ⟨rfl, HB1.out⟩
end Go.Proofs.YtngmimbpakmkiaaGreatDoor
