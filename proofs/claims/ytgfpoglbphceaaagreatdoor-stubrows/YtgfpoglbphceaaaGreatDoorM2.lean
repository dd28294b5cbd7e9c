/-
  The walks over the program's own small, great, Letter, fits and Name: a text is a name just if its runes are.
-/
import Derived.Test.YtgfpoglbphceaaaGreatDoorM0
import Derived.Test.YtgfpoglbphceaaaGreatDoorProg
namespace Go.Proofs.YtgfpoglbphceaaaGreatDoor
set_option linter.unusedVariables false
open Go.ChangeShapes Go.WideShapes Go.ChangeAt Go.RowKit

set_option maxHeartbeats 1000000 in
theorem small_any (r : Int) (w : World) :
    Calls Tryz.prog 65 #[.int .i32 r] w fun e w' => e = .returned (.bool (isSmall r)) ∧ w' = w := by
  go_enter Tryz.func65, Tryz.ntmps65
  go_wp2
  all_goals
    go_ret
    refine ⟨retB ?_, rfl⟩
    unfold isSmall
    rw [Bool.eq_iff_iff]
    simp
    omega
set_option maxHeartbeats 1000000 in
theorem great_any (r : Int) (w : World) :
    Calls Tryz.prog 111 #[.int .i32 r] w fun e w' => e = .returned (.bool (isGreat r)) ∧ w' = w := by
  go_enter Tryz.func111, Tryz.ntmps111
  go_wp2
  all_goals
    go_ret
    refine ⟨retB ?_, rfl⟩
    unfold isGreat
    rw [Bool.eq_iff_iff]
    simp
    omega
theorem letter_eq (r : Int) : isLetter r = (isSmall r || isGreat r || decide (913 ≤ r ∧ r ≤ 969)) := by
  unfold isLetter isSmall isGreat
  rw [Bool.eq_iff_iff]; simp [or_assoc]
set_option maxHeartbeats 1000000 in
theorem letter_any (r : Int) (w : World) :
    Calls Tryz.prog 94 #[.int .i32 r] w fun e w' => e = .returned (.bool (isLetter r)) ∧ w' = w := by
  have hs := fun W => small_any r W
  have hg := fun W => great_any r W
  rw [letter_eq]
  generalize isSmall r = S at *
  generalize isGreat r = G at *
  cases S <;> cases G
  all_goals
    go_enter Tryz.func94, Tryz.ntmps94
    go_wp2_with (first
      | (go_at_call 65; refine (hs _).mono ?_; rintro e w' ⟨rfl, rfl⟩)
      | (go_at_call 111; refine (hg _).mono ?_; rintro e w' ⟨rfl, rfl⟩))
    all_goals
      go_ret
      refine ⟨retB ?_, rfl⟩
      clear hs hg
      first
        | rfl
        | (rw [Bool.eq_iff_iff]; simp; omega)
        | (simp; omega)
set_option maxHeartbeats 1000000 in
theorem fits_any (r : Int) (f : Bool) (w : World) :
    Calls Tryz.prog 85 #[.int .i32 r, .bool f] w fun e w' => e = .returned (.bool (fitsAt f r)) ∧ w' = w := by
  have hl := fun W => letter_any r W
  unfold fitsAt
  generalize isLetter r = L at *
  cases L <;> cases f
  all_goals
    go_enter Tryz.func85, Tryz.ntmps85
    go_wp2_with (go_at_call 94; refine (hl _).mono ?_; rintro e w' ⟨rfl, rfl⟩)
    all_goals
      go_ret
      refine ⟨retB ?_, rfl⟩
      clear hl
      unfold isDigit
      first
        | rfl
        | (rw [Bool.eq_iff_iff]; simp; omega)
        | (simp_all; done)
        | (simp_all; omega)
set_option maxHeartbeats 2000000 in
theorem name_any (s : ByteArray) (w : World) (hs : s.size < 9223372036854775807) :
    Calls Tryz.prog 64 #[.string s] w fun e w' => e = .returned (.bool (nameOf (runes s))) ∧ Below w.heap.size w w' := by
  have hF := fun r f W => fits_any r f W
  have HN : Hid (nameOf (runes s) = okFrom 0 (rns s s.size 0)) := (okFrom_name (runes s)).symm
  go_enter Tryz.func64, Tryz.ntmps64
  go_wp2
  go_loopw [3] (fun n w' => ∃ (pos b acc : Nat), w' = w.iter s pos ∧ n = .int .i64 acc ∧ okFrom 0 (rns s s.size 0) = okFrom acc (rns s b pos) ∧ s.size ≤ pos + b ∧ acc ≤ 40) (fun _ w' => s.size - w'.iterPos w.heap.size)
  case atStart => exact ⟨0, s.size, 0, rfl, rfl, rfl, by omega, by omega⟩
  case round =>
    obtain ⟨pos, b, acc, rfl, rfl, hc, hb, ha⟩ := hrel
    have HB : ∀ p, Below w.heap.size w (w.iter s p) := fun p => (Below.refl _ w).alloc (Nat.le_refl _) _
    by_cases hp : pos < s.size
    · have hnx : ∀ ty, (Instr.next (.pointer (some ⟨w.heap.size, 0, none⟩)) true ty).run Tryz.prog (w.iter s pos) = _ := fun ty => run_next_any w s pos ty hp
      have hwd := width_pos s pos hp
      obtain ⟨b, rfl⟩ : ∃ b', b = b' + 1 := ⟨b - 1, by omega⟩
      rw [rns_step s b pos hp, okFrom] at hc
      have HC : Hid (nameOf (runes s) = (decide (acc < 40) && fitsAt (acc == 0) ((Utf8.decode s pos).1 : Int) && okFrom (acc + 1) (rns s b (pos + (Utf8.decode s pos).2)))) := by
        refine (?_ : nameOf (runes s) = _)
        rw [HN.out, hc]
      have HC2 : Hid (okFrom 0 (rns s s.size 0) = (decide (acc < 40) && fitsAt (acc == 0) ((Utf8.decode s pos).1 : Int) && okFrom (acc + 1) (rns s b (pos + (Utf8.decode s pos).2)))) := hc
      clear hc
      by_cases h40 : acc = 40
      · subst h40
        have HX : Hid (nameOf (runes s) = false) := by
          refine (?_ : nameOf (runes s) = false)
          rw [HC.out]; simp
        clear HC HC2 HN
        go_wp2
        go_ret
        exact ⟨retB HX.out.symm, HB _⟩
      · have hlt : acc < 40 := by omega
        have h40' : ((acc : Int) == 40) = false := by simp; omega
        have hd : (decide (acc < 40)) = true := by simp [hlt]
        rw [hd] at HC HC2
        obtain ⟨F, hFF⟩ : ∃ F, fitsAt (acc == 0) ((Utf8.decode s pos).1 : Int) = F := ⟨_, rfl⟩
        have hf : ∀ W, Calls Tryz.prog 85 #[.int .i32 ((Utf8.decode s pos).1 : Int), .bool ((acc : Int) == 0)] W fun e w' => e = .returned (.bool F) ∧ w' = W := by
          intro W
          have := hF ((Utf8.decode s pos).1 : Int) (acc == 0) W
          rw [hFF] at this
          have e : ((acc : Int) == 0) = (acc == 0) := by rw [Bool.eq_iff_iff]; simp
          rw [e]; exact this
        rw [hFF] at HC HC2
        clear hF hFF hd
        cases F with
        | false =>
          have HX : Hid (nameOf (runes s) = false) := by
            refine (?_ : nameOf (runes s) = false)
            rw [HC.out]; simp
          clear HC HC2 HN
          go_wp2_with (go_at_call 85; refine (hf _).mono ?_; rintro e w' ⟨rfl, rfl⟩)
          go_ret
          exact ⟨retB HX.out.symm, HB _⟩
        | true =>
          have HX : Hid (okFrom 0 (rns s s.size 0) = okFrom (acc + 1) (rns s b (pos + (Utf8.decode s pos).2))) := by
            refine (?_ : okFrom 0 (rns s s.size 0) = _)
            rw [HC2.out]; simp
          clear HC HC2 HN
          go_wp2_with (go_at_call 85; refine (hf _).mono ?_; rintro e w' ⟨rfl, rfl⟩)
          go_roundw
          case rel => exact ⟨pos + (Utf8.decode s pos).2, b, acc + 1, rfl, by go_num, HX.out, by omega, by omega⟩
          case measure =>
            simp
            omega
    · have hnx : ∀ ty, (Instr.next (.pointer (some ⟨w.heap.size, 0, none⟩)) true ty).run Tryz.prog (w.iter s pos) = _ := fun ty => run_next_end w s pos ty hp
      have HX : Hid (nameOf (runes s) = decide (0 < acc)) := by
        refine (?_ : nameOf (runes s) = _)
        rw [HN.out, hc, rns_end s b pos hp, okFrom]
      clear hc HN hF
      by_cases h0 : acc = 0
      · subst h0
        go_wp2
        go_ret
        exact ⟨retB (by rw [HX.out]; simp), HB _⟩
      · go_wp2
        go_ret
        exact ⟨retB (by first | (rw [HX.out]; done) | (rw [HX.out]; simp; done) | (rw [HX.out]; simp; omega)), HB _⟩
end Go.Proofs.YtgfpoglbphceaaaGreatDoor
