/-
  The walks over the program's own digit, run, remarkSize, nameSize, numberSize, behind and take: what it takes at a text's head.
-/
import Derived.Test.YtbfkaanmbdekfaaDoorShD
import Derived.Test.YtbfkaanmbdekfaaDoorDev
import Derived.Test.YtbfkaanmbdekfaaDoorDvM
namespace Go.Proofs.YtbfkaanmbdekfaaDoor
set_option linter.unusedVariables false
open Go.ChangeShapes Go.WideShapes Go.ChangeAt Go.RowKit

/-- the library's two errors of numbers lie in the world -/
def Errs (w : World) : Prop := (∃ ev, w.cell? ⟨laysC174_ren.g 15, 0, none⟩ = some ev ∧ (ev = .nilIface ∨ ∃ te pe, ev = .iface te pe)) ∧ (∃ ev, w.cell? ⟨laysC174_ren.g 16, 0, none⟩ = some ev ∧ (ev = .nilIface ∨ ∃ te pe, ev = .iface te pe))
theorem errs_below {w w' : World} (h : Errs w) (hb : Below w.heap.size w w') : Errs w' := by
  obtain ⟨⟨e1, h1, k1⟩, ⟨e2, h2, k2⟩⟩ := h
  exact ⟨⟨e1, by rw [hb.cell (World.block_lt_of_cell? _ _ h1)]; exact h1, k1⟩, ⟨e2, by rw [hb.cell (World.block_lt_of_cell? _ _ h2)]; exact h2, k2⟩⟩
theorem retID {a b : Int} (h : a = b) : Ending.returned (.int .i64 a) = .returned (.int .i64 b) := by rw [h]
theorem retSD {a b : ByteArray} (h : a = b) : Ending.returned (.string a) = .returned (.string b) := by rw [h]
theorem retIID {a b c d : Int} (h1 : a = c) (h2 : b = d) : Ending.returned (.tuple #[.int .i64 a, .int .i64 b]) = .returned (.tuple #[.int .i64 c, .int .i64 d]) := by rw [h1, h2]
set_option maxHeartbeats 1000000 in
theorem digitD_any (r : Int) (w : World) :
    Calls Tryd.prog 36 #[.int .i32 r] w fun e w' => e = .returned (.bool (isDigit r)) ∧ w' = w := by
  go_enter Tryd.func36, Tryd.ntmps36
  go_wp2
  all_goals
    go_ret
    refine ⟨retB ?_, rfl⟩
    unfold isDigit
    rw [Bool.eq_iff_iff]
    simp
    omega
theorem runD_step (f : Nat) (l : List UInt8) (k : Nat) (h : l.drop k ≠ []) (hr : nameRune (nx (l.drop k)).1 = true) : runL (f + 1) (l.drop k) = ((nx (l.drop k)).2 + (runL f (l.drop (k + (nx (l.drop k)).2))).1, (runL f (l.drop (k + (nx (l.drop k)).2))).2 + 1) := by
  rw [runL, if_pos ⟨h, hr⟩, List.drop_drop]
theorem runD_stop (f : Nat) (l : List UInt8) (h : l = [] ∨ nameRune (nx l).1 = false) : runL f l = (0, 0) := by
  cases f with
  | zero => rfl
  | succ f =>
    rw [runL, if_neg]
    rintro ⟨h1, h2⟩
    rcases h with h | h
    · exact h1 h
    · rw [h] at h2; simp at h2
set_option maxHeartbeats 2000000 in
theorem runD_any (s : ByteArray) (w : World) (hs : s.size ≤ 1048576) :
    Calls Tryd.prog 54 #[.string s] w fun e w' => e = .returned (.string (mkB (s.data.toList.take (runL s.size s.data.toList).1))) ∧ Below w.heap.size w w' := by
  have HL : Hid (s.data.toList.length = s.size) := len_data s
  obtain ⟨R, hR⟩ : ∃ R, (runL s.size s.data.toList).1 = R := ⟨_, rfl⟩
  rw [hR]
  have HR : Hid ((runL s.size s.data.toList).1 = R) := hR
  clear hR
  have HEX : Hid (∀ k, s.extract 0 k = mkB (s.data.toList.take k)) := fun k => by
    rw [Lib.extract_eq, List.drop_zero, Nat.sub_zero]; rfl
  obtain ⟨T, hT⟩ : ∃ T, mkB (s.data.toList.take R) = T := ⟨_, rfl⟩
  have HT : Hid (mkB (s.data.toList.take R) = T) := hT
  rw [hT]
  clear hT
  go_enter Tryd.func54, Tryd.ntmps54
  go_wp2_with fail
  go_loopw [3] (fun _ w' => ∃ (pos f : Nat), w' = w.iter s pos ∧ pos ≤ s.size ∧ s.size ≤ pos + f ∧ (runL s.size s.data.toList).1 = pos + (runL f (s.data.toList.drop pos)).1) (fun _ w' => s.size - w'.iterPos w.heap.size)
  case atStart => exact ⟨0, s.size, rfl, by omega, by omega, by rw [List.drop_zero]; omega⟩
  case round =>
    obtain ⟨pos, f, rfl, hps, hf, hc⟩ := hrel
    have HC : Hid ((runL s.size s.data.toList).1 = pos + (runL f (s.data.toList.drop pos)).1) := hc
    clear hc
    have HB : ∀ p, Below w.heap.size w (w.iter s p) := fun p => (Below.refl _ w).alloc (Nat.le_refl _) _
    by_cases hp : pos < s.size
    · have hnx : ∀ ty, (Instr.next (.pointer (some ⟨w.heap.size, 0, none⟩)) true ty).run Tryd.prog (w.iter s pos) = _ := fun ty => run_next_any w s pos ty hp
      have hne : s.data.toList.drop pos ≠ [] := drop_some (by rw [HL.out]; exact hp)
      obtain ⟨hnm, _, _, _⟩ := rn_name _ hne
      have hrn := rn_nx _ hne
      have hwl := nx_width _ hne
      have hdd : Lib.decodeL (s.data.toList.drop pos) = Utf8.decode s pos := Lib.decodeL_drop s pos
      have hwd : (nx (s.data.toList.drop pos)).2 = (Utf8.decode s pos).2 := by rw [← hrn.2, hdd]
      have hrr : nameRune (nx (s.data.toList.drop pos)).1 = nameRune ((Utf8.decode s pos).1 : Int) := by rw [← hnm]; unfold rn; rw [hdd]
      rw [List.length_drop, HL.out, hwd] at hwl
      obtain ⟨f, rfl⟩ : ∃ f', f = f' + 1 := ⟨f - 1, by omega⟩
      have HGO : Hid (nameRune ((Utf8.decode s pos).1 : Int) = true → (runL s.size s.data.toList).1 = (pos + (Utf8.decode s pos).2) + (runL f (s.data.toList.drop (pos + (Utf8.decode s pos).2))).1) := fun h => by
        rw [HC.out, runD_step f _ pos hne (by rw [hrr]; exact h), hwd]; simp only; omega
      have HEN : Hid (nameRune ((Utf8.decode s pos).1 : Int) = false → R = pos) := fun h => by
        rw [← HR.out, HC.out, runD_stop _ _ (.inr (by rw [hrr]; exact h))]; rfl
      clear hnm hrn hdd hwd hrr hne HC
      generalize (Utf8.decode s pos).2 = wd at *
      generalize ((Utf8.decode s pos).1 : Int) = r at *
      have hLe := fun W => letter_any r W
      have hDi := fun W => digitD_any r W
      have hnr : nameRune r = (isLetter r || isDigit r || decide (r = 95)) := rfl
      obtain ⟨L, hL⟩ : ∃ L, isLetter r = L := ⟨_, rfl⟩
      obtain ⟨D, hD⟩ : ∃ D, isDigit r = D := ⟨_, rfl⟩
      rw [hL] at hLe hnr
      rw [hD] at hDi hnr
      have HNR : Hid (nameRune r = (L || D || decide (r = 95))) := hnr
      clear hL hD hnr
      have hgo : nameRune r = true ∨ (L = false ∧ D = false ∧ r ≠ 95) := by
        rw [HNR.out]
        cases L <;> cases D <;> simp
        exact Decidable.em _
      by_cases hstop : L = false ∧ D = false ∧ r ≠ 95
      · obtain ⟨rfl, rfl, h95⟩ := hstop
        have h95' : (r != 95) = true := by simpa using h95
        have HE : Hid (s.extract 0 pos = T) := by
          refine (?_ : _ = _)
          rw [HEX.out, ← HT.out, HEN.out (by rw [HNR.out]; simpa using h95)]
        have hps' : (pos : Int) ≤ (s.size : Int) := by omega
        clear HGO HEN HNR hgo
        go_wp2_with (first
          | (go_at_call 34; refine (hLe _).mono ?_; rintro e w' ⟨rfl, rfl⟩)
          | (go_at_call 36; refine (hDi _).mono ?_; rintro e w' ⟨rfl, rfl⟩))
        go_ret
        exact ⟨retSD HE.out, HB _⟩
      · have hn : nameRune r = true := by
          rcases hgo with h | h
          · exact h
          · exact absurd h hstop
        have HX : Hid ((runL s.size s.data.toList).1 = (pos + wd) + (runL f (s.data.toList.drop (pos + wd))).1) := HGO.out hn
        have hcs : L = true ∨ (L = false ∧ D = true) ∨ (L = false ∧ D = false ∧ r = 95) := by
          cases L <;> cases D <;> simp
          exact Decidable.byContradiction fun h => hstop ⟨rfl, rfl, h⟩
        clear HGO HEN HNR hgo hstop hn
        rcases hcs with rfl | ⟨rfl, rfl⟩ | ⟨rfl, rfl, rfl⟩
        all_goals
          go_wp2_with (first
            | (go_at_call 34; refine (hLe _).mono ?_; rintro e w' ⟨rfl, rfl⟩)
            | (go_at_call 36; refine (hDi _).mono ?_; rintro e w' ⟨rfl, rfl⟩))
          go_roundw
          case rel => exact ⟨pos + wd, f, rfl, by omega, by omega, HX.out⟩
          case measure => simp; omega
    · have hnx : ∀ ty, (Instr.next (.pointer (some ⟨w.heap.size, 0, none⟩)) true ty).run Tryd.prog (w.iter s pos) = _ := fun ty => run_next_end w s pos ty hp
      have HE : Hid (s = T) := by
        refine (?_ : _ = _)
        have hRs : R = s.size := by
          rw [← HR.out, HC.out, runD_stop _ _ (.inl (List.drop_eq_nil_of_le (by rw [HL.out]; omega)))]
          simp only; omega
        rw [← HT.out, hRs, List.take_of_length_le (by rw [HL.out]; exact Nat.le_refl _), mkB_data]
      go_wp2
      go_ret
      exact ⟨retSD HE.out, HB _⟩
end Go.Proofs.YtbfkaanmbdekfaaDoor
