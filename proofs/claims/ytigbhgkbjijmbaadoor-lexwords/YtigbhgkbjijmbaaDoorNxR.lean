/-
  The walks over the document's own next, run, number and right.
-/
import Derived.Test.YtigbhgkbjijmbaaDoorVal
import Derived.Test.YtigbhgkbjijmbaaDoorLxM
namespace Go.Proofs.YtigbhgkbjijmbaaDoor
set_option linter.unusedVariables false
open Go.ChangeShapes Go.WideShapes Go.ChangeAt Go.RowKit

theorem decodeL_data (s : ByteArray) : Lib.decodeL s.data.toList = Utf8.decode s 0 := by
  have := Lib.decodeL_drop s 0
  simpa using this
set_option maxHeartbeats 1000000 in
theorem nextR_any (s : ByteArray) (w : World) (hT : Tabs w) :
    Calls Tryd.prog 15 #[.string s] w fun e w' => e = .returned (.tuple #[.int .i32 (nx s.data.toList).1, .int .i64 ((nx s.data.toList).2 : Int)]) ∧ Below w.heap.size w w' := by
  have hD := utf8_DecodeRuneInString s w hT
  have hnx : nx s.data.toList = if (Lib.decodeGo s).1 = 65533 ∧ (Lib.decodeGo s).2 ≤ 1 then (-1, (Lib.decodeGo s).2) else (((Lib.decodeGo s).1 : Int), (Lib.decodeGo s).2) := by
    unfold nx Lib.decodeGo
    rw [decodeL_data]
    by_cases h0 : s.size = 0
    · have e : s.data.toList = [] := List.eq_nil_of_length_eq_zero (by rw [len_data]; exact h0)
      simp [e, h0]
    · have e : s.data.toList ≠ [] := by intro e; have := len_data s; rw [e] at this; simp at this; omega
      rw [if_neg e, if_neg h0]
  rw [hnx]
  clear hnx
  generalize (Lib.decodeGo s).1 = r at *
  generalize (Lib.decodeGo s).2 = n at *
  by_cases h : r = 65533 ∧ n ≤ 1
  · rw [if_pos h]
    obtain ⟨rfl, h1⟩ := h
    have h1' : (n : Int) ≤ 1 := by omega
    go_enter Tryd.func15, Tryd.ntmps15
    go_wp2_with fail
    refine hD.mono ?_
    rintro e w1 ⟨rfl, hb⟩
    go_wp2_with fail
    go_ret2
    exact ⟨rfl, hb⟩
  · rw [if_neg h]
    by_cases hr : r = 65533
    · subst hr
      have h1' : ¬ (n : Int) ≤ 1 := by omega
      clear h
      go_enter Tryd.func15, Tryd.ntmps15
      go_wp2_with fail
      refine hD.mono ?_
      rintro e w1 ⟨rfl, hb⟩
      go_wp2_with fail
      go_ret2
      exact ⟨rfl, hb⟩
    · have hr' : ((r : Int) == 65533) = false := beq_eq_false_iff_ne.2 (by omega)
      clear h
      go_enter Tryd.func15, Tryd.ntmps15
      go_wp2_with fail
      refine hD.mono ?_
      rintro e w1 ⟨rfl, hb⟩
      go_wp2_with fail
      go_ret2
      exact ⟨rfl, hb⟩

theorem runL_step (f : Nat) (l : List UInt8) (h : l ≠ []) (hr : nameRune (nx l).1 = true) : runL (f + 1) l = ((nx l).2 + (runL f (l.drop (nx l).2)).1, (runL f (l.drop (nx l).2)).2 + 1) := by rw [runL, if_pos ⟨h, hr⟩]
theorem runL_stop (f : Nat) (l : List UInt8) (h : l = [] ∨ nameRune (nx l).1 = false) : runL f l = (0, 0) := by
  cases f with
  | zero => rfl
  | succ f =>
    rw [runL, if_neg]
    rintro ⟨h1, h2⟩
    rcases h with h | h
    · exact h1 h
    · rw [h] at h2; simp at h2
theorem drop_ne {l : List UInt8} {k : Nat} (h : k < l.length) : l.drop k ≠ [] := by
  intro e; have := congrArg List.length e; rw [List.length_drop, List.length_nil] at this; omega
theorem retII {a b c d : Int} (h1 : a = c) (h2 : b = d) : Ending.returned (.tuple #[.int .i64 a, .int .i64 b]) = .returned (.tuple #[.int .i64 c, .int .i64 d]) := by rw [h1, h2]
set_option maxHeartbeats 2000000 in
theorem runR_any (s : ByteArray) (w : World) (hT : Tabs w) (hs : s.size ≤ 1048576) :
    Calls Tryd.prog 17 #[.string s] w fun e w' => e = .returned (.tuple #[.int .i64 ((runL s.size s.data.toList).1 : Int), .int .i64 ((runL s.size s.data.toList).2 : Int)]) ∧ Below w.heap.size w w' := by
  have HL : Hid (s.data.toList.length = s.size) := len_data s
  have hN := fun (k : Nat) W hTW => nextR_any (s.extract k s.size) W hTW
  have HX : Hid (∀ k, (s.extract k s.size).data.toList = s.data.toList.drop k) := fun k => Lib.extract_to_end s k
  obtain ⟨R1, hR1⟩ : ∃ R1, (runL s.size s.data.toList).1 = R1 := ⟨_, rfl⟩
  obtain ⟨R2, hR2⟩ : ∃ R2, (runL s.size s.data.toList).2 = R2 := ⟨_, rfl⟩
  rw [hR1, hR2]
  have HR1 : Hid ((runL s.size s.data.toList).1 = R1) := hR1
  have HR2 : Hid ((runL s.size s.data.toList).2 = R2) := hR2
  clear hR1 hR2
  go_enter Tryd.func17, Tryd.ntmps17
  go_wp2_with fail
  go_loopw [4, 5] (fun n m wr => ∃ (k q f : Nat), n = .int .i64 k ∧ m = .int .i64 q ∧ k ≤ s.size ∧ q ≤ k ∧ s.size ≤ k + f ∧ Below w.heap.size w wr ∧ (runL s.size s.data.toList).1 = k + (runL f (s.data.toList.drop k)).1 ∧ (runL s.size s.data.toList).2 = q + (runL f (s.data.toList.drop k)).2) (fun n _ _ => s.size - (intOf n).toNat)
  case atStart => exact ⟨0, 0, s.size, rfl, rfl, by omega, by omega, by omega, Below.refl _ _, by simp, by simp⟩
  case round =>
    obtain ⟨k, q, f, rfl, rfl, hk, hq, hf, hbw, e1, e2⟩ := hrel
    have E1 : Hid ((runL s.size s.data.toList).1 = k + (runL f (s.data.toList.drop k)).1) := e1
    have E2 : Hid ((runL s.size s.data.toList).2 = q + (runL f (s.data.toList.drop k)).2) := e2
    clear e1 e2
    have hTr := tabs_below hT hbw
    by_cases hlt : k < s.size
    · have hne : s.data.toList.drop k ≠ [] := drop_ne (by rw [HL.out]; exact hlt)
      have hwd := nx_width _ hne
      have hrb := nx_le (s.data.toList.drop k)
      have hNk := hN k wr hTr
      rw [HX.out] at hNk
      have hwl : (s.data.toList.drop k).length = s.size - k := by rw [List.length_drop, HL.out]
      have HST : Hid (∀ g, nameRune (nx (s.data.toList.drop k)).1 = true → runL (g + 1) (s.data.toList.drop k) = ((nx (s.data.toList.drop k)).2 + (runL g (s.data.toList.drop (k + (nx (s.data.toList.drop k)).2))).1, (runL g (s.data.toList.drop (k + (nx (s.data.toList.drop k)).2))).2 + 1)) := fun g h => by
        rw [runL_step g _ hne h, List.drop_drop]
      have HSO : Hid (∀ g, nameRune (nx (s.data.toList.drop k)).1 = false → runL g (s.data.toList.drop k) = (0, 0)) := fun g h => runL_stop g _ (.inr h)
      clear hN hne
      obtain ⟨f, rfl⟩ : ∃ f', f = f' + 1 := ⟨f - 1, by omega⟩
      rw [hwl] at hwd
      clear hwl
      generalize (nx (s.data.toList.drop k)).2 = kw at *
      generalize (nx (s.data.toList.drop k)).1 = r at *
      have hLe := fun W => letterR_any r W
      have hDi := fun W => digitR_any r W
      have hnr : nameRune r = (isLetter r || isDigit r || decide (r = 95)) := rfl
      obtain ⟨L, hL⟩ : ∃ L, isLetter r = L := ⟨_, rfl⟩
      obtain ⟨D, hD⟩ : ∃ D, isDigit r = D := ⟨_, rfl⟩
      rw [hL] at hLe hnr
      rw [hD] at hDi hnr
      have HNR : Hid (nameRune r = (L || D || decide (r = 95))) := hnr
      clear hL hD hnr
      have hw1 : IntKind.i64.wrap ((k : Int) + (kw : Int)) = ((k + kw : Nat) : Int) := by rw [IntKind.wrap_i64]; omega
      have hgo : nameRune r = true → ((runL s.size s.data.toList).1 = (k + kw) + (runL f (s.data.toList.drop (k + kw))).1 ∧ (runL s.size s.data.toList).2 = (q + 1) + (runL f (s.data.toList.drop (k + kw))).2) := fun h => by
        rw [E1.out, E2.out, HST.out f h]; simp only; omega
      have HGO : Hid (nameRune r = true → ((runL s.size s.data.toList).1 = (k + kw) + (runL f (s.data.toList.drop (k + kw))).1 ∧ (runL s.size s.data.toList).2 = (q + 1) + (runL f (s.data.toList.drop (k + kw))).2)) := hgo
      have hend : nameRune r = false → (R1 = k ∧ R2 = q) := fun h => by
        rw [← HR1.out, ← HR2.out, E1.out, E2.out, HSO.out _ h]; simp
      have HEN : Hid (nameRune r = false → (R1 = k ∧ R2 = q)) := hend
      clear hgo hend
      cases L with
      | true =>
        have hok := HGO.out (by rw [HNR.out]; rfl)
        have HOK : Hid ((runL s.size s.data.toList).1 = (k + kw) + (runL f (s.data.toList.drop (k + kw))).1 ∧ (runL s.size s.data.toList).2 = (q + 1) + (runL f (s.data.toList.drop (k + kw))).2) := hok
        clear hok
        go_wp2_with fail
        refine hNk.mono ?_
        rintro e w1 ⟨rfl, hb1⟩
        have hb1 := hbw.trans (hb1.mono hbw.size)
        clear hNk
        go_wp2_with fail
        refine (hLe _).mono ?_
        rintro e w2 ⟨rfl, rfl⟩
        go_wp2_with fail
        go_roundw
        case rel => exact ⟨k + kw, q + 1, f, by go_num, by go_num, by omega, by omega, by omega, hb1, HOK.out.1, HOK.out.2⟩
        case measure => simp [intOf]; omega
      | false =>
        have hcase : (D = true) ∨ (D = false ∧ r = 95) ∨ (D = false ∧ r ≠ 95) := by
          cases D
          · by_cases h : r = 95
            · exact .inr (.inl ⟨rfl, h⟩)
            · exact .inr (.inr ⟨rfl, h⟩)
          · exact .inl rfl
        rcases hcase with rfl | ⟨rfl, rfl⟩ | ⟨rfl, h95⟩
        · have HOK : Hid ((runL s.size s.data.toList).1 = (k + kw) + (runL f (s.data.toList.drop (k + kw))).1 ∧ (runL s.size s.data.toList).2 = (q + 1) + (runL f (s.data.toList.drop (k + kw))).2) := HGO.out (by rw [HNR.out]; rfl)
          clear HGO HEN HNR
          go_wp2_with fail
          refine hNk.mono ?_
          rintro e w1 ⟨rfl, hb1⟩
          have hb1 := hbw.trans (hb1.mono hbw.size)
          clear hNk
          go_wp2_with fail
          refine (hLe _).mono ?_
          rintro e w2 ⟨rfl, rfl⟩
          go_wp2_with fail
          refine (hDi _).mono ?_
          rintro e w3 ⟨rfl, rfl⟩
          go_wp2_with fail
          go_roundw
          case rel => exact ⟨k + kw, q + 1, f, by go_num, by go_num, by omega, by omega, by omega, hb1, HOK.out.1, HOK.out.2⟩
          case measure => simp [intOf]; omega
        · have HOK : Hid ((runL s.size s.data.toList).1 = (k + kw) + (runL f (s.data.toList.drop (k + kw))).1 ∧ (runL s.size s.data.toList).2 = (q + 1) + (runL f (s.data.toList.drop (k + kw))).2) := HGO.out (by rw [HNR.out]; rfl)
          clear HGO HEN HNR
          go_wp2_with fail
          refine hNk.mono ?_
          rintro e w1 ⟨rfl, hb1⟩
          have hb1 := hbw.trans (hb1.mono hbw.size)
          clear hNk
          go_wp2_with fail
          refine (hLe _).mono ?_
          rintro e w2 ⟨rfl, rfl⟩
          go_wp2_with fail
          refine (hDi _).mono ?_
          rintro e w3 ⟨rfl, rfl⟩
          go_wp2_with fail
          go_roundw
          case rel => exact ⟨k + kw, q + 1, f, by go_num, by go_num, by omega, by omega, by omega, hb1, HOK.out.1, HOK.out.2⟩
          case measure => simp [intOf]; omega
        · have HE : Hid (R1 = k ∧ R2 = q) := HEN.out (by rw [HNR.out]; simp [h95])
          have h95' : (r != 95) = true := by simpa using h95
          clear HGO HEN HNR
          go_wp2_with fail
          refine hNk.mono ?_
          rintro e w1 ⟨rfl, hb1⟩
          have hb1 := hbw.trans (hb1.mono hbw.size)
          clear hNk
          go_wp2_with fail
          refine (hLe _).mono ?_
          rintro e w2 ⟨rfl, rfl⟩
          go_wp2_with fail
          refine (hDi _).mono ?_
          rintro e w3 ⟨rfl, rfl⟩
          go_wp2_with fail
          go_ret2
          exact ⟨retII (by rw [HE.out.1]) (by rw [HE.out.2]), hb1⟩
    · have HE : Hid (R1 = k ∧ R2 = q) := by
        refine (?_ : _ ∧ _)
        rw [← HR1.out, ← HR2.out, E1.out, E2.out, runL_stop _ _ (.inl (List.drop_eq_nil_of_le (by rw [HL.out]; omega)))]
        simp
      go_wp2_with fail
      go_ret2
      exact ⟨retII (by rw [HE.out.1]) (by rw [HE.out.2]), hbw⟩
end Go.Proofs.YtigbhgkbjijmbaaDoor
