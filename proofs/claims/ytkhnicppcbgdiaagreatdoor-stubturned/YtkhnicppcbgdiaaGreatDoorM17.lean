/-
  The walks over the document's own bare and long: names of stubs.
-/
import Derived.Test.YtkhnicppcbgdiaaGreatDoorM16
import Derived.Test.YtkhnicppcbgdiaaGreatDoorM13
namespace Go.Proofs.YtkhnicppcbgdiaaGreatDoor
set_option linter.unusedVariables false
open Go.ChangeShapes Go.WideShapes Go.ChangeAt Go.RowKit

def isLong (s : ByteArray) : Bool := Lib.validD s.data.toList && msgN (runes s)
theorem isLong_eq (s : ByteArray) : isLong s = msgN (runes s) := by
  unfold isLong
  cases h : msgN (runes s) with
  | false => rw [Bool.and_false]
  | true =>
    have h2 := h
    unfold msgN at h2
    simp only [Bool.and_eq_true, List.all_eq_true] at h2
    have := valid_of_runes s s.size 0 (by omega) (fun r hr e => by
      have h3 := two_of_name (h2.2 r hr)
      unfold two at h3
      omega)
    rw [List.drop_zero] at this
    rw [this]; rfl
set_option maxHeartbeats 2000000 in
theorem longR_any (s : ByteArray) (w : World) (hT : Tabs w) (h : s.size ≤ 70368744177664) :
    Calls Tryz.prog 76 #[.string s] w fun e w' => e = .returned (.bool (isLong s)) ∧ Below w.heap.size w w' := by
  have hR := runesR_any s w hT h
  have hrl := runes_len s
  unfold isLong
  obtain ⟨V, hV⟩ : ∃ V, Lib.validD s.data.toList = V := ⟨_, rfl⟩
  rw [hV] at hR ⊢
  cases V with
  | false =>
    simp only [Bool.false_eq_true, if_false] at hR
    rw [Bool.false_and]
    go_enter Tryz.func76, Tryz.ntmps76
    go_wp2_with fail
    refine hR.mono ?_
    rintro e w1 ⟨rfl, hb⟩
    go_wp2_with fail
    go_ret
    exact ⟨rfl, hb⟩
  | true =>
    simp only [if_true] at hR
    rw [Bool.true_and]
    generalize runes s = l at *
    have HR : Hid (Calls Tryz.prog 68 #[.string s] w fun e w' => (∃ g c, e = .returned (.tuple #[.slice (some ⟨g, 0, none⟩) l.length c, .bool true]) ∧ HeldR w' g l ∧ l.length ≤ c) ∧ Below w.heap.size w w') := hR
    clear hR hV
    obtain ⟨n, hn⟩ : ∃ n, l.length = n := ⟨_, rfl⟩
    have HN : Hid (l.length = n) := hn
    rw [hn] at hrl
    clear hn
    have HNO : Hid (msgN l = (decide (1 ≤ n ∧ n ≤ 400) && isLetter (l.headD 0) && l.all nameRune)) := by
      refine (?_ : msgN l = _)
      unfold msgN; rw [HN.out]
    by_cases h0 : n = 0
    · have HV : Hid (msgN l = false) := by
        refine (?_ : msgN l = false)
        rw [HNO.out, decide_eq_false (by omega)]; simp
      clear HNO
      go_enter Tryz.func76, Tryz.ntmps76
      go_wp2_with fail
      refine HR.out.mono ?_
      rintro e w1 ⟨⟨g, c, rfl, hH, hc⟩, hb⟩
      rw [HN.out, h0]
      clear hH
      go_wp2_with fail
      go_ret
      exact ⟨retB HV.out.symm, hb⟩
    · by_cases h400 : 400 < n
      · have HV : Hid (msgN l = false) := by
          refine (?_ : msgN l = false)
          rw [HNO.out, decide_eq_false (by omega)]; simp
        clear HNO
        go_enter Tryz.func76, Tryz.ntmps76
        go_wp2_with fail
        refine HR.out.mono ?_
        rintro e w1 ⟨⟨g, c, rfl, hH, hc⟩, hb⟩
        rw [HN.out]
        clear hH hc
        go_wp2_with fail
        go_ret
        exact ⟨retB HV.out.symm, hb⟩
      · obtain ⟨z0, hz0⟩ : ∃ z, l[0]? = some z := ⟨_, List.getElem?_eq_getElem (by have := HN.out; omega)⟩
        have hhd : l.headD 0 = z0 := by
          cases l with
          | nil => simp at hz0
          | cons a t => simpa using hz0
        obtain ⟨L0, hL0⟩ : ∃ L0, isLetter z0 = L0 := ⟨_, rfl⟩
        have HNV : Hid (msgN l = (L0 && l.all nameRune)) := by
          refine (?_ : msgN l = _)
          rw [HNO.out, decide_eq_true (by omega), hhd, hL0]; simp
        have HLe := fun W => letterR_any z0 W
        rw [hL0] at HLe
        clear HNO hhd hL0
        cases L0 with
        | false =>
          have HV : Hid (msgN l = false) := by
            refine (?_ : msgN l = false)
            rw [HNV.out]; simp
          go_enter Tryz.func76, Tryz.ntmps76
          go_wp2_with fail
          refine HR.out.mono ?_
          rintro e w1 ⟨⟨g, c, rfl, hH, hc⟩, hb⟩
          have hc0 := hH 0 z0 hz0
          rw [HN.out]
          rw [HN.out] at hc
          clear hH
          go_wp2_with fail
          refine (HLe _).mono ?_
          rintro e w2 ⟨rfl, rfl⟩
          go_wp2_with fail
          go_ret
          exact ⟨retB HV.out.symm, hb⟩
        | true =>
          have HV : Hid (msgN l = l.all nameRune) := by
            refine (?_ : msgN l = l.all nameRune)
            rw [HNV.out]; simp
          clear HNV
          go_enter Tryz.func76, Tryz.ntmps76
          go_wp2_with fail
          refine HR.out.mono ?_
          rintro e w1 ⟨⟨g, c, rfl, hH, hc⟩, hb⟩
          have hc0 := hH 0 z0 hz0
          rw [HN.out]
          rw [HN.out] at hc
          have HH : Hid (HeldR w1 g l) := hH
          have HB : Hid (Below w.heap.size w w1) := hb
          clear hH hb hz0
          go_wp2_with fail
          refine (HLe _).mono ?_
          rintro e w2 ⟨rfl, rfl⟩
          clear hc0 HLe
          go_wp2_with fail
          go_loop [32] (fun i => ∃ k : Nat, k ≤ n ∧ i = .int .i64 k ∧ l.all nameRune = (l.drop k).all nameRune) (fun i => n - (intOf i).toNat)
          case atStart => exact ⟨0, by omega, rfl, rfl⟩
          case round =>
            obtain ⟨k, hk, rfl, hall⟩ := hrel
            have HA : Hid (l.all nameRune = (l.drop k).all nameRune) := hall
            clear hall
            by_cases hlt : k < n
            · obtain ⟨z, hz⟩ : ∃ z, l[k]? = some z := ⟨_, List.getElem?_eq_getElem (by have := HN.out; omega)⟩
              have hcell := HH.out k z hz
              have HS : Hid (l.all nameRune = (nameRune z && (l.drop (k + 1)).all nameRune)) := by
                refine (?_ : l.all nameRune = _)
                rw [HA.out, all_drop hz]
              clear hz HA
              obtain ⟨Lz, hLz⟩ : ∃ Lz, isLetter z = Lz := ⟨_, rfl⟩
              obtain ⟨Dz, hDz⟩ : ∃ Dz, isDigit z = Dz := ⟨_, rfl⟩
              have hle := fun W => letterR_any z W
              have hdi := fun W => digitR_any z W
              rw [hLz] at hle
              rw [hDz] at hdi
              have HNR : Hid (nameRune z = (Lz || Dz || decide (z = 95))) := by
                refine (?_ : nameRune z = _)
                unfold nameRune; rw [hLz, hDz]
              have hDz2 := hDz
              clear hLz hDz
              cases Lz with
              | true =>
                have HX : Hid (l.all nameRune = (l.drop (k + 1)).all nameRune) := by
                  refine (?_ : l.all nameRune = _)
                  rw [HS.out, HNR.out]; simp
                clear HS HNR
                go_wp2_with fail
                refine (hle _).mono ?_
                rintro e w2 ⟨rfl, rfl⟩
                go_wp2_with fail
                go_round
                case rel => exact ⟨k + 1, by omega, by go_num, HX.out⟩
                case measure => simp [intOf]; omega
              | false =>
                have HD : Hid (Dz = decide (48 ≤ z ∧ z ≤ 57)) := by
                  refine (?_ : _ = _)
                  rw [← hDz2]; rfl
                by_cases h48 : z < 48
                · have HX : Hid (msgN l = false) := by
                    refine (?_ : msgN l = false)
                    have h95 : decide (z = 95) = false := by rw [decide_eq_false_iff_not]; omega
                    rw [HV.out, HS.out, HNR.out, HD.out, h95, decide_eq_false (by omega)]; rfl
                  have h95 : (z == 95) = false := by simp; omega
                  clear HS HNR HD hDz2 hdi
                  go_wp2_with fail
                  refine (hle _).mono ?_
                  rintro e w2 ⟨rfl, rfl⟩
                  go_wp2_with fail
                  go_ret
                  exact ⟨retB HX.out.symm, HB.out⟩
                · by_cases h57 : 57 < z
                  · by_cases hz95 : z = 95
                    · subst hz95
                      have HX : Hid (l.all nameRune = (l.drop (k + 1)).all nameRune) := by
                        refine (?_ : l.all nameRune = _)
                        rw [HS.out, HNR.out]; simp
                      clear HS HNR HD hDz2 hdi
                      go_wp2_with fail
                      refine (hle _).mono ?_
                      rintro e w2 ⟨rfl, rfl⟩
                      go_wp2_with fail
                      go_round
                      case rel => exact ⟨k + 1, by omega, by go_num, HX.out⟩
                      case measure => simp [intOf]; omega
                    · have HX : Hid (msgN l = false) := by
                        refine (?_ : msgN l = false)
                        have h95 : decide (z = 95) = false := by rw [decide_eq_false_iff_not]; exact hz95
                        rw [HV.out, HS.out, HNR.out, HD.out, h95, decide_eq_false (by omega)]; rfl
                      have h95 : (z == 95) = false := by simpa using hz95
                      clear HS HNR HD hDz2 hdi
                      go_wp2_with fail
                      refine (hle _).mono ?_
                      rintro e w2 ⟨rfl, rfl⟩
                      go_wp2_with fail
                      go_ret
                      exact ⟨retB HX.out.symm, HB.out⟩
                  · have HX : Hid (l.all nameRune = (l.drop (k + 1)).all nameRune) := by
                      refine (?_ : l.all nameRune = _)
                      rw [HS.out, HNR.out, HD.out, decide_eq_true (by omega)]; simp
                    clear HS HNR HD hDz2 hdi
                    go_wp2_with fail
                    refine (hle _).mono ?_
                    rintro e w2 ⟨rfl, rfl⟩
                    go_wp2_with fail
                    go_round
                    case rel => exact ⟨k + 1, by omega, by go_num, HX.out⟩
                    case measure => simp [intOf]; omega
            · have HX : Hid (msgN l = true) := by
                refine (?_ : msgN l = true)
                rw [HV.out, HA.out, List.drop_eq_nil_of_le (by have := HN.out; omega)]; rfl
              clear HA
              go_wp2_with fail
              go_ret
              exact ⟨retB HX.out.symm, HB.out⟩
theorem longB_any (l : List UInt8) (w : World) (hT : Tabs w) (h : l.length ≤ 1000000) :
    Calls Tryz.prog 76 #[.string (mkB l)] w fun e w' => e = .returned (.bool (msgB l)) ∧ Below w.heap.size w w' := by
  have := longR_any (mkB l) w hT (by rw [mkB_sz]; omega)
  rw [isLong_eq] at this
  exact this
set_option maxHeartbeats 2000000 in
theorem bareR_any (l : List UInt8) (w : World) (hT : Tabs w) (h : l.length ≤ 1000000) :
    Calls Tryz.prog 75 #[.string (mkB l)] w fun e w' => e = .returned (.bool (camB l)) ∧ Below w.heap.size w w' := by
  have hN := nameR_any (mkB l) w hT (by rw [mkB_sz]; omega)
  rw [isName_eq] at hN
  have HC : Hid (camB l = (nameOf (runes (mkB l)) && !l.contains 95)) := rfl
  have hz := mkB_sz l
  have HAT : Hid (∀ (k : Nat) (hk : k < (mkB l).size), l[k]? = some ((mkB l)[k]'hk)) := by
    refine (?_ : ∀ _ _, _)
    intro k hk
    have := at_data (mkB l) k hk
    simpa [mkB] using this
  obtain ⟨n, hn⟩ : ∃ n, l.length = n := ⟨_, rfl⟩
  rw [hn] at hz h
  have HN := Lib.hid hn
  clear hn hT
  go_enter Tryz.func75, Tryz.ntmps75
  go_wp2_with fail
  go_loop [3] (fun i => ∃ k : Nat, k ≤ n ∧ i = .int .i64 k ∧ ∀ b ∈ l.take k, b ≠ 95) (fun i => n - (intOf i).toNat)
  case atStart => exact ⟨0, by omega, rfl, fun b hb => (by simp at hb)⟩
  case round =>
    obtain ⟨k, hk, rfl, hall⟩ := hrel
    have HA := Lib.hid hall
    clear hall
    by_cases hlt : k < n
    · have hk2 : k < (mkB l).size := by omega
      have hb := HAT.out k hk2
      have hsz : ((mkB l).size : Int) = (n : Int) := by omega
      have hlt2 : (k : Int) < ((mkB l).size : Int) := by omega
      by_cases h95 : ((mkB l)[k]'hk2).toNat = 95
      · have h95i : ((((mkB l)[k]'hk2).toNat : Int) == 95) = true := by simp [h95]
        have HX : Hid (camB l = false) := by
          refine (?_ : _ = _)
          have : l.contains 95 = true := by
            rw [List.contains_iff_mem]
            have := List.mem_of_getElem? hb
            have e : (mkB l)[k]'hk2 = 95 := UInt8.toNat_inj.1 (by rw [h95]; rfl)
            rw [e] at this
            exact this
          rw [HC.out, this]; simp
        have H95 := Lib.hid h95
        clear h95 hb hN
        go_wp2_with fail
        go_ret
        exact ⟨retB HX.out.symm, Below.refl _ _⟩
      · have h95i : ((((mkB l)[k]'hk2).toNat : Int) == 95) = false := by simp; omega
        have HA2 : Hid (∀ b ∈ l.take (k + 1), b ≠ 95) := by
          refine (?_ : ∀ _ _, _)
          intro b hb'
          rw [List.take_add_one, hb] at hb'
          rcases List.mem_append.1 hb' with h1 | h1
          · exact HA.out b h1
          · simp only [Option.toList_some, List.mem_cons, List.not_mem_nil, or_false] at h1
            subst h1
            intro e
            exact h95 (by rw [e]; rfl)
        have H95 := Lib.hid h95
        clear h95 hb hN
        go_wp2_with fail
        go_round
        case rel => exact ⟨k + 1, by omega, by go_num, HA2.out⟩
        case measure => simp [intOf]; omega
    · obtain rfl : k = n := by omega
      have hsz : ((mkB l).size : Int) = (k : Int) := by omega
      have HX : Hid (camB l = nameOf (runes (mkB l))) := by
        refine (?_ : _ = _)
        have : l.contains 95 = false := by
          rw [Bool.eq_false_iff]
          intro h
          rw [List.contains_iff_mem] at h
          have := HA.out 95
          rw [List.take_of_length_le (by rw [HN.out]; omega)] at this
          exact this h rfl
        rw [HC.out, this]; simp
      clear HC HA
      go_wp2_with fail
      refine hN.mono ?_
      rintro e w1 ⟨rfl, hb⟩
      go_wp2_with fail
      go_ret
      exact ⟨retB HX.out.symm, hb⟩
end Go.Proofs.YtkhnicppcbgdiaaGreatDoor
