/-
  The walk over the document's own Name: whether a text is a name.
  A name's text is valid; the library's tables stand behind calls. Nothing is proved of the program here.
-/
import Derived.Test.YtkhnicppcbgdiaaGreatDoorM12
import Derived.Test.YtkhnicppcbgdiaaGreatDoorM0
import Derived.Lib.ValidLaws
import Derived.Lib.TrimUEq
namespace Go.Proofs.YtkhnicppcbgdiaaGreatDoor
set_option linter.unusedVariables false
open Go.ChangeShapes Go.WideShapes Go.ChangeAt Go.RowKit

/-- whether a text is a name -/
def isName (s : ByteArray) : Bool := Lib.validD s.data.toList && nameOf (runes s)
set_option maxHeartbeats 2000000 in
theorem nameR_any (s : ByteArray) (w : World) (hT : Tabs w) (h : s.size ≤ 70368744177664) :
    Calls Tryz.prog 43 #[.string s] w fun e w' => e = .returned (.bool (isName s)) ∧ Below w.heap.size w w' := by
  have hR := runesR_any s w hT h
  have hrl := runes_len s
  unfold isName
  obtain ⟨V, hV⟩ : ∃ V, Lib.validD s.data.toList = V := ⟨_, rfl⟩
  rw [hV] at hR ⊢
  cases V with
  | false =>
    simp only [Bool.false_eq_true, if_false] at hR
    rw [Bool.false_and]
    go_enter Tryz.func43, Tryz.ntmps43
    go_wp2_with fail
    refine hR.mono ?_
    rintro e w1 ⟨rfl, hb⟩
    go_wp2_with fail
    go_ret
    exact ⟨rfl, hb⟩
  | true =>
    simp only [if_true] at hR
    rw [Bool.true_and]
    generalize runes s = l at *
    have HR : Hid (Calls Tryz.prog 68 #[.string s] w fun e w' => (∃ g c, e = .returned (.tuple #[.slice (some ⟨g, 0, none⟩) l.length c, .bool true]) ∧ HeldR w' g l ∧ l.length ≤ c) ∧ Below w.heap.size w w') := hR
    clear hR hV
    obtain ⟨n, hn⟩ : ∃ n, l.length = n := ⟨_, rfl⟩
    have HN : Hid (l.length = n) := hn
    rw [hn] at hrl
    clear hn
    have HNO : Hid (nameOf l = (decide (1 ≤ n ∧ n ≤ 40) && isLetter (l.headD 0) && l.all nameRune)) := by
      refine (?_ : nameOf l = _)
      unfold nameOf; rw [HN.out]
    by_cases h0 : n = 0
    · have HV : Hid (nameOf l = false) := by
        refine (?_ : nameOf l = false)
        rw [HNO.out, decide_eq_false (by omega)]; simp
      clear HNO
      go_enter Tryz.func43, Tryz.ntmps43
      go_wp2_with fail
      refine HR.out.mono ?_
      rintro e w1 ⟨⟨g, c, rfl, hH, hc⟩, hb⟩
      rw [HN.out, h0]
      clear hH
      go_wp2_with fail
      go_ret
      exact ⟨retB HV.out.symm, hb⟩
    · by_cases h40 : 40 < n
      · have HV : Hid (nameOf l = false) := by
          refine (?_ : nameOf l = false)
          rw [HNO.out, decide_eq_false (by omega)]; simp
        clear HNO
        go_enter Tryz.func43, Tryz.ntmps43
        go_wp2_with fail
        refine HR.out.mono ?_
        rintro e w1 ⟨⟨g, c, rfl, hH, hc⟩, hb⟩
        rw [HN.out]
        clear hH hc
        go_wp2_with fail
        go_ret
        exact ⟨retB HV.out.symm, hb⟩
      · obtain ⟨z0, hz0⟩ : ∃ z, l[0]? = some z := ⟨_, List.getElem?_eq_getElem (by have := HN.out; omega)⟩
        have hhd : l.headD 0 = z0 := by
          cases l with
          | nil => simp at hz0
          | cons a t => simpa using hz0
        obtain ⟨L0, hL0⟩ : ∃ L0, isLetter z0 = L0 := ⟨_, rfl⟩
        have HNV : Hid (nameOf l = (L0 && l.all nameRune)) := by
          refine (?_ : nameOf l = _)
          rw [HNO.out, decide_eq_true (by omega), hhd, hL0]; simp
        have HLe := fun W => letterR_any z0 W
        rw [hL0] at HLe
        clear HNO hhd hL0
        cases L0 with
        | false =>
          have HV : Hid (nameOf l = false) := by
            refine (?_ : nameOf l = false)
            rw [HNV.out]; simp
          go_enter Tryz.func43, Tryz.ntmps43
          go_wp2_with fail
          refine HR.out.mono ?_
          rintro e w1 ⟨⟨g, c, rfl, hH, hc⟩, hb⟩
          have hc0 := hH 0 z0 hz0
          rw [HN.out]
          rw [HN.out] at hc
          clear hH
          go_wp2_with fail
          refine (HLe _).mono ?_
          rintro e w2 ⟨rfl, rfl⟩
          go_wp2_with fail
          go_ret
          exact ⟨retB HV.out.symm, hb⟩
        | true =>
          have HV : Hid (nameOf l = l.all nameRune) := by
            refine (?_ : nameOf l = l.all nameRune)
            rw [HNV.out]; simp
          clear HNV
          go_enter Tryz.func43, Tryz.ntmps43
          go_wp2_with fail
          refine HR.out.mono ?_
          rintro e w1 ⟨⟨g, c, rfl, hH, hc⟩, hb⟩
          have hc0 := hH 0 z0 hz0
          rw [HN.out]
          rw [HN.out] at hc
          have HH : Hid (HeldR w1 g l) := hH
          have HB : Hid (Below w.heap.size w w1) := hb
          clear hH hb hz0
          go_wp2_with fail
          refine (HLe _).mono ?_
          rintro e w2 ⟨rfl, rfl⟩
          clear hc0 HLe
          go_wp2_with fail
          go_loop [32] (fun i => ∃ k : Nat, k ≤ n ∧ i = .int .i64 k ∧ l.all nameRune = (l.drop k).all nameRune) (fun i => n - (intOf i).toNat)
          case atStart => exact ⟨0, by omega, rfl, rfl⟩
          case round =>
            obtain ⟨k, hk, rfl, hall⟩ := hrel
            have HA : Hid (l.all nameRune = (l.drop k).all nameRune) := hall
            clear hall
            by_cases hlt : k < n
            · obtain ⟨z, hz⟩ : ∃ z, l[k]? = some z := ⟨_, List.getElem?_eq_getElem (by have := HN.out; omega)⟩
              have hcell := HH.out k z hz
              have HS : Hid (l.all nameRune = (nameRune z && (l.drop (k + 1)).all nameRune)) := by
                refine (?_ : l.all nameRune = _)
                rw [HA.out, all_drop hz]
              clear hz HA
              obtain ⟨Lz, hLz⟩ : ∃ Lz, isLetter z = Lz := ⟨_, rfl⟩
              obtain ⟨Dz, hDz⟩ : ∃ Dz, isDigit z = Dz := ⟨_, rfl⟩
              have hle := fun W => letterR_any z W
              have hdi := fun W => digitR_any z W
              rw [hLz] at hle
              rw [hDz] at hdi
              have HNR : Hid (nameRune z = (Lz || Dz || decide (z = 95))) := by
                refine (?_ : nameRune z = _)
                unfold nameRune; rw [hLz, hDz]
              clear hLz hDz
              cases Lz with
              | true =>
                have HX : Hid (l.all nameRune = (l.drop (k + 1)).all nameRune) := by
                  refine (?_ : l.all nameRune = _)
                  rw [HS.out, HNR.out]; simp
                clear HS HNR
                go_wp2_with fail
                refine (hle _).mono ?_
                rintro e w2 ⟨rfl, rfl⟩
                go_wp2_with fail
                go_round
                case rel => exact ⟨k + 1, by omega, by go_num, HX.out⟩
                case measure => simp [intOf]; omega
              | false =>
                cases Dz with
                | true =>
                  have HX : Hid (l.all nameRune = (l.drop (k + 1)).all nameRune) := by
                    refine (?_ : l.all nameRune = _)
                    rw [HS.out, HNR.out]; simp
                  clear HS HNR
                  go_wp2_with fail
                  refine (hle _).mono ?_
                  rintro e w2 ⟨rfl, rfl⟩
                  go_wp2_with fail
                  refine (hdi _).mono ?_
                  rintro e w2 ⟨rfl, rfl⟩
                  go_wp2_with fail
                  go_round
                  case rel => exact ⟨k + 1, by omega, by go_num, HX.out⟩
                  case measure => simp [intOf]; omega
                | false =>
                  by_cases hz95 : z = 95
                  · subst hz95
                    have HX : Hid (l.all nameRune = (l.drop (k + 1)).all nameRune) := by
                      refine (?_ : l.all nameRune = _)
                      rw [HS.out, HNR.out]; simp
                    clear HS HNR
                    go_wp2_with fail
                    refine (hle _).mono ?_
                    rintro e w2 ⟨rfl, rfl⟩
                    go_wp2_with fail
                    refine (hdi _).mono ?_
                    rintro e w2 ⟨rfl, rfl⟩
                    go_wp2_with fail
                    go_round
                    case rel => exact ⟨k + 1, by omega, by go_num, HX.out⟩
                    case measure => simp [intOf]; omega
                  · have HX : Hid (nameOf l = false) := by
                      refine (?_ : nameOf l = false)
                      rw [HV.out, HS.out, HNR.out]; simp [hz95]
                    have h95 : (z == 95) = false := by simpa using hz95
                    clear HS HNR
                    go_wp2_with fail
                    refine (hle _).mono ?_
                    rintro e w2 ⟨rfl, rfl⟩
                    go_wp2_with fail
                    refine (hdi _).mono ?_
                    rintro e w2 ⟨rfl, rfl⟩
                    go_wp2_with fail
                    go_ret
                    exact ⟨retB HX.out.symm, HB.out⟩
            · have HX : Hid (nameOf l = true) := by
                refine (?_ : nameOf l = true)
                rw [HV.out, HA.out, List.drop_eq_nil_of_le (by have := HN.out; omega)]; rfl
              clear HA
              go_wp2_with fail
              go_ret
              exact ⟨retB HX.out.symm, HB.out⟩
end Go.Proofs.YtkhnicppcbgdiaaGreatDoor
namespace Go.Proofs.YtkhnicppcbgdiaaGreatDoor
set_option linter.unusedVariables false
open Go.ChangeShapes Go.WideShapes Go.ChangeAt Go.RowKit

theorem valid_of_runes (s : ByteArray) : ∀ (b pos : Nat), s.size ≤ pos + b → (∀ r ∈ rns s b pos, r ≠ 65533) → Lib.validD (s.data.toList.drop pos) = true
  | b, pos, hb, h => by
    by_cases hp : pos < s.size
    · cases b with
      | zero => omega
      | succ b =>
        have hne : s.data.toList.drop pos ≠ [] := by
          intro e
          have := congrArg List.length e
          rw [List.length_drop, List.length_nil] at this
          have := len_data s
          omega
        rw [rns_step s b pos hp] at h
        have hw := width_pos s pos hp
        rw [Lib.validD_step _ hne, Lib.decodeL_drop, if_neg, List.drop_drop]
        · exact valid_of_runes s b (pos + (Utf8.decode s pos).2) (by omega) (fun r hr => h r (List.mem_cons_of_mem _ hr))
        · rintro ⟨h1, _⟩
          have := h _ List.mem_cons_self
          omega
    · have e : s.data.toList.drop pos = [] := List.drop_eq_nil_of_le (by rw [len_data]; omega)
      rw [e]; rfl
theorem valid_of_name (s : ByteArray) (h : nameOf (runes s) = true) : Lib.validD s.data.toList = true := by
  have := valid_of_runes s s.size 0 (by omega) (fun r hr => by
    have := two_of_name (name_all h r hr)
    unfold two at this; omega)
  simpa using this
theorem isName_eq (s : ByteArray) : isName s = nameOf (runes s) := by
  unfold isName
  by_cases h : nameOf (runes s) = true
  · rw [h, valid_of_name s h]; rfl
  · rw [Bool.not_eq_true] at h
    rw [h, Bool.and_false]
end Go.Proofs.YtkhnicppcbgdiaaGreatDoor
