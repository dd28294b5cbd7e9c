/-
  The walk over the document's own Name: whether a text is a name.
  A name's text is valid; the library's tables stand behind calls. Nothing is proved of the program here.
  The walks over the document's own Plain, Pieces and Path.
-/
import Derived.Test.YtkhnicppcbgdiaaGreatDoorM12
import Derived.Test.YtkhnicppcbgdiaaGreatDoorM0
import Derived.Lib.ValidLaws
import Derived.Lib.TrimUEq
import Derived.Test.YtkhnicppcbgdiaaGreatDoorM11
import Derived.Test.YtkhnicppcbgdiaaGreatDoorM5
import Derived.Test.YtkhnicppcbgdiaaGreatDoorM10
namespace Go.Proofs.YtkhnicppcbgdiaaGreatDoor
set_option linter.unusedVariables false
open Go.ChangeShapes Go.WideShapes Go.ChangeAt Go.RowKit

/-- whether a text is a name -/
def isName (s : ByteArray) : Bool := Lib.validD s.data.toList && nameOf (runes s)
set_option maxHeartbeats 2000000 in
theorem nameR_any (s : ByteArray) (w : World) (hT : Tabs w) (h : s.size ≤ 70368744177664) :
    Calls Tryz.prog 43 #[.string s] w fun e w' => e = .returned (.bool (isName s)) ∧ Below w.heap.size w w' := by
  have hR := runesR_any s w hT h
  have hrl := runes_len s
  unfold isName
  obtain ⟨V, hV⟩ : ∃ V, Lib.validD s.data.toList = V := ⟨_, rfl⟩
  rw [hV] at hR ⊢
  cases V with
  | false =>
    simp only [Bool.false_eq_true, if_false] at hR
    rw [Bool.false_and]
    go_enter Tryz.func43, Tryz.ntmps43
    go_wp2_with fail
    refine hR.mono ?_
    rintro e w1 ⟨rfl, hb⟩
    go_wp2_with fail
    go_ret
    exact ⟨rfl, hb⟩
  | true =>
    simp only [if_true] at hR
    rw [Bool.true_and]
    generalize runes s = l at *
    have HR : Hid (Calls Tryz.prog 68 #[.string s] w fun e w' => (∃ g c, e = .returned (.tuple #[.slice (some ⟨g, 0, none⟩) l.length c, .bool true]) ∧ HeldR w' g l ∧ l.length ≤ c) ∧ Below w.heap.size w w') := hR
    clear hR hV
    obtain ⟨n, hn⟩ : ∃ n, l.length = n := ⟨_, rfl⟩
    have HN : Hid (l.length = n) := hn
    rw [hn] at hrl
    clear hn
    have HNO : Hid (nameOf l = (decide (1 ≤ n ∧ n ≤ 40) && isLetter (l.headD 0) && l.all nameRune)) := by
      refine (?_ : nameOf l = _)
      unfold nameOf; rw [HN.out]
    by_cases h0 : n = 0
    · have HV : Hid (nameOf l = false) := by
        refine (?_ : nameOf l = false)
        rw [HNO.out, decide_eq_false (by omega)]; simp
      clear HNO
      go_enter Tryz.func43, Tryz.ntmps43
      go_wp2_with fail
      refine HR.out.mono ?_
      rintro e w1 ⟨⟨g, c, rfl, hH, hc⟩, hb⟩
      rw [HN.out, h0]
      clear hH
      go_wp2_with fail
      go_ret
      exact ⟨retB HV.out.symm, hb⟩
    · by_cases h40 : 40 < n
      · have HV : Hid (nameOf l = false) := by
          refine (?_ : nameOf l = false)
          rw [HNO.out, decide_eq_false (by omega)]; simp
        clear HNO
        go_enter Tryz.func43, Tryz.ntmps43
        go_wp2_with fail
        refine HR.out.mono ?_
        rintro e w1 ⟨⟨g, c, rfl, hH, hc⟩, hb⟩
        rw [HN.out]
        clear hH hc
        go_wp2_with fail
        go_ret
        exact ⟨retB HV.out.symm, hb⟩
      · obtain ⟨z0, hz0⟩ : ∃ z, l[0]? = some z := ⟨_, List.getElem?_eq_getElem (by have := HN.out; omega)⟩
        have hhd : l.headD 0 = z0 := by
          cases l with
          | nil => simp at hz0
          | cons a t => simpa using hz0
        obtain ⟨L0, hL0⟩ : ∃ L0, isLetter z0 = L0 := ⟨_, rfl⟩
        have HNV : Hid (nameOf l = (L0 && l.all nameRune)) := by
          refine (?_ : nameOf l = _)
          rw [HNO.out, decide_eq_true (by omega), hhd, hL0]; simp
        have HLe := fun W => letterR_any z0 W
        rw [hL0] at HLe
        clear HNO hhd hL0
        cases L0 with
        | false =>
          have HV : Hid (nameOf l = false) := by
            refine (?_ : nameOf l = false)
            rw [HNV.out]; simp
          go_enter Tryz.func43, Tryz.ntmps43
          go_wp2_with fail
          refine HR.out.mono ?_
          rintro e w1 ⟨⟨g, c, rfl, hH, hc⟩, hb⟩
          have hc0 := hH 0 z0 hz0
          rw [HN.out]
          rw [HN.out] at hc
          clear hH
          go_wp2_with fail
          refine (HLe _).mono ?_
          rintro e w2 ⟨rfl, rfl⟩
          go_wp2_with fail
          go_ret
          exact ⟨retB HV.out.symm, hb⟩
        | true =>
          have HV : Hid (nameOf l = l.all nameRune) := by
            refine (?_ : nameOf l = l.all nameRune)
            rw [HNV.out]; simp
          clear HNV
          go_enter Tryz.func43, Tryz.ntmps43
          go_wp2_with fail
          refine HR.out.mono ?_
          rintro e w1 ⟨⟨g, c, rfl, hH, hc⟩, hb⟩
          have hc0 := hH 0 z0 hz0
          rw [HN.out]
          rw [HN.out] at hc
          have HH : Hid (HeldR w1 g l) := hH
          have HB : Hid (Below w.heap.size w w1) := hb
          clear hH hb hz0
          go_wp2_with fail
          refine (HLe _).mono ?_
          rintro e w2 ⟨rfl, rfl⟩
          clear hc0 HLe
          go_wp2_with fail
          go_loop [32] (fun i => ∃ k : Nat, k ≤ n ∧ i = .int .i64 k ∧ l.all nameRune = (l.drop k).all nameRune) (fun i => n - (intOf i).toNat)
          case atStart => exact ⟨0, by omega, rfl, rfl⟩
          case round =>
            obtain ⟨k, hk, rfl, hall⟩ := hrel
            have HA : Hid (l.all nameRune = (l.drop k).all nameRune) := hall
            clear hall
            by_cases hlt : k < n
            · obtain ⟨z, hz⟩ : ∃ z, l[k]? = some z := ⟨_, List.getElem?_eq_getElem (by have := HN.out; omega)⟩
              have hcell := HH.out k z hz
              have HS : Hid (l.all nameRune = (nameRune z && (l.drop (k + 1)).all nameRune)) := by
                refine (?_ : l.all nameRune = _)
                rw [HA.out, all_drop hz]
              clear hz HA
              obtain ⟨Lz, hLz⟩ : ∃ Lz, isLetter z = Lz := ⟨_, rfl⟩
              obtain ⟨Dz, hDz⟩ : ∃ Dz, isDigit z = Dz := ⟨_, rfl⟩
              have hle := fun W => letterR_any z W
              have hdi := fun W => digitR_any z W
              rw [hLz] at hle
              rw [hDz] at hdi
              have HNR : Hid (nameRune z = (Lz || Dz || decide (z = 95))) := by
                refine (?_ : nameRune z = _)
                unfold nameRune; rw [hLz, hDz]
              clear hLz hDz
              cases Lz with
              | true =>
                have HX : Hid (l.all nameRune = (l.drop (k + 1)).all nameRune) := by
                  refine (?_ : l.all nameRune = _)
                  rw [HS.out, HNR.out]; simp
                clear HS HNR
                go_wp2_with fail
                refine (hle _).mono ?_
                rintro e w2 ⟨rfl, rfl⟩
                go_wp2_with fail
                go_round
                case rel => exact ⟨k + 1, by omega, by go_num, HX.out⟩
                case measure => simp [intOf]; omega
              | false =>
                cases Dz with
                | true =>
                  have HX : Hid (l.all nameRune = (l.drop (k + 1)).all nameRune) := by
                    refine (?_ : l.all nameRune = _)
                    rw [HS.out, HNR.out]; simp
                  clear HS HNR
                  go_wp2_with fail
                  refine (hle _).mono ?_
                  rintro e w2 ⟨rfl, rfl⟩
                  go_wp2_with fail
                  refine (hdi _).mono ?_
                  rintro e w2 ⟨rfl, rfl⟩
                  go_wp2_with fail
                  go_round
                  case rel => exact ⟨k + 1, by omega, by go_num, HX.out⟩
                  case measure => simp [intOf]; omega
                | false =>
                  by_cases hz95 : z = 95
                  · subst hz95
                    have HX : Hid (l.all nameRune = (l.drop (k + 1)).all nameRune) := by
                      refine (?_ : l.all nameRune = _)
                      rw [HS.out, HNR.out]; simp
                    clear HS HNR
                    go_wp2_with fail
                    refine (hle _).mono ?_
                    rintro e w2 ⟨rfl, rfl⟩
                    go_wp2_with fail
                    refine (hdi _).mono ?_
                    rintro e w2 ⟨rfl, rfl⟩
                    go_wp2_with fail
                    go_round
                    case rel => exact ⟨k + 1, by omega, by go_num, HX.out⟩
                    case measure => simp [intOf]; omega
                  · have HX : Hid (nameOf l = false) := by
                      refine (?_ : nameOf l = false)
                      rw [HV.out, HS.out, HNR.out]; simp [hz95]
                    have h95 : (z == 95) = false := by simpa using hz95
                    clear HS HNR
                    go_wp2_with fail
                    refine (hle _).mono ?_
                    rintro e w2 ⟨rfl, rfl⟩
                    go_wp2_with fail
                    refine (hdi _).mono ?_
                    rintro e w2 ⟨rfl, rfl⟩
                    go_wp2_with fail
                    go_ret
                    exact ⟨retB HX.out.symm, HB.out⟩
            · have HX : Hid (nameOf l = true) := by
                refine (?_ : nameOf l = true)
                rw [HV.out, HA.out, List.drop_eq_nil_of_le (by have := HN.out; omega)]; rfl
              clear HA
              go_wp2_with fail
              go_ret
              exact ⟨retB HX.out.symm, HB.out⟩
end Go.Proofs.YtkhnicppcbgdiaaGreatDoor
namespace Go.Proofs.YtkhnicppcbgdiaaGreatDoor
set_option linter.unusedVariables false
open Go.ChangeShapes Go.WideShapes Go.ChangeAt Go.RowKit

theorem valid_of_runes (s : ByteArray) : ∀ (b pos : Nat), s.size ≤ pos + b → (∀ r ∈ rns s b pos, r ≠ 65533) → Lib.validD (s.data.toList.drop pos) = true
  | b, pos, hb, h => by
    by_cases hp : pos < s.size
    · cases b with
      | zero => omega
      | succ b =>
        have hne : s.data.toList.drop pos ≠ [] := by
          intro e
          have := congrArg List.length e
          rw [List.length_drop, List.length_nil] at this
          have := len_data s
          omega
        rw [rns_step s b pos hp] at h
        have hw := width_pos s pos hp
        rw [Lib.validD_step _ hne, Lib.decodeL_drop, if_neg, List.drop_drop]
        · exact valid_of_runes s b (pos + (Utf8.decode s pos).2) (by omega) (fun r hr => h r (List.mem_cons_of_mem _ hr))
        · rintro ⟨h1, _⟩
          have := h _ List.mem_cons_self
          omega
    · have e : s.data.toList.drop pos = [] := List.drop_eq_nil_of_le (by rw [len_data]; omega)
      rw [e]; rfl
theorem valid_of_name (s : ByteArray) (h : nameOf (runes s) = true) : Lib.validD s.data.toList = true := by
  have := valid_of_runes s s.size 0 (by omega) (fun r hr => by
    have := two_of_name (name_all h r hr)
    unfold two at this; omega)
  simpa using this
theorem isName_eq (s : ByteArray) : isName s = nameOf (runes s) := by
  unfold isName
  by_cases h : nameOf (runes s) = true
  · rw [h, valid_of_name s h]; rfl
  · rw [Bool.not_eq_true] at h
    rw [h, Bool.and_false]
end Go.Proofs.YtkhnicppcbgdiaaGreatDoor
namespace Go.Proofs.YtkhnicppcbgdiaaGreatDoor
set_option linter.unusedVariables false
open Go.ChangeShapes Go.WideShapes Go.ChangeAt Go.RowKit

set_option maxHeartbeats 1000000 in
theorem plainR_any (s : ByteArray) (w : World) (hT : Tabs w) (h : s.size ≤ 70368744177664) :
    Calls Tryz.prog 41 #[.string s] w fun e w' => e = .returned (.bool (isPlain s)) ∧ Below w.heap.size w w' := by
  have hN := nameR_any s w hT h
  have hR := fun W => reservedR_any s W
  rw [isName_eq] at hN
  unfold isPlain
  generalize nameOf (runes s) = N at *
  generalize resOf s.toList = R at *
  cases N with
  | false =>
    go_enter Tryz.func41, Tryz.ntmps41
    go_wp2_with fail
    refine hN.mono ?_
    rintro e w1 ⟨rfl, hb⟩
    go_wp2_with fail
    go_ret
    exact ⟨rfl, hb⟩
  | true =>
    go_enter Tryz.func41, Tryz.ntmps41
    go_wp2_with fail
    refine hN.mono ?_
    rintro e w1 ⟨rfl, hb⟩
    go_wp2_with fail
    refine (hR _).mono ?_
    rintro e w2 ⟨rfl, rfl⟩
    go_wp2_with fail
    go_ret
    exact ⟨retB (by simp), hb⟩
theorem path_size (s : ByteArray) (h8 : (pieces s).length ≤ 8) (h : allPlain s = true) : s.size ≤ 2000 := by
  unfold allPlain at h
  rw [List.all_eq_true] at h
  have hj := jn_pcs s.data.toList []
  have hsz : ∀ x ∈ pcs [] s.data.toList, x.length ≤ 160 := by
    intro x hx
    have hp := h ⟨x.toArray⟩ (by unfold pieces; exact List.mem_map_of_mem hx)
    unfold isPlain at hp
    simp only [Bool.and_eq_true] at hp
    have := name_size _ hp.1
    simpa [ByteArray.size] using this
  have h1 := jn_size _ hsz
  rw [hj, List.nil_append, len_data] at h1
  unfold pieces at h8
  rw [List.length_map] at h8
  omega
set_option maxHeartbeats 4000000 in
theorem pathR_any (s : ByteArray) (w : World) (hT : Tabs w) (hs : s.size ≤ 70368744177664) :
    Calls Tryz.prog 38 #[.string s] w fun e w' => PathAns s e w' ∧ Below w.heap.size w w' := by
  by_cases h2 : s.size ≤ 2000
  · have hP := piecesR_any s w (by omega)
    have hpl := pieces_len s
    have h2' : ¬ (2000 : Int) < (s.size : Int) := by omega
    have HAns : Hid (∀ e w', (pieces s).length ≤ 8 → (allPlain s = true → ∃ g c, e = .returned (.tuple #[.slice (some ⟨g, 0, none⟩) (pieces s).length c, .bool true]) ∧ HeldS w' g (pieces s) ∧ (pieces s).length ≤ c) → (allPlain s = false → e = .returned (.tuple #[.slice none 0 0, .bool false])) → PathAns s e w') := by
      intro e w' h8 h1 h2
      unfold PathAns
      by_cases hp : allPlain s = true
      · rw [if_pos ⟨h8, hp⟩]; exact h1 hp
      · rw [if_neg (fun h => hp h.2)]; exact h2 (by simpa using hp)
    have HNo : Hid (∀ e w', ¬ (pieces s).length ≤ 8 → e = .returned (.tuple #[.slice none 0 0, .bool false]) → PathAns s e w') := fun e w' h he => pathAns_no (fun h' => h h'.1) he
    have HAP : Hid (allPlain s = (pieces s).all isPlain) := rfl
    have HSZ : Hid (∀ x ∈ pieces s, x.size ≤ 1048576) := fun x hx => by have := piece_size hx; omega
    generalize pieces s = xs at *
    generalize allPlain s = AP at *
    generalize PathAns s = PA at *
    go_enter Tryz.func38, Tryz.ntmps38
    go_wp2_with fail
    refine hP.mono ?_
    rintro e w1 ⟨⟨v, rfl, hown⟩, hb1⟩
    obtain ⟨g, c, cc, rfl, hg, hgh, hc, hH⟩ := ownS_slice hown hpl.1
    have HH : Hid (HeldS w1 g xs) := hH
    have hT1 := tabs_below hT hb1
    clear hP hown hgh hH
    obtain ⟨n, hn⟩ : ∃ n, xs.length = n := ⟨_, rfl⟩
    have HN : Hid (xs.length = n) := hn
    rw [hn] at hpl hc HAns HNo ⊢
    clear hn
    by_cases h8 : n ≤ 8
    · have h8' : ¬ (8 : Int) < (n : Int) := by omega
      have HAns2 := HAns
      go_wp2_with fail
      go_loopw [16] (fun i wr => ∃ k : Nat, k ≤ n ∧ i = .int .i64 k ∧ Below w1.heap.size w1 wr ∧ xs.all isPlain = (xs.drop k).all isPlain) (fun i _ => n - (intOf i).toNat)
      case atStart => exact ⟨0, by omega, rfl, Below.refl _ _, rfl⟩
      case round =>
        obtain ⟨k, hk, rfl, hbw, hall⟩ := hrel
        have HA : Hid (xs.all isPlain = (xs.drop k).all isPlain) := hall
        clear hall
        have hTr := tabs_below hT1 hbw
        have HB : Hid (Below w.heap.size w wr) := hb1.trans (hbw.mono hb1.size)
        have hsz := HB.out.size
        by_cases hlt : k < n
        · obtain ⟨z, hz⟩ : ∃ z, xs[k]? = some z := ⟨_, List.getElem?_eq_getElem (by have := HN.out; omega)⟩
          have hcell : wr.cell? ⟨g, k, none⟩ = some (.string z) := heldS_old HH.out hbw k z hz
          have hzs : z.size ≤ 1048576 := HSZ.out z (List.mem_of_getElem? hz)
          have HAP2 : Hid (xs.all isPlain = (isPlain z && (xs.drop (k + 1)).all isPlain)) := by
            refine (?_ : _ = _)
            rw [HA.out, all_dropS hz]
          have hPl := plainR_any z wr hTr (by omega)
          clear HA hz
          generalize isPlain z = PZ at *
          cases PZ with
          | false =>
            have HX : Hid (AP = false) := by
              refine (?_ : AP = false)
              rw [HAP.out, HAP2.out]; simp
            go_wp2_with fail
            refine hPl.mono ?_
            rintro e w2 ⟨rfl, hb2⟩
            clear hPl
            go_wp2_with fail
            go_ret2
            refine ⟨HAns.out _ _ h8 (fun h => by rw [HX.out] at h; simp at h) (fun _ => rfl), HB.out.trans (hb2.mono hsz)⟩
          | true =>
            have HX : Hid (xs.all isPlain = (xs.drop (k + 1)).all isPlain) := by
              refine (?_ : _ = _)
              rw [HAP2.out]; simp
            go_wp2_with fail
            refine hPl.mono ?_
            rintro e w2 ⟨rfl, hb2⟩
            have hb3 := hbw.trans (hb2.mono hbw.size)
            clear hPl hb2
            go_wp2_with fail
            go_roundw
            case rel => exact ⟨k + 1, by omega, by go_num, hb3, HX.out⟩
            case measure => simp [intOf]; omega
        · have HX : Hid (AP = true) := by
            refine (?_ : AP = true)
            rw [HAP.out, HA.out, List.drop_eq_nil_of_le (by have := HN.out; omega)]; rfl
          have HH2 : Hid (HeldS wr g xs) := heldS_old HH.out hbw
          clear HA
          go_wp2_with fail
          go_ret2
          refine ⟨HAns.out _ _ h8 (fun _ => ⟨_, _, rfl, HH2.out, hc⟩) (fun h => by rw [HX.out] at h; simp at h), HB.out⟩
    · have h8' : (8 : Int) < (n : Int) := by omega
      go_wp2_with fail
      go_ret2
      exact ⟨HNo.out _ _ h8 rfl, hb1⟩
  · have h2' : (2000 : Int) < (s.size : Int) := by omega
    have HP : Hid (∀ e w', e = .returned (.tuple #[.slice none 0 0, .bool false]) → PathAns s e w') := fun e w' he => pathAns_no (fun h => h2 (path_size s h.1 h.2)) he
    go_enter Tryz.func38, Tryz.ntmps38
    go_wp2_with fail
    go_ret2
    exact ⟨HP.out _ _ rfl, Below.refl _ _⟩

set_option maxHeartbeats 1000000 in
theorem plainQ_any (l : List UInt8) (w : World) (hT : Tabs w) (h : l.length ≤ 200000000) :
    Calls Tryz.prog 41 #[.string (mkB l)] w fun e w' => e = .returned (.bool (plainL l)) ∧ Below w.heap.size w w' := by
  have := plainR_any (mkB l) w hT (by rw [mkB_size]; omega)
  rw [show isPlain (mkB l) = plainL l by unfold isPlain plainL; rw [mkB_list]; rfl] at this
  exact this
theorem pathA_any (l : List UInt8) (w : World) (hT : Tabs w) (h : l.length ≤ 200000000) :
    Calls Tryz.prog 38 #[.string (mkB l)] w fun e w' => (∃ ad n c, e = .returned (.tuple #[.slice ad n c, .bool (pathOK l)])) ∧ Below w.heap.size w w' := by
  refine (pathR_any (mkB l) w hT (by rw [mkB_size]; omega)).mono fun e w' ⟨hA, hb⟩ => ⟨?_, hb⟩
  have hq := pathOK_pieces (mkB l)
  rw [show (mkB l).data.toList = l from rfl] at hq
  unfold PathAns at hA
  split at hA
  · rename_i hc
    obtain ⟨g, c, he, _⟩ := hA
    rw [hq, hc.2, decide_eq_true hc.1]
    exact ⟨_, _, _, he⟩
  · rename_i hc
    have : pathOK l = false := by
      rw [hq]
      by_cases h8 : (pieces (mkB l)).length ≤ 8
      · have : allPlain (mkB l) = false := by
          cases hz : allPlain (mkB l) with
          | false => rfl
          | true => exact absurd ⟨h8, hz⟩ hc
        rw [this]; simp
      · rw [decide_eq_false h8]; rfl
    rw [this]
    exact ⟨_, _, _, hA⟩
end Go.Proofs.YtkhnicppcbgdiaaGreatDoor
