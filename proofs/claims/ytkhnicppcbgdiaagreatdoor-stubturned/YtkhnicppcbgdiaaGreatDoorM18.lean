/-
  The walks over the document's own between and lines.
-/
import Derived.Test.YtkhnicppcbgdiaaGreatDoorM17
import Derived.Test.YtkhnicppcbgdiaaGreatDoorM11
import Derived.Deep.QuietTactic
import Derived.BigQuiet
namespace Go.Proofs.YtkhnicppcbgdiaaGreatDoor
set_option linter.unusedVariables false
open Go.ChangeShapes Go.WideShapes Go.ChangeAt Go.RowKit

theorem ext_mk (s : List UInt8) (a b : Nat) : (mkB s).extract a b = mkB ((s.drop a).take (b - a)) := by
  have := Lib.extract_data (mkB s) a b
  have e : (mkB s).data.toList = s := by simp [mkB]
  rw [e] at this
  rw [← this]
  rfl
theorem btw_no {s b e : List UInt8} (h : b.isPrefixOf s = false) : btw s b e = ([], [], false) := by
  unfold btw; rw [if_neg]; rw [h]; simp
theorem btw_hit {s b e : List UInt8} {i : Nat} (h : b.isPrefixOf s = true) (hi : i + e.length ≤ (s.drop b.length).length) (ho : ((s.drop b.length).drop i).take e.length = e) (hn : ∀ j, j < i → Lib.occAt (s.drop b.length) e j = false) :
    btw s b e = ((s.drop b.length).take i, (s.drop b.length).drop (i + e.length), true) := by
  have hx : Lib.index (s.drop b.length) e = (i : Int) := Lib.index_first (by omega) (by rw [Lib.occAt_iff_take _ _ _ hi, ho]; simp) hn
  have hc : Lib.cut (s.drop b.length) e = ((s.drop b.length).take i, (s.drop b.length).drop (i + e.length), true) := by
    unfold Lib.cut
    rw [hx, if_pos (by omega)]
    simp
  unfold btw
  rw [hc, if_pos ⟨h, rfl⟩]
theorem btw_miss {s b e : List UInt8} (he : e ≠ []) (hn : ∀ j, j + e.length ≤ (s.drop b.length).length → Lib.occAt (s.drop b.length) e j = false) : btw s b e = ([], [], false) := by
  have hx : Lib.index (s.drop b.length) e = -1 := Lib.index_none fun j _ => by
    by_cases hj : j + e.length ≤ (s.drop b.length).length
    · exact hn j hj
    · rw [Bool.eq_false_iff]
      intro h
      rcases Lib.occAt_room h with h | h
      · exact hj h
      · exact he h
  have hc : Lib.cut (s.drop b.length) e = (s.drop b.length, [], false) := by
    unfold Lib.cut
    rw [hx, if_neg (by omega)]
  unfold btw
  rw [hc, if_neg (by simp)]
set_option maxHeartbeats 4000000 in
set_option maxRecDepth 20000 in
theorem between_any (s b e : List UInt8) (w : World) (he : e ≠ []) (hs : s.length ≤ 1000000) (hb : b.length ≤ 1000000) (hel : e.length ≤ 1000000) :
    Calls Tryz.prog 48 #[.string (mkB s), .string (mkB b), .string (mkB e)] w fun r w' => r = .returned (.tuple #[.string (mkB (btw s b e).1), .string (mkB (btw s b e).2.1), .bool (btw s b e).2.2]) ∧ Below w.heap.size w w' := by
  obtain ⟨R, hR⟩ : ∃ R, btw s b e = R := ⟨_, rfl⟩
  obtain ⟨ns, hns⟩ : ∃ n, s.length = n := ⟨_, rfl⟩
  obtain ⟨nb, hnb⟩ : ∃ n, b.length = n := ⟨_, rfl⟩
  obtain ⟨ne, hne⟩ : ∃ n, e.length = n := ⟨_, rfl⟩
  have zs : ((mkB s).size : Int) = (ns : Int) := by rw [mkB_sz, hns]
  have zb : ((mkB b).size : Int) = (nb : Int) := by rw [mkB_sz, hnb]
  have ze : ((mkB e).size : Int) = (ne : Int) := by rw [mkB_sz, hne]
  have HS := Lib.hid hns
  have HB := Lib.hid hnb
  have HE := Lib.hid hne
  have HR := Lib.hid hR
  rw [hR]
  rw [hns] at hs
  rw [hnb] at hb
  rw [hne] at hel
  clear hR hns hnb hne
  have emp : (⟨#[]⟩ : ByteArray) = mkB [] := rfl
  by_cases hlt : ns < nb
  · have HX : Hid (R = ([], [], false)) := by
      refine (?_ : _ = _)
      rw [← HR.out, btw_no]
      rw [Bool.eq_false_iff]
      intro h
      rw [List.isPrefixOf_iff_prefix] at h
      have := h.length_le
      have := HS.out; have := HB.out
      omega
    go_enter Tryz.func48, Tryz.ntmps48
    go_wp2_with fail
    go_ret3
    rw [HX.out]
    exact ⟨rfl, Below.refl _ _⟩
  · have hx0 := ext_mk s 0 nb
    rw [List.drop_zero, Nat.sub_zero] at hx0
    have hnbs : ¬ (ns : Int) < (nb : Int) := by omega
    have hpe : b.isPrefixOf s = decide (s.take nb = b) := by
      rw [Bool.eq_iff_iff, List.isPrefixOf_iff_prefix, decide_eq_true_iff]
      constructor
      · rintro ⟨u, rfl⟩
        rw [← HB.out, List.take_left]
      · intro h
        rw [← h]
        exact List.take_prefix nb s
    by_cases hpre : s.take nb = b
    · rw [decide_eq_true hpre] at hpe
      have hx1 : ((mkB (s.take nb)).toList == (mkB b).toList) = true := by rw [hpre]; simp
      have hx2 : (mkB s).extract nb (mkB s).size = mkB (s.drop nb) := by
        rw [ext_mk, List.take_of_length_le (by rw [List.length_drop, mkB_sz]; omega)]
      obtain ⟨d, hd⟩ : ∃ d, s.drop nb = d := ⟨_, rfl⟩
      obtain ⟨nd, hnd⟩ : ∃ n, d.length = n := ⟨_, rfl⟩
      have zd : ((mkB d).size : Int) = (nd : Int) := by rw [mkB_sz, hnd]
      have hndl : nd ≤ 1000000 := by rw [← hnd, ← hd, List.length_drop]; have := HS.out; omega
      have HD : Hid (d = s.drop b.length) := by
        refine (?_ : _ = _)
        rw [HB.out, hd]
      have HND := Lib.hid hnd
      have HPE := Lib.hid hpe
      rw [hd] at hx2
      clear hd hnd hpe
      go_enter Tryz.func48, Tryz.ntmps48
      go_wp2_with fail
      clear hx0 hx1 hx2 zs zb hnbs
      go_loop [9] (fun u => ∃ k : Nat, k ≤ nd + 1 ∧ u = .int .i64 (k : Int) ∧ ∀ j, j < k → Lib.occAt d e j = false) (fun u => nd + 1 - (intOf u).toNat)
      case atStart => exact ⟨0, by omega, rfl, fun j hj => (by omega)⟩
      case round =>
        obtain ⟨k, hk, rfl, hno⟩ := hrel
        have HNO := Lib.hid hno
        clear hno
        have hw1 : IntKind.i64.wrap ((k : Int) + (ne : Int)) = ((k + ne : Nat) : Int) := by rw [IntKind.wrap_i64]; omega
        have hw2 : IntKind.i64.wrap ((k : Int) + 1) = (k : Int) + 1 := by rw [IntKind.wrap_i64]; omega
        by_cases hroom : k + ne ≤ nd
        · have hle : (k : Int) + (ne : Int) ≤ (nd : Int) := by omega
          have hx3 := ext_mk d k (k + ne)
          rw [Nat.add_sub_cancel_left] at hx3
          by_cases hocc : (d.drop k).take ne = e
          · have hx4 : ((mkB ((d.drop k).take ne)).toList == (mkB e).toList) = true := by rw [hocc]; simp
            have hx5 := ext_mk d 0 k
            rw [List.drop_zero, Nat.sub_zero] at hx5
            have hx6 : (mkB d).extract (k + ne) (mkB d).size = mkB (d.drop (k + ne)) := by
              rw [ext_mk, List.take_of_length_le (by rw [List.length_drop, mkB_sz]; omega)]
            have HX : Hid (R = (d.take k, d.drop (k + ne), true)) := by
              refine (?_ : _ = _)
              have := btw_hit (s := s) (b := b) (e := e) (i := k) HPE.out (by rw [← HD.out, HND.out, HE.out]; exact hroom) (by rw [← HD.out, HE.out]; exact hocc) (by rw [← HD.out]; exact HNO.out)
              rw [← HD.out, HE.out] at this
              rw [← HR.out, this]
            clear HNO hocc
            have hkd : (k : Int) ≤ (nd : Int) := by omega
            have hk0 : (0 : Int) ≤ (k : Int) := by omega
            have hkn0 : (0 : Int) ≤ (k : Int) + (ne : Int) := by omega
            go_wp2_with fail
            go_quiet (fail)
            go_wp2_with fail
            go_ret3
            rw [HX.out]
            refine ⟨?_, ⟨rfl, rfl, rfl, Nat.le_refl _, fun _ _ => rfl⟩⟩
            show Ending.returned (.tuple #[.string (mkB (d.take k)), .string ((mkB d).extract (k + ne) (mkB d).size), .bool true]) = _
            rw [hx6]
          · have hx4 : ((mkB ((d.drop k).take ne)).toList == (mkB e).toList) = false := by
              rw [mkB_list, mkB_list, beq_eq_false_iff_ne]; exact hocc
            have hx5 : ¬ mkB ((d.drop k).take ne) = mkB e := by
              intro h
              have := congrArg (fun x : ByteArray => x.toList) h
              simp only [mkB_list] at this
              exact hocc this
            have HNO2 : Hid (∀ j, j < k + 1 → Lib.occAt d e j = false) := by
              refine (?_ : ∀ _ _, _)
              intro j hj
              by_cases hjk : j < k
              · exact HNO.out j hjk
              · obtain rfl : j = k := by omega
                rw [Lib.occAt_iff_take _ _ _ (by rw [HND.out, HE.out]; exact hroom), HE.out, beq_eq_false_iff_ne]
                exact hocc
            clear HNO hocc
            go_wp2_with fail
            go_round
            case rel => exact ⟨k + 1, by omega, by go_num, HNO2.out⟩
            case measure => simp [intOf]; omega
        · have hle : ¬ (k : Int) + (ne : Int) ≤ (nd : Int) := by omega
          have HX : Hid (R = ([], [], false)) := by
            refine (?_ : _ = _)
            rw [← HR.out, btw_miss he]
            intro j hj
            rw [← HD.out] at hj ⊢
            rw [HND.out, HE.out] at hj
            exact HNO.out j (by omega)
          clear HNO
          go_wp2_with fail
          go_ret3
          rw [HX.out]
          exact ⟨rfl, Below.refl _ _⟩
    · have hx1 : ((mkB (s.take nb)).toList == (mkB b).toList) = false := by
        rw [mkB_list, mkB_list, beq_eq_false_iff_ne]; exact hpre
      have hx2 : ¬ mkB (s.take nb) = mkB b := by
        intro h
        have := congrArg (fun x : ByteArray => x.toList) h
        simp only [mkB_list] at this
        exact hpre this
      have HX : Hid (R = ([], [], false)) := by
        refine (?_ : _ = _)
        rw [← HR.out, btw_no]
        rw [hpe, decide_eq_false hpre]
      clear hpe hpre
      go_enter Tryz.func48, Tryz.ntmps48
      go_wp2_with fail
      go_ret3
      rw [HX.out]
      exact ⟨rfl, Below.refl _ _⟩
/-- the lines of a text, as the call's own -/
def LinesAns (w : World) (p : List (List UInt8) × List UInt8) (e : Ending) (w' : World) : Prop :=
  ∃ v, e = .returned (.tuple #[v, .bool (decide (p.2 = []))]) ∧ OwnS w' w.heap.size v (p.1.map mkB) ∧ Below w.heap.size w w'
theorem clos_len : ∀ (t cur : List UInt8), (closL cur t).1.length ≤ t.length
  | [], cur => by simp [closL]
  | b :: t, cur => by
    rw [closL]
    have h1 := clos_len t []
    have h2 := clos_len t (cur ++ [b])
    split
    · simp only [List.length_cons]; omega
    · simp only [List.length_cons]; omega
set_option maxHeartbeats 4000000 in
set_option maxRecDepth 20000 in
theorem linesR_any (t : List UInt8) (w : World) (ht : t.length ≤ 1000000) :
    Calls Tryz.prog 47 #[.string (mkB t)] w fun e w' => LinesAns w (closL [] t) e w' := by
  obtain ⟨R, hR⟩ : ∃ R, closL [] t = R := ⟨_, rfl⟩
  obtain ⟨n, hn⟩ : ∃ n, t.length = n := ⟨_, rfl⟩
  have zs : ((mkB t).size : Int) = (n : Int) := by rw [mkB_sz, hn]
  have zn : (mkB t).size = n := by rw [mkB_sz, hn]
  have HN := Lib.hid hn
  have HR := Lib.hid hR
  have HAT : Hid (∀ (k : Nat) (hk : k < (mkB t).size), t[k]? = some ((mkB t)[k]'hk)) := by
    refine (?_ : ∀ _ _, _)
    intro k hk
    have := at_data (mkB t) k hk
    simpa [mkB] using this
  rw [hn] at ht
  rw [hR]
  clear hR hn
  go_enter Tryz.func47, Tryz.ntmps47
  go_wp2_with fail
  go_loopw [4, 5, 6] (fun v u i wr => ∃ (k f : Nat) (acc : List (List UInt8)), f ≤ k ∧ k ≤ n ∧ i = .int .i64 (k : Int) ∧ u = .int .i64 (f : Int) ∧ acc.length ≤ k ∧ OwnS wr w.heap.size v (acc.map mkB) ∧ Below w.heap.size w wr ∧ (acc ++ (closL ((t.take k).drop f) (t.drop k)).1, (closL ((t.take k).drop f) (t.drop k)).2) = R) (fun _ _ i _ => n - (intOf i).toNat)
  case atStart => exact ⟨0, 0, [], by omega, by omega, rfl, rfl, by simp, World.ownsRow_nil _ _ _ _, Below.refl _ _, by rw [← HR.out]; simp⟩
  case round =>
    generalize wr = w1 at *
    obtain ⟨k, f, acc, hf, hk, rfl, rfl, hal, hO, hb, he⟩ := hrel
    have HO := Lib.hid hO
    have HB := Lib.hid hb
    have HE := Lib.hid he
    have hs1 := hb.size
    clear hO hb he HR
    have hwk : IntKind.i64.wrap ((k : Int) + 1) = (k : Int) + 1 := by rw [IntKind.wrap_i64]; omega
    by_cases hlt : k < n
    · have hk2 : k < (mkB t).size := by omega
      have hlt2 : (k : Int) < (n : Int) := by omega
      have hat := HAT.out k hk2
      have hd : t.drop k = ((mkB t)[k]'hk2) :: t.drop (k + 1) := by
        obtain ⟨h1, h2⟩ := List.getElem?_eq_some_iff.1 hat
        rw [List.drop_eq_getElem_cons h1, h2]
      by_cases h10 : ((mkB t)[k]'hk2).toNat = 10
      · have hb10 : (mkB t)[k]'hk2 = 10 := UInt8.toNat_inj.1 (by rw [h10]; rfl)
        have h10i : ((((mkB t)[k]'hk2).toNat : Int) == 10) = true := by simp [h10]
        have hx := ext_mk t f k
        have HX : Hid (((acc ++ [(t.take k).drop f]) ++ (closL ((t.take (k + 1)).drop (k + 1)) (t.drop (k + 1))).1, (closL ((t.take (k + 1)).drop (k + 1)) (t.drop (k + 1))).2) = R) := by
          refine (?_ : _ = _)
          have hnil : (t.take (k + 1)).drop (k + 1) = [] := List.drop_of_length_le (by rw [List.length_take]; omega)
          rw [← HE.out, hd, closL, if_pos hb10, hnil]
          simp
        have hxe : (t.drop f).take (k - f) = (t.take k).drop f := by rw [List.drop_take]
        rw [hxe] at hx
        have hf0 : (0 : Int) ≤ (f : Int) := by omega
        have hfk : (f : Int) ≤ (k : Int) := by omega
        have hkn : (k : Int) ≤ (n : Int) := by omega
        have H10 := Lib.hid h10
        have HAL : Hid ((acc.map mkB).length ≤ 1000000000) := by
          refine (?_ : (acc.map mkB).length ≤ 1000000000)
          rw [List.length_map]; omega
        clear hat hd hxe HE h10 hb10
        go_wp2_with (at_builtin; refine wpS_push rfl (.tmp 17) (.tmp 22) rfl w.heap.size _ (acc.map mkB) (mkB ((t.take k).drop f)) rfl HO.out rfl HAL.out hs1 ?_; intro v5 w5 hown5 hb5)
        go_roundw
        case rel => exact ⟨k + 1, k + 1, acc ++ [(t.take k).drop f], by omega, by omega, by go_num, by go_num, by simp only [List.length_append, List.length_cons, List.length_nil]; omega, by rw [List.map_append]; exact hown5, HB.out.trans hb5, HX.out⟩
        case measure => simp [intOf]; omega
      · have h10i : ((((mkB t)[k]'hk2).toNat : Int) == 10) = false := by simp; omega
        have HX : Hid ((acc ++ (closL ((t.take (k + 1)).drop f) (t.drop (k + 1))).1, (closL ((t.take (k + 1)).drop f) (t.drop (k + 1))).2) = R) := by
          refine (?_ : _ = _)
          rw [← HE.out, hd, closL, if_neg (fun e => h10 (by rw [e]; rfl)), List.take_add_one, hat]
          rw [List.drop_append_of_le_length (by have := HN.out; rw [List.length_take]; omega)]
          simp
        have H10 := Lib.hid h10
        clear hat hd HE h10
        go_wp2_with fail
        go_roundw
        case rel => exact ⟨k + 1, f, acc, by omega, by omega, by go_num, rfl, by omega, HO.out, HB.out, HX.out⟩
        case measure => simp [intOf]; omega
    · obtain rfl : k = n := by omega
      have HX : Hid ((acc, t.drop f) = R) := by
        refine (?_ : _ = _)
        rw [← HE.out, List.drop_of_length_le (i := k) (by have := HN.out; omega), List.take_of_length_le (by have := HN.out; omega)]
        simp [closL]
      have hdf : decide (t.drop f = []) = decide (f = k) := by
        rw [decide_eq_decide]
        constructor
        · intro h
          have := congrArg List.length h
          rw [List.length_drop, HN.out, List.length_nil] at this
          omega
        · rintro rfl
          exact List.drop_of_length_le (by rw [HN.out]; omega)
      have hbq : ((f : Int) == (k : Int)) = decide (f = k) := by
        rw [Bool.eq_iff_iff, beq_iff_eq, decide_eq_true_iff]; omega
      have HDF := Lib.hid hdf
      clear HE hdf
      go_wp2_with fail
      go_ret2
      rw [← HX.out]
      refine ⟨_, ?_, HO.out, HB.out⟩
      rw [HDF.out]
      first | rfl | (rw [← hbq]; rfl)
end Go.Proofs.YtkhnicppcbgdiaaGreatDoor
