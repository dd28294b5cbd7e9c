/-
  The walk over the document's own Pieces: what stands between dots.
-/
import Derived.Test.YtglkgcpfdhneeaaDoorSlS2
import Derived.Deep.RegionWith
import Derived.Deep.RegionLaw
namespace Go.Proofs.YtglkgcpfdhneeaaDoor
set_option linter.unusedVariables false
open Go.ChangeShapes Go.WideShapes Go.ChangeAt Go.RowKit

set_option maxHeartbeats 4000000 in
theorem piecesR_any (s : ByteArray) (w : World) (hs : s.size ≤ 3000) :
    Calls Tryd.prog 27 #[.string s] w fun e w' => (∃ v, e = .returned v ∧ OwnS w' w.heap.size v (pieces s)) ∧ Below w.heap.size w w' := by
  have HP : Hid (pieces s = (pcs [] s.data.toList).map mkB) := rfl
  have hld := len_data s
  have HL : Hid (s.data.toList.length = s.size) := hld
  clear hld
  go_enter Tryd.func27, Tryd.ntmps27
  go_wp2_with fail
  go_loopw [3, 4] (fun o i wr => ∃ (k : Nat) (pre : List (List UInt8)) (cur : List UInt8), k ≤ s.size ∧ i = .int .i64 k ∧ OwnS wr w.heap.size o (pre.map mkB ++ [mkB cur]) ∧ Below w.heap.size w wr ∧ pre.length ≤ k ∧ cur.length ≤ k ∧ pre ++ pcs cur (s.data.toList.drop k) = pcs [] s.data.toList) (fun _ i _ => s.size - (intOf i).toNat)
  case atStart => exact ⟨0, [], [], by omega, rfl, ownS_one w ⟨#[]⟩, (Below.refl _ w).alloc (Nat.le_refl _) _, by simp, by simp, rfl⟩
  case round =>
    obtain ⟨k, pre, cur, hk, rfl, hown, hbw, hpl, hcl, hacc⟩ := hrel
    have HA : Hid (pre ++ pcs cur (s.data.toList.drop k) = pcs [] s.data.toList) := hacc
    clear hacc
    obtain ⟨g, c, cc, rfl, hg, hgh, hc, hH⟩ := ownS_slice hown (by simp)
    have hszr := hbw.size
    have hml : (pre.map mkB ++ [mkB cur]).length = pre.length + 1 := by simp
    by_cases hlt : k < s.size
    · have hdr : s.data.toList.drop k = s[k]'hlt :: s.data.toList.drop (k + 1) := by
        rw [List.drop_eq_getElem_cons (by rw [HL.out]; exact hlt)]; rfl
      by_cases h46 : s[k]'hlt = 46
      · have h46' : (((s[k]'hlt).toNat : Int) == 46) = true := by rw [h46]; rfl
        have HX : Hid ((pre ++ [cur]) ++ pcs [] (s.data.toList.drop (k + 1)) = pcs [] s.data.toList) := by
          refine (?_ : _ = _)
          have := HA.out; rw [hdr, h46, pcs_dot] at this
          rw [← this]; simp
        clear HA hdr h46
        go_wp2_with (at_builtin; refine wpS_push rfl _ _ rfl w.heap.size (.slice (some ⟨g, 0, none⟩) (pre.map mkB ++ [mkB cur]).length c) (pre.map mkB ++ [mkB cur]) ⟨#[]⟩ rfl hown rfl (by rw [hml]; omega) hszr ?_)
        intro v' wx hown' hb'
        obtain ⟨g2, c2, cc2, rfl, _⟩ := ownS_slice hown' (by simp)
        go_wp2_with fail
        go_roundw
        case rel =>
          refine ⟨k + 1, pre ++ [cur], [], by omega, by go_num, ?_, hbw.trans hb', by simp; omega, by simp, HX.out⟩
          simpa [mkB] using hown'
        case measure => simp [intOf]; omega
      · have h46' : (((s[k]'hlt).toNat : Int) == 46) = false := by
          rw [beq_eq_false_iff_ne]
          intro e
          apply h46
          apply UInt8.toNat_inj.1
          show _ = 46
          omega
        have HX : Hid (pre ++ pcs (cur ++ [s[k]'hlt]) (s.data.toList.drop (k + 1)) = pcs [] s.data.toList) := by
          refine (?_ : _ = _)
          have := HA.out; rw [hdr, pcs_on _ _ _ h46] at this
          exact this
        clear HA hdr h46
        have hcell : wr.cell? ⟨g, pre.length, none⟩ = some (.string (mkB cur)) := hH pre.length (mkB cur) (by simp)
        have hfz : wr.frozen? ⟨g, pre.length, none⟩ = false := Lib.frozen_of_heap hgh _
        have HOS : Hid (∀ y, OwnS (wr.setCell ⟨g, pre.length, none⟩ (.string y)) w.heap.size (.slice (some ⟨g, 0, none⟩) (pre.length + 1) c) (pre.map mkB ++ [y])) := fun y => by
          have := ownS_set y hown
          simpa using this
        have HBS : Hid (∀ y, Below w.heap.size w (wr.setCell ⟨g, pre.length, none⟩ (.string y))) := fun y => hbw.setCell (p := ⟨g, pre.length, none⟩) hg _
        have hcat := cat_byte cur s k hlt
        have HCAT : Hid (mkB cur ++ s.extract k (k + 1) = mkB (cur ++ [s[k]'hlt])) := hcat
        clear hcat hown hbw hgh hH
        rw [hml]
        rw [hml] at hc
        clear hml
        obtain ⟨q, hq⟩ : ∃ q, pre.length = q := ⟨_, rfl⟩
        have HPL : Hid (pre.length ≤ k + 1) := by
          refine (?_ : pre.length ≤ k + 1)
          omega
        rw [hq] at hpl hcell hfz HOS HBS ⊢
        clear hq
        have hsz2 : (mkB cur).size ≤ 3000 := by
          have : (mkB cur).size = cur.length := by show cur.toArray.size = _; simp
          omega
        have HOS2 : Hid (OwnS (wr.setCell ⟨g, q, none⟩ (.string (mkB (cur ++ [s[k]'hlt])))).drew w.heap.size (.slice (some ⟨g, 0, none⟩) (q + 1) c) (pre.map mkB ++ [mkB (cur ++ [s[k]'hlt])])) := HOS.out _
        have HBS2 : Hid (Below w.heap.size w (wr.setCell ⟨g, q, none⟩ (.string (mkB (cur ++ [s[k]'hlt])))).drew) := (HBS.out _).drew
        generalize mkB cur = cb at *
        have hw1 : IntKind.i64.wrap ((q : Int) + 1 - 1) = (q : Int) := by rw [IntKind.wrap_i64]; omega
        have hw2 : IntKind.i64.wrap ((k : Int) + 1) = (k : Int) + 1 := by rw [IntKind.wrap_i64]; omega
        have hq0 : (0 : Int) ≤ (q : Int) := by omega
        have hq1 : (q : Int) < (q : Int) + 1 := by omega
        have hk0 : (0 : Int) ≤ (k : Int) := by omega
        have hk1 : (k : Int) ≤ (k : Int) + 1 := by omega
        have hk2 : (k : Int) + 1 ≤ (s.size : Int) := by omega
        go_wp2_with fail
        go_region
        rw [HCAT.out]
        go_wp2_with fail
        go_roundw
        case rel => exact ⟨k + 1, pre, cur ++ [s[k]'hlt], by omega, by go_num, HOS2.out, HBS2.out, HPL.out, by simp; omega, HX.out⟩
        case measure => simp [intOf]; omega
    · have HX : Hid (pre.map mkB ++ [mkB cur] = pieces s) := by
        refine (?_ : _ = _)
        have := HA.out
        rw [List.drop_eq_nil_of_le (by have := HL.out; omega), pcs_nil] at this
        rw [HP.out, ← this]; simp
      have hown2 := hown
      rw [HX.out] at hown2
      clear HA
      go_wp2_with fail
      go_ret
      refine ⟨⟨_, rfl, ?_⟩, hbw⟩
      rw [HX.out]; exact hown2
end Go.Proofs.YtglkgcpfdhneeaaDoor
