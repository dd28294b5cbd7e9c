/-
  The walk over read: a frame's numbers, by the program.
-/
import Derived.Test.YtckbplhplpnhaaaDoorFrG
import Derived.Test.YtckbplhplpnhaaaDoorTake
import Derived.Deep.RegionWith
namespace Go.Proofs.YtckbplhplpnhaaaDoor
set_option linter.unusedVariables false
open Go.ChangeShapes Go.WideShapes Go.ChangeAt Go.RowKit

/-- what read answers -/
def ReadAns (b : List Int) (e : Ending) (w' : World) : Prop :=
  (∃ l r a2 c2, 5 ≤ b.length ∧ takes 9 ((b.drop 1).take (b.length - 5)) = some (l, r) ∧ e = .returned (.tuple #[.agg #[.int .i64 (IntKind.i64.wrap (l.getD 0 0)), .int .i64 (IntKind.i64.wrap (l.getD 1 0)), .int .u64 (l.getD 2 0), .int .i64 (IntKind.i64.wrap (l.getD 3 0)), .int .u64 (l.getD 4 0), .int .i64 (IntKind.i64.wrap (l.getD 5 0)), .int .i64 (IntKind.i64.wrap (l.getD 6 0)), .int .i64 (IntKind.i64.wrap (l.getD 7 0)), .slice (some a2) r.length c2], .bool true]) ∧ SlB w' (some a2) r.length c2 r) ∨
  ((b.length < 5 ∨ takes 9 ((b.drop 1).take (b.length - 5)) = none) ∧ e = .returned (.tuple #[.agg #[.int .i64 0, .int .i64 0, .int .u64 0, .int .i64 0, .int .u64 0, .int .i64 0, .int .i64 0, .int .i64 0, .slice none 0 0], .bool false]))
theorem takes_under {zs : List Int} {j : Nat} {l r : List Int} (h : takes j zs = some (l, r)) (hd : (dec 0 0 r).2.2 ≠ 0) (hj : j < 9) : takes 9 zs = none := by
  have := takes_stop j (8 - j) zs l r h hd
  rwa [show j + 1 + (8 - j) = 9 by omega] at this
theorem fill_set {l : List Int} {j : Nat} (hl : l.length = j) (hj : j < 9) (z : Int) : (l ++ List.replicate (9 - j) 0).set j z = (l ++ [z]) ++ List.replicate (9 - (j + 1)) 0 := by
  subst hl
  rw [List.set_append_right _ _ (Nat.le_refl _), Nat.sub_self, show 9 - l.length = (9 - (l.length + 1)) + 1 by omega, List.replicate_succ, List.set_cons_zero, List.append_assoc]
  rfl
theorem nin_zero (w : World) (o : Obj) : Nin ((w.alloc o).alloc (.cells #[.int .u64 0, .int .u64 0, .int .u64 0, .int .u64 0, .int .u64 0, .int .u64 0, .int .u64 0, .int .u64 0, .int .u64 0] 37)) (w.heap.size + 1) (List.replicate 9 0) := by
  refine ⟨rfl, ?_⟩
  show ((w.heap.push o).push _)[w.heap.size + 1]? = _
  rw [show w.heap.size + 1 = (w.heap.push o).size by simp, Array.getElem?_push_size]
  rfl
set_option maxHeartbeats 4000000 in
set_option maxRecDepth 20000 in
theorem read_any (a : Option Addr) (len cap : Nat) (zs : List Int) (w : World) (hB : SlB w a len cap zs) :
    Calls Tryd.prog 24 #[.slice a len cap] w fun e w' => ReadAns zs e w' ∧ Below w.heap.size w w' := by
  have hlc := hB.2.1
  have hlen := hB.1.1
  have hcm : len ≤ 281474976710656 := hB.1.2.1
  have HB := Lib.hid hB
  have HL := Lib.hid hlen
  clear hB hlen
  have hba : Below w.heap.size w (w.alloc (.cells #[.int .i64 0, .int .i64 0, .int .u64 0, .int .i64 0, .int .u64 0, .int .i64 0, .int .i64 0, .int .i64 0, .slice none 0 0] 25)) := (Below.refl _ _).alloc (Nat.le_refl _) _
  go_enter Tryd.func24, Tryd.ntmps24
  by_cases h5 : len < 5
  · go_wp2
    refine bodyPost_ret (v := .tuple #[.agg #[.int .i64 0, .int .i64 0, .int .u64 0, .int .i64 0, .int .u64 0, .int .i64 0, .int .i64 0, .int .i64 0, .slice none 0 0], .bool false]) (by simp [results, Tryd.results24, go_sem]) rfl ?_
    exact ⟨.inr ⟨.inl (by rw [HL.out]; exact h5), rfl⟩, hba⟩
  · obtain ⟨mid, hmid⟩ : ∃ m, (zs.drop 1).take (len - 4 - 1) = m := ⟨_, rfl⟩
    have HM := Lib.hid hmid
    obtain ⟨b0, off0, rfl⟩ : ∃ b0 off0, a = some ⟨b0, off0, none⟩ := by
      rcases HB.out.1.2.2 with h | ⟨b, off, h, _⟩
      · have := HL.out; rw [h] at this; simp at this; omega
      · exact ⟨b, off, h⟩
    have har : cutA (some ⟨b0, off0, none⟩) cap 1 = some ⟨b0, off0 + 1, none⟩ := by
      unfold cutA
      rw [if_neg (by omega)]
      simp [add_off]
    have HS0 := isB_cut HB.out 1 (len - 4) (by omega) (by omega)
    rw [hmid, har] at HS0
    clear hmid har
    have HMid : Hid ((zs.drop 1).take (zs.length - 5) = mid) := by
      refine (?_ : _ = _)
      rw [HL.out, ← HM.out, show len - 4 - 1 = len - 5 by omega]
    have HN0 := nin_zero w (.cells #[.int .i64 0, .int .i64 0, .int .u64 0, .int .i64 0, .int .u64 0, .int .i64 0, .int .i64 0, .int .i64 0, .slice none 0 0] 25)
    have hb2 : Below w.heap.size w ((w.alloc (.cells #[.int .i64 0, .int .i64 0, .int .u64 0, .int .i64 0, .int .u64 0, .int .i64 0, .int .i64 0, .int .i64 0, .slice none 0 0] 25)).alloc (.cells #[.int .u64 0, .int .u64 0, .int .u64 0, .int .u64 0, .int .u64 0, .int .u64 0, .int .u64 0, .int .u64 0, .int .u64 0] 37)) := hba.alloc (by simp) _
    go_wp2
    obtain ⟨W2, hW2⟩ : ∃ W2, (w.alloc (.cells #[.int .i64 0, .int .i64 0, .int .u64 0, .int .i64 0, .int .u64 0, .int .i64 0, .int .i64 0, .int .i64 0, .slice none 0 0] 25)).alloc (.cells #[.int .u64 0, .int .u64 0, .int .u64 0, .int .u64 0, .int .u64 0, .int .u64 0, .int .u64 0, .int .u64 0, .int .u64 0] 37) = W2 := ⟨_, rfl⟩
    rw [hW2] at HN0 hb2 ⊢
    have hh0 : W2.heap[w.heap.size]? = some ((.cells #[.int .i64 0, .int .i64 0, .int .u64 0, .int .i64 0, .int .u64 0, .int .i64 0, .int .i64 0, .int .i64 0, .slice none 0 0] 25)) := by
      rw [← hW2]
      show ((w.heap.push _).push _)[w.heap.size]? = _
      simp [Array.getElem?_push]
    have hsz2 : W2.heap.size = w.heap.size + 2 := by rw [← hW2, World.size_alloc, World.size_alloc]
    have HSZ := Lib.hid hsz2
    clear hW2 hsz2
    have HB2 := Lib.hid hb2
    have HN := Lib.hid HN0
    have HS : Hid (SlB w (some ⟨b0, off0 + 1, none⟩) (len - 4 - 1) (cap - 1) mid) := HS0
    clear HN0 HS0 hb2 hba
    go_loopw [4, 19] (fun v i wr => ∃ (j : Nat) (a1 : Option Addr) (l1 c1 : Nat) (l r : List Int), j ≤ 9 ∧ i = .int .i64 j ∧ v = .slice a1 l1 c1 ∧ a1.isSome = true ∧ takes j mid = some (l, r) ∧ SlB w a1 l1 c1 r ∧ Nin wr (w.heap.size + 1) (l ++ List.replicate (9 - j) 0) ∧ Below (w.heap.size + 1) W2 wr) (fun _ i _ => 9 - (intOf i).toNat)
    case atStart => exact ⟨0, some ⟨b0, off0 + 1, none⟩, len - 4 - 1, cap - 1, [], mid, by omega, rfl, rfl, rfl, rfl, HS.out, HN.out, Below.refl _ _⟩
    case round =>
      obtain ⟨j, a1', l1, c1, l, r, hj, rfl, rfl, hso, htk, hs1, hn1, hb1⟩ := hrel
      obtain ⟨a1, rfl⟩ := Option.isSome_iff_exists.1 hso
      clear hso
      have HT := Lib.hid htk
      have HS1 := Lib.hid hs1
      have HN1 := Lib.hid hn1
      have HB1 := Lib.hid hb1
      have HS2 := Lib.hid (slB_old hs1 (HB2.out.trans (hb1.mono (by omega))))
      have HLJ := Lib.hid (takes_len _ _ _ _ htk)
      have hbox : wr.heap[w.heap.size]? = some (.cells #[.int .i64 0, .int .i64 0, .int .u64 0, .int .i64 0, .int .u64 0, .int .i64 0, .int .i64 0, .int .i64 0, .slice none 0 0] 25 (0, 0)) := by rw [hb1.block _ (Nat.lt_succ_self _)]; exact hh0
      obtain ⟨⟨hz0, hz1, hz2, hz3, hz4, hz5, hz6, hz7, hz8⟩, hfr⟩ := cells9 hbox
      have HBX := Lib.hid hbox
      clear hbox
      have hlr := hs1.1.1
      have hl1c := hs1.2.1
      have hby := isB_bt hs1.1
      have HLR := Lib.hid hlr
      clear htk hs1 hn1 HN HS hlr
      by_cases hj9 : j < 9
      · have HTA := fun wx hI => take_any (some a1) l1 c1 r wx hI
        have hok := fun N K h => dec_ok r 0 0 N K hby (by decide) (by omega) h
        have hun := fun h => takes_under HT.out h hj9
        have hsn := fun h => takes_snoc j mid l r HT.out h
        obtain ⟨P, hP⟩ : ∃ P, dec 0 0 r = P := ⟨_, rfl⟩
        obtain ⟨N, K, E⟩ := P
        have hP0 : dec ((0 : Nat) : Int) 0 r = (N, K, E) := hP
        rw [hP] at HTA hun hsn
        simp only at HTA hun hsn
        by_cases hE : E = 0
        · subst hE
          have hd := hok N K hP0
          obtain ⟨Kn, rfl⟩ : ∃ Kn : Nat, K = Kn := ⟨K.toNat, by omega⟩
          have hlr := HLR.out
          have hKl : Kn ≤ l1 := by omega
          obtain ⟨a9, ha9⟩ := cutA_some a1 c1 Kn
          have HA9 := Lib.hid ha9
          have hcut := fun W => cut_from (some a1) l1 c1 Kn hKl hl1c W
          rw [ha9] at hcut
          clear ha9
          have hcl := HN1.out.cell hj9
          have hfz := HN1.out.frozen j
          have hjI : (j : Int) < 9 := by omega
          have hj0 : (0 : Int) ≤ (j : Int) := by omega
          have HSN := Lib.hid (hsn rfl)
          have HNS := Lib.hid (HN1.out.set j N)
          clear hd hok hun hsn hP hP0 hlr hby hz0 hz1 hz2 hz3 hz4 hz5 hz6 hz7 hz8
          go_wp2_with fail
          refine (HTA _ HS2.out.1).mono ?_
          rintro e w3 ⟨rfl, rfl⟩
          clear HTA
          go_wp2
          go_region
          go_wp2
          go_roundw
          case rel => exact ⟨j + 1, some a9, l1 - Kn, c1 - Kn, l ++ [N], r.drop Kn, by omega, by go_num, rfl, rfl, HSN.out, by
            have := isB_cut HS1.out Kn l1 hKl (Nat.le_refl _)
            rw [List.take_of_length_le (by rw [List.length_drop, HLR.out]; omega), HA9.out] at this
            exact this, by
            rw [← fill_set HLJ.out hj9 N]; exact HNS.out, (HB1.out.setCell (p := ⟨w.heap.size + 1, j, none⟩) (Nat.le_refl _) _).drew⟩
          case measure => simp [intOf]; omega
        · have HU := Lib.hid (hun hE)
          have hE1 : (E != 0) = true := bne_iff_ne.2 hE
          clear hok hun hsn hP hP0
          go_wp2_with fail
          refine (HTA _ HS2.out.1).mono ?_
          rintro e w3 ⟨rfl, rfl⟩
          clear HTA
          go_wp2
          obtain ⟨Y, hY, hYc, _, _, hYb⟩ := set9_all HBX.out (.int .i64 0) (.int .i64 0) (.int .u64 0) (.int .i64 0) (.int .u64 0) (.int .i64 0) (.int .i64 0) (.int .i64 0) (.slice none 0 0)
          rw [hY]
          obtain ⟨⟨y0, y1, y2, y3, y4, y5, y6, y7, y8⟩, _⟩ := cells9 hYc
          refine bodyPost_ret (v := .tuple #[.agg #[.int .i64 0, .int .i64 0, .int .u64 0, .int .i64 0, .int .u64 0, .int .i64 0, .int .i64 0, .int .i64 0, .slice none 0 0], .bool false]) (by simp [results, Tryd.results24, go_sem, y0, y1, y2, y3, y4, y5, y6, y7, y8]) rfl ?_
          exact ⟨.inr ⟨.inr (by rw [HMid.out]; exact HU.out), rfl⟩, (HB2.out.trans (HB1.out.mono (by omega))).trans hYb⟩
      · obtain rfl : j = 9 := by omega
        have hz := HN1.out.1
        have c0 := HN1.out.cell (j := 0) (by omega)
        have c1' := HN1.out.cell (j := 1) (by omega)
        have c2 := HN1.out.cell (j := 2) (by omega)
        have c3 := HN1.out.cell (j := 3) (by omega)
        have c4 := HN1.out.cell (j := 4) (by omega)
        have c5 := HN1.out.cell (j := 5) (by omega)
        have c6 := HN1.out.cell (j := 6) (by omega)
        have c7 := HN1.out.cell (j := 7) (by omega)
        rw [show l ++ List.replicate (9 - 9) 0 = l by simp] at c0 c1' c2 c3 c4 c5 c6 c7
        obtain ⟨x0, hx0⟩ : ∃ x, l.getD 0 0 = x := ⟨_, rfl⟩
        obtain ⟨x1, hx1⟩ : ∃ x, l.getD 1 0 = x := ⟨_, rfl⟩
        obtain ⟨x2, hx2⟩ : ∃ x, l.getD 2 0 = x := ⟨_, rfl⟩
        obtain ⟨x3, hx3⟩ : ∃ x, l.getD 3 0 = x := ⟨_, rfl⟩
        obtain ⟨x4, hx4⟩ : ∃ x, l.getD 4 0 = x := ⟨_, rfl⟩
        obtain ⟨x5, hx5⟩ : ∃ x, l.getD 5 0 = x := ⟨_, rfl⟩
        obtain ⟨x6, hx6⟩ : ∃ x, l.getD 6 0 = x := ⟨_, rfl⟩
        obtain ⟨x7, hx7⟩ : ∃ x, l.getD 7 0 = x := ⟨_, rfl⟩
        rw [hx0] at c0
        rw [hx1] at c1'
        rw [hx2] at c2
        rw [hx3] at c3
        rw [hx4] at c4
        rw [hx5] at c5
        rw [hx6] at c6
        rw [hx7] at c7
        have HX : Hid (l.getD 0 0 = x0 ∧ l.getD 1 0 = x1 ∧ l.getD 2 0 = x2 ∧ l.getD 3 0 = x3 ∧ l.getD 4 0 = x4 ∧ l.getD 5 0 = x5 ∧ l.getD 6 0 = x6 ∧ l.getD 7 0 = x7) := ⟨hx0, hx1, hx2, hx3, hx4, hx5, hx6, hx7⟩
        clear hx0 hx1 hx2 hx3 hx4 hx5 hx6 hx7 hz
        go_wp2
        obtain ⟨Y, hY, hYc, _, _, hYb⟩ := set9_all HBX.out (.int .i64 (wrap64 x0)) (.int .i64 (wrap64 x1)) (.int .u64 x2) (.int .i64 (wrap64 x3)) (.int .u64 x4) (.int .i64 (wrap64 x5)) (.int .i64 (wrap64 x6)) (.int .i64 (wrap64 x7)) (.slice (some a1) l1 c1)
        rw [hY]
        obtain ⟨⟨y0, y1, y2, y3, y4, y5, y6, y7, y8⟩, _⟩ := cells9 hYc
        refine bodyPost_ret (v := .tuple #[.agg #[.int .i64 (wrap64 x0), .int .i64 (wrap64 x1), .int .u64 x2, .int .i64 (wrap64 x3), .int .u64 x4, .int .i64 (wrap64 x5), .int .i64 (wrap64 x6), .int .i64 (wrap64 x7), .slice (some a1) l1 c1], .bool true]) (by simp [results, Tryd.results24, go_sem, y0, y1, y2, y3, y4, y5, y6, y7, y8]) rfl ?_
        obtain ⟨e0, e1, e2, e3, e4, e5, e6, e7⟩ := HX.out
        refine ⟨.inl ⟨l, r, a1, c1, by rw [HL.out]; omega, by rw [HMid.out]; exact HT.out, ?_, ?_⟩, (HB2.out.trans (HB1.out.mono (by omega))).trans hYb⟩
        · rw [e0, e1, e2, e3, e4, e5, e6, e7, HLR.out]
          simp only [IntWalk.i64_left]
        · rw [HLR.out]
          exact slB_old HS1.out ((HB2.out.trans (HB1.out.mono (by omega))).trans hYb)
end Go.Proofs.YtckbplhplpnhaaaDoor
