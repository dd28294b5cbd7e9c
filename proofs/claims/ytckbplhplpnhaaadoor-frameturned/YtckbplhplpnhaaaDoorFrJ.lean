/-
  The walk over Parse, by the document's own.
-/
import Derived.Test.YtckbplhplpnhaaaDoorFrT
import Derived.BigQuiet
namespace Go.Proofs.YtckbplhplpnhaaaDoor
set_option linter.unusedVariables false
open Go.ChangeShapes Go.WideShapes Go.ChangeAt Go.RowKit

/-- what the document reads of bytes that are a frame's -/
theorem readR_of {b l r : List Int} (h : takes 9 (b.drop 1) = some (l, r)) {f : Fr} (hf : IsF f b) : l = numsF f ∧ r.length = f.pay.length + 4 ∧ f.pay = r.take f.pay.length := by
  have h2 := readR_is hf []
  rw [List.append_nil, h] at h2
  simp only [Option.some.injEq, Prod.mk.injEq, List.append_nil] at h2
  refine ⟨h2.1, ?_, ?_⟩
  · rw [h2.2, List.length_append, four_len]
  · rw [h2.2, List.take_left']; rfl
theorem noneR {b : List Int} (h : takes 9 (b.drop 1) = none) : ∀ f, ¬ IsF f b := by
  intro f hf
  have h2 := readR_is hf []
  rw [List.append_nil, h] at h2
  cases h2
theorem is_long {b : List Int} (h : b.length < 1) : ∀ f, ¬ IsF f b := by
  intro f hf
  have h2 := read_is hf
  omega
set_option maxHeartbeats 8000000 in
set_option maxRecDepth 20000 in
theorem parseR_any (a : Option Addr) (len cap : Nat) (zs : List Int) (w : World) (hB : SlB w a len cap zs) :
    Calls Tryd.prog 15 #[.slice a len cap] w fun e w' => ParseAns zs e w' ∧ Below w.heap.size w w' := by
  have hlc := hB.2.1
  have hlen := hB.1.1
  have hcm : len ≤ 281474976710656 := hB.1.2.1
  have HB := Lib.hid hB
  have HL := Lib.hid hlen
  clear hB hlen
  have hba : Below w.heap.size w (w.alloc (.cells #[.int .i64 0, .int .i64 0, .int .u64 0, .int .i64 0, .int .u64 0, .int .i64 0, .int .i64 0, .int .i64 0, .slice none 0 0] 25)) := (Below.refl _ _).alloc (Nat.le_refl _) _
  go_enter Tryd.func15, Tryd.ntmps15
  by_cases h5 : len < 1
  · go_wp2
    refine bodyPost_ret (v := .tuple #[.agg #[.int .i64 0, .int .i64 0, .int .u64 0, .int .i64 0, .int .u64 0, .int .i64 0, .int .i64 0, .int .i64 0, .slice none 0 0], .int .i64 2]) (by simp [results, Tryd.results15, go_sem]) rfl ?_
    exact ⟨.inr ⟨is_long (by rw [HL.out]; exact h5), rfl⟩, hba⟩
  · obtain ⟨a0, rfl⟩ : ∃ a0, a = some a0 := by
      rcases HB.out.1.2.2 with h | ⟨b, off, h, _⟩
      · have := HL.out; rw [h] at this; simp at this; omega
      · exact ⟨_, h⟩
    obtain ⟨ar, har⟩ := cutA_some a0 cap 1
    have hcut : ∀ W, (Instr.slice 23 (.slice (some a0) len cap) (some (.int .i64 1)) none none).run Tryd.prog W = .ok (.slice (some ar) (len - 1) (cap - 1)) W := fun W => by
      have h1 := cut_from (some a0) len cap 1 (by omega) hlc W
      rw [har] at h1
      exact h1
    have HS0 := isB_cut HB.out 1 len (by omega) (Nat.le_refl _)
    rw [har, List.take_of_length_le (by rw [List.length_drop, HL.out]; omega)] at HS0
    obtain ⟨mid, hmid⟩ : ∃ m, zs.drop 1 = m := ⟨_, rfl⟩
    rw [hmid] at HS0
    have HMid := Lib.hid hmid
    clear hmid har
    have HN0 := nin_zero w (.cells #[.int .i64 0, .int .i64 0, .int .u64 0, .int .i64 0, .int .u64 0, .int .i64 0, .int .i64 0, .int .i64 0, .slice none 0 0] 25)
    have hb2 : Below w.heap.size w ((w.alloc (.cells #[.int .i64 0, .int .i64 0, .int .u64 0, .int .i64 0, .int .u64 0, .int .i64 0, .int .i64 0, .int .i64 0, .slice none 0 0] 25)).alloc (.cells #[.int .u64 0, .int .u64 0, .int .u64 0, .int .u64 0, .int .u64 0, .int .u64 0, .int .u64 0, .int .u64 0, .int .u64 0] 37)) := hba.alloc (by simp) _
    obtain ⟨lr0, hlr0⟩ : ∃ x, len - 1 = x := ⟨_, rfl⟩
    obtain ⟨cr0, hcr0⟩ : ∃ x, cap - 1 = x := ⟨_, rfl⟩
    rw [hlr0] at HS0 hcut
    rw [hcr0] at HS0 hcut
    clear hlr0 hcr0
    go_wp2
    clear hcut
    obtain ⟨W2, hW2⟩ : ∃ W2, (w.alloc (.cells #[.int .i64 0, .int .i64 0, .int .u64 0, .int .i64 0, .int .u64 0, .int .i64 0, .int .i64 0, .int .i64 0, .slice none 0 0] 25)).alloc (.cells #[.int .u64 0, .int .u64 0, .int .u64 0, .int .u64 0, .int .u64 0, .int .u64 0, .int .u64 0, .int .u64 0, .int .u64 0] 37) = W2 := ⟨_, rfl⟩
    rw [hW2] at HN0 hb2 ⊢
    have hh0 : W2.heap[w.heap.size]? = some ((.cells #[.int .i64 0, .int .i64 0, .int .u64 0, .int .i64 0, .int .u64 0, .int .i64 0, .int .i64 0, .int .i64 0, .slice none 0 0] 25)) := by
      rw [← hW2]
      show ((w.heap.push _).push _)[w.heap.size]? = _
      simp [Array.getElem?_push]
    have hsz2 : W2.heap.size = w.heap.size + 2 := by rw [← hW2, World.size_alloc, World.size_alloc]
    have HSZ := Lib.hid hsz2
    clear hW2 hsz2
    have HB2 := Lib.hid hb2
    have HN := Lib.hid HN0
    have HS := Lib.hid HS0
    clear HN0 HS0 hb2 hba
    go_loopw [4, 20] (fun v i wr => ∃ (j : Nat) (a1 : Option Addr) (l1 c1 : Nat) (l r : List Int), j ≤ 9 ∧ i = .int .i64 j ∧ v = .slice a1 l1 c1 ∧ a1.isSome = true ∧ takes j mid = some (l, r) ∧ SlB w a1 l1 c1 r ∧ Nin wr (w.heap.size + 1) (l ++ List.replicate (9 - j) 0) ∧ Below (w.heap.size + 1) W2 wr) (fun _ i _ => 9 - (intOf i).toNat)
    case atStart => exact ⟨0, some ar, lr0, cr0, [], mid, by omega, rfl, rfl, rfl, rfl, HS.out, HN.out, Below.refl _ _⟩
    case round =>
      obtain ⟨j, a1', l1, c1, l, r, hj, rfl, rfl, hso, htk, hs1, hn1, hb1⟩ := hrel
      obtain ⟨a1, rfl⟩ := Option.isSome_iff_exists.1 hso
      clear hso
      have HT := Lib.hid htk
      have HS1 := Lib.hid hs1
      have HN1 := Lib.hid hn1
      have HB1 := Lib.hid hb1
      have HS2 := Lib.hid (slB_old hs1 (HB2.out.trans (hb1.mono (by omega))))
      have HLJ := Lib.hid (takes_len _ _ _ _ htk)
      have hbox : wr.heap[w.heap.size]? = some (.cells #[.int .i64 0, .int .i64 0, .int .u64 0, .int .i64 0, .int .u64 0, .int .i64 0, .int .i64 0, .int .i64 0, .slice none 0 0] 25 (0, 0)) := by rw [hb1.block _ (Nat.lt_succ_self _)]; exact hh0
      obtain ⟨⟨hz0, hz1, hz2, hz3, hz4, hz5, hz6, hz7, hz8⟩, hfr⟩ := cells9 hbox
      have HBX := Lib.hid hbox
      clear hbox
      have hlr := hs1.1.1
      have hl1c := hs1.2.1
      have hby := isB_bt hs1.1
      have HLR := Lib.hid hlr
      clear htk hs1 hn1 HN HS hlr
      by_cases hj9 : j < 9
      · have HTA := fun wx hI => takeRB_any (some a1) l1 c1 r wx hI
        have hok := fun N K h => dec_ok r 0 0 N K hby (by decide) (by omega) h
        have hun := fun h => takes_under HT.out h hj9
        have hsn := fun h => takes_snoc j mid l r HT.out h
        obtain ⟨P, hP⟩ : ∃ P, dec 0 0 r = P := ⟨_, rfl⟩
        obtain ⟨N, K, E⟩ := P
        have hP0 : dec ((0 : Nat) : Int) 0 r = (N, K, E) := hP
        rw [hP] at HTA hun hsn
        simp only at HTA hun hsn
        by_cases hE : E = 0
        · subst hE
          have hd := hok N K hP0
          obtain ⟨Kn, rfl⟩ : ∃ Kn : Nat, K = Kn := ⟨K.toNat, by omega⟩
          have hlr := HLR.out
          have hKl : Kn ≤ l1 := by omega
          obtain ⟨a9, ha9⟩ := cutA_some a1 c1 Kn
          have HA9 := Lib.hid ha9
          have hcut := fun W => cut_from (some a1) l1 c1 Kn hKl hl1c W
          rw [ha9] at hcut
          clear ha9
          have hcl := HN1.out.cell hj9
          have hfz := HN1.out.frozen j
          have hjI : (j : Int) < 9 := by omega
          have hj0 : (0 : Int) ≤ (j : Int) := by omega
          have HSN := Lib.hid (hsn rfl)
          have HNS := Lib.hid (HN1.out.set j N)
          clear hd hok hun hsn hP hP0 hlr hby hz0 hz1 hz2 hz3 hz4 hz5 hz6 hz7 hz8
          go_wp2_with fail
          refine (HTA _ HS2.out.1).mono ?_
          rintro e w3 ⟨rfl, rfl⟩
          clear HTA
          go_wp2
          go_region
          go_wp2
          go_roundw
          case rel => exact ⟨j + 1, some a9, l1 - Kn, c1 - Kn, l ++ [N], r.drop Kn, by omega, by go_num, rfl, rfl, HSN.out, by
            have := isB_cut HS1.out Kn l1 hKl (Nat.le_refl _)
            rw [List.take_of_length_le (by rw [List.length_drop, HLR.out]; omega), HA9.out] at this
            exact this, by
            rw [← fill_set HLJ.out hj9 N]; exact HNS.out, (HB1.out.setCell (p := ⟨w.heap.size + 1, j, none⟩) (Nat.le_refl _) _).drew⟩
          case measure => simp [intOf]; omega
        · have HU := Lib.hid (hun hE)
          have hE1 : (E != 0) = true := bne_iff_ne.2 hE
          clear hok hun hsn hP hP0
          go_wp2_with fail
          refine (HTA _ HS2.out.1).mono ?_
          rintro e w3 ⟨rfl, rfl⟩
          clear HTA
          go_wp2
          obtain ⟨Y, hY, hYc, _, _, hYb⟩ := set9_all HBX.out (.int .i64 0) (.int .i64 0) (.int .u64 0) (.int .i64 0) (.int .u64 0) (.int .i64 0) (.int .i64 0) (.int .i64 0) (.slice none 0 0)
          rw [hY]
          obtain ⟨⟨y0, y1, y2, y3, y4, y5, y6, y7, y8⟩, _⟩ := cells9 hYc
          refine bodyPost_ret (v := .tuple #[.agg #[.int .i64 0, .int .i64 0, .int .u64 0, .int .i64 0, .int .u64 0, .int .i64 0, .int .i64 0, .int .i64 0, .slice none 0 0], .int .i64 2]) (by simp [results, Tryd.results15, go_sem, y0, y1, y2, y3, y4, y5, y6, y7, y8]) rfl ?_
          exact ⟨.inr ⟨noneR (by rw [HMid.out]; exact HU.out), rfl⟩, (HB2.out.trans (HB1.out.mono (by omega))).trans hYb⟩
      · obtain rfl : j = 9 := by omega
        have hl9 := HLJ.out
        rw [show l ++ List.replicate (9 - 9) 0 = l by simp] at HN1
        have hbw := HB2.out.trans (HB1.out.mono (by omega))
        have HBW := Lib.hid hbw
        have HRN := Lib.hid (takes_rn 9 mid l r (by rw [← HMid.out]; exact fun z hz => isB_bt HB.out.1 z (List.mem_of_mem_drop hz)) HT.out)
        have c8 := HN1.out.cell (j := 8) (by omega)
        obtain ⟨x8, hx8⟩ : ∃ x, l.getD 8 0 = x := ⟨_, rfl⟩
        rw [hx8] at c8
        have hx8r := getD_rn HRN.out.1 8
        rw [hx8] at hx8r
        have HX8 := Lib.hid hx8
        have hlm : l1 ≤ 281474976710656 := HS1.out.1.2.1
        clear hx8 hl9 hbw
        by_cases h4 : 4096 < x8
        · have HNO : Hid (∀ f, ¬ IsF f zs) := by
            refine (?_ : ∀ f, ¬ IsF f zs)
            intro f hf
            have h1 := readR_of (by rw [HMid.out]; exact HT.out) hf
            have h2 := HX8.out
            rw [h1.1] at h2
            have h3 := (okF_iff _).1 hf.1
            have h6 : (f.pay.length : Int) = x8 := h2
            omega
          go_wp2
          obtain ⟨Y, hY, hYc, _, _, hYb⟩ := set9_all HBX.out (.int .i64 0) (.int .i64 0) (.int .u64 0) (.int .i64 0) (.int .u64 0) (.int .i64 0) (.int .i64 0) (.int .i64 0) (.slice none 0 0)
          rw [hY]
          obtain ⟨⟨y0, y1, y2, y3, y4, y5, y6, y7, y8⟩, _⟩ := cells9 hYc
          refine bodyPost_ret (v := .tuple #[.agg #[.int .i64 0, .int .i64 0, .int .u64 0, .int .i64 0, .int .u64 0, .int .i64 0, .int .i64 0, .int .i64 0, .slice none 0 0], .int .i64 2]) (by simp [results, Tryd.results15, go_sem, y0, y1, y2, y3, y4, y5, y6, y7, y8]) rfl ?_
          exact ⟨.inr ⟨HNO.out, rfl⟩, (HB2.out.trans (HB1.out.mono (by omega))).trans hYb⟩
        · have d4 : decide ((4096 : Int) < x8) = false := decide_eq_false h4
          obtain ⟨n8, rfl⟩ : ∃ n8 : Nat, x8 = n8 := ⟨x8.toNat, by omega⟩
          have hn8 : n8 ≤ 4096 := by omega
          by_cases h6 : l1 = n8 + 4
          · subst h6
            go_wp2
            have HNN := Lib.hid (fun f (hf : IsF f zs) => (readR_of (by rw [HMid.out]; exact HT.out) hf).1)
            go_loopw [52] (fun i wx => ∃ (p : Nat), p ≤ 9 ∧ i = .int .i64 p ∧ wx = wr ∧ ∀ q, q < p → q ≠ 2 → q ≠ 4 → l.getD q 0 ≤ 1099511627776) (fun i _ => 9 - (intOf i).toNat)
            case atStart => exact ⟨0, by omega, rfl, rfl, fun q hq => by omega⟩
            case round =>
              obtain ⟨p, hp, rfl, rfl, hall⟩ := hrel
              have HALL := Lib.hid hall
              clear hall
              by_cases hp9 : p < 9
              · have cp := HN1.out.cell (j := p) hp9
                obtain ⟨x, hx⟩ : ∃ x, l.getD p 0 = x := ⟨_, rfl⟩
                rw [hx] at cp
                have HXP := Lib.hid hx
                clear hx
                by_cases p2 : p = 2
                · subst p2
                  go_wp2
                  go_roundw
                  case rel => exact ⟨3, by omega, rfl, trivial, fun q hq h2 h4 => HALL.out q (by omega) h2 h4⟩
                  case measure => simp [intOf]
                · by_cases p4 : p = 4
                  · subst p4
                    go_wp2
                    go_roundw
                    case rel => exact ⟨5, by omega, rfl, trivial, fun q hq h2 h4 => HALL.out q (by omega) h2 h4⟩
                    case measure => simp [intOf]
                  · have e2 : ¬ (p : Int) = 2 := by omega
                    have e4 : ¬ (p : Int) = 4 := by omega
                    have b2 : ((p : Int) == 2) = false := by rw [beq_eq_false_iff_ne]; exact e2
                    have b4 : ((p : Int) == 4) = false := by rw [beq_eq_false_iff_ne]; exact e4
                    have n2 : ((p : Int) != 2) = true := bne_iff_ne.2 e2
                    have n4 : ((p : Int) != 4) = true := bne_iff_ne.2 e4
                    have hpI : (p : Int) < 9 := by omega
                    by_cases hbig : 1099511627776 < x
                    · have HNO : Hid (∀ f, ¬ IsF f zs) := by
                        refine (?_ : ∀ f, ¬ IsF f zs)
                        intro f hf
                        have h1 := HNN.out f hf
                        have h2 := HXP.out
                        rw [h1] at h2
                        have h3 := (okF_iff _).1 hf.1
                        have h9 : p = 0 ∨ p = 1 ∨ p = 3 ∨ p = 5 ∨ p = 6 ∨ p = 7 ∨ p = 8 := by omega
                        rcases h9 with rfl | rfl | rfl | rfl | rfl | rfl | rfl <;> simp [numsF] at h2 <;> omega
                      go_wp2
                      obtain ⟨Y, hY, hYc, _, _, hYb⟩ := set9_all HBX.out (.int .i64 0) (.int .i64 0) (.int .u64 0) (.int .i64 0) (.int .u64 0) (.int .i64 0) (.int .i64 0) (.int .i64 0) (.slice none 0 0)
                      rw [hY]
                      obtain ⟨⟨y0, y1, y2, y3, y4, y5, y6, y7, y8⟩, _⟩ := cells9 hYc
                      refine bodyPost_ret (v := .tuple #[.agg #[.int .i64 0, .int .i64 0, .int .u64 0, .int .i64 0, .int .u64 0, .int .i64 0, .int .i64 0, .int .i64 0, .slice none 0 0], .int .i64 2]) (by simp [results, Tryd.results15, go_sem, y0, y1, y2, y3, y4, y5, y6, y7, y8]) rfl ?_
                      exact ⟨.inr ⟨HNO.out, rfl⟩, (HBW.out).trans hYb⟩
                    · have dbig : decide ((1099511627776 : Int) < x) = false := decide_eq_false hbig
                      go_wp2
                      go_roundw
                      case rel =>
                        refine ⟨p + 1, by omega, by go_num, trivial, fun q hq h2 h4 => ?_⟩
                        by_cases hqp : q = p
                        · subst hqp; rw [HXP.out]; omega
                        · exact HALL.out q (by omega) h2 h4
                      case measure => simp [intOf]; omega
              · obtain rfl : p = 9 := by omega
                have hwr : w.heap.size + 2 ≤ wr.heap.size := by have := HB1.out.size; have := HSZ.out; omega
                obtain ⟨x0, hx0⟩ : ∃ x, l.getD 0 0 = x := ⟨_, rfl⟩
                obtain ⟨x1, hx1⟩ : ∃ x, l.getD 1 0 = x := ⟨_, rfl⟩
                obtain ⟨x2, hx2⟩ : ∃ x, l.getD 2 0 = x := ⟨_, rfl⟩
                obtain ⟨x3, hx3⟩ : ∃ x, l.getD 3 0 = x := ⟨_, rfl⟩
                obtain ⟨x4, hx4⟩ : ∃ x, l.getD 4 0 = x := ⟨_, rfl⟩
                obtain ⟨x5, hx5⟩ : ∃ x, l.getD 5 0 = x := ⟨_, rfl⟩
                obtain ⟨x6, hx6⟩ : ∃ x, l.getD 6 0 = x := ⟨_, rfl⟩
                obtain ⟨x7, hx7⟩ : ∃ x, l.getD 7 0 = x := ⟨_, rfl⟩
                have r0 := getD_rn HRN.out.1 0
                have r1 := getD_rn HRN.out.1 1
                have r2 := getD_rn HRN.out.1 2
                have r3 := getD_rn HRN.out.1 3
                have r4 := getD_rn HRN.out.1 4
                have r5 := getD_rn HRN.out.1 5
                have r6 := getD_rn HRN.out.1 6
                have r7 := getD_rn HRN.out.1 7
                have m0 := HALL.out 0 (by omega) (by omega) (by omega)
                have m1 := HALL.out 1 (by omega) (by omega) (by omega)
                have m3 := HALL.out 3 (by omega) (by omega) (by omega)
                have m5 := HALL.out 5 (by omega) (by omega) (by omega)
                have m6 := HALL.out 6 (by omega) (by omega) (by omega)
                have m7 := HALL.out 7 (by omega) (by omega) (by omega)
                rw [hx0] at r0 m0
                rw [hx1] at r1 m1
                rw [hx2] at r2
                rw [hx3] at r3 m3
                rw [hx4] at r4
                rw [hx5] at r5 m5
                rw [hx6] at r6 m6
                rw [hx7] at r7 m7
                have s0 : ∀ W, Below wr.heap.size wr W → W.cell? ⟨w.heap.size + 1, 0, none⟩ = some (.int .u64 x0) := fun W hW => by rw [hW.cell (show w.heap.size + 1 < wr.heap.size by omega), ← hx0]; exact HN1.out.cell (by omega)
                have s1 : ∀ W, Below wr.heap.size wr W → W.cell? ⟨w.heap.size + 1, 1, none⟩ = some (.int .u64 x1) := fun W hW => by rw [hW.cell (show w.heap.size + 1 < wr.heap.size by omega), ← hx1]; exact HN1.out.cell (by omega)
                have s2 : ∀ W, Below wr.heap.size wr W → W.cell? ⟨w.heap.size + 1, 2, none⟩ = some (.int .u64 x2) := fun W hW => by rw [hW.cell (show w.heap.size + 1 < wr.heap.size by omega), ← hx2]; exact HN1.out.cell (by omega)
                have s3 : ∀ W, Below wr.heap.size wr W → W.cell? ⟨w.heap.size + 1, 3, none⟩ = some (.int .u64 x3) := fun W hW => by rw [hW.cell (show w.heap.size + 1 < wr.heap.size by omega), ← hx3]; exact HN1.out.cell (by omega)
                have s4 : ∀ W, Below wr.heap.size wr W → W.cell? ⟨w.heap.size + 1, 4, none⟩ = some (.int .u64 x4) := fun W hW => by rw [hW.cell (show w.heap.size + 1 < wr.heap.size by omega), ← hx4]; exact HN1.out.cell (by omega)
                have s5 : ∀ W, Below wr.heap.size wr W → W.cell? ⟨w.heap.size + 1, 5, none⟩ = some (.int .u64 x5) := fun W hW => by rw [hW.cell (show w.heap.size + 1 < wr.heap.size by omega), ← hx5]; exact HN1.out.cell (by omega)
                have s6 : ∀ W, Below wr.heap.size wr W → W.cell? ⟨w.heap.size + 1, 6, none⟩ = some (.int .u64 x6) := fun W hW => by rw [hW.cell (show w.heap.size + 1 < wr.heap.size by omega), ← hx6]; exact HN1.out.cell (by omega)
                have s7 : ∀ W, Below wr.heap.size wr W → W.cell? ⟨w.heap.size + 1, 7, none⟩ = some (.int .u64 x7) := fun W hW => by rw [hW.cell (show w.heap.size + 1 < wr.heap.size by omega), ← hx7]; exact HN1.out.cell (by omega)
                have s8 : ∀ W, Below wr.heap.size wr W → W.cell? ⟨w.heap.size + 1, 8, none⟩ = some (.int .u64 (n8 : Int)) := fun W hW => by rw [hW.cell (show w.heap.size + 1 < wr.heap.size by omega), ← HX8.out]; exact HN1.out.cell (by omega)
                have HV0 : Hid (IntKind.i64.wrap x0 = x0) := by
                  refine (?_ : _ = _)
                  rw [IntKind.wrap_i64]; omega
                have HV1 : Hid (IntKind.i64.wrap x1 = x1) := by
                  refine (?_ : _ = _)
                  rw [IntKind.wrap_i64]; omega
                have HV3 : Hid (IntKind.i64.wrap x3 = x3) := by
                  refine (?_ : _ = _)
                  rw [IntKind.wrap_i64]; omega
                have HV5 : Hid (IntKind.i64.wrap x5 = x5) := by
                  refine (?_ : _ = _)
                  rw [IntKind.wrap_i64]; omega
                have HV6 : Hid (IntKind.i64.wrap x6 = x6) := by
                  refine (?_ : _ = _)
                  rw [IntKind.wrap_i64]; omega
                have HV7 : Hid (IntKind.i64.wrap x7 = x7) := by
                  refine (?_ : _ = _)
                  rw [IntKind.wrap_i64]; omega
                obtain ⟨rp, hrp⟩ : ∃ rp, r.take n8 = rp := ⟨_, rfl⟩
                have hrl : rp.length = n8 := by rw [← hrp, List.length_take, HLR.out]; omega
                have hsl8 : SlB wr (some a1) n8 c1 rp := by
                  have h := isB_cut HS2.out 0 n8 (by omega) (by omega)
                  have hc0 : cutA (some a1) c1 0 = some a1 := by
                    unfold cutA
                    split
                    · rfl
                    · have : a1.add 0 = a1 := by unfold Addr.add; split <;> simp_all
                      simp [this]
                  rw [hc0, Nat.sub_zero, Nat.sub_zero, List.drop_zero, hrp] at h
                  exact h
                have hcut8 := fun W => cut_to (some a1) (n8 + 4) c1 n8 (by omega) hl1c W
                have hrb : ∀ z ∈ rp, 0 ≤ z ∧ z ≤ 255 := fun z hz => by rw [← hrp] at hz; exact HRN.out.2 z (List.mem_of_mem_take hz)
                have HF : Hid (mkF l rp = ⟨x0, x1, x2, x3, x4, x5, x6, x7, rp⟩) := by
                  refine (?_ : _ = _)
                  unfold mkF
                  have wr1 : ∀ x : Int, 0 ≤ x → x ≤ 1099511627776 → IntKind.i64.wrap x = x := fun x h0 h1 => by rw [IntKind.wrap_i64]; omega
                  rw [hx0, hx1, hx2, hx3, hx4, hx5, hx6, hx7, wr1 x0 r0.1 m0, wr1 x1 r1.1 m1, wr1 x3 r3.1 m3, wr1 x5 r5.1 m5, wr1 x6 r6.1 m6, wr1 x7 r7.1 m7]
                have hrg : RngF ⟨x0, x1, x2, x3, x4, x5, x6, x7, rp⟩ := by
                  rw [← HF.out]; exact mkF_rng HRN.out.1 hrb
                have HRP := Lib.hid hrp
                have HRL := Lib.hid hrl
                have HSL8 := Lib.hid hsl8
                have HRB := Lib.hid hrb
                have HRG := Lib.hid hrg
                clear hx0 hx1 hx2 hx3 hx4 hx5 hx6 hx7 hrp hrl hsl8 hrb hrg hlc hcm d4 h4 hz0 hz1 hz2 hz3 hz4 hz5 hz6 hz7 hz8 hfr c8 hx8r hlm hby h5
                have hw0 : w.heap.size < wr.heap.size := by omega
                go_upto_region 21 with fail
                go_cut [11] (fun v wx => ∃ (D bs : Nat) (pv : Value), v = .pointer (some ⟨D, 0, none⟩) ∧ wx.heap[D]? = some (.cells #[.int .i64 x0, .int .i64 x1, .int .u64 x2, .int .i64 x3, .int .u64 x4, .int .i64 x5, .int .i64 x6, .int .i64 x7, pv] 25 (0, 0)) ∧ wr.heap.size ≤ D ∧ wr.heap.size ≤ bs ∧ OwnE wx bs pv rp ∧ Below wr.heap.size wr wx)
                case first =>
                  have hS0 : Below wr.heap.size wr wr.drew := (Below.refl _ _).drew
                  refine wp_region_held_drew (S := fun W => Below wr.heap.size wr W) (by kernel_rfl) hS0 (fun _ => ?_)
                  refine T_onF 0 (.pointer (some ⟨w.heap.size + 1, 0, none⟩)) rfl (by kernel_rfl) (fun _ _ _ h => h) hS0 (fun W hW => by go_simp) ?_
                  refine T_onF 1 (.int .u64 x0) rfl (by kernel_rfl) (fun _ _ _ h => h) hS0 (fun W hW => by have c := s0 W hW; go_simp) ?_
                  refine T_onF 2 (.int .i64 x0) rfl (by kernel_rfl) (fun _ _ _ h => h) hS0 (fun W hW => by have c := HV0.out; go_simp) ?_
                  refine T_onF 3 (.pointer (some ⟨w.heap.size + 1, 1, none⟩)) rfl (by kernel_rfl) (fun _ _ _ h => h) hS0 (fun W hW => by go_simp) ?_
                  refine T_onF 4 (.int .u64 x1) rfl (by kernel_rfl) (fun _ _ _ h => h) hS0 (fun W hW => by have c := s1 W hW; go_simp) ?_
                  refine T_onF 5 (.int .i64 x1) rfl (by kernel_rfl) (fun _ _ _ h => h) hS0 (fun W hW => by have c := HV1.out; go_simp) ?_
                  refine T_onF 6 (.pointer (some ⟨w.heap.size + 1, 2, none⟩)) rfl (by kernel_rfl) (fun _ _ _ h => h) hS0 (fun W hW => by go_simp) ?_
                  refine T_onF 7 (.int .u64 x2) rfl (by kernel_rfl) (fun _ _ _ h => h) hS0 (fun W hW => by have c := s2 W hW; go_simp) ?_
                  refine T_onF 8 (.pointer (some ⟨w.heap.size + 1, 3, none⟩)) rfl (by kernel_rfl) (fun _ _ _ h => h) hS0 (fun W hW => by go_simp) ?_
                  refine T_onF 9 (.int .u64 x3) rfl (by kernel_rfl) (fun _ _ _ h => h) hS0 (fun W hW => by have c := s3 W hW; go_simp) ?_
                  refine T_onF 10 (.int .i64 x3) rfl (by kernel_rfl) (fun _ _ _ h => h) hS0 (fun W hW => by have c := HV3.out; go_simp) ?_
                  refine T_onF 11 (.pointer (some ⟨w.heap.size + 1, 4, none⟩)) rfl (by kernel_rfl) (fun _ _ _ h => h) hS0 (fun W hW => by go_simp) ?_
                  refine T_onF 12 (.int .u64 x4) rfl (by kernel_rfl) (fun _ _ _ h => h) hS0 (fun W hW => by have c := s4 W hW; go_simp) ?_
                  refine T_onF 13 (.pointer (some ⟨w.heap.size + 1, 5, none⟩)) rfl (by kernel_rfl) (fun _ _ _ h => h) hS0 (fun W hW => by go_simp) ?_
                  refine T_onF 14 (.int .u64 x5) rfl (by kernel_rfl) (fun _ _ _ h => h) hS0 (fun W hW => by have c := s5 W hW; go_simp) ?_
                  refine T_onF 15 (.int .i64 x5) rfl (by kernel_rfl) (fun _ _ _ h => h) hS0 (fun W hW => by have c := HV5.out; go_simp) ?_
                  refine T_onF 16 (.pointer (some ⟨w.heap.size + 1, 6, none⟩)) rfl (by kernel_rfl) (fun _ _ _ h => h) hS0 (fun W hW => by go_simp) ?_
                  refine T_onF 17 (.int .u64 x6) rfl (by kernel_rfl) (fun _ _ _ h => h) hS0 (fun W hW => by have c := s6 W hW; go_simp) ?_
                  refine T_onF 18 (.int .i64 x6) rfl (by kernel_rfl) (fun _ _ _ h => h) hS0 (fun W hW => by have c := HV6.out; go_simp) ?_
                  refine T_onF 19 (.pointer (some ⟨w.heap.size + 1, 7, none⟩)) rfl (by kernel_rfl) (fun _ _ _ h => h) hS0 (fun W hW => by go_simp) ?_
                  refine T_onF 20 (.int .u64 x7) rfl (by kernel_rfl) (fun _ _ _ h => h) hS0 (fun W hW => by have c := s7 W hW; go_simp) ?_
                  refine T_onF 21 (.int .i64 x7) rfl (by kernel_rfl) (fun _ _ _ h => h) hS0 (fun W hW => by have c := HV7.out; go_simp) ?_
                  refine T_onF 23 (.slice (some a1) (n8 + 4) c1) rfl (by kernel_rfl) (fun _ _ _ h => h) hS0 (fun W hW => by go_simp) ?_
                  refine T_onF 24 (.pointer (some ⟨w.heap.size + 1, 8, none⟩)) rfl (by kernel_rfl) (fun _ _ _ h => h) hS0 (fun W hW => by go_simp) ?_
                  refine T_onF 25 (.int .u64 (n8 : Int)) rfl (by kernel_rfl) (fun _ _ _ h => h) hS0 (fun W hW => by have c := s8 W hW; go_simp) ?_
                  refine T_onF 26 (.slice (some a1) n8 c1) rfl (by kernel_rfl) (fun _ _ _ h => h) hS0 (fun W hW => by go_simp) ?_
                  refine T_twoF 22 29 (by kernel_rfl) rfl rfl (fun K hK => ?_) (fun K hK => ?_)
                  · clear hS0
                    have hS0 : Below wr.heap.size wr wr := Below.refl _ _
                    go_simp
                    have hEb : Below wr.heap.size wr (wr.alloc (Obj.cells #[] 5)).drew := ((Below.refl wr.heap.size wr).alloc (Nat.le_refl _) _).drew
                    have hEs : (wr.alloc (Obj.cells #[] 5)).drew.heap.size > wr.heap.size := by show (wr.alloc (Obj.cells #[] 5)).heap.size > _; rw [World.size_alloc]; omega
                    have hS1 := hEb
                    refine hK.out _ _ hS1 (fun _ => ?_)
                    clear hK K hS0
                    have hS0 := hS1
                    clear hS1
                    generalize (wr.alloc (Obj.cells #[] 5)).drew = X0 at *
                    refine T_twoF 27 29 (by kernel_rfl) rfl rfl (fun K hK => ?_) (fun K hK => ?_)
                    · clear hEb
                      refine stepE_append rfl (.tmp 91) (.tmp 95) rfl X0.heap.size _ [] rfl (.inr ⟨rfl, _, rfl⟩) (some a1) n8 c1 rp rfl (slB_old HSL8.out hS0).1 (by intro e; cases e) (by simp; omega) (Nat.le_refl _) ?_
                      intro v5 X1 hown5 hb5
                      rw [List.nil_append] at hown5
                      obtain ⟨a5, c5, rfl, _⟩ := ownE_slB hown5 HRB.out (by rw [HRL.out]; omega)
                      have hS1 := hS0.trans (hb5.mono hS0.size)
                      refine hK.out _ _ hS1 (fun _ => ?_)
                      clear hK K hS0
                      have hS0 := hS1
                      clear hS1
                      refine T_onF 28 (.agg #[.int .i64 x0, .int .i64 x1, .int .u64 x2, .int .i64 x3, .int .u64 x4, .int .i64 x5, .int .i64 x6, .int .i64 x7, .slice a5 rp.length c5]) rfl (by kernel_rfl) (fun _ _ _ h => h) hS0 (fun W hW => by go_simp) ?_
                      refine T_callF 29 (by kernel_rfl) rfl (fun K hK => ?_)
                      go_simp
                      have hA : (X1.alloc (.cells #[.int .i64 0, .int .i64 0, .int .u64 0, .int .i64 0, .int .u64 0, .int .i64 0, .int .i64 0, .int .i64 0, .slice none 0 0] 25)).heap[X1.heap.size]? = some (.cells #[.int .i64 0, .int .i64 0, .int .u64 0, .int .i64 0, .int .u64 0, .int .i64 0, .int .i64 0, .int .i64 0, .slice none 0 0] 25) := alloc_heapF X1 (.cells #[.int .i64 0, .int .i64 0, .int .u64 0, .int .i64 0, .int .u64 0, .int .i64 0, .int .i64 0, .int .i64 0, .slice none 0 0] 25)
                      have hAb : Below X1.heap.size X1 (X1.alloc (.cells #[.int .i64 0, .int .i64 0, .int .u64 0, .int .i64 0, .int .u64 0, .int .i64 0, .int .i64 0, .int .i64 0, .slice none 0 0] 25)) := (Below.refl X1.heap.size X1).alloc (Nat.le_refl _) _
                      have hAs : (X1.alloc (.cells #[.int .i64 0, .int .i64 0, .int .u64 0, .int .i64 0, .int .u64 0, .int .i64 0, .int .i64 0, .int .i64 0, .slice none 0 0] 25)).heap.size > X1.heap.size := by show (X1.alloc (.cells #[.int .i64 0, .int .i64 0, .int .u64 0, .int .i64 0, .int .u64 0, .int .i64 0, .int .i64 0, .int .i64 0, .slice none 0 0] 25)).heap.size > _; rw [World.size_alloc]; omega
                      have hS1 := hS0.trans (hAb.mono hS0.size)
                      refine hK.out _ _ hS1 (fun _ => ?_)
                      clear hK K hS0
                      have hS0 := hS1
                      clear hS1
                      generalize (X1.alloc (.cells #[.int .i64 0, .int .i64 0, .int .u64 0, .int .i64 0, .int .u64 0, .int .i64 0, .int .i64 0, .int .i64 0, .slice none 0 0] 25)) = X2 at *
                      obtain ⟨⟨k0, k1, k2, k3, k4, k5, k6, k7, k8⟩, kf⟩ := cells9 hA
                      obtain ⟨Y, hY, hYc, hYo, _, hYb⟩ := set9_all hA (.int .i64 x0) (.int .i64 x1) (.int .u64 x2) (.int .i64 x3) (.int .u64 x4) (.int .i64 x5) (.int .i64 x6) (.int .i64 x7) (.slice a5 rp.length c5)
                      have hDw : wr.heap.size ≤ X1.heap.size := by have := hb5.size; omega
                      have hS2 : Below wr.heap.size wr Y := hS0.trans (hYb.mono hDw)
                      have HY := Lib.hid hY
                      clear hY
                      refine T_callF 30 (by kernel_rfl) rfl (fun K hK => ?_)
                      go_simp
                      rw [HY.out]
                      refine hK.out _ _ hS2 (fun _ => ?_)
                      clear hK K
                      refine wpAnyH_done (by kernel_rfl) ?_ _
                      go_simp
                      go_wp2_with fail
                      go_meet
                      exact ⟨X1.heap.size, X0.heap.size, .slice a5 rp.length c5, rfl, hYc, hDw, by omega, ownE_old hown5 (hAb.trans hYb), hS2⟩
                    · clear hEb
                      go_simp
                      have hA : (X0.alloc (.cells #[.int .i64 0, .int .i64 0, .int .u64 0, .int .i64 0, .int .u64 0, .int .i64 0, .int .i64 0, .int .i64 0, .slice none 0 0] 25)).heap[X0.heap.size]? = some (.cells #[.int .i64 0, .int .i64 0, .int .u64 0, .int .i64 0, .int .u64 0, .int .i64 0, .int .i64 0, .int .i64 0, .slice none 0 0] 25) := alloc_heapF X0 (.cells #[.int .i64 0, .int .i64 0, .int .u64 0, .int .i64 0, .int .u64 0, .int .i64 0, .int .i64 0, .int .i64 0, .slice none 0 0] 25)
                      have hAb : Below X0.heap.size X0 (X0.alloc (.cells #[.int .i64 0, .int .i64 0, .int .u64 0, .int .i64 0, .int .u64 0, .int .i64 0, .int .i64 0, .int .i64 0, .slice none 0 0] 25)) := (Below.refl X0.heap.size X0).alloc (Nat.le_refl _) _
                      have hAs : (X0.alloc (.cells #[.int .i64 0, .int .i64 0, .int .u64 0, .int .i64 0, .int .u64 0, .int .i64 0, .int .i64 0, .int .i64 0, .slice none 0 0] 25)).heap.size > X0.heap.size := by show (X0.alloc (.cells #[.int .i64 0, .int .i64 0, .int .u64 0, .int .i64 0, .int .u64 0, .int .i64 0, .int .i64 0, .int .i64 0, .slice none 0 0] 25)).heap.size > _; rw [World.size_alloc]; omega
                      have hS1 := hS0.trans (hAb.mono hS0.size)
                      refine hK.out _ _ hS1 (fun _ => ?_)
                      clear hK K hS0
                      have hS0 := hS1
                      clear hS1
                      generalize (X0.alloc (.cells #[.int .i64 0, .int .i64 0, .int .u64 0, .int .i64 0, .int .u64 0, .int .i64 0, .int .i64 0, .int .i64 0, .slice none 0 0] 25)) = X2 at *
                      refine T_callF 27 (by kernel_rfl) rfl (fun K hK => ?_)
                      refine stepE_append rfl (.tmp 91) (.tmp 95) rfl X2.heap.size _ [] rfl (.inr ⟨rfl, _, rfl⟩) (some a1) n8 c1 rp rfl (slB_old HSL8.out hS0).1 (by intro e; cases e) (by simp; omega) (Nat.le_refl _) ?_
                      intro v5 X3 hown5 hb5
                      rw [List.nil_append] at hown5
                      obtain ⟨a5, c5, rfl, _⟩ := ownE_slB hown5 HRB.out (by rw [HRL.out]; omega)
                      have hS1 := hS0.trans (hb5.mono hS0.size)
                      refine hK.out _ _ hS1 (fun _ => ?_)
                      clear hK K hS0
                      have hS0 := hS1
                      clear hS1
                      refine T_onF 28 (.agg #[.int .i64 x0, .int .i64 x1, .int .u64 x2, .int .i64 x3, .int .u64 x4, .int .i64 x5, .int .i64 x6, .int .i64 x7, .slice a5 rp.length c5]) rfl (by kernel_rfl) (fun _ _ _ h => h) hS0 (fun W hW => by go_simp) ?_
                      have hA3 := (hb5.block X0.heap.size (by omega)).trans hA
                      obtain ⟨⟨k0, k1, k2, k3, k4, k5, k6, k7, k8⟩, kf⟩ := cells9 hA3
                      obtain ⟨Y, hY, hYc, hYo, _, hYb⟩ := set9_all hA3 (.int .i64 x0) (.int .i64 x1) (.int .u64 x2) (.int .i64 x3) (.int .u64 x4) (.int .i64 x5) (.int .i64 x6) (.int .i64 x7) (.slice a5 rp.length c5)
                      have hDw : wr.heap.size ≤ X0.heap.size := by omega
                      have hS2 : Below wr.heap.size wr Y := hS0.trans (hYb.mono hDw)
                      have HY := Lib.hid hY
                      clear hY
                      refine T_callF 30 (by kernel_rfl) rfl (fun K hK => ?_)
                      go_simp
                      rw [HY.out]
                      refine hK.out _ _ hS2 (fun _ => ?_)
                      clear hK K
                      refine wpAnyH_done (by kernel_rfl) ?_ _
                      go_simp
                      go_wp2_with fail
                      go_meet
                      exact ⟨X0.heap.size, X2.heap.size, .slice a5 rp.length c5, rfl, hYc, hDw, by omega, ownE_kept hown5 (fun g hg => hYo g (by omega)), hS2⟩
                  · clear hS0
                    have hS0 : Below wr.heap.size wr wr := Below.refl _ _
                    go_simp
                    have hA : (wr.alloc (.cells #[.int .i64 0, .int .i64 0, .int .u64 0, .int .i64 0, .int .u64 0, .int .i64 0, .int .i64 0, .int .i64 0, .slice none 0 0] 25)).drew.heap[wr.heap.size]? = some (.cells #[.int .i64 0, .int .i64 0, .int .u64 0, .int .i64 0, .int .u64 0, .int .i64 0, .int .i64 0, .int .i64 0, .slice none 0 0] 25) := alloc_heapF wr (.cells #[.int .i64 0, .int .i64 0, .int .u64 0, .int .i64 0, .int .u64 0, .int .i64 0, .int .i64 0, .int .i64 0, .slice none 0 0] 25)
                    have hAb : Below wr.heap.size wr (wr.alloc (.cells #[.int .i64 0, .int .i64 0, .int .u64 0, .int .i64 0, .int .u64 0, .int .i64 0, .int .i64 0, .int .i64 0, .slice none 0 0] 25)).drew := ((Below.refl wr.heap.size wr).alloc (Nat.le_refl _) _).drew
                    have hAs : (wr.alloc (.cells #[.int .i64 0, .int .i64 0, .int .u64 0, .int .i64 0, .int .u64 0, .int .i64 0, .int .i64 0, .int .i64 0, .slice none 0 0] 25)).drew.heap.size > wr.heap.size := by show (wr.alloc (.cells #[.int .i64 0, .int .i64 0, .int .u64 0, .int .i64 0, .int .u64 0, .int .i64 0, .int .i64 0, .int .i64 0, .slice none 0 0] 25)).heap.size > _; rw [World.size_alloc]; omega
                    have hS1 := hAb
                    refine hK.out _ _ hS1 (fun _ => ?_)
                    clear hK K hS0
                    have hS0 := hS1
                    clear hS1
                    generalize (wr.alloc (.cells #[.int .i64 0, .int .i64 0, .int .u64 0, .int .i64 0, .int .u64 0, .int .i64 0, .int .i64 0, .int .i64 0, .slice none 0 0] 25)).drew = X2 at *
                    refine T_callF 22 (by kernel_rfl) rfl (fun K hK => ?_)
                    go_simp
                    have hEb : Below X2.heap.size X2 (X2.alloc (Obj.cells #[] 5)) := (Below.refl X2.heap.size X2).alloc (Nat.le_refl _) _
                    have hEs : (X2.alloc (Obj.cells #[] 5)).heap.size > X2.heap.size := by show (X2.alloc (Obj.cells #[] 5)).heap.size > _; rw [World.size_alloc]; omega
                    have hS1 := hS0.trans (hEb.mono hS0.size)
                    refine hK.out _ _ hS1 (fun _ => ?_)
                    clear hK K hS0
                    have hS0 := hS1
                    clear hS1
                    generalize (X2.alloc (Obj.cells #[] 5)) = X4 at *
                    have hA4 := (hEb.block wr.heap.size (by omega)).trans hA
                    refine T_callF 27 (by kernel_rfl) rfl (fun K hK => ?_)
                    refine stepE_append rfl (.tmp 91) (.tmp 95) rfl X4.heap.size _ [] rfl (.inr ⟨rfl, _, rfl⟩) (some a1) n8 c1 rp rfl (slB_old HSL8.out hS0).1 (by intro e; cases e) (by simp; omega) (Nat.le_refl _) ?_
                    intro v5 X3 hown5 hb5
                    rw [List.nil_append] at hown5
                    obtain ⟨a5, c5, rfl, _⟩ := ownE_slB hown5 HRB.out (by rw [HRL.out]; omega)
                    have hS1 := hS0.trans (hb5.mono hS0.size)
                    refine hK.out _ _ hS1 (fun _ => ?_)
                    clear hK K hS0
                    have hS0 := hS1
                    clear hS1
                    refine T_onF 28 (.agg #[.int .i64 x0, .int .i64 x1, .int .u64 x2, .int .i64 x3, .int .u64 x4, .int .i64 x5, .int .i64 x6, .int .i64 x7, .slice a5 rp.length c5]) rfl (by kernel_rfl) (fun _ _ _ h => h) hS0 (fun W hW => by go_simp) ?_
                    have hA3 := (hb5.block wr.heap.size (by omega)).trans hA4
                    obtain ⟨⟨k0, k1, k2, k3, k4, k5, k6, k7, k8⟩, kf⟩ := cells9 hA3
                    obtain ⟨Y, hY, hYc, hYo, _, hYb⟩ := set9_all hA3 (.int .i64 x0) (.int .i64 x1) (.int .u64 x2) (.int .i64 x3) (.int .u64 x4) (.int .i64 x5) (.int .i64 x6) (.int .i64 x7) (.slice a5 rp.length c5)
                    have hDw : wr.heap.size ≤ wr.heap.size := Nat.le_refl _
                    have hS2 : Below wr.heap.size wr Y := hS0.trans (hYb.mono hDw)
                    have HY := Lib.hid hY
                    clear hY
                    refine T_callF 30 (by kernel_rfl) rfl (fun K hK => ?_)
                    go_simp
                    rw [HY.out]
                    refine hK.out _ _ hS2 (fun _ => ?_)
                    clear hK K
                    refine wpAnyH_done (by kernel_rfl) ?_ _
                    go_simp
                    go_wp2_with fail
                    go_meet
                    exact ⟨wr.heap.size, X4.heap.size, .slice a5 rp.length c5, rfl, hYc, hDw, by omega, ownE_kept hown5 (fun g hg => hYo g (by omega)), hS2⟩
                case rest =>
                  obtain ⟨D, bs, pv, rfl, hD, hDw, hbs, how, hbx⟩ := hcut
                  generalize wc = wx at *
                  obtain ⟨a5, c5, rfl, hs5⟩ := ownE_slB how HRB.out (by rw [HRL.out]; omega)
                  clear s0 s1 s2 s3 s4 s5 s6 s7 s8 hcut8 r0 r1 r2 r3 r4 r5 r6 r7 m0 m1 m3 m5 m6 m7
                  have HFI : Hid (∀ f, IsF f zs → (⟨x0, x1, x2, x3, x4, x5, x6, x7, rp⟩ : Fr) = f) := by
                    refine (?_ : ∀ f, IsF f zs → _)
                    intro f hf
                    have h1 := readR_of (by rw [HMid.out]; exact HT.out) hf
                    have h2 := HX8.out
                    rw [h1.1] at h2
                    have h3 : (f.pay.length : Int) = n8 := h2
                    have h4 : f.pay.length = n8 := by omega
                    have h5 := h1.2.2
                    rw [h4, HRP.out] at h5
                    have h6 := HF.out
                    rw [h1.1, ← h5, mkF_nums hf.1] at h6
                    rw [← h5]; exact h6.symm
                  have HBU := Lib.hid (buildR_any x0 x1 x2 x3 x4 x5 x6 x7 rp a5 c5 wx HRG.out hs5.1 hs5.2.2)
                  have hbw := HBW.out.trans (hbx.mono (by omega))
                  have HBx := Lib.hid hbw
                  have hZx : wx.heap[w.heap.size]? = some (.cells #[.int .i64 0, .int .i64 0, .int .u64 0, .int .i64 0, .int .u64 0, .int .i64 0, .int .i64 0, .int .i64 0, .slice none 0 0] 25 (0, 0)) := by rw [hbx.block _ hw0]; exact HBX.out
                  have hDs : D < wx.heap.size := (Array.getElem?_eq_some_iff.1 hD).1
                  have HOW := Lib.hid how
                  obtain ⟨⟨p0, p1, p2, p3, p4, p5, p6, p7, p8⟩, pfr⟩ := cells9 hD
                  have HD := Lib.hid hD
                  have HZx := Lib.hid hZx
                  have hwx : w.heap.size < wx.heap.size := by omega
                  clear hD hZx how hbx hs5 hbw
                  go_wp2_with fail
                  refine HBU.out.mono ?_
                  rintro e w3 ⟨hans, hb3⟩
                  clear HBU p0 p1 p2 p3 p4 p5 p6 p7 p8 pfr
                  have hz3 : w3.heap[w.heap.size]? = some (.cells #[.int .i64 0, .int .i64 0, .int .u64 0, .int .i64 0, .int .u64 0, .int .i64 0, .int .i64 0, .int .i64 0, .slice none 0 0] 25 (0, 0)) := by rw [hb3.block _ hwx]; exact HZx.out
                  have hv3 : w3.heap[D]? = some (.cells #[.int .i64 x0, .int .i64 x1, .int .u64 x2, .int .i64 x3, .int .u64 x4, .int .i64 x5, .int .i64 x6, .int .i64 x7, .slice a5 rp.length c5] 25 (0, 0)) := by rw [hb3.block _ hDs]; exact HD.out
                  have hbw3 := HBx.out.trans (hb3.mono (by omega))
                  have how3 := ownE_old HOW.out hb3
                  have hsB3 := slB_old HB.out hbw3
                  obtain ⟨⟨z0, z1, z2, z3, z4, z5, z6, z7, z8⟩, hfr⟩ := cells9 hz3
                  have HZ3 := Lib.hid hz3
                  have HV3 := Lib.hid hv3
                  have HBw3 := Lib.hid hbw3
                  have HOW3 := Lib.hid how3
                  have HSB3 := Lib.hid hsB3
                  clear hz3 hv3 hb3 hbw3 how3 hsB3 HD HZx HOW
                  rcases hans with ⟨hno, rfl⟩ | ⟨hok, v, rfl, hob⟩
                  · have HNO : Hid (∀ f, ¬ IsF f zs) := by
                      refine (?_ : ∀ f, ¬ IsF f zs)
                      intro f hf
                      rw [HFI.out f hf, hf.1] at hno
                      cases hno
                    clear hno
                    go_wp2
                    obtain ⟨Y, hY, hYc, _, _, hYb⟩ := set9_all HZ3.out (.int .i64 0) (.int .i64 0) (.int .u64 0) (.int .i64 0) (.int .u64 0) (.int .i64 0) (.int .i64 0) (.int .i64 0) (.slice none 0 0)
                    rw [hY]
                    obtain ⟨⟨y0, y1, y2, y3, y4, y5, y6, y7, y8⟩, _⟩ := cells9 hYc
                    refine bodyPost_ret (v := .tuple #[.agg #[.int .i64 0, .int .i64 0, .int .u64 0, .int .i64 0, .int .u64 0, .int .i64 0, .int .i64 0, .int .i64 0, .slice none 0 0], .int .i64 2]) (by simp [results, Tryd.results15, go_sem, y0, y1, y2, y3, y4, y5, y6, y7, y8]) rfl ?_
                    exact ⟨.inr ⟨HNO.out, rfl⟩, (HBw3.out).trans hYb⟩
                  · have hbb : ∀ z ∈ bytesF ⟨x0, x1, x2, x3, x4, x5, x6, x7, rp⟩, 0 ≤ z ∧ z ≤ 255 := bytes_bytes HRB.out
                    have htok : (⟨x0, x1, x2, x3, x4, x5, x6, x7, rp⟩ : Fr).token ≤ 18446744073709551615 := (HRG.out).2.2.1.2
                    have hbl : (bytesF ⟨x0, x1, x2, x3, x4, x5, x6, x7, rp⟩).length ≤ 5004 := by
                      have := body_len hok htok
                      rw [bytes_len]; omega
                    obtain ⟨a3, c3, rfl, hI3⟩ := own_slB hob hbb (by omega)
                    have HOK := Lib.hid hok
                    have HTOK := Lib.hid htok
                    by_cases heq : bytesF ⟨x0, x1, x2, x3, x4, x5, x6, x7, rp⟩ = zs
                    · have HIS : Hid (IsF ⟨x0, x1, x2, x3, x4, x5, x6, x7, rp⟩ zs) := ⟨hok, htok, heq⟩
                      have r1 := run_str w3 a3 (bytesF ⟨x0, x1, x2, x3, x4, x5, x6, x7, rp⟩).length c3 (bytesF ⟨x0, x1, x2, x3, x4, x5, x6, x7, rp⟩) hI3.1
                      have r2 := run_str w3 (some a0) len cap zs HSB3.out.1
                      rw [heq] at r1 ⊢
                      obtain ⟨s, hs⟩ : ∃ s, strOfNums zs = s := ⟨_, rfl⟩
                      rw [hs] at r1 r2
                      obtain ⟨L, hL⟩ : ∃ L, zs.length = L := ⟨_, rfl⟩
                      rw [hL] at r1 ⊢
                      clear hs hL hbb hbl hI3 hob hok htok heq
                      obtain ⟨⟨p0, p1, p2, p3, p4, p5, p6, p7, p8⟩, pfr⟩ := cells9 HV3.out
                      go_wp2
                      obtain ⟨Y, hY, hYc, hYo, _, hYb⟩ := set9_all HZ3.out (.int .i64 x0) (.int .i64 x1) (.int .u64 x2) (.int .i64 x3) (.int .u64 x4) (.int .i64 x5) (.int .i64 x6) (.int .i64 x7) (.slice a5 rp.length c5)
                      rw [hY]
                      obtain ⟨⟨y0, y1, y2, y3, y4, y5, y6, y7, y8⟩, _⟩ := cells9 hYc
                      refine bodyPost_ret (v := .tuple #[.agg #[.int .i64 x0, .int .i64 x1, .int .u64 x2, .int .i64 x3, .int .u64 x4, .int .i64 x5, .int .i64 x6, .int .i64 x7, .slice a5 rp.length c5], .int .i64 0]) (by simp [results, Tryd.results15, go_sem, y0, y1, y2, y3, y4, y5, y6, y7, y8]) rfl ?_
                      exact ⟨.inl ⟨⟨x0, x1, x2, x3, x4, x5, x6, x7, rp⟩, a5, c5, HIS.out, rfl, ownE_slI (ownE_kept HOW3.out (fun g hg => hYo g (by omega))) HRB.out (by show rp.length ≤ _; rw [HRL.out]; omega)⟩, HBw3.out.trans hYb⟩
                    · have HNO : Hid (∀ f, ¬ IsF f zs) := by
                        refine (?_ : ∀ f, ¬ IsF f zs)
                        intro f hf
                        have h1 := hf.2.2
                        rw [← HFI.out f hf] at h1
                        exact heq h1
                      have r1 := run_str w3 a3 (bytesF ⟨x0, x1, x2, x3, x4, x5, x6, x7, rp⟩).length c3 (bytesF ⟨x0, x1, x2, x3, x4, x5, x6, x7, rp⟩) hI3.1
                      have r2 := run_str w3 (some a0) len cap zs HSB3.out.1
                      have hs := str_inj (bytesF ⟨x0, x1, x2, x3, x4, x5, x6, x7, rp⟩) zs hbb (isB_bt HB.out.1)
                      rw [decide_eq_false heq] at hs
                      obtain ⟨s, hs1⟩ : ∃ s, strOfNums (bytesF ⟨x0, x1, x2, x3, x4, x5, x6, x7, rp⟩) = s := ⟨_, rfl⟩
                      obtain ⟨t, ht1⟩ : ∃ t, strOfNums zs = t := ⟨_, rfl⟩
                      obtain ⟨L, hL⟩ : ∃ L, (bytesF ⟨x0, x1, x2, x3, x4, x5, x6, x7, rp⟩).length = L := ⟨_, rfl⟩
                      rw [hs1] at r1 hs
                      rw [ht1] at r2 hs
                      rw [hL] at r1 ⊢
                      clear hs1 ht1 hL hbb hbl hI3 hob hok htok heq
                      go_wp2
                      obtain ⟨Y, hY, hYc, _, _, hYb⟩ := set9_all HZ3.out (.int .i64 0) (.int .i64 0) (.int .u64 0) (.int .i64 0) (.int .u64 0) (.int .i64 0) (.int .i64 0) (.int .i64 0) (.slice none 0 0)
                      rw [hY]
                      obtain ⟨⟨y0, y1, y2, y3, y4, y5, y6, y7, y8⟩, _⟩ := cells9 hYc
                      refine bodyPost_ret (v := .tuple #[.agg #[.int .i64 0, .int .i64 0, .int .u64 0, .int .i64 0, .int .u64 0, .int .i64 0, .int .i64 0, .int .i64 0, .slice none 0 0], .int .i64 2]) (by simp [results, Tryd.results15, go_sem, y0, y1, y2, y3, y4, y5, y6, y7, y8]) rfl ?_
                      exact ⟨.inr ⟨HNO.out, rfl⟩, (HBw3.out).trans hYb⟩
          · have HNO : Hid (∀ f, ¬ IsF f zs) := by
              refine (?_ : ∀ f, ¬ IsF f zs)
              intro f hf
              have h1 := readR_of (by rw [HMid.out]; exact HT.out) hf
              have h2 := HX8.out
              rw [h1.1] at h2
              have h6' : (f.pay.length : Int) = n8 := h2
              have h7 := h1.2.1
              rw [HLR.out] at h7
              omega
            have hne : ((l1 : Int) == (n8 : Int) + 4) = false := by rw [beq_eq_false_iff_ne]; omega
            have hne2 : ¬ (l1 : Int) = (n8 : Int) + 4 := by omega
            have hne3 : ((l1 : Int) != (n8 : Int) + 4) = true := bne_iff_ne.2 hne2
            go_wp2
            obtain ⟨Y, hY, hYc, _, _, hYb⟩ := set9_all HBX.out (.int .i64 0) (.int .i64 0) (.int .u64 0) (.int .i64 0) (.int .u64 0) (.int .i64 0) (.int .i64 0) (.int .i64 0) (.slice none 0 0)
            rw [hY]
            obtain ⟨⟨y0, y1, y2, y3, y4, y5, y6, y7, y8⟩, _⟩ := cells9 hYc
            refine bodyPost_ret (v := .tuple #[.agg #[.int .i64 0, .int .i64 0, .int .u64 0, .int .i64 0, .int .u64 0, .int .i64 0, .int .i64 0, .int .i64 0, .slice none 0 0], .int .i64 2]) (by simp [results, Tryd.results15, go_sem, y0, y1, y2, y3, y4, y5, y6, y7, y8]) rfl ?_
            exact ⟨.inr ⟨HNO.out, rfl⟩, (HB2.out.trans (HB1.out.mono (by omega))).trans hYb⟩
end Go.Proofs.YtckbplhplpnhaaaDoor
