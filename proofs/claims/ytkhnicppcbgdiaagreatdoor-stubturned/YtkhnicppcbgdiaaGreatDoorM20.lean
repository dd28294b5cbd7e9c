/-
  The walks over the document's own Right and Read.
-/
import Derived.Test.YtkhnicppcbgdiaaGreatDoorM19
import Derived.Test.YtkhnicppcbgdiaaGreatDoorM6
namespace Go.Proofs.YtkhnicppcbgdiaaGreatDoor
set_option linter.unusedVariables false
open Go.ChangeShapes Go.WideShapes Go.ChangeAt Go.RowKit

set_option maxHeartbeats 8000000 in
set_option maxRecDepth 20000 in
theorem right_any (ra : Option Addr) (n rc : Nat) (xs : List Rw) (w : World) (hT : Tabs w) (hn : xs.length = n) (hn2 : n ≤ 1000000) (hf : ∀ r ∈ xs, FitRw r) (hH : RowsIn w (fun b => b < w.heap.size) 5 rrow (.slice ra n rc) xs) :
    Calls Tryz.prog 49 #[.slice ra n rc] w fun e w' => e = .returned (.bool (rightLs 0 xs)) ∧ Below w.heap.size w w' := by
  have HT := Lib.hid hT
  have HN := Lib.hid hn
  have HF := Lib.hid hf
  have HH := Lib.hid hH
  clear hT hn hf hH
  obtain ⟨R, hR⟩ : ∃ R, rightLs 0 xs = R := ⟨_, rfl⟩
  have HR := Lib.hid hR
  rw [hR]
  clear hR
  go_enter Tryz.func49, Tryz.ntmps49
  go_wp2_with fail
  go_loopw [6] (fun i wr => ∃ (k : Nat), k ≤ n ∧ i = .int .i64 (k : Int) ∧ rightLs k (xs.drop k) = R ∧ Below w.heap.size w wr) (fun i _ => n - (intOf i).toNat)
  case atStart => exact ⟨0, Nat.zero_le _, rfl, HR.out, Below.refl _ _⟩
  case round =>
    generalize wr = w3 at *
    obtain ⟨k, hk, rfl, hr, hB⟩ := hrel
    have HRK := Lib.hid hr
    have HBw3 := Lib.hid hB
    have hsw3 := hB.size
    clear hr hB
    by_cases hkn : k < n
    · obtain ⟨r, hr⟩ : ∃ r, xs[k]? = some r := ⟨_, List.getElem?_eq_getElem (by rw [HN.out]; exact hkn)⟩
      obtain ⟨_, f1, f2, f3, f4⟩ := HF.out r (List.mem_of_getElem? hr)
      obtain ⟨g, o, c, hsl, hg, hcells⟩ := rw_cells HH.out hr
      have HS : Hid ((decide (r.id = (k : Int) + 1) && (camB r.sv && camB r.mt && msgB r.inn && msgB r.out) && rightLs (k + 1) (xs.drop (k + 1))) = R) := by
        refine (?_ : _ = _)
        obtain ⟨h1, h2⟩ := List.getElem?_eq_some_iff.1 hr
        rw [← HRK.out, List.drop_eq_getElem_cons h1, h2, rightLs]
        rfl
      have hra : ra = some ⟨g, o, none⟩ := (Value.slice.inj hsl).1
      subst hra
      have HC : Hid (∀ W, Below w.heap.size w W → W.cell? ⟨g, o + k * 5, none⟩ = some (.int .i64 r.id) ∧ W.cell? ⟨g, o + k * 5 + 1, none⟩ = some (.string (mkB r.sv)) ∧ W.cell? ⟨g, o + k * 5 + 2, none⟩ = some (.string (mkB r.mt)) ∧ W.cell? ⟨g, o + k * 5 + 3, none⟩ = some (.string (mkB r.inn)) ∧ W.cell? ⟨g, o + k * 5 + 4, none⟩ = some (.string (mkB r.out))) := fun W hW => hcells W (hW.block g hg)
      obtain ⟨e0, e1, e2, e3, e4⟩ := HC.out w3 HBw3.out
      have hk0 : (0 : Int) ≤ (k : Int) := by omega
      have hk1 : (k : Int) < (n : Int) := by omega
      have hwk : IntKind.i64.wrap ((k : Int) + 1) = (k : Int) + 1 := by rw [IntKind.wrap_i64]; omega
      have n1 := fun W hW => bareR_any r.sv W hW f1
      have n2 := fun W hW => bareR_any r.mt W hW f2
      have n3 := fun W hW => longB_any r.inn W hW f3
      have n4 := fun W hW => longB_any r.out W hW f4
      clear hr hsl hcells HRK
      generalize camB r.sv = N1 at *
      generalize camB r.mt = N2 at *
      generalize msgB r.inn = N3 at *
      generalize msgB r.out = N4 at *
      by_cases hid : r.id = (k : Int) + 1
      · have hidb : (r.id == (k : Int) + 1) = true := by simp [hid]
        have hidn : (r.id != (k : Int) + 1) = false := by simp [hid]
        rw [decide_eq_true hid] at HS
        clear hid
        cases N1
        case false =>
          have HX : Hid (R = false) := by
            refine (?_ : _ = _)
            rw [← HS.out]; simp
          clear HS
          go_wp2_with fail
          refine (n1 w3 (tabs_below HT.out HBw3.out)).mono ?_
          rintro e w4 ⟨rfl, hb⟩
          have HBw4 := Lib.hid (HBw3.out.trans (hb.mono HBw3.out.size))
          obtain ⟨e0, e1, e2, e3, e4⟩ := HC.out w4 HBw4.out
          clear hb
          go_wp2_with fail
          go_ret
          exact ⟨retB HX.out.symm, HBw4.out⟩
        case true =>
          go_wp2_with fail
          refine (n1 w3 (tabs_below HT.out HBw3.out)).mono ?_
          rintro e w4 ⟨rfl, hb⟩
          have HBw4 := Lib.hid (HBw3.out.trans (hb.mono HBw3.out.size))
          obtain ⟨e0, e1, e2, e3, e4⟩ := HC.out w4 HBw4.out
          clear hb
          cases N2
          case false =>
            have HX : Hid (R = false) := by
              refine (?_ : _ = _)
              rw [← HS.out]; simp
            clear HS
            go_wp2_with fail
            refine (n2 w4 (tabs_below HT.out HBw4.out)).mono ?_
            rintro e w5 ⟨rfl, hb⟩
            have HBw5 := Lib.hid (HBw4.out.trans (hb.mono HBw4.out.size))
            obtain ⟨e0, e1, e2, e3, e4⟩ := HC.out w5 HBw5.out
            clear hb
            go_wp2_with fail
            go_ret
            exact ⟨retB HX.out.symm, HBw5.out⟩
          case true =>
            go_wp2_with fail
            refine (n2 w4 (tabs_below HT.out HBw4.out)).mono ?_
            rintro e w5 ⟨rfl, hb⟩
            have HBw5 := Lib.hid (HBw4.out.trans (hb.mono HBw4.out.size))
            obtain ⟨e0, e1, e2, e3, e4⟩ := HC.out w5 HBw5.out
            clear hb
            cases N3
            case false =>
              have HX : Hid (R = false) := by
                refine (?_ : _ = _)
                rw [← HS.out]; simp
              clear HS
              go_wp2_with fail
              refine (n3 w5 (tabs_below HT.out HBw5.out)).mono ?_
              rintro e w6 ⟨rfl, hb⟩
              have HBw6 := Lib.hid (HBw5.out.trans (hb.mono HBw5.out.size))
              obtain ⟨e0, e1, e2, e3, e4⟩ := HC.out w6 HBw6.out
              clear hb
              go_wp2_with fail
              go_ret
              exact ⟨retB HX.out.symm, HBw6.out⟩
            case true =>
              go_wp2_with fail
              refine (n3 w5 (tabs_below HT.out HBw5.out)).mono ?_
              rintro e w6 ⟨rfl, hb⟩
              have HBw6 := Lib.hid (HBw5.out.trans (hb.mono HBw5.out.size))
              obtain ⟨e0, e1, e2, e3, e4⟩ := HC.out w6 HBw6.out
              clear hb
              cases N4
              case false =>
                have HX : Hid (R = false) := by
                  refine (?_ : _ = _)
                  rw [← HS.out]; simp
                clear HS
                go_wp2_with fail
                refine (n4 w6 (tabs_below HT.out HBw6.out)).mono ?_
                rintro e w7 ⟨rfl, hb⟩
                have HBw7 := Lib.hid (HBw6.out.trans (hb.mono HBw6.out.size))
                obtain ⟨e0, e1, e2, e3, e4⟩ := HC.out w7 HBw7.out
                clear hb
                go_wp2_with fail
                go_ret
                exact ⟨retB HX.out.symm, HBw7.out⟩
              case true =>
                go_wp2_with fail
                refine (n4 w6 (tabs_below HT.out HBw6.out)).mono ?_
                rintro e w7 ⟨rfl, hb⟩
                have HBw7 := Lib.hid (HBw6.out.trans (hb.mono HBw6.out.size))
                obtain ⟨e0, e1, e2, e3, e4⟩ := HC.out w7 HBw7.out
                clear hb
                have HX : Hid (rightLs (k + 1) (xs.drop (k + 1)) = R) := by
                  refine (?_ : _ = _)
                  rw [← HS.out]; simp
                clear HS
                go_wp2_with fail
                go_roundw
                case rel => exact ⟨k + 1, by omega, by go_num, HX.out, HBw7.out⟩
                case measure => simp [intOf]; omega
      · have hidb : (r.id == (k : Int) + 1) = false := by simpa using hid
        have hidn : (r.id != (k : Int) + 1) = true := by simpa using hid
        have HX : Hid (R = false) := by
          refine (?_ : _ = _)
          rw [← HS.out, decide_eq_false hid]; simp
        clear HS
        go_wp2_with fail
        go_ret
        exact ⟨retB HX.out.symm, HBw3.out⟩
    · have HX : Hid (R = true) := by
        refine (?_ : _ = _)
        rw [← HRK.out, List.drop_of_length_le (by rw [HN.out]; omega), rightLs]
      clear HRK
      go_wp2_with fail
      go_ret
      exact ⟨retB HX.out.symm, HBw3.out⟩
theorem ownRw_mono {w : World} {base base' T : Nat} {v : Value} {xs : List Rw} (h : OwnRw w base T v xs) (hb : base' ≤ base) : OwnRw w base' T v xs := by
  obtain ⟨h1, h2 | ⟨g, cap, cur, hv, hg, r⟩⟩ := h
  · exact ⟨h1, .inl h2⟩
  · exact ⟨h1, .inr ⟨g, cap, cur, hv, by omega, r⟩⟩
theorem clos_lens : ∀ (t cur : List UInt8), ∀ x ∈ (closL cur t).1, x.length ≤ cur.length + t.length
  | [], cur => by intro x hx; simp [closL] at hx
  | b :: t, cur => by
    intro x hx
    rw [closL] at hx
    split at hx
    · rcases List.mem_cons.1 hx with rfl | hx
      · omega
      · have := clos_lens t [] x hx
        simp only [List.length_nil, List.length_cons] at this ⊢; omega
    · have := clos_lens t (cur ++ [b]) x hx
      simp only [List.length_append, List.length_cons, List.length_nil] at this ⊢; omega
theorem btw_len (s b e : List UInt8) : (btw s b e).1.length ≤ s.length ∧ (btw s b e).2.1.length ≤ s.length := by
  unfold btw
  split
  · have := cut_len (s.drop b.length) e
    rw [List.length_drop] at this
    omega
  · simp
set_option maxHeartbeats 16000000 in
set_option maxRecDepth 20000 in
theorem readR_any (t : List UInt8) (w : World) (hT : Tabs w) (hP : Pow w) (ht : t.length ≤ 1000000) :
    Calls Tryz.prog 26 #[.string (mkB t)] w fun e w' => ReadAns 62 w (readR t) e w' := by
  have hL := linesR_any t w ht
  have hcl := clos_len t []
  have HE : Hid (readR t = if (closL [] t).2 = [] then match runSt stR [] (closL [] t).1 with | none => none | some l => if rightLs 0 l = true ∧ textT none l = t then some l else none else none) := rfl
  have HLL : Hid (∀ x ∈ (closL [] t).1, x.length ≤ 1000000) := by
    refine (?_ : ∀ _ _, _)
    intro x hx
    have := clos_lens t [] x hx
    simp only [List.length_nil] at this
    omega
  obtain ⟨R, hR⟩ : ∃ R, readR t = R := ⟨_, rfl⟩
  rw [hR] at HE ⊢
  clear hR
  generalize closL [] t = LR at *
  obtain ⟨L, rem⟩ := LR
  have HT := Lib.hid hT
  have HP := Lib.hid hP
  simp only at hcl HE HLL
  clear hT hP
  have zf : mkB wFunc = (⟨#[102, 117, 110, 99, 32, 40, 99, 32]⟩ : ByteArray) := rfl
  have zc : mkB wClient = (⟨#[67, 108, 105, 101, 110, 116, 41, 32]⟩ : ByteArray) := rfl
  have ze : mkB [] = (⟨#[]⟩ : ByteArray) := rfl
  have zi : mkB wIn = (⟨#[40, 105, 110, 32]⟩ : ByteArray) := rfl
  have zm : mkB wMid = (⟨#[41, 32, 40]⟩ : ByteArray) := rfl
  have zs : mkB wStatR = (⟨#[44, 32, 83, 116, 97, 116, 117, 115, 41, 32, 123]⟩ : ByteArray) := rfl
  have HB1 : Hid (∀ (s : List UInt8) (W : World), s.length ≤ 1000000 → Calls Tryz.prog 48 #[.string (mkB s), .string ⟨#[102, 117, 110, 99, 32, 40, 99, 32]⟩, .string ⟨#[67, 108, 105, 101, 110, 116, 41, 32]⟩] W fun r w' => r = .returned (.tuple #[.string (mkB (btw s wFunc wClient).1), .string (mkB (btw s wFunc wClient).2.1), .bool (btw s wFunc wClient).2.2]) ∧ Below W.heap.size W w') := fun s W hs => between_any s wFunc wClient W (by decide) hs (by decide) (by decide)
  have HB2 : Hid (∀ (s : List UInt8) (W : World), s.length ≤ 1000000 → Calls Tryz.prog 48 #[.string (mkB s), .string ⟨#[]⟩, .string ⟨#[40, 105, 110, 32]⟩] W fun r w' => r = .returned (.tuple #[.string (mkB (btw s [] wIn).1), .string (mkB (btw s [] wIn).2.1), .bool (btw s [] wIn).2.2]) ∧ Below W.heap.size W w') := fun s W hs => between_any s [] wIn W (by decide) hs (by decide) (by decide)
  have HB3 : Hid (∀ (s : List UInt8) (W : World), s.length ≤ 1000000 → Calls Tryz.prog 48 #[.string (mkB s), .string ⟨#[]⟩, .string ⟨#[41, 32, 40]⟩] W fun r w' => r = .returned (.tuple #[.string (mkB (btw s [] wMid).1), .string (mkB (btw s [] wMid).2.1), .bool (btw s [] wMid).2.2]) ∧ Below W.heap.size W w') := fun s W hs => between_any s [] wMid W (by decide) hs (by decide) (by decide)
  have HB4 : Hid (∀ (s : List UInt8) (W : World), s.length ≤ 1000000 → Calls Tryz.prog 48 #[.string (mkB s), .string ⟨#[]⟩, .string ⟨#[44, 32, 83, 116, 97, 116, 117, 115, 41, 32, 123]⟩] W fun r w' => r = .returned (.tuple #[.string (mkB (btw s [] wStatR).1), .string (mkB (btw s [] wStatR).2.1), .bool (btw s [] wStatR).2.2]) ∧ Below W.heap.size W w') := fun s W hs => between_any s [] wStatR W (by decide) hs (by decide) (by decide)
  clear zf zc ze zi zm zs
  go_enter Tryz.func26, Tryz.ntmps26
  go_wp2_with fail
  refine hL.mono ?_
  rintro e w1 ⟨v, rfl, hO, hb⟩
  have HBw1 := Lib.hid hb
  have HO1 := Lib.hid hO
  have hs1 := hb.size
  simp only at hO
  obtain ⟨va, vc, rfl⟩ := own_slice hO
  rw [List.length_map]
  clear hb hL hO
  by_cases hrem : rem = []
  · have hdr : decide (rem = []) = true := decide_eq_true hrem
    rw [hdr]
    have HX : Hid (R = match runSt stR [] L with | none => none | some l => if rightLs 0 l = true ∧ textT none l = t then some l else none) := by
      refine (?_ : _ = _)
      rw [HE.out, if_pos hrem]
    obtain ⟨RR, hRR⟩ : ∃ x, runSt stR [] L = x := ⟨_, rfl⟩
    rw [hRR] at HX
    have HRR := Lib.hid hRR
    obtain ⟨n, hn⟩ : ∃ n, L.length = n := ⟨_, rfl⟩
    rw [hn] at hcl ⊢
    have HN := Lib.hid hn
    clear HE hrem hdr hRR hn
    go_wp2_with fail
    go_loopw [6, 27] (fun u i wr => ∃ (k : Nat) (acc : List Rw), k ≤ n ∧ i = .int .i64 (k : Int) ∧ acc.length ≤ k ∧ (∀ r ∈ acc, FitRw r) ∧ runSt stR acc (L.drop k) = RR ∧ OwnRw wr w1.heap.size 62 u acc ∧ Below w1.heap.size w1 wr) (fun _ i _ => n - (intOf i).toNat)
    case atStart => exact ⟨0, [], Nat.zero_le _, rfl, Nat.le_refl _, fun r hr => (by cases hr), HRR.out, ownRw_nil _ _ _, Below.refl _ _⟩
    case round =>
      generalize wr = w3 at *
      obtain ⟨k, acc, hk, rfl, hal, hfit, hrun, hO, hb⟩ := hrel
      have HFT := Lib.hid hfit
      have HRN := Lib.hid hrun
      have HO3 := Lib.hid hO
      have HB13 := Lib.hid hb
      have HBw3 := Lib.hid (HBw1.out.trans (hb.mono hs1))
      have hs3 := HBw3.out.size
      clear hfit hrun hb hO HRR
      by_cases hkn : k < n
      · obtain ⟨ln, hln⟩ : ∃ x, L[k]? = some x := ⟨_, List.getElem?_eq_getElem (by rw [HN.out]; exact hkn)⟩
        have hlen := HLL.out ln (List.mem_of_getElem? hln)
        obtain ⟨g, c, cur, hv, hg, hcur, hc, hheld⟩ := ownS_slice HO1.out (by rw [List.length_map, HN.out]; omega)
        have hva : va = some ⟨g, 0, none⟩ := (Value.slice.inj hv).1
        subst hva
        have hcell : w3.cell? ⟨g, k, none⟩ = some (.string (mkB ln)) := by
          rw [World.cell?_of_block (HB13.out.block g (blk_lt hcur))]
          exact hheld k _ (by rw [List.getElem?_map, hln]; rfl)
        have HS : Hid (runSt stR acc (ln :: L.drop (k + 1)) = RR) := by
          refine (?_ : _ = _)
          obtain ⟨h1, h2⟩ := List.getElem?_eq_some_iff.1 hln
          rw [← HRN.out, List.drop_eq_getElem_cons h1, h2]
        have hk0 : (0 : Int) ≤ (k : Int) := by omega
        have hk1 : (k : Int) < (n : Int) := by omega
        have hwk : IntKind.i64.wrap ((k : Int) + 1) = (k : Int) + 1 := by rw [IntKind.wrap_i64]; omega
        obtain ⟨c1, hc1⟩ : ∃ c, btw ln wFunc wClient = c := ⟨_, rfl⟩
        obtain ⟨c2, hc2⟩ : ∃ c, btw c1.2.1 [] wIn = c := ⟨_, rfl⟩
        obtain ⟨c3, hc3⟩ : ∃ c, btw c2.2.1 [] wMid = c := ⟨_, rfl⟩
        obtain ⟨c4, hc4⟩ : ∃ c, btw c3.2.1 [] wStatR = c := ⟨_, rfl⟩
        have HST : Hid (stR ln = if c1.2.2 then (if c2.2.2 && c3.2.2 && c4.2.2 then some (some ⟨0, c1.1, c2.1, c3.1, c4.1⟩) else none) else some none) := by
          refine (?_ : _ = _)
          unfold stR
          simp only [hc1, hc2, hc3, hc4]
        have l1 := btw_len ln wFunc wClient
        have l2 := btw_len c1.2.1 [] wIn
        have l3 := btw_len c2.2.1 [] wMid
        have l4 := btw_len c3.2.1 [] wStatR
        have k1 := HB1.out ln
        have k2 := HB2.out c1.2.1
        have k3 := HB3.out c2.2.1
        have k4 := HB4.out c3.2.1
        rw [hc1] at l1 k1
        rw [hc2] at l2 k2
        rw [hc3] at l3 k3
        rw [hc4] at l4 k4
        obtain ⟨a1, x1, b1⟩ := c1
        obtain ⟨a2, x2, b2⟩ := c2
        obtain ⟨a3, x3, b3⟩ := c3
        obtain ⟨a4, x4, b4⟩ := c4
        simp only at l1 l2 l3 l4 k1 k2 k3 k4 HST
        clear hc1 hc2 hc3 hc4 hln hv hcur hc hheld HRN
        go_wp2_with fail
        refine (k1 w3 hlen).mono ?_
        rintro e w4 ⟨rfl, hb⟩
        have HB14 := Lib.hid (HB13.out.trans (hb.mono HB13.out.size))
        have HO4 := Lib.hid (ownRw_old HO3.out hb)
        clear hb k1 HO3 hcell
        cases b1
        case false =>
          have HX2 : Hid (runSt stR acc (L.drop (k + 1)) = RR) := by
            refine (?_ : _ = _)
            rw [← HS.out, runSt, HST.out]
            rfl
          clear HS HST
          go_wp2_with fail
          go_roundw
          case rel => exact ⟨k + 1, acc, by omega, by go_num, by omega, HFT.out, HX2.out, HO4.out, HB14.out⟩
          case measure => simp [intOf]; omega
        case true =>
          go_wp2_with fail
          refine (k2 w4 (by omega)).mono ?_
          rintro e w5 ⟨rfl, hb⟩
          have HB15 := Lib.hid (HB14.out.trans (hb.mono HB14.out.size))
          have HO5 := Lib.hid (ownRw_old HO4.out hb)
          clear hb k2 HO4 HB14
          go_wp2_with fail
          refine (k3 w5 (by omega)).mono ?_
          rintro e w6 ⟨rfl, hb⟩
          have HB16 := Lib.hid (HB15.out.trans (hb.mono HB15.out.size))
          have HO6 := Lib.hid (ownRw_old HO5.out hb)
          clear hb k3 HO5 HB15
          go_wp2_with fail
          refine (k4 w6 (by omega)).mono ?_
          rintro e w7 ⟨rfl, hb⟩
          have HB17 := Lib.hid (HB16.out.trans (hb.mono HB16.out.size))
          have HO7 := Lib.hid (ownRw_old HO6.out hb)
          clear hb k4 HO6 HB16
          have hs7 := HB17.out.size
          by_cases hall : (b2 && b3 && b4) = true
          · have hb234 : b2 = true ∧ b3 = true ∧ b4 = true := by
              simp only [Bool.and_eq_true] at hall
              exact ⟨hall.1.1, hall.1.2, hall.2⟩
            obtain ⟨rfl, rfl, rfl⟩ := hb234
            have HX2 : Hid (runSt stR (acc ++ [rid (acc.length + 1) ⟨0, a1, a2, a3, a4⟩]) (L.drop (k + 1)) = RR) := by
              refine (?_ : _ = _)
              rw [← HS.out, runSt, HST.out]
              rfl
            obtain ⟨aa, ac, haa⟩ := own_slice HO7.out
            subst haa
            have hwa : IntKind.i64.wrap ((acc.length : Int) + 1) = (acc.length : Int) + 1 := by rw [IntKind.wrap_i64]; omega
            have HW := Lib.hid (ownRw_old HO7.out ((Below.refl w7.heap.size w7).alloc (Nat.le_refl _) (.cells (rrow (rid (acc.length + 1) ⟨0, a1, a2, a3, a4⟩)).toArray 62)))
            have hbw : w1.heap.size ≤ w7.heap.size := by omega
            have hal2 : acc.length ≤ 1000000 := by omega
            have HFT2 : Hid (∀ r ∈ acc ++ [rid (acc.length + 1) ⟨0, a1, a2, a3, a4⟩], FitRw r) := by
              refine (?_ : ∀ _ _, _)
              intro r hr
              rcases List.mem_append.1 hr with hr | hr
              · exact HFT.out r hr
              · simp only [List.mem_cons, List.not_mem_nil, or_false] at hr
                subst hr
                exact ⟨by simp only [rid]; omega, by simp only [rid]; omega, by simp only [rid]; omega, by simp only [rid]; omega, by simp only [rid]; omega⟩
            clear HS HST hall
            go_wp2_with (at_builtin; refine rw_push Tryz.underlying33 infoRwR HW.out (by rw [World.size_alloc]; omega) (rid (acc.length + 1) ⟨0, a1, a2, a3, a4⟩) w7.heap.size (alloc_heap_new _ _) rfl (.tmp 69) (.tmp 78) rfl rfl rfl hal2 ?_; intro v5 w8 hown8 hsl8 hb8 hs8)
            have HB18 := Lib.hid (HB17.out.trans ((((Below.refl w7.heap.size w7).alloc (Nat.le_refl _) (.cells (rrow (rid (acc.length + 1) ⟨0, a1, a2, a3, a4⟩)).toArray 62)).mono HB17.out.size).trans hb8))
            have HO8 := Lib.hid hown8
            clear hown8 hb8 hsl8 HW
            go_roundw
            case rel => exact ⟨k + 1, _, by omega, by go_num, by simp only [List.length_append, List.length_cons, List.length_nil]; omega, HFT2.out, HX2.out, HO8.out, HB18.out⟩
            case measure => simp [intOf]; omega
          · have HX2 : Hid (RR = none) := by
              refine (?_ : _ = _)
              have hall3 : (b2 && b3 && b4) = false := Bool.eq_false_iff.2 hall
              rw [← HS.out, runSt, HST.out, hall3]
              simp
            clear HS HST
            have hall2 : (b2 && b3 && b4) = false := Bool.eq_false_iff.2 hall
            clear hall
            have HBw7 := Lib.hid (HBw1.out.trans (HB17.out.mono hs1))
            have HXX := HX.out
            rw [HX2.out] at HXX
            have HR0 : Hid (R = none) := HXX
            clear HX HXX HX2
            cases b2
            · go_wp2_with fail
              go_ret2
              rw [HR0.out]
              exact ⟨rfl, HBw7.out⟩
            · cases b3
              · go_wp2_with fail
                go_ret2
                rw [HR0.out]
                exact ⟨rfl, HBw7.out⟩
              · cases b4
                · go_wp2_with fail
                  go_ret2
                  rw [HR0.out]
                  exact ⟨rfl, HBw7.out⟩
                · simp at hall2
      · have HX2 : Hid (RR = some acc) := by
          refine (?_ : _ = _)
          rw [← HRN.out, List.drop_of_length_le (by rw [HN.out]; omega), runSt]
        have HX3 : Hid (R = if rightLs 0 acc = true ∧ textT none acc = t then some acc else none) := by
          refine (?_ : _ = _)
          have := HX.out
          rw [HX2.out] at this
          exact this
        obtain ⟨ra, rc, rfl⟩ := own_slice HO3.out
        have hrows : RowsIn w3 (fun b => b < w3.heap.size) 5 rrow (.slice ra acc.length rc) acc := rowsIn_own rrow_len HO3.out _ fun b hv => (own_block HO3.out b hv).2
        have hr1 := right_any ra acc.length rc acc w3 (tabs_below HT.out HBw3.out) rfl (by omega) HFT.out hrows
        have HROW := Lib.hid hrows
        clear HX HX2 HRN hrows
        go_wp2_with fail
        refine hr1.mono ?_
        rintro e w4 ⟨rfl, hb⟩
        have HBw4 := Lib.hid (HBw3.out.trans (hb.mono HBw3.out.size))
        have HO4 := Lib.hid (ownRw_old HO3.out hb)
        have hs4 := hb.size
        have htx := textR_any ra acc.length rc acc w4 (HP.out.below HBw4.out) rfl (by omega) HFT.out ((HROW.out.old fun b h => hb.block b h).more fun b h => (by omega))
        clear hb hr1 HO3
        cases hq : rightLs 0 acc
        case false =>
          have HX4 : Hid (R = none) := by
            refine (?_ : _ = _)
            rw [HX3.out, if_neg (by rw [hq]; simp)]
          clear hq HX3 htx
          go_wp2_with fail
          go_ret2
          rw [HX4.out]
          exact ⟨rfl, HBw4.out⟩
        case true =>
          go_wp2_with fail
          refine htx.mono ?_
          rintro e w5 ⟨rfl, hb⟩
          have HBw5 := Lib.hid (HBw4.out.trans (hb.mono HBw4.out.size))
          have HO5 := Lib.hid (ownRw_old HO4.out hb)
          clear hb htx HO4
          by_cases hT : textT none acc = t
          · have HX4 : Hid (R = some acc) := by
              refine (?_ : _ = _)
              rw [HX3.out, if_pos ⟨hq, hT⟩]
            rw [hT]
            clear hq hT HX3
            go_wp2_with fail
            go_ret2
            rw [HX4.out]
            exact ⟨_, rfl, ownRw_mono HO5.out hs1, HBw5.out⟩
          · have HX4 : Hid (R = none) := by
              refine (?_ : _ = _)
              rw [HX3.out, if_neg (fun h => hT h.2)]
            have h1 : ¬ mkB (textT none acc) = mkB t := by
              intro e
              have := congrArg (fun x : ByteArray => x.toList) e
              simp only [mkB_list] at this
              exact hT this
            clear HX3 hq
            generalize textT none acc = Z at *
            have h2 : ((mkB Z).toList == (mkB t).toList) = false := by
              rw [mkB_list, mkB_list, beq_eq_false_iff_ne]; exact hT
            go_wp2_with fail
            go_ret2
            rw [HX4.out]
            exact ⟨rfl, HBw5.out⟩
  · have hdr : decide (rem = []) = false := decide_eq_false hrem
    rw [hdr]
    have HX : Hid (R = none) := by
      refine (?_ : _ = _)
      rw [HE.out, if_neg hrem]
    clear hdr hrem HE
    go_wp2_with fail
    go_ret2
    rw [HX.out]
    exact ⟨rfl, HBw1.out⟩
end Go.Proofs.YtkhnicppcbgdiaaGreatDoor
