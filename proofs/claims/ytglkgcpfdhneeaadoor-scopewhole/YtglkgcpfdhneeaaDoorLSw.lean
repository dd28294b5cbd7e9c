/-
  A whole name that is there once, of a message or an enum, means itself in no scope; nothing else means a service: the walk.
-/
import Derived.Test.YtglkgcpfdhneeaaDoorLSa
namespace Go.Proofs.YtglkgcpfdhneeaaDoor
set_option linter.unusedVariables false
open Go.ChangeShapes Go.WideShapes Go.ChangeAt Go.RowKit

theorem bd_u16 {n : Int} (h : (Lit.int .u16 n).wf = true) : 0 ≤ n ∧ n ≤ 65535 := by
  simpa [Lit.wf, IntKind.min, IntKind.max, IntKind.bits, IntKind.signed] using h
theorem all_short : ∀ (f k : Nat) (a : List UInt8) (ds : List Dc), fmL f k ds = true → k ≤ 8 → a.length ≤ 161 * k → ∀ x ∈ allL f a ds, x.1.length ≤ 1500
  | 0, k, a, ds, _, _, _, x, hx => by simp [allL] at hx
  | f + 1, k, a, ds, h, hk, ha, x, hx => by
    rw [fmL_succ, List.all_eq_true] at h
    rw [allL, List.mem_flatMap] at hx
    obtain ⟨d, hd, hx⟩ := hx
    have hf := h d hd
    have hn : d.name.length ≤ 160 := by
      have h1 := (plainL_name (fmD_parts hf).1).1
      have := name_size (mkB d.name) h1
      rw [mkB_size] at this; exact this
    rcases List.mem_cons.1 hx with rfl | hx
    · rw [List.length_append]; omega
    · by_cases hk8 : k = 8
      · have hi : d.inner = [] := by
          by_cases h1 : d.kind = 1
          · have h8 := ((fmD_parts hf).2.2.2.2.2.1 h1).1
            omega
          · exact ((fmD_parts hf).2.2.2.2.2.2.1 h1).1
        rw [hi] at hx
        cases f <;> simp [allL] at hx
      · exact all_short f (k + 1) _ _ (fm_inner hf) (by omega) (by simp only [List.length_append, List.length_cons, List.length_nil]; omega) x hx
set_option maxHeartbeats 16000000 in
set_option maxRecDepth 20000 in
theorem scopeWhole_any (v : Value) (f : Nat) (ds : List Dc) (at0 : Int) (w : World) (hT : Tabs w) (hH : HeldD (f + 1) w (fun b => b < w.heap.size) v ds) (hF : FitW (f + 1) ds) (hat : 0 ≤ at0 ∧ at0 ≤ 65535) :
    Calls Tryd.prog 5 #[v, .int .u16 at0] w fun e w' => e = .returned (.bool true) ∧ Below w.heap.size w w' := by
  obtain ⟨va, vc, rfl⟩ := hH.isSlD
  have HH := Lib.hid hH
  have HF := Lib.hid hF
  have HTB := Lib.hid hT
  obtain ⟨ha0, ha1⟩ := hat
  clear hH hF hT
  go_enter Tryd.func5, Tryd.ntmps5
  go_wp2_with fail
  refine (awake7_any _).mono ?_
  rintro e W1 ⟨rfl, hb1⟩
  have HB1 := Lib.hid hb1
  clear hb1
  go_wp2_with fail
  refine (smallY_any (f + 1) ds (.slice va ds.length vc) W1 HF.out (held_to HH.out HB1.out)).mono ?_
  rintro e W2 ⟨⟨b, rfl, hb⟩, hb2⟩
  have HB2 := Lib.hid (HB1.out.trans (hb2.mono HB1.out.size))
  have HSM := Lib.hid hb
  clear hb hb2
  cases b with
  | false =>
    go_wp2_with fail
    refine (awake7_any _).mono ?_
    rintro e W3 ⟨rfl, hb3⟩
    have HB3 := Lib.hid (HB2.out.trans (hb3.mono HB2.out.size))
    clear hb3
    go_wp2_with fail
    go_ret
    exact ⟨rfl, HB3.out⟩
  | true =>
    obtain ⟨hfit, htxt, hct⟩ := HSM.out rfl
    have HFT := Lib.hid hfit
    have HTX := Lib.hid htxt
    have HCT := Lib.hid hct
    clear hfit htxt hct
    have hFo := formedR_any f ds (.slice va ds.length vc) W2 (tabs_below HTB.out HB2.out) HFT.out HTX.out (held_to HH.out HB2.out)
    obtain ⟨fm, hfm⟩ : ∃ b, fmL (f + 1) 0 ds = b := ⟨_, rfl⟩
    rw [hfm] at hFo
    have HFM := Lib.hid hfm
    clear hfm
    go_wp2_with fail
    refine hFo.mono ?_
    rintro e W3 ⟨rfl, hb3⟩
    have HB3 := Lib.hid (HB2.out.trans (hb3.mono HB2.out.size))
    clear hb3 hFo
    cases fm with
    | false =>
      go_wp2_with fail
      refine (awake7_any _).mono ?_
      rintro e W4 ⟨rfl, hb4⟩
      have HB4 := Lib.hid (HB3.out.trans (hb4.mono HB3.out.size))
      clear hb4
      go_wp2_with fail
      go_ret
      exact ⟨rfl, HB4.out⟩
    | true =>
    go_wp2_with fail
    refine (AllR_any (f + 1) ds (.slice va ds.length vc) W3 HFT.out HTX.out HCT.out (held_to HH.out HB3.out)).mono ?_
    rintro e W5 ⟨rv, rfl, hown5, hb5⟩
    have HB5 := Lib.hid (HB3.out.trans (hb5.mono HB3.out.size))
    have HO5 := Lib.hid hown5
    obtain ⟨ra, rc, hrv⟩ := own_slice hown5
    subst hrv
    have hLn := Nat.le_trans (allL_len (f + 1) [] ds) HCT.out
    have HSH := Lib.hid (all_short (f + 1) 0 [] ds HFM.out (by omega) (by simp))
    have HWS : Hid (∀ x : Sy, Apart (allL (f + 1) [] ds) → x ∈ allL (f + 1) [] ds → x.2 ≠ 3 → findP (f + 1) ds [] x.1 = if pathOK x.1 = true then some x else none) := fun x hA hx h3 => whole_selfP (f + 1) ds HFM.out hA x hx h3
    have HWV : Hid (∀ x : Sy, Apart (allL (f + 1) [] ds) → x ∈ allL (f + 1) [] ds → x.2 = 3 → findP (f + 1) ds [] x.1 = none) := fun x hA hx h3 => whole_serviceP (f + 1) ds HFM.out hA x hx h3
    clear hown5 hb5
    generalize allL (f + 1) [] ds = L at *
    obtain ⟨n, hn⟩ : ∃ n, L.length = n := ⟨_, rfl⟩
    have HN := Lib.hid hn
    rw [hn] at hLn ⊢
    clear hn
    by_cases hn0 : n = 0
    · subst hn0
      go_wp2_with fail
      go_ret
      exact ⟨rfl, HB5.out⟩
    have hn1 : (n : Int) ≠ 0 := by omega
    have hn2 := beq_eq_false_iff_ne.2 hn1
    obtain ⟨q, hq⟩ : ∃ q : Nat, at0.toNat % n = q := ⟨_, rfl⟩
    have hqn : q < n := by rw [← hq]; exact Nat.mod_lt _ (by omega)
    obtain ⟨x, hx⟩ : ∃ x, L[q]? = some x := ⟨_, List.getElem?_eq_getElem (by have := HN.out; omega)⟩
    have hxm := List.mem_of_getElem? hx
    obtain ⟨g, c, hv1, -, hgl, e0, e1⟩ := sy_at HO5.out (W := W5) (fun b hb => rfl) hx
    rw [HN.out] at hv1
    obtain ⟨rfl, rfl⟩ : ra = some ⟨g, 0, none⟩ ∧ rc = c := by
      injection hv1 with h1 _ h3
      exact ⟨h1, h3⟩
    have hrem : IntKind.i64.wrap (at0.tmod (n : Int)) = (q : Int) := by
      obtain ⟨a, rfl⟩ : ∃ a : Nat, at0 = a := ⟨at0.toNat, by omega⟩
      have : ((a : Int).tmod (n : Int)) = ((a % n : Nat) : Int) := by rw [Int.tmod_eq_emod_of_nonneg (by omega)]; rfl
      rw [this, IntKind.wrap_i64]
      have hq' : a % n = q := by simpa using hq
      rw [hq']
      omega
    have hrem2 : at0.tmod (n : Int) = (q : Int) := by
      obtain ⟨a, rfl⟩ : ∃ a : Nat, at0 = a := ⟨at0.toNat, by omega⟩
      have : ((a : Int).tmod (n : Int)) = ((a % n : Nat) : Int) := by rw [Int.tmod_eq_emod_of_nonneg (by omega)]; rfl
      rw [this]
      have hq' : a % n = q := by simpa using hq
      rw [hq']
    have hcv : IntKind.i64.wrap at0 = at0 := by rw [IntKind.wrap_i64]; omega
    have hq0 : (0 : Int) ≤ (q : Int) := by omega
    have hq1 : (q : Int) < (n : Int) := by omega
    have hY : (W5.alloc (.cells #[.string (mkB x.1), .int .i64 x.2] 32)).heap[W5.heap.size]? = some (.cells #[.string (mkB x.1), .int .i64 x.2] 32 (0, 0)) := alloc_heap_new _ _
    have hYb : Below W5.heap.size W5 (W5.alloc (.cells #[.string (mkB x.1), .int .i64 x.2] 32)) := (Below.refl _ W5).alloc (Nat.le_refl _) _
    have HXM := Lib.hid hxm
    clear hq hx hxm hv1
    go_upto_region 7 with fail
    generalize (W5.alloc (.cells #[.string (mkB x.1), .int .i64 x.2] 32)) = Y at *
    have HYX := Lib.hid hY
    have HYB := Lib.hid hYb
    have hlY := blk_lt hY
    have hsY := hYb.size
    have HOY : Hid (Y.ownsRow W3.heap.size 32 2 (.slice (some ⟨g, 0, none⟩) L.length rc) L.length (L.flatMap srow)) := by
      refine (?_ : World.ownsRow _ _ _ _ _ _ _)
      have := HO5.out
      rw [HN.out] at this ⊢
      exact own_keep this fun b hb => hYb.block b (own_block HO5.out b (by rw [HN.out]; exact hb)).2
    have HCL : Hid (∀ (W : World), Below Y.heap.size Y W → ∀ (k : Nat) (y : Sy), L[k]? = some y → W.cell? ⟨g, k * 2, none⟩ = some (.string (mkB y.1))) := fun W hW k y hy => by
      obtain ⟨g', c', hv', -, -, e, -⟩ := sy_at HOY.out (W := W) (fun b hb => hW.block b (own_block HOY.out b hb).2) hy
      injection hv' with h1 _ _
      cases h1
      exact e
    clear hY hYb e0 e1 hrem hrem2 hcv
    go_wp2_with fail
    go_loopw [41] (fun i wr => ∃ j : Nat, i = .int .i64 (j : Int) ∧ j ≤ n ∧ Below Y.heap.size Y wr ∧ ∀ (i k : Nat) (xi xk : Sy), i < j → k < i → L[i]? = some xi → L[k]? = some xk → xk.1 ≠ xi.1) (fun i _ => n - (intOf i).toNat)
    case atStart => exact ⟨0, rfl, by omega, Below.refl _ _, fun i k xi xk h => by omega⟩
    case round =>
      generalize wr = w1 at *
      obtain ⟨j, rfl, hj, hbq, hap⟩ := hrel
      have HBQ := Lib.hid hbq
      have HAP := Lib.hid hap
      clear hbq hap
      by_cases hjn : j < n
      · obtain ⟨xj, hxj⟩ : ∃ x, L[j]? = some x := ⟨_, List.getElem?_eq_getElem (by have := HN.out; omega)⟩
        have HXJ := Lib.hid hxj
        have hj1 : (j : Int) < (n : Int) := by omega
        have hj0 : (0 : Int) ≤ (j : Int) := by omega
        have hwj : IntKind.i64.wrap ((j : Int) + 1) = (j : Int) + 1 := by rw [IntKind.wrap_i64]; omega
        clear hxj
        go_wp2_with fail
        go_loopw [45] (fun i wr => ∃ k : Nat, i = .int .i64 (k : Int) ∧ k ≤ j ∧ Below Y.heap.size Y wr ∧ ∀ (k' : Nat) (xk : Sy), k' < k → L[k']? = some xk → xk.1 ≠ xj.1) (fun i _ => j - (intOf i).toNat)
        case atStart => exact ⟨0, rfl, by omega, HBQ.out, fun k' xk h => by omega⟩
        case round =>
          obtain ⟨k, rfl, hk, hbk, hdk⟩ := hrel
          have HBK := Lib.hid hbk
          have HDK := Lib.hid hdk
          clear hbk hdk
          by_cases hkj : k < j
          · obtain ⟨xk, hxk⟩ : ∃ x, L[k]? = some x := ⟨_, List.getElem?_eq_getElem (by have := HN.out; omega)⟩
            have HXK := Lib.hid hxk
            have c0 := HCL.out wr HBK.out j xj HXJ.out
            have c1 := HCL.out wr HBK.out k xk hxk
            have hk1 : (k : Int) < (j : Int) := by omega
            have hk2 : (k : Int) < (n : Int) := by omega
            have hk0 : (0 : Int) ≤ (k : Int) := by omega
            have hwk : IntKind.i64.wrap ((k : Int) + 1) = (k : Int) + 1 := by rw [IntKind.wrap_i64]; omega
            have HBN : Hid (∀ i, Below Y.heap.size Y (wr.drewN i)) := fun i => ⟨HBK.out.os, HBK.out.tape, HBK.out.output, HBK.out.size, HBK.out.block⟩
            have HBE : Hid (∀ i, Below w.heap.size w (wr.drewN i)) := fun i => (HB5.out.trans (HYB.out.mono HB5.out.size)).trans ((HBN.out i).mono (by have := HB5.out.size; omega))
            clear hxk
            by_cases he : xk.1 = xj.1
            · rw [he] at c1
              clear he
              go_wp2_with fail
              go_quiet (fail)
              go_wp2_with fail
              go_ret
              exact ⟨rfl, HBE.out _⟩
            · have t' := mkB_beqS he
              have t'' := beq_eq_false_iff_ne.2 he
              have HNE := Lib.hid he
              go_wp2_with fail
              go_quiet (fail)
              go_wp2_with fail
              go_roundw
              case rel => exact ⟨k + 1, by go_num, by omega, HBN.out _, fun k' y hk' hy => by
                by_cases hh : k' = k
                · subst hh
                  have := HXK.out
                  rw [hy] at this
                  cases this
                  exact HNE.out
                · exact HDK.out k' y (by omega) hy⟩
              case measure => simp [intOf]; omega
          · have hkj' : ¬ (k : Int) < (j : Int) := by omega
            have HND : Hid (∀ (i k : Nat) (xi xk : Sy), i < j + 1 → k < i → L[i]? = some xi → L[k]? = some xk → xk.1 ≠ xi.1) := fun i k' xi xk hi hk' h1 h2 => by
              by_cases hh : i = j
              · subst hh
                have := HXJ.out
                rw [h1] at this
                cases this
                exact HDK.out k' xk (by omega) h2
              · exact HAP.out i k' xi xk (by omega) hk' h1 h2
            go_wp2_with fail
            go_roundw
            case rel => exact ⟨j + 1, by go_num, by omega, HBK.out, HND.out⟩
            case measure => simp [intOf]; omega
      · have hjn' : ¬ (j : Int) < (n : Int) := by omega
        have hAp : Apart L := by
          intro i k xi xk hi hk hxe
          have hli := (List.getElem?_eq_some_iff.1 hi).1
          have hlk := (List.getElem?_eq_some_iff.1 hk).1
          rw [HN.out] at hli hlk
          rcases Nat.lt_trichotomy i k with h | h | h
          · exact absurd hxe (HAP.out k i xk xi (by omega) h hk hi)
          · exact h
          · exact absurd hxe.symm (HAP.out i k xi xk (by omega) h hi hk)
        have hX1 := HSH.out x HXM.out
        obtain ⟨FR, hFR⟩ : ∃ r, findP (f + 1) ds [] x.1 = r := ⟨_, rfl⟩
        have HV1 : Hid (x.2 = 3 → FR = none) := fun h => hFR.symm.trans (HWV.out x hAp HXM.out h)
        have HV2 : Hid (x.2 ≠ 3 → FR = if pathOK x.1 = true then some x else none) := fun h => hFR.symm.trans (HWS.out x hAp HXM.out h)
        have HTH := fun (W : World) (hW : Below w.heap.size w W) => theirs_any (f + 1) ds (.slice va ds.length vc) W HFT.out (held_to HH.out hW)
        have hFi := fun (W : World) (tv : Value) (h : HeldD (f + 1) W (fun b => b < W.heap.size) tv ds) => find_any f ds tv [] x.1 (fun b => b < W.heap.size) W (by have := HCT.out; omega) HFT.out HTX.out (by simp) (by omega) h (fun b hb => hb)
        rw [hFR] at hFi
        have HFI : Hid (∀ (W : World) (tv : Value), HeldD (f + 1) W (fun b => b < W.heap.size) tv ds → Calls Tryd.prog 12 #[tv, .string ⟨#[]⟩, .string (mkB x.1)] W fun e w' => (∃ s k b, e = .returned (.tuple #[.agg #[.string s, .int .i64 k], .bool b]) ∧ SX FR s k b) ∧ Below W.heap.size W w') := fun W tv h => (hFi W tv h).mono fun e w' h => ⟨h.1.one, h.2⟩
        have HTI := Lib.hid HTH
        clear hFi HTH hFR hAp
        have HWQ : Hid (Below w.heap.size w w1) := (HB5.out.trans (HYB.out.mono HB5.out.size)).trans (HBQ.out.mono (by have := HB5.out.size; omega))
        have HKP : Hid (∀ W : World, Below w1.heap.size w1 W → W.heap[W5.heap.size]? = some (.cells #[.string (mkB x.1), .int .i64 x.2] 32 (0, 0))) := fun W hW => (hW.block _ (by have := HBQ.out.size; omega)).trans ((HBQ.out.block _ hlY).trans HYX.out)
        have a0 : ∀ W : World, (W.heap[W5.heap.size]? = some (.cells #[.string (mkB x.1), .int .i64 x.2] 32 (0, 0))) → W.cell? ⟨W5.heap.size, 0, none⟩ = some (.string (mkB x.1)) := fun W h => by simp [World.cell?, h]
        have hbr : Below w1.heap.size w1 w1.drew := (Below.refl _ _).drew
        have hba : ∀ o, Below w1.heap.size w1 (w1.alloc o).drew := fun o => ((Below.refl _ w1).alloc (Nat.le_refl _) o).drew
        have hk0 := HKP.out w1.drew hbr
        have hka := fun o => HKP.out _ (hba o)
        have HKC : Hid (∀ (W : World) (D : Nat) (y z : Value), Below w1.heap.size w1 W → w1.heap.size ≤ D → ((W.setCell ⟨D, 0, none⟩ y).setCell ⟨D, 1, none⟩ z).heap[W5.heap.size]? = some (.cells #[.string (mkB x.1), .int .i64 x.2] 32 (0, 0))) := fun W D y z hW hD => HKP.out _ ((hW.setCell (p := ⟨D, 0, none⟩) hD _).setCell (p := ⟨D, 1, none⟩) hD _)
        have HZC : Hid (∀ (W : World) (D : Nat), W.heap[D]? = some (.cells #[.string ⟨#[]⟩, .int .i64 0] 33 (0, 0)) → W.cell? ⟨D, 0, none⟩ = some (.string ⟨#[]⟩) ∧ W.cell? ⟨D, 1, none⟩ = some (.int .i64 0) ∧ W.frozen? ⟨D, 0, none⟩ = false ∧ W.frozen? ⟨D, 1, none⟩ = false) := fun W D h => by
          refine ⟨?_, ?_, ?_, ?_⟩ <;> simp [World.cell?, World.frozen?, h]
        go_wp2_with fail
        go_cut [9, 10] (fun s9 s10 wx => ∃ (D : Nat) (s : ByteArray) (k : Int) (b : Bool), s9 = .pointer (some ⟨D, 0, none⟩) ∧ s10 = .bool b ∧ wx.heap[D]? = some (.cells #[.string s, .int .i64 k] 33 (0, 0)) ∧ Below w1.heap.size w1 wx ∧ w1.heap.size ≤ D ∧ SX FR s k b)
        case first =>
          go_region_held_law (fun W => W.heap[W5.heap.size]? = some (.cells #[.string (mkB x.1), .int .i64 x.2] 32 (0, 0))) (first | with_reducible exact hk0 | with_reducible exact hka _ | with_reducible exact hk6 | with_reducible exact hk7 | with_reducible exact hk6a _ | with_reducible exact hk7a _ | with_reducible exact HKC.out _ _ _ _ hb7 (Nat.le_refl _) | with_reducible exact HKC.out _ _ _ _ hb7 hb6.size) (first
            | (go_at_call 10; refine (HTI.out _ (by first | exact HWQ.out.trans (hbr.mono HWQ.out.size) | exact HWQ.out.trans ((hba _).mono HWQ.out.size))).mono ?_; rintro e W6 ⟨ta, tc, rfl, hH6, hb6'⟩; have hH6 : HeldD (f + 1) W6 (fun b => b < W6.heap.size) (.slice ta ds.length tc) ds := hH6.more (fun b hb => hb.2); have hb6 : Below w1.heap.size w1 W6 := (by first | exact hbr.trans hb6' | exact (hba _).trans (hb6'.mono (by simp))); have hk6 := HKP.out W6 hb6; have hk6a := fun o => HKP.out (W6.alloc o) (hb6.alloc hb6.size o); first | (have hz6 := drewn_block (o := (.cells #[.string ⟨#[]⟩, .int .i64 0] 33)) hb6') | skip)
            | (go_at_call 12; refine (HFI.out _ _ (by first | exact hH6 | exact held_to hH6 ((Below.refl _ W6).alloc (Nat.le_refl _) _))).mono ?_; rintro e W7 ⟨⟨s, k, b, rfl, hx⟩, hb7'⟩; have hb7 : Below w1.heap.size w1 W7 := (by first | exact hb6.trans (hb7'.mono hb6.size) | exact (hb6.alloc hb6.size _).trans (hb7'.mono (by have := hb6.size; simp; omega))); have hk7 := HKP.out W7 hb7; have hk7a := fun o => HKP.out (W7.alloc o) (hb7.alloc hb7.size o); first | (have hz7 : W7.heap[W6.heap.size]? = some (.cells #[.string ⟨#[]⟩, .int .i64 0] 33 (0, 0)) := alloc_block (o := (.cells #[.string ⟨#[]⟩, .int .i64 0] 33)) hb7'; have HZ7 := Lib.hid hz7; obtain ⟨q0, q1, q2, q3⟩ := HZC.out W7 _ hz7; clear hz7) | (have hz7 : W7.heap[w1.heap.size]? = some (.cells #[.string ⟨#[]⟩, .int .i64 0] 33 (0, 0)) := (hb7'.block _ (blk_lt hz6)).trans hz6; have HZ7 := Lib.hid hz7; obtain ⟨q0, q1, q2, q3⟩ := HZC.out W7 _ hz7; clear hz7) | skip))
          all_goals go_wp2_with fail
          all_goals go_meet
          all_goals first
            | exact ⟨W7.heap.size, s, k, b, rfl, rfl, alloc_heap_new _ _, hb7.alloc hb7.size _, hb7.size, hx⟩
            | exact ⟨W6.heap.size, s, k, b, rfl, rfl, setCell_heap (setCell_heap (j := 0) HZ7.out (.string s)) (j := 1) (.int .i64 k), (hb7.setCell (p := ⟨W6.heap.size, 0, none⟩) hb6.size _).setCell (p := ⟨W6.heap.size, 1, none⟩) hb6.size _, hb6.size, hx⟩
            | exact ⟨w1.heap.size, s, k, b, rfl, rfl, setCell_heap (setCell_heap (j := 0) HZ7.out (.string s)) (j := 1) (.int .i64 k), (hb7.setCell (p := ⟨w1.heap.size, 0, none⟩) (Nat.le_refl _) _).setCell (p := ⟨w1.heap.size, 1, none⟩) (Nat.le_refl _) _, Nat.le_refl _, hx⟩
        case rest =>
          obtain ⟨D, s, k, b, rfl, rfl, hD, hbX, hDg, hx⟩ := hcut
          generalize wc = X at *
          have HD := Lib.hid hD
          have HBX := Lib.hid hbX
          have HXW : Hid (Below w.heap.size w X) := HWQ.out.trans (hbX.mono HWQ.out.size)
          have hkX := HKP.out X hbX
          have HKX := Lib.hid hkX
          have x0 : X.cell? ⟨W5.heap.size, 0, none⟩ = some (.string (mkB x.1)) := by simp [World.cell?, hkX]
          have x1 : X.cell? ⟨W5.heap.size, 1, none⟩ = some (.int .i64 x.2) := by simp [World.cell?, hkX]
          have hlX := blk_lt hkX
          have hlD := blk_lt hD
          clear a0 hk0 hka hbr hba hD hbX hkX
          by_cases h3 : x.2 = 3
          · have hn := HV1.out h3
            rcases hx with ⟨rfl, y, hy, _⟩ | ⟨rfl, -, rfl, rfl⟩
            · rw [hn] at hy; cases hy
            clear hn
            rw [h3] at x1
            go_wp2_with fail
            go_ret
            exact ⟨rfl, HXW.out⟩
          · have h3' := beq_eq_false_iff_ne.2 h3
            have hPa := pathA_any x.1 X (tabs_below HTB.out HXW.out) (by omega)
            obtain ⟨pk, hpk⟩ : ∃ b, pathOK x.1 = b := ⟨_, rfl⟩
            have hn := HV2.out h3
            rw [hpk] at hPa hn
            have HX := Lib.hid hx
            have HFN := Lib.hid hn
            clear hx hn hpk
            go_wp2_with fail
            refine hPa.mono ?_
            rintro e W8 ⟨⟨pa, pn, pc, rfl⟩, hb8⟩
            have HB8 := Lib.hid (HXW.out.trans (hb8.mono HXW.out.size))
            have z0 : W8.cell? ⟨W5.heap.size, 0, none⟩ = some (.string (mkB x.1)) := by rw [hb8.cell hlX]; exact x0
            have z1 : W8.cell? ⟨W5.heap.size, 1, none⟩ = some (.int .i64 x.2) := by rw [hb8.cell hlX]; exact x1
            have hD8 := (hb8.block _ hlD).trans HD.out
            have z2 : W8.cell? ⟨D, 0, none⟩ = some (.string s) := by simp [World.cell?, hD8]
            have z3 : W8.cell? ⟨D, 1, none⟩ = some (.int .i64 k) := by simp [World.cell?, hD8]
            clear hPa hb8 x0 x1 hD8
            cases pk with
            | false =>
              rcases HX.out with ⟨rfl, y, hy, _⟩ | ⟨rfl, -, rfl, rfl⟩
              · rw [HFN.out] at hy; cases hy
              go_wp2_with fail
              go_ret
              exact ⟨rfl, HB8.out⟩
            | true =>
              rcases HX.out with ⟨rfl, y, hy, rfl, rfl⟩ | ⟨rfl, hy, _⟩
              · rw [HFN.out] at hy
                cases hy
                go_wp2_with fail
                go_ret
                exact ⟨rfl, HB8.out⟩
              · rw [HFN.out] at hy; cases hy
end Go.Proofs.YtglkgcpfdhneeaaDoor
