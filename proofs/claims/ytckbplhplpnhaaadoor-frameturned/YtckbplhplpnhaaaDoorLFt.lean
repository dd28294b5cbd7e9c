/-
  The walk over the law FrameTurned.
-/
import Derived.Test.YtckbplhplpnhaaaDoorLFa
namespace Go.Proofs.YtckbplhplpnhaaaDoor
set_option linter.unusedVariables false
open Go.ChangeShapes Go.WideShapes Go.ChangeAt Go.RowKit

theorem cut_toI (a : Option Addr) (n c m : Nat) (hm : m ≤ n) (hn : n ≤ c) (W : World) :
    (Instr.slice 23 (.slice a n c) none (some (.int .i64 (m : Int))) none).run Tryd.prog W = .ok (.slice a m c) W := by
  have h2 : (0 : Int) ≤ (m : Int) := by omega
  have h4 : m ≤ c := by omega
  simp [go_sem, Instr.slice, Instr.sliceBounds, Instr.sliceBound, h2, h4]
theorem slB_to {w : World} {a : Option Addr} {n c m : Nat} {zs : List Int} (h : SlB w a n c zs) (hm : m ≤ n) : SlB w a m c (zs.take m) := by
  obtain ⟨⟨h1, h2, h3⟩, h4, h6⟩ := h
  refine ⟨⟨by rw [List.length_take]; omega, by omega, ?_⟩, by omega, fun e => by have := h6 e; omega⟩
  rcases h3 with rfl | ⟨b, off, rfl, hh⟩
  · left; simp
  · right
    refine ⟨b, off, rfl, fun j z hj => ?_, fun z hz => hh.2 z (List.mem_of_mem_take hz)⟩
    rw [List.getElem?_take] at hj
    split at hj
    · exact hh.1 j z hj
    · cases hj
theorem xor_turned (z y : Int) (h0 : 0 ≤ z) (h1 : z ≤ 255) (g0 : 0 ≤ y) (g1 : y ≤ 255) : 0 ≤ bits .xor .u8 z y ∧ bits .xor .u8 z y ≤ 255 ∧ (bits .xor .u8 z y = z ↔ y = 0) := by
  obtain ⟨Z, rfl⟩ := Int.eq_ofNat_of_zero_le h0
  obtain ⟨Y, rfl⟩ := Int.eq_ofNat_of_zero_le g0
  have hlt : Z ^^^ Y < 2 ^ 8 := Nat.xor_lt_two_pow (by omega) (by omega)
  have e : bits .xor .u8 (Z : Int) (Y : Int) = ((Z ^^^ Y : Nat) : Int) := u8_xor_nat Z Y (by omega) (by omega)
  rw [e]
  refine ⟨by omega, by omega, ?_⟩
  constructor
  · intro h
    have h2 : Z ^^^ Y = Z ^^^ 0 := by rw [Nat.xor_zero]; omega
    have h3 : Y = 0 := by
      have := congrArg (fun q => Z ^^^ q) h2
      simpa [← Nat.xor_assoc] using this
    omega
  · intro h
    have : Y = 0 := by omega
    subst this
    simp
/-- bytes cut off, and bytes with one behind, are no frame's if these are one's -/
theorem cut_none {F : Fr} {b : List Int} {k : Nat} (h : IsF F b) (hk : k < b.length) : ∀ g, ¬ IsF g (b.take k) := by
  intro g hg
  have h2 := is_behind (t := b.drop k) hg (by rw [List.take_append_drop]; exact h)
  have := congrArg List.length h2
  rw [List.length_drop, List.length_nil] at this
  omega
theorem more_none {F : Fr} {b : List Int} {y : Int} (h : IsF F b) : ∀ g, ¬ IsF g (b ++ [y]) := by
  intro g hg
  have h2 := is_behind (t := [y]) h hg
  cases h2
theorem pb_none {b : List Int} {f : Fr} {E : Int} (hn : ∀ g, ¬ IsF g b) (h : PB b f E) : E = 2 := by
  rcases h with ⟨h1, _⟩ | ⟨_, _, h2⟩
  · exact absurd h1 (hn f)
  · exact h2
theorem pb_some {b : List Int} {f g : Fr} {E : Int} (hn : IsF g b) (h : PB b f E) : E = 0 := by
  rcases h with ⟨_, h1⟩ | ⟨h1, _, _⟩
  · exact h1
  · exact absurd hn (h1 g)
set_option maxHeartbeats 8000000 in
set_option maxRecDepth 20000 in
theorem frameTurned_any (k cl tk at1 fl me dl st : Int) (p : List Int) (a : Option Addr) (c : Nat) (at2 by2 : Int) (w : World) (hT : Shf w) (hB : SlB w a p.length c p) (hr : RngF ⟨k, cl, tk, at1, fl, me, dl, st, p⟩) (ha0 : 0 ≤ at2) (ha1 : at2 ≤ 18446744073709551615) (hy0 : 0 ≤ by2) (hy1 : by2 ≤ 255) :
    Calls Tryd.prog 6 #[.agg #[.int .i64 k, .int .i64 cl, .int .u64 tk, .int .i64 at1, .int .u64 fl, .int .i64 me, .int .i64 dl, .int .i64 st, .slice a p.length c], .int .u64 at2, .int .u8 by2] w fun e w' => e = .returned (.bool true) ∧ Below w.heap.size w w' := by
  have hb0 : Below w.heap.size w (w.alloc (.cells #[.int .i64 k, .int .i64 cl, .int .u64 tk, .int .i64 at1, .int .u64 fl, .int .i64 me, .int .i64 dl, .int .i64 st, .slice a p.length c] 25)) := (Below.refl _ _).alloc (Nat.le_refl _) _
  have hal0 := alloc_heapF w (.cells #[.int .i64 k, .int .i64 cl, .int .u64 tk, .int .i64 at1, .int .u64 fl, .int .i64 me, .int .i64 dl, .int .i64 st, .slice a p.length c] 25)
  obtain ⟨W0, hW0⟩ : ∃ W0, w.alloc (.cells #[.int .i64 k, .int .i64 cl, .int .u64 tk, .int .i64 at1, .int .u64 fl, .int .i64 me, .int .i64 dl, .int .i64 st, .slice a p.length c] 25) = W0 := ⟨_, rfl⟩
  have hs0 : w.heap.size < W0.heap.size := by rw [← hW0, World.size_alloc]; omega
  rw [hW0] at hb0 hal0
  have HB0 := Lib.hid hb0
  have HA0 := Lib.hid hal0
  have HT0 := Lib.hid (hT.below hb0)
  have HS := Lib.hid (slB_old hB hb0)
  obtain ⟨⟨z0, z1, z2, z3, z4, z5, z6, z7, z8⟩, _⟩ := cells9 hal0
  have HRG := Lib.hid hr
  obtain ⟨n, hn⟩ : ∃ n, p.length = n := ⟨_, rfl⟩
  have HN := Lib.hid hn
  clear hb0 hal0 hT hB hr
  rw [hn] at HS HA0 z8 hW0 ⊢
  clear hn
  go_enter Tryd.func6, Tryd.ntmps6
  go_wp2_with fail
  refine (awake15_any _ HT0.out).mono ?_
  rintro e w1 ⟨rfl, hb1⟩
  have hc0 : w1.heap[w.heap.size]? = _ := (hb1.block _ hs0).trans HA0.out
  have HBX := Lib.hid (HB0.out.trans (hb1.mono HB0.out.size))
  have HTX := Lib.hid (HT0.out.below hb1)
  have HSX := Lib.hid (slB_old HS.out hb1)
  have hs1 : w.heap.size < w1.heap.size := by have := hb1.size; omega
  clear z0 z1 z2 z3 z4 z5 z6 z7 z8 hW0
  obtain ⟨⟨z0, z1, z2, z3, z4, z5, z6, z7, z8⟩, _⟩ := cells9 hc0
  have HC0 := Lib.hid hc0
  clear hc0 hb1 HA0 HT0 HS HB0
  have HF1 := fun wx => few15_any k cl tk at1 fl me dl st n a c wx
  by_cases h6 : n ≤ 6000
  case neg =>
    rw [decide_eq_false h6] at HF1
    go_wp2_with fail
    refine (HF1 _).mono ?_
    rintro e w2 ⟨rfl, hb2⟩
    have HB2 := Lib.hid (HBX.out.trans (hb2.mono HBX.out.size))
    have HT2 := Lib.hid (HTX.out.below hb2)
    clear z0 z1 z2 z3 z4 z5 z6 z7 z8 hb2
    go_wp2_with fail
    refine (awake15_any _ HT2.out).mono ?_
    rintro e w4 ⟨rfl, hb4⟩
    have HB4 := Lib.hid (HB2.out.trans (hb4.mono HB2.out.size))
    clear hb4
    go_wp2_with fail
    go_ret
    exact ⟨rfl, HB4.out⟩
  rw [decide_eq_true h6] at HF1
  go_wp2_with fail
  refine (HF1 _).mono ?_
  rintro e w2 ⟨rfl, hb2⟩
  have hd0 : w2.heap[w.heap.size]? = _ := (hb2.block _ hs1).trans HC0.out
  have HB2 := Lib.hid (HBX.out.trans (hb2.mono HBX.out.size))
  have HT2 := Lib.hid (HTX.out.below hb2)
  have hsb2 := slB_old HSX.out hb2
  have HS2 := Lib.hid hsb2
  have hs2 : w.heap.size < w2.heap.size := by have := hb2.size; omega
  clear z0 z1 z2 z3 z4 z5 z6 z7 z8
  obtain ⟨⟨z0, z1, z2, z3, z4, z5, z6, z7, z8⟩, _⟩ := cells9 hd0
  have HD0 := Lib.hid hd0
  have HBU := Lib.hid (build_any k cl tk at1 fl me dl st p a c w2 HT2.out HRG.out (by rw [HN.out]; exact hsb2.1) (by rw [HN.out]; exact hsb2.2.2))
  rw [HN.out] at HBU
  clear hd0 hb2 HC0 HTX HSX HBX HF1 hsb2
  go_wp2_with fail
  refine HBU.out.mono ?_
  rintro e w3 ⟨hans, hb3⟩
  obtain ⟨v3, rfl, how3⟩ := build_form HRG.out hans
  obtain ⟨a3, c3, rfl, hs3⟩ := bld_slB HRG.out how3
  have hd3 : w3.heap[w.heap.size]? = _ := (hb3.block _ hs2).trans HD0.out
  have HB3 := Lib.hid (HB2.out.trans (hb3.mono HB2.out.size))
  have HT3 := Lib.hid (HT2.out.below hb3)
  have HS3 := Lib.hid (slB_old HS2.out hb3)
  have HX3 := Lib.hid hs3
  have HO3 := Lib.hid how3
  have hs23 : w.heap.size < w3.heap.size := by have := hb3.size; omega
  clear z0 z1 z2 z3 z4 z5 z6 z7 z8
  obtain ⟨⟨z0, z1, z2, z3, z4, z5, z6, z7, z8⟩, _⟩ := cells9 hd3
  have HD3 := Lib.hid hd3
  clear hd3 hb3 hans how3 hs3 HBU HD0 HT2 HS2 HB2
  obtain ⟨F, hF⟩ : ∃ F : Fr, (⟨k, cl, tk, at1, fl, me, dl, st, p⟩ : Fr) = F := ⟨_, rfl⟩
  have HFF := Lib.hid hF
  rw [hF] at HX3 HO3 HRG ⊢
  clear hF
  cases hok : okF F with
  | false =>
    have hE : bldE F = 1 := by unfold bldE; rw [hok]; rfl
    rw [hE]
    clear hok hE
    go_wp2_with fail
    go_ret
    exact ⟨rfl, HB3.out⟩
  | true =>
    have hE : bldE F = 0 := by unfold bldE; rw [hok]; rfl
    have hX : bldX F = bytesF F := by unfold bldX; rw [hok]; rfl
    have hIS : IsF F (bldX F) := ⟨hok, HRG.out.2.2.1.2, hX.symm⟩
    have hlen := body_len hok HRG.out.2.2.1.2
    have hlb := bytes_len F
    rw [← hX] at hlb
    obtain ⟨b, hb⟩ : ∃ b, bldX F = b := ⟨_, rfl⟩
    have HBY := Lib.hid (bld_bytes HRG.out)
    rw [hE]
    rw [hb] at HX3 HO3 hIS hlb HBY ⊢
    obtain ⟨n3, hn3⟩ : ∃ n3, b.length = n3 := ⟨_, rfl⟩
    have HN3 := Lib.hid hn3
    rw [hn3] at HX3 HO3 hlb ⊢
    have HIS := Lib.hid hIS
    clear hok hE hX hIS hb hn3
    have hn1 : 14 ≤ n3 := by omega
    have hn2 : n3 ≤ 5004 := by omega
    clear hlen hlb
    obtain ⟨k0, hk0⟩ := Int.eq_ofNat_of_zero_le (Int.emod_nonneg at2 (show (n3 : Int) ≠ 0 by omega))
    have hkL : k0 < n3 := by
      have := Int.emod_lt_of_pos at2 (show (0 : Int) < n3 by omega)
      rw [hk0] at this; omega
    have hnz : ¬ (n3 : Int) = 0 := by omega
    have hnzb : ((n3 : Int) == 0) = false := by rw [beq_eq_false_iff_ne]; exact hnz
    have hcut := fun W => cut_toI a3 n3 c3 k0 (by omega) HX3.out.2.1 W
    have hx3k := slB_to HX3.out (show k0 ≤ n3 by omega)
    have HXK := Lib.hid hx3k
    have HCN : Hid (∀ g, ¬ IsF g (b.take k0)) := cut_none HIS.out (by rw [HN3.out]; exact hkL)
    clear hx3k z0 z1 z2 z3 z4 z5 z6 z7 z8 HD3 HS3
    have HCT := Lib.hid hcut
    have HKI : Hid (0 ≤ (k0 : Int) ∧ (k0 : Int) < n3) := ⟨by omega, by omega⟩
    go_wp2_with fail
    refine (parse_any a3 k0 c3 (b.take k0) w3 HT3.out HXK.out).mono ?_
    rintro e w4 ⟨hans, hb4⟩
    obtain ⟨f1, af1, cf1, E1, rfl, _, hpb⟩ := parse_form hans
    have hE1 := pb_none HCN.out hpb
    subst hE1
    clear hans hpb hcut
    have hW5b : Below w3.heap.size w3 (w4.alloc (.cells #[.int .i64 f1.kind, .int .i64 f1.client, .int .u64 f1.token, .int .i64 f1.attempt, .int .u64 f1.floor, .int .i64 f1.method, .int .i64 f1.deadline, .int .i64 f1.status, .slice af1 f1.pay.length cf1] 25)) := hb4.alloc hb4.size _
    obtain ⟨W5, hW5⟩ : ∃ W5, w4.alloc (.cells #[.int .i64 f1.kind, .int .i64 f1.client, .int .u64 f1.token, .int .i64 f1.attempt, .int .u64 f1.floor, .int .i64 f1.method, .int .i64 f1.deadline, .int .i64 f1.status, .slice af1 f1.pay.length cf1] 25) = W5 := ⟨_, rfl⟩
    rw [hW5] at hW5b
    have HB5 := Lib.hid hW5b
    have hs5 := hW5b.size
    have HO5 := Lib.hid (own_blk W5 [] (by simp))
    have HX5 := Lib.hid (slB_old HX3.out (hW5b.trans ((Below.refl _ _).alloc hs5 (.cells #[] 5))))
    clear hb4 hW5b
    have hkn : (k0 : Int) < n3 := by omega
    have hk0i : (0 : Int) ≤ (k0 : Int) := by omega
    go_wp2_with (at_builtin; (refine wpB_append rfl (.tmp 52) (.tmp 53) rfl W5.heap.size (.slice (some ⟨W5.heap.size, 0, none⟩) 0 0) [] rfl HO5.out a3 n3 c3 b rfl HX5.out.1 HX5.out.2.2 (by simp; omega) (by simp) ?_; intro v7 w7 hown7 hg7; simp only [List.nil_append] at hown7; obtain ⟨g, c7, rfl, hg, hgl, hcl, hfr, hst⟩ := own_setB hown7 (by rw [HN3.out]; omega); rw [HN3.out] at hfr hst ⊢; obtain ⟨z, hz⟩ : ∃ z, b[k0]? = some z := ⟨_, List.getElem?_eq_getElem (by rw [HN3.out]; exact hkL)⟩; have hzb := HBY.out z (List.mem_of_getElem? hz); have hzc := hcl k0 z hz; have hzf := hfr k0 hkL; have HST := Lib.hid (hst k0); have HZ := Lib.hid hz; have hb7 : Below W5.heap.size W5 w7 := ((Below.refl W5.heap.size W5).alloc (Nat.le_refl _) _).grown hg7 (by simp) (by intro q hq; simp [Value.ownBlock] at hq; omega); have HB7 := Lib.hid hb7; clear hst hfr hcl hz hg7 hb7 hown7))
    have hxt := xor_turned z by2 hzb.1 hzb.2 hy0 hy1
    obtain ⟨y, hy⟩ : ∃ y, bits .xor .u8 z by2 = y := ⟨_, rfl⟩
    rw [hy] at hxt ⊢
    have ho8 := HST.out y hkL
    have hb8 : Below W5.heap.size W5 (w7.setCell ⟨g, k0, none⟩ (.int .u8 y)) := HB7.out.setCell (p := ⟨g, k0, none⟩) hg _
    obtain ⟨W8, hW8⟩ : ∃ W8, w7.setCell ⟨g, k0, none⟩ (.int .u8 y) = W8 := ⟨_, rfl⟩
    rw [hW8] at ho8 hb8 ⊢
    have hby8 : ∀ x ∈ b.set k0 y, 0 ≤ x ∧ x ≤ 255 := fun x hx => by
      rcases List.mem_or_eq_of_mem_set hx with h | rfl
      · exact HBY.out x h
      · exact ⟨hxt.1, hxt.2.1⟩
    have hs8 := own_slI ho8 hby8 (by rw [List.length_set, HN3.out]; omega)
    have hb38 := HB5.out.trans (hb8.mono hs5)
    have HB38 := Lib.hid hb38
    have hs38 := hb38.size
    have HE2 : Hid (∀ (f : Fr) (E : Int), PB (b.set k0 y) f E → E = if by2 = 0 then 0 else 2) := by
      refine (?_ : ∀ (f : Fr) (E : Int), PB (b.set k0 y) f E → E = if by2 = 0 then 0 else 2)
      intro f E hE
      by_cases h0 : by2 = 0
      · rw [if_pos h0]
        have hyz := hxt.2.2.2 h0
        rw [hyz] at hE
        have hse : b.set k0 z = b := by
          apply List.ext_getElem?
          intro q
          rw [List.getElem?_set]
          split
          · rename_i hq; subst hq
            rw [if_pos (by rw [HN3.out]; exact hkL)]; exact HZ.out.symm
          · rfl
        rw [hse] at hE
        exact pb_some HIS.out hE
      · rw [if_neg h0]
        have hyz : z ≠ y := fun e => h0 (hxt.2.2.1 e.symm)
        exact pb_none (fun g2 hg2 => is_turned HBY.out HIS.out HZ.out hxt.1 hxt.2.1 hyz hg2) hE
    clear hW8 HST hb8 hzc hzf hby8 HB7 HO5 HX5 HCT hg hgl hW5
    refine (parse_any (some ⟨g, 0, none⟩) n3 c7 (b.set k0 y) W8 (HT3.out.below hb38) hs8).mono ?_
    rintro e w9 ⟨hans, hb9⟩
    obtain ⟨f2, af2, cf2, E2, rfl, _, hpb⟩ := parse_form hans
    have HE9 := Lib.hid (HE2.out f2 E2 hpb)
    have hb10 := hb38.trans ((hb9.alloc hb9.size (.cells #[.int .i64 f2.kind, .int .i64 f2.client, .int .u64 f2.token, .int .i64 f2.attempt, .int .u64 f2.floor, .int .i64 f2.method, .int .i64 f2.deadline, .int .i64 f2.status, .slice af2 f2.pay.length cf2] 25)).mono hs38)
    obtain ⟨W10, hW10⟩ : ∃ W10, w9.alloc (.cells #[.int .i64 f2.kind, .int .i64 f2.client, .int .u64 f2.token, .int .i64 f2.attempt, .int .u64 f2.floor, .int .i64 f2.method, .int .i64 f2.deadline, .int .i64 f2.status, .slice af2 f2.pay.length cf2] 25) = W10 := ⟨_, rfl⟩
    rw [hW10] at hb10
    have HB10 := Lib.hid hb10
    have hs10 := hb10.size
    have HO10 := Lib.hid (own_blk W10 [] (by simp))
    have HX10 := Lib.hid (slB_old HX3.out (hb10.trans ((Below.refl _ _).alloc hs10 (.cells #[] 5))))
    clear hans hpb hb9 hb10 hb38 ho8 hs8 HE2 hxt
    have hnn := HX3.out.2.2
    have HNN := Lib.hid hnn
    clear hnn
    go_wp2_with (first
      | (at_builtin; (refine wpB_append rfl (.tmp 70) (.tmp 71) rfl W10.heap.size (.slice (some ⟨W10.heap.size, 0, none⟩) 0 0) [] rfl HO10.out a3 n3 c3 b rfl HX10.out.1 HNN.out (by simp; omega) (by simp) ?_; intro v11 w11 hown11 hg11; simp only [List.nil_append] at hown11; have HO11 := Lib.hid (own_alloc hown11 (.cells #[.int .u8 by2] 5)); have HB11 := Lib.hid (((Below.refl W10.heap.size W10).alloc (Nat.le_refl _) _).grown hg11 (by simp) (by intro q hq; simp [Value.ownBlock] at hq; omega) : Below W10.heap.size W10 w11); have HV11 := Lib.hid (own_blockB hown11); clear hown11 hg11))
      | (at_builtin; (refine wpB_append rfl (.tmp 72) (.tmp 74) rfl W10.heap.size v11 b rfl HO11.out (some ⟨w11.heap.size, 0, none⟩) 1 1 [by2] rfl (isB_one w11 by2 hy0 hy1) (by simp) (by rw [HN3.out]; omega) (by have := HB11.out.size; simp; omega) ?_; intro v12 w12 hown12 hg12; have HO12 := Lib.hid hown12; have HB12 := Lib.hid ((HB11.out.alloc HB11.out.size _).grown hg12 (by have := HB11.out.size; simp; omega) HV11.out : Below W10.heap.size W10 w12); clear hown12 hg12 HO11 HB11 HV11)))
    have hby12 : ∀ x ∈ b ++ [by2], 0 ≤ x ∧ x ≤ 255 := fun x hx => by
      rcases List.mem_append.1 hx with h | h
      · exact HBY.out x h
      · have := List.mem_singleton.1 h; omega
    obtain ⟨a12, c12, rfl, hs12⟩ := own_slB HO12.out hby12 (by rw [List.length_append, HN3.out]; simp; omega)
    have hb12 := HB10.out.trans (HB12.out.mono hs10)
    have hs312 := hb12.size
    refine (parse_any a12 (b ++ [by2]).length c12 (b ++ [by2]) w12 (HT3.out.below hb12) hs12).mono ?_
    rintro e w13 ⟨hans, hb13⟩
    obtain ⟨f3, af3, cf3, E3, rfl, _, hpb⟩ := parse_form hans
    have hE3 := pb_none (more_none HIS.out) hpb
    have hE2 := HE9.out
    subst hE3 hE2
    have h13 := hb12.trans (hb13.mono hs312)
    have HB13 := Lib.hid (HB3.out.trans ((h13.alloc h13.size (.cells #[.int .i64 f3.kind, .int .i64 f3.client, .int .u64 f3.token, .int .i64 f3.attempt, .int .u64 f3.floor, .int .i64 f3.method, .int .i64 f3.deadline, .int .i64 f3.status, .slice af3 f3.pay.length cf3] 25)).mono HB3.out.size))
    clear hans hpb hb13 hb12 hs12 hby12 HO12 HB12 hW10 h13 HO10 HX10
    by_cases h0 : by2 = 0
    · rw [if_pos h0]
      subst h0
      go_wp2_with fail
      go_ret
      exact ⟨rfl, HB13.out⟩
    · rw [if_neg h0]
      have hb0 : (by2 == (0 : Int)) = false := by rw [beq_eq_false_iff_ne]; exact h0
      go_wp2_with fail
      go_ret
      exact ⟨rfl, HB13.out⟩
end Go.Proofs.YtckbplhplpnhaaaDoor
