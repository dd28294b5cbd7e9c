/-
  The walk over the program's Split: of any bytes (at most 2^21) it answers what 'split' says, and makes new memory alone.
  The walks over fields' bytes of which none is known: the program's noneKnown, the document's unknown.
-/
import Derived.Test.YtnopnjklcdcckaaGreatDoorM5
import Derived.Test.YtnopnjklcdcckaaGreatDoorM19
import Derived.Test.YtnopnjklcdcckaaGreatDoorM12
import Derived.Test.YtnopnjklcdcckaaGreatDoorM9
import Derived.Lib.ConvBytes
import Derived.Lib.AtoiErrMem
import Derived.BigQuiet
import Derived.Deep.RegionHeldLaw
import Derived.Deep.Cut
import Derived.Deep.DeepCutAuto
import Derived.Handy
import Derived.Deep.RegionLaw
namespace Go.Proofs.YtnopnjklcdcckaaGreatDoor
set_option linter.unusedVariables false
open Go.ChangeShapes Go.WideShapes Go.ChangeAt Go.RowKit

theorem fieldWB : FieldType 88 125 := ⟨Tryz.underlying88, by kernel_rfl⟩
theorem spAns_none {e : TypeId} {w w' : World} (hb : Below w.heap.size w w') : SpAns e w w' (.returned (.tuple #[.slice none 0 0, .slice none 0 0, .int .i64 2])) none := ⟨rfl, hb⟩
theorem newB_own {w : World} {base : Nat} {v : Value} {xs : List Int} (h : OwnB w base v xs) (hb : ∀ z ∈ xs, 0 ≤ z ∧ z ≤ 255) (hm : xs.length ≤ 281474976710656) :
    ∃ a c, v = .slice a xs.length c ∧ NewB w base a xs.length xs ∧ NoA a xs.length c := by
  obtain ⟨a, c, hv, hno, hst⟩ := ownE_isB (.inl h) hb hm
  exact ⟨a, c, hv, stable_newB hst, hno⟩

set_option maxHeartbeats 4000000 in
theorem splitW_any (a : Option Addr) (len cap : Nat) (zs : List Int) (w : World) (hB : IsB w a len zs) (hlc : len ≤ cap) (hcm : cap ≤ 9223372036854775807) (hlm : len ≤ 2097152) :
    Calls Tryz.prog 57 #[.slice a len cap] w fun e w' => SpAns 125 w w' e (split zs) := by
  have HB : Hid (IsB w a len zs) := hB
  clear hB
  go_enter Tryz.func57, Tryz.ntmps57
  go_wp2_with fail
  go_loopw [5, 6, 7] (fun v5 v6 i wr => ∃ (k : Nat) (fs : List FR) (rs : List Row3) (D : List (TF × List Int)), k ≤ len ∧ i = .int .i64 k ∧ SplSt wr w.heap.size 125 v5 v6 fs rs ∧ FitsF fs D ∧ FitsR rs D ∧ D.length ≤ k ∧ split zs = (split (zs.drop k)).map (D ++ ·) ∧ Below w.heap.size w wr) (fun _ _ i _ => len - (intOf i).toNat)
  case atStart => exact ⟨0, [], [], [], by omega, rfl, SplSt.nil _ _ _, FitsF.nil, FitsR.nil, by simp, by simp, Below.refl _ _⟩
  case round =>
    obtain ⟨k, fs, rs, D, hk, rfl, hst, hFF, hFR, hDk, hsp, hbel⟩ := hrel
    have HST : Hid (SplSt wr w.heap.size 125 u5 u6 fs rs) := hst
    have HFF : Hid (FitsF fs D) := hFF
    have HFR : Hid (FitsR rs D) := hFR
    have HSP : Hid (split zs = (split (zs.drop k)).map (D ++ ·)) := hsp
    have HBL : Hid (Below w.heap.size w wr) := hbel
    have hszr := hbel.size
    have hfl : fs.length ≤ k := by have := hFF.len; omega
    have hrl : rs.length ≤ k := by have := hFR.len; omega
    clear hst hFF hFR hsp hbel
    by_cases hlt : k < len
    · have hzl := HB.out.1
      obtain ⟨b, off, _, rfl, _⟩ := isB_at HB.out hlt
      have hck : ¬ cap = k := by omega
      have HIk : Hid (IsB wr (some ⟨b, off + k, none⟩) (len - k) (zs.drop k)) := by
        refine (?_ : IsB wr (some ⟨b, off + k, none⟩) (len - k) (zs.drop k))
        have := isB_cut (isB_old HB.out HBL.out) hlc k (by omega)
        rw [cutAt_in hck] at this
        exact this
      have hT := takeW_any (some ⟨b, off + k, none⟩) (len - k) (cap - k) (zs.drop k) wr HIk.out (by omega) (by omega) (by omega)
      have hne : zs.drop k ≠ [] := by
        intro h
        have := congrArg List.length h
        rw [List.length_drop] at this
        simp at this; omega
      have hE := tf_e (zs.drop k)
      have HKE : Hid ((tf (zs.drop k)).e = 0 → 1 ≤ (tf (zs.drop k)).k ∧ (tf (zs.drop k)).k ≤ ((len - k : Nat) : Int)) := by
        intro h
        have := tf_k (zs.drop k) (fun z hz => isB_bytes HB.out z (List.mem_of_mem_drop hz)) h
        rw [List.length_drop, hzl] at this
        exact this
      have HON : Hid ((tf (zs.drop k)).e = 0 → split zs = (split ((zs.drop k).drop (tf (zs.drop k)).k.toNat)).map ((D ++ [(tf (zs.drop k), (zs.drop k).take (tf (zs.drop k)).k.toNat)]) ++ ·)) := by
        intro h
        rw [HSP.out, split_on _ (fun z hz => isB_bytes HB.out z (List.mem_of_mem_drop hz)) hne h]
        simp [Option.map_map, Function.comp_def]
      have HER : Hid ((tf (zs.drop k)).e ≠ 0 → split zs = none) := by
        intro h
        rw [HSP.out, split_err _ hne h]; rfl
      clear hzl hne HSP
      generalize tf (zs.drop k) = r at *
      obtain ⟨rnum, rty, rn, rd, rk, re⟩ := r
      have HT2 : Hid (Calls Tryz.prog 73 #[.slice (some ⟨b, off + k, none⟩) (len - k) (cap - k)] wr fun e w' => ∃ a len cap, e = .returned (.tuple #[.agg #[.int .i64 rnum, .int .i64 rty, .int .u64 rn, .slice a len cap], .int .i64 rk, .int .i64 re]) ∧ NewB w' wr.heap.size a len rd ∧ NoA a len cap ∧ Below wr.heap.size wr w') := hT
      clear hT
      simp only [] at hE
      have hE0 : re = 0 ∨ re = 2 ∨ re = 5 := hE
      clear hE
      rcases hE0 with rfl | rfl | rfl
      · obtain ⟨hk1, hk2⟩ := HKE.out rfl
        have hON := HON.out rfl
        simp only [] at hk1 hk2 hON
        obtain ⟨q, rfl⟩ := Int.eq_ofNat_of_zero_le (show 0 ≤ rk by omega)
        rw [Int.toNat_natCast, List.drop_drop] at hON
        have HON2 : Hid (split zs = (split (zs.drop (k + q))).map ((D ++ [((⟨rnum, rty, rn, rd, (q : Int), 0⟩ : TF), (zs.drop k).take q)]) ++ ·)) := hON
        have HIq : Hid (∀ W, Below w.heap.size w W → IsB W (some ⟨b, off + k, none⟩) q ((zs.drop k).take q)) := by
          intro W hW
          have := isB_mid (isB_old HB.out hW) hlc k q (by omega)
          rw [cutAt_in hck] at this
          exact this
        have HQB : Hid (∀ z ∈ (zs.drop k).take q, 0 ≤ z ∧ z ≤ 255) := fun z hz => isB_bytes HB.out z (List.mem_of_mem_drop (List.mem_of_mem_take hz))
        clear HON HER HKE hON
        have hq1 : 1 ≤ q := by omega
        have hq2 : k + q ≤ len := by omega
        clear hk1 hk2
        go_wp2_with fail
        refine HT2.out.mono ?_
        rintro e W1 ⟨a1, len1, cap1, rfl, hn1, hno1, hb1⟩
        have hoF := owns_lt HST.out.ownF
        have hoR := owns_lt HST.out.ownR
        have hfar : FarB W1 u5.ownBlock u6.ownBlock a1 len1 rd := FarB.of_new hn1 (fun k hk => (hoF k hk).1) (fun k hk => (hoR k hk).1)
        have hst1 := HST.out.old hb1
        have hbW1 : Below w.heap.size w W1 := HBL.out.trans (hb1.mono hszr)
        have hzW1 := hbW1.size
        have hab : Below W1.heap.size W1 ((W1.alloc (.cells #[.int .i64 rnum, .int .i64 rty, .int .u64 rn, .slice a1 len1 cap1] 125)).alloc (.cells #[.int .i64 rnum, .int .i64 rty, .int .u64 rn, .slice a1 len1 cap1] 125)) := ((Below.refl _ _).alloc (Nat.le_refl _) _).alloc (by simp) _
        have HS2 : Hid (SplSt ((W1.alloc (.cells #[.int .i64 rnum, .int .i64 rty, .int .u64 rn, .slice a1 len1 cap1] 125)).alloc (.cells #[.int .i64 rnum, .int .i64 rty, .int .u64 rn, .slice a1 len1 cap1] 125)) w.heap.size 125 u5 u6 fs rs) := hst1.old hab
        have HF2 : Hid (FarB ((W1.alloc (.cells #[.int .i64 rnum, .int .i64 rty, .int .u64 rn, .slice a1 len1 cap1] 125)).alloc (.cells #[.int .i64 rnum, .int .i64 rty, .int .u64 rn, .slice a1 len1 cap1] 125)) u5.ownBlock u6.ownBlock a1 len1 rd) := hfar.old hab
        have HB2 : Hid (Below w.heap.size w ((W1.alloc (.cells #[.int .i64 rnum, .int .i64 rty, .int .u64 rn, .slice a1 len1 cap1] 125)).alloc (.cells #[.int .i64 rnum, .int .i64 rty, .int .u64 rn, .slice a1 len1 cap1] 125))) := hbW1.trans (hab.mono hzW1)
        have HC2 : Hid (∀ j u, (FR.cells ⟨rnum, rty, rn, a1, len1, cap1, rd⟩)[j]? = some u → ((W1.alloc (.cells #[.int .i64 rnum, .int .i64 rty, .int .u64 rn, .slice a1 len1 cap1] 125)).alloc (.cells #[.int .i64 rnum, .int .i64 rty, .int .u64 rn, .slice a1 len1 cap1] 125)).cell? ((⟨W1.heap.size + 1, 0, none⟩ : Addr).add j) = some u) := by
          intro j u hj
          rw [add_off]
          rcases j with _ | _ | _ | _ | j
          · simp [FR.cells] at hj; subst hj; simp
          · simp [FR.cells] at hj; subst hj; simp
          · simp [FR.cells] at hj; subst hj; simp
          · simp [FR.cells] at hj; subst hj; simp
          · simp [FR.cells] at hj
        have HNO1 : Hid (NoA a1 len1 cap1) := hno1
        clear hn1 hno1 hb1 hoF hoR hfar hst1 hbW1 hab HT2 HST HBL
        go_wp2_with (at_builtin; refine wpS_F rfl (.tmp 28) (.tmp 30) 88 125 rfl fieldWB w.heap.size u5 u6 fs rs rfl HS2.out ⟨rnum, rty, rn, a1, len1, cap1, rd⟩ HF2.out ⟨W1.heap.size + 1, 0, none⟩ 1 rfl HC2.out (by simp; omega) (by omega) ?_; intro v3 W3 hst3 hb3)
        have hbw3 : Below w.heap.size w W3 := HB2.out.trans hb3
        have HST3 : Hid (SplSt W3 w.heap.size 125 v3 u6 (fs ++ [⟨rnum, rty, rn, a1, len1, cap1, rd⟩]) rs) := hst3
        have HBW3 : Hid (Below w.heap.size w W3) := hbw3
        have hz3 := hbw3.size
        clear hst3 hb3 hbw3 HS2 HF2 HB2 HC2
        refine (cloneW_any _ _ _ _ _ (HIq.out _ HBW3.out) (by omega)).mono ?_
        rintro e W4 ⟨v4, rfl, ho4, hb4⟩
        obtain ⟨a4, c4, rfl, hn4, hno4⟩ := newB_own ho4 HQB.out (by rw [List.length_take, List.length_drop]; omega)
        have hql : ((zs.drop k).take q).length = q := by rw [List.length_take, List.length_drop]; have := HB.out.1; omega
        rw [hql] at hn4 hno4 ⊢
        have HNO4 : Hid (NoA a4 q c4) := hno4
        clear hno4
        have hoF := owns_lt HST3.out.ownF
        have hoR := owns_lt HST3.out.ownR
        have hfar : FarB W4 v3.ownBlock u6.ownBlock a4 q ((zs.drop k).take q) := FarB.of_new hn4 (fun k hk => (hoF k hk).1) (fun k hk => (hoR k hk).1)
        have hab : Below W4.heap.size W4 (W4.alloc (.cells #[.slice a4 q c4] 27)) := (Below.refl _ _).alloc (Nat.le_refl _) _
        have HS4 : Hid (SplSt (W4.alloc (.cells #[.slice a4 q c4] 27)) w.heap.size 125 v3 u6 (fs ++ [⟨rnum, rty, rn, a1, len1, cap1, rd⟩]) rs) := (HST3.out.old hb4).old hab
        have HF4 : Hid (FarB (W4.alloc (.cells #[.slice a4 q c4] 27)) v3.ownBlock u6.ownBlock a4 q ((zs.drop k).take q)) := hfar.old hab
        have hbw4 : Below w.heap.size w W4 := HBW3.out.trans (hb4.mono hz3)
        have hz4 := hbw4.size
        have HBW4 : Hid (Below w.heap.size w (W4.alloc (.cells #[.slice a4 q c4] 27))) := hbw4.alloc hz4 _
        have HC4 : Hid ((W4.alloc (.cells #[.slice a4 q c4] 27)).cell? ((⟨W4.heap.size, 0, none⟩ : Addr).add 0) = some (Row3.val ⟨a4, q, c4, (zs.drop k).take q⟩)) := by
          refine (?_ : (W4.alloc (.cells #[.slice a4 q c4] 27)).cell? ((⟨W4.heap.size, 0, none⟩ : Addr).add 0) = some (Row3.val ⟨a4, q, c4, (zs.drop k).take q⟩))
          rw [add_off]; simp [Row3.val]
        clear ho4 hb4 hn4 hoF hoR hfar hab hbw4 HST3 hql
        go_wp2_with (at_builtin; refine wpS_R rfl (.tmp 32) (.tmp 40) 125 rfl w.heap.size v3 u6 _ rs rfl HS4.out ⟨a4, q, c4, (zs.drop k).take q⟩ HF4.out ⟨W4.heap.size, 0, none⟩ 1 rfl HC4.out (by simp; omega) (by omega) ?_; intro v5 W5 hst5 hb5)
        go_roundw
        case rel =>
          obtain ⟨hf1, hf2⟩ := fits_snoc HFF.out HFR.out ⟨rnum, rty, rn, a1, len1, cap1, rd⟩ ⟨a4, q, c4, (zs.drop k).take q⟩ ((⟨rnum, rty, rn, rd, (q : Int), 0⟩ : TF), (zs.drop k).take q) rfl rfl HNO1.out HNO4.out
          exact ⟨k + q, _, _, _, by omega, by go_num, hst5, hf1, hf2, by simp; omega, HON2.out, HBW4.out.trans hb5⟩
        case measure => simp [intOf]; omega
      · have hER := HER.out (by simp)
        have HERR : Hid (split zs = none) := hER
        clear HER HON HKE hER
        go_wp2_with fail
        refine HT2.out.mono ?_
        rintro e W1 ⟨a1, len1, cap1, rfl, hn1, hno1, hb1⟩
        have HBW1 : Hid (Below w.heap.size w W1) := HBL.out.trans (hb1.mono hszr)
        clear hb1 hn1 hno1
        go_wp2_with fail
        go_ret3
        rw [HERR.out]
        exact spAns_none (HBW1.out.alloc HBW1.out.size _)
      · have hER := HER.out (by simp)
        have HERR : Hid (split zs = none) := hER
        clear HER HON HKE hER
        go_wp2_with fail
        refine HT2.out.mono ?_
        rintro e W1 ⟨a1, len1, cap1, rfl, hn1, hno1, hb1⟩
        have HBW1 : Hid (Below w.heap.size w W1) := HBL.out.trans (hb1.mono hszr)
        clear hb1 hn1 hno1
        go_wp2_with fail
        go_ret3
        rw [HERR.out]
        exact spAns_none (HBW1.out.alloc HBW1.out.size _)
    · obtain rfl : k = len := by omega
      have HE : Hid (split zs = some D) := by
        refine (?_ : split zs = some D)
        rw [HSP.out, List.drop_eq_nil_of_le (by have := HB.out.1; omega), split_nil]
        simp
      clear HSP
      go_wp2_with fail
      go_ret3
      rw [HE.out]
      exact ⟨_, _, fs, rs, rfl, HST.out, HFF.out, HFR.out, HBL.out⟩
end Go.Proofs.YtnopnjklcdcckaaGreatDoor
namespace Go.Proofs.YtnopnjklcdcckaaGreatDoor
set_option linter.unusedVariables false
open Go.ChangeShapes Go.WideShapes Go.ChangeAt Go.RowKit

/-- a text's bytes, in memory of their own -/
theorem conv_bytes (w : World) (l : List UInt8) (hl : l.length ≤ 100000) : ∃ W c, (convert 9 27 (.string (mkB l))).run Tryz.prog w = .ok (.slice (some ⟨w.heap.size, 0, none⟩) l.length c) W ∧ l.length ≤ c ∧ c ≤ 9223372036854775807 ∧ IsB W (some ⟨w.heap.size, 0, none⟩) l.length (ints l) ∧ Below w.heap.size w W ∧ W.heap.size = w.heap.size + 1 := by
  have hr := Lib.run_convert_string_bytes (P := Tryz.prog) w 9 27 5 (mkB l) (u := .string) Tryz.underlying9 Tryz.underlying27 Tryz.underlying5
  have hs : (mkB l).size = l.length := mkB_size l
  have hd : (mkB l).data.toList = l := by simp [mkB]
  refine ⟨_, _, by rw [hs] at hr; exact hr, by have := grownCap_ge w l.length 0 5; exact this, by have := grownCap_le_maxLen w l.length 0 5 (by unfold maxLen; omega); unfold maxLen at this; omega, ⟨ints_len l, by omega, ?_⟩, ?_, Lib.bytesWorld_size _ _ _⟩
  · by_cases h0 : l = []
    · left; subst h0; rfl
    · right
      refine ⟨_, _, rfl, fun j z hj => ?_, ints_ok l⟩
      have hjl : j < l.length := by have := (List.getElem?_eq_some_iff.1 hj).1; rw [ints_len] at this; exact this
      have := Lib.bytesWorld_cell w 5 (mkB l) j (by omega)
      rw [Nat.zero_add, this, hd]
      unfold ints at hj
      rw [List.getElem?_map, List.getElem?_eq_getElem hjl] at hj
      simp only [Option.map_some, Option.some.injEq] at hj
      rw [← hj, List.getD_eq_getElem?_getD, List.getElem?_eq_getElem hjl]; rfl
  · exact Lib.bytesWorld_below _ _ _
set_option maxHeartbeats 16000000 in
set_option maxRecDepth 20000 in
theorem noneP_any (nm : List UInt8) (fa : Option Addr) (n fc : Nat) (fs : List FD) (s : List UInt8) (w : World) (hn : fs.length = n) (hl : n ≤ 100000) (hs : s.length ≤ 100000) (hH : RowsIn w (fun b => b < w.heap.size) 5 fdrow (.slice fa n fc) fs) :
    Calls Tryz.prog 45 #[.agg #[.string (mkB nm), .slice fa n fc], .string (mkB s)] w fun e w' => e = .returned (.bool (noneOf (knownP fs) s)) ∧ Below w.heap.size w w' := by
  obtain ⟨R, hR⟩ : ∃ R, noneOf (knownP fs) s = R := ⟨_, rfl⟩
  have HR := Lib.hid hR
  rw [hR]
  clear hR
  obtain ⟨Y, hY, hC, hb, hYs⟩ := box_new w #[.string (mkB nm), .slice fa n fc] 50
  obtain ⟨V, c, hconv, hlc, hcm, hI, hVb, hVs⟩ := conv_bytes Y s hs
  have HY := Lib.hid hY
  have HBV := Lib.hid (hb.trans (hVb.mono hb.size))
  have HCV : Hid (V.heap[w.heap.size]? = some (.cells #[.string (mkB nm), .slice fa n fc] 50 (0, 0))) := (hVb.block _ (by omega)).trans hC
  have hVl : w.heap.size + 1 ≤ V.heap.size := by omega
  have h := splitW_any (some ⟨Y.heap.size, 0, none⟩) s.length c (ints s) V hI hlc hcm (by omega)
  have HKN : Hid (∀ (num ty : Int) (W : World), Below w.heap.size w W → Calls Tryz.prog 58 #[.agg #[.string (mkB nm), .slice fa n fc], .int .i64 num, .int .i64 ty] W fun e w' => e = .returned (.bool (knownP fs num ty)) ∧ Below W.heap.size W w') := by
    refine (?_ : ∀ (num ty : Int) (W : World), _ → _)
    intro num ty W hW
    exact knownP_any nm fa n fc fs num ty W hn hl ((RowsIn.old hH fun b h => hW.block b h).more fun b h => by have := hW.size; omega)
  clear hn hH hC hY hb hYs hI hVb hVs hlc hcm
  go_enter Tryz.func45, Tryz.ntmps45
  go_upto_region 1 with fail
  rw [HY.out]
  go_wp2_with fail
  refine h.mono ?_
  intro e W1 hans
  clear h hconv
  cases hsp : split (ints s) with
  | none =>
    rw [hsp] at hans
    obtain ⟨rfl, hb1⟩ := hans
    have HB1 := Lib.hid (HBV.out.trans (hb1.mono HBV.out.size))
    have e : R = false := by rw [← HR.out]; unfold noneOf; rw [hsp]
    subst e
    clear hsp hb1
    go_wp2_with fail
    go_ret
    exact ⟨rfl, HB1.out⟩
  | some D =>
    rw [hsp] at hans
    obtain ⟨vF, vR, xs, rs, rfl, hst, hFF, hFR, hb1⟩ := hans
    obtain ⟨aF, cF, aR, cR, rfl, rfl, hlF, hlR, hcF, -⟩ := st_shapes hst
    have HB1 := Lib.hid (HBV.out.trans (hb1.mono HBV.out.size))
    have HC1 : Hid (W1.heap[w.heap.size]? = some (.cells #[.string (mkB nm), .slice fa n fc] 50 (0, 0))) := (hb1.block _ (by omega)).trans HCV.out
    have HCF := Lib.hid hcF
    have HFF := Lib.hid hFF
    have HRR : Hid (allB (atB D fun _ p => !knownP fs p.1.num p.1.ty) D.length = R) := by
      refine (?_ : _ = _)
      rw [← HR.out]; unfold noneOf allA; rw [hsp]
    obtain ⟨m, hm⟩ : ∃ m, xs.length = m := ⟨_, rfl⟩
    have HM : Hid (D.length = m) := by
      refine (?_ : _ = _)
      rw [← hm, hFF.len]
    have hmb : m ≤ 100000 := by
      have h1 := spl_len _ _ D (ints_ok s) hsp
      rw [ints_len] at h1
      have := HM.out
      omega
    rw [hm] at hlF ⊢
    have HMX := Lib.hid hm
    have h1s : w.heap.size + 1 ≤ W1.heap.size := by have := hb1.size; omega
    clear hst hFF hFR hb1 hcF hsp hm hlR HR HBV HCV hVl
    go_wp2_with fail
    go_loopw [21] (fun i wr => ∃ (k : Nat), i = .int .i64 (k : Int) ∧ k ≤ m ∧ allB (atB D fun _ p => !knownP fs p.1.num p.1.ty) k = true ∧ Below W1.heap.size W1 wr) (fun i _ => m - (intOf i).toNat)
    case atStart => exact ⟨0, rfl, Nat.zero_le _, rfl, Below.refl _ _⟩
    case round =>
      generalize wr = w1 at *
      obtain ⟨k, rfl, hk, hall, hbel⟩ := hrel
      have HBE := Lib.hid hbel
      have HA := Lib.hid hall
      have HBW := Lib.hid (HB1.out.trans (hbel.mono HB1.out.size))
      have hws := hbel.size
      by_cases hkn : k < m
      · obtain ⟨f, p, hf, hp, hsay⟩ := fits_at HFF.out k (by have := HM.out; omega)
        obtain ⟨g, hag, e0, e1, e2, e3, -, hg⟩ := HCF.out k f hf
        subst hag
        have e0 : w1.cell? ⟨g, k * 4, none⟩ = some (.int .i64 f.num) := by rw [hbel.cell hg]; exact e0
        have e1 : w1.cell? ⟨g, k * 4 + 1, none⟩ = some (.int .i64 f.ty) := by rw [hbel.cell hg]; exact e1
        have e2 : w1.cell? ⟨g, k * 4 + 2, none⟩ = some (.int .u64 f.n) := by rw [hbel.cell hg]; exact e2
        have e3 : w1.cell? ⟨g, k * 4 + 3, none⟩ = some (.slice f.a f.len f.cap) := by rw [hbel.cell hg]; exact e3
        have HKB : Hid (atB D (fun _ p => !knownP fs p.1.num p.1.ty) k = !knownP fs f.num f.ty) := by
          refine (?_ : _ = _)
          rw [atB_some hp]
          have h1 : f.num = p.1.num := congrArg (fun t => t.1) hsay
          have h2 : f.ty = p.1.ty := congrArg (fun t => t.2.1) hsay
          rw [h1, h2]
        have hk0 : (0 : Int) ≤ (k : Int) := by omega
        have hk1 : (k : Int) < (m : Int) := by omega
        have hwq : IntKind.i64.wrap ((k : Int) + 1) = (k : Int) + 1 := by rw [IntKind.wrap_i64]; omega
        have hc1 := (hbel.block _ (by omega)).trans HC1.out
        have hKn := HKN.out f.num f.ty
        obtain ⟨B, hB⟩ : ∃ B, knownP fs f.num f.ty = B := ⟨_, rfl⟩
        rw [hB] at HKB
        simp only [hB] at hKn
        clear hf hp hsay hbel hall hB
        obtain ⟨fnum, fty, fn, fa', flen, fcap, fd⟩ := f
        dsimp only at e0 e1 e2 e3 hKn
        have hC : (w1.alloc (.cells #[.int .i64 fnum, .int .i64 fty, .int .u64 fn, .slice fa' flen fcap] 125)).heap[w1.heap.size]? = some (.cells #[.int .i64 fnum, .int .i64 fty, .int .u64 fn, .slice fa' flen fcap] 125 (0, 0)) := alloc_heap_new _ _
        have hCb : Below w1.heap.size w1 (w1.alloc (.cells #[.int .i64 fnum, .int .i64 fty, .int .u64 fn, .slice fa' flen fcap] 125)) := (Below.refl _ w1).alloc (Nat.le_refl _) _
        go_upto_region 7 with fail
        generalize (w1.alloc (.cells #[.int .i64 fnum, .int .i64 fty, .int .u64 fn, .slice fa' flen fcap] 125)) = X at *
        have hBX := HBW.out.trans (hCb.mono (by omega))
        have HBX := Lib.hid hBX
        have HBX1 := Lib.hid (HBE.out.trans (hCb.mono hws))
        have l0 : X.cell? ⟨w1.heap.size, 0, none⟩ = some (.int .i64 fnum) := cell_at hC 0 rfl
        have l1 : X.cell? ⟨w1.heap.size, 1, none⟩ = some (.int .i64 fty) := cell_at hC 1 rfl
        have hcX := (hCb.block _ (by omega)).trans hc1
        have d0 : X.cell? ⟨w.heap.size, 0, none⟩ = some (.string (mkB nm)) := cell_at hcX 0 rfl
        have d1 : X.cell? ⟨w.heap.size, 1, none⟩ = some (.slice fa n fc) := cell_at hcX 1 rfl
        have h := hKn X hBX
        clear hC hCb hcX hc1 hKn hBX e0 e1 e2 e3
        go_wp2_with fail
        refine h.mono ?_
        rintro e W2 ⟨rfl, hb2⟩
        have HB2 := Lib.hid (HBX.out.trans (hb2.mono HBX.out.size))
        have HBR := Lib.hid (HBX1.out.trans (hb2.mono HBX1.out.size))
        clear hb2 h l0 l1 d0 d1
        cases B
        case true =>
          have e : R = false := by rw [← HRR.out]; exact allB_no HKB.out (by have := HM.out; omega)
          subst e
          go_wp2_with fail
          go_ret
          exact ⟨rfl, HB2.out⟩
        case false =>
          go_wp2_with fail
          go_roundw
          case rel => exact ⟨k + 1, by go_num, by omega, allB_step HA.out HKB.out, HBR.out⟩
          case measure => simp [intOf]; omega
      · have hkn' : ¬ (k : Int) < (m : Int) := by omega
        have e : R = true := by
          have hkk : k = D.length := by have := HM.out; omega
          rw [← HRR.out, ← hkk]; exact HA.out
        subst e
        go_wp2_with fail
        go_ret
        exact ⟨rfl, HBW.out⟩
end Go.Proofs.YtnopnjklcdcckaaGreatDoor
