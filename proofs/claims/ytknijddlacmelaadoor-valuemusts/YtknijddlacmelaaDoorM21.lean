/-
  The walk over the program's Split: of any bytes (at most 2^21) it answers what 'split' says, and makes new memory alone.
-/
import Derived.Test.YtknijddlacmelaaDoorM6
import Derived.Test.YtknijddlacmelaaDoorM20
namespace Go.Proofs.YtknijddlacmelaaDoor
set_option linter.unusedVariables false
open Go.ChangeShapes Go.WideShapes Go.ChangeAt Go.RowKit

theorem fieldWB : FieldType 99 106 := ⟨Tryd.underlying99, by kernel_rfl⟩
theorem spAns_none {e : TypeId} {w w' : World} (hb : Below w.heap.size w w') : SpAns e w w' (.returned (.tuple #[.slice none 0 0, .slice none 0 0, .int .i64 2])) none := ⟨rfl, hb⟩
theorem newB_own {w : World} {base : Nat} {v : Value} {xs : List Int} (h : OwnB w base v xs) (hb : ∀ z ∈ xs, 0 ≤ z ∧ z ≤ 255) (hm : xs.length ≤ 281474976710656) :
    ∃ a c, v = .slice a xs.length c ∧ NewB w base a xs.length xs ∧ NoA a xs.length c := by
  obtain ⟨a, c, hv, hno, hst⟩ := ownE_isB (.inl h) hb hm
  exact ⟨a, c, hv, stable_newB hst, hno⟩

set_option maxHeartbeats 4000000 in
theorem splitW_any (a : Option Addr) (len cap : Nat) (zs : List Int) (w : World) (hB : IsB w a len zs) (hlc : len ≤ cap) (hcm : cap ≤ 9223372036854775807) (hlm : len ≤ 2097152) :
    Calls Tryd.prog 41 #[.slice a len cap] w fun e w' => SpAns 106 w w' e (split zs) := by
  have HB : Hid (IsB w a len zs) := hB
  clear hB
  go_enter Tryd.func41, Tryd.ntmps41
  go_wp2_with fail
  go_loopw [5, 6, 7] (fun v5 v6 i wr => ∃ (k : Nat) (fs : List FR) (rs : List Row3) (D : List (TF × List Int)), k ≤ len ∧ i = .int .i64 k ∧ SplSt wr w.heap.size 106 v5 v6 fs rs ∧ FitsF fs D ∧ FitsR rs D ∧ D.length ≤ k ∧ split zs = (split (zs.drop k)).map (D ++ ·) ∧ Below w.heap.size w wr) (fun _ _ i _ => len - (intOf i).toNat)
  case atStart => exact ⟨0, [], [], [], by omega, rfl, SplSt.nil _ _ _, FitsF.nil, FitsR.nil, by simp, by simp, Below.refl _ _⟩
  case round =>
    obtain ⟨k, fs, rs, D, hk, rfl, hst, hFF, hFR, hDk, hsp, hbel⟩ := hrel
    have HST : Hid (SplSt wr w.heap.size 106 u5 u6 fs rs) := hst
    have HFF : Hid (FitsF fs D) := hFF
    have HFR : Hid (FitsR rs D) := hFR
    have HSP : Hid (split zs = (split (zs.drop k)).map (D ++ ·)) := hsp
    have HBL : Hid (Below w.heap.size w wr) := hbel
    have hszr := hbel.size
    have hfl : fs.length ≤ k := by have := hFF.len; omega
    have hrl : rs.length ≤ k := by have := hFR.len; omega
    clear hst hFF hFR hsp hbel
    by_cases hlt : k < len
    · have hzl := HB.out.1
      obtain ⟨b, off, _, rfl, _⟩ := isB_at HB.out hlt
      have hck : ¬ cap = k := by omega
      have HIk : Hid (IsB wr (some ⟨b, off + k, none⟩) (len - k) (zs.drop k)) := by
        refine (?_ : IsB wr (some ⟨b, off + k, none⟩) (len - k) (zs.drop k))
        have := isB_cut (isB_old HB.out HBL.out) hlc k (by omega)
        rw [cutAt_in hck] at this
        exact this
      have hT := takeW_any (some ⟨b, off + k, none⟩) (len - k) (cap - k) (zs.drop k) wr HIk.out (by omega) (by omega) (by omega)
      have hne : zs.drop k ≠ [] := by
        intro h
        have := congrArg List.length h
        rw [List.length_drop] at this
        simp at this; omega
      have hE := tf_e (zs.drop k)
      have HKE : Hid ((tf (zs.drop k)).e = 0 → 1 ≤ (tf (zs.drop k)).k ∧ (tf (zs.drop k)).k ≤ ((len - k : Nat) : Int)) := by
        intro h
        have := tf_k (zs.drop k) (fun z hz => isB_bytes HB.out z (List.mem_of_mem_drop hz)) h
        rw [List.length_drop, hzl] at this
        exact this
      have HON : Hid ((tf (zs.drop k)).e = 0 → split zs = (split ((zs.drop k).drop (tf (zs.drop k)).k.toNat)).map ((D ++ [(tf (zs.drop k), (zs.drop k).take (tf (zs.drop k)).k.toNat)]) ++ ·)) := by
        intro h
        rw [HSP.out, split_on _ (fun z hz => isB_bytes HB.out z (List.mem_of_mem_drop hz)) hne h]
        simp [Option.map_map, Function.comp_def]
      have HER : Hid ((tf (zs.drop k)).e ≠ 0 → split zs = none) := by
        intro h
        rw [HSP.out, split_err _ hne h]; rfl
      clear hzl hne HSP
      generalize tf (zs.drop k) = r at *
      obtain ⟨rnum, rty, rn, rd, rk, re⟩ := r
      have HT2 : Hid (Calls Tryd.prog 51 #[.slice (some ⟨b, off + k, none⟩) (len - k) (cap - k)] wr fun e w' => ∃ a len cap, e = .returned (.tuple #[.agg #[.int .i64 rnum, .int .i64 rty, .int .u64 rn, .slice a len cap], .int .i64 rk, .int .i64 re]) ∧ NewB w' wr.heap.size a len rd ∧ NoA a len cap ∧ Below wr.heap.size wr w') := hT
      clear hT
      simp only [] at hE
      have hE0 : re = 0 ∨ re = 2 ∨ re = 5 := hE
      clear hE
      rcases hE0 with rfl | rfl | rfl
      · obtain ⟨hk1, hk2⟩ := HKE.out rfl
        have hON := HON.out rfl
        simp only [] at hk1 hk2 hON
        obtain ⟨q, rfl⟩ := Int.eq_ofNat_of_zero_le (show 0 ≤ rk by omega)
        rw [Int.toNat_natCast, List.drop_drop] at hON
        have HON2 : Hid (split zs = (split (zs.drop (k + q))).map ((D ++ [((⟨rnum, rty, rn, rd, (q : Int), 0⟩ : TF), (zs.drop k).take q)]) ++ ·)) := hON
        have HIq : Hid (∀ W, Below w.heap.size w W → IsB W (some ⟨b, off + k, none⟩) q ((zs.drop k).take q)) := by
          intro W hW
          have := isB_mid (isB_old HB.out hW) hlc k q (by omega)
          rw [cutAt_in hck] at this
          exact this
        have HQB : Hid (∀ z ∈ (zs.drop k).take q, 0 ≤ z ∧ z ≤ 255) := fun z hz => isB_bytes HB.out z (List.mem_of_mem_drop (List.mem_of_mem_take hz))
        clear HON HER HKE hON
        have hq1 : 1 ≤ q := by omega
        have hq2 : k + q ≤ len := by omega
        clear hk1 hk2
        go_wp2_with fail
        refine HT2.out.mono ?_
        rintro e W1 ⟨a1, len1, cap1, rfl, hn1, hno1, hb1⟩
        have hoF := owns_lt HST.out.ownF
        have hoR := owns_lt HST.out.ownR
        have hfar : FarB W1 u5.ownBlock u6.ownBlock a1 len1 rd := FarB.of_new hn1 (fun k hk => (hoF k hk).1) (fun k hk => (hoR k hk).1)
        have hst1 := HST.out.old hb1
        have hbW1 : Below w.heap.size w W1 := HBL.out.trans (hb1.mono hszr)
        have hzW1 := hbW1.size
        have hab : Below W1.heap.size W1 ((W1.alloc (.cells #[.int .i64 rnum, .int .i64 rty, .int .u64 rn, .slice a1 len1 cap1] 106)).alloc (.cells #[.int .i64 rnum, .int .i64 rty, .int .u64 rn, .slice a1 len1 cap1] 106)) := ((Below.refl _ _).alloc (Nat.le_refl _) _).alloc (by simp) _
        have HS2 : Hid (SplSt ((W1.alloc (.cells #[.int .i64 rnum, .int .i64 rty, .int .u64 rn, .slice a1 len1 cap1] 106)).alloc (.cells #[.int .i64 rnum, .int .i64 rty, .int .u64 rn, .slice a1 len1 cap1] 106)) w.heap.size 106 u5 u6 fs rs) := hst1.old hab
        have HF2 : Hid (FarB ((W1.alloc (.cells #[.int .i64 rnum, .int .i64 rty, .int .u64 rn, .slice a1 len1 cap1] 106)).alloc (.cells #[.int .i64 rnum, .int .i64 rty, .int .u64 rn, .slice a1 len1 cap1] 106)) u5.ownBlock u6.ownBlock a1 len1 rd) := hfar.old hab
        have HB2 : Hid (Below w.heap.size w ((W1.alloc (.cells #[.int .i64 rnum, .int .i64 rty, .int .u64 rn, .slice a1 len1 cap1] 106)).alloc (.cells #[.int .i64 rnum, .int .i64 rty, .int .u64 rn, .slice a1 len1 cap1] 106))) := hbW1.trans (hab.mono hzW1)
        have HC2 : Hid (∀ j u, (FR.cells ⟨rnum, rty, rn, a1, len1, cap1, rd⟩)[j]? = some u → ((W1.alloc (.cells #[.int .i64 rnum, .int .i64 rty, .int .u64 rn, .slice a1 len1 cap1] 106)).alloc (.cells #[.int .i64 rnum, .int .i64 rty, .int .u64 rn, .slice a1 len1 cap1] 106)).cell? ((⟨W1.heap.size + 1, 0, none⟩ : Addr).add j) = some u) := by
          intro j u hj
          rw [add_off]
          rcases j with _ | _ | _ | _ | j
          · simp [FR.cells] at hj; subst hj; simp
          · simp [FR.cells] at hj; subst hj; simp
          · simp [FR.cells] at hj; subst hj; simp
          · simp [FR.cells] at hj; subst hj; simp
          · simp [FR.cells] at hj
        have HNO1 : Hid (NoA a1 len1 cap1) := hno1
        clear hn1 hno1 hb1 hoF hoR hfar hst1 hbW1 hab HT2 HST HBL
        go_wp2_with (at_builtin; refine wpS_F rfl (.tmp 28) (.tmp 30) 99 106 rfl fieldWB w.heap.size u5 u6 fs rs rfl HS2.out ⟨rnum, rty, rn, a1, len1, cap1, rd⟩ HF2.out ⟨W1.heap.size + 1, 0, none⟩ 1 rfl HC2.out (by simp; omega) (by omega) ?_; intro v3 W3 hst3 hb3)
        have hbw3 : Below w.heap.size w W3 := HB2.out.trans hb3
        have HST3 : Hid (SplSt W3 w.heap.size 106 v3 u6 (fs ++ [⟨rnum, rty, rn, a1, len1, cap1, rd⟩]) rs) := hst3
        have HBW3 : Hid (Below w.heap.size w W3) := hbw3
        have hz3 := hbw3.size
        clear hst3 hb3 hbw3 HS2 HF2 HB2 HC2
        refine (cloneW_any _ _ _ _ _ (HIq.out _ HBW3.out) (by omega)).mono ?_
        rintro e W4 ⟨v4, rfl, ho4, hb4⟩
        obtain ⟨a4, c4, rfl, hn4, hno4⟩ := newB_own ho4 HQB.out (by rw [List.length_take, List.length_drop]; omega)
        have hql : ((zs.drop k).take q).length = q := by rw [List.length_take, List.length_drop]; have := HB.out.1; omega
        rw [hql] at hn4 hno4 ⊢
        have HNO4 : Hid (NoA a4 q c4) := hno4
        clear hno4
        have hoF := owns_lt HST3.out.ownF
        have hoR := owns_lt HST3.out.ownR
        have hfar : FarB W4 v3.ownBlock u6.ownBlock a4 q ((zs.drop k).take q) := FarB.of_new hn4 (fun k hk => (hoF k hk).1) (fun k hk => (hoR k hk).1)
        have hab : Below W4.heap.size W4 (W4.alloc (.cells #[.slice a4 q c4] 104)) := (Below.refl _ _).alloc (Nat.le_refl _) _
        have HS4 : Hid (SplSt (W4.alloc (.cells #[.slice a4 q c4] 104)) w.heap.size 106 v3 u6 (fs ++ [⟨rnum, rty, rn, a1, len1, cap1, rd⟩]) rs) := (HST3.out.old hb4).old hab
        have HF4 : Hid (FarB (W4.alloc (.cells #[.slice a4 q c4] 104)) v3.ownBlock u6.ownBlock a4 q ((zs.drop k).take q)) := hfar.old hab
        have hbw4 : Below w.heap.size w W4 := HBW3.out.trans (hb4.mono hz3)
        have hz4 := hbw4.size
        have HBW4 : Hid (Below w.heap.size w (W4.alloc (.cells #[.slice a4 q c4] 104))) := hbw4.alloc hz4 _
        have HC4 : Hid ((W4.alloc (.cells #[.slice a4 q c4] 104)).cell? ((⟨W4.heap.size, 0, none⟩ : Addr).add 0) = some (Row3.val ⟨a4, q, c4, (zs.drop k).take q⟩)) := by
          refine (?_ : (W4.alloc (.cells #[.slice a4 q c4] 104)).cell? ((⟨W4.heap.size, 0, none⟩ : Addr).add 0) = some (Row3.val ⟨a4, q, c4, (zs.drop k).take q⟩))
          rw [add_off]; simp [Row3.val]
        clear ho4 hb4 hn4 hoF hoR hfar hab hbw4 HST3 hql
        go_wp2_with (at_builtin; refine wpS_R rfl (.tmp 32) (.tmp 40) 106 rfl w.heap.size v3 u6 _ rs rfl HS4.out ⟨a4, q, c4, (zs.drop k).take q⟩ HF4.out ⟨W4.heap.size, 0, none⟩ 1 rfl HC4.out (by simp; omega) (by omega) ?_; intro v5 W5 hst5 hb5)
        go_roundw
        case rel =>
          obtain ⟨hf1, hf2⟩ := fits_snoc HFF.out HFR.out ⟨rnum, rty, rn, a1, len1, cap1, rd⟩ ⟨a4, q, c4, (zs.drop k).take q⟩ ((⟨rnum, rty, rn, rd, (q : Int), 0⟩ : TF), (zs.drop k).take q) rfl rfl HNO1.out HNO4.out
          exact ⟨k + q, _, _, _, by omega, by go_num, hst5, hf1, hf2, by simp; omega, HON2.out, HBW4.out.trans hb5⟩
        case measure => simp [intOf]; omega
      · have hER := HER.out (by simp)
        have HERR : Hid (split zs = none) := hER
        clear HER HON HKE hER
        go_wp2_with fail
        refine HT2.out.mono ?_
        rintro e W1 ⟨a1, len1, cap1, rfl, hn1, hno1, hb1⟩
        have HBW1 : Hid (Below w.heap.size w W1) := HBL.out.trans (hb1.mono hszr)
        clear hb1 hn1 hno1
        go_wp2_with fail
        go_ret3
        rw [HERR.out]
        exact spAns_none (HBW1.out.alloc HBW1.out.size _)
      · have hER := HER.out (by simp)
        have HERR : Hid (split zs = none) := hER
        clear HER HON HKE hER
        go_wp2_with fail
        refine HT2.out.mono ?_
        rintro e W1 ⟨a1, len1, cap1, rfl, hn1, hno1, hb1⟩
        have HBW1 : Hid (Below w.heap.size w W1) := HBL.out.trans (hb1.mono hszr)
        clear hb1 hn1 hno1
        go_wp2_with fail
        go_ret3
        rw [HERR.out]
        exact spAns_none (HBW1.out.alloc HBW1.out.size _)
    · obtain rfl : k = len := by omega
      have HE : Hid (split zs = some D) := by
        refine (?_ : split zs = some D)
        rw [HSP.out, List.drop_eq_nil_of_le (by have := HB.out.1; omega), split_nil]
        simp
      clear HSP
      go_wp2_with fail
      go_ret3
      rw [HE.out]
      exact ⟨_, _, fs, rs, rfl, HST.out, HFF.out, HFR.out, HBL.out⟩
end Go.Proofs.YtknijddlacmelaaDoor
