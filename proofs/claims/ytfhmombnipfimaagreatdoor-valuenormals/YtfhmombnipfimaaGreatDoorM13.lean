/-
  The walk over the program's Split: of any bytes (at most 2^21) it answers what 'split' says, and makes new memory alone.
  The walk over the document's own Split: of any bytes (at most 2^21) it answers what 'split' says, and makes new memory alone.
  What is read of the two slices of a split, and that the bytes of the parts are all bytes. Nothing is proved of the program here.
-/
import Derived.Test.YtfhmombnipfimaaGreatDoorM5
import Derived.Test.YtfhmombnipfimaaGreatDoorM12
import Derived.Handy
import Derived.Deep.RegionLaw
namespace Go.Proofs.YtfhmombnipfimaaGreatDoor
set_option linter.unusedVariables false
open Go.ChangeShapes Go.WideShapes Go.ChangeAt Go.RowKit

theorem fieldWB : FieldType 130 167 := ⟨Tryz.underlying130, by kernel_rfl⟩
theorem spAns_none {e : TypeId} {w w' : World} (hb : Below w.heap.size w w') : SpAns e w w' (.returned (.tuple #[.slice none 0 0, .slice none 0 0, .int .i64 2])) none := ⟨rfl, hb⟩
theorem newB_own {w : World} {base : Nat} {v : Value} {xs : List Int} (h : OwnB w base v xs) (hb : ∀ z ∈ xs, 0 ≤ z ∧ z ≤ 255) (hm : xs.length ≤ 281474976710656) :
    ∃ a c, v = .slice a xs.length c ∧ NewB w base a xs.length xs ∧ NoA a xs.length c := by
  obtain ⟨a, c, hv, hno, hst⟩ := ownE_isB (.inl h) hb hm
  exact ⟨a, c, hv, stable_newB hst, hno⟩

set_option maxHeartbeats 4000000 in
theorem splitW_any (a : Option Addr) (len cap : Nat) (zs : List Int) (w : World) (hB : IsB w a len zs) (hlc : len ≤ cap) (hcm : cap ≤ 9223372036854775807) (hlm : len ≤ 2097152) :
    Calls Tryz.prog 98 #[.slice a len cap] w fun e w' => SpAns 167 w w' e (split zs) := by
  have HB : Hid (IsB w a len zs) := hB
  clear hB
  go_enter Tryz.func98, Tryz.ntmps98
  go_wp2_with fail
  go_loopw [5, 6, 7] (fun v5 v6 i wr => ∃ (k : Nat) (fs : List FR) (rs : List Row3) (D : List (TF × List Int)), k ≤ len ∧ i = .int .i64 k ∧ SplSt wr w.heap.size 167 v5 v6 fs rs ∧ FitsF fs D ∧ FitsR rs D ∧ D.length ≤ k ∧ split zs = (split (zs.drop k)).map (D ++ ·) ∧ Below w.heap.size w wr) (fun _ _ i _ => len - (intOf i).toNat)
  case atStart => exact ⟨0, [], [], [], by omega, rfl, SplSt.nil _ _ _, FitsF.nil, FitsR.nil, by simp, by simp, Below.refl _ _⟩
  case round =>
    obtain ⟨k, fs, rs, D, hk, rfl, hst, hFF, hFR, hDk, hsp, hbel⟩ := hrel
    have HST : Hid (SplSt wr w.heap.size 167 u5 u6 fs rs) := hst
    have HFF : Hid (FitsF fs D) := hFF
    have HFR : Hid (FitsR rs D) := hFR
    have HSP : Hid (split zs = (split (zs.drop k)).map (D ++ ·)) := hsp
    have HBL : Hid (Below w.heap.size w wr) := hbel
    have hszr := hbel.size
    have hfl : fs.length ≤ k := by have := hFF.len; omega
    have hrl : rs.length ≤ k := by have := hFR.len; omega
    clear hst hFF hFR hsp hbel
    by_cases hlt : k < len
    · have hzl := HB.out.1
      obtain ⟨b, off, _, rfl, _⟩ := isB_at HB.out hlt
      have hck : ¬ cap = k := by omega
      have HIk : Hid (IsB wr (some ⟨b, off + k, none⟩) (len - k) (zs.drop k)) := by
        refine (?_ : IsB wr (some ⟨b, off + k, none⟩) (len - k) (zs.drop k))
        have := isB_cut (isB_old HB.out HBL.out) hlc k (by omega)
        rw [cutAt_in hck] at this
        exact this
      have hT := takeW_any (some ⟨b, off + k, none⟩) (len - k) (cap - k) (zs.drop k) wr HIk.out (by omega) (by omega) (by omega)
      have hne : zs.drop k ≠ [] := by
        intro h
        have := congrArg List.length h
        rw [List.length_drop] at this
        simp at this; omega
      have hE := tf_e (zs.drop k)
      have HKE : Hid ((tf (zs.drop k)).e = 0 → 1 ≤ (tf (zs.drop k)).k ∧ (tf (zs.drop k)).k ≤ ((len - k : Nat) : Int)) := by
        intro h
        have := tf_k (zs.drop k) (fun z hz => isB_bytes HB.out z (List.mem_of_mem_drop hz)) h
        rw [List.length_drop, hzl] at this
        exact this
      have HON : Hid ((tf (zs.drop k)).e = 0 → split zs = (split ((zs.drop k).drop (tf (zs.drop k)).k.toNat)).map ((D ++ [(tf (zs.drop k), (zs.drop k).take (tf (zs.drop k)).k.toNat)]) ++ ·)) := by
        intro h
        rw [HSP.out, split_on _ (fun z hz => isB_bytes HB.out z (List.mem_of_mem_drop hz)) hne h]
        simp [Option.map_map, Function.comp_def]
      have HER : Hid ((tf (zs.drop k)).e ≠ 0 → split zs = none) := by
        intro h
        rw [HSP.out, split_err _ hne h]; rfl
      clear hzl hne HSP
      generalize tf (zs.drop k) = r at *
      obtain ⟨rnum, rty, rn, rd, rk, re⟩ := r
      have HT2 : Hid (Calls Tryz.prog 119 #[.slice (some ⟨b, off + k, none⟩) (len - k) (cap - k)] wr fun e w' => ∃ a len cap, e = .returned (.tuple #[.agg #[.int .i64 rnum, .int .i64 rty, .int .u64 rn, .slice a len cap], .int .i64 rk, .int .i64 re]) ∧ NewB w' wr.heap.size a len rd ∧ NoA a len cap ∧ Below wr.heap.size wr w') := hT
      clear hT
      simp only [] at hE
      have hE0 : re = 0 ∨ re = 2 ∨ re = 5 := hE
      clear hE
      rcases hE0 with rfl | rfl | rfl
      · obtain ⟨hk1, hk2⟩ := HKE.out rfl
        have hON := HON.out rfl
        simp only [] at hk1 hk2 hON
        obtain ⟨q, rfl⟩ := Int.eq_ofNat_of_zero_le (show 0 ≤ rk by omega)
        rw [Int.toNat_natCast, List.drop_drop] at hON
        have HON2 : Hid (split zs = (split (zs.drop (k + q))).map ((D ++ [((⟨rnum, rty, rn, rd, (q : Int), 0⟩ : TF), (zs.drop k).take q)]) ++ ·)) := hON
        have HIq : Hid (∀ W, Below w.heap.size w W → IsB W (some ⟨b, off + k, none⟩) q ((zs.drop k).take q)) := by
          intro W hW
          have := isB_mid (isB_old HB.out hW) hlc k q (by omega)
          rw [cutAt_in hck] at this
          exact this
        have HQB : Hid (∀ z ∈ (zs.drop k).take q, 0 ≤ z ∧ z ≤ 255) := fun z hz => isB_bytes HB.out z (List.mem_of_mem_drop (List.mem_of_mem_take hz))
        clear HON HER HKE hON
        have hq1 : 1 ≤ q := by omega
        have hq2 : k + q ≤ len := by omega
        clear hk1 hk2
        go_wp2_with fail
        refine HT2.out.mono ?_
        rintro e W1 ⟨a1, len1, cap1, rfl, hn1, hno1, hb1⟩
        have hoF := owns_lt HST.out.ownF
        have hoR := owns_lt HST.out.ownR
        have hfar : FarB W1 u5.ownBlock u6.ownBlock a1 len1 rd := FarB.of_new hn1 (fun k hk => (hoF k hk).1) (fun k hk => (hoR k hk).1)
        have hst1 := HST.out.old hb1
        have hbW1 : Below w.heap.size w W1 := HBL.out.trans (hb1.mono hszr)
        have hzW1 := hbW1.size
        have hab : Below W1.heap.size W1 ((W1.alloc (.cells #[.int .i64 rnum, .int .i64 rty, .int .u64 rn, .slice a1 len1 cap1] 167)).alloc (.cells #[.int .i64 rnum, .int .i64 rty, .int .u64 rn, .slice a1 len1 cap1] 167)) := ((Below.refl _ _).alloc (Nat.le_refl _) _).alloc (by simp) _
        have HS2 : Hid (SplSt ((W1.alloc (.cells #[.int .i64 rnum, .int .i64 rty, .int .u64 rn, .slice a1 len1 cap1] 167)).alloc (.cells #[.int .i64 rnum, .int .i64 rty, .int .u64 rn, .slice a1 len1 cap1] 167)) w.heap.size 167 u5 u6 fs rs) := hst1.old hab
        have HF2 : Hid (FarB ((W1.alloc (.cells #[.int .i64 rnum, .int .i64 rty, .int .u64 rn, .slice a1 len1 cap1] 167)).alloc (.cells #[.int .i64 rnum, .int .i64 rty, .int .u64 rn, .slice a1 len1 cap1] 167)) u5.ownBlock u6.ownBlock a1 len1 rd) := hfar.old hab
        have HB2 : Hid (Below w.heap.size w ((W1.alloc (.cells #[.int .i64 rnum, .int .i64 rty, .int .u64 rn, .slice a1 len1 cap1] 167)).alloc (.cells #[.int .i64 rnum, .int .i64 rty, .int .u64 rn, .slice a1 len1 cap1] 167))) := hbW1.trans (hab.mono hzW1)
        have HC2 : Hid (∀ j u, (FR.cells ⟨rnum, rty, rn, a1, len1, cap1, rd⟩)[j]? = some u → ((W1.alloc (.cells #[.int .i64 rnum, .int .i64 rty, .int .u64 rn, .slice a1 len1 cap1] 167)).alloc (.cells #[.int .i64 rnum, .int .i64 rty, .int .u64 rn, .slice a1 len1 cap1] 167)).cell? ((⟨W1.heap.size + 1, 0, none⟩ : Addr).add j) = some u) := by
          intro j u hj
          rw [add_off]
          rcases j with _ | _ | _ | _ | j
          · simp [FR.cells] at hj; subst hj; simp
          · simp [FR.cells] at hj; subst hj; simp
          · simp [FR.cells] at hj; subst hj; simp
          · simp [FR.cells] at hj; subst hj; simp
          · simp [FR.cells] at hj
        have HNO1 : Hid (NoA a1 len1 cap1) := hno1
        clear hn1 hno1 hb1 hoF hoR hfar hst1 hbW1 hab HT2 HST HBL
        go_wp2_with (at_builtin; refine wpS_F rfl (.tmp 28) (.tmp 30) 130 167 rfl fieldWB w.heap.size u5 u6 fs rs rfl HS2.out ⟨rnum, rty, rn, a1, len1, cap1, rd⟩ HF2.out ⟨W1.heap.size + 1, 0, none⟩ 1 rfl HC2.out (by simp; omega) (by omega) ?_; intro v3 W3 hst3 hb3)
        have hbw3 : Below w.heap.size w W3 := HB2.out.trans hb3
        have HST3 : Hid (SplSt W3 w.heap.size 167 v3 u6 (fs ++ [⟨rnum, rty, rn, a1, len1, cap1, rd⟩]) rs) := hst3
        have HBW3 : Hid (Below w.heap.size w W3) := hbw3
        have hz3 := hbw3.size
        clear hst3 hb3 hbw3 HS2 HF2 HB2 HC2
        refine (cloneW_any _ _ _ _ _ (HIq.out _ HBW3.out) (by omega)).mono ?_
        rintro e W4 ⟨v4, rfl, ho4, hb4⟩
        obtain ⟨a4, c4, rfl, hn4, hno4⟩ := newB_own ho4 HQB.out (by rw [List.length_take, List.length_drop]; omega)
        have hql : ((zs.drop k).take q).length = q := by rw [List.length_take, List.length_drop]; have := HB.out.1; omega
        rw [hql] at hn4 hno4 ⊢
        have HNO4 : Hid (NoA a4 q c4) := hno4
        clear hno4
        have hoF := owns_lt HST3.out.ownF
        have hoR := owns_lt HST3.out.ownR
        have hfar : FarB W4 v3.ownBlock u6.ownBlock a4 q ((zs.drop k).take q) := FarB.of_new hn4 (fun k hk => (hoF k hk).1) (fun k hk => (hoR k hk).1)
        have hab : Below W4.heap.size W4 (W4.alloc (.cells #[.slice a4 q c4] 46)) := (Below.refl _ _).alloc (Nat.le_refl _) _
        have HS4 : Hid (SplSt (W4.alloc (.cells #[.slice a4 q c4] 46)) w.heap.size 167 v3 u6 (fs ++ [⟨rnum, rty, rn, a1, len1, cap1, rd⟩]) rs) := (HST3.out.old hb4).old hab
        have HF4 : Hid (FarB (W4.alloc (.cells #[.slice a4 q c4] 46)) v3.ownBlock u6.ownBlock a4 q ((zs.drop k).take q)) := hfar.old hab
        have hbw4 : Below w.heap.size w W4 := HBW3.out.trans (hb4.mono hz3)
        have hz4 := hbw4.size
        have HBW4 : Hid (Below w.heap.size w (W4.alloc (.cells #[.slice a4 q c4] 46))) := hbw4.alloc hz4 _
        have HC4 : Hid ((W4.alloc (.cells #[.slice a4 q c4] 46)).cell? ((⟨W4.heap.size, 0, none⟩ : Addr).add 0) = some (Row3.val ⟨a4, q, c4, (zs.drop k).take q⟩)) := by
          refine (?_ : (W4.alloc (.cells #[.slice a4 q c4] 46)).cell? ((⟨W4.heap.size, 0, none⟩ : Addr).add 0) = some (Row3.val ⟨a4, q, c4, (zs.drop k).take q⟩))
          rw [add_off]; simp [Row3.val]
        clear ho4 hb4 hn4 hoF hoR hfar hab hbw4 HST3 hql
        go_wp2_with (at_builtin; refine wpS_R rfl (.tmp 32) (.tmp 40) 167 rfl w.heap.size v3 u6 _ rs rfl HS4.out ⟨a4, q, c4, (zs.drop k).take q⟩ HF4.out ⟨W4.heap.size, 0, none⟩ 1 rfl HC4.out (by simp; omega) (by omega) ?_; intro v5 W5 hst5 hb5)
        go_roundw
        case rel =>
          obtain ⟨hf1, hf2⟩ := fits_snoc HFF.out HFR.out ⟨rnum, rty, rn, a1, len1, cap1, rd⟩ ⟨a4, q, c4, (zs.drop k).take q⟩ ((⟨rnum, rty, rn, rd, (q : Int), 0⟩ : TF), (zs.drop k).take q) rfl rfl HNO1.out HNO4.out
          exact ⟨k + q, _, _, _, by omega, by go_num, hst5, hf1, hf2, by simp; omega, HON2.out, HBW4.out.trans hb5⟩
        case measure => simp [intOf]; omega
      · have hER := HER.out (by simp)
        have HERR : Hid (split zs = none) := hER
        clear HER HON HKE hER
        go_wp2_with fail
        refine HT2.out.mono ?_
        rintro e W1 ⟨a1, len1, cap1, rfl, hn1, hno1, hb1⟩
        have HBW1 : Hid (Below w.heap.size w W1) := HBL.out.trans (hb1.mono hszr)
        clear hb1 hn1 hno1
        go_wp2_with fail
        go_ret3
        rw [HERR.out]
        exact spAns_none (HBW1.out.alloc HBW1.out.size _)
      · have hER := HER.out (by simp)
        have HERR : Hid (split zs = none) := hER
        clear HER HON HKE hER
        go_wp2_with fail
        refine HT2.out.mono ?_
        rintro e W1 ⟨a1, len1, cap1, rfl, hn1, hno1, hb1⟩
        have HBW1 : Hid (Below w.heap.size w W1) := HBL.out.trans (hb1.mono hszr)
        clear hb1 hn1 hno1
        go_wp2_with fail
        go_ret3
        rw [HERR.out]
        exact spAns_none (HBW1.out.alloc HBW1.out.size _)
    · obtain rfl : k = len := by omega
      have HE : Hid (split zs = some D) := by
        refine (?_ : split zs = some D)
        rw [HSP.out, List.drop_eq_nil_of_le (by have := HB.out.1; omega), split_nil]
        simp
      clear HSP
      go_wp2_with fail
      go_ret3
      rw [HE.out]
      exact ⟨_, _, fs, rs, rfl, HST.out, HFF.out, HFR.out, HBL.out⟩
end Go.Proofs.YtfhmombnipfimaaGreatDoor
namespace Go.Proofs.YtfhmombnipfimaaGreatDoor
set_option linter.unusedVariables false
open Go.ChangeShapes Go.WideShapes Go.ChangeAt Go.RowKit

theorem fieldR : FieldType 136 128 := ⟨Tryz.underlying136, by kernel_rfl⟩
def slen : Value → Nat
  | .slice _ n _ => n
  | _ => 0
theorem spAnsR_none {e : TypeId} {w w' : World} (hb : Below w.heap.size w w') : SpAns e w w' (.returned (.tuple #[.slice none 0 0, .slice none 0 0, .int .i64 2])) none := ⟨rfl, hb⟩

set_option maxHeartbeats 4000000 in
theorem splitR_any (a : Option Addr) (len cap : Nat) (zs : List Int) (w : World) (hB : IsB w a len zs) (hlc : len ≤ cap) (hcm : cap ≤ 9223372036854775807) (hlm : len ≤ 2097152) :
    Calls Tryz.prog 80 #[.slice a len cap] w fun e w' => SpAns 128 w w' e (split zs) := by
  have HB : Hid (IsB w a len zs) := hB
  clear hB
  go_enter Tryz.func80, Tryz.ntmps80
  go_wp2_with fail
  go_loopw [0, 5, 6] (fun v0 v5 v6 wr => ∃ (ax : Option Addr) (l c : Nat) (ys : List Int) (fs : List FR) (rs : List Row3) (D : List (TF × List Int)), v0 = .slice ax l c ∧ IsB w ax l ys ∧ l ≤ c ∧ c ≤ cap ∧ l ≤ len ∧ SplSt wr w.heap.size 128 v5 v6 fs rs ∧ FitsF fs D ∧ FitsR rs D ∧ D.length + l ≤ len ∧ split zs = (split ys).map (D ++ ·) ∧ Below w.heap.size w wr) (fun v0 _ _ _ => slen v0)
  case atStart => exact ⟨a, len, cap, zs, [], [], [], rfl, HB.out, hlc, by omega, by omega, SplSt.nil _ _ _, FitsF.nil, FitsR.nil, by simp, by simp, Below.refl _ _⟩
  case round =>
    obtain ⟨ax, l, c, ys, fs, rs, D, rfl, hI, hl1, hc1, hl2, hst, hFF, hFR, hDk, hsp, hbel⟩ := hrel
    have HI : Hid (IsB w ax l ys) := hI
    have HST : Hid (SplSt wr w.heap.size 128 u5 u6 fs rs) := hst
    have HFF : Hid (FitsF fs D) := hFF
    have HFR : Hid (FitsR rs D) := hFR
    have HSP : Hid (split zs = (split ys).map (D ++ ·)) := hsp
    have HBL : Hid (Below w.heap.size w wr) := hbel
    have hszr := hbel.size
    have hfl : fs.length ≤ len := by have := hFF.len; omega
    have hrl : rs.length ≤ len := by have := hFR.len; omega
    clear hI hst hFF hFR hsp hbel
    by_cases hlt : 0 < l
    · have hzl := HI.out.1
      obtain ⟨b, off, _, rfl, _⟩ := isB_at HI.out hlt
      have hT := takeFieldR_len (some ⟨b, off, none⟩) l c ys wr (isB_old HI.out HBL.out) hl1 (by omega) (by omega)
      have hne : ys ≠ [] := by
        intro h
        rw [h] at hzl; simp at hzl; omega
      have hE := tf_e ys
      have HKE : Hid ((tf ys).e = 0 → 1 ≤ (tf ys).k ∧ (tf ys).k ≤ (l : Int)) := by
        intro h
        have := tf_k ys (fun z hz => isB_bytes HI.out z hz) h
        rw [hzl] at this
        exact this
      have HON : Hid ((tf ys).e = 0 → split zs = (split (ys.drop (tf ys).k.toNat)).map ((D ++ [(tf ys, ys.take (tf ys).k.toNat)]) ++ ·)) := by
        intro h
        rw [HSP.out, split_on _ (fun z hz => isB_bytes HI.out z hz) hne h]
        simp [Option.map_map, Function.comp_def]
      have HER : Hid ((tf ys).e ≠ 0 → split zs = none) := by
        intro h
        rw [HSP.out, split_err _ hne h]; rfl
      clear hzl hne HSP
      generalize tf ys = r at *
      obtain ⟨rnum, rty, rn, rd, rk, re⟩ := r
      have HT2 : Hid (Calls Tryz.prog 105 #[.slice (some ⟨b, off, none⟩) l c] wr fun e w' => ∃ a len cap, e = .returned (.tuple #[.agg #[.int .i64 rnum, .int .i64 rty, .int .u64 rn, .slice a len cap], .int .i64 rk, .int .i64 re]) ∧ NewB w' wr.heap.size a len rd ∧ NoA a len cap ∧ Below wr.heap.size wr w') := hT
      clear hT
      have hE0 : re = 0 ∨ re ≠ 0 := by omega
      clear hE
      rcases hE0 with rfl | hre
      · obtain ⟨hk1, hk2⟩ := HKE.out rfl
        have hON := HON.out rfl
        simp only [] at hk1 hk2 hON
        obtain ⟨q, rfl⟩ := Int.eq_ofNat_of_zero_le (show 0 ≤ rk by omega)
        rw [Int.toNat_natCast] at hON
        have HON2 : Hid (split zs = (split (ys.drop q)).map ((D ++ [((⟨rnum, rty, rn, rd, (q : Int), 0⟩ : TF), ys.take q)]) ++ ·)) := hON
        have HIq : Hid (∀ W, Below w.heap.size w W → IsB W (some ⟨b, off, none⟩) q (ys.take q)) := by
          intro W hW
          exact isB_take (isB_old HI.out hW) q (by omega)
        have HQB : Hid (∀ z ∈ ys.take q, 0 ≤ z ∧ z ≤ 255) := fun z hz => isB_bytes HI.out z (List.mem_of_mem_take hz)
        have HQL : Hid ((ys.take q).length = q) := by
          refine (?_ : (ys.take q).length = q)
          rw [List.length_take]; have := HI.out.1; omega
        clear HON HER HKE hON
        have hq1 : 1 ≤ q := by omega
        have hq2 : q ≤ l := by omega
        have hq3 : (q : Int) ≤ (c : Int) := by omega
        have hq4 : (0 : Int) ≤ (q : Int) := by omega
        clear hk1 hk2
        go_wp2_with fail
        refine HT2.out.mono ?_
        rintro e W1 ⟨a1, len1, cap1, rfl, hn1, hno1, hb1⟩
        have hoF := owns_lt HST.out.ownF
        have hoR := owns_lt HST.out.ownR
        have hfar : FarB W1 u5.ownBlock u6.ownBlock a1 len1 rd := FarB.of_new hn1 (fun k hk => (hoF k hk).1) (fun k hk => (hoR k hk).1)
        have hst1 := HST.out.old hb1
        have hbW1 : Below w.heap.size w W1 := HBL.out.trans (hb1.mono hszr)
        have hzW1 := hbW1.size
        go_wp2_with fail
        generalize hV : W1.alloc (.cells #[.int .i64 rnum, .int .i64 rty, .int .u64 rn, .slice a1 len1 cap1] 128) = V
        have hab : Below W1.heap.size W1 V := by rw [← hV]; exact (Below.refl _ _).alloc (Nat.le_refl _) _
        have HSV : Hid (SplSt V w.heap.size 128 u5 u6 fs rs) := hst1.old hab
        have HFV : Hid (FarB V u5.ownBlock u6.ownBlock a1 len1 rd) := hfar.old hab
        have HBV : Hid (Below w.heap.size w V) := hbW1.trans (hab.mono hzW1)
        have hzV := HBV.out.size
        have hV1 : W1.heap.size < V.heap.size := by rw [← hV]; simp
        have f0 : V.cell? ⟨W1.heap.size, 0, none⟩ = some (.int .i64 rnum) := by rw [← hV]; simp
        have f1 : V.cell? ⟨W1.heap.size, 1, none⟩ = some (.int .i64 rty) := by rw [← hV]; simp
        have f2 : V.cell? ⟨W1.heap.size, 2, none⟩ = some (.int .u64 rn) := by rw [← hV]; simp
        have f3 : V.cell? ⟨W1.heap.size, 3, none⟩ = some (.slice a1 len1 cap1) := by rw [← hV]; simp
        have HNO1 : Hid (NoA a1 len1 cap1) := hno1
        clear hV hab hn1 hno1 hb1 hoF hoR hfar hst1 hbW1 HT2 HST HBL
        go_region_law (first
          | (refine stepS_F rfl (.tmp 21) (.tmp 23) 136 128 rfl fieldR w.heap.size u5 u6 fs rs rfl (HSV.out.old (by go_grown)) ⟨rnum, rty, rn, a1, len1, cap1, rd⟩ (HFV.out.old (by go_grown)) _ 1 rfl (by intro j u hj; rw [add_off]; (rcases j with _ | _ | _ | _ | j) <;> simp [FR.cells] at hj <;> (subst hj; simp)) (by simp; omega) (by omega) ?_; intro v3 W3 hst3 hb3 hg3; have hbW3 : Below w.heap.size w W3 := HBV.out.trans (((show Below V.heap.size V _ from by go_grown).mono hzV).trans hb3); have hz3 := hbW3.size)
          | (refine stepE_append rfl (.tmp 26) (.tmp 29) rfl W3.heap.size (.slice (some ⟨_, 0, none⟩) 0 0) [] rfl (.inr ⟨rfl, _, rfl⟩) (some ⟨b, off, none⟩) q c (ys.take q) rfl (by first | exact HIq.out _ hbW3 | exact HIq.out _ (hbW3.alloc hz3 _)) (by simp) (by simp; omega) (by simp) ?_; intro v4 W4 hown4 hb4; simp only [List.nil_append] at hown4; have hb34 : Below W3.heap.size W3 W4 := (by first | exact hb4 | exact ((Below.refl _ _).alloc (Nat.le_refl _) _).trans hb4); obtain ⟨a4, c4, rfl, hno4, hstb⟩ := ownE_isB hown4 HQB.out (by rw [HQL.out]; omega); rw [HQL.out] at hno4 hstb ⊢; have hn4 := stable_newB hstb; have hst4 := hst3.old hb34; have hoF := owns_lt hst3.ownF; have hoR := owns_lt hst3.ownR; have hfar4 : FarB W4 v3.ownBlock u6.ownBlock a4 q (ys.take q) := FarB.of_new hn4 (fun k hk => (hoF k hk).1) (fun k hk => (hoR k hk).1); have hbW4 : Below w.heap.size w W4 := hbW3.trans (hb34.mono hz3); have hz4 := hbW4.size)
          | (refine stepS_R rfl (.tmp 25) (.tmp 31) 128 rfl w.heap.size v3 u6 _ rs rfl (hst4.old (by go_grown)) ⟨a4, q, c4, ys.take q⟩ (hfar4.old (by go_grown)) _ 1 rfl (by rw [add_off]; simp [Row3.val]) (by simp; omega) (by omega) ?_; intro v5 W5 hst5 hb5; have hbW5 : Below w.heap.size w W5 := (hbW4.alloc hz4 _).trans hb5))
        all_goals
          have HST5 : Hid (SplSt W5 w.heap.size 128 v3 v5 (fs ++ [⟨rnum, rty, rn, a1, len1, cap1, rd⟩]) (rs ++ [⟨a4, q, c4, ys.take q⟩])) := hst5
          have HBW5 : Hid (Below w.heap.size w W5) := hbW5
          have HNO4 : Hid (NoA a4 q c4) := hno4
          clear hst5 hbW5 hb5 hst4 hst3 hfar4 hoF hoR hn4 hstb hno4 hb34 hbW3 hbW4 hown4 hb4 hg3 hb3 HSV HFV HBV f0 f1 f2 f3
          go_wp2_with fail
          all_goals
            go_roundw
            case rel =>
              obtain ⟨hf1, hf2⟩ := fits_snoc HFF.out HFR.out ⟨rnum, rty, rn, a1, len1, cap1, rd⟩ ⟨a4, q, c4, ys.take q⟩ ((⟨rnum, rty, rn, rd, (q : Int), 0⟩ : TF), ys.take q) rfl rfl HNO1.out HNO4.out
              refine ⟨_, l - q, c - q, ys.drop q, _, _, _, rfl, ?_, by omega, by omega, by omega, HST5.out, hf1, hf2, by simp; omega, HON2.out, HBW5.out⟩
              have hcut := isB_cut HI.out hl1 q hq2
              by_cases hcq : c = q
              · rw [if_pos hcq]
                rw [hcq, cutAt_end] at hcut
                exact hcut
              · rw [if_neg hcq]
                rw [cutAt_in hcq] at hcut
                exact hcut
            case measure => simp [slen]; omega
      · have hER := HER.out (by simpa using hre)
        have HERR : Hid (split zs = none) := hER
        have hE2 : (re == 0) = false := by simpa using hre
        clear HER HON HKE hER
        go_wp2_with fail
        refine HT2.out.mono ?_
        rintro e W1 ⟨a1, len1, cap1, rfl, hn1, hno1, hb1⟩
        have HBW1 : Hid (Below w.heap.size w W1) := HBL.out.trans (hb1.mono hszr)
        clear hb1 hn1 hno1
        go_wp2_with fail
        go_ret3
        rw [HERR.out]
        exact spAnsR_none (HBW1.out.alloc HBW1.out.size _)
    · obtain rfl : l = 0 := by omega
      have HE : Hid (split zs = some D) := by
        refine (?_ : split zs = some D)
        rw [HSP.out, List.eq_nil_of_length_eq_zero HI.out.1, split_nil]
        simp
      clear HSP
      go_wp2_with fail
      go_ret3
      rw [HE.out]
      exact ⟨_, _, fs, rs, rfl, HST.out, HFF.out, HFR.out, HBL.out⟩
end Go.Proofs.YtfhmombnipfimaaGreatDoor
namespace Go.Proofs.YtfhmombnipfimaaGreatDoor
set_option linter.unusedVariables false
open Go.ChangeShapes Go.WideShapes Go.ChangeAt Go.RowKit

theorem cells_at : ∀ (fs : List FR) (k j : Nat) (f : FR), fs[k]? = some f → j < 4 → (fs.flatMap FR.cells)[k * 4 + j]? = f.cells[j]?
  | [], k, j, f, h, _ => by simp at h
  | f0 :: fs, 0, j, f, h, hj => by
    simp at h
    subst h
    rw [List.flatMap_cons, Nat.zero_mul, Nat.zero_add, List.getElem?_append_left (by simp [FR.cells]; omega)]
  | f0 :: fs, k + 1, j, f, h, hj => by
    have h' : fs[k]? = some f := by simpa using h
    rw [List.flatMap_cons, List.getElem?_append_right (by simp [FR.cells]; omega)]
    rw [show (k + 1) * 4 + j - f0.cells.length = k * 4 + j by simp [FR.cells]; omega]
    exact cells_at fs k j f h' hj
theorem owns_slice {w : World} {base : Nat} {e : TypeId} {size : Nat} {v : Value} {n : Nat} {xs : List Value} (h : w.ownsRow base e size v n xs) :
    ∃ a c, v = .slice a n c ∧ n ≤ c ∧ (n = 0 ∨ ∃ g, a = some ⟨g, 0, none⟩ ∧ ∀ j u, j < n * size → xs[j]? = some u → w.cell? ⟨g, j, none⟩ = some u) := by
  obtain ⟨h1, ⟨rfl, rfl⟩ | ⟨g, cap, cur, rfl, hg, hh, h3, h4, h5, h6⟩⟩ := h
  · exact ⟨none, 0, rfl, Nat.le_refl _, .inl rfl⟩
  · refine ⟨_, cap, rfl, h3, .inr ⟨g, rfl, fun j u hj hu => ?_⟩⟩
    have : cur.toList[j]? = some u := by
      have h7 : (cur.toList.take (n * size))[j]? = some u := by rw [h6]; exact hu
      rw [List.getElem?_take, if_pos hj] at h7
      exact h7
    simp only [World.cell?, hh]
    simpa using this
theorem st_shapes {w : World} {B : Nat} {e : TypeId} {vF vR : Value} {fs : List FR} {rs : List Row3} (h : SplSt w B e vF vR fs rs) :
    ∃ aF cF aR cR, vF = .slice aF fs.length cF ∧ vR = .slice aR rs.length cR ∧ fs.length ≤ cF ∧ rs.length ≤ cR ∧
      (∀ k f, fs[k]? = some f → ∃ g, aF = some ⟨g, 0, none⟩ ∧ w.cell? ⟨g, k * 4, none⟩ = some (.int .i64 f.num) ∧ w.cell? ⟨g, k * 4 + 1, none⟩ = some (.int .i64 f.ty) ∧ w.cell? ⟨g, k * 4 + 2, none⟩ = some (.int .u64 f.n) ∧ w.cell? ⟨g, k * 4 + 3, none⟩ = some (.slice f.a f.len f.cap) ∧ IsB w f.a f.len f.d ∧ g < w.heap.size) ∧
      (∀ k r, rs[k]? = some r → ∃ g, aR = some ⟨g, 0, none⟩ ∧ w.cell? ⟨g, k, none⟩ = some (.slice r.a r.len r.cap) ∧ IsB w r.a r.len r.zs ∧ g < w.heap.size) := by
  obtain ⟨aF, cF, hF, hlF, hcF⟩ := owns_slice h.ownF
  obtain ⟨aR, cR, hR, hlR, hcR⟩ := owns_slice h.ownR
  refine ⟨aF, cF, aR, cR, hF, hR, hlF, hlR, ?_, ?_⟩
  · intro k f hk
    have hlt : k < fs.length := (List.getElem?_eq_some_iff.1 hk).1
    rcases hcF with h0 | ⟨g, rfl, hc⟩
    · omega
    · have c0 := hc (k * 4 + 0) _ (by omega) ((cells_at fs k 0 f hk (by omega)).trans rfl)
      have c1 := hc (k * 4 + 1) _ (by omega) ((cells_at fs k 1 f hk (by omega)).trans rfl)
      have c2 := hc (k * 4 + 2) _ (by omega) ((cells_at fs k 2 f hk (by omega)).trans rfl)
      have c3 := hc (k * 4 + 3) _ (by omega) ((cells_at fs k 3 f hk (by omega)).trans rfl)
      exact ⟨g, rfl, c0, c1, c2, c3, (h.farF f (List.mem_of_getElem? hk)).isB, cell_ltB c0⟩
  · intro k r hk
    have hlt : k < rs.length := (List.getElem?_eq_some_iff.1 hk).1
    rcases hcR with h0 | ⟨g, rfl, hc⟩
    · omega
    · have c0 := hc k (.slice r.a r.len r.cap) (by omega) (by rw [List.getElem?_map, hk]; rfl)
      exact ⟨g, rfl, c0, (h.farR r (List.mem_of_getElem? hk)).isB, cell_ltB c0⟩

theorem fits_at {fs : List FR} {D : List (TF × List Int)} (h : FitsF fs D) (k : Nat) (hk : k < D.length) : ∃ f p, fs[k]? = some f ∧ D[k]? = some p ∧ f.says = p.1.says := by
  have hl := h.len
  refine ⟨fs[k], D[k], List.getElem?_eq_getElem (by omega), List.getElem?_eq_getElem hk, ?_⟩
  have := congrArg (·[k]?) h.1
  simp only [List.getElem?_map, List.getElem?_eq_getElem hk, List.getElem?_eq_getElem (show k < fs.length by omega), Option.map_some] at this
  simpa using this
theorem spl_len : ∀ (n : Nat) (zs : List Int) (D : List (TF × List Int)), (∀ z ∈ zs, 0 ≤ z ∧ z ≤ 255) → spl n zs = some D → D.length ≤ zs.length
  | n, [], D, hb, h => by rw [spl_nil] at h; simp at h; subst h; simp
  | 0, z :: zs, D, hb, h => by simp [spl] at h
  | n + 1, z :: zs, D, hb, h => by
    by_cases he : (tf (z :: zs)).e = 0
    · rw [spl_on n _ (by simp) he] at h
      obtain ⟨D', h1, rfl⟩ := Option.map_eq_some_iff.1 h
      have hk := tf_k (z :: zs) hb he
      have := spl_len n _ D' (fun z hz => hb z (List.mem_of_mem_drop hz)) h1
      rw [List.length_drop] at this
      simp only [List.length_cons] at *
      omega
    · rw [spl_err _ _ (by simp) he] at h; simp at h
end Go.Proofs.YtfhmombnipfimaaGreatDoor
