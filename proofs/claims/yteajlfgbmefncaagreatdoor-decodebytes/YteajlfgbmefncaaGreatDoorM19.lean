/-
  The walk over the document's own Split: of any bytes (at most 2^21) it answers what 'split' says, and makes new memory alone.
  The walks over fields' bytes of which none is known: the program's noneKnown, the document's unknown.
  The walks over the program's contents, single and wireFields.
  The walk over the program's wireFields.
  The walk over the program's messageBytes: a message's bytes.
-/
import Derived.Test.YteajlfgbmefncaaGreatDoorM5
import Derived.Handy
import Derived.Deep.RegionLaw
import Derived.Test.YteajlfgbmefncaaGreatDoorM10
import Derived.Test.YteajlfgbmefncaaGreatDoorM18
import Derived.Test.YteajlfgbmefncaaGreatDoorM8
import Derived.Lib.ConvBytes
import Derived.Lib.AtoiErrMem
import Derived.BigQuiet
import Derived.Deep.RegionHeldLaw
import Derived.Deep.Cut
import Derived.Deep.DeepCutAuto
import Derived.Test.YteajlfgbmefncaaGreatDoorM14
import Derived.Test.YteajlfgbmefncaaGreatDoorM16
import Derived.Lib.AppendStr
namespace Go.Proofs.YteajlfgbmefncaaGreatDoor
set_option linter.unusedVariables false
open Go.ChangeShapes Go.WideShapes Go.ChangeAt Go.RowKit

theorem fieldR : FieldType 100 106 := ⟨Tryz.underlying100, by kernel_rfl⟩
def slen : Value → Nat
  | .slice _ n _ => n
  | _ => 0
theorem spAnsR_none {e : TypeId} {w w' : World} (hb : Below w.heap.size w w') : SpAns e w w' (.returned (.tuple #[.slice none 0 0, .slice none 0 0, .int .i64 2])) none := ⟨rfl, hb⟩

set_option maxHeartbeats 4000000 in
theorem splitR_any (a : Option Addr) (len cap : Nat) (zs : List Int) (w : World) (hB : IsB w a len zs) (hlc : len ≤ cap) (hcm : cap ≤ 9223372036854775807) (hlm : len ≤ 2097152) :
    Calls Tryz.prog 38 #[.slice a len cap] w fun e w' => SpAns 106 w w' e (split zs) := by
  have HB : Hid (IsB w a len zs) := hB
  clear hB
  go_enter Tryz.func38, Tryz.ntmps38
  go_wp2_with fail
  go_loopw [0, 5, 6] (fun v0 v5 v6 wr => ∃ (ax : Option Addr) (l c : Nat) (ys : List Int) (fs : List FR) (rs : List Row3) (D : List (TF × List Int)), v0 = .slice ax l c ∧ IsB w ax l ys ∧ l ≤ c ∧ c ≤ cap ∧ l ≤ len ∧ SplSt wr w.heap.size 106 v5 v6 fs rs ∧ FitsF fs D ∧ FitsR rs D ∧ D.length + l ≤ len ∧ split zs = (split ys).map (D ++ ·) ∧ Below w.heap.size w wr) (fun v0 _ _ _ => slen v0)
  case atStart => exact ⟨a, len, cap, zs, [], [], [], rfl, HB.out, hlc, by omega, by omega, SplSt.nil _ _ _, FitsF.nil, FitsR.nil, by simp, by simp, Below.refl _ _⟩
  case round =>
    obtain ⟨ax, l, c, ys, fs, rs, D, rfl, hI, hl1, hc1, hl2, hst, hFF, hFR, hDk, hsp, hbel⟩ := hrel
    have HI : Hid (IsB w ax l ys) := hI
    have HST : Hid (SplSt wr w.heap.size 106 u5 u6 fs rs) := hst
    have HFF : Hid (FitsF fs D) := hFF
    have HFR : Hid (FitsR rs D) := hFR
    have HSP : Hid (split zs = (split ys).map (D ++ ·)) := hsp
    have HBL : Hid (Below w.heap.size w wr) := hbel
    have hszr := hbel.size
    have hfl : fs.length ≤ len := by have := hFF.len; omega
    have hrl : rs.length ≤ len := by have := hFR.len; omega
    clear hI hst hFF hFR hsp hbel
    by_cases hlt : 0 < l
    · have hzl := HI.out.1
      obtain ⟨b, off, _, rfl, _⟩ := isB_at HI.out hlt
      have hT := takeFieldR_len (some ⟨b, off, none⟩) l c ys wr (isB_old HI.out HBL.out) hl1 (by omega) (by omega)
      have hne : ys ≠ [] := by
        intro h
        rw [h] at hzl; simp at hzl; omega
      have hE := tf_e ys
      have HKE : Hid ((tf ys).e = 0 → 1 ≤ (tf ys).k ∧ (tf ys).k ≤ (l : Int)) := by
        intro h
        have := tf_k ys (fun z hz => isB_bytes HI.out z hz) h
        rw [hzl] at this
        exact this
      have HON : Hid ((tf ys).e = 0 → split zs = (split (ys.drop (tf ys).k.toNat)).map ((D ++ [(tf ys, ys.take (tf ys).k.toNat)]) ++ ·)) := by
        intro h
        rw [HSP.out, split_on _ (fun z hz => isB_bytes HI.out z hz) hne h]
        simp [Option.map_map, Function.comp_def]
      have HER : Hid ((tf ys).e ≠ 0 → split zs = none) := by
        intro h
        rw [HSP.out, split_err _ hne h]; rfl
      clear hzl hne HSP
      generalize tf ys = r at *
      obtain ⟨rnum, rty, rn, rd, rk, re⟩ := r
      have HT2 : Hid (Calls Tryz.prog 64 #[.slice (some ⟨b, off, none⟩) l c] wr fun e w' => ∃ a len cap, e = .returned (.tuple #[.agg #[.int .i64 rnum, .int .i64 rty, .int .u64 rn, .slice a len cap], .int .i64 rk, .int .i64 re]) ∧ NewB w' wr.heap.size a len rd ∧ NoA a len cap ∧ Below wr.heap.size wr w') := hT
      clear hT
      have hE0 : re = 0 ∨ re ≠ 0 := by omega
      clear hE
      rcases hE0 with rfl | hre
      · obtain ⟨hk1, hk2⟩ := HKE.out rfl
        have hON := HON.out rfl
        simp only [] at hk1 hk2 hON
        obtain ⟨q, rfl⟩ := Int.eq_ofNat_of_zero_le (show 0 ≤ rk by omega)
        rw [Int.toNat_natCast] at hON
        have HON2 : Hid (split zs = (split (ys.drop q)).map ((D ++ [((⟨rnum, rty, rn, rd, (q : Int), 0⟩ : TF), ys.take q)]) ++ ·)) := hON
        have HIq : Hid (∀ W, Below w.heap.size w W → IsB W (some ⟨b, off, none⟩) q (ys.take q)) := by
          intro W hW
          exact isB_take (isB_old HI.out hW) q (by omega)
        have HQB : Hid (∀ z ∈ ys.take q, 0 ≤ z ∧ z ≤ 255) := fun z hz => isB_bytes HI.out z (List.mem_of_mem_take hz)
        have HQL : Hid ((ys.take q).length = q) := by
          refine (?_ : (ys.take q).length = q)
          rw [List.length_take]; have := HI.out.1; omega
        clear HON HER HKE hON
        have hq1 : 1 ≤ q := by omega
        have hq2 : q ≤ l := by omega
        have hq3 : (q : Int) ≤ (c : Int) := by omega
        have hq4 : (0 : Int) ≤ (q : Int) := by omega
        clear hk1 hk2
        go_wp2_with fail
        refine HT2.out.mono ?_
        rintro e W1 ⟨a1, len1, cap1, rfl, hn1, hno1, hb1⟩
        have hoF := owns_lt HST.out.ownF
        have hoR := owns_lt HST.out.ownR
        have hfar : FarB W1 u5.ownBlock u6.ownBlock a1 len1 rd := FarB.of_new hn1 (fun k hk => (hoF k hk).1) (fun k hk => (hoR k hk).1)
        have hst1 := HST.out.old hb1
        have hbW1 : Below w.heap.size w W1 := HBL.out.trans (hb1.mono hszr)
        have hzW1 := hbW1.size
        go_wp2_with fail
        generalize hV : W1.alloc (.cells #[.int .i64 rnum, .int .i64 rty, .int .u64 rn, .slice a1 len1 cap1] 106) = V
        have hab : Below W1.heap.size W1 V := by rw [← hV]; exact (Below.refl _ _).alloc (Nat.le_refl _) _
        have HSV : Hid (SplSt V w.heap.size 106 u5 u6 fs rs) := hst1.old hab
        have HFV : Hid (FarB V u5.ownBlock u6.ownBlock a1 len1 rd) := hfar.old hab
        have HBV : Hid (Below w.heap.size w V) := hbW1.trans (hab.mono hzW1)
        have hzV := HBV.out.size
        have hV1 : W1.heap.size < V.heap.size := by rw [← hV]; simp
        have f0 : V.cell? ⟨W1.heap.size, 0, none⟩ = some (.int .i64 rnum) := by rw [← hV]; simp
        have f1 : V.cell? ⟨W1.heap.size, 1, none⟩ = some (.int .i64 rty) := by rw [← hV]; simp
        have f2 : V.cell? ⟨W1.heap.size, 2, none⟩ = some (.int .u64 rn) := by rw [← hV]; simp
        have f3 : V.cell? ⟨W1.heap.size, 3, none⟩ = some (.slice a1 len1 cap1) := by rw [← hV]; simp
        have HNO1 : Hid (NoA a1 len1 cap1) := hno1
        clear hV hab hn1 hno1 hb1 hoF hoR hfar hst1 hbW1 HT2 HST HBL
        go_region_law (first
          | (refine stepS_F rfl (.tmp 21) (.tmp 23) 100 106 rfl fieldR w.heap.size u5 u6 fs rs rfl (HSV.out.old (by go_grown)) ⟨rnum, rty, rn, a1, len1, cap1, rd⟩ (HFV.out.old (by go_grown)) _ 1 rfl (by intro j u hj; rw [add_off]; (rcases j with _ | _ | _ | _ | j) <;> simp [FR.cells] at hj <;> (subst hj; simp)) (by simp; omega) (by omega) ?_; intro v3 W3 hst3 hb3 hg3; have hbW3 : Below w.heap.size w W3 := HBV.out.trans (((show Below V.heap.size V _ from by go_grown).mono hzV).trans hb3); have hz3 := hbW3.size)
          | (refine stepE_append rfl (.tmp 26) (.tmp 29) rfl W3.heap.size (.slice (some ⟨_, 0, none⟩) 0 0) [] rfl (.inr ⟨rfl, _, rfl⟩) (some ⟨b, off, none⟩) q c (ys.take q) rfl (by first | exact HIq.out _ hbW3 | exact HIq.out _ (hbW3.alloc hz3 _)) (by simp) (by simp; omega) (by simp) ?_; intro v4 W4 hown4 hb4; simp only [List.nil_append] at hown4; have hb34 : Below W3.heap.size W3 W4 := (by first | exact hb4 | exact ((Below.refl _ _).alloc (Nat.le_refl _) _).trans hb4); obtain ⟨a4, c4, rfl, hno4, hstb⟩ := ownE_isB hown4 HQB.out (by rw [HQL.out]; omega); rw [HQL.out] at hno4 hstb ⊢; have hn4 := stable_newB hstb; have hst4 := hst3.old hb34; have hoF := owns_lt hst3.ownF; have hoR := owns_lt hst3.ownR; have hfar4 : FarB W4 v3.ownBlock u6.ownBlock a4 q (ys.take q) := FarB.of_new hn4 (fun k hk => (hoF k hk).1) (fun k hk => (hoR k hk).1); have hbW4 : Below w.heap.size w W4 := hbW3.trans (hb34.mono hz3); have hz4 := hbW4.size)
          | (refine stepS_R rfl (.tmp 25) (.tmp 31) 106 rfl w.heap.size v3 u6 _ rs rfl (hst4.old (by go_grown)) ⟨a4, q, c4, ys.take q⟩ (hfar4.old (by go_grown)) _ 1 rfl (by rw [add_off]; simp [Row3.val]) (by simp; omega) (by omega) ?_; intro v5 W5 hst5 hb5; have hbW5 : Below w.heap.size w W5 := (hbW4.alloc hz4 _).trans hb5))
        all_goals
          have HST5 : Hid (SplSt W5 w.heap.size 106 v3 v5 (fs ++ [⟨rnum, rty, rn, a1, len1, cap1, rd⟩]) (rs ++ [⟨a4, q, c4, ys.take q⟩])) := hst5
          have HBW5 : Hid (Below w.heap.size w W5) := hbW5
          have HNO4 : Hid (NoA a4 q c4) := hno4
          clear hst5 hbW5 hb5 hst4 hst3 hfar4 hoF hoR hn4 hstb hno4 hb34 hbW3 hbW4 hown4 hb4 hg3 hb3 HSV HFV HBV f0 f1 f2 f3
          go_wp2_with fail
          all_goals
            go_roundw
            case rel =>
              obtain ⟨hf1, hf2⟩ := fits_snoc HFF.out HFR.out ⟨rnum, rty, rn, a1, len1, cap1, rd⟩ ⟨a4, q, c4, ys.take q⟩ ((⟨rnum, rty, rn, rd, (q : Int), 0⟩ : TF), ys.take q) rfl rfl HNO1.out HNO4.out
              refine ⟨_, l - q, c - q, ys.drop q, _, _, _, rfl, ?_, by omega, by omega, by omega, HST5.out, hf1, hf2, by simp; omega, HON2.out, HBW5.out⟩
              have hcut := isB_cut HI.out hl1 q hq2
              by_cases hcq : c = q
              · rw [if_pos hcq]
                rw [hcq, cutAt_end] at hcut
                exact hcut
              · rw [if_neg hcq]
                rw [cutAt_in hcq] at hcut
                exact hcut
            case measure => simp [slen]; omega
      · have hER := HER.out (by simpa using hre)
        have HERR : Hid (split zs = none) := hER
        have hE2 : (re == 0) = false := by simpa using hre
        clear HER HON HKE hER
        go_wp2_with fail
        refine HT2.out.mono ?_
        rintro e W1 ⟨a1, len1, cap1, rfl, hn1, hno1, hb1⟩
        have HBW1 : Hid (Below w.heap.size w W1) := HBL.out.trans (hb1.mono hszr)
        clear hb1 hn1 hno1
        go_wp2_with fail
        go_ret3
        rw [HERR.out]
        exact spAnsR_none (HBW1.out.alloc HBW1.out.size _)
    · obtain rfl : l = 0 := by omega
      have HE : Hid (split zs = some D) := by
        refine (?_ : split zs = some D)
        rw [HSP.out, List.eq_nil_of_length_eq_zero HI.out.1, split_nil]
        simp
      clear HSP
      go_wp2_with fail
      go_ret3
      rw [HE.out]
      exact ⟨_, _, fs, rs, rfl, HST.out, HFF.out, HFR.out, HBL.out⟩
end Go.Proofs.YteajlfgbmefncaaGreatDoor
namespace Go.Proofs.YteajlfgbmefncaaGreatDoor
set_option linter.unusedVariables false
open Go.ChangeShapes Go.WideShapes Go.ChangeAt Go.RowKit

/-- a text's bytes, in memory of their own -/
theorem conv_bytes (w : World) (l : List UInt8) (hl : l.length ≤ 100000) : ∃ W c, (convert 9 27 (.string (mkB l))).run Tryz.prog w = .ok (.slice (some ⟨w.heap.size, 0, none⟩) l.length c) W ∧ l.length ≤ c ∧ c ≤ 9223372036854775807 ∧ IsB W (some ⟨w.heap.size, 0, none⟩) l.length (ints l) ∧ Below w.heap.size w W ∧ W.heap.size = w.heap.size + 1 := by
  have hr := Lib.run_convert_string_bytes (P := Tryz.prog) w 9 27 5 (mkB l) (u := .string) Tryz.underlying9 Tryz.underlying27 Tryz.underlying5
  have hs : (mkB l).size = l.length := mkB_size l
  have hd : (mkB l).data.toList = l := by simp [mkB]
  refine ⟨_, _, by rw [hs] at hr; exact hr, by have := grownCap_ge w l.length 0 5; exact this, by have := grownCap_le_maxLen w l.length 0 5 (by unfold maxLen; omega); unfold maxLen at this; omega, ⟨ints_len l, by omega, ?_⟩, ?_, Lib.bytesWorld_size _ _ _⟩
  · by_cases h0 : l = []
    · left; subst h0; rfl
    · right
      refine ⟨_, _, rfl, fun j z hj => ?_, ints_ok l⟩
      have hjl : j < l.length := by have := (List.getElem?_eq_some_iff.1 hj).1; rw [ints_len] at this; exact this
      have := Lib.bytesWorld_cell w 5 (mkB l) j (by omega)
      rw [Nat.zero_add, this, hd]
      unfold ints at hj
      rw [List.getElem?_map, List.getElem?_eq_getElem hjl] at hj
      simp only [Option.map_some, Option.some.injEq] at hj
      rw [← hj, List.getD_eq_getElem?_getD, List.getElem?_eq_getElem hjl]; rfl
  · exact Lib.bytesWorld_below _ _ _
set_option maxHeartbeats 16000000 in
set_option maxRecDepth 20000 in
theorem noneP_any (nm : List UInt8) (fa : Option Addr) (n fc : Nat) (fs : List FD) (s : List UInt8) (w : World) (hn : fs.length = n) (hl : n ≤ 100000) (hs : s.length ≤ 100000) (hH : RowsIn w (fun b => b < w.heap.size) 5 fdrow (.slice fa n fc) fs) :
    Calls Tryz.prog 86 #[.agg #[.string (mkB nm), .slice fa n fc], .string (mkB s)] w fun e w' => e = .returned (.bool (noneOf (knownP fs) s)) ∧ Below w.heap.size w w' := by
  obtain ⟨R, hR⟩ : ∃ R, noneOf (knownP fs) s = R := ⟨_, rfl⟩
  have HR := Lib.hid hR
  rw [hR]
  clear hR
  obtain ⟨Y, hY, hC, hb, hYs⟩ := box_new w #[.string (mkB nm), .slice fa n fc] 54
  obtain ⟨V, c, hconv, hlc, hcm, hI, hVb, hVs⟩ := conv_bytes Y s hs
  have HY := Lib.hid hY
  have HBV := Lib.hid (hb.trans (hVb.mono hb.size))
  have HCV : Hid (V.heap[w.heap.size]? = some (.cells #[.string (mkB nm), .slice fa n fc] 54 (0, 0))) := (hVb.block _ (by omega)).trans hC
  have hVl : w.heap.size + 1 ≤ V.heap.size := by omega
  have h := splitW_any (some ⟨Y.heap.size, 0, none⟩) s.length c (ints s) V hI hlc hcm (by omega)
  have HKN : Hid (∀ (num ty : Int) (W : World), Below w.heap.size w W → Calls Tryz.prog 53 #[.agg #[.string (mkB nm), .slice fa n fc], .int .i64 num, .int .i64 ty] W fun e w' => e = .returned (.bool (knownP fs num ty)) ∧ Below W.heap.size W w') := by
    refine (?_ : ∀ (num ty : Int) (W : World), _ → _)
    intro num ty W hW
    exact knownP_any nm fa n fc fs num ty W hn hl ((RowsIn.old hH fun b h => hW.block b h).more fun b h => by have := hW.size; omega)
  clear hn hH hC hY hb hYs hI hVb hVs hlc hcm
  go_enter Tryz.func86, Tryz.ntmps86
  go_upto_region 1 with fail
  rw [HY.out]
  go_wp2_with fail
  refine h.mono ?_
  intro e W1 hans
  clear h hconv
  cases hsp : split (ints s) with
  | none =>
    rw [hsp] at hans
    obtain ⟨rfl, hb1⟩ := hans
    have HB1 := Lib.hid (HBV.out.trans (hb1.mono HBV.out.size))
    have e : R = false := by rw [← HR.out]; unfold noneOf; rw [hsp]
    subst e
    clear hsp hb1
    go_wp2_with fail
    go_ret
    exact ⟨rfl, HB1.out⟩
  | some D =>
    rw [hsp] at hans
    obtain ⟨vF, vR, xs, rs, rfl, hst, hFF, hFR, hb1⟩ := hans
    obtain ⟨aF, cF, aR, cR, rfl, rfl, hlF, hlR, hcF, -⟩ := st_shapes hst
    have HB1 := Lib.hid (HBV.out.trans (hb1.mono HBV.out.size))
    have HC1 : Hid (W1.heap[w.heap.size]? = some (.cells #[.string (mkB nm), .slice fa n fc] 54 (0, 0))) := (hb1.block _ (by omega)).trans HCV.out
    have HCF := Lib.hid hcF
    have HFF := Lib.hid hFF
    have HRR : Hid (allB (atB D fun _ p => !knownP fs p.1.num p.1.ty) D.length = R) := by
      refine (?_ : _ = _)
      rw [← HR.out]; unfold noneOf allA; rw [hsp]
    obtain ⟨m, hm⟩ : ∃ m, xs.length = m := ⟨_, rfl⟩
    have HM : Hid (D.length = m) := by
      refine (?_ : _ = _)
      rw [← hm, hFF.len]
    have hmb : m ≤ 100000 := by
      have h1 := spl_len _ _ D (ints_ok s) hsp
      rw [ints_len] at h1
      have := HM.out
      omega
    rw [hm] at hlF ⊢
    have HMX := Lib.hid hm
    have h1s : w.heap.size + 1 ≤ W1.heap.size := by have := hb1.size; omega
    clear hst hFF hFR hb1 hcF hsp hm hlR HR HBV HCV hVl
    go_wp2_with fail
    go_loopw [21] (fun i wr => ∃ (k : Nat), i = .int .i64 (k : Int) ∧ k ≤ m ∧ allB (atB D fun _ p => !knownP fs p.1.num p.1.ty) k = true ∧ Below W1.heap.size W1 wr) (fun i _ => m - (intOf i).toNat)
    case atStart => exact ⟨0, rfl, Nat.zero_le _, rfl, Below.refl _ _⟩
    case round =>
      generalize wr = w1 at *
      obtain ⟨k, rfl, hk, hall, hbel⟩ := hrel
      have HBE := Lib.hid hbel
      have HA := Lib.hid hall
      have HBW := Lib.hid (HB1.out.trans (hbel.mono HB1.out.size))
      have hws := hbel.size
      by_cases hkn : k < m
      · obtain ⟨f, p, hf, hp, hsay⟩ := fits_at HFF.out k (by have := HM.out; omega)
        obtain ⟨g, hag, e0, e1, e2, e3, -, hg⟩ := HCF.out k f hf
        subst hag
        have e0 : w1.cell? ⟨g, k * 4, none⟩ = some (.int .i64 f.num) := by rw [hbel.cell hg]; exact e0
        have e1 : w1.cell? ⟨g, k * 4 + 1, none⟩ = some (.int .i64 f.ty) := by rw [hbel.cell hg]; exact e1
        have e2 : w1.cell? ⟨g, k * 4 + 2, none⟩ = some (.int .u64 f.n) := by rw [hbel.cell hg]; exact e2
        have e3 : w1.cell? ⟨g, k * 4 + 3, none⟩ = some (.slice f.a f.len f.cap) := by rw [hbel.cell hg]; exact e3
        have HKB : Hid (atB D (fun _ p => !knownP fs p.1.num p.1.ty) k = !knownP fs f.num f.ty) := by
          refine (?_ : _ = _)
          rw [atB_some hp]
          have h1 : f.num = p.1.num := congrArg (fun t => t.1) hsay
          have h2 : f.ty = p.1.ty := congrArg (fun t => t.2.1) hsay
          rw [h1, h2]
        have hk0 : (0 : Int) ≤ (k : Int) := by omega
        have hk1 : (k : Int) < (m : Int) := by omega
        have hwq : IntKind.i64.wrap ((k : Int) + 1) = (k : Int) + 1 := by rw [IntKind.wrap_i64]; omega
        have hc1 := (hbel.block _ (by omega)).trans HC1.out
        have hKn := HKN.out f.num f.ty
        obtain ⟨B, hB⟩ : ∃ B, knownP fs f.num f.ty = B := ⟨_, rfl⟩
        rw [hB] at HKB
        simp only [hB] at hKn
        clear hf hp hsay hbel hall hB
        obtain ⟨fnum, fty, fn, fa', flen, fcap, fd⟩ := f
        dsimp only at e0 e1 e2 e3 hKn
        have hC : (w1.alloc (.cells #[.int .i64 fnum, .int .i64 fty, .int .u64 fn, .slice fa' flen fcap] 123)).heap[w1.heap.size]? = some (.cells #[.int .i64 fnum, .int .i64 fty, .int .u64 fn, .slice fa' flen fcap] 123 (0, 0)) := alloc_heap_new _ _
        have hCb : Below w1.heap.size w1 (w1.alloc (.cells #[.int .i64 fnum, .int .i64 fty, .int .u64 fn, .slice fa' flen fcap] 123)) := (Below.refl _ w1).alloc (Nat.le_refl _) _
        go_upto_region 7 with fail
        generalize (w1.alloc (.cells #[.int .i64 fnum, .int .i64 fty, .int .u64 fn, .slice fa' flen fcap] 123)) = X at *
        have hBX := HBW.out.trans (hCb.mono (by omega))
        have HBX := Lib.hid hBX
        have HBX1 := Lib.hid (HBE.out.trans (hCb.mono hws))
        have l0 : X.cell? ⟨w1.heap.size, 0, none⟩ = some (.int .i64 fnum) := cell_at hC 0 rfl
        have l1 : X.cell? ⟨w1.heap.size, 1, none⟩ = some (.int .i64 fty) := cell_at hC 1 rfl
        have hcX := (hCb.block _ (by omega)).trans hc1
        have d0 : X.cell? ⟨w.heap.size, 0, none⟩ = some (.string (mkB nm)) := cell_at hcX 0 rfl
        have d1 : X.cell? ⟨w.heap.size, 1, none⟩ = some (.slice fa n fc) := cell_at hcX 1 rfl
        have h := hKn X hBX
        clear hC hCb hcX hc1 hKn hBX e0 e1 e2 e3
        go_wp2_with fail
        refine h.mono ?_
        rintro e W2 ⟨rfl, hb2⟩
        have HB2 := Lib.hid (HBX.out.trans (hb2.mono HBX.out.size))
        have HBR := Lib.hid (HBX1.out.trans (hb2.mono HBX1.out.size))
        clear hb2 h l0 l1 d0 d1
        cases B
        case true =>
          have e : R = false := by rw [← HRR.out]; exact allB_no HKB.out (by have := HM.out; omega)
          subst e
          go_wp2_with fail
          go_ret
          exact ⟨rfl, HB2.out⟩
        case false =>
          go_wp2_with fail
          go_roundw
          case rel => exact ⟨k + 1, by go_num, by omega, allB_step HA.out HKB.out, HBR.out⟩
          case measure => simp [intOf]; omega
      · have hkn' : ¬ (k : Int) < (m : Int) := by omega
        have e : R = true := by
          have hkk : k = D.length := by have := HM.out; omega
          rw [← HRR.out, ← hkk]; exact HA.out
        subst e
        go_wp2_with fail
        go_ret
        exact ⟨rfl, HBW.out⟩
end Go.Proofs.YteajlfgbmefncaaGreatDoor
namespace Go.Proofs.YteajlfgbmefncaaGreatDoor
set_option linter.unusedVariables false
open Go.ChangeShapes Go.WideShapes Go.ChangeAt Go.RowKit

/-- bytes, as a call answers them -/
def BAns (zs : List Int) (w : World) (e : Ending) (w' : World) : Prop := ∃ a c, e = .returned (.slice a zs.length c) ∧ BIn w' (fun b => w.heap.size ≤ b ∧ b < w'.heap.size) a c zs ∧ Below w.heap.size w w'
end Go.Proofs.YteajlfgbmefncaaGreatDoor
namespace Go.Proofs.YteajlfgbmefncaaGreatDoor
set_option linter.unusedVariables false
open Go.ChangeShapes Go.WideShapes Go.ChangeAt Go.RowKit

/-- fields of layer 2 in memory -/
def WfIn (w : World) (S : Nat → Prop) (v : Value) (l : List WF) : Prop := SlIn S 4 (fun x g o => ∃ a c, Cells w g o [.int .i64 x.num, .int .i64 x.ty, .int .u64 x.n, .slice a x.d.length c] ∧ BIn w S a c x.d) v l
theorem infoWF : (Tryz.prog.info? 123).map (fun i => (i.zero, i.size, i.bytes)) = some (some (.agg #[.int .i64 0, .int .i64 0, .int .u64 0, .slice none 0 0]), 4, 48) := by kernel_rfl
end Go.Proofs.YteajlfgbmefncaaGreatDoor
namespace Go.Proofs.YteajlfgbmefncaaGreatDoor
set_option linter.unusedVariables false
open Go.ChangeShapes Go.WideShapes Go.ChangeAt Go.RowKit

theorem flat_snocB {α β : Type} (g : α → List β) {l : List α} {k : Nat} {y : α} (h : l[k]? = some y) : (l.take (k + 1)).flatMap g = (l.take k).flatMap g ++ g y := by
  rw [show l.take (k + 1) = l.take k ++ [y] from take_snoc h, List.flatMap_append]
  simp
theorem wpB_at {w : World} {ops : Array Oper} {rest : List Oper} {o : Oper} {a : Act} {Q : Exit → Act → World → Prop} (hgd : o.guard = none) (s x : Operand)
    (ho : o.op = .call { callee := .builtin .append, args := #[s, x], argTypes := #[27, 27] })
    (base : Nat) (v : Value) (xs : List Int) (hs : a.eval s = v) (hown : OwnB w base v xs)
    (ao : Option Addr) (m c : Nat) (zs : List Int) (hx : a.eval x = .slice ao m c) (hB : IsB w ao m zs) (hno : ao = none → m = 0 ∧ c = 0)
    (hbd : xs.length + m ≤ 140737488355328) (hbase : base ≤ w.heap.size)
    (h : ∀ v' w', OwnB w' base v' (xs ++ zs) → w.grownBy w' v.ownBlock → (v'.ownBlock = v.ownBlock ∨ v'.ownBlock = some w.heap.size) → wpList Tryz.prog ops Q rest (a.put o.dst v') w') : wpList Tryz.prog ops Q (o :: rest) a w := by
  obtain ⟨i0, hi, hz0, hz1, hz2⟩ := info_parts info5B
  cases ao with
  | none =>
    obtain ⟨rfl, rfl⟩ := hno rfl
    have hz : zs = [] := List.eq_nil_of_length_eq_zero hB.1
    subst hz
    refine wpList_append_own_none hgd s x 27 ho base 5 i0 1 Tryz.underlying27 hi v _ _ hs hown hx (h v w (by simpa using hown) (World.grownBy.refl _ _) (.inl rfl))
  | some ad =>
    refine wpList_append_own_at w hgd s x 27 ho base 5 i0 (.int .u8 0) 1 1 Tryz.underlying27 hi hz0 hz1 hz2 rfl (by decide) v _ _ hs hown ad m c (zs.map (Value.int .u8)) hx (by simp [hB.1]) (isB_cells hB)
      (by intro u hu; simp at hu; obtain ⟨z, _, rfl⟩ := hu; rfl) (by unfold maxLen; omega) (by omega) hbase ?_
    intro v' w' h1 h2 _ h4
    refine h v' w' ?_ h2 h4
    unfold OwnB
    rw [List.length_append, hB.1, List.map_append]
    exact h1
end Go.Proofs.YteajlfgbmefncaaGreatDoor
