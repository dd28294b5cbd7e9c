/-
  The walks over the program's fitsMessage and Fits.
  The walks over the program's round of numbers.
-/
import Derived.Test.YteajlfgbmefncaaGreatDoorM20
import Derived.Test.YteajlfgbmefncaaGreatDoorM6
namespace Go.Proofs.YteajlfgbmefncaaGreatDoor
set_option linter.unusedVariables false
open Go.ChangeShapes Go.WideShapes Go.ChangeAt Go.RowKit

/-- the types of fields that are messages are there -/
def TyOK (ms : List MD) : Prop := ∀ m ∈ ms, m.fields.length ≤ 100000 ∧ ∀ x ∈ m.fields, x.kind = 10 → 0 ≤ x.type ∧ x.type < (ms.length : Int)
theorem prevF_step {fl : List (Int × List Nd)} {k : Nat} {y : Int × List Nd} (h : fl[k]? = some y) : prevF fl (k + 1) = y.1 := by rw [prevF, h]
set_option maxHeartbeats 32000000 in
set_option maxRecDepth 20000 in
theorem msgP_any (ma ea ta : Option Addr) (nm ne nt mc ec tc : Nat) (ms : List MD) (hnm : ms.length = nm) (hok : TyOK ms) : ∀ (f : Nat) (t dep : Int) (v : Value) (x : Nd) (w : World), Tabs w → 0 ≤ dep ∧ dep ≤ 100 → 0 ≤ t → t < (nm : Int) → HeldM w (fun b => b < w.heap.size) (.slice ma nm mc) ms → FitG 100000 10000 f x → HeldV w (fun b => b < w.heap.size) f v x →
    Calls Tryz.prog 56 #[.agg #[.slice ma nm mc, .slice ea ne ec, .slice ta nt tc], .int .i64 t, v, .int .i64 dep] w fun e w' => e = .returned (.bool (fitP ms f dep t x)) ∧ Below w.heap.size w w' := by
  intro f
  induction f using Nat.strongRecOn with
  | _ f ih =>
  intro t dep v x w hT hdep ht0 ht1 hHM hfit hHV
  obtain ⟨R, hR⟩ : ∃ R, fitP ms f dep t x = R := ⟨_, rfl⟩
  rw [hR]
  rw [fitP_eq] at hR
  have HR := Lib.hid hR
  clear hR
  obtain ⟨fs, rfl, hHG⟩ := hHV
  have tas := fun W => taMessage x fs W
  obtain ⟨v, hv⟩ : ∃ v, ival x fs = v := ⟨_, rfl⟩
  rw [hv] at tas ⊢
  clear hv
  obtain ⟨Y, hY, hC, hb, hYs⟩ := box_new w #[.slice ma nm mc, .slice ea ne ec, .slice ta nt tc] 26
  have HY := Lib.hid hY
  by_cases hk : x.kind = 7
  case neg =>
    rw [if_neg hk, decide_eq_false hk] at tas
    have e : R = false := by rw [← HR.out, topP, decide_eq_false (fun h => hk h.1)]; rfl
    subst e
    obtain ⟨V, hV, hD, hVb, hVs⟩ := box_new Y #[.int .i64 0, .slice none 0 0, .string ⟨#[]⟩] 76
    have HV := Lib.hid hV
    have HBV := Lib.hid (hb.trans (hVb.mono hb.size))
    clear hC hY hb hYs hV hD hVb hVs HR hHG hk ih
    go_enter Tryz.func56, Tryz.ntmps56
    go_upto_region 2 with fail
    rw [HY.out, HV.out]
    go_wp2_with fail
    go_ret
    exact ⟨rfl, HBV.out⟩
  rw [if_pos hk, decide_eq_true hk] at tas
  have hHG := hHG hk
  obtain ⟨xa, xc, rfl⟩ := HeldG.isSl hHG
  obtain ⟨xkind, xn, xu, xb, xs, xtype, fl⟩ := x
  dsimp only at hk hHG hfit tas
  have hxs := hfit.s
  dsimp only at hxs
  have HFIT := Lib.hid hfit
  have hRd : (decide (xtype = t ∧ dep ≤ 16) && (match ms[t.toNat]? with
    | none => false
    | some m => bodyP (recP ms dep f) m.fields ⟨xkind, xn, xu, xb, xs, xtype, fl⟩)) = R := by
    rw [← HR.out, topP]
    simp only [hk, true_and]
    rfl
  have HRD := Lib.hid hRd
  obtain ⟨n, hn⟩ : ∃ n, fl.length = n := ⟨_, rfl⟩
  have HN := Lib.hid hn
  rw [hn] at hHG tas
  have HHG := Lib.hid hHG
  obtain ⟨V, hV, hD, hVb, hVs⟩ := box_new Y #[.int .i64 xtype, .slice xa n xc, .string (mkB xs)] 76
  have HV := Lib.hid hV
  rw [hYs] at hD
  have hBV := hb.trans (hVb.mono hb.size)
  have HBV := Lib.hid hBV
  have hCV := (hVb.block _ (by omega)).trans hC
  have HCV := Lib.hid hCV
  have HDV := Lib.hid hD
  have hVl : w.heap.size + 2 ≤ V.heap.size := by omega
  have m0 : V.cell? ⟨w.heap.size + 1, 0, none⟩ = some (.int .i64 xtype) := cell_at hD 0 rfl
  have m1 : V.cell? ⟨w.heap.size + 1, 1, none⟩ = some (.slice xa n xc) := cell_at hD 1 rfl
  have HT := Lib.hid hT
  have HHM := Lib.hid hHM
  have HNM := Lib.hid hnm
  have HOK := Lib.hid hok
  have HIH := Lib.hid ih
  clear hC hY hb hYs hV hD hVb hVs HR hRd hHG hk hn hfit hBV hCV hT hHM hnm hok ih
  by_cases hty : xtype = t
  case neg =>
    have e : R = false := by rw [← HRD.out, decide_eq_false (fun h => hty h.1)]; rfl
    subst e
    have hty' : (xtype == t) = false := beq_eq_false_iff_ne.2 hty
    have hty2 : (xtype != t) = true := by rw [bne, hty']; rfl
    clear HRD HIH
    go_enter Tryz.func56, Tryz.ntmps56
    go_upto_region 2 with fail
    rw [HY.out, HV.out]
    go_wp2_with fail
    go_ret
    exact ⟨rfl, HBV.out⟩
  subst hty
  by_cases hd16 : dep ≤ 16
  case neg =>
    have e : R = false := by rw [← HRD.out, decide_eq_false (fun h => hd16 h.2)]; rfl
    subst e
    have hd2 : 16 < dep := by omega
    clear HRD HIH
    go_enter Tryz.func56, Tryz.ntmps56
    go_upto_region 2 with fail
    rw [HY.out, HV.out]
    go_wp2_with fail
    go_ret
    exact ⟨rfl, HBV.out⟩
  obtain ⟨q, hq⟩ : ∃ q : Nat, xtype = (q : Int) := ⟨xtype.toNat, by omega⟩
  subst hq
  have hqn : q < nm := by omega
  obtain ⟨m, hm⟩ : ∃ m, ms[q]? = some m := ⟨_, List.getElem?_eq_getElem (by have := HNM.out; omega)⟩
  have HRB : Hid ((allB (atB fl (fun k y => decide (prevF fl k < y.1) && fldP (recP ms dep f) m.fields y)) fl.length && noneOf (knownP m.fields) xs) = R) := by
    refine (?_ : _ = _)
    rw [← HRD.out, decide_eq_true ⟨rfl, hd16⟩]
    simp only [Int.toNat_natCast, hm, Bool.true_and]
    rfl
  have hmm := List.mem_of_getElem? hm
  obtain ⟨g, oo, c0, ka, kc, hsl, hg, e0, e1, hrow⟩ := HeldN.at HHM.out (W := V) (fun b hb => HBV.out.block b hb) hm
  rw [HNM.out] at hsl
  obtain ⟨rfl, rfl⟩ := slice_two hsl
  obtain ⟨hml, hmt⟩ := HOK.out m hmm
  obtain ⟨mname, mfs⟩ := m
  dsimp only at hrow e0 e1 hml hmt HRB
  obtain ⟨nf, hnf⟩ : ∃ n, mfs.length = n := ⟨_, rfl⟩
  have HNF := Lib.hid hnf
  rw [hnf] at hrow e1 hml
  have HROW := Lib.hid hrow
  have HMT := Lib.hid hmt
  have s0 : V.cell? ⟨w.heap.size, 0, none⟩ = some (.slice (some ⟨g, oo, none⟩) nm mc) := cell_at HCV.out 0 rfl
  have hq0 : (0 : Int) ≤ (q : Int) := by omega
  have hq1 : (q : Int) < (nm : Int) := by omega
  have hd17 : ¬ (16 : Int) < dep := by omega
  clear hsl hrow hnf hm hmm hmt HRD hqn ht0 ht1
  go_enter Tryz.func56, Tryz.ntmps56
  go_upto_region 2 with fail
  rw [HY.out, HV.out]
  have hC : (V.alloc (.cells #[.string (mkB mname), .slice ka nf kc] 54)).heap[V.heap.size]? = some (.cells #[.string (mkB mname), .slice ka nf kc] 54 (0, 0)) := alloc_heap_new _ _
  have hCb : Below V.heap.size V (V.alloc (.cells #[.string (mkB mname), .slice ka nf kc] 54)) := (Below.refl _ V).alloc (Nat.le_refl _) _
  go_upto_region 6 with fail
  generalize (V.alloc (.cells #[.string (mkB mname), .slice ka nf kc] 54)) = X at *
  have HBX := Lib.hid (HBV.out.trans (hCb.mono (by omega)))
  have HX := Lib.hid hC
  have hXs : V.heap.size + 1 ≤ X.heap.size := by have := (Array.getElem?_eq_some_iff.1 hC).1; omega
  have HCX : Hid (X.heap[w.heap.size]? = _) := (hCb.block _ (by omega)).trans HCV.out
  have HDX : Hid (X.heap[w.heap.size + 1]? = _) := (hCb.block _ (by omega)).trans HDV.out
  have HRX : Hid (RowsIn X (fun b => b < w.heap.size) 5 fdrow (.slice ka nf kc) mfs) := RowsIn.old HROW.out fun b hb => hCb.block b (by omega)
  have m1 : X.cell? ⟨w.heap.size + 1, 1, none⟩ = some (.slice xa n xc) := cell_at HDX.out 1 rfl
  clear hC hCb m0 s0 e0 e1 HCV HDV HROW
  go_wp2_with fail
  clear m1
  go_loopw [12, 40] (fun l i wr => ∃ (k : Nat), i = .int .i64 (k : Int) ∧ l = .int .i64 (prevF fl k) ∧ k ≤ n ∧ allB (atB fl (fun k y => decide (prevF fl k < y.1) && fldP (recP ms dep f) mfs y)) k = true ∧ Below X.heap.size X wr) (fun _ i _ => n - (intOf i).toNat)
  case atStart => exact ⟨0, rfl, rfl, Nat.zero_le _, rfl, Below.refl _ _⟩
  case round =>
    generalize wr = w1 at *
    obtain ⟨k, rfl, rfl, hkl, hall, hbel⟩ := hrel
    have HA := Lib.hid hall
    have hBw1 := HBX.out.trans (hbel.mono HBX.out.size)
    have HBE := Lib.hid hbel
    have HBw := Lib.hid hBw1
    have hws := hbel.size
    have hx1 := (hbel.block _ (by omega)).trans HX.out
    have HX1 := Lib.hid hx1
    by_cases hkn : k < n
    · obtain ⟨y, hy⟩ : ∃ y, fl[k]? = some y := ⟨_, List.getElem?_eq_getElem (by have := HN.out; omega)⟩
      obtain ⟨f', gg, go, gc, va, vc, hf', hsl, hgg, e0, e1, hvals⟩ := HeldG.at HHG.out (W := w1) (fun b hb => hBw1.block b hb) hy
      subst hf'
      rw [HN.out] at hsl
      obtain ⟨rfl, rfl⟩ := slice_two hsl
      have HKB : Hid (atB fl (fun k y => decide (prevF fl k < y.1) && fldP (recP ms dep (f' + 1)) mfs y) k = (decide (prevF fl k < y.1) && fldP (recP ms dep (f' + 1)) mfs y)) := atB_some hy
      have HPS : Hid (prevF fl (k + 1) = y.1) := prevF_step hy
      obtain ⟨hfl1, hfl2⟩ := HFIT.out.2.2 y (List.mem_of_getElem? hy)
      have hrow1 : RowsIn w1 (fun b => b < w1.heap.size) 5 fdrow (.slice ka nf kc) mfs := (RowsIn.old HRX.out fun b hb => hbel.block b (by have hb' : b < w.heap.size := hb; have := HBX.out.size; omega)).more fun b hb => by have hb' : b < w.heap.size := hb; have := hBw1.size; omega
      obtain ⟨ynum, ys⟩ := y
      dsimp only at hvals e0 e1 HKB HPS hfl1 hfl2
      obtain ⟨mv, hmv⟩ : ∃ n, ys.length = n := ⟨_, rfl⟩
      have HMV := Lib.hid hmv
      rw [hmv] at e1 hvals hfl1
      have HFL2 := Lib.hid hfl2
      have HVA := Lib.hid hvals
      have hn1 : n ≤ 10000 := by have h1 := HFIT.out.2.1; have h2 := HN.out; dsimp only at h1; omega
      have hk0 : (0 : Int) ≤ (k : Int) := by omega
      have hk1 : (k : Int) < (n : Int) := by omega
      have hwq : IntKind.i64.wrap ((k : Int) + 1) = (k : Int) + 1 := by rw [IntKind.wrap_i64]; omega
      have HROW1 := Lib.hid hrow1
      obtain ⟨p, hp⟩ : ∃ p, prevF fl k = p := ⟨_, rfl⟩
      rw [hp] at HKB ⊢
      clear hsl hy hgg hvals hmv hfl2 hbel hall hBw1 hx1 hrow1 hp
      have hC : (w1.alloc (.cells #[.int .i64 ynum, .slice va mv vc] 79)).heap[w1.heap.size]? = some (.cells #[.int .i64 ynum, .slice va mv vc] 79 (0, 0)) := alloc_heap_new _ _
      have hCb : Below w1.heap.size w1 (w1.alloc (.cells #[.int .i64 ynum, .slice va mv vc] 79)) := (Below.refl _ w1).alloc (Nat.le_refl _) _
      go_upto_region 9 with fail
      generalize (w1.alloc (.cells #[.int .i64 ynum, .slice va mv vc] 79)) = Z at *
      have hBZ := HBw.out.trans (hCb.mono HBw.out.size)
      have HBZ := Lib.hid hBZ
      have HBZ1 := Lib.hid (HBE.out.trans (hCb.mono hws))
      have HZ := Lib.hid hC
      have hZs : w1.heap.size + 1 ≤ Z.heap.size := by have := (Array.getElem?_eq_some_iff.1 hC).1; omega
      have z0 : Z.cell? ⟨w1.heap.size, 0, none⟩ = some (.int .i64 ynum) := cell_at hC 0 rfl
      by_cases hpn : p < ynum
      case neg =>
        have hpn2 : ynum ≤ p := by omega
        have e : R = false := by
          rw [← HRB.out, allB_no (j := k) (by rw [HKB.out, decide_eq_false hpn]; rfl) (by have := HN.out; omega)]; rfl
        subst e
        clear HKB HIH hC hCb e0 e1
        go_wp2_with fail
        go_ret
        exact ⟨rfl, HBZ.out⟩
      have hpn2 : ¬ ynum ≤ p := by omega
      rw [decide_eq_true hpn, Bool.true_and] at HKB
      have hcZ := ((HBE.out.trans (hCb.mono hws)).block _ (by omega)).trans HCX.out
      have hxZ := (hCb.block _ (by omega)).trans HX1.out
      have s0 : Z.cell? ⟨w.heap.size, 0, none⟩ = some (.slice _ nm mc) := cell_at hcZ 0 rfl
      have s1 : Z.cell? ⟨w.heap.size, 1, none⟩ = some (.slice ea ne ec) := cell_at hcZ 1 rfl
      have s2 : Z.cell? ⟨w.heap.size, 2, none⟩ = some (.slice ta nt tc) := cell_at hcZ 2 rfl
      have d0 : Z.cell? ⟨V.heap.size, 0, none⟩ = some (.string (mkB mname)) := cell_at hxZ 0 rfl
      have d1 : Z.cell? ⟨V.heap.size, 1, none⟩ = some (.slice ka nf kc) := cell_at hxZ 1 rfl
      have z1 : Z.cell? ⟨w1.heap.size, 1, none⟩ = some (.slice va mv vc) := cell_at hC 1 rfl
      have h := fldP_any (some ⟨g, oo, none⟩) ea ta nm ne nt mc ec tc mname ka nf kc mfs ynum va mv vc ys (recP ms dep (f' + 1)) f' dep Z (tabs_below HT.out hBZ) (by omega) HNF.out hml ((RowsIn.old HROW1.out fun b hb => hCb.block b hb).more fun b hb => by have hb' : b < w1.heap.size := hb; omega) HMV.out (by omega) (ValsG.mv (fun b hb => hBZ.block b hb) (fun b hb => by have hb' : b < w.heap.size := hb; have := hBZ.size; omega) HVA.out) (fun y hy => (HFL2.out y hy).s)
        (fun x v y W hx hx10 hy hW hv => HIH.out f' (by omega) x.type (dep + 1) v y W (tabs_below HT.out (hBZ.trans (hW.mono hBZ.size))) (by omega) (HMT.out x hx hx10).1 (by have := (HMT.out x hx hx10).2; rw [HNM.out] at this; exact this) ((HeldN.old HHM.out fun b hb => (hBZ.trans (hW.mono hBZ.size)).block b hb).more fun b hb => by have hb' : b < w.heap.size := hb; have := (hBZ.trans (hW.mono hBZ.size)).size; omega) (HFL2.out y hy) hv)
      obtain ⟨B, hB⟩ : ∃ B, fldP (recP ms dep (f' + 1)) mfs (ynum, ys) = B := ⟨_, rfl⟩
      rw [hB] at h HKB
      clear hC hCb hcZ hxZ hBZ hB hpn e0 e1
      go_wp2_with fail
      refine h.mono ?_
      rintro e W2 ⟨rfl, hb2⟩
      have HB2 := Lib.hid (HBZ.out.trans (hb2.mono HBZ.out.size))
      have HBR := Lib.hid (HBZ1.out.trans (hb2.mono HBZ1.out.size))
      have z0 : W2.cell? ⟨w1.heap.size, 0, none⟩ = some (.int .i64 ynum) := cell_at ((hb2.block _ (by omega)).trans HZ.out) 0 rfl
      clear hb2 h s0 s1 s2 d0 d1 z1
      cases B
      case false =>
        have e : R = false := by
          rw [← HRB.out, allB_no (j := k) HKB.out (by have := HN.out; omega)]; rfl
        subst e
        clear HKB HIH
        go_wp2_with fail
        go_ret
        exact ⟨rfl, HB2.out⟩
      case true =>
        rw [← HPS.out] at z0
        obtain ⟨p2, hp2⟩ : ∃ p, prevF fl (k + 1) = p := ⟨_, rfl⟩
        have HP2 := Lib.hid hp2
        rw [hp2] at z0
        clear hp2
        go_wp2_with fail
        go_roundw
        case rel => exact ⟨k + 1, by go_num, by rw [HP2.out], by omega, allB_step HA.out HKB.out, HBR.out⟩
        case measure => simp [intOf]; omega
    · have hkn' : ¬ (k : Int) < (n : Int) := by omega
      have HRE : Hid (noneOf (knownP mfs) xs = R) := by
        refine (?_ : _ = _)
        have hkk : fl.length = k := by have := HN.out; omega
        rw [← HRB.out, hkk, HA.out, Bool.true_and]
      have hrow1 : RowsIn w1 (fun b => b < w1.heap.size) 5 fdrow (.slice ka nf kc) mfs := (RowsIn.old HRX.out fun b hb => hbel.block b (by have hb' : b < w.heap.size := hb; have := HBX.out.size; omega)).more fun b hb => by have hb' : b < w.heap.size := hb; have := hBw1.size; omega
      have h := noneP_any mname ka nf kc mfs xs w1 HNF.out hml hxs hrow1
      rw [HRE.out] at h
      have hd1 := (hbel.block _ (by omega)).trans HDX.out
      have d0 : w1.cell? ⟨V.heap.size, 0, none⟩ = some (.string (mkB mname)) := cell_at hx1 0 rfl
      have d1 : w1.cell? ⟨V.heap.size, 1, none⟩ = some (.slice ka nf kc) := cell_at hx1 1 rfl
      have m2 : w1.cell? ⟨w.heap.size + 1, 2, none⟩ = some (.string (mkB xs)) := cell_at hd1 2 rfl
      clear hrow1 hbel hall hBw1 hx1 hd1 HIH HRB
      go_wp2_with fail
      refine h.mono ?_
      rintro e W2 ⟨rfl, hb2⟩
      have HB2 := Lib.hid (HBw.out.trans (hb2.mono HBw.out.size))
      clear hb2 h d0 d1 m2
      go_wp2_with fail
      go_ret
      exact ⟨rfl, HB2.out⟩
end Go.Proofs.YteajlfgbmefncaaGreatDoor
namespace Go.Proofs.YteajlfgbmefncaaGreatDoor
set_option linter.unusedVariables false
open Go.ChangeShapes Go.WideShapes Go.ChangeAt Go.RowKit Go.Maps

theorem fnP_any (n : Int) (w : World) : Calls Tryz.prog 73 #[.int .i64 n] w fun e w' => e = .returned (.bool (fnOK n)) ∧ w' = w := by
  obtain ⟨R, hR⟩ : ∃ r, fnOK n = r := ⟨_, rfl⟩
  have HR := Lib.hid hR
  rw [hR]
  clear hR
  by_cases h1 : (1 : Int) ≤ n
  · by_cases h2 : n ≤ 536870911
    · by_cases h3 : n < 19000
      · have HT : Hid (R = true) := by
          refine (?_ : _ = _)
          rw [← HR.out]; unfold fnOK; simp; omega
        go_enter Tryz.func73, Tryz.ntmps73
        go_wp2_with fail
        go_ret
        exact ⟨by rw [HT.out]; rfl, rfl⟩
      · by_cases h4 : 19999 < n
        · have HT : Hid (R = true) := by
            refine (?_ : _ = _)
            rw [← HR.out]; unfold fnOK; simp; omega
          go_enter Tryz.func73, Tryz.ntmps73
          go_wp2_with fail
          go_ret
          exact ⟨by rw [HT.out]; rfl, rfl⟩
        · have HT : Hid (R = false) := by
            refine (?_ : _ = _)
            rw [← HR.out]; unfold fnOK; simp; omega
          go_enter Tryz.func73, Tryz.ntmps73
          go_wp2_with fail
          go_ret
          exact ⟨by rw [HT.out]; rfl, rfl⟩
    · have HT : Hid (R = false) := by
        refine (?_ : _ = _)
        rw [← HR.out]; unfold fnOK; simp; omega
      go_enter Tryz.func73, Tryz.ntmps73
      go_wp2_with fail
      go_ret
      exact ⟨by rw [HT.out]; rfl, rfl⟩
  · have HT : Hid (R = false) := by
      refine (?_ : _ = _)
      rw [← HR.out]; unfold fnOK; simp; omega
    go_enter Tryz.func73, Tryz.ntmps73
    go_wp2_with fail
    go_ret
    exact ⟨by rw [HT.out]; rfl, rfl⟩
theorem num_wf {n : Int} (h : numOK n = true) : (Lit.int .i64 n).wf = true := by
  unfold numOK at h
  rw [decide_eq_true_iff] at h
  exact WalkArith.wf_i64 (by omega)
end Go.Proofs.YteajlfgbmefncaaGreatDoor
