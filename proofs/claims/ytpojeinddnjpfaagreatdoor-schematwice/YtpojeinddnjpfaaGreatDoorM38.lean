/-
  The walks over the program's round of numbers.
-/
import Derived.Test.YtpojeinddnjpfaaGreatDoorM0
import Derived.Test.YtpojeinddnjpfaaGreatDoorM36
namespace Go.Proofs.YtpojeinddnjpfaaGreatDoor
set_option linter.unusedVariables false
open Go.ChangeShapes Go.WideShapes Go.ChangeAt Go.RowKit Go.Maps

theorem fnP_any (n : Int) (w : World) : Calls Tryz.prog 59 #[.int .i64 n] w fun e w' => e = .returned (.bool (fnOK n)) ∧ w' = w := by
 obtain ⟨R, hR⟩ : ∃ r, fnOK n = r := ⟨_, rfl⟩
 have HR := Lib.hid hR
 rw [hR]
 clear hR
 by_cases h1 : (1 : Int) ≤ n
 ·by_cases h2 : n ≤ 536870911
  ·by_cases h3 : n < 19000
   ·have HT : Hid (R = true) := by
     refine (?_ : _ = _)
     rw [← HR.out]; unfold fnOK; simp; omega
    go_enter Tryz.func59, Tryz.ntmps59
    go_wp2_with fail
    go_ret
    exact ⟨by rw [HT.out]; rfl, rfl⟩
   ·by_cases h4 : 19999 < n
    ·have HT : Hid (R = true) := by
      refine (?_ : _ = _)
      rw [← HR.out]; unfold fnOK; simp; omega
     go_enter Tryz.func59, Tryz.ntmps59
     go_wp2_with fail
     go_ret
     exact ⟨by rw [HT.out]; rfl, rfl⟩
    ·have HT : Hid (R = false) := by
      refine (?_ : _ = _)
      rw [← HR.out]; unfold fnOK; simp; omega
     go_enter Tryz.func59, Tryz.ntmps59
     go_wp2_with fail
     go_ret
     exact ⟨by rw [HT.out]; rfl, rfl⟩
  ·have HT : Hid (R = false) := by
    refine (?_ : _ = _)
    rw [← HR.out]; unfold fnOK; simp; omega
   go_enter Tryz.func59, Tryz.ntmps59
   go_wp2_with fail
   go_ret
   exact ⟨by rw [HT.out]; rfl, rfl⟩
 ·have HT : Hid (R = false) := by
   refine (?_ : _ = _)
   rw [← HR.out]; unfold fnOK; simp; omega
  go_enter Tryz.func59, Tryz.ntmps59
  go_wp2_with fail
  go_ret
  exact ⟨by rw [HT.out]; rfl, rfl⟩
theorem askN_f {d : Dc} {k : Nat} {y : Fd} (h : d.fields[k]? = some y) : (askN d)[k]? = some (y.num, !fnOK y.num, (y.line, y.col)) := by
 unfold askN
 have hk := (List.getElem?_eq_some_iff.1 h).1
 rw [List.getElem?_append_left (by simpa using hk), List.getElem?_map, h]; rfl
theorem askN_v {d : Dc} {k : Nat} {y : Vl} (h : d.values[k]? = some y) : (askN d)[d.fields.length + k]? = some (y.num, decide (k = 0 ∧ y.num ≠ 0), (y.line, y.col)) := by
 unfold askN
 rw [List.getElem?_append_right (by simp), List.getElem?_mapIdx]
 simp [h]
theorem askN_len (d : Dc) : (askN d).length = d.fields.length + d.values.length := by
 unfold askN
 simp
def numsAt (d : Dc) (t : Nat) : List Int := ((askN d).take t).map (·.1)
theorem numsAt_step {d : Dc} {t : Nat} {a : Int × Bool × (Int × Int)} (h : (askN d)[t]? = some a) : numsAt d (t + 1) = numsAt d t ++ [a.1] := by
 unfold numsAt
 rw [take_snoc h, List.map_append]; rfl
theorem numsAt_len (d : Dc) (t : Nat) : (numsAt d t).length ≤ t := by
 unfold numsAt
 simp only [List.length_map, List.length_take]
 omega
theorem badX_at {d : Dc} {t : Nat} {a : Int × Bool × (Int × Int)} (h : (askN d)[t]? = some a) : badX (askN d) t = if a.2.1 = true ∨ a.1 ∈ numsAt d t then some a.2.2 else none := by
 unfold badX
 rw [h]; rfl
def NumFit (d : Dc) : Prop := (d.fields.length ≤ 100000 ∧ d.values.length ≤ 100000) ∧ (∀ x ∈ d.fields, numOK x.num = true) ∧ (∀ x ∈ d.values, numOK x.num = true)
theorem num_wf {n : Int} (h : numOK n = true) : (Lit.int .i64 n).wf = true := by
 unfold numOK at h
 rw [decide_eq_true_iff] at h
 exact WalkArith.wf_i64 (by omega)
set_option maxHeartbeats 16000000 in
set_option maxRecDepth 20000 in
theorem numP_any (f : Nat) (ps : List Pl) (v : Value) (w : World) (hn0 : ps.length ≤ 100000) (hm0 : ∀ x ∈ ps, NumFit x.2) (hH : HeldP 9 f w (fun b => b < w.heap.size) v ps) :
  Calls Tryz.prog 27 #[v] w fun e w' => RndAns w (firstS (numG ps) ps.length) e w' := by
 have HH := Lib.hid hH
 obtain ⟨ad, cc, rfl⟩ := hH.isSl
 obtain ⟨n, hn⟩ : ∃ n, ps.length = n := ⟨_, rfl⟩
 have HN := Lib.hid hn
 rw [hn] at hn0 ⊢
 have HM := Lib.hid hm0
 clear hH hn hm0
 go_enter Tryz.func27, Tryz.ntmps27
 go_wp2_with fail
 go_loopw [13] (fun i wr => ∃ j : Nat, i = .int .i64 (j : Int) ∧ j ≤ n ∧ firstS (numG ps) j = none ∧ Below w.heap.size w wr ∧ wr.heap[w.heap.size]? = some (.cells #[.int .i64 0, .int .i64 0] 31 (0, 0))) (fun i _ => n - (intOf i).toNat)
 case atStart => exact ⟨0, rfl, Nat.zero_le _, rfl, (Below.refl _ w).alloc (Nat.le_refl _) _, alloc_heap_new _ _⟩
 case round =>
  generalize wr = w1 at *
  obtain ⟨j, rfl, hj, hfs, hbel, hbox⟩ := hrel
  have HFS := Lib.hid hfs
  have HB := Lib.hid hbel
  have HX := Lib.hid hbox
  have hsw := hbel.size
  have hlt := blk_lt hbox
  clear hfs hbel hbox
  by_cases hjn : j < n
  ·obtain ⟨x, hx⟩ : ∃ x, ps[j]? = some x := ⟨_, List.getElem?_eq_getElem (by have := HN.out; omega)⟩
   have hnf := HM.out x (List.mem_of_getElem? hx)
   have HNF := Lib.hid hnf
   obtain ⟨⟨hfl, hvl⟩, -⟩ := hnf
   have HG : Hid (numG ps j = numX x.2) := by
    refine (?_ : _ = _)
    unfold numG
    rw [hx]
   obtain ⟨g, o, c0, fa, fc, va, vc, ma, mc, ia, ic, hsl, hg, e0, e1, e2, e3, e4, e5, e6, e7, e8, kd⟩ := place_at HH.out (W := w1) (fun b hb => HB.out.block b hb) hx
   rw [HN.out] at hsl
   obtain ⟨rfl, rfl⟩ : ad = some ⟨g, o, none⟩ ∧ cc = c0 := by
    injection hsl with h1 _ h3
    exact ⟨h1, h3⟩
   have hj0 : (0 : Int) ≤ (j : Int) := by omega
   have hj1 : (j : Int) < (n : Int) := by omega
   have hwq : IntKind.i64.wrap ((j : Int) + 1) = (j : Int) + 1 := by rw [IntKind.wrap_i64]; omega
   have HKD := Lib.hid kd
   clear hsl kd
   obtain ⟨nf, hnfe⟩ : ∃ n, x.2.fields.length = n := ⟨_, rfl⟩
   obtain ⟨nv, hnve⟩ : ∃ n, x.2.values.length = n := ⟨_, rfl⟩
   have HNFE := Lib.hid hnfe
   have HNVE := Lib.hid hnve
   rw [hnfe] at hfl e4 HKD
   rw [hnve] at hvl e5 HKD
   clear hnfe hnve
   have hC : (w1.alloc (.cells #[.int .i64 x.2.kind, .string (mkB x.2.name), .int .i64 x.2.line, .int .i64 x.2.col, .slice fa nf fc, .slice va nv vc, .slice ma x.2.methods.length mc, .slice ia x.2.inner.length ic, .string (mkB x.1)] 117)).heap[w1.heap.size]? = some (.cells #[.int .i64 x.2.kind, .string (mkB x.2.name), .int .i64 x.2.line, .int .i64 x.2.col, .slice fa nf fc, .slice va nv vc, .slice ma x.2.methods.length mc, .slice ia x.2.inner.length ic, .string (mkB x.1)] 117 (0, 0)) := alloc_heap_new _ _
   have hCb : Below w1.heap.size w1 (w1.alloc (.cells #[.int .i64 x.2.kind, .string (mkB x.2.name), .int .i64 x.2.line, .int .i64 x.2.col, .slice fa nf fc, .slice va nv vc, .slice ma x.2.methods.length mc, .slice ia x.2.inner.length ic, .string (mkB x.1)] 117)) := (Below.refl _ w1).alloc (Nat.le_refl _) _
   go_upto_region 4 with fail
   generalize (w1.alloc (.cells #[.int .i64 x.2.kind, .string (mkB x.2.name), .int .i64 x.2.line, .int .i64 x.2.col, .slice fa nf fc, .slice va nv vc, .slice ma x.2.methods.length mc, .slice ia x.2.inner.length ic, .string (mkB x.1)] 117)) = Y at *
   have l0 := cell_at hC 0 rfl
   have l1 := cell_at hC 1 rfl
   have l2 := cell_at hC 2 rfl
   have l3 := cell_at hC 3 rfl
   have l4 := cell_at hC 4 rfl
   have l5 := cell_at hC 5 rfl
   have l6 := cell_at hC 6 rfl
   have l7 := cell_at hC 7 rfl
   have l8 := cell_at hC 8 rfl
   have HBY := Lib.hid (HB.out.trans (hCb.mono hsw))
   have HXY : Hid (Y.heap[w.heap.size]? = some (.cells #[.int .i64 0, .int .i64 0] 31 (0, 0))) := (hCb.block _ hlt).trans HX.out
   have HCY : Hid (Y.heap[w1.heap.size]? = _) := hC
   have hsy : w1.heap.size < Y.heap.size := blk_lt hC
   have HKY : Hid (Kids f Y (fun b => b < w.heap.size) _ _ _ _ x.2) := HKD.out.old fun b hb => hCb.block b (by have hb' : b < w.heap.size := hb; omega)
   clear hC hCb e0 e1 e2 e3 e4 e5 e6 e7 e8 HKD
   by_cases hen : x.2.kind = 2 ∧ nv = 0
   ·obtain ⟨hk2, hv0⟩ := hen
    have HGS : Hid (numG ps j = some (x.2.line, x.2.col)) := by
     refine (?_ : _ = _)
     rw [HG.out]
     unfold numX
     rw [if_pos ⟨hk2, by rw [HNVE.out]; exact hv0⟩]
    rw [hk2] at l0
    have l5z : Y.cell? ⟨w1.heap.size, 5, none⟩ = some (.slice va 0 vc) := by rw [l5, hv0]
    clear l5 hv0 HNVE
    have k0 := cell_at HXY.out 0 rfl
    have k1 := cell_at HXY.out 1 rfl
    have kf0 := frozen_at HXY.out 0
    have kf1 := frozen_at HXY.out 1
    obtain ⟨Z, hZ, r0, r1, hbZ⟩ := pos_ret HXY.out HBY.out (Nat.le_refl _) x.2.line x.2.col
    have HZ := Lib.hid hZ
    clear hZ
    go_wp2_with fail
    rw [HZ.out]
    refine bodyPost_ret (v := .tuple #[.agg #[.int .i64 x.2.line, .int .i64 x.2.col], .bool true]) (by simp [results, Tryz.results27, go_sem, r0, r1]) rfl ?_
    exact ⟨_, _, _, rfl, hbZ, .inr ⟨rfl, firstS_some HFS.out HGS.out (by omega)⟩⟩
   have HGN : Hid (∀ p, firstS (badX (askN x.2)) (nf + nv) = p ↔ numG ps j = p) := by
    refine (?_ : ∀ _, _)
    intro p
    rw [HG.out]
    unfold numX
    rw [if_neg (by rw [HNVE.out]; exact hen), askN_len, HNFE.out, HNVE.out]
   have hmm := @run_makeMap Tryz.prog
   have hMb : Below Y.heap.size Y (Y.alloc (.map #[] 0)) := (Below.refl _ Y).alloc (Nat.le_refl _) _
   have hM : (Y.alloc (.map #[] 0)).heap[Y.heap.size]? = some (.map #[] 0) := alloc_heap_new _ _
   have hen' : ((x.2.kind == 2) && ((nv : Int) == 0)) = false := by
    rw [Bool.eq_false_iff]
    intro h
    simp at h
    exact hen ⟨h.1, by omega⟩
   have HENUM : Hid (x.2.kind = 2 → ((nv : Int) == 0) = false) := by
    refine (?_ : _ → _)
    intro h
    simp
    intro h0
    exact hen ⟨h, h0⟩
   clear hen hen'
   have main : ∀ (K : Int), K = x.2.kind → Y.cell? ⟨w1.heap.size, 0, none⟩ = some (.int .i64 K) → ((K == 2) = false ∨ (K = 2 ∧ ((nv : Int) == 0) = false)) → True := fun _ _ _ _ => trivial
   clear main
   by_cases hk2 : x.2.kind = 2
   ·have hnv0 := HENUM.out hk2
    have hnv1 : ¬ (nv : Int) = 0 := by simpa using hnv0
    rw [hk2] at l0
    clear HENUM
    go_upto_region 7 with fail
    generalize (Y.alloc (.map #[] 0)) = V at *
    have HVB := Lib.hid (HBY.out.trans (hMb.mono HBY.out.size))
    have HV0 : Hid (V.heap[w.heap.size]? = some (.cells #[.int .i64 0, .int .i64 0] 31 (0, 0))) := (hMb.block _ (by omega)).trans HXY.out
    have HVC : Hid (V.heap[w1.heap.size]? = _) := (hMb.block _ hsy).trans HCY.out
    have HV1 : Hid (IsSet 3 litI V Y.heap.size ([] : List Int)) := isSet_made _ _ hM
    have hVl := blk_lt hM
    have v4 := cell_at HVC.out 4 rfl
    have HKV : Hid (Kids f V (fun b => b < w.heap.size) _ _ _ _ x.2) := HKY.out.old fun b hb => hMb.block b (by have hb' : b < w.heap.size := hb; omega)
    clear hMb hM hmm l0 l1 l2 l3 l4 l5 l6 l7 l8
    go_wp2_with fail
    clear v4 hk2 hnv0 hnv1
    go_loopw [36] (fun i wr => ∃ k : Nat, i = .int .i64 (k : Int) ∧ k ≤ nf ∧ firstS (badX (askN x.2)) (k) = none ∧ Below w.heap.size w wr ∧ wr.heap[w.heap.size]? = some (.cells #[.int .i64 0, .int .i64 0] 31 (0, 0)) ∧ wr.heap[w1.heap.size]? = some (.cells #[.int .i64 x.2.kind, .string (mkB x.2.name), .int .i64 x.2.line, .int .i64 x.2.col, .slice fa nf fc, .slice va nv vc, .slice ma x.2.methods.length mc, .slice ia x.2.inner.length ic, .string (mkB x.1)] 117 (0, 0)) ∧ Y.heap.size < wr.heap.size ∧ IsSet 3 litI wr Y.heap.size (numsAt x.2 (k))) (fun i _ => nf - (intOf i).toNat)
    case atStart => exact ⟨0, rfl, Nat.zero_le _, rfl, HVB.out, HV0.out, HVC.out, hVl, HV1.out⟩
    case round =>
     generalize wr = w2 at *
     obtain ⟨k, rfl, hk, hfs, hbel, hd0, hdc, hdl, hd2⟩ := hrel
     have HF2 := Lib.hid hfs
     have HB2 := Lib.hid hbel
     have H20 := Lib.hid hd0
     have H2C := Lib.hid hdc
     have H2S := Lib.hid hd2
     have hsw2 := hbel.size
     clear hfs hbel hd0 hdc hd2
     by_cases hkn : k < nf
     ·obtain ⟨y, hy⟩ : ∃ y, x.2.fields[k]? = some y := ⟨_, List.getElem?_eq_getElem (by have := HNFE.out; omega)⟩
      have hask := askN_f hy
      obtain ⟨num, hnum⟩ : ∃ m, y.num = m := ⟨_, rfl⟩
      have hnl := num_wf (HNF.out.2.1 y (List.mem_of_getElem? hy))
      rw [hnum] at hask hnl
      have hask : (askN x.2)[k]? = some (num, (!fnOK num), (y.line, y.col)) := hask
      obtain ⟨g2, o2, c2, hsl, hg2, e0, e1, e2, e3, e4, e5⟩ := field_at HKV.out.1 (W := w2) (fun b hb => (HB2.out.block b hb).trans (HVB.out.block b hb).symm) hy
      rw [HNFE.out] at hsl
      obtain ⟨rfl, rfl⟩ : fa = some ⟨g2, o2, none⟩ ∧ fc = c2 := by
       injection hsl with h1 _ h3
       exact ⟨h1, h3⟩
      have HDX := Lib.hid (badX_at hask)
      have HKS := Lib.hid (numsAt_step hask)
      have hkl := numsAt_len x.2 (k)
      rw [hnum] at e3
      have hk0 : (0 : Int) ≤ (k : Int) := by omega
      have hk1 : (k : Int) < (nf : Int) := by omega
      have hwk : IntKind.i64.wrap ((k : Int) + 1) = (k : Int) + 1 := by rw [IntKind.wrap_i64]; omega
      obtain ⟨KS, hKS⟩ : ∃ K, numsAt x.2 (k) = K := ⟨_, rfl⟩
      rw [hKS] at H2S HDX HKS hkl
      obtain ⟨BAD, hBAD⟩ : ∃ b, (!fnOK num) = b := ⟨_, rfl⟩
      rw [hBAD] at HDX
      have HBAD := Lib.hid hBAD
      clear hsl hask hKS hBAD hnum
      have hC : (w2.alloc (.cells #[.bool y.rep, .string (mkB y.type), .string (mkB y.name), .int .i64 num, .int .i64 y.line, .int .i64 y.col] 71)).heap[w2.heap.size]? = some (.cells #[.bool y.rep, .string (mkB y.type), .string (mkB y.name), .int .i64 num, .int .i64 y.line, .int .i64 y.col] 71 (0, 0)) := alloc_heap_new _ _
      have hCb : Below w2.heap.size w2 (w2.alloc (.cells #[.bool y.rep, .string (mkB y.type), .string (mkB y.name), .int .i64 num, .int .i64 y.line, .int .i64 y.col] 71)) := (Below.refl _ w2).alloc (Nat.le_refl _) _
      go_upto_region 10 with fail
      generalize (w2.alloc (.cells #[.bool y.rep, .string (mkB y.type), .string (mkB y.name), .int .i64 num, .int .i64 y.line, .int .i64 y.col] 71)) = U at *
      have l0 := cell_at hC 0 rfl
      have l1 := cell_at hC 1 rfl
      have l2 := cell_at hC 2 rfl
      have l3 := cell_at hC 3 rfl
      have l4 := cell_at hC 4 rfl
      have l5 := cell_at hC 5 rfl
      have HBU := Lib.hid (HB2.out.trans (hCb.mono hsw2))
      have HU0 : Hid (U.heap[w.heap.size]? = some (.cells #[.int .i64 0, .int .i64 0] 31 (0, 0))) := (hCb.block _ (by omega)).trans H20.out
      have HUC : Hid (U.heap[w1.heap.size]? = _) := (hCb.block _ (by omega)).trans H2C.out
      have hadd := addI_any Y.heap.size KS num U (H2S.out.old (hCb.block _ hdl)) hnl (by omega)
      have HCU : Hid (U.heap[w2.heap.size]? = _) := hC
      have hsu : w2.heap.size < U.heap.size := blk_lt hC
      clear hC hCb e0 e1 e2 e3 e4 e5
      cases BAD
      case true =>
       have hfn : fnOK num = false := by have := HBAD.out; simpa using this
       have hfc := fnP_any num U
       rw [hfn] at hfc
       have HGS : Hid (badX (askN x.2) (k) = some (y.line, y.col)) := by
        refine (?_ : _ = _)
        rw [HDX.out, if_pos (.inl rfl)]
       have k0 := cell_at HU0.out 0 rfl
       have k1 := cell_at HU0.out 1 rfl
       have kf0 := frozen_at HU0.out 0
       have kf1 := frozen_at HU0.out 1
       clear hadd hfn
       obtain ⟨Z, hZ, r0, r1, hbZ⟩ := pos_ret HU0.out HBU.out (Nat.le_refl _) y.line y.col
       have HZ := Lib.hid hZ
       clear hZ
       go_wp2_with fail
       refine hfc.mono ?_
       rintro e u1 ⟨rfl, hu1⟩
       have hu1 := hu1.symm
       subst hu1
       go_wp2_with fail
       rw [HZ.out]
       refine bodyPost_ret (v := .tuple #[.agg #[.int .i64 y.line, .int .i64 y.col], .bool true]) (by simp [results, Tryz.results27, go_sem, r0, r1]) rfl ?_
       exact ⟨_, _, _, rfl, hbZ, .inr ⟨rfl, firstS_some HFS.out ((HGN.out _).1 (firstS_some HF2.out HGS.out (by omega))) (by omega)⟩⟩
      case false =>
       have hfn : fnOK num = true := by have := HBAD.out; simpa using this
       have hfc := fnP_any num U
       rw [hfn] at hfc
       clear hfn
       obtain ⟨DUP, hDUP⟩ : ∃ b, (!decide (num ∈ KS)) = b := ⟨_, rfl⟩
       rw [hDUP] at hadd
       have HDUP := Lib.hid hDUP
       clear hDUP
       go_wp2_with fail
       refine hfc.mono ?_
       rintro e u1 ⟨rfl, hu1⟩
       have hu1 := hu1.symm
       subst hu1
       go_wp2_with fail
       refine hadd.mono ?_
       rintro e W2 ⟨rfl, hset, hgr⟩
       have hb2 : Below w.heap.size w W2 := HBU.out.grown hgr HBU.out.size (fun b hb => by cases hb; omega)
       have h20 : W2.heap[w.heap.size]? = some (.cells #[.int .i64 0, .int .i64 0] 31 (0, 0)) := (hgr.block _ (by omega) (by simp; omega)).trans HU0.out
       have h2c : W2.heap[w1.heap.size]? = _ := (hgr.block _ (by omega) (by simp; omega)).trans HUC.out
       have h2y : W2.heap[w2.heap.size]? = _ := (hgr.block _ hsu (by simp; omega)).trans HCU.out
       have hW2s := hgr.size
       have p0 := cell_at h2y 4 rfl
       have p1 := cell_at h2y 5 rfl
       have k0 := cell_at h20 0 rfl
       have k1 := cell_at h20 1 rfl
       have kf0 := frozen_at h20 0
       have kf1 := frozen_at h20 1
       have HB3 := Lib.hid hb2
       have H30 := Lib.hid h20
       have H3C := Lib.hid h2c
       have HS3 := Lib.hid hset
       clear hgr h20 h2c h2y hb2 hset l0 l1 l2 l3 l4 l5 hadd
       cases DUP
       case false =>
        have hmem : num ∈ KS := by have := HDUP.out; simpa using this
        have HGS : Hid (badX (askN x.2) (k) = some (y.line, y.col)) := by
         refine (?_ : _ = _)
         rw [HDX.out, if_pos (.inr hmem)]
        obtain ⟨Z, hZ, r0, r1, hbZ⟩ := pos_ret H30.out HB3.out (Nat.le_refl _) y.line y.col
        have HZ := Lib.hid hZ
        clear hZ hmem
        go_wp2_with fail
        rw [HZ.out]
        refine bodyPost_ret (v := .tuple #[.agg #[.int .i64 y.line, .int .i64 y.col], .bool true]) (by simp [results, Tryz.results27, go_sem, r0, r1]) rfl ?_
        exact ⟨_, _, _, rfl, hbZ, .inr ⟨rfl, firstS_some HFS.out ((HGN.out _).1 (firstS_some HF2.out HGS.out (by omega))) (by omega)⟩⟩
       case true =>
        have hmem : ¬ num ∈ KS := by have := HDUP.out; simpa using this
        have HGX : Hid (badX (askN x.2) (k) = none) := by
         refine (?_ : _ = _)
         rw [HDX.out, if_neg (by rintro (h | h); cases h; exact hmem h)]
        clear hmem k0 k1 kf0 kf1 p0 p1
        go_wp2_with fail
        go_roundw
        case rel => exact ⟨k + 1, by go_num, by omega, firstS_step HF2.out HGX.out, HB3.out, H30.out, H3C.out, by omega, by first | (rw [← Nat.add_assoc]; rw [HKS.out]; exact HS3.out) | (rw [HKS.out]; exact HS3.out)⟩
        case measure => simp [intOf]; omega
     ·have hkn' : ¬ (k : Int) < (nf : Int) := by omega
      have hke : k = nf := by omega
      have HKE := Lib.hid hke
      have q5 := cell_at H2C.out 5 rfl
      have HFN : Hid (firstS (badX (askN x.2)) (nf + 0) = none) := by
       refine (?_ : _ = _)
       have := HF2.out; rw [HKE.out] at this; exact this
      have HSN : Hid (IsSet 3 litI w2 Y.heap.size (numsAt x.2 (nf + 0))) := by
       refine (?_ : IsSet _ _ _ _ _)
       have := H2S.out; rw [HKE.out] at this; exact this
      clear hke hkn H2S hk HF2 HKE
      go_wp2_with fail
      clear q5 hkn'
      have HBF := HB2
      have HF0 := H20
      have HFC := H2C
      have hFl := hdl
      clear HB2 H20 H2C hdl hsw2
      go_loopw [58] (fun i wr => ∃ k : Nat, i = .int .i64 (k : Int) ∧ k ≤ nv ∧ firstS (badX (askN x.2)) (nf + k) = none ∧ Below w.heap.size w wr ∧ wr.heap[w.heap.size]? = some (.cells #[.int .i64 0, .int .i64 0] 31 (0, 0)) ∧ wr.heap[w1.heap.size]? = some (.cells #[.int .i64 x.2.kind, .string (mkB x.2.name), .int .i64 x.2.line, .int .i64 x.2.col, .slice fa nf fc, .slice va nv vc, .slice ma x.2.methods.length mc, .slice ia x.2.inner.length ic, .string (mkB x.1)] 117 (0, 0)) ∧ Y.heap.size < wr.heap.size ∧ IsSet 3 litI wr Y.heap.size (numsAt x.2 (nf + k))) (fun i _ => nv - (intOf i).toNat)
      case atStart => exact ⟨0, rfl, Nat.zero_le _, HFN.out, HBF.out, HF0.out, HFC.out, hFl, HSN.out⟩
      case round =>
       generalize wr = w2 at *
       obtain ⟨k, rfl, hk, hfs, hbel, hd0, hdc, hdl, hd2⟩ := hrel
       have HF2 := Lib.hid hfs
       have HB2 := Lib.hid hbel
       have H20 := Lib.hid hd0
       have H2C := Lib.hid hdc
       have H2S := Lib.hid hd2
       have hsw2 := hbel.size
       clear hfs hbel hd0 hdc hd2
       by_cases hkn : k < nv
       ·obtain ⟨y, hy⟩ : ∃ y, x.2.values[k]? = some y := ⟨_, List.getElem?_eq_getElem (by have := HNVE.out; omega)⟩
        have hask := by have := askN_v hy; rw [HNFE.out] at this; exact this
        obtain ⟨num, hnum⟩ : ∃ m, y.num = m := ⟨_, rfl⟩
        have hnl := num_wf (HNF.out.2.2 y (List.mem_of_getElem? hy))
        rw [hnum] at hask hnl
        have hask : (askN x.2)[nf + k]? = some (num, decide (k = 0 ∧ num ≠ 0), (y.line, y.col)) := hask
        obtain ⟨g2, o2, c2, hsl, hg2, e0, e1, e2, e3⟩ := value_at HKV.out.2.1 (W := w2) (fun b hb => (HB2.out.block b hb).trans (HVB.out.block b hb).symm) hy
        rw [HNVE.out] at hsl
        obtain ⟨rfl, rfl⟩ : va = some ⟨g2, o2, none⟩ ∧ vc = c2 := by
         injection hsl with h1 _ h3
         exact ⟨h1, h3⟩
        have HDX := Lib.hid (badX_at hask)
        have HKS := Lib.hid (numsAt_step hask)
        have hkl := numsAt_len x.2 (nf + k)
        rw [hnum] at e1
        have hk0 : (0 : Int) ≤ (k : Int) := by omega
        have hk1 : (k : Int) < (nv : Int) := by omega
        have hwk : IntKind.i64.wrap ((k : Int) + 1) = (k : Int) + 1 := by rw [IntKind.wrap_i64]; omega
        obtain ⟨KS, hKS⟩ : ∃ K, numsAt x.2 (nf + k) = K := ⟨_, rfl⟩
        rw [hKS] at H2S HDX HKS hkl
        obtain ⟨BAD, hBAD⟩ : ∃ b, decide (k = 0 ∧ num ≠ 0) = b := ⟨_, rfl⟩
        rw [hBAD] at HDX
        have HBAD := Lib.hid hBAD
        clear hsl hask hKS hBAD hnum
        have hC : (w2.alloc (.cells #[.string (mkB y.name), .int .i64 num, .int .i64 y.line, .int .i64 y.col] 74)).heap[w2.heap.size]? = some (.cells #[.string (mkB y.name), .int .i64 num, .int .i64 y.line, .int .i64 y.col] 74 (0, 0)) := alloc_heap_new _ _
        have hCb : Below w2.heap.size w2 (w2.alloc (.cells #[.string (mkB y.name), .int .i64 num, .int .i64 y.line, .int .i64 y.col] 74)) := (Below.refl _ w2).alloc (Nat.le_refl _) _
        go_upto_region 16 with fail
        generalize (w2.alloc (.cells #[.string (mkB y.name), .int .i64 num, .int .i64 y.line, .int .i64 y.col] 74)) = U at *
        have l0 := cell_at hC 0 rfl
        have l1 := cell_at hC 1 rfl
        have l2 := cell_at hC 2 rfl
        have l3 := cell_at hC 3 rfl
        have HBU := Lib.hid (HB2.out.trans (hCb.mono hsw2))
        have HU0 : Hid (U.heap[w.heap.size]? = some (.cells #[.int .i64 0, .int .i64 0] 31 (0, 0))) := (hCb.block _ (by omega)).trans H20.out
        have HUC : Hid (U.heap[w1.heap.size]? = _) := (hCb.block _ (by omega)).trans H2C.out
        have hadd := addI_any Y.heap.size KS num U (H2S.out.old (hCb.block _ hdl)) hnl (by omega)
        have HCU : Hid (U.heap[w2.heap.size]? = _) := hC
        have hsu : w2.heap.size < U.heap.size := blk_lt hC
        clear hC hCb e0 e1 e2 e3
        cases BAD
        case true =>
         obtain ⟨hk00, hnz⟩ : k = 0 ∧ num ≠ 0 := by have := HBAD.out; simpa using this
         have hki : (k : Int) = 0 := by omega
         have hnz' : (num != 0) = true := by simpa using hnz
         have HGS : Hid (badX (askN x.2) (nf + k) = some (y.line, y.col)) := by
          refine (?_ : _ = _)
          rw [HDX.out, if_pos (.inl rfl)]
         have k0 := cell_at HU0.out 0 rfl
         have k1 := cell_at HU0.out 1 rfl
         have kf0 := frozen_at HU0.out 0
         have kf1 := frozen_at HU0.out 1
         subst hk00
         clear hadd hki
         obtain ⟨Z, hZ, r0, r1, hbZ⟩ := pos_ret HU0.out HBU.out (Nat.le_refl _) y.line y.col
         have HZ := Lib.hid hZ
         clear hZ
         go_wp2_with fail
         rw [HZ.out]
         refine bodyPost_ret (v := .tuple #[.agg #[.int .i64 y.line, .int .i64 y.col], .bool true]) (by simp [results, Tryz.results27, go_sem, r0, r1]) rfl ?_
         exact ⟨_, _, _, rfl, hbZ, .inr ⟨rfl, firstS_some HFS.out ((HGN.out _).1 (firstS_some HF2.out HGS.out (by omega))) (by omega)⟩⟩
        case false =>
         have hnb : ¬ (k = 0 ∧ num ≠ 0) := by have := HBAD.out; simpa using this
         obtain ⟨DUP, hDUP⟩ : ∃ b, (!decide (num ∈ KS)) = b := ⟨_, rfl⟩
         rw [hDUP] at hadd
         have HDUP := Lib.hid hDUP
         clear hDUP
         by_cases hk00 : k = 0
         ·have hyz : num = 0 := by
           apply Classical.byContradiction
           intro h
           exact hnb ⟨hk00, h⟩
          have hki : (k : Int) = 0 := by omega
          subst hyz
          subst hk00
          clear hnb hki
          go_wp2_with fail
          refine hadd.mono ?_
          rintro e W2 ⟨rfl, hset, hgr⟩
          have hb2 : Below w.heap.size w W2 := HBU.out.grown hgr HBU.out.size (fun b hb => by cases hb; omega)
          have h20 : W2.heap[w.heap.size]? = some (.cells #[.int .i64 0, .int .i64 0] 31 (0, 0)) := (hgr.block _ (by omega) (by simp; omega)).trans HU0.out
          have h2c : W2.heap[w1.heap.size]? = _ := (hgr.block _ (by omega) (by simp; omega)).trans HUC.out
          have h2y : W2.heap[w2.heap.size]? = _ := (hgr.block _ hsu (by simp; omega)).trans HCU.out
          have hW2s := hgr.size
          have p0 := cell_at h2y 2 rfl
          have p1 := cell_at h2y 3 rfl
          have k0 := cell_at h20 0 rfl
          have k1 := cell_at h20 1 rfl
          have kf0 := frozen_at h20 0
          have kf1 := frozen_at h20 1
          have HB3 := Lib.hid hb2
          have H30 := Lib.hid h20
          have H3C := Lib.hid h2c
          have HS3 := Lib.hid hset
          clear hgr h20 h2c h2y hb2 hset l0 l1 l2 l3 hadd
          cases DUP
          case false =>
           have hmem : (0 : Int) ∈ KS := by have := HDUP.out; simpa using this
           have HGS : Hid (badX (askN x.2) (nf + 0) = some (y.line, y.col)) := by
            refine (?_ : _ = _)
            rw [HDX.out, if_pos (.inr hmem)]
           obtain ⟨Z, hZ, r0, r1, hbZ⟩ := pos_ret H30.out HB3.out (Nat.le_refl _) y.line y.col
           have HZ := Lib.hid hZ
           clear hZ hmem
           go_wp2_with fail
           rw [HZ.out]
           refine bodyPost_ret (v := .tuple #[.agg #[.int .i64 y.line, .int .i64 y.col], .bool true]) (by simp [results, Tryz.results27, go_sem, r0, r1]) rfl ?_
           exact ⟨_, _, _, rfl, hbZ, .inr ⟨rfl, firstS_some HFS.out ((HGN.out _).1 (firstS_some HF2.out HGS.out (by omega))) (by omega)⟩⟩
          case true =>
           have hmem : ¬ (0 : Int) ∈ KS := by have := HDUP.out; simpa using this
           have HGX : Hid (badX (askN x.2) (nf + 0) = none) := by
            refine (?_ : _ = _)
            rw [HDX.out, if_neg (by rintro (h | h); cases h; exact hmem h)]
           clear hmem k0 k1 kf0 kf1 p0 p1
           go_wp2_with fail
           go_roundw
           case rel => exact ⟨0 + 1, by go_num, by omega, firstS_step HF2.out HGX.out, HB3.out, H30.out, H3C.out, by omega, by first | (rw [← Nat.add_assoc]; rw [HKS.out]; exact HS3.out) | (rw [HKS.out]; exact HS3.out)⟩
           case measure => simp [intOf]; omega
         ·have hki : ((k : Int) == 0) = false := by simp; omega
          have hki' : ¬ (k : Int) = 0 := by omega
          clear hnb
          go_wp2_with fail
          refine hadd.mono ?_
          rintro e W2 ⟨rfl, hset, hgr⟩
          have hb2 : Below w.heap.size w W2 := HBU.out.grown hgr HBU.out.size (fun b hb => by cases hb; omega)
          have h20 : W2.heap[w.heap.size]? = some (.cells #[.int .i64 0, .int .i64 0] 31 (0, 0)) := (hgr.block _ (by omega) (by simp; omega)).trans HU0.out
          have h2c : W2.heap[w1.heap.size]? = _ := (hgr.block _ (by omega) (by simp; omega)).trans HUC.out
          have h2y : W2.heap[w2.heap.size]? = _ := (hgr.block _ hsu (by simp; omega)).trans HCU.out
          have hW2s := hgr.size
          have p0 := cell_at h2y 2 rfl
          have p1 := cell_at h2y 3 rfl
          have k0 := cell_at h20 0 rfl
          have k1 := cell_at h20 1 rfl
          have kf0 := frozen_at h20 0
          have kf1 := frozen_at h20 1
          have HB3 := Lib.hid hb2
          have H30 := Lib.hid h20
          have H3C := Lib.hid h2c
          have HS3 := Lib.hid hset
          clear hgr h20 h2c h2y hb2 hset l0 l1 l2 l3 hadd
          cases DUP
          case false =>
           have hmem : num ∈ KS := by have := HDUP.out; simpa using this
           have HGS : Hid (badX (askN x.2) (nf + k) = some (y.line, y.col)) := by
            refine (?_ : _ = _)
            rw [HDX.out, if_pos (.inr hmem)]
           obtain ⟨Z, hZ, r0, r1, hbZ⟩ := pos_ret H30.out HB3.out (Nat.le_refl _) y.line y.col
           have HZ := Lib.hid hZ
           clear hZ hmem
           go_wp2_with fail
           rw [HZ.out]
           refine bodyPost_ret (v := .tuple #[.agg #[.int .i64 y.line, .int .i64 y.col], .bool true]) (by simp [results, Tryz.results27, go_sem, r0, r1]) rfl ?_
           exact ⟨_, _, _, rfl, hbZ, .inr ⟨rfl, firstS_some HFS.out ((HGN.out _).1 (firstS_some HF2.out HGS.out (by omega))) (by omega)⟩⟩
          case true =>
           have hmem : ¬ num ∈ KS := by have := HDUP.out; simpa using this
           have HGX : Hid (badX (askN x.2) (nf + k) = none) := by
            refine (?_ : _ = _)
            rw [HDX.out, if_neg (by rintro (h | h); cases h; exact hmem h)]
           clear hmem k0 k1 kf0 kf1 p0 p1
           go_wp2_with fail
           go_roundw
           case rel => exact ⟨k + 1, by go_num, by omega, firstS_step HF2.out HGX.out, HB3.out, H30.out, H3C.out, by omega, by first | (rw [← Nat.add_assoc]; rw [HKS.out]; exact HS3.out) | (rw [HKS.out]; exact HS3.out)⟩
           case measure => simp [intOf]; omega
       ·have hkn' : ¬ (k : Int) < (nv : Int) := by omega
        have hke : k = nv := by omega
        have HKE := Lib.hid hke
        have HNO : Hid (numG ps j = none) := by
         refine (?_ : _ = _)
         refine (HGN.out _).1 ?_
         rw [← HKE.out]; exact HF2.out
        clear hke
        go_wp2_with fail
        go_roundw
        case rel => exact ⟨j + 1, by go_num, by omega, firstS_step HFS.out HNO.out, HB2.out, H20.out⟩
        case measure => simp [intOf]; omega
   ·have hk2' : (x.2.kind == 2) = false := by simp [hk2]
    clear HENUM
    go_upto_region 7 with fail
    generalize (Y.alloc (.map #[] 0)) = V at *
    have HVB := Lib.hid (HBY.out.trans (hMb.mono HBY.out.size))
    have HV0 : Hid (V.heap[w.heap.size]? = some (.cells #[.int .i64 0, .int .i64 0] 31 (0, 0))) := (hMb.block _ (by omega)).trans HXY.out
    have HVC : Hid (V.heap[w1.heap.size]? = _) := (hMb.block _ hsy).trans HCY.out
    have HV1 : Hid (IsSet 3 litI V Y.heap.size ([] : List Int)) := isSet_made _ _ hM
    have hVl := blk_lt hM
    have v4 := cell_at HVC.out 4 rfl
    have HKV : Hid (Kids f V (fun b => b < w.heap.size) _ _ _ _ x.2) := HKY.out.old fun b hb => hMb.block b (by have hb' : b < w.heap.size := hb; omega)
    clear hMb hM hmm l0 l1 l2 l3 l4 l5 l6 l7 l8
    go_wp2_with fail
    clear v4 hk2 hk2'
    go_loopw [36] (fun i wr => ∃ k : Nat, i = .int .i64 (k : Int) ∧ k ≤ nf ∧ firstS (badX (askN x.2)) (k) = none ∧ Below w.heap.size w wr ∧ wr.heap[w.heap.size]? = some (.cells #[.int .i64 0, .int .i64 0] 31 (0, 0)) ∧ wr.heap[w1.heap.size]? = some (.cells #[.int .i64 x.2.kind, .string (mkB x.2.name), .int .i64 x.2.line, .int .i64 x.2.col, .slice fa nf fc, .slice va nv vc, .slice ma x.2.methods.length mc, .slice ia x.2.inner.length ic, .string (mkB x.1)] 117 (0, 0)) ∧ Y.heap.size < wr.heap.size ∧ IsSet 3 litI wr Y.heap.size (numsAt x.2 (k))) (fun i _ => nf - (intOf i).toNat)
    case atStart => exact ⟨0, rfl, Nat.zero_le _, rfl, HVB.out, HV0.out, HVC.out, hVl, HV1.out⟩
    case round =>
     generalize wr = w2 at *
     obtain ⟨k, rfl, hk, hfs, hbel, hd0, hdc, hdl, hd2⟩ := hrel
     have HF2 := Lib.hid hfs
     have HB2 := Lib.hid hbel
     have H20 := Lib.hid hd0
     have H2C := Lib.hid hdc
     have H2S := Lib.hid hd2
     have hsw2 := hbel.size
     clear hfs hbel hd0 hdc hd2
     by_cases hkn : k < nf
     ·obtain ⟨y, hy⟩ : ∃ y, x.2.fields[k]? = some y := ⟨_, List.getElem?_eq_getElem (by have := HNFE.out; omega)⟩
      have hask := askN_f hy
      obtain ⟨num, hnum⟩ : ∃ m, y.num = m := ⟨_, rfl⟩
      have hnl := num_wf (HNF.out.2.1 y (List.mem_of_getElem? hy))
      rw [hnum] at hask hnl
      have hask : (askN x.2)[k]? = some (num, (!fnOK num), (y.line, y.col)) := hask
      obtain ⟨g2, o2, c2, hsl, hg2, e0, e1, e2, e3, e4, e5⟩ := field_at HKV.out.1 (W := w2) (fun b hb => (HB2.out.block b hb).trans (HVB.out.block b hb).symm) hy
      rw [HNFE.out] at hsl
      obtain ⟨rfl, rfl⟩ : fa = some ⟨g2, o2, none⟩ ∧ fc = c2 := by
       injection hsl with h1 _ h3
       exact ⟨h1, h3⟩
      have HDX := Lib.hid (badX_at hask)
      have HKS := Lib.hid (numsAt_step hask)
      have hkl := numsAt_len x.2 (k)
      rw [hnum] at e3
      have hk0 : (0 : Int) ≤ (k : Int) := by omega
      have hk1 : (k : Int) < (nf : Int) := by omega
      have hwk : IntKind.i64.wrap ((k : Int) + 1) = (k : Int) + 1 := by rw [IntKind.wrap_i64]; omega
      obtain ⟨KS, hKS⟩ : ∃ K, numsAt x.2 (k) = K := ⟨_, rfl⟩
      rw [hKS] at H2S HDX HKS hkl
      obtain ⟨BAD, hBAD⟩ : ∃ b, (!fnOK num) = b := ⟨_, rfl⟩
      rw [hBAD] at HDX
      have HBAD := Lib.hid hBAD
      clear hsl hask hKS hBAD hnum
      have hC : (w2.alloc (.cells #[.bool y.rep, .string (mkB y.type), .string (mkB y.name), .int .i64 num, .int .i64 y.line, .int .i64 y.col] 71)).heap[w2.heap.size]? = some (.cells #[.bool y.rep, .string (mkB y.type), .string (mkB y.name), .int .i64 num, .int .i64 y.line, .int .i64 y.col] 71 (0, 0)) := alloc_heap_new _ _
      have hCb : Below w2.heap.size w2 (w2.alloc (.cells #[.bool y.rep, .string (mkB y.type), .string (mkB y.name), .int .i64 num, .int .i64 y.line, .int .i64 y.col] 71)) := (Below.refl _ w2).alloc (Nat.le_refl _) _
      go_upto_region 10 with fail
      generalize (w2.alloc (.cells #[.bool y.rep, .string (mkB y.type), .string (mkB y.name), .int .i64 num, .int .i64 y.line, .int .i64 y.col] 71)) = U at *
      have l0 := cell_at hC 0 rfl
      have l1 := cell_at hC 1 rfl
      have l2 := cell_at hC 2 rfl
      have l3 := cell_at hC 3 rfl
      have l4 := cell_at hC 4 rfl
      have l5 := cell_at hC 5 rfl
      have HBU := Lib.hid (HB2.out.trans (hCb.mono hsw2))
      have HU0 : Hid (U.heap[w.heap.size]? = some (.cells #[.int .i64 0, .int .i64 0] 31 (0, 0))) := (hCb.block _ (by omega)).trans H20.out
      have HUC : Hid (U.heap[w1.heap.size]? = _) := (hCb.block _ (by omega)).trans H2C.out
      have hadd := addI_any Y.heap.size KS num U (H2S.out.old (hCb.block _ hdl)) hnl (by omega)
      have HCU : Hid (U.heap[w2.heap.size]? = _) := hC
      have hsu : w2.heap.size < U.heap.size := blk_lt hC
      clear hC hCb e0 e1 e2 e3 e4 e5
      cases BAD
      case true =>
       have hfn : fnOK num = false := by have := HBAD.out; simpa using this
       have hfc := fnP_any num U
       rw [hfn] at hfc
       have HGS : Hid (badX (askN x.2) (k) = some (y.line, y.col)) := by
        refine (?_ : _ = _)
        rw [HDX.out, if_pos (.inl rfl)]
       have k0 := cell_at HU0.out 0 rfl
       have k1 := cell_at HU0.out 1 rfl
       have kf0 := frozen_at HU0.out 0
       have kf1 := frozen_at HU0.out 1
       clear hadd hfn
       obtain ⟨Z, hZ, r0, r1, hbZ⟩ := pos_ret HU0.out HBU.out (Nat.le_refl _) y.line y.col
       have HZ := Lib.hid hZ
       clear hZ
       go_wp2_with fail
       refine hfc.mono ?_
       rintro e u1 ⟨rfl, hu1⟩
       have hu1 := hu1.symm
       subst hu1
       go_wp2_with fail
       rw [HZ.out]
       refine bodyPost_ret (v := .tuple #[.agg #[.int .i64 y.line, .int .i64 y.col], .bool true]) (by simp [results, Tryz.results27, go_sem, r0, r1]) rfl ?_
       exact ⟨_, _, _, rfl, hbZ, .inr ⟨rfl, firstS_some HFS.out ((HGN.out _).1 (firstS_some HF2.out HGS.out (by omega))) (by omega)⟩⟩
      case false =>
       have hfn : fnOK num = true := by have := HBAD.out; simpa using this
       have hfc := fnP_any num U
       rw [hfn] at hfc
       clear hfn
       obtain ⟨DUP, hDUP⟩ : ∃ b, (!decide (num ∈ KS)) = b := ⟨_, rfl⟩
       rw [hDUP] at hadd
       have HDUP := Lib.hid hDUP
       clear hDUP
       go_wp2_with fail
       refine hfc.mono ?_
       rintro e u1 ⟨rfl, hu1⟩
       have hu1 := hu1.symm
       subst hu1
       go_wp2_with fail
       refine hadd.mono ?_
       rintro e W2 ⟨rfl, hset, hgr⟩
       have hb2 : Below w.heap.size w W2 := HBU.out.grown hgr HBU.out.size (fun b hb => by cases hb; omega)
       have h20 : W2.heap[w.heap.size]? = some (.cells #[.int .i64 0, .int .i64 0] 31 (0, 0)) := (hgr.block _ (by omega) (by simp; omega)).trans HU0.out
       have h2c : W2.heap[w1.heap.size]? = _ := (hgr.block _ (by omega) (by simp; omega)).trans HUC.out
       have h2y : W2.heap[w2.heap.size]? = _ := (hgr.block _ hsu (by simp; omega)).trans HCU.out
       have hW2s := hgr.size
       have p0 := cell_at h2y 4 rfl
       have p1 := cell_at h2y 5 rfl
       have k0 := cell_at h20 0 rfl
       have k1 := cell_at h20 1 rfl
       have kf0 := frozen_at h20 0
       have kf1 := frozen_at h20 1
       have HB3 := Lib.hid hb2
       have H30 := Lib.hid h20
       have H3C := Lib.hid h2c
       have HS3 := Lib.hid hset
       clear hgr h20 h2c h2y hb2 hset l0 l1 l2 l3 l4 l5 hadd
       cases DUP
       case false =>
        have hmem : num ∈ KS := by have := HDUP.out; simpa using this
        have HGS : Hid (badX (askN x.2) (k) = some (y.line, y.col)) := by
         refine (?_ : _ = _)
         rw [HDX.out, if_pos (.inr hmem)]
        obtain ⟨Z, hZ, r0, r1, hbZ⟩ := pos_ret H30.out HB3.out (Nat.le_refl _) y.line y.col
        have HZ := Lib.hid hZ
        clear hZ hmem
        go_wp2_with fail
        rw [HZ.out]
        refine bodyPost_ret (v := .tuple #[.agg #[.int .i64 y.line, .int .i64 y.col], .bool true]) (by simp [results, Tryz.results27, go_sem, r0, r1]) rfl ?_
        exact ⟨_, _, _, rfl, hbZ, .inr ⟨rfl, firstS_some HFS.out ((HGN.out _).1 (firstS_some HF2.out HGS.out (by omega))) (by omega)⟩⟩
       case true =>
        have hmem : ¬ num ∈ KS := by have := HDUP.out; simpa using this
        have HGX : Hid (badX (askN x.2) (k) = none) := by
         refine (?_ : _ = _)
         rw [HDX.out, if_neg (by rintro (h | h); cases h; exact hmem h)]
        clear hmem k0 k1 kf0 kf1 p0 p1
        go_wp2_with fail
        go_roundw
        case rel => exact ⟨k + 1, by go_num, by omega, firstS_step HF2.out HGX.out, HB3.out, H30.out, H3C.out, by omega, by first | (rw [← Nat.add_assoc]; rw [HKS.out]; exact HS3.out) | (rw [HKS.out]; exact HS3.out)⟩
        case measure => simp [intOf]; omega
     ·have hkn' : ¬ (k : Int) < (nf : Int) := by omega
      have hke : k = nf := by omega
      have HKE := Lib.hid hke
      have q5 := cell_at H2C.out 5 rfl
      have HFN : Hid (firstS (badX (askN x.2)) (nf + 0) = none) := by
       refine (?_ : _ = _)
       have := HF2.out; rw [HKE.out] at this; exact this
      have HSN : Hid (IsSet 3 litI w2 Y.heap.size (numsAt x.2 (nf + 0))) := by
       refine (?_ : IsSet _ _ _ _ _)
       have := H2S.out; rw [HKE.out] at this; exact this
      clear hke hkn H2S hk HF2 HKE
      go_wp2_with fail
      clear q5 hkn'
      have HBF := HB2
      have HF0 := H20
      have HFC := H2C
      have hFl := hdl
      clear HB2 H20 H2C hdl hsw2
      go_loopw [58] (fun i wr => ∃ k : Nat, i = .int .i64 (k : Int) ∧ k ≤ nv ∧ firstS (badX (askN x.2)) (nf + k) = none ∧ Below w.heap.size w wr ∧ wr.heap[w.heap.size]? = some (.cells #[.int .i64 0, .int .i64 0] 31 (0, 0)) ∧ wr.heap[w1.heap.size]? = some (.cells #[.int .i64 x.2.kind, .string (mkB x.2.name), .int .i64 x.2.line, .int .i64 x.2.col, .slice fa nf fc, .slice va nv vc, .slice ma x.2.methods.length mc, .slice ia x.2.inner.length ic, .string (mkB x.1)] 117 (0, 0)) ∧ Y.heap.size < wr.heap.size ∧ IsSet 3 litI wr Y.heap.size (numsAt x.2 (nf + k))) (fun i _ => nv - (intOf i).toNat)
      case atStart => exact ⟨0, rfl, Nat.zero_le _, HFN.out, HBF.out, HF0.out, HFC.out, hFl, HSN.out⟩
      case round =>
       generalize wr = w2 at *
       obtain ⟨k, rfl, hk, hfs, hbel, hd0, hdc, hdl, hd2⟩ := hrel
       have HF2 := Lib.hid hfs
       have HB2 := Lib.hid hbel
       have H20 := Lib.hid hd0
       have H2C := Lib.hid hdc
       have H2S := Lib.hid hd2
       have hsw2 := hbel.size
       clear hfs hbel hd0 hdc hd2
       by_cases hkn : k < nv
       ·obtain ⟨y, hy⟩ : ∃ y, x.2.values[k]? = some y := ⟨_, List.getElem?_eq_getElem (by have := HNVE.out; omega)⟩
        have hask := by have := askN_v hy; rw [HNFE.out] at this; exact this
        obtain ⟨num, hnum⟩ : ∃ m, y.num = m := ⟨_, rfl⟩
        have hnl := num_wf (HNF.out.2.2 y (List.mem_of_getElem? hy))
        rw [hnum] at hask hnl
        have hask : (askN x.2)[nf + k]? = some (num, decide (k = 0 ∧ num ≠ 0), (y.line, y.col)) := hask
        obtain ⟨g2, o2, c2, hsl, hg2, e0, e1, e2, e3⟩ := value_at HKV.out.2.1 (W := w2) (fun b hb => (HB2.out.block b hb).trans (HVB.out.block b hb).symm) hy
        rw [HNVE.out] at hsl
        obtain ⟨rfl, rfl⟩ : va = some ⟨g2, o2, none⟩ ∧ vc = c2 := by
         injection hsl with h1 _ h3
         exact ⟨h1, h3⟩
        have HDX := Lib.hid (badX_at hask)
        have HKS := Lib.hid (numsAt_step hask)
        have hkl := numsAt_len x.2 (nf + k)
        rw [hnum] at e1
        have hk0 : (0 : Int) ≤ (k : Int) := by omega
        have hk1 : (k : Int) < (nv : Int) := by omega
        have hwk : IntKind.i64.wrap ((k : Int) + 1) = (k : Int) + 1 := by rw [IntKind.wrap_i64]; omega
        obtain ⟨KS, hKS⟩ : ∃ K, numsAt x.2 (nf + k) = K := ⟨_, rfl⟩
        rw [hKS] at H2S HDX HKS hkl
        obtain ⟨BAD, hBAD⟩ : ∃ b, decide (k = 0 ∧ num ≠ 0) = b := ⟨_, rfl⟩
        rw [hBAD] at HDX
        have HBAD := Lib.hid hBAD
        clear hsl hask hKS hBAD hnum
        have hC : (w2.alloc (.cells #[.string (mkB y.name), .int .i64 num, .int .i64 y.line, .int .i64 y.col] 74)).heap[w2.heap.size]? = some (.cells #[.string (mkB y.name), .int .i64 num, .int .i64 y.line, .int .i64 y.col] 74 (0, 0)) := alloc_heap_new _ _
        have hCb : Below w2.heap.size w2 (w2.alloc (.cells #[.string (mkB y.name), .int .i64 num, .int .i64 y.line, .int .i64 y.col] 74)) := (Below.refl _ w2).alloc (Nat.le_refl _) _
        go_upto_region 16 with fail
        generalize (w2.alloc (.cells #[.string (mkB y.name), .int .i64 num, .int .i64 y.line, .int .i64 y.col] 74)) = U at *
        have l0 := cell_at hC 0 rfl
        have l1 := cell_at hC 1 rfl
        have l2 := cell_at hC 2 rfl
        have l3 := cell_at hC 3 rfl
        have HBU := Lib.hid (HB2.out.trans (hCb.mono hsw2))
        have HU0 : Hid (U.heap[w.heap.size]? = some (.cells #[.int .i64 0, .int .i64 0] 31 (0, 0))) := (hCb.block _ (by omega)).trans H20.out
        have HUC : Hid (U.heap[w1.heap.size]? = _) := (hCb.block _ (by omega)).trans H2C.out
        have hadd := addI_any Y.heap.size KS num U (H2S.out.old (hCb.block _ hdl)) hnl (by omega)
        have HCU : Hid (U.heap[w2.heap.size]? = _) := hC
        have hsu : w2.heap.size < U.heap.size := blk_lt hC
        clear hC hCb e0 e1 e2 e3
        cases BAD
        case true =>
         obtain ⟨hk00, hnz⟩ : k = 0 ∧ num ≠ 0 := by have := HBAD.out; simpa using this
         have hki : (k : Int) = 0 := by omega
         have hnz' : (num != 0) = true := by simpa using hnz
         have HGS : Hid (badX (askN x.2) (nf + k) = some (y.line, y.col)) := by
          refine (?_ : _ = _)
          rw [HDX.out, if_pos (.inl rfl)]
         have k0 := cell_at HU0.out 0 rfl
         have k1 := cell_at HU0.out 1 rfl
         have kf0 := frozen_at HU0.out 0
         have kf1 := frozen_at HU0.out 1
         subst hk00
         clear hadd hki
         obtain ⟨Z, hZ, r0, r1, hbZ⟩ := pos_ret HU0.out HBU.out (Nat.le_refl _) y.line y.col
         have HZ := Lib.hid hZ
         clear hZ
         go_wp2_with fail
         rw [HZ.out]
         refine bodyPost_ret (v := .tuple #[.agg #[.int .i64 y.line, .int .i64 y.col], .bool true]) (by simp [results, Tryz.results27, go_sem, r0, r1]) rfl ?_
         exact ⟨_, _, _, rfl, hbZ, .inr ⟨rfl, firstS_some HFS.out ((HGN.out _).1 (firstS_some HF2.out HGS.out (by omega))) (by omega)⟩⟩
        case false =>
         have hnb : ¬ (k = 0 ∧ num ≠ 0) := by have := HBAD.out; simpa using this
         obtain ⟨DUP, hDUP⟩ : ∃ b, (!decide (num ∈ KS)) = b := ⟨_, rfl⟩
         rw [hDUP] at hadd
         have HDUP := Lib.hid hDUP
         clear hDUP
         by_cases hk00 : k = 0
         ·have hyz : num = 0 := by
           apply Classical.byContradiction
           intro h
           exact hnb ⟨hk00, h⟩
          have hki : (k : Int) = 0 := by omega
          subst hyz
          subst hk00
          clear hnb hki
          go_wp2_with fail
          refine hadd.mono ?_
          rintro e W2 ⟨rfl, hset, hgr⟩
          have hb2 : Below w.heap.size w W2 := HBU.out.grown hgr HBU.out.size (fun b hb => by cases hb; omega)
          have h20 : W2.heap[w.heap.size]? = some (.cells #[.int .i64 0, .int .i64 0] 31 (0, 0)) := (hgr.block _ (by omega) (by simp; omega)).trans HU0.out
          have h2c : W2.heap[w1.heap.size]? = _ := (hgr.block _ (by omega) (by simp; omega)).trans HUC.out
          have h2y : W2.heap[w2.heap.size]? = _ := (hgr.block _ hsu (by simp; omega)).trans HCU.out
          have hW2s := hgr.size
          have p0 := cell_at h2y 2 rfl
          have p1 := cell_at h2y 3 rfl
          have k0 := cell_at h20 0 rfl
          have k1 := cell_at h20 1 rfl
          have kf0 := frozen_at h20 0
          have kf1 := frozen_at h20 1
          have HB3 := Lib.hid hb2
          have H30 := Lib.hid h20
          have H3C := Lib.hid h2c
          have HS3 := Lib.hid hset
          clear hgr h20 h2c h2y hb2 hset l0 l1 l2 l3 hadd
          cases DUP
          case false =>
           have hmem : (0 : Int) ∈ KS := by have := HDUP.out; simpa using this
           have HGS : Hid (badX (askN x.2) (nf + 0) = some (y.line, y.col)) := by
            refine (?_ : _ = _)
            rw [HDX.out, if_pos (.inr hmem)]
           obtain ⟨Z, hZ, r0, r1, hbZ⟩ := pos_ret H30.out HB3.out (Nat.le_refl _) y.line y.col
           have HZ := Lib.hid hZ
           clear hZ hmem
           go_wp2_with fail
           rw [HZ.out]
           refine bodyPost_ret (v := .tuple #[.agg #[.int .i64 y.line, .int .i64 y.col], .bool true]) (by simp [results, Tryz.results27, go_sem, r0, r1]) rfl ?_
           exact ⟨_, _, _, rfl, hbZ, .inr ⟨rfl, firstS_some HFS.out ((HGN.out _).1 (firstS_some HF2.out HGS.out (by omega))) (by omega)⟩⟩
          case true =>
           have hmem : ¬ (0 : Int) ∈ KS := by have := HDUP.out; simpa using this
           have HGX : Hid (badX (askN x.2) (nf + 0) = none) := by
            refine (?_ : _ = _)
            rw [HDX.out, if_neg (by rintro (h | h); cases h; exact hmem h)]
           clear hmem k0 k1 kf0 kf1 p0 p1
           go_wp2_with fail
           go_roundw
           case rel => exact ⟨0 + 1, by go_num, by omega, firstS_step HF2.out HGX.out, HB3.out, H30.out, H3C.out, by omega, by first | (rw [← Nat.add_assoc]; rw [HKS.out]; exact HS3.out) | (rw [HKS.out]; exact HS3.out)⟩
           case measure => simp [intOf]; omega
         ·have hki : ((k : Int) == 0) = false := by simp; omega
          have hki' : ¬ (k : Int) = 0 := by omega
          clear hnb
          go_wp2_with fail
          refine hadd.mono ?_
          rintro e W2 ⟨rfl, hset, hgr⟩
          have hb2 : Below w.heap.size w W2 := HBU.out.grown hgr HBU.out.size (fun b hb => by cases hb; omega)
          have h20 : W2.heap[w.heap.size]? = some (.cells #[.int .i64 0, .int .i64 0] 31 (0, 0)) := (hgr.block _ (by omega) (by simp; omega)).trans HU0.out
          have h2c : W2.heap[w1.heap.size]? = _ := (hgr.block _ (by omega) (by simp; omega)).trans HUC.out
          have h2y : W2.heap[w2.heap.size]? = _ := (hgr.block _ hsu (by simp; omega)).trans HCU.out
          have hW2s := hgr.size
          have p0 := cell_at h2y 2 rfl
          have p1 := cell_at h2y 3 rfl
          have k0 := cell_at h20 0 rfl
          have k1 := cell_at h20 1 rfl
          have kf0 := frozen_at h20 0
          have kf1 := frozen_at h20 1
          have HB3 := Lib.hid hb2
          have H30 := Lib.hid h20
          have H3C := Lib.hid h2c
          have HS3 := Lib.hid hset
          clear hgr h20 h2c h2y hb2 hset l0 l1 l2 l3 hadd
          cases DUP
          case false =>
           have hmem : num ∈ KS := by have := HDUP.out; simpa using this
           have HGS : Hid (badX (askN x.2) (nf + k) = some (y.line, y.col)) := by
            refine (?_ : _ = _)
            rw [HDX.out, if_pos (.inr hmem)]
           obtain ⟨Z, hZ, r0, r1, hbZ⟩ := pos_ret H30.out HB3.out (Nat.le_refl _) y.line y.col
           have HZ := Lib.hid hZ
           clear hZ hmem
           go_wp2_with fail
           rw [HZ.out]
           refine bodyPost_ret (v := .tuple #[.agg #[.int .i64 y.line, .int .i64 y.col], .bool true]) (by simp [results, Tryz.results27, go_sem, r0, r1]) rfl ?_
           exact ⟨_, _, _, rfl, hbZ, .inr ⟨rfl, firstS_some HFS.out ((HGN.out _).1 (firstS_some HF2.out HGS.out (by omega))) (by omega)⟩⟩
          case true =>
           have hmem : ¬ num ∈ KS := by have := HDUP.out; simpa using this
           have HGX : Hid (badX (askN x.2) (nf + k) = none) := by
            refine (?_ : _ = _)
            rw [HDX.out, if_neg (by rintro (h | h); cases h; exact hmem h)]
           clear hmem k0 k1 kf0 kf1 p0 p1
           go_wp2_with fail
           go_roundw
           case rel => exact ⟨k + 1, by go_num, by omega, firstS_step HF2.out HGX.out, HB3.out, H30.out, H3C.out, by omega, by first | (rw [← Nat.add_assoc]; rw [HKS.out]; exact HS3.out) | (rw [HKS.out]; exact HS3.out)⟩
           case measure => simp [intOf]; omega
       ·have hkn' : ¬ (k : Int) < (nv : Int) := by omega
        have hke : k = nv := by omega
        have HKE := Lib.hid hke
        have HNO : Hid (numG ps j = none) := by
         refine (?_ : _ = _)
         refine (HGN.out _).1 ?_
         rw [← HKE.out]; exact HF2.out
        clear hke
        go_wp2_with fail
        go_roundw
        case rel => exact ⟨j + 1, by go_num, by omega, firstS_step HFS.out HNO.out, HB2.out, H20.out⟩
        case measure => simp [intOf]; omega
  ·have hjn' : ¬ (j : Int) < (n : Int) := by omega
   have hje : j = n := by omega
   obtain ⟨Z, hZ, r0, r1, hbZ⟩ := pos_ret HX.out HB.out (Nat.le_refl _) 0 0
   have HZ := Lib.hid hZ
   have k0 := cell_at HX.out 0 rfl
   have k1 := cell_at HX.out 1 rfl
   have kf0 := frozen_at HX.out 0
   have kf1 := frozen_at HX.out 1
   have HJE := Lib.hid hje
   clear hZ hje hjn
   go_wp2_with fail
   rw [HZ.out]
   refine bodyPost_ret (v := .tuple #[.agg #[.int .i64 0, .int .i64 0], .bool false]) (by simp [results, Tryz.results27, go_sem, r0, r1]) rfl ?_
   exact ⟨_, _, _, rfl, hbZ, .inl ⟨by rw [← HJE.out]; exact HFS.out, rfl, rfl, rfl⟩⟩
end Go.Proofs.YtpojeinddnjpfaaGreatDoor
