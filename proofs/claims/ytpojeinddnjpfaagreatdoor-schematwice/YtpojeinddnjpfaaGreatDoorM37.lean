/-
  The walk over the program's round of names.
-/
import Derived.Test.YtpojeinddnjpfaaGreatDoorM0
import Derived.Test.YtpojeinddnjpfaaGreatDoorM36
namespace Go.Proofs.YtpojeinddnjpfaaGreatDoor
set_option linter.unusedVariables false
open Go.ChangeShapes Go.WideShapes Go.ChangeAt Go.RowKit Go.Maps

set_option maxHeartbeats 16000000 in
set_option maxRecDepth 20000 in
theorem wrongNameP_any (f : Nat) (ps : List Pl) (v : Value) (w : World) (hn0 : ps.length ≤ 100000) (hm0 : ∀ x ∈ ps, NameFit x.2 ∧ x.1.length ≤ 1000000000) (hH : HeldP 9 (f + 1) w (fun b => b < w.heap.size) v ps) :
  Calls Tryz.prog 26 #[v] w fun e w' => RndAns w (firstS (nameG ps) ps.length) e w' := by
 have HH := Lib.hid hH
 obtain ⟨ad, cc, rfl⟩ := hH.isSl
 obtain ⟨n, hn⟩ : ∃ n, ps.length = n := ⟨_, rfl⟩
 have HN := Lib.hid hn
 rw [hn] at hn0 ⊢
 have HM := Lib.hid hm0
 clear hH hn hm0
 have hmm := @run_makeMap Tryz.prog
 have hWb : Below w.heap.size w ((w.alloc (.cells #[.int .i64 0, .int .i64 0] 31)).alloc (.map #[] 0)) := ((Below.refl _ w).alloc (Nat.le_refl _) _).alloc (by simp) _
 have hW1 : ((w.alloc (.cells #[.int .i64 0, .int .i64 0] 31)).alloc (.map #[] 0)).heap[w.heap.size + 1]? = some (.map #[] 0) := by
  have := alloc_heap_new (w.alloc (.cells #[.int .i64 0, .int .i64 0] 31)) (.map #[] 0)
  simpa using this
 have hW0 : ((w.alloc (.cells #[.int .i64 0, .int .i64 0] 31)).alloc (.map #[] 0)).heap[w.heap.size]? = some (.cells #[.int .i64 0, .int .i64 0] 31 (0, 0)) := by
  rw [alloc_heap_old _ _ _ (by simp)]; exact alloc_heap_new _ _
 go_enter Tryz.func26, Tryz.ntmps26
 go_upto_region 2 with fail
 generalize ((w.alloc (.cells #[.int .i64 0, .int .i64 0] 31)).alloc (.map #[] 0)) = V at *
 have HVB := Lib.hid hWb
 have HV0 := Lib.hid hW0
 have HV1 : Hid (IsSet 9 litS V (w.heap.size + 1) ([] : List (List UInt8))) := isSet_made _ _ hW1
 clear hWb hW0 hW1 hmm
 go_wp2_with fail
 go_loopw [12] (fun i wr => ∃ j : Nat, i = .int .i64 (j : Int) ∧ j ≤ n ∧ firstS (nameG ps) j = none ∧ Below w.heap.size w wr ∧ wr.heap[w.heap.size]? = some (.cells #[.int .i64 0, .int .i64 0] 31 (0, 0)) ∧ IsSet 9 litS wr (w.heap.size + 1) ((ps.take j).map (·.1))) (fun i _ => n - (intOf i).toNat)
 case atStart => exact ⟨0, rfl, Nat.zero_le _, rfl, HVB.out, HV0.out, HV1.out⟩
 case round =>
  generalize wr = w1 at *
  obtain ⟨j, rfl, hj, hfs, hbel, hbox, hset⟩ := hrel
  have HFS := Lib.hid hfs
  have HB := Lib.hid hbel
  have HX := Lib.hid hbox
  have HST := Lib.hid hset
  have hsw := hbel.size
  have hlt := blk_lt hbox
  have hl1 := hset.lt
  clear hfs hbel hbox hset HVB HV0 HV1
  by_cases hjn : j < n
  ·obtain ⟨x, hx⟩ : ∃ x, ps[j]? = some x := ⟨_, List.getElem?_eq_getElem (by have := HN.out; omega)⟩
   obtain ⟨hnf, hwl⟩ := HM.out x (List.mem_of_getElem? hx)
   have HNF := Lib.hid hnf
   have HG : Hid (nameG ps j = if x.1 ∈ (ps.take j).map (·.1) then some (x.2.line, x.2.col) else nameX x.2) := by
    refine (?_ : _ = _)
    unfold nameG
    rw [hx]
   have HKS : Hid ((ps.take (j + 1)).map (·.1) = (ps.take j).map (·.1) ++ [x.1]) := by
    refine (?_ : _ = _)
    rw [take_snoc hx, List.map_append]; rfl
   have hkl : ((ps.take j).map (·.1)).length ≤ j := by simp; omega
   obtain ⟨KS, hKS⟩ : ∃ K, (ps.take j).map (·.1) = K := ⟨_, rfl⟩
   rw [hKS] at HST HKS HG hkl
   clear hKS hnf
   obtain ⟨g, o, c0, fa, fc, va, vc, ma, mc, ia, ic, hsl, hg, e0, e1, e2, e3, e4, e5, e6, e7, e8, kd⟩ := place_at HH.out (W := w1) (fun b hb => HB.out.block b hb) hx
   rw [HN.out] at hsl
   obtain ⟨rfl, rfl⟩ : ad = some ⟨g, o, none⟩ ∧ cc = c0 := by
    injection hsl with h1 _ h3
    exact ⟨h1, h3⟩
   have hj0 : (0 : Int) ≤ (j : Int) := by omega
   have hj1 : (j : Int) < (n : Int) := by omega
   have hwq : IntKind.i64.wrap ((j : Int) + 1) = (j : Int) + 1 := by rw [IntKind.wrap_i64]; omega
   have HKD := Lib.hid kd
   clear hsl kd
   have hC : (w1.alloc (.cells #[.int .i64 x.2.kind, .string (mkB x.2.name), .int .i64 x.2.line, .int .i64 x.2.col, .slice fa x.2.fields.length fc, .slice va x.2.values.length vc, .slice ma x.2.methods.length mc, .slice ia x.2.inner.length ic, .string (mkB x.1)] 117)).heap[w1.heap.size]? = some (.cells #[.int .i64 x.2.kind, .string (mkB x.2.name), .int .i64 x.2.line, .int .i64 x.2.col, .slice fa x.2.fields.length fc, .slice va x.2.values.length vc, .slice ma x.2.methods.length mc, .slice ia x.2.inner.length ic, .string (mkB x.1)] 117 (0, 0)) := alloc_heap_new _ _
   have hCb : Below w1.heap.size w1 (w1.alloc (.cells #[.int .i64 x.2.kind, .string (mkB x.2.name), .int .i64 x.2.line, .int .i64 x.2.col, .slice fa x.2.fields.length fc, .slice va x.2.values.length vc, .slice ma x.2.methods.length mc, .slice ia x.2.inner.length ic, .string (mkB x.1)] 117)) := (Below.refl _ w1).alloc (Nat.le_refl _) _
   go_upto_region 5 with fail
   generalize (w1.alloc (.cells #[.int .i64 x.2.kind, .string (mkB x.2.name), .int .i64 x.2.line, .int .i64 x.2.col, .slice fa x.2.fields.length fc, .slice va x.2.values.length vc, .slice ma x.2.methods.length mc, .slice ia x.2.inner.length ic, .string (mkB x.1)] 117)) = Y at *
   have l0 := cell_at hC 0 rfl
   have l1 := cell_at hC 1 rfl
   have l2 := cell_at hC 2 rfl
   have l3 := cell_at hC 3 rfl
   have l4 := cell_at hC 4 rfl
   have l5 := cell_at hC 5 rfl
   have l6 := cell_at hC 6 rfl
   have l7 := cell_at hC 7 rfl
   have l8 := cell_at hC 8 rfl
   have HBY := Lib.hid (HB.out.trans (hCb.mono hsw))
   have HXY : Hid (Y.heap[w.heap.size]? = some (.cells #[.int .i64 0, .int .i64 0] 31 (0, 0))) := (hCb.block _ hlt).trans HX.out
   have HCY : Hid (Y.heap[w1.heap.size]? = _) := hC
   have hadd := addS_any (w.heap.size + 1) KS x.1 Y (HST.out.old (hCb.block _ hl1)) (by omega) (by omega)
   have hsy : w1.heap.size < Y.heap.size := blk_lt hC
   have HKY : Hid (Kids (f + 1) Y (fun b => b < w.heap.size) _ _ _ _ x.2) := HKD.out.old fun b hb => hCb.block b (by have hb' : b < w.heap.size := hb; omega)
   obtain ⟨DUP, hDUP⟩ : ∃ b, (!decide (x.1 ∈ KS)) = b := ⟨_, rfl⟩
   rw [hDUP] at hadd
   have HDUP := Lib.hid hDUP
   clear hC hCb hDUP e0 e1 e2 e3 e4 e5 e6 e7 e8 HKD
   go_wp2_with fail
   refine hadd.mono ?_
   rintro e W2 ⟨rfl, hset, hgr⟩
   have hb2 : Below w.heap.size w W2 := HBY.out.grown hgr HBY.out.size (fun b hb => by cases hb; omega)
   have h20 : W2.heap[w.heap.size]? = some (.cells #[.int .i64 0, .int .i64 0] 31 (0, 0)) := (hgr.block _ (by omega) (by simp)).trans HXY.out
   have h2c : W2.heap[w1.heap.size]? = _ := (hgr.block _ (by omega) (by simp; omega)).trans HCY.out
   have h2s := hgr.size
   have HK2 : Hid (Kids (f + 1) W2 (fun b => b < W2.heap.size) _ _ _ _ x.2) := (HKY.out.old fun b hb => hgr.block b (by have hb' : b < w.heap.size := hb; omega) (by have hb' : b < w.heap.size := hb; simp; omega)).more fun b hb => by have hb' : b < w.heap.size := hb; omega
   have m0 := cell_at h2c 0 rfl
   have m1 := cell_at h2c 1 rfl
   have m2 := cell_at h2c 2 rfl
   have m3 := cell_at h2c 3 rfl
   have m4 := cell_at h2c 4 rfl
   have m5 := cell_at h2c 5 rfl
   have m6 := cell_at h2c 6 rfl
   have m7 := cell_at h2c 7 rfl
   have m8 := cell_at h2c 8 rfl
   have k0 := cell_at h20 0 rfl
   have k1 := cell_at h20 1 rfl
   have kf0 := frozen_at h20 0
   have kf1 := frozen_at h20 1
   have HB2 := Lib.hid hb2
   have H20 := Lib.hid h20
   have HS2 := Lib.hid hset
   clear hgr h20 h2c hb2 hset l0 l1 l2 l3 l4 l5 l6 l7 l8 hadd HKY
   cases DUP
   case false =>
    have hmem : x.1 ∈ KS := by have := HDUP.out; simpa using this
    have HGS : Hid (nameG ps j = some (x.2.line, x.2.col)) := by
     refine (?_ : _ = _)
     rw [HG.out, if_pos hmem]
    clear hmem
    obtain ⟨Z, hZ, r0, r1, hbZ⟩ := pos_ret H20.out HB2.out (Nat.le_refl _) x.2.line x.2.col
    have HZ := Lib.hid hZ
    clear hZ
    go_wp2_with fail
    rw [HZ.out]
    refine bodyPost_ret (v := .tuple #[.agg #[.int .i64 x.2.line, .int .i64 x.2.col], .bool true]) (by simp [results, Tryz.results26, go_sem, r0, r1]) rfl ?_
    exact ⟨_, _, _, rfl, hbZ, .inr ⟨rfl, firstS_some HFS.out HGS.out (by omega)⟩⟩
   case true =>
    have hmem : ¬ x.1 ∈ KS := by have := HDUP.out; simpa using this
    have HGN : Hid (nameG ps j = nameX x.2) := by
     refine (?_ : _ = _)
     rw [HG.out, if_neg hmem]
    have hcall := nameInP_any f x.2 fa va ma ia fc vc mc ic W2 HNF.out HK2.out
    have hl2 := HS2.out.lt
    clear hmem k0 k1 kf0 kf1
    go_wp2_with fail
    refine hcall.mono ?_
    rintro e W3 ⟨l, c, b, rfl, hb3, hans⟩
    have hV : (W3.alloc (.cells #[.int .i64 l, .int .i64 c] 31)).heap[W3.heap.size]? = some (.cells #[.int .i64 l, .int .i64 c] 31 (0, 0)) := alloc_heap_new _ _
    have hVb : Below W3.heap.size W3 (W3.alloc (.cells #[.int .i64 l, .int .i64 c] 31)) := (Below.refl _ W3).alloc (Nat.le_refl _) _
    have h3s := hb3.size
    go_upto_region 8 with fail
    generalize (W3.alloc (.cells #[.int .i64 l, .int .i64 c] 31)) = U at *
    have hU : Below W2.heap.size W2 U := hb3.trans (hVb.mono h3s)
    have HBU := Lib.hid (HB2.out.trans (hU.mono HB2.out.size))
    have hu0 : U.heap[w.heap.size]? = some (.cells #[.int .i64 0, .int .i64 0] 31 (0, 0)) := (hU.block _ (by omega)).trans H20.out
    have HSU : Hid (IsSet 9 litS U (w.heap.size + 1) (KS ++ [x.1])) := HS2.out.old (hU.block _ hl2)
    have p0 := cell_at hV 0 rfl
    have p1 := cell_at hV 1 rfl
    have k0 := cell_at hu0 0 rfl
    have k1 := cell_at hu0 1 rfl
    have kf0 := frozen_at hu0 0
    have kf1 := frozen_at hu0 1
    have HU0 := Lib.hid hu0
    have HANS := Lib.hid hans
    clear hV hVb hU hu0 hans hb3 hcall m0 m1 m2 m3 m4 m5 m6 m7 m8
    cases b
    case false =>
     have HN0 : Hid (nameG ps j = none) := by
      refine (?_ : _ = _)
      rw [HGN.out]
      rcases HANS.out with ⟨h, _⟩ | ⟨h, _⟩
      ·exact h
      ·cases h
     clear k0 k1 kf0 kf1 p0 p1
     go_wp2_with fail
     go_roundw
     case rel => exact ⟨j + 1, by go_num, by omega, firstS_step HFS.out HN0.out, HBU.out, HU0.out, by rw [HKS.out]; exact HSU.out⟩
     case measure => simp [intOf]; omega
    case true =>
     have HGS : Hid (nameG ps j = some (l, c)) := by
      refine (?_ : _ = _)
      rw [HGN.out]
      rcases HANS.out with ⟨_, h, _⟩ | ⟨_, h⟩
      ·cases h
      ·exact h
     obtain ⟨Z, hZ, r0, r1, hbZ⟩ := pos_ret HU0.out HBU.out (Nat.le_refl _) l c
     have HZ := Lib.hid hZ
     clear hZ
     go_wp2_with fail
     rw [HZ.out]
     refine bodyPost_ret (v := .tuple #[.agg #[.int .i64 l, .int .i64 c], .bool true]) (by simp [results, Tryz.results26, go_sem, r0, r1]) rfl ?_
     exact ⟨_, _, _, rfl, hbZ, .inr ⟨rfl, firstS_some HFS.out HGS.out (by omega)⟩⟩
  ·have hjn' : ¬ (j : Int) < (n : Int) := by omega
   have hje : j = n := by omega
   obtain ⟨Z, hZ, r0, r1, hbZ⟩ := pos_ret HX.out HB.out (Nat.le_refl _) 0 0
   have HZ := Lib.hid hZ
   have k0 := cell_at HX.out 0 rfl
   have k1 := cell_at HX.out 1 rfl
   have kf0 := frozen_at HX.out 0
   have kf1 := frozen_at HX.out 1
   have HJE := Lib.hid hje
   clear hZ hje hjn
   go_wp2_with fail
   rw [HZ.out]
   refine bodyPost_ret (v := .tuple #[.agg #[.int .i64 0, .int .i64 0], .bool false]) (by simp [results, Tryz.results26, go_sem, r0, r1]) rfl ?_
   exact ⟨_, _, _, rfl, hbZ, .inl ⟨by rw [← HJE.out]; exact HFS.out, rfl, rfl, rfl⟩⟩
end Go.Proofs.YtpojeinddnjpfaaGreatDoor
