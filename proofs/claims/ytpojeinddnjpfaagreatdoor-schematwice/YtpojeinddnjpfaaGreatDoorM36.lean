/-
  The walks over the program's round of names.
-/
import Derived.Test.YtpojeinddnjpfaaGreatDoorM0
import Derived.Test.YtpojeinddnjpfaaGreatDoorM19
namespace Go.Proofs.YtpojeinddnjpfaaGreatDoor
set_option linter.unusedVariables false
open Go.ChangeShapes Go.WideShapes Go.ChangeAt Go.RowKit Go.Maps

def keysAt (d : Dc) (t : Nat) : List (List UInt8) := d.inner.map (·.name) ++ ((askL d).take t).map (·.1)
theorem keysAt_step {d : Dc} {t : Nat} {a : List UInt8 × (Int × Int)} (h : (askL d)[t]? = some a) : keysAt d (t + 1) = keysAt d t ++ [a.1] := by
 unfold keysAt
 rw [take_snoc h, List.map_append, List.append_assoc]; rfl
theorem dupX_at {d : Dc} {t : Nat} {a : List UInt8 × (Int × Int)} (h : (askL d)[t]? = some a) : dupX (d.inner.map (·.name)) (askL d) t = if a.1 ∈ keysAt d t then some a.2 else none := by
 unfold dupX
 rw [h]; rfl
theorem keysAt_len (d : Dc) (t : Nat) : (keysAt d t).length ≤ d.inner.length + t := by
 unfold keysAt
 simp only [List.length_append, List.length_map, List.length_take]
 omega
theorem ask_f {d : Dc} {k : Nat} {y : Fd} (h : d.fields[k]? = some y) : (askL d)[k]? = some (y.name, (y.line, y.col)) := by
 unfold askL
 have hk := (List.getElem?_eq_some_iff.1 h).1
 rw [List.getElem?_append_left (by simpa using hk), List.getElem?_map, h]; rfl
theorem ask_v {d : Dc} {k : Nat} {y : Vl} (h : d.values[k]? = some y) : (askL d)[d.fields.length + k]? = some (y.name, (y.line, y.col)) := by
 unfold askL
 have hk := (List.getElem?_eq_some_iff.1 h).1
 rw [List.getElem?_append_right (by simp), List.getElem?_append_left (by simp; omega), List.getElem?_map]
 simp [h]
theorem ask_m {d : Dc} {k : Nat} {y : Mt} (h : d.methods[k]? = some y) : (askL d)[d.fields.length + d.values.length + k]? = some (y.name, (y.line, y.col)) := by
 unfold askL
 have hk := (List.getElem?_eq_some_iff.1 h).1
 rw [List.getElem?_append_right (by simp; omega), List.getElem?_append_right (by simp; omega), List.getElem?_map]
 have : d.fields.length + d.values.length + k - (d.fields.map fun f => (f.name, (f.line, f.col))).length - (d.values.map fun f => (f.name, (f.line, f.col))).length = k := by simp; omega
 rw [this, h]; rfl
theorem ask_len (d : Dc) : (askL d).length = d.fields.length + d.values.length + d.methods.length := by
 unfold askL
 simp only [List.length_append, List.length_map]
 omega
def NameFit (d : Dc) : Prop := (d.inner.length ≤ 100000 ∧ d.fields.length ≤ 100000 ∧ d.values.length ≤ 100000 ∧ d.methods.length ≤ 100000) ∧ (∀ x ∈ d.inner, x.name.length ≤ 1000000000) ∧ (∀ x ∈ d.fields, x.name.length ≤ 1000000000) ∧ (∀ x ∈ d.values, x.name.length ≤ 1000000000) ∧ (∀ x ∈ d.methods, x.name.length ≤ 1000000000)
set_option maxHeartbeats 16000000 in
set_option maxRecDepth 20000 in
theorem nameInP_any (f : Nat) (d : Dc) (fa va ma ia : Option Addr) (fc vc mc ic : Nat) (w : World) (hft : NameFit d) (kd : Kids (f + 1) w (fun b => b < w.heap.size) (.slice fa d.fields.length fc) (.slice va d.values.length vc) (.slice ma d.methods.length mc) (.slice ia d.inner.length ic) d) :
  Calls Tryz.prog 58 #[.agg #[.int .i64 d.kind, .string (mkB d.name), .int .i64 d.line, .int .i64 d.col, .slice fa d.fields.length fc, .slice va d.values.length vc, .slice ma d.methods.length mc, .slice ia d.inner.length ic]] w fun e w' => RndAns w (nameX d) e w' := by
 have HFT := Lib.hid hft
 have HKD := Lib.hid kd
 obtain ⟨⟨hni, hnf, hnv, hnm⟩, -⟩ := hft
 obtain ⟨ni, hni'⟩ : ∃ n, d.inner.length = n := ⟨_, rfl⟩
 obtain ⟨nf, hnf'⟩ : ∃ n, d.fields.length = n := ⟨_, rfl⟩
 obtain ⟨nv, hnv'⟩ : ∃ n, d.values.length = n := ⟨_, rfl⟩
 obtain ⟨nm, hnm'⟩ : ∃ n, d.methods.length = n := ⟨_, rfl⟩
 have HNI := Lib.hid hni'
 have HNF := Lib.hid hnf'
 have HNV := Lib.hid hnv'
 have HNM := Lib.hid hnm'
 rw [hni'] at hni
 rw [hnf'] at hnf
 rw [hnv'] at hnv
 rw [hnm'] at hnm
 rw [hni', hnf', hnv', hnm'] at HKD ⊢
 obtain ⟨RES, hRES⟩ : ∃ r, nameX d = r := ⟨_, rfl⟩
 have HRES : Hid (∀ p, firstS (dupX (d.inner.map (·.name)) (askL d)) (nf + nv + nm) = p ↔ RES = p) := by
  refine (?_ : ∀ _, _)
  intro p
  rw [← hRES]; unfold nameX; rw [ask_len, hnf', hnv', hnm']
 rw [hRES]
 clear kd hni' hnf' hnv' hnm' hRES
 go_enter Tryz.func58, Tryz.ntmps58
 have hmm := @run_makeMap Tryz.prog
 have hV0 : (w.alloc (.cells #[.int .i64 d.kind, .string (mkB d.name), .int .i64 d.line, .int .i64 d.col, .slice fa nf fc, .slice va nv vc, .slice ma nm mc, .slice ia ni ic] 69)).heap[w.heap.size]? = some (.cells #[.int .i64 d.kind, .string (mkB d.name), .int .i64 d.line, .int .i64 d.col, .slice fa nf fc, .slice va nv vc, .slice ma nm mc, .slice ia ni ic] 69 (0, 0)) := alloc_heap_new _ _
 have hV1 : ((w.alloc (.cells #[.int .i64 d.kind, .string (mkB d.name), .int .i64 d.line, .int .i64 d.col, .slice fa nf fc, .slice va nv vc, .slice ma nm mc, .slice ia ni ic] 69)).alloc (.cells #[.int .i64 0, .int .i64 0] 31)).heap[w.heap.size + 1]? = some (.cells #[.int .i64 0, .int .i64 0] 31 (0, 0)) := by
  have := alloc_heap_new (w.alloc (.cells #[.int .i64 d.kind, .string (mkB d.name), .int .i64 d.line, .int .i64 d.col, .slice fa nf fc, .slice va nv vc, .slice ma nm mc, .slice ia ni ic] 69)) (.cells #[.int .i64 0, .int .i64 0] 31)
  simpa using this
 have hVb : Below w.heap.size w (((w.alloc (.cells #[.int .i64 d.kind, .string (mkB d.name), .int .i64 d.line, .int .i64 d.col, .slice fa nf fc, .slice va nv vc, .slice ma nm mc, .slice ia ni ic] 69)).alloc (.cells #[.int .i64 0, .int .i64 0] 31)).alloc (.map #[] 0)) := (((Below.refl _ w).alloc (Nat.le_refl _) _).alloc (by simp) _).alloc (by simp; omega) _
 have hW2 : (((w.alloc (.cells #[.int .i64 d.kind, .string (mkB d.name), .int .i64 d.line, .int .i64 d.col, .slice fa nf fc, .slice va nv vc, .slice ma nm mc, .slice ia ni ic] 69)).alloc (.cells #[.int .i64 0, .int .i64 0] 31)).alloc (.map #[] 0)).heap[w.heap.size + 2]? = some (.map #[] 0) := by
  have := alloc_heap_new ((w.alloc (.cells #[.int .i64 d.kind, .string (mkB d.name), .int .i64 d.line, .int .i64 d.col, .slice fa nf fc, .slice va nv vc, .slice ma nm mc, .slice ia ni ic] 69)).alloc (.cells #[.int .i64 0, .int .i64 0] 31)) (.map #[] 0)
  simpa using this
 have hW0 : (((w.alloc (.cells #[.int .i64 d.kind, .string (mkB d.name), .int .i64 d.line, .int .i64 d.col, .slice fa nf fc, .slice va nv vc, .slice ma nm mc, .slice ia ni ic] 69)).alloc (.cells #[.int .i64 0, .int .i64 0] 31)).alloc (.map #[] 0)).heap[w.heap.size]? = some (.cells #[.int .i64 d.kind, .string (mkB d.name), .int .i64 d.line, .int .i64 d.col, .slice fa nf fc, .slice va nv vc, .slice ma nm mc, .slice ia ni ic] 69 (0, 0)) := by
  rw [alloc_heap_old _ _ _ (by simp; omega), alloc_heap_old _ _ _ (by simp)]; exact hV0
 have hW1 : (((w.alloc (.cells #[.int .i64 d.kind, .string (mkB d.name), .int .i64 d.line, .int .i64 d.col, .slice fa nf fc, .slice va nv vc, .slice ma nm mc, .slice ia ni ic] 69)).alloc (.cells #[.int .i64 0, .int .i64 0] 31)).alloc (.map #[] 0)).heap[w.heap.size + 1]? = some (.cells #[.int .i64 0, .int .i64 0] 31 (0, 0)) := by
  rw [alloc_heap_old _ _ _ (by simp)]; exact hV1
 clear hV0 hV1
 go_upto_region 2 with fail
 generalize (((w.alloc (.cells #[.int .i64 d.kind, .string (mkB d.name), .int .i64 d.line, .int .i64 d.col, .slice fa nf fc, .slice va nv vc, .slice ma nm mc, .slice ia ni ic] 69)).alloc (.cells #[.int .i64 0, .int .i64 0] 31)).alloc (.map #[] 0)) = V at *
 have q7 := cell_at hW0 7 rfl
 have HVB := Lib.hid hVb
 have HV0 := Lib.hid hW0
 have HV1 := Lib.hid hW1
 have HV2 : Hid (IsSet 9 litS V (w.heap.size + 2) ([] : List (List UInt8))) := isSet_made _ _ hW2
 clear hVb hW0 hW1 hW2 hmm
 go_wp2_with fail
 clear q7
 go_loopw [17] (fun i wr => ∃ k : Nat, i = .int .i64 (k : Int) ∧ k ≤ ni ∧ Below w.heap.size w wr ∧ wr.heap[w.heap.size]? = some (.cells #[.int .i64 d.kind, .string (mkB d.name), .int .i64 d.line, .int .i64 d.col, .slice fa nf fc, .slice va nv vc, .slice ma nm mc, .slice ia ni ic] 69 (0, 0)) ∧ wr.heap[w.heap.size + 1]? = some (.cells #[.int .i64 0, .int .i64 0] 31 (0, 0)) ∧ IsSet 9 litS wr (w.heap.size + 2) ((d.inner.take k).map (·.name))) (fun i _ => ni - (intOf i).toNat)
 case atStart => exact ⟨0, rfl, Nat.zero_le _, HVB.out, HV0.out, HV1.out, HV2.out⟩
 case round =>
  generalize wr = w1 at *
  obtain ⟨k, rfl, hk, hbel, hd0, hd1, hd2⟩ := hrel
  clear HVB HV0 HV1 HV2
  have HB := Lib.hid hbel
  have H0 := Lib.hid hd0
  have H1 := Lib.hid hd1
  have H2 := Lib.hid hd2
  have hsw := hbel.size
  have hl2 := hd2.lt
  clear hbel hd0 hd1 hd2
  by_cases hkn : k < ni
  ·obtain ⟨y, hy⟩ : ∃ y, d.inner[k]? = some y := ⟨_, List.getElem?_eq_getElem (by have := HNI.out; omega)⟩
   obtain ⟨g, o, c0, ga, gc, ha, hc, ka, kc, na, nc, hsl, hg, e0, e1, e2, e3, e4, e5, e6, e7, kd⟩ := decl_at HKD.out.2.2.2 (W := w1) (fun b hb => HB.out.block b hb) hy
   rw [HNI.out] at hsl
   obtain ⟨rfl, rfl⟩ : ia = some ⟨g, o, none⟩ ∧ ic = c0 := by
    injection hsl with h1 _ h3
    exact ⟨h1, h3⟩
   have hnl := HFT.out.2.1 y (List.mem_of_getElem? hy)
   have hk0 : (0 : Int) ≤ (k : Int) := by omega
   have hk1 : (k : Int) < (ni : Int) := by omega
   have hwq : IntKind.i64.wrap ((k : Int) + 1) = (k : Int) + 1 := by rw [IntKind.wrap_i64]; omega
   have HKS : Hid ((d.inner.take (k + 1)).map (·.name) = (d.inner.take k).map (·.name) ++ [y.name]) := by
    refine (?_ : _ = _)
    rw [take_snoc hy, List.map_append]; rfl
   have hkl : ((d.inner.take k).map (·.name)).length ≤ k := by simp; omega
   obtain ⟨KS, hKS⟩ : ∃ K, (d.inner.take k).map (·.name) = K := ⟨_, rfl⟩
   rw [hKS] at H2 HKS hkl
   clear hsl hKS kd
   have hC : (w1.alloc (.cells #[.int .i64 y.kind, .string (mkB y.name), .int .i64 y.line, .int .i64 y.col, .slice ga y.fields.length gc, .slice ha y.values.length hc, .slice ka y.methods.length kc, .slice na y.inner.length nc] 69)).heap[w1.heap.size]? = some (.cells #[.int .i64 y.kind, .string (mkB y.name), .int .i64 y.line, .int .i64 y.col, .slice ga y.fields.length gc, .slice ha y.values.length hc, .slice ka y.methods.length kc, .slice na y.inner.length nc] 69 (0, 0)) := alloc_heap_new _ _
   have hCb : Below w1.heap.size w1 (w1.alloc (.cells #[.int .i64 y.kind, .string (mkB y.name), .int .i64 y.line, .int .i64 y.col, .slice ga y.fields.length gc, .slice ha y.values.length hc, .slice ka y.methods.length kc, .slice na y.inner.length nc] 69)) := (Below.refl _ w1).alloc (Nat.le_refl _) _
   go_upto_region 5 with fail
   generalize (w1.alloc (.cells #[.int .i64 y.kind, .string (mkB y.name), .int .i64 y.line, .int .i64 y.col, .slice ga y.fields.length gc, .slice ha y.values.length hc, .slice ka y.methods.length kc, .slice na y.inner.length nc] 69)) = Y at *
   have l1 := cell_at hC 1 rfl
   have HBY := Lib.hid (HB.out.trans (hCb.mono hsw))
   have HY0 : Hid (Y.heap[w.heap.size]? = _) := (hCb.block _ (by omega)).trans H0.out
   have HY1 : Hid (Y.heap[w.heap.size + 1]? = _) := (hCb.block _ (by omega)).trans H1.out
   have hadd := addS_any (w.heap.size + 2) KS y.name Y (H2.out.old (hCb.block _ hl2)) (by omega) (by omega)
   have hsy : w1.heap.size < Y.heap.size := blk_lt hC
   clear hC hCb e0 e1 e2 e3 e4 e5 e6 e7
   go_wp2_with fail
   refine hadd.mono ?_
   rintro e W2 ⟨rfl, hset, hgr⟩
   have hb2 : Below w.heap.size w W2 := HBY.out.grown hgr HBY.out.size (fun b hb => by cases hb; omega)
   have h20 : W2.heap[w.heap.size]? = _ := (hgr.block _ (by omega) (by simp)).trans HY0.out
   have h21 : W2.heap[w.heap.size + 1]? = _ := (hgr.block _ (by omega) (by simp)).trans HY1.out
   have HB2 := Lib.hid hb2
   have H20 := Lib.hid h20
   have H21 := Lib.hid h21
   have HS2 := Lib.hid hset
   clear hgr h20 h21 hb2 hset l1 hadd
   go_wp2_with fail
   go_roundw
   case rel => exact ⟨k + 1, by go_num, by omega, HB2.out, H20.out, H21.out, by rw [HKS.out]; exact HS2.out⟩
   case measure => simp [intOf]; omega
  ·have hkn' : ¬ (k : Int) < (ni : Int) := by omega
   have hke : k = ni := by omega
   have q4 := cell_at H0.out 4 rfl
   have HS0 : Hid (IsSet 9 litS w1 (w.heap.size + 2) (keysAt d 0)) := by
    refine (?_ : IsSet _ _ _ _ _)
    have := H2.out
    rw [hke, List.take_of_length_le (by have := HNI.out; omega)] at this
    unfold keysAt
    simpa using this
   clear hke hkn H2 hk hl2
   go_wp2_with fail
   clear q4 hkn'
   go_loopw [29] (fun i wr => ∃ k : Nat, i = .int .i64 (k : Int) ∧ k ≤ nf ∧ firstS (dupX (d.inner.map (·.name)) (askL d)) (k) = none ∧ Below w.heap.size w wr ∧ wr.heap[w.heap.size]? = some (.cells #[.int .i64 d.kind, .string (mkB d.name), .int .i64 d.line, .int .i64 d.col, .slice fa nf fc, .slice va nv vc, .slice ma nm mc, .slice ia ni ic] 69 (0, 0)) ∧ wr.heap[w.heap.size + 1]? = some (.cells #[.int .i64 0, .int .i64 0] 31 (0, 0)) ∧ IsSet 9 litS wr (w.heap.size + 2) (keysAt d (k))) (fun i _ => nf - (intOf i).toNat)
   case atStart => exact ⟨0, rfl, Nat.zero_le _, rfl, HB.out, H0.out, H1.out, HS0.out⟩
   case round =>
    generalize wr = w1 at *
    obtain ⟨k, rfl, hk, hfs, hbel, hd0, hd1, hd2⟩ := hrel
    have HFS := Lib.hid hfs
    clear hfs
    have HB := Lib.hid hbel
    have H0 := Lib.hid hd0
    have H1 := Lib.hid hd1
    have H2 := Lib.hid hd2
    have hsw := hbel.size
    have hl2 := hd2.lt
    clear hbel hd0 hd1 hd2
    by_cases hkn : k < nf
    ·obtain ⟨y, hy⟩ : ∃ y, d.fields[k]? = some y := ⟨_, List.getElem?_eq_getElem (by have := HNF.out; omega)⟩
     have hask : (askL d)[k]? = some (y.name, (y.line, y.col)) := ask_f hy
     obtain ⟨g, o, c0, hsl, hg, e0, e1, e2, e3, e4, e5⟩ := field_at HKD.out.1 (W := w1) (fun b hb => HB.out.block b hb) hy
     rw [HNF.out] at hsl
     obtain ⟨rfl, rfl⟩ : fa = some ⟨g, o, none⟩ ∧ fc = c0 := by
      injection hsl with h1 _ h3
      exact ⟨h1, h3⟩
     have HDX := Lib.hid (dupX_at hask)
     have HKS := Lib.hid (keysAt_step hask)
     have hkl := keysAt_len d (k)
     rw [HNI.out] at hkl
     have hnl := HFT.out.2.2.1 y (List.mem_of_getElem? hy)
     have hk0 : (0 : Int) ≤ (k : Int) := by omega
     have hk1 : (k : Int) < (nf : Int) := by omega
     have hwq : IntKind.i64.wrap ((k : Int) + 1) = (k : Int) + 1 := by rw [IntKind.wrap_i64]; omega
     obtain ⟨KS, hKS⟩ : ∃ K, keysAt d (k) = K := ⟨_, rfl⟩
     rw [hKS] at H2 HDX HKS hkl
     clear hsl hask hKS
     have hC : (w1.alloc (.cells #[.bool y.rep, .string (mkB y.type), .string (mkB y.name), .int .i64 y.num, .int .i64 y.line, .int .i64 y.col] 71)).heap[w1.heap.size]? = some (.cells #[.bool y.rep, .string (mkB y.type), .string (mkB y.name), .int .i64 y.num, .int .i64 y.line, .int .i64 y.col] 71 (0, 0)) := alloc_heap_new _ _
     have hCb : Below w1.heap.size w1 (w1.alloc (.cells #[.bool y.rep, .string (mkB y.type), .string (mkB y.name), .int .i64 y.num, .int .i64 y.line, .int .i64 y.col] 71)) := (Below.refl _ w1).alloc (Nat.le_refl _) _
     go_upto_region 10 with fail
     generalize (w1.alloc (.cells #[.bool y.rep, .string (mkB y.type), .string (mkB y.name), .int .i64 y.num, .int .i64 y.line, .int .i64 y.col] 71)) = Y at *
     have l0 := cell_at hC 0 rfl
     have l1 := cell_at hC 1 rfl
     have l2 := cell_at hC 2 rfl
     have l3 := cell_at hC 3 rfl
     have l4 := cell_at hC 4 rfl
     have l5 := cell_at hC 5 rfl
     have HBY := Lib.hid (HB.out.trans (hCb.mono hsw))
     have HY0 : Hid (Y.heap[w.heap.size]? = _) := (hCb.block _ (by omega)).trans H0.out
     have HY1 : Hid (Y.heap[w.heap.size + 1]? = _) := (hCb.block _ (by omega)).trans H1.out
     have hadd := addS_any (w.heap.size + 2) KS y.name Y (H2.out.old (hCb.block _ hl2)) (by omega) (by omega)
     have HCY : Hid (Y.heap[w1.heap.size]? = _) := hC
     have hsy : w1.heap.size < Y.heap.size := blk_lt hC
     obtain ⟨DUP, hDUP⟩ : ∃ b, (!decide (y.name ∈ KS)) = b := ⟨_, rfl⟩
     rw [hDUP] at hadd
     have HDUP := Lib.hid hDUP
     clear hC hCb hDUP e0 e1 e2 e3 e4 e5
     go_wp2_with fail
     refine hadd.mono ?_
     rintro e W2 ⟨rfl, hset, hgr⟩
     have hb2 : Below w.heap.size w W2 := HBY.out.grown hgr HBY.out.size (fun b hb => by cases hb; omega)
     have h20 : W2.heap[w.heap.size]? = _ := (hgr.block _ (by omega) (by simp)).trans HY0.out
     have h21 : W2.heap[w.heap.size + 1]? = _ := (hgr.block _ (by omega) (by simp)).trans HY1.out
     have h2c : W2.heap[w1.heap.size]? = _ := (hgr.block _ (by omega) (by simp; omega)).trans HCY.out
     have p0 := cell_at h2c 4 rfl
     have p1 := cell_at h2c 5 rfl
     have k0 := cell_at h21 0 rfl
     have k1 := cell_at h21 1 rfl
     have kf0 := frozen_at h21 0
     have kf1 := frozen_at h21 1
     have HB2 := Lib.hid hb2
     have H20 := Lib.hid h20
     have H21 := Lib.hid h21
     have HS2 := Lib.hid hset
     clear hgr h20 h21 h2c hb2 hset l0 l1 l2 l3 l4 l5 hadd
     cases DUP
     case false =>
      have hmem : y.name ∈ KS := by have := HDUP.out; simpa using this
      have HGS : Hid (dupX (d.inner.map (·.name)) (askL d) (k) = some (y.line, y.col)) := by
       refine (?_ : _ = _)
       rw [HDX.out, if_pos hmem]
      obtain ⟨Z, hZ, r0, r1, hbZ⟩ := pos_ret H21.out HB2.out (by omega) y.line y.col
      have HZ := Lib.hid hZ
      clear hZ hmem
      go_wp2_with fail
      rw [HZ.out]
      refine bodyPost_ret (v := .tuple #[.agg #[.int .i64 y.line, .int .i64 y.col], .bool true]) (by simp [results, Tryz.results58, go_sem, r0, r1]) rfl ?_
      exact ⟨_, _, _, rfl, hbZ, .inr ⟨rfl, (HRES.out _).1 (firstS_some HFS.out HGS.out (by omega))⟩⟩
     case true =>
      have hmem : ¬ y.name ∈ KS := by have := HDUP.out; simpa using this
      have HGN : Hid (dupX (d.inner.map (·.name)) (askL d) (k) = none) := by
       refine (?_ : _ = _)
       rw [HDX.out, if_neg hmem]
      clear hmem
      go_wp2_with fail
      go_roundw
      case rel => exact ⟨k + 1, by go_num, by omega, firstS_step HFS.out HGN.out, HB2.out, H20.out, H21.out, by rw [show k + 1 = (k) + 1 from rfl] at *; first | (rw [← Nat.add_assoc]; rw [HKS.out]; exact HS2.out) | (rw [HKS.out]; exact HS2.out)⟩
      case measure => simp [intOf]; omega
    ·have hkn' : ¬ (k : Int) < (nf : Int) := by omega
     have hke : k = nf := by omega
     have HKE := Lib.hid hke
     have q5 := cell_at H0.out 5 rfl
     have HFN : Hid (firstS (dupX (d.inner.map (·.name)) (askL d)) (nf + 0) = none) := by
      refine (?_ : _ = _)
      have := HFS.out; rw [HKE.out] at this; exact this
     have HSN : Hid (IsSet 9 litS w1 (w.heap.size + 2) (keysAt d (nf + 0))) := by
      refine (?_ : IsSet _ _ _ _ _)
      have := H2.out; rw [HKE.out] at this; exact this
     clear hke hkn H2 hk hl2 HFS HKE
     go_wp2_with fail
     clear q5 hkn'
     go_loopw [44] (fun i wr => ∃ k : Nat, i = .int .i64 (k : Int) ∧ k ≤ nv ∧ firstS (dupX (d.inner.map (·.name)) (askL d)) (nf + k) = none ∧ Below w.heap.size w wr ∧ wr.heap[w.heap.size]? = some (.cells #[.int .i64 d.kind, .string (mkB d.name), .int .i64 d.line, .int .i64 d.col, .slice fa nf fc, .slice va nv vc, .slice ma nm mc, .slice ia ni ic] 69 (0, 0)) ∧ wr.heap[w.heap.size + 1]? = some (.cells #[.int .i64 0, .int .i64 0] 31 (0, 0)) ∧ IsSet 9 litS wr (w.heap.size + 2) (keysAt d (nf + k))) (fun i _ => nv - (intOf i).toNat)
     case atStart => exact ⟨0, rfl, Nat.zero_le _, HFN.out, HB.out, H0.out, H1.out, HSN.out⟩
     case round =>
      generalize wr = w1 at *
      obtain ⟨k, rfl, hk, hfs, hbel, hd0, hd1, hd2⟩ := hrel
      have HFS := Lib.hid hfs
      clear hfs
      have HB := Lib.hid hbel
      have H0 := Lib.hid hd0
      have H1 := Lib.hid hd1
      have H2 := Lib.hid hd2
      have hsw := hbel.size
      have hl2 := hd2.lt
      clear hbel hd0 hd1 hd2
      by_cases hkn : k < nv
      ·obtain ⟨y, hy⟩ : ∃ y, d.values[k]? = some y := ⟨_, List.getElem?_eq_getElem (by have := HNV.out; omega)⟩
       have hask : (askL d)[nf + k]? = some (y.name, (y.line, y.col)) := by have := ask_v hy; rw [HNF.out] at this; exact this
       obtain ⟨g, o, c0, hsl, hg, e0, e1, e2, e3⟩ := value_at HKD.out.2.1 (W := w1) (fun b hb => HB.out.block b hb) hy
       rw [HNV.out] at hsl
       obtain ⟨rfl, rfl⟩ : va = some ⟨g, o, none⟩ ∧ vc = c0 := by
        injection hsl with h1 _ h3
        exact ⟨h1, h3⟩
       have HDX := Lib.hid (dupX_at hask)
       have HKS := Lib.hid (keysAt_step hask)
       have hkl := keysAt_len d (nf + k)
       rw [HNI.out] at hkl
       have hnl := HFT.out.2.2.2.1 y (List.mem_of_getElem? hy)
       have hk0 : (0 : Int) ≤ (k : Int) := by omega
       have hk1 : (k : Int) < (nv : Int) := by omega
       have hwq : IntKind.i64.wrap ((k : Int) + 1) = (k : Int) + 1 := by rw [IntKind.wrap_i64]; omega
       obtain ⟨KS, hKS⟩ : ∃ K, keysAt d (nf + k) = K := ⟨_, rfl⟩
       rw [hKS] at H2 HDX HKS hkl
       clear hsl hask hKS
       have hC : (w1.alloc (.cells #[.string (mkB y.name), .int .i64 y.num, .int .i64 y.line, .int .i64 y.col] 74)).heap[w1.heap.size]? = some (.cells #[.string (mkB y.name), .int .i64 y.num, .int .i64 y.line, .int .i64 y.col] 74 (0, 0)) := alloc_heap_new _ _
       have hCb : Below w1.heap.size w1 (w1.alloc (.cells #[.string (mkB y.name), .int .i64 y.num, .int .i64 y.line, .int .i64 y.col] 74)) := (Below.refl _ w1).alloc (Nat.le_refl _) _
       go_upto_region 16 with fail
       generalize (w1.alloc (.cells #[.string (mkB y.name), .int .i64 y.num, .int .i64 y.line, .int .i64 y.col] 74)) = Y at *
       have l0 := cell_at hC 0 rfl
       have l1 := cell_at hC 1 rfl
       have l2 := cell_at hC 2 rfl
       have l3 := cell_at hC 3 rfl
       have HBY := Lib.hid (HB.out.trans (hCb.mono hsw))
       have HY0 : Hid (Y.heap[w.heap.size]? = _) := (hCb.block _ (by omega)).trans H0.out
       have HY1 : Hid (Y.heap[w.heap.size + 1]? = _) := (hCb.block _ (by omega)).trans H1.out
       have hadd := addS_any (w.heap.size + 2) KS y.name Y (H2.out.old (hCb.block _ hl2)) (by omega) (by omega)
       have HCY : Hid (Y.heap[w1.heap.size]? = _) := hC
       have hsy : w1.heap.size < Y.heap.size := blk_lt hC
       obtain ⟨DUP, hDUP⟩ : ∃ b, (!decide (y.name ∈ KS)) = b := ⟨_, rfl⟩
       rw [hDUP] at hadd
       have HDUP := Lib.hid hDUP
       clear hC hCb hDUP e0 e1 e2 e3
       go_wp2_with fail
       refine hadd.mono ?_
       rintro e W2 ⟨rfl, hset, hgr⟩
       have hb2 : Below w.heap.size w W2 := HBY.out.grown hgr HBY.out.size (fun b hb => by cases hb; omega)
       have h20 : W2.heap[w.heap.size]? = _ := (hgr.block _ (by omega) (by simp)).trans HY0.out
       have h21 : W2.heap[w.heap.size + 1]? = _ := (hgr.block _ (by omega) (by simp)).trans HY1.out
       have h2c : W2.heap[w1.heap.size]? = _ := (hgr.block _ (by omega) (by simp; omega)).trans HCY.out
       have p0 := cell_at h2c 2 rfl
       have p1 := cell_at h2c 3 rfl
       have k0 := cell_at h21 0 rfl
       have k1 := cell_at h21 1 rfl
       have kf0 := frozen_at h21 0
       have kf1 := frozen_at h21 1
       have HB2 := Lib.hid hb2
       have H20 := Lib.hid h20
       have H21 := Lib.hid h21
       have HS2 := Lib.hid hset
       clear hgr h20 h21 h2c hb2 hset l0 l1 l2 l3 hadd
       cases DUP
       case false =>
        have hmem : y.name ∈ KS := by have := HDUP.out; simpa using this
        have HGS : Hid (dupX (d.inner.map (·.name)) (askL d) (nf + k) = some (y.line, y.col)) := by
         refine (?_ : _ = _)
         rw [HDX.out, if_pos hmem]
        obtain ⟨Z, hZ, r0, r1, hbZ⟩ := pos_ret H21.out HB2.out (by omega) y.line y.col
        have HZ := Lib.hid hZ
        clear hZ hmem
        go_wp2_with fail
        rw [HZ.out]
        refine bodyPost_ret (v := .tuple #[.agg #[.int .i64 y.line, .int .i64 y.col], .bool true]) (by simp [results, Tryz.results58, go_sem, r0, r1]) rfl ?_
        exact ⟨_, _, _, rfl, hbZ, .inr ⟨rfl, (HRES.out _).1 (firstS_some HFS.out HGS.out (by omega))⟩⟩
       case true =>
        have hmem : ¬ y.name ∈ KS := by have := HDUP.out; simpa using this
        have HGN : Hid (dupX (d.inner.map (·.name)) (askL d) (nf + k) = none) := by
         refine (?_ : _ = _)
         rw [HDX.out, if_neg hmem]
        clear hmem
        go_wp2_with fail
        go_roundw
        case rel => exact ⟨k + 1, by go_num, by omega, firstS_step HFS.out HGN.out, HB2.out, H20.out, H21.out, by rw [show nf + k + 1 = (nf + k) + 1 from rfl] at *; first | (rw [← Nat.add_assoc]; rw [HKS.out]; exact HS2.out) | (rw [HKS.out]; exact HS2.out)⟩
        case measure => simp [intOf]; omega
      ·have hkn' : ¬ (k : Int) < (nv : Int) := by omega
       have hke : k = nv := by omega
       have HKE := Lib.hid hke
       have q6 := cell_at H0.out 6 rfl
       have HFN : Hid (firstS (dupX (d.inner.map (·.name)) (askL d)) (nf + nv + 0) = none) := by
        refine (?_ : _ = _)
        have := HFS.out; rw [HKE.out] at this; exact this
       have HSN : Hid (IsSet 9 litS w1 (w.heap.size + 2) (keysAt d (nf + nv + 0))) := by
        refine (?_ : IsSet _ _ _ _ _)
        have := H2.out; rw [HKE.out] at this; exact this
       clear hke hkn H2 hk hl2 HFS HKE
       go_wp2_with fail
       clear q6 hkn'
       go_loopw [59] (fun i wr => ∃ k : Nat, i = .int .i64 (k : Int) ∧ k ≤ nm ∧ firstS (dupX (d.inner.map (·.name)) (askL d)) (nf + nv + k) = none ∧ Below w.heap.size w wr ∧ wr.heap[w.heap.size]? = some (.cells #[.int .i64 d.kind, .string (mkB d.name), .int .i64 d.line, .int .i64 d.col, .slice fa nf fc, .slice va nv vc, .slice ma nm mc, .slice ia ni ic] 69 (0, 0)) ∧ wr.heap[w.heap.size + 1]? = some (.cells #[.int .i64 0, .int .i64 0] 31 (0, 0)) ∧ IsSet 9 litS wr (w.heap.size + 2) (keysAt d (nf + nv + k))) (fun i _ => nm - (intOf i).toNat)
       case atStart => exact ⟨0, rfl, Nat.zero_le _, HFN.out, HB.out, H0.out, H1.out, HSN.out⟩
       case round =>
        generalize wr = w1 at *
        obtain ⟨k, rfl, hk, hfs, hbel, hd0, hd1, hd2⟩ := hrel
        have HFS := Lib.hid hfs
        clear hfs
        have HB := Lib.hid hbel
        have H0 := Lib.hid hd0
        have H1 := Lib.hid hd1
        have H2 := Lib.hid hd2
        have hsw := hbel.size
        have hl2 := hd2.lt
        clear hbel hd0 hd1 hd2
        by_cases hkn : k < nm
        ·obtain ⟨y, hy⟩ : ∃ y, d.methods[k]? = some y := ⟨_, List.getElem?_eq_getElem (by have := HNM.out; omega)⟩
         have hask : (askL d)[nf + nv + k]? = some (y.name, (y.line, y.col)) := by have := ask_m hy; rw [HNF.out, HNV.out] at this; exact this
         obtain ⟨g, o, c0, hsl, hg, e0, e1, e2, e3, e4⟩ := meth_at HKD.out.2.2.1 (W := w1) (fun b hb => HB.out.block b hb) hy
         rw [HNM.out] at hsl
         obtain ⟨rfl, rfl⟩ : ma = some ⟨g, o, none⟩ ∧ mc = c0 := by
          injection hsl with h1 _ h3
          exact ⟨h1, h3⟩
         have HDX := Lib.hid (dupX_at hask)
         have HKS := Lib.hid (keysAt_step hask)
         have hkl := keysAt_len d (nf + nv + k)
         rw [HNI.out] at hkl
         have hnl := HFT.out.2.2.2.2 y (List.mem_of_getElem? hy)
         have hk0 : (0 : Int) ≤ (k : Int) := by omega
         have hk1 : (k : Int) < (nm : Int) := by omega
         have hwq : IntKind.i64.wrap ((k : Int) + 1) = (k : Int) + 1 := by rw [IntKind.wrap_i64]; omega
         obtain ⟨KS, hKS⟩ : ∃ K, keysAt d (nf + nv + k) = K := ⟨_, rfl⟩
         rw [hKS] at H2 HDX HKS hkl
         clear hsl hask hKS
         have hC : (w1.alloc (.cells #[.string (mkB y.name), .string (mkB y.inp), .string (mkB y.out), .int .i64 y.line, .int .i64 y.col] 77)).heap[w1.heap.size]? = some (.cells #[.string (mkB y.name), .string (mkB y.inp), .string (mkB y.out), .int .i64 y.line, .int .i64 y.col] 77 (0, 0)) := alloc_heap_new _ _
         have hCb : Below w1.heap.size w1 (w1.alloc (.cells #[.string (mkB y.name), .string (mkB y.inp), .string (mkB y.out), .int .i64 y.line, .int .i64 y.col] 77)) := (Below.refl _ w1).alloc (Nat.le_refl _) _
         go_upto_region 22 with fail
         generalize (w1.alloc (.cells #[.string (mkB y.name), .string (mkB y.inp), .string (mkB y.out), .int .i64 y.line, .int .i64 y.col] 77)) = Y at *
         have l0 := cell_at hC 0 rfl
         have l1 := cell_at hC 1 rfl
         have l2 := cell_at hC 2 rfl
         have l3 := cell_at hC 3 rfl
         have l4 := cell_at hC 4 rfl
         have HBY := Lib.hid (HB.out.trans (hCb.mono hsw))
         have HY0 : Hid (Y.heap[w.heap.size]? = _) := (hCb.block _ (by omega)).trans H0.out
         have HY1 : Hid (Y.heap[w.heap.size + 1]? = _) := (hCb.block _ (by omega)).trans H1.out
         have hadd := addS_any (w.heap.size + 2) KS y.name Y (H2.out.old (hCb.block _ hl2)) (by omega) (by omega)
         have HCY : Hid (Y.heap[w1.heap.size]? = _) := hC
         have hsy : w1.heap.size < Y.heap.size := blk_lt hC
         obtain ⟨DUP, hDUP⟩ : ∃ b, (!decide (y.name ∈ KS)) = b := ⟨_, rfl⟩
         rw [hDUP] at hadd
         have HDUP := Lib.hid hDUP
         clear hC hCb hDUP e0 e1 e2 e3 e4
         go_wp2_with fail
         refine hadd.mono ?_
         rintro e W2 ⟨rfl, hset, hgr⟩
         have hb2 : Below w.heap.size w W2 := HBY.out.grown hgr HBY.out.size (fun b hb => by cases hb; omega)
         have h20 : W2.heap[w.heap.size]? = _ := (hgr.block _ (by omega) (by simp)).trans HY0.out
         have h21 : W2.heap[w.heap.size + 1]? = _ := (hgr.block _ (by omega) (by simp)).trans HY1.out
         have h2c : W2.heap[w1.heap.size]? = _ := (hgr.block _ (by omega) (by simp; omega)).trans HCY.out
         have p0 := cell_at h2c 3 rfl
         have p1 := cell_at h2c 4 rfl
         have k0 := cell_at h21 0 rfl
         have k1 := cell_at h21 1 rfl
         have kf0 := frozen_at h21 0
         have kf1 := frozen_at h21 1
         have HB2 := Lib.hid hb2
         have H20 := Lib.hid h20
         have H21 := Lib.hid h21
         have HS2 := Lib.hid hset
         clear hgr h20 h21 h2c hb2 hset l0 l1 l2 l3 l4 hadd
         cases DUP
         case false =>
          have hmem : y.name ∈ KS := by have := HDUP.out; simpa using this
          have HGS : Hid (dupX (d.inner.map (·.name)) (askL d) (nf + nv + k) = some (y.line, y.col)) := by
           refine (?_ : _ = _)
           rw [HDX.out, if_pos hmem]
          obtain ⟨Z, hZ, r0, r1, hbZ⟩ := pos_ret H21.out HB2.out (by omega) y.line y.col
          have HZ := Lib.hid hZ
          clear hZ hmem
          go_wp2_with fail
          rw [HZ.out]
          refine bodyPost_ret (v := .tuple #[.agg #[.int .i64 y.line, .int .i64 y.col], .bool true]) (by simp [results, Tryz.results58, go_sem, r0, r1]) rfl ?_
          exact ⟨_, _, _, rfl, hbZ, .inr ⟨rfl, (HRES.out _).1 (firstS_some HFS.out HGS.out (by omega))⟩⟩
         case true =>
          have hmem : ¬ y.name ∈ KS := by have := HDUP.out; simpa using this
          have HGN : Hid (dupX (d.inner.map (·.name)) (askL d) (nf + nv + k) = none) := by
           refine (?_ : _ = _)
           rw [HDX.out, if_neg hmem]
          clear hmem
          go_wp2_with fail
          go_roundw
          case rel => exact ⟨k + 1, by go_num, by omega, firstS_step HFS.out HGN.out, HB2.out, H20.out, H21.out, by rw [show nf + nv + k + 1 = (nf + nv + k) + 1 from rfl] at *; first | (rw [← Nat.add_assoc]; rw [HKS.out]; exact HS2.out) | (rw [HKS.out]; exact HS2.out)⟩
          case measure => simp [intOf]; omega
        ·have hkn' : ¬ (k : Int) < (nm : Int) := by omega
         have hke : k = nm := by omega
         have HKE := Lib.hid hke
         obtain ⟨Z, hZ, r0, r1, hbZ⟩ := pos_ret H1.out HB.out (by omega) 0 0
         have HZ := Lib.hid hZ
         have k0 := cell_at H1.out 0 rfl
         have k1 := cell_at H1.out 1 rfl
         have kf0 := frozen_at H1.out 0
         have kf1 := frozen_at H1.out 1
         clear hZ hke hkn
         go_wp2_with fail
         rw [HZ.out]
         refine bodyPost_ret (v := .tuple #[.agg #[.int .i64 0, .int .i64 0], .bool false]) (by simp [results, Tryz.results58, go_sem, r0, r1]) rfl ?_
         exact ⟨_, _, _, rfl, hbZ, .inl ⟨(HRES.out _).1 (by rw [← HKE.out]; exact HFS.out), rfl, rfl, rfl⟩⟩
end Go.Proofs.YtpojeinddnjpfaaGreatDoor
