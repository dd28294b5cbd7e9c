/-
  The walks over the program's plainKind, withoutServices and numbered.
  The walks over the program's fieldType and methodType.
-/
import Derived.Test.YtpojeinddnjpfaaGreatDoorM0
import Derived.Test.YtpojeinddnjpfaaGreatDoorM19
import Derived.Test.YtpojeinddnjpfaaGreatDoorM20
import Derived.Test.YtpojeinddnjpfaaGreatDoorM27
import Derived.Maps.OwnOps
import Derived.Deep.RegionHeldLaw
import Derived.BigQuiet
import Derived.Deep.QuietTactic
namespace Go.Proofs.YtpojeinddnjpfaaGreatDoor
set_option linter.unusedVariables false
open Go.ChangeShapes Go.WideShapes Go.ChangeAt Go.RowKit Go.Maps

theorem plainP_any (l : List UInt8) (w : World) :
  Calls Tryz.prog 141 #[.string (mkB l)] w fun e w' => e = .returned (.int .i64 (scalarOf l)) ∧ w' = w := by
 have hl : (mkB l).toList = l := mkB_list l
 go_enter Tryz.func141, Tryz.ntmps141
 go_wp2
 all_goals
  go_ret
  refine ⟨retI ?_, rfl⟩
  unfold scalarOf
  simp_all
def noSvc (ds : List Dc) : List Dc := ds.filter fun d => decide (d.kind ≠ 3)
theorem noSvc_snoc (ds : List Dc) (d : Dc) : noSvc (ds ++ [d]) = noSvc ds ++ (if d.kind ≠ 3 then [d] else []) := by
 unfold noSvc
 rw [List.filter_append]
 by_cases h : d.kind = 3 <;> simp [h]
theorem noSvc_len (ds : List Dc) : (noSvc ds).length ≤ ds.length := List.length_filter_le _ _
def SvcAns (f : Nat) (w : World) (ds : List Dc) (e : Ending) (w' : World) : Prop := ∃ rv, e = .returned rv ∧ HeldD (f + 1) w' (fun b => b < w'.heap.size) rv ds ∧ Below w.heap.size w w'
set_option maxHeartbeats 16000000 in
set_option maxRecDepth 20000 in
theorem svcP_any (f : Nat) (ds : List Dc) (v : Value) (w : World) (hlen : ds.length ≤ 100000) (hH : HeldD (f + 1) w (fun b => b < w.heap.size) v ds) :
  Calls Tryz.prog 61 #[v] w fun e w' => SvcAns f w (noSvc ds) e w' := by
 have HH := Lib.hid hH
 obtain ⟨ad, cc, rfl⟩ := hH.isSlD
 obtain ⟨n, hn⟩ : ∃ n, ds.length = n := ⟨_, rfl⟩
 have HN := Lib.hid hn
 rw [hn] at hlen ⊢
 clear hH hn
 go_enter Tryz.func61, Tryz.ntmps61
 go_wp2_with fail
 go_loopw [3, 8] (fun u i wr => ∃ (j : Nat) (rs : List (List Value)), i = .int .i64 (j : Int) ∧ j ≤ n ∧ DsT f wr w.heap.size (fun b => b < w.heap.size) u (noSvc (ds.take j)) rs ∧ Below w.heap.size w wr) (fun _ i _ => n - (intOf i).toNat)
 case atStart => exact ⟨0, [], rfl, Nat.zero_le _, DsT.nil _ _ _ _, Below.refl _ _⟩
 case round =>
  generalize wr = w1 at *
  obtain ⟨j, rs, rfl, hj, hD, hbel⟩ := hrel
  obtain ⟨pa, pc, hpv⟩ := own_slice hD.own
  subst hpv
  have HD := Lib.hid hD
  have HB := Lib.hid hbel
  have hsw := hbel.size
  clear hD hbel
  by_cases hjn : j < n
  ·obtain ⟨d, hd⟩ : ∃ d, ds[j]? = some d := ⟨_, List.getElem?_eq_getElem (by have := HN.out; omega)⟩
   have hxl : (noSvc (ds.take j)).length ≤ j := Nat.le_trans (noSvc_len _) (by simp; omega)
   have HXN : Hid (noSvc (ds.take (j + 1)) = noSvc (ds.take j) ++ (if d.kind ≠ 3 then [d] else [])) := by
    refine (?_ : _ = _)
    rw [take_snoc hd, noSvc_snoc]
   obtain ⟨X, hX⟩ : ∃ X, noSvc (ds.take j) = X := ⟨_, rfl⟩
   rw [hX] at HD HXN hxl ⊢
   obtain ⟨g, o, c0, fa, fc, va, vc, ma, mc, ia, ic, hsl, hg, e0, e1, e2, e3, e4, e5, e6, e7, kd⟩ := decl_at HH.out (W := w1) (fun b hb => HB.out.block b hb) hd
   rw [HN.out] at hsl
   obtain ⟨rfl, rfl⟩ : ad = some ⟨g, o, none⟩ ∧ cc = c0 := by
    injection hsl with h1 _ h3
    exact ⟨h1, h3⟩
   have hj0 : (0 : Int) ≤ (j : Int) := by omega
   have hj1 : (j : Int) < (n : Int) := by omega
   have hwq : IntKind.i64.wrap ((j : Int) + 1) = (j : Int) + 1 := by rw [IntKind.wrap_i64]; omega
   have HKD := Lib.hid kd
   have HOW : Hid (∀ b, (Value.slice pa X.length pc).ownBlock = some b → w.heap.size ≤ b ∧ b < w1.heap.size) := fun b hb => own_block HD.out.own b hb
   clear hX hsl kd hd
   have hC : (w1.alloc (.cells #[.int .i64 d.kind, .string (mkB d.name), .int .i64 d.line, .int .i64 d.col, .slice fa d.fields.length fc, .slice va d.values.length vc, .slice ma d.methods.length mc, .slice ia d.inner.length ic] 69)).heap[w1.heap.size]? = some (.cells #[.int .i64 d.kind, .string (mkB d.name), .int .i64 d.line, .int .i64 d.col, .slice fa d.fields.length fc, .slice va d.values.length vc, .slice ma d.methods.length mc, .slice ia d.inner.length ic] 69 (0, 0)) := alloc_heap_new _ _
   have hCb : Below w1.heap.size w1 (w1.alloc (.cells #[.int .i64 d.kind, .string (mkB d.name), .int .i64 d.line, .int .i64 d.col, .slice fa d.fields.length fc, .slice va d.values.length vc, .slice ma d.methods.length mc, .slice ia d.inner.length ic] 69)) := (Below.refl _ w1).alloc (Nat.le_refl _) _
   go_upto_region 5 with fail
   generalize (w1.alloc (.cells #[.int .i64 d.kind, .string (mkB d.name), .int .i64 d.line, .int .i64 d.col, .slice fa d.fields.length fc, .slice va d.values.length vc, .slice ma d.methods.length mc, .slice ia d.inner.length ic] 69)) = Y at *
   have l0 := cell_at hC 0 rfl
   have l1 := cell_at hC 1 rfl
   have l2 := cell_at hC 2 rfl
   have l3 := cell_at hC 3 rfl
   have l4 := cell_at hC 4 rfl
   have l5 := cell_at hC 5 rfl
   have l6 := cell_at hC 6 rfl
   have l7 := cell_at hC 7 rfl
   have HBY := Lib.hid (HB.out.trans (hCb.mono hsw))
   have HDY : Hid (DsT f Y w.heap.size (fun b => b < w.heap.size) (.slice pa X.length pc) X rs) := HD.out.keep (fun b hb => hCb.block b (HOW.out b hb).2) (fun b hb => hCb.block b (by have hb' : b < w.heap.size := hb; omega)) (fun _ h => h)
   have HKY : Hid (Kids f Y (fun b => b < w.heap.size) (.slice fa d.fields.length fc) (.slice va d.values.length vc) (.slice ma d.methods.length mc) (.slice ia d.inner.length ic) d) := HKD.out.old fun b hb => hCb.block b (by have hb' : b < w.heap.size := hb; omega)
   have hYs := hCb.size
   clear hC hCb e0 e1 e2 e3 e4 e5 e6 e7
   by_cases hk : d.kind = 3
   ·rw [hk] at l0
    have HXE : Hid (noSvc (ds.take (j + 1)) = X) := by
     refine (?_ : _ = _)
     rw [HXN.out, if_neg (by simp [hk]), List.append_nil]
    clear hk
    go_wp2_with fail
    go_roundw
    case rel => exact ⟨j + 1, rs, by go_num, by omega, by rw [HXE.out]; exact HDY.out, HBY.out⟩
    case measure => simp [intOf]; omega
   ·have hk' : (d.kind != 3) = true := by simp [hk]
    have HXE : Hid (noSvc (ds.take (j + 1)) = X ++ [d]) := by
     refine (?_ : _ = _)
     rw [HXN.out, if_pos hk]
    go_wp2_with (at_builtin; refine DsT.pushL HDY.out (by omega) d _ _ _ _ (fun b => b < w.heap.size) HKY.out (by intro u hu; simp only [drow, List.mem_cons, List.not_mem_nil, or_false] at hu; rcases hu with rfl | rfl | rfl | rfl | rfl | rfl | rfl | rfl <;> rfl) (fun b hb => ⟨(by have hb' : b < w.heap.size := (hb.elim id id); omega), fun e => by have := HOW.out _ e; have hb' : b < w.heap.size := (hb.elim id id); omega⟩) rfl _ _ rfl _ rfl rfl rfl (by omega) ?_)
    intro g2 cap2 W2 hD2 hgr2 hng hgb
    have HD2 : Hid (DsT f W2 w.heap.size (fun b => b < w.heap.size) (.slice (some ⟨g2, 0, none⟩) (X.length + 1) cap2) (X ++ [d]) _) := hD2.keep (fun _ _ => rfl) (fun _ _ => rfl) (fun b hb => by first | exact hb | exact hb.elim id id)
    have HB2 : Hid (Below w.heap.size w W2) := HBY.out.grown hgr2 (by omega) (fun b hb => (HOW.out b hb).1)
    clear hD2 hgr2 hng l0 l1 l2 l3 l4 l5 l6 l7
    go_wp2_with fail
    go_roundw
    case rel => exact ⟨j + 1, _, by go_num, by omega, by rw [HXE.out]; exact HD2.out, HB2.out⟩
    case measure => simp [intOf]; omega
  ·have hjn' : ¬ (j : Int) < (n : Int) := by omega
   have hte : ds.take j = ds := List.take_of_length_le (by have := HN.out; omega)
   rw [hte] at HD ⊢
   obtain ⟨X, hX⟩ : ∃ X, noSvc ds = X := ⟨_, rfl⟩
   rw [hX] at HD ⊢
   have HXE := Lib.hid hX
   have HHE : Hid (HeldD (f + 1) w1 (fun b => b < w1.heap.size) (.slice pa X.length pc) X) := HD.out.held (fun b hb => by have hb' : b < w.heap.size := hb; omega) (fun b hb => (own_block HD.out.own b hb).2)
   clear hte hX
   go_wp2_with fail
   go_ret
   exact ⟨_, rfl, by rw [HXE.out]; exact HHE.out, HB.out⟩
def numsN (ps : List Pl) : Nat → List UInt8 → Int
 | 0, _ => 0
 | j + 1, x => match ps[j]? with
  | some p => if (p.2.kind = 1 ∨ p.2.kind = 2) ∧ x = p.1 then (cntK p.2.kind (ps.take j) : Int) else numsN ps j x
  | none => numsN ps j x
def NumMap (w : World) (b : Nat) (ps : List Pl) (j : Nat) : Prop := ∃ n D, n ≤ j ∧ w.ownsMap (H := Unit) Tryz.prog 9 (plainElem Tryz.prog 3) b n D ∧ IsMap D ∧ ∀ x, D.atKey (litS x) (.lit (.int .i64 0)) = .lit (.int .i64 (numsN ps j x))
theorem NumMap.old {w w' : World} {b : Nat} {ps : List Pl} {j : Nat} (h : NumMap w b ps j) (hb : w'.heap[b]? = w.heap[b]?) : NumMap w' b ps j := by
 obtain ⟨n, D, hn, ⟨es, cl, h1, h2⟩, h3⟩ := h
 exact ⟨n, D, hn, ⟨es, cl, hb.trans h1, h2⟩, h3⟩
theorem NumMap.lt {w : World} {b : Nat} {ps : List Pl} {j : Nat} (h : NumMap w b ps j) : b < w.heap.size := by
 obtain ⟨n, D, hn, ⟨es, cl, h1, h2⟩, h3⟩ := h
 exact (Array.getElem?_eq_some_iff.1 h1).1
theorem info3Z : (Tryz.prog.info? 3).map (fun i => (i.zero, i.size, i.bytes)) = some (some (.int .i64 0), 1, 8) := by kernel_rfl
theorem zero3 (w : World) : (zeroValue 3).run Tryz.prog w = .ok (.int .i64 0) w := by
 obtain ⟨i0, hi0, hz0, -, -⟩ := info_parts info3Z
 simp [zeroValue, typeInfo, hi0, hz0]
theorem keyS (x : List UInt8) (hx : x.length ≤ 1000000000000) : keyOf Tryz.prog 9 (.string (mkB x)) = some (litS x) := by
 have := Go.WideMaps.keyOf_string_mk (P := Tryz.prog) (s := mkB x) Tryz.underlying9 (by rw [mkB_size]; unfold maxLen; omega)
 simpa [litS, mkB] using this
theorem lit_inj {a b : Int} (h : (DataW.lit (.int .i64 a) : DataW Unit) = .lit (.int .i64 b)) : a = b := by
 injection h with h
 injection h
theorem NumMap.look {w : World} {b : Nat} {ps : List Pl} {j : Nat} (h : NumMap w b ps j) (x : List UInt8) (hx : x.length ≤ 1000000000000) : (Instr.lookup 125 (.map (some b)) (.string (mkB x)) false).run Tryz.prog w = .ok (.int .i64 (numsN ps j x)) w := by
 obtain ⟨n, D, hn, hown, -, hD⟩ := h
 obtain ⟨c, hrun, hat, -⟩ := hown.lookup_int keyedS Tryz.underlying125 Tryz.underlying3 (zero3 w) (keyS x hx)
 have : numsN ps j x = c := lit_inj ((hD x).symm.trans hat)
 rw [this]; exact hrun
theorem nums_put {D : DataW Unit} {ps : List Pl} {j : Nat} {p : Pl} (hm : IsMap D) (hD : ∀ x, D.atKey (litS x) (.lit (.int .i64 0)) = .lit (.int .i64 (numsN ps j x))) (hp : ps[j]? = some p) (hk : p.2.kind = 1 ∨ p.2.kind = 2) {c : Nat} (hc : cntK p.2.kind (ps.take j) = c) :
  ∀ x, (D.put (litS p.1) (.lit (.int .i64 (c : Int)))).atKey (litS x) (.lit (.int .i64 0)) = .lit (.int .i64 (numsN ps (j + 1) x)) := by
 intro x
 have e : numsN ps (j + 1) x = if (p.2.kind = 1 ∨ p.2.kind = 2) ∧ x = p.1 then (cntK p.2.kind (ps.take j) : Int) else numsN ps j x := by simp only [numsN, hp]
 rw [e]
 by_cases hx : x = p.1
 ·subst hx
  rw [atKey_put_same hm (litS_key _), if_pos ⟨hk, rfl⟩, hc]
 ·rw [atKey_put_other (fun e => hx (litS_one _ _ e)), hD, if_neg (fun h => hx h.2)]
theorem nums_skip {ps : List Pl} {j : Nat} {p : Pl} (hp : ps[j]? = some p) (h1 : p.2.kind ≠ 1) (h2 : p.2.kind ≠ 2) (x : List UInt8) : numsN ps (j + 1) x = numsN ps j x := by
 simp only [numsN, hp]
 rw [if_neg (fun h => h.1.elim h1 h2)]
def NumAns (w : World) (ps : List Pl) (n : Nat) (e : Ending) (w' : World) : Prop := ∃ b, e = .returned (.map (some b)) ∧ w.heap.size ≤ b ∧ NumMap w' b ps n ∧ Below w.heap.size w w'
set_option maxHeartbeats 16000000 in
set_option maxRecDepth 20000 in
theorem numbP_any (f : Nat) (ps : List Pl) (v : Value) (w : World) (hn0 : ps.length ≤ 100000) (hm0 : ∀ x ∈ ps, x.1.length ≤ 1000000000000) (hH : HeldP 9 f w (fun b => b < w.heap.size) v ps) :
  Calls Tryz.prog 62 #[v] w fun e w' => NumAns w ps ps.length e w' := by
 have HH := Lib.hid hH
 obtain ⟨ad, cc, rfl⟩ := hH.isSl
 obtain ⟨n, hn⟩ : ∃ n, ps.length = n := ⟨_, rfl⟩
 have HN := Lib.hid hn
 rw [hn] at hn0 ⊢
 have HM := Lib.hid hm0
 clear hH hn hm0
 have hmm := @run_makeMap Tryz.prog
 go_enter Tryz.func62, Tryz.ntmps62
 go_wp2_with fail
 clear hmm
 go_loopw [4, 5, 11] (fun a1 a2 i wr => ∃ (j c1 c2 : Nat), i = .int .i64 (j : Int) ∧ a1 = .int .i64 (c1 : Int) ∧ a2 = .int .i64 (c2 : Int) ∧ j ≤ n ∧ cntK 1 (ps.take j) = c1 ∧ cntK 2 (ps.take j) = c2 ∧ c1 ≤ j ∧ c2 ≤ j ∧ NumMap wr w.heap.size ps j ∧ Below w.heap.size w wr) (fun _ _ i _ => n - (intOf i).toNat)
 case atStart => exact ⟨0, 0, 0, rfl, rfl, rfl, Nat.zero_le _, rfl, rfl, Nat.le_refl _, Nat.le_refl _, ⟨0, .map [], Nat.le_refl _, World.ownsMap_made _ _ _ _, isMap_empty, fun x => rfl⟩, (Below.refl _ w).alloc (Nat.le_refl _) _⟩
 case round =>
  generalize wr = w1 at *
  obtain ⟨j, c1, c2, rfl, rfl, rfl, hj, hc1, hc2, hb1, hb2, hmap, hbel⟩ := hrel
  have HC1 := Lib.hid hc1
  have HC2 := Lib.hid hc2
  have HMP := Lib.hid hmap
  have HB := Lib.hid hbel
  have hsw := hbel.size
  have hl1 := hmap.lt
  clear hc1 hc2 hmap hbel
  by_cases hjn : j < n
  ·obtain ⟨x, hx⟩ : ∃ x, ps[j]? = some x := ⟨_, List.getElem?_eq_getElem (by have := HN.out; omega)⟩
   have hxl := HM.out x (List.mem_of_getElem? hx)
   have HNC1 : Hid (cntK 1 (ps.take (j + 1)) = c1 + if x.2.kind = 1 then 1 else 0) := by
    refine (?_ : _ = _)
    rw [take_snoc hx, cntK_snoc, HC1.out]
   have HNC2 : Hid (cntK 2 (ps.take (j + 1)) = c2 + if x.2.kind = 2 then 1 else 0) := by
    refine (?_ : _ = _)
    rw [take_snoc hx, cntK_snoc, HC2.out]
   have hkey := keyS x.1 hxl
   have hw1 : IntKind.i64.wrap ((c1 : Int) + 1) = (c1 : Int) + 1 := by rw [IntKind.wrap_i64]; omega
   have hw2 : IntKind.i64.wrap ((c2 : Int) + 1) = (c2 : Int) + 1 := by rw [IntKind.wrap_i64]; omega
   have HXX := Lib.hid hx
   obtain ⟨g, o, c0, fa, fc, va, vc, ma, mc, ia, ic, hsl, hg, e0, e1, e2, e3, e4, e5, e6, e7, e8, kd⟩ := place_at HH.out (W := w1) (fun b hb => HB.out.block b hb) hx
   rw [HN.out] at hsl
   obtain ⟨rfl, rfl⟩ : ad = some ⟨g, o, none⟩ ∧ cc = c0 := by
    injection hsl with h1 _ h3
    exact ⟨h1, h3⟩
   have hj0 : (0 : Int) ≤ (j : Int) := by omega
   have hj1 : (j : Int) < (n : Int) := by omega
   have hwq : IntKind.i64.wrap ((j : Int) + 1) = (j : Int) + 1 := by rw [IntKind.wrap_i64]; omega
   have HKD := Lib.hid kd
   clear hsl kd
   have hC : (w1.alloc (.cells #[.int .i64 x.2.kind, .string (mkB x.2.name), .int .i64 x.2.line, .int .i64 x.2.col, .slice fa x.2.fields.length fc, .slice va x.2.values.length vc, .slice ma x.2.methods.length mc, .slice ia x.2.inner.length ic, .string (mkB x.1)] 117)).heap[w1.heap.size]? = some (.cells #[.int .i64 x.2.kind, .string (mkB x.2.name), .int .i64 x.2.line, .int .i64 x.2.col, .slice fa x.2.fields.length fc, .slice va x.2.values.length vc, .slice ma x.2.methods.length mc, .slice ia x.2.inner.length ic, .string (mkB x.1)] 117 (0, 0)) := alloc_heap_new _ _
   have hCb : Below w1.heap.size w1 (w1.alloc (.cells #[.int .i64 x.2.kind, .string (mkB x.2.name), .int .i64 x.2.line, .int .i64 x.2.col, .slice fa x.2.fields.length fc, .slice va x.2.values.length vc, .slice ma x.2.methods.length mc, .slice ia x.2.inner.length ic, .string (mkB x.1)] 117)) := (Below.refl _ w1).alloc (Nat.le_refl _) _
   go_upto_region 6 with fail
   generalize (w1.alloc (.cells #[.int .i64 x.2.kind, .string (mkB x.2.name), .int .i64 x.2.line, .int .i64 x.2.col, .slice fa x.2.fields.length fc, .slice va x.2.values.length vc, .slice ma x.2.methods.length mc, .slice ia x.2.inner.length ic, .string (mkB x.1)] 117)) = Y at *
   have l0 := cell_at hC 0 rfl
   have l1 := cell_at hC 1 rfl
   have l2 := cell_at hC 2 rfl
   have l3 := cell_at hC 3 rfl
   have l4 := cell_at hC 4 rfl
   have l5 := cell_at hC 5 rfl
   have l6 := cell_at hC 6 rfl
   have l7 := cell_at hC 7 rfl
   have l8 := cell_at hC 8 rfl
   have HBY := Lib.hid (HB.out.trans (hCb.mono hsw))
   have HMY : Hid (NumMap Y w.heap.size ps j) := HMP.out.old (hCb.block _ hl1)
   have hYs := hCb.size
   clear hC hCb e0 e1 e2 e3 e4 e5 e6 e7 e8
   by_cases hk : x.2.kind = 1
   ·obtain ⟨nn, D, hnn, hown, hism, hDD⟩ := HMY.out
    have HOWN := Lib.hid hown
    have HPUT := Lib.hid (nums_put (c := c1) hism hDD HXX.out (.inl hk) (by rw [hk]; exact HC1.out))
    have HISM := Lib.hid (hism.put (litS x.1) (.lit (.int .i64 (c1 : Int))))
    have HK1 : Hid (cntK 1 (ps.take (j + 1)) = c1 + 1) := by
     refine (?_ : _ = _)
     rw [HNC1.out]; simp [hk]
    have HK2 : Hid (cntK 2 (ps.take (j + 1)) = c2) := by
     refine (?_ : _ = _)
     rw [HNC2.out]; simp [hk]
    rw [hk] at l0
    clear hk hown hism hDD
    go_wp2_with (at_mapUpdate; refine wpList_mapUpdate_own _ rfl _ _ _ 125 rfl 9 3 keyedS Tryz.underlying125 _ w.heap.size nn D rfl HOWN.out (by unfold maxLen; omega) _ _ _ rfl rfl hkey _ [] (plainElem_int Tryz.underlying3 (WalkArith.wf_i64 (by omega))) ?_)
    intro w5 hown5 hgr5
    have HM5 : Hid (NumMap w5 w.heap.size ps (j + 1)) := ⟨nn + 1, _, by omega, hown5, HISM.out, HPUT.out⟩
    have HB5 : Hid (Below w.heap.size w w5) := HBY.out.grown hgr5 (by omega) (fun b hb => by cases hb; exact Nat.le_refl _)
    clear hown5 hgr5
    go_wp2_with fail
    go_roundw
    case rel => exact ⟨j + 1, _, _, by go_num, by go_num, by go_num, by omega, HK1.out, HK2.out, by omega, by omega, HM5.out, HB5.out⟩
    case measure => simp [intOf]; omega
   by_cases hk2 : x.2.kind = 2
   ·have hk := hk2
    clear hk2
    obtain ⟨nn, D, hnn, hown, hism, hDD⟩ := HMY.out
    have HOWN := Lib.hid hown
    have HPUT := Lib.hid (nums_put (c := c2) hism hDD HXX.out (.inr hk) (by rw [hk]; exact HC2.out))
    have HISM := Lib.hid (hism.put (litS x.1) (.lit (.int .i64 (c2 : Int))))
    have HK1 : Hid (cntK 1 (ps.take (j + 1)) = c1) := by
     refine (?_ : _ = _)
     rw [HNC1.out]; simp [hk]
    have HK2 : Hid (cntK 2 (ps.take (j + 1)) = c2 + 1) := by
     refine (?_ : _ = _)
     rw [HNC2.out]; simp [hk]
    rw [hk] at l0
    clear hk hown hism hDD
    go_wp2_with (at_mapUpdate; refine wpList_mapUpdate_own _ rfl _ _ _ 125 rfl 9 3 keyedS Tryz.underlying125 _ w.heap.size nn D rfl HOWN.out (by unfold maxLen; omega) _ _ _ rfl rfl hkey _ [] (plainElem_int Tryz.underlying3 (WalkArith.wf_i64 (by omega))) ?_)
    intro w5 hown5 hgr5
    have HM5 : Hid (NumMap w5 w.heap.size ps (j + 1)) := ⟨nn + 1, _, by omega, hown5, HISM.out, HPUT.out⟩
    have HB5 : Hid (Below w.heap.size w w5) := HBY.out.grown hgr5 (by omega) (fun b hb => by cases hb; exact Nat.le_refl _)
    clear hown5 hgr5
    go_wp2_with fail
    go_roundw
    case rel => exact ⟨j + 1, _, _, by go_num, by go_num, by go_num, by omega, HK1.out, HK2.out, by omega, by omega, HM5.out, HB5.out⟩
    case measure => simp [intOf]; omega
   ·have h1' : (x.2.kind == 1) = false := by simp [hk]
    have h2' : (x.2.kind == 2) = false := by simp [hk2]
    have HK1 : Hid (cntK 1 (ps.take (j + 1)) = c1) := by
     refine (?_ : _ = _)
     rw [HNC1.out]; simp [hk]
    have HK2 : Hid (cntK 2 (ps.take (j + 1)) = c2) := by
     refine (?_ : _ = _)
     rw [HNC2.out]; simp [hk2]
    have HM5 : Hid (NumMap Y w.heap.size ps (j + 1)) := by
     obtain ⟨nn, D, hnn, hown, hism, hDD⟩ := HMY.out
     exact ⟨nn, D, by omega, hown, hism, fun y => by rw [hDD, nums_skip HXX.out hk hk2]⟩
    go_wp2_with fail
    go_roundw
    case rel => exact ⟨j + 1, _, _, by go_num, rfl, rfl, by omega, HK1.out, HK2.out, by omega, by omega, HM5.out, HBY.out⟩
    case measure => simp [intOf]; omega
  ·have hjn' : ¬ (j : Int) < (n : Int) := by omega
   have hje : j = n := by omega
   have HJE := Lib.hid hje
   clear hje hjn
   go_wp2_with fail
   go_ret
   exact ⟨w.heap.size, rfl, Nat.le_refl _, by rw [← HJE.out]; exact HMP.out, HB.out⟩
end Go.Proofs.YtpojeinddnjpfaaGreatDoor
namespace Go.Proofs.YtpojeinddnjpfaaGreatDoor
set_option linter.unusedVariables false
open Go.ChangeShapes Go.WideShapes Go.ChangeAt Go.RowKit Go.Maps

def ftP (f : Nat) (types : List Dc) (ps : List Pl) (n : Nat) (whole ty : List UInt8) : Option (Int × Int) := if scalarOf ty = 0 then (match findP (f + 1) types whole ty with
  | some t => some (if t.2 = 1 then 10 else 9, numsN ps n t.1)
  | none => none) else some (scalarOf ty, 0)
def mtP (f : Nat) (types : List Dc) (ps : List Pl) (n : Nat) (path : List UInt8) : Option Int := match findP (f + 1) types [] path with
 | some t => if t.2 = 1 then some (numsN ps n t.1) else none
 | none => none
def FtAns (r : Option (Int × Int)) (w : World) (e : Ending) (w' : World) : Prop := ∃ k m b, e = .returned (.tuple #[.int .i64 k, .int .i64 m, .bool b]) ∧ ((b = true ∧ r = some (k, m)) ∨ (b = false ∧ r = none)) ∧ Below w.heap.size w w'
def MtAns (r : Option Int) (w : World) (e : Ending) (w' : World) : Prop := ∃ m b, e = .returned (.tuple #[.int .i64 m, .bool b]) ∧ ((b = true ∧ r = some m) ∨ (b = false ∧ r = none)) ∧ Below w.heap.size w w'
structure Bl (f : Nat) (w : World) (B mb : Nat) (tv m e t : Value) (types : List Dc) (ps : List Pl) (n : Nat) : Prop where
 cells : w.heap[B]? = some (.cells #[tv, .map (some mb), m, e, t] 128 (0, 0))
 held : ∃ S : Nat → Prop, (∀ b, S b → b < w.heap.size) ∧ HeldD (f + 1) w S tv types
 nums : NumMap w mb ps n
set_option maxHeartbeats 8000000 in
set_option maxRecDepth 20000 in
theorem ftP_any (f : Nat) (types : List Dc) (ps : List Pl) (n B mb : Nat) (tv m e t : Value) (whole ty : List UInt8) (w : World) (hct : ctL (f + 1) types ≤ 100000) (hfit : FitD (f + 1) types) (htxt : TxtD (f + 1) types) (hwl : whole.length ≤ 1000000000000) (htl : ty.length ≤ 200000000)
  (hsy : ∀ y : Sy, findP (f + 1) types whole ty = some y → y.1.length ≤ 1000000000000) (hB : Bl f w B mb tv m e t types ps n) :
  Calls Tryz.prog 100 #[.pointer (some ⟨B, 0, none⟩), .string (mkB whole), .string (mkB ty)] w fun e w' => FtAns (ftP f types ps n whole ty) w e w' := by
 obtain ⟨hc, ⟨S, hS, hH⟩, hN⟩ := hB
 obtain ⟨ta, tc, rfl⟩ := hH.isSlD
 have HR : Hid (ftP f types ps n whole ty = if scalarOf ty = 0 then (match findP (f + 1) types whole ty with
  | some t => some (if t.2 = 1 then 10 else 9, numsN ps n t.1)
  | none => none) else some (scalarOf ty, 0)) := rfl
 generalize ftP f types ps n whole ty = RES at *
 have hplain := fun W => plainP_any ty W
 obtain ⟨sk, hsk⟩ : ∃ k, scalarOf ty = k := ⟨_, rfl⟩
 rw [hsk] at hplain HR
 have hsk0 : 0 ≤ sk := by
  rw [← hsk]; unfold scalarOf
  repeat' split
  all_goals omega
 have hfind := find_any f types _ whole ty S w hct hfit htxt hwl htl hH hS
 have c0 := cell_at hc 0 rfl
 have HC := Lib.hid hc
 have HNM := Lib.hid hN
 have HSY := Lib.hid hsy
 have hBl := blk_lt hc
 have hml := hN.lt
 clear hsk hc hN hsy hH hS
 by_cases hs0 : sk = 0
 ·subst hs0
  have hz : ¬ (0 : Int) < 0 := by omega
  rw [if_pos rfl] at HR
  go_enter Tryz.func100, Tryz.ntmps100
  go_wp2_with fail
  refine (hplain _).mono ?_
  rintro e W1 ⟨rfl, h1⟩
  have h1 := h1.symm
  subst h1
  clear hplain
  go_wp2_with fail
  refine hfind.mono ?_
  rintro e W2 ⟨hsym, hb2⟩
  obtain ⟨s, k, b, rfl, hsx⟩ := hsym.one
  have hV : (W2.alloc (.cells #[.string s, .int .i64 k] 115)).heap[W2.heap.size]? = some (.cells #[.string s, .int .i64 k] 115 (0, 0)) := alloc_heap_new _ _
  have hVb : Below W2.heap.size W2 (W2.alloc (.cells #[.string s, .int .i64 k] 115)) := (Below.refl _ W2).alloc (Nat.le_refl _) _
  have h2s := hb2.size
  go_upto_region 5 with fail
  generalize (W2.alloc (.cells #[.string s, .int .i64 k] 115)) = Y at *
  have hbY : Below w.heap.size w Y := hb2.trans (hVb.mono h2s)
  have HBY := Lib.hid hbY
  have hcY : Y.heap[B]? = _ := (hbY.block _ hBl).trans HC.out
  have hnY : NumMap Y mb ps n := HNM.out.old (hbY.block _ hml)
  have y1 := cell_at hcY 1 rfl
  have v0 := cell_at hV 0 rfl
  have v1 := cell_at hV 1 rfl
  have HSX := Lib.hid hsx
  clear hV hVb hbY hcY hsx hsym hfind hb2 c0
  cases b
  case false =>
   have HRN : Hid (RES = none) := by
    refine (?_ : _ = _)
    rcases HSX.out with ⟨h, _⟩ | ⟨_, h, _⟩
    ·cases h
    ·rw [HR.out, h]
   clear y1 v0 v1
   go_wp2_with fail
   go_ret3
   exact ⟨0, 0, false, rfl, .inr ⟨rfl, HRN.out⟩, HBY.out⟩
  case true =>
   obtain ⟨y, hy, rfl, rfl⟩ : ∃ y : Sy, findP (f + 1) types whole ty = some y ∧ s = mkB y.1 ∧ k = y.2 := by
    rcases HSX.out with ⟨_, y, h⟩ | ⟨h, _⟩
    ·exact ⟨y, h⟩
    ·cases h
   have hyl := HSY.out y hy
   have HRY : Hid (RES = some (if y.2 = 1 then 10 else 9, numsN ps n y.1)) := by
    refine (?_ : _ = _)
    rw [HR.out, hy]
   have hk0 := hnY.look y.1 hyl
   have hk1 : (Instr.lookup 125 (.map (some mb)) (.string (mkB y.1)) false).run Tryz.prog Y.drew = _ := (NumMap.old (w' := Y.drew) hnY rfl).look y.1 hyl
   obtain ⟨NUM, hNUM⟩ : ∃ k, numsN ps n y.1 = k := ⟨_, rfl⟩
   rw [hNUM] at hk0 hk1 HRY
   clear hnY hy hNUM HR HSX hyl
   by_cases hy1 : y.2 = 1
   ·rw [hy1] at v1
    rw [if_pos hy1] at HRY
    clear hy1
    go_upto_region 10 with fail
    go_region
    all_goals
     go_wp2_with fail
     go_ret3
     exact ⟨10, NUM, true, rfl, .inl ⟨rfl, HRY.out⟩, by first | exact HBY.out | exact HBY.out.drew⟩
   ·have hy1' : (y.2 == 1) = false := by simp [hy1]
    rw [if_neg hy1] at HRY
    go_upto_region 10 with fail
    go_region
    all_goals
     go_wp2_with fail
     go_ret3
     exact ⟨9, NUM, true, rfl, .inl ⟨rfl, HRY.out⟩, by first | exact HBY.out | exact HBY.out.drew⟩
 ·have hz : (0 : Int) < sk := by omega
  rw [if_neg hs0] at HR
  go_enter Tryz.func100, Tryz.ntmps100
  go_wp2_with fail
  refine (hplain _).mono ?_
  rintro e W1 ⟨rfl, h1⟩
  have h1 := h1.symm
  subst h1
  go_wp2_with fail
  go_ret3
  exact ⟨sk, 0, true, rfl, .inl ⟨rfl, HR.out⟩, Below.refl _ _⟩
set_option maxHeartbeats 8000000 in
set_option maxRecDepth 20000 in
theorem mtP_any (f : Nat) (types : List Dc) (ps : List Pl) (n B mb : Nat) (tv m e t : Value) (path : List UInt8) (w : World) (hct : ctL (f + 1) types ≤ 100000) (hfit : FitD (f + 1) types) (htxt : TxtD (f + 1) types) (htl : path.length ≤ 200000000)
  (hsy : ∀ y : Sy, findP (f + 1) types [] path = some y → y.1.length ≤ 1000000000000) (hB : Bl f w B mb tv m e t types ps n) :
  Calls Tryz.prog 105 #[.pointer (some ⟨B, 0, none⟩), .string (mkB path)] w fun e w' => MtAns (mtP f types ps n path) w e w' := by
 obtain ⟨hc, ⟨S, hS, hH⟩, hN⟩ := hB
 obtain ⟨ta, tc, rfl⟩ := hH.isSlD
 have HR : Hid (mtP f types ps n path = match findP (f + 1) types [] path with
 | some t => if t.2 = 1 then some (numsN ps n t.1) else none
 | none => none) := rfl
 generalize mtP f types ps n path = RES at *
 have hfind := find_any f types _ [] path S w hct hfit htxt (by simp) htl hH hS
 have c0 := cell_at hc 0 rfl
 have HC := Lib.hid hc
 have HNM := Lib.hid hN
 have HSY := Lib.hid hsy
 have hBl := blk_lt hc
 have hml := hN.lt
 clear hc hN hsy hH hS
 go_enter Tryz.func105, Tryz.ntmps105
 go_wp2_with fail
 refine hfind.mono ?_
 rintro e W2 ⟨hsym, hb2⟩
 obtain ⟨s, k, b, rfl, hsx⟩ := hsym.one
 have hV : (W2.alloc (.cells #[.string s, .int .i64 k] 115)).heap[W2.heap.size]? = some (.cells #[.string s, .int .i64 k] 115 (0, 0)) := alloc_heap_new _ _
 have hVb : Below W2.heap.size W2 (W2.alloc (.cells #[.string s, .int .i64 k] 115)) := (Below.refl _ W2).alloc (Nat.le_refl _) _
 have h2s := hb2.size
 go_upto_region 2 with fail
 generalize (W2.alloc (.cells #[.string s, .int .i64 k] 115)) = Y at *
 have hbY : Below w.heap.size w Y := hb2.trans (hVb.mono h2s)
 have HBY := Lib.hid hbY
 have hcY : Y.heap[B]? = _ := (hbY.block _ hBl).trans HC.out
 have hnY : NumMap Y mb ps n := HNM.out.old (hbY.block _ hml)
 have y1 := cell_at hcY 1 rfl
 have v0 := cell_at hV 0 rfl
 have v1 := cell_at hV 1 rfl
 have HSX := Lib.hid hsx
 clear hV hVb hbY hcY hsx hsym hfind hb2 c0
 cases b
 case false =>
  have HRN : Hid (RES = none) := by
   refine (?_ : _ = _)
   rcases HSX.out with ⟨h, _⟩ | ⟨_, h, _⟩
   ·cases h
   ·rw [HR.out, h]
  clear y1 v0 v1
  go_wp2_with fail
  go_ret2
  exact ⟨0, false, rfl, .inr ⟨rfl, HRN.out⟩, HBY.out⟩
 case true =>
  obtain ⟨y, hy, rfl, rfl⟩ : ∃ y : Sy, findP (f + 1) types [] path = some y ∧ s = mkB y.1 ∧ k = y.2 := by
   rcases HSX.out with ⟨_, y, h⟩ | ⟨h, _⟩
   ·exact ⟨y, h⟩
   ·cases h
  have hyl := HSY.out y hy
  have HRY : Hid (RES = if y.2 = 1 then some (numsN ps n y.1) else none) := by
   refine (?_ : _ = _)
   rw [HR.out, hy]
  have hk0 := hnY.look y.1 hyl
  have hk1 : (Instr.lookup 125 (.map (some mb)) (.string (mkB y.1)) false).run Tryz.prog Y.drew = _ := (NumMap.old (w' := Y.drew) hnY rfl).look y.1 hyl
  obtain ⟨NUM, hNUM⟩ : ∃ k, numsN ps n y.1 = k := ⟨_, rfl⟩
  rw [hNUM] at hk0 hk1 HRY
  clear hnY hy hNUM HR HSX hyl
  by_cases hy1 : y.2 = 1
  ·rw [hy1] at v1
   rw [if_pos hy1] at HRY
   clear hy1
   go_upto_region 4 with fail
   go_region
   all_goals
    go_wp2_with fail
    go_ret2
    exact ⟨NUM, true, rfl, .inl ⟨rfl, HRY.out⟩, by first | exact HBY.out | exact HBY.out.drew⟩
  ·have hy1' : (y.2 != 1) = true := by simp [hy1]
   rw [if_neg hy1] at HRY
   clear y1 v0 hk0 hk1
   go_wp2_with fail
   go_ret2
   exact ⟨0, false, rfl, .inr ⟨rfl, HRY.out⟩, HBY.out⟩
end Go.Proofs.YtpojeinddnjpfaaGreatDoor
