/-
  The walk over the program's builder.enum.
-/
import Derived.Test.YtpojeinddnjpfaaGreatDoorM0
import Derived.Test.YtpojeinddnjpfaaGreatDoorM31
namespace Go.Proofs.YtpojeinddnjpfaaGreatDoor
set_option linter.unusedVariables false
open Go.ChangeShapes Go.WideShapes Go.ChangeAt Go.RowKit Go.Maps

theorem infoVdA : (Tryz.prog.info? 93).map (fun i => (i.zero, i.size, i.bytes)) = some (some (.agg #[.string ⟨#[]⟩, .int .i64 0]), 2, 24) := by kernel_rfl
theorem infoEdA : (Tryz.prog.info? 91).map (fun i => (i.zero, i.size, i.bytes)) = some (some (.agg #[.string ⟨#[]⟩, .slice none 0 0]), 2, 40) := by kernel_rfl
theorem vdrow_one (x : VD) : ∀ u ∈ vdrow x, u.oneCell' = true := by
 intro u hu
 simp only [vdrow, List.mem_cons, List.not_mem_nil, or_false] at hu
 rcases hu with rfl | rfl <;> rfl
def EnmAns (f base B mb : Nat) (tv mv ev xv : Value) (types : List Dc) (ps : List Pl) (n : Nat) (s : SC) (mr er : List (List Value)) (x : Pl) (w : World) (e : Ending) (w' : World) : Prop :=
 e = .returned (.tuple #[]) ∧ Below B w w' ∧ w.heap.size ≤ w'.heap.size ∧ (∀ b, b < w.heap.size → b ≠ B → ev.ownBlock ≠ some b → w'.heap[b]? = w.heap[b]?) ∧ ∃ (ev' : Value) (er' : List (List Value)), Bd f base w' B mb tv mv ev' xv types ps n ⟨s.ms, s.es ++ [edOf x], s.ts⟩ mr er'
set_option maxHeartbeats 16000000 in
set_option maxRecDepth 20000 in
theorem enmP_any (f base B mb : Nat) (tv mv ev xv : Value) (types : List Dc) (ps : List Pl) (n : Nat) (s : SC) (mr er : List (List Value)) (x : Pl) (fa va ma ia : Option Addr) (fc vc mc ic : Nat) (w : World) (F : Nat)
  (hfl : x.2.values.length ≤ 100000) (hft : ∀ y ∈ x.2.values, y.name.length ≤ 1000000) (hms : s.es.length ≤ 100000)
  (hB : Bd f base w B mb tv mv ev xv types ps n s mr er) (kd : Kids F w (Far w B mv ev xv) (.slice fa x.2.fields.length fc) (.slice va x.2.values.length vc) (.slice ma x.2.methods.length mc) (.slice ia x.2.inner.length ic) x.2) :
  Calls Tryz.prog 64 #[.pointer (some ⟨B, 0, none⟩), .agg #[.int .i64 x.2.kind, .string (mkB x.2.name), .int .i64 x.2.line, .int .i64 x.2.col, .slice fa x.2.fields.length fc, .slice va x.2.values.length vc, .slice ma x.2.methods.length mc, .slice ia x.2.inner.length ic, .string (mkB x.1)]] w fun e w' => EnmAns f base B mb tv mv ev xv types ps n s mr er x w e w' := by
 have HFT := Lib.hid hft
 have HB := Lib.hid hB
 have HKD := Lib.hid kd
 have hBlt := hB.lt
 obtain ⟨eva, evc, hev⟩ := own_slice hB.es.own
 subst hev
 obtain ⟨nf, hnf⟩ : ∃ k, x.2.values.length = k := ⟨_, rfl⟩
 have HNF := Lib.hid hnf
 rw [hnf] at hfl HKD ⊢
 clear hft hB kd hnf
 have hVb : Below w.heap.size w ((w.alloc (.cells #[.int .i64 x.2.kind, .string (mkB x.2.name), .int .i64 x.2.line, .int .i64 x.2.col, .slice fa x.2.fields.length fc, .slice va nf vc, .slice ma x.2.methods.length mc, .slice ia x.2.inner.length ic, .string (mkB x.1)] 117)).alloc (.cells #[.string (mkB x.1), .slice none 0 0] 91)) := ((Below.refl _ w).alloc (Nat.le_refl _) _).alloc (by simp) _
 have hV1 : ((w.alloc (.cells #[.int .i64 x.2.kind, .string (mkB x.2.name), .int .i64 x.2.line, .int .i64 x.2.col, .slice fa x.2.fields.length fc, .slice va nf vc, .slice ma x.2.methods.length mc, .slice ia x.2.inner.length ic, .string (mkB x.1)] 117)).alloc (.cells #[.string (mkB x.1), .slice none 0 0] 91)).heap[w.heap.size + 1]? = some (.cells #[.string (mkB x.1), .slice none 0 0] 91 (0, 0)) := by
  have := alloc_heap_new (w.alloc (.cells #[.int .i64 x.2.kind, .string (mkB x.2.name), .int .i64 x.2.line, .int .i64 x.2.col, .slice fa x.2.fields.length fc, .slice va nf vc, .slice ma x.2.methods.length mc, .slice ia x.2.inner.length ic, .string (mkB x.1)] 117)) (.cells #[.string (mkB x.1), .slice none 0 0] 91)
  simpa using this
 have hV0 : ((w.alloc (.cells #[.int .i64 x.2.kind, .string (mkB x.2.name), .int .i64 x.2.line, .int .i64 x.2.col, .slice fa x.2.fields.length fc, .slice va nf vc, .slice ma x.2.methods.length mc, .slice ia x.2.inner.length ic, .string (mkB x.1)] 117)).alloc (.cells #[.string (mkB x.1), .slice none 0 0] 91)).heap[w.heap.size]? = some (.cells #[.int .i64 x.2.kind, .string (mkB x.2.name), .int .i64 x.2.line, .int .i64 x.2.col, .slice fa x.2.fields.length fc, .slice va nf vc, .slice ma x.2.methods.length mc, .slice ia x.2.inner.length ic, .string (mkB x.1)] 117 (0, 0)) := by
  rw [alloc_heap_old _ _ _ (by simp)]; exact alloc_heap_new _ _
 have hVs : ((w.alloc (.cells #[.int .i64 x.2.kind, .string (mkB x.2.name), .int .i64 x.2.line, .int .i64 x.2.col, .slice fa x.2.fields.length fc, .slice va nf vc, .slice ma x.2.methods.length mc, .slice ia x.2.inner.length ic, .string (mkB x.1)] 117)).alloc (.cells #[.string (mkB x.1), .slice none 0 0] 91)).heap.size = w.heap.size + 2 := by simp
 go_enter Tryz.func64, Tryz.ntmps64
 go_upto_region 2 with fail
 generalize ((w.alloc (.cells #[.int .i64 x.2.kind, .string (mkB x.2.name), .int .i64 x.2.line, .int .i64 x.2.col, .slice fa x.2.fields.length fc, .slice va nf vc, .slice ma x.2.methods.length mc, .slice ia x.2.inner.length ic, .string (mkB x.1)] 117)).alloc (.cells #[.string (mkB x.1), .slice none 0 0] 91)) = V at *
 have v4 := cell_at hV0 5 rfl
 have HVB := Lib.hid hVb
 have HV0 := Lib.hid hV0
 have HV1 := Lib.hid hV1
 have hVs1 : w.heap.size + 2 ≤ V.heap.size := by omega
 clear hVb hV0 hV1 hVs
 go_wp2_with fail
 clear v4
 go_loopw [14] (fun i wr => ∃ (k : Nat) (fv : Value), i = .int .i64 (k : Int) ∧ k ≤ nf ∧ Below w.heap.size w wr ∧ w.heap.size + 2 ≤ wr.heap.size ∧ wr.heap[w.heap.size]? = some (.cells #[.int .i64 x.2.kind, .string (mkB x.2.name), .int .i64 x.2.line, .int .i64 x.2.col, .slice fa x.2.fields.length fc, .slice va nf vc, .slice ma x.2.methods.length mc, .slice ia x.2.inner.length ic, .string (mkB x.1)] 117 (0, 0)) ∧ wr.heap[w.heap.size + 1]? = some (.cells #[.string (mkB x.1), fv] 91 (0, 0)) ∧ wr.ownsRow (w.heap.size + 2) 93 2 fv k (((x.2.values.take k).map fun v => (⟨v.name, v.num⟩ : VD)).flatMap vdrow)) (fun i _ => nf - (intOf i).toNat)
 case atStart => exact ⟨0, _, rfl, Nat.zero_le _, HVB.out, hVs1, HV0.out, HV1.out, World.ownsRow_nil _ _ _ _⟩
 case round =>
  generalize wr = w1 at *
  obtain ⟨k, fv, rfl, hk, hbel, hsz, hx0, hx2, hown⟩ := hrel
  obtain ⟨fva, fvc, hfv⟩ := own_slice hown
  subst hfv
  have HBE := Lib.hid hbel
  have H0 := Lib.hid hx0
  have H2 := Lib.hid hx2
  have HO := Lib.hid hown
  clear hbel hx0 hx2 hown HV0 HV1 HVB
  by_cases hkn : k < nf
  ·obtain ⟨y, hy⟩ : ∃ y, x.2.values[k]? = some y := ⟨_, List.getElem?_eq_getElem (by have := HNF.out; omega)⟩
   have hnml := HFT.out y (List.mem_of_getElem? hy)
   obtain ⟨g, oo, c0, hsl, hg, e0, e1, e2, e3⟩ := value_at HKD.out.2.1 (W := w1) (fun b hb => HBE.out.block b hb.1) hy
   rw [HNF.out] at hsl
   obtain ⟨rfl, rfl⟩ : va = some ⟨g, oo, none⟩ ∧ vc = c0 := by
    injection hsl with h1 _ h3
    exact ⟨h1, h3⟩
   have HTK : Hid ((x.2.values.take (k + 1)).map (fun v => (⟨v.name, v.num⟩ : VD)) = ((x.2.values.take k).map fun v => (⟨v.name, v.num⟩ : VD)) ++ [⟨y.name, y.num⟩]) := by
    refine (?_ : _ = _)
    rw [take_snoc hy, List.map_append]; rfl
   have hk0 : (0 : Int) ≤ (k : Int) := by omega
   have hk1 : (k : Int) < (nf : Int) := by omega
   have hwq : IntKind.i64.wrap ((k : Int) + 1) = (k : Int) + 1 := by rw [IntKind.wrap_i64]; omega
   obtain ⟨XS, hXS⟩ : ∃ X, ((x.2.values.take k).map fun v => (⟨v.name, v.num⟩ : VD)) = X := ⟨_, rfl⟩
   rw [hXS] at HO HTK
   clear hsl hy hXS
   have hC : (w1.alloc (.cells #[.string (mkB y.name), .int .i64 y.num, .int .i64 y.line, .int .i64 y.col] 74)).heap[w1.heap.size]? = some (.cells #[.string (mkB y.name), .int .i64 y.num, .int .i64 y.line, .int .i64 y.col] 74 (0, 0)) := alloc_heap_new _ _
   have hCb : Below w1.heap.size w1 (w1.alloc (.cells #[.string (mkB y.name), .int .i64 y.num, .int .i64 y.line, .int .i64 y.col] 74)) := (Below.refl _ w1).alloc (Nat.le_refl _) _
   go_upto_region 5 with fail
   generalize (w1.alloc (.cells #[.string (mkB y.name), .int .i64 y.num, .int .i64 y.line, .int .i64 y.col] 74)) = Y at *
   have hYs := hCb.size
   have hYl := blk_lt hC
   have HBY := Lib.hid (HBE.out.trans (hCb.mono (by omega)))
   have HY0 : Hid (Y.heap[w.heap.size]? = _) := (hCb.block _ (by omega)).trans H0.out
   have hsp0 : Y.drew.heap[w.heap.size + 1]? = some (.cells #[.string (mkB x.1), .slice fva k fvc] 91 (0, 0)) := (hCb.block _ (by omega)).trans H2.out
   have hsy0 : Y.drew.heap[w1.heap.size]? = some (.cells #[.string (mkB y.name), .int .i64 y.num, .int .i64 y.line, .int .i64 y.col] 74 (0, 0)) := hC
   have HOB : Hid (∀ b, (Value.slice fva k fvc).ownBlock = some b → w.heap.size + 2 ≤ b ∧ b < w1.heap.size) := fun b hb => own_block HO.out b hb
   have HOY : Hid (Y.ownsRow (w.heap.size + 2) 93 2 (.slice fva k fvc) k (XS.flatMap vdrow)) := own_keep HO.out fun b hb => hCb.block b (own_block HO.out b hb).2
   have hCl := fun W => clone_any (mkB y.name) W (by rw [mkB_size]; omega)
   have HCF : Hid (∀ W : World, W.heap[w1.heap.size]? = some (.cells #[.string (mkB y.name), .int .i64 y.num, .int .i64 y.line, .int .i64 y.col] 74 (0, 0)) → W.heap[w.heap.size + 1]? = some (.cells #[.string (mkB x.1), .slice fva k fvc] 91 (0, 0)) → W.cell? ⟨w1.heap.size, 0, none⟩ = some (.string (mkB y.name)) ∧ W.cell? ⟨w1.heap.size, 1, none⟩ = some (.int .i64 y.num) ∧ W.cell? ⟨w.heap.size + 1, 1, none⟩ = some (.slice fva k fvc)) := fun W h1 h2 => ⟨by simp [World.cell?, h1], by simp [World.cell?, h1], by simp [World.cell?, h2]⟩
   clear hC hCb e0 e1 e2 e3 HO
   refine region_G 11 (fun W => W.heap[w1.heap.size]? = some (.cells #[.string (mkB y.name), .int .i64 y.num, .int .i64 y.line, .int .i64 y.col] 74 (0, 0))) (fun W => W.heap[w.heap.size + 1]? = some (.cells #[.string (mkB x.1), .slice fva k fvc] 91 (0, 0))) (by kernel_rfl) ?_
   refine G_take (i := 0) (v := .pointer (some ⟨w.heap.size + 1, 1, none⟩)) [9, 1, 0] rfl (by kernel_rfl) (fun _ _ _ h => h) (.inl ⟨by kernel_rfl, fun W hW => by go_simp⟩) ⟨hsy0, fun _ => hsp0⟩ ?_
   refine G_take (i := 1) (v := .slice fva k fvc) [9, 1] rfl (by kernel_rfl) (fun _ _ _ h => h) (.inl ⟨by kernel_rfl, fun W hW => by obtain ⟨u0, u1, up⟩ := HCF.out W hW.1 hW.2; go_simp⟩) ⟨hsy0, fun _ => hsp0⟩ ?_
   refine G_take (i := 2) (v := .pointer (some ⟨w1.heap.size, 0, none⟩)) [9, 8, 7, 4, 3, 2] rfl (by kernel_rfl) (fun _ _ _ h => h) (.inl ⟨by kernel_rfl, fun W hW => by go_simp⟩) ⟨hsy0, fun _ => hsp0⟩ ?_
   refine G_take (i := 3) (v := .string (mkB y.name)) [9, 8, 7, 4, 3] rfl (by kernel_rfl) (fun _ _ _ h => h) (.inl ⟨by kernel_rfl, fun W hW => by obtain ⟨u0, u1, up⟩ := HCF.out W hW.1 hW.2; go_simp⟩) ⟨hsy0, fun _ => hsp0⟩ ?_
   refine G_take (i := 5) (v := .pointer (some ⟨w1.heap.size, 1, none⟩)) [9, 8, 7, 6, 5] rfl (by kernel_rfl) (fun _ _ _ h => h) (.inl ⟨by kernel_rfl, fun W hW => by go_simp⟩) ⟨hsy0, fun _ => hsp0⟩ ?_
   refine G_take (i := 6) (v := .int .i64 y.num) [9, 8, 7, 6] rfl (by kernel_rfl) (fun _ _ _ h => h) (.inl ⟨by kernel_rfl, fun W hW => by obtain ⟨u0, u1, up⟩ := HCF.out W hW.1 hW.2; go_simp⟩) ⟨hsy0, fun _ => hsp0⟩ ?_
   refine G_one (i := 4) (by kernel_rfl) rfl (fun K hK => ?_)
   go_simp
   refine (hCl _).mono ?_
   rintro e5 W5 ⟨rfl, hb5⟩
   have hb5' : Below Y.heap.size Y W5 := (Below.refl _ Y).drew.trans hb5
   have hy5 := (hb5'.block _ hYl).trans hsy0
   have hp5 := (hb5'.block _ (by omega)).trans hsp0
   have ho5 : W5.ownsRow (w.heap.size + 2) 93 2 (.slice fva k fvc) k (XS.flatMap vdrow) := (own_keep HOY.out fun b hb => hb5'.block b (by have := HOB.out b hb; omega))
   have h5s := hb5'.size
   dsimp only
   refine hK.out _ _ ⟨hy5, fun _ => hp5⟩ ?_
   clear hK K
   refine G_take (i := 7) (v := .agg #[.string (mkB y.name), .int .i64 y.num]) [9, 8, 7] rfl (by kernel_rfl) (fun _ _ _ h => h) (.inl ⟨by kernel_rfl, fun W hW => by go_simp⟩) ⟨hy5, fun _ => hp5⟩ ?_
   refine G_one (i := 8) (by kernel_rfl) rfl (fun K hK => ?_)
   go_simp
   refine hK.out _ _ ⟨(alloc_heap_old _ _ _ (by omega)).trans hy5, fun _ => (alloc_heap_old _ _ _ (by omega)).trans hp5⟩ ?_
   clear hK K
   refine G_one (i := 9) (by kernel_rfl) rfl (fun K hK => ?_)
   refine row_pushS (T := 93) Tryz.underlying89 infoVdA rfl (by decide) (ho5.alloc _) (by simp; omega) (vdrow ⟨y.name, y.num⟩) rfl (vdrow_one _) W5.heap.size (alloc_heap_new _ _) rfl _ _ rfl rfl rfl (by unfold maxLen; omega) (by omega) ?_
   intro g6 cap6 W6 hown6 hgr6 hat6 hlt6
   have hgr5 : W5.grownBy W6 (Value.slice fva k fvc).ownBlock := ((World.grownBy_alloc _ _ _).trans hgr6)
   have hp6 : W6.heap[w.heap.size + 1]? = some (.cells #[.string (mkB x.1), .slice fva k fvc] 91 (0, 0)) := ((hgr5.block _ (by omega) (fun e => by have := HOB.out _ e.symm; omega)).trans hp5)
   have hy6 : W6.heap[w1.heap.size]? = _ := ((hgr5.block _ (by omega) (fun e => by have := HOB.out _ e.symm; omega)).trans hy5)
   have c61 : W6.cell? ⟨w.heap.size + 1, 1, none⟩ = some (.slice fva k fvc) := (by simp [World.cell?, hp6])
   have f61 : W6.frozen? ⟨w.heap.size + 1, 1, none⟩ = false := (by simp [World.frozen?, hp6])
   refine hK.out _ _ ⟨hy6, fun _ => hp6⟩ ?_
   clear hK K
   refine G_take (i := 10) (v := .pointer (some ⟨w.heap.size + 1, 1, none⟩)) [10] rfl (by kernel_rfl) (fun _ _ _ h => h) (.inl ⟨by kernel_rfl, fun W hW => by go_simp⟩) ⟨hy6, fun _ => hp6⟩ ?_
   refine G_one (i := 11) (by kernel_rfl) rfl (fun K hK => ?_)
   go_simp
   refine hK.out _ _ ⟨(Below.heap_setCell _ _ _ _ (by show w1.heap.size ≠ w.heap.size + 1; omega)).trans hy6, fun h => (by cases h)⟩ ?_
   clear hK K
   refine G_done (by kernel_rfl) ?_ _
   have hb6 : Below (w.heap.size + 2) Y W6 := (hb5'.mono (by omega)).grown hgr5 (by omega) (fun b hb => (HOB.out b hb).1)
   have hQp : (W6.setCell ⟨w.heap.size + 1, 1, none⟩ (.slice (some ⟨g6, 0, none⟩) (k + 1) cap6)).heap[w.heap.size + 1]? = some (.cells #[.string (mkB x.1), .slice (some ⟨g6, 0, none⟩) (k + 1) cap6] 91 (0, 0)) := by rw [setCell_heap hp6]; rfl
   have hQo : ∀ b, b ≠ w.heap.size + 1 → (W6.setCell ⟨w.heap.size + 1, 1, none⟩ (.slice (some ⟨g6, 0, none⟩) (k + 1) cap6)).heap[b]? = W6.heap[b]? := fun b hb => Below.heap_setCell _ _ _ _ hb
   have hQs : (W6.setCell ⟨w.heap.size + 1, 1, none⟩ (.slice (some ⟨g6, 0, none⟩) (k + 1) cap6)).heap.size = W6.heap.size := by simp
   have hQb : Below w.heap.size w (W6.setCell ⟨w.heap.size + 1, 1, none⟩ (.slice (some ⟨g6, 0, none⟩) (k + 1) cap6)) := (HBY.out.trans (hb6.mono (by omega))).setCell (p := ⟨w.heap.size + 1, 1, none⟩) (by show w.heap.size ≤ w.heap.size + 1; omega) _
   obtain ⟨Q, hQ⟩ : ∃ Q, (W6.setCell ⟨w.heap.size + 1, 1, none⟩ (.slice (some ⟨g6, 0, none⟩) (k + 1) cap6)) = Q := ⟨_, rfl⟩
   rw [hQ] at hQp hQo hQs hQb
   have HQ := Lib.hid hQ
   have H30 : Hid (Q.heap[w.heap.size]? = _) := (hQo _ (by omega)).trans ((hb6.block _ (by omega)).trans HY0.out)
   have H32 := Lib.hid hQp
   have HB3 := Lib.hid hQb
   have h3s : w.heap.size + 2 ≤ Q.heap.size := by have := hgr5.size; omega
   have HO3 : Hid (Q.ownsRow (w.heap.size + 2) 93 2 (.slice (some ⟨g6, 0, none⟩) (k + 1) cap6) (k + 1) ((XS ++ [(⟨y.name, y.num⟩ : VD)]).flatMap vdrow)) := by
    refine (?_ : World.ownsRow _ _ _ _ _ _ _)
    rw [List.flatMap_append]
    refine own_keep ?_ fun b hb => hQo b (by have := (own_block hown6 b hb).1; omega)
    simpa using hown6
   clear hQ hQp hQo hQs hQb hb6 hown6 hgr6 hgr5 hat6 hb5 hb5' ho5 hy5 hp5 hp6 hy6 hsy0 hsp0
   rw [HQ.out]
   clear c61 f61
   go_wp2_with fail
   go_roundw
   case rel => exact ⟨k + 1, _, by go_num, by omega, HB3.out, h3s, H30.out, H32.out, by rw [HTK.out]; exact HO3.out⟩
   case measure => simp [intOf]; omega
  ·have hkn' : ¬ (k : Int) < (nf : Int) := by omega
   have hke : k = nf := by omega
   have hte : x.2.values.take k = x.2.values := List.take_of_length_le (by have := HNF.out; omega)
   rw [hte] at HO
   have hel : (edOf x).values.length = k := by show (x.2.values.map _).length = k; rw [List.length_map, HNF.out, hke]
   have HO' : Hid (w1.ownsRow (w.heap.size + 2) 93 2 (.slice fva k fvc) (edOf x).values.length ((edOf x).values.flatMap vdrow)) := by
    refine (?_ : World.ownsRow _ _ _ _ _ _ _)
    rw [hel]; exact HO.out
   have HEL := Lib.hid hel
   have HOB : Hid (∀ b, (Value.slice fva k fvc).ownBlock = some b → w.heap.size + 2 ≤ b ∧ b < w1.heap.size) := fun b hb => own_block HO.out b hb
   have HBdU := Lib.hid (HB.out.below (W := w1) HBE.out)
   have hU5 := HBdU.out.cells
   have p0 := cell_at H2.out 0 rfl
   have p1 := cell_at H2.out 1 rfl
   have b2 := cell_at hU5 3 rfl
   have b2a : ∀ ob, (w1.alloc ob).cell? ⟨B, 3, none⟩ = some (.slice eva s.es.length evc) := fun ob => by rw [World.cell?_of_block (alloc_heap_old _ _ _ (by show B < _; omega))]; exact b2
   have b2d : ∀ ob, (w1.drew.alloc ob).cell? ⟨B, 3, none⟩ = some (.slice eva s.es.length evc) := fun ob => by rw [World.cell?_of_block (alloc_heap_old _ _ _ (by show B < w1.heap.size; omega))]; exact b2
   have HROW : Hid (RowsIn w1 (FarB base w1 B mv (.slice eva s.es.length evc) xv) 2 vdrow (.slice fva (edOf x).values.length fvc) (edOf x).values) := by
    refine (?_ : RowsIn _ _ _ _ _ _)
    rw [hel]
    refine rowsIn_own (row := vdrow) (fun _ => rfl) HO'.out _ fun b hb => ?_
    have hb' := HOB.out b hb
    have hwB := HB.out
    have hwz := hwB.sz
    refine ⟨⟨by omega, by omega, fun e => ?_, fun e => ?_, fun e => ?_⟩, by omega⟩
    ·have := (own_block hwB.ms.own b e).2; omega
    ·have := (own_block hwB.es.own b e).2; omega
    ·have := (own_block hwB.ts b e).2; omega
   have hMO : (w1.drew).ownsRow base 91 2 (.slice eva s.es.length evc) s.es.length (er.flatMap id) := HBdU.out.es.own
   have HMB : Hid (∀ b, (Value.slice eva s.es.length evc).ownBlock = some b → base ≤ b ∧ b < w.heap.size) := fun b hb => own_block HB.out.es.own b hb
   have hbs := HBdU.out.sz
   have hbb := HB.out.bb
   clear hte hke hkn hel HO'
   go_upto_region 7 with fail
   go_region_law (first
    | (refine row_pushS (T := 91) Tryz.underlying26 infoEdA rfl (by decide) (hMO.alloc _) (by simp; show base ≤ w1.heap.size + 1; omega) [.string (mkB x.1), .slice fva k fvc] rfl (by intro u hu; simp only [List.mem_cons, List.not_mem_nil, or_false] at hu; rcases hu with rfl | rfl <;> rfl) w1.heap.size (alloc_heap_new _ _) rfl _ _ rfl rfl rfl (by unfold maxLen; omega) (by omega) ?_; intro g6 cap6 W6 hown6 hgr6 hat6 hlt6; have hgr5 : w1.grownBy W6 (Value.slice eva s.es.length evc).ownBlock := (World.grownBy.trans (World.grownBy_alloc w1 _ _) ⟨hgr6.os, hgr6.tape, hgr6.output, hgr6.size, hgr6.block⟩); have hB6 : W6.heap[B]? = some (.cells #[tv, .map (some mb), mv, .slice eva s.es.length evc, xv] 128 (0, 0)) := ((hgr5.block _ (by omega) (fun e => by have := HMB.out _ e.symm; omega)).trans HBdU.out.cells); have c62 : W6.cell? ⟨B, 3, none⟩ = some (.slice eva s.es.length evc) := (by simp [World.cell?, hB6]); have f62 : W6.frozen? ⟨B, 3, none⟩ = false := (by simp [World.frozen?, hB6]); dsimp only))
   all_goals
    have hat5 : (Value.slice eva s.es.length evc).ownBlock = some g6 ∨ w1.heap.size ≤ g6 := hat6.imp id fun e => by rw [e]; simp
    have hpush := HBdU.out.pushE (edOf x) fva fvc HROW.out g6 cap6 (by rw [HEL.out]; exact hown6) hgr5 hat5
    have hQo : ∀ b, b < w.heap.size → b ≠ B → (Value.slice eva s.es.length evc).ownBlock ≠ some b → (W6.setCell ⟨B, 3, none⟩ (.slice (some ⟨g6, 0, none⟩) (s.es.length + 1) cap6)).heap[b]? = w.heap[b]? := fun b h1 h2 h3 => by
     rw [Below.heap_setCell _ _ _ _ h2, hgr5.block b (by omega) (fun e => h3 e.symm)]
     exact HBE.out.block b h1
    have hQs : w.heap.size ≤ (W6.setCell ⟨B, 3, none⟩ (.slice (some ⟨g6, 0, none⟩) (s.es.length + 1) cap6)).heap.size := by have := hgr5.size; simp; omega
    have HQB : Hid (Below B w (W6.setCell ⟨B, 3, none⟩ (.slice (some ⟨g6, 0, none⟩) (s.es.length + 1) cap6))) := (show Below B w W6 from (HBE.out.mono (by omega)).grown hgr5 (by omega) (fun b hb => by have := HMB.out b hb; omega)).setCell (p := ⟨B, 3, none⟩) (Nat.le_refl _) _
    have HPU := Lib.hid hpush
    have HQO := Lib.hid hQo
    have HQS := Lib.hid hQs
    clear hpush hQo hQs hown6 hgr6 hgr5 hat6 hat5 hB6 b2a b2d hMO
    try go_wp2_with fail
    go_end0
    exact ⟨rfl, HQB.out, HQS.out, HQO.out, _, _, HPU.out⟩
end Go.Proofs.YtpojeinddnjpfaaGreatDoor
