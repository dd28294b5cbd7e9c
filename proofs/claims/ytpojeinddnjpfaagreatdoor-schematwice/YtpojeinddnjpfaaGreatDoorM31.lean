/-
  The walk over the program's builder.message.
-/
import Derived.Test.YtpojeinddnjpfaaGreatDoorM0
import Derived.Test.YtpojeinddnjpfaaGreatDoorM29
import Derived.Test.YtpojeinddnjpfaaGreatDoorM30
import Derived.Test.YtpojeinddnjpfaaGreatDoorM16
import Derived.Deep.RegionLaw
namespace Go.Proofs.YtpojeinddnjpfaaGreatDoor
set_option linter.unusedVariables false
open Go.ChangeShapes Go.WideShapes Go.ChangeAt Go.RowKit Go.Maps

theorem infoFdA : (Tryz.prog.info? 88).map (fun i => (i.zero, i.size, i.bytes)) = some (some (.agg #[.int .i64 0, .string ⟨#[]⟩, .int .i64 0, .bool false, .int .i64 0]), 5, 48) := by kernel_rfl
theorem infoMdA : (Tryz.prog.info? 48).map (fun i => (i.zero, i.size, i.bytes)) = some (some (.agg #[.string ⟨#[]⟩, .slice none 0 0]), 2, 40) := by kernel_rfl
theorem fdrow_one (x : FD) : ∀ u ∈ fdrow x, u.oneCell' = true := by
 intro u hu
 simp only [fdrow, List.mem_cons, List.not_mem_nil, or_false] at hu
 rcases hu with rfl | rfl | rfl | rfl | rfl <;> rfl
def fdP (f : Nat) (types : List Dc) (ps : List Pl) (n : Nat) (whole : List UInt8) (y : Fd) : FD := ⟨y.num, y.name, ((ftP f types ps n whole y.type).getD (0, 0)).1, y.rep, ((ftP f types ps n whole y.type).getD (0, 0)).2⟩
def fieldXP (f : Nat) (types : List Dc) (ps : List Pl) (n : Nat) (x : Pl) (k : Nat) : Option (Int × Int) := match x.2.fields[k]? with
 | some y => if (ftP f types ps n x.1 y.type).isNone = true then some (y.line, y.col) else none
 | none => none
structure TyFit (f : Nat) (types : List Dc) : Prop where
 ct : ctL (f + 1) types ≤ 100000
 fit : FitD (f + 1) types
 txt : TxtD (f + 1) types
 sym : ∀ (sc path : List UInt8) (z : Sy), findP (f + 1) types sc path = some z → z.1.length ≤ 1000000000000
def MsgAns (f base B mb : Nat) (tv mv ev xv : Value) (types : List Dc) (ps : List Pl) (n : Nat) (s : SC) (mr er : List (List Value)) (x : Pl) (w : World) (e : Ending) (w' : World) : Prop :=
  ∃ l c b, e = .returned (.tuple #[.agg #[.int .i64 l, .int .i64 c], .bool b]) ∧ Below B w w' ∧ w.heap.size ≤ w'.heap.size ∧ (∀ b, b < w.heap.size → b ≠ B → mv.ownBlock ≠ some b → w'.heap[b]? = w.heap[b]?) ∧
    ((b = true ∧ firstS (fieldXP f types ps n x) x.2.fields.length = some (l, c)) ∨
     (b = false ∧ l = 0 ∧ c = 0 ∧ firstS (fieldXP f types ps n x) x.2.fields.length = none ∧ ∃ (ys : List FD) (mv' : Value) (mr' : List (List Value)), ys.Perm (x.2.fields.map (fdP f types ps n x.1)) ∧ (ys.Pairwise fun a b => a.num ≤ b.num) ∧ Bd f base w' B mb tv mv' ev xv types ps n ⟨s.ms ++ [⟨x.1, ys⟩], s.es, s.ts⟩ mr' er))
set_option maxHeartbeats 16000000 in
set_option maxRecDepth 20000 in
theorem msgP_any (f base B mb : Nat) (tv mv ev xv : Value) (types : List Dc) (ps : List Pl) (n : Nat) (s : SC) (mr er : List (List Value)) (x : Pl) (fa va ma ia : Option Addr) (fc vc mc ic : Nat) (w : World) (F : Nat)
  (hTy : TyFit f types) (hfl : x.2.fields.length ≤ 100000) (hwl : x.1.length ≤ 1000000000000) (hft : ∀ y ∈ x.2.fields, y.type.length ≤ 200000000 ∧ y.name.length ≤ 1000000) (hms : s.ms.length ≤ 100000)
  (hB : Bd f base w B mb tv mv ev xv types ps n s mr er) (kd : Kids F w (Far w B mv ev xv) (.slice fa x.2.fields.length fc) (.slice va x.2.values.length vc) (.slice ma x.2.methods.length mc) (.slice ia x.2.inner.length ic) x.2) :
  Calls Tryz.prog 63 #[.pointer (some ⟨B, 0, none⟩), .agg #[.int .i64 x.2.kind, .string (mkB x.2.name), .int .i64 x.2.line, .int .i64 x.2.col, .slice fa x.2.fields.length fc, .slice va x.2.values.length vc, .slice ma x.2.methods.length mc, .slice ia x.2.inner.length ic, .string (mkB x.1)]] w fun e w' => MsgAns f base B mb tv mv ev xv types ps n s mr er x w e w' := by
 have HTY := Lib.hid hTy
 have HFT := Lib.hid hft
 have HB := Lib.hid hB
 have HKD := Lib.hid kd
 have hBlt := hB.lt
 obtain ⟨mva, mvc, hmv⟩ := own_slice hB.ms.own
 subst hmv
 obtain ⟨nf, hnf⟩ : ∃ k, x.2.fields.length = k := ⟨_, rfl⟩
 have HNF := Lib.hid hnf
 rw [hnf] at hfl HKD ⊢
 have HRES : Hid (∀ e w', MsgAns f base B mb tv (.slice mva s.ms.length mvc) ev xv types ps n s mr er x w e w' → MsgAns f base B mb tv (.slice mva s.ms.length mvc) ev xv types ps n s mr er x w e w') := fun _ _ h => h
 clear hTy hft hB kd hnf
 have hVb : Below w.heap.size w (((w.alloc (.cells #[.int .i64 x.2.kind, .string (mkB x.2.name), .int .i64 x.2.line, .int .i64 x.2.col, .slice fa nf fc, .slice va x.2.values.length vc, .slice ma x.2.methods.length mc, .slice ia x.2.inner.length ic, .string (mkB x.1)] 117)).alloc (.cells #[.int .i64 0, .int .i64 0] 31)).alloc (.cells #[.string (mkB x.1), .slice none 0 0] 48)) := (((Below.refl _ w).alloc (Nat.le_refl _) _).alloc (by simp) _).alloc (by simp; omega) _
 have hV2 : (((w.alloc (.cells #[.int .i64 x.2.kind, .string (mkB x.2.name), .int .i64 x.2.line, .int .i64 x.2.col, .slice fa nf fc, .slice va x.2.values.length vc, .slice ma x.2.methods.length mc, .slice ia x.2.inner.length ic, .string (mkB x.1)] 117)).alloc (.cells #[.int .i64 0, .int .i64 0] 31)).alloc (.cells #[.string (mkB x.1), .slice none 0 0] 48)).heap[w.heap.size + 2]? = some (.cells #[.string (mkB x.1), .slice none 0 0] 48 (0, 0)) := by
  have := alloc_heap_new ((w.alloc (.cells #[.int .i64 x.2.kind, .string (mkB x.2.name), .int .i64 x.2.line, .int .i64 x.2.col, .slice fa nf fc, .slice va x.2.values.length vc, .slice ma x.2.methods.length mc, .slice ia x.2.inner.length ic, .string (mkB x.1)] 117)).alloc (.cells #[.int .i64 0, .int .i64 0] 31)) (.cells #[.string (mkB x.1), .slice none 0 0] 48)
  simpa using this
 have hV1 : (((w.alloc (.cells #[.int .i64 x.2.kind, .string (mkB x.2.name), .int .i64 x.2.line, .int .i64 x.2.col, .slice fa nf fc, .slice va x.2.values.length vc, .slice ma x.2.methods.length mc, .slice ia x.2.inner.length ic, .string (mkB x.1)] 117)).alloc (.cells #[.int .i64 0, .int .i64 0] 31)).alloc (.cells #[.string (mkB x.1), .slice none 0 0] 48)).heap[w.heap.size + 1]? = some (.cells #[.int .i64 0, .int .i64 0] 31 (0, 0)) := by
  rw [alloc_heap_old _ _ _ (by simp)]
  have := alloc_heap_new (w.alloc (.cells #[.int .i64 x.2.kind, .string (mkB x.2.name), .int .i64 x.2.line, .int .i64 x.2.col, .slice fa nf fc, .slice va x.2.values.length vc, .slice ma x.2.methods.length mc, .slice ia x.2.inner.length ic, .string (mkB x.1)] 117)) (.cells #[.int .i64 0, .int .i64 0] 31)
  simpa using this
 have hV0 : (((w.alloc (.cells #[.int .i64 x.2.kind, .string (mkB x.2.name), .int .i64 x.2.line, .int .i64 x.2.col, .slice fa nf fc, .slice va x.2.values.length vc, .slice ma x.2.methods.length mc, .slice ia x.2.inner.length ic, .string (mkB x.1)] 117)).alloc (.cells #[.int .i64 0, .int .i64 0] 31)).alloc (.cells #[.string (mkB x.1), .slice none 0 0] 48)).heap[w.heap.size]? = some (.cells #[.int .i64 x.2.kind, .string (mkB x.2.name), .int .i64 x.2.line, .int .i64 x.2.col, .slice fa nf fc, .slice va x.2.values.length vc, .slice ma x.2.methods.length mc, .slice ia x.2.inner.length ic, .string (mkB x.1)] 117 (0, 0)) := by
  rw [alloc_heap_old _ _ _ (by simp; omega), alloc_heap_old _ _ _ (by simp)]; exact alloc_heap_new _ _
 have hVs : (((w.alloc (.cells #[.int .i64 x.2.kind, .string (mkB x.2.name), .int .i64 x.2.line, .int .i64 x.2.col, .slice fa nf fc, .slice va x.2.values.length vc, .slice ma x.2.methods.length mc, .slice ia x.2.inner.length ic, .string (mkB x.1)] 117)).alloc (.cells #[.int .i64 0, .int .i64 0] 31)).alloc (.cells #[.string (mkB x.1), .slice none 0 0] 48)).heap.size = w.heap.size + 3 := by simp
 go_enter Tryz.func63, Tryz.ntmps63
 go_upto_region 2 with fail
 generalize (((w.alloc (.cells #[.int .i64 x.2.kind, .string (mkB x.2.name), .int .i64 x.2.line, .int .i64 x.2.col, .slice fa nf fc, .slice va x.2.values.length vc, .slice ma x.2.methods.length mc, .slice ia x.2.inner.length ic, .string (mkB x.1)] 117)).alloc (.cells #[.int .i64 0, .int .i64 0] 31)).alloc (.cells #[.string (mkB x.1), .slice none 0 0] 48)) = V at *
 have v4 := cell_at hV0 4 rfl
 have HVB := Lib.hid hVb
 have HV0 := Lib.hid hV0
 have HV1 := Lib.hid hV1
 have HV2 := Lib.hid hV2
 have hVs1 : w.heap.size + 3 ≤ V.heap.size := by omega
 clear hVb hV0 hV1 hV2 hVs
 go_wp2_with fail
 clear v4
 go_loopw [19] (fun i wr => ∃ (k : Nat) (fv : Value), i = .int .i64 (k : Int) ∧ k ≤ nf ∧ firstS (fieldXP f types ps n x) k = none ∧ Below w.heap.size w wr ∧ w.heap.size + 3 ≤ wr.heap.size ∧ wr.heap[w.heap.size]? = some (.cells #[.int .i64 x.2.kind, .string (mkB x.2.name), .int .i64 x.2.line, .int .i64 x.2.col, .slice fa nf fc, .slice va x.2.values.length vc, .slice ma x.2.methods.length mc, .slice ia x.2.inner.length ic, .string (mkB x.1)] 117 (0, 0)) ∧ wr.heap[w.heap.size + 1]? = some (.cells #[.int .i64 0, .int .i64 0] 31 (0, 0)) ∧ wr.heap[w.heap.size + 2]? = some (.cells #[.string (mkB x.1), fv] 48 (0, 0)) ∧ wr.ownsRow (w.heap.size + 3) 88 5 fv k (((x.2.fields.take k).map (fdP f types ps n x.1)).flatMap fdrow)) (fun i _ => nf - (intOf i).toNat)
 case atStart => exact ⟨0, _, rfl, Nat.zero_le _, rfl, HVB.out, hVs1, HV0.out, HV1.out, HV2.out, World.ownsRow_nil _ _ _ _⟩
 case round =>
  generalize wr = w1 at *
  obtain ⟨k, fv, rfl, hk, hfs, hbel, hsz, hx0, hx1, hx2, hown⟩ := hrel
  obtain ⟨fva, fvc, hfv⟩ := own_slice hown
  subst hfv
  have HFS := Lib.hid hfs
  have HBE := Lib.hid hbel
  have H0 := Lib.hid hx0
  have H1 := Lib.hid hx1
  have H2 := Lib.hid hx2
  have HO := Lib.hid hown
  clear hfs hbel hx0 hx1 hx2 hown HV0 HV1 HV2 HVB
  by_cases hkn : k < nf
  ·obtain ⟨y, hy⟩ : ∃ y, x.2.fields[k]? = some y := ⟨_, List.getElem?_eq_getElem (by have := HNF.out; omega)⟩
   obtain ⟨htyl, hnml⟩ := HFT.out y (List.mem_of_getElem? hy)
   have hff : ∀ b, Far w B (.slice mva s.ms.length mvc) ev xv b → b < w.heap.size := fun b hb => hb.1
   obtain ⟨g, oo, c0, hsl, hg, e0, e1, e2, e3, e4, e5⟩ := field_at HKD.out.1 (W := w1) (fun b hb => HBE.out.block b hb.1) hy
   rw [HNF.out] at hsl
   obtain ⟨rfl, rfl⟩ : fa = some ⟨g, oo, none⟩ ∧ fc = c0 := by
    injection hsl with h1 _ h3
    exact ⟨h1, h3⟩
   have HFX : Hid (fieldXP f types ps n x k = if (ftP f types ps n x.1 y.type).isNone = true then some (y.line, y.col) else none) := by
    refine (?_ : _ = _)
    unfold fieldXP
    rw [hy]
   have HTK : Hid ((x.2.fields.take (k + 1)).map (fdP f types ps n x.1) = (x.2.fields.take k).map (fdP f types ps n x.1) ++ [fdP f types ps n x.1 y]) := by
    refine (?_ : _ = _)
    rw [take_snoc hy, List.map_append]; rfl
   have HFP : Hid (fdP f types ps n x.1 y = ⟨y.num, y.name, ((ftP f types ps n x.1 y.type).getD (0, 0)).1, y.rep, ((ftP f types ps n x.1 y.type).getD (0, 0)).2⟩) := rfl
   have hk0 : (0 : Int) ≤ (k : Int) := by omega
   have hk1 : (k : Int) < (nf : Int) := by omega
   have hwq : IntKind.i64.wrap ((k : Int) + 1) = (k : Int) + 1 := by rw [IntKind.wrap_i64]; omega
   obtain ⟨XS, hXS⟩ : ∃ X, (x.2.fields.take k).map (fdP f types ps n x.1) = X := ⟨_, rfl⟩
   rw [hXS] at HO HTK
   have b8 := cell_at H0.out 8 rfl
   have hwh : ∀ b, b < w.heap.size → b < w1.heap.size := fun b hb => by omega
   clear hsl hy hXS hff
   have hC : (w1.alloc (.cells #[.bool y.rep, .string (mkB y.type), .string (mkB y.name), .int .i64 y.num, .int .i64 y.line, .int .i64 y.col] 71)).heap[w1.heap.size]? = some (.cells #[.bool y.rep, .string (mkB y.type), .string (mkB y.name), .int .i64 y.num, .int .i64 y.line, .int .i64 y.col] 71 (0, 0)) := alloc_heap_new _ _
   have hCb : Below w1.heap.size w1 (w1.alloc (.cells #[.bool y.rep, .string (mkB y.type), .string (mkB y.name), .int .i64 y.num, .int .i64 y.line, .int .i64 y.col] 71)) := (Below.refl _ w1).alloc (Nat.le_refl _) _
   go_upto_region 5 with fail
   generalize (w1.alloc (.cells #[.bool y.rep, .string (mkB y.type), .string (mkB y.name), .int .i64 y.num, .int .i64 y.line, .int .i64 y.col] 71)) = Y at *
   have l0 := cell_at hC 0 rfl
   have l1 := cell_at hC 1 rfl
   have l2 := cell_at hC 2 rfl
   have l3 := cell_at hC 3 rfl
   have l4 := cell_at hC 4 rfl
   have l5 := cell_at hC 5 rfl
   have hYs := hCb.size
   have hYl := blk_lt hC
   have HBY := Lib.hid (HBE.out.trans (hCb.mono (by omega)))
   have HY0 : Hid (Y.heap[w.heap.size]? = _) := (hCb.block _ (by omega)).trans H0.out
   have HY1 : Hid (Y.heap[w.heap.size + 1]? = _) := (hCb.block _ (by omega)).trans H1.out
   have HY2 : Hid (Y.heap[w.heap.size + 2]? = _) := (hCb.block _ (by omega)).trans H2.out
   have HOY : Hid (Y.ownsRow (w.heap.size + 3) 88 5 (.slice fva k fvc) k (XS.flatMap fdrow)) := own_keep HO.out fun b hb => hCb.block b (own_block HO.out b hb).2
   have HOB : Hid (∀ b, (Value.slice fva k fvc).ownBlock = some b → w.heap.size + 3 ≤ b ∧ b < w1.heap.size) := fun b hb => own_block HO.out b hb
   have HCY : Hid (Y.heap[w1.heap.size]? = _) := hC
   have y8 := cell_at HY0.out 8 rfl
   have hBdY := HB.out.below (W := Y) HBY.out
   have hft1 := ftP_any f types ps n B mb tv _ ev xv x.1 y.type Y HTY.out.ct HTY.out.fit HTY.out.txt hwl htyl (fun z hz => HTY.out.sym _ _ z hz) hBdY.bl
   obtain ⟨FT, hFT⟩ : ∃ r, ftP f types ps n x.1 y.type = r := ⟨_, rfl⟩
   rw [hFT] at hft1 HFX HFP
   clear hC hCb e0 e1 e2 e3 e4 e5 hFT b8 hBdY HO H0 H1 H2
   go_wp2_with fail
   refine hft1.mono ?_
   rintro e W2 ⟨kk, kt, b, rfl, hftr, hb2⟩
   have h2s := hb2.size
   have HB2 := Lib.hid (HBY.out.trans (hb2.mono (by have := HBY.out.size; omega)))
   have H20 : Hid (W2.heap[w.heap.size]? = _) := (hb2.block _ (by omega)).trans HY0.out
   have H21 : Hid (W2.heap[w.heap.size + 1]? = some (.cells #[.int .i64 0, .int .i64 0] 31 (0, 0))) := (hb2.block _ (by omega)).trans HY1.out
   have H22 : Hid (W2.heap[w.heap.size + 2]? = some (.cells #[.string (mkB x.1), .slice fva k fvc] 48 (0, 0))) := (hb2.block _ (by omega)).trans HY2.out
   have H2C : Hid (W2.heap[w1.heap.size]? = some (.cells #[.bool y.rep, .string (mkB y.type), .string (mkB y.name), .int .i64 y.num, .int .i64 y.line, .int .i64 y.col] 71 (0, 0))) := (hb2.block _ hYl).trans HCY.out
   have HO2 : Hid (W2.ownsRow (w.heap.size + 3) 88 5 (.slice fva k fvc) k (XS.flatMap fdrow)) := own_keep HOY.out fun b hb => hb2.block b (by have := HOB.out b hb; omega)
   have HFTR := Lib.hid hftr
   clear hb2 hftr l0 l1 l2 l3 l4 l5 y8 hft1 HY0 HY1 HY2 HCY HOY HBY
   cases b
   case false =>
    have hnone : FT = none := by
     rcases HFTR.out with ⟨h, _⟩ | ⟨_, h⟩
     ·cases h
     ·exact h
    have HGS : Hid (fieldXP f types ps n x k = some (y.line, y.col)) := by
     refine (?_ : _ = _)
     rw [HFX.out, hnone]; rfl
    have q4 := cell_at H2C.out 4 rfl
    have q5 := cell_at H2C.out 5 rfl
    have k0 := cell_at H21.out 0 rfl
    have k1 := cell_at H21.out 1 rfl
    have kf0 := frozen_at H21.out 0
    have kf1 := frozen_at H21.out 1
    obtain ⟨Z, hZ, r0, r1, hbZ⟩ := pos_ret H21.out HB2.out (by omega) y.line y.col
    have HZ := Lib.hid hZ
    clear hZ hnone
    go_wp2_with fail
    rw [HZ.out]
    refine bodyPost_ret (v := .tuple #[.agg #[.int .i64 y.line, .int .i64 y.col], .bool true]) (by simp [results, Tryz.results63, go_sem, r0, r1]) rfl ?_
    exact ⟨_, _, _, rfl, hbZ.mono (by omega), hbZ.size, fun b h1 _ _ => hbZ.block b h1, .inl ⟨rfl, by rw [HNF.out]; exact firstS_some HFS.out HGS.out (by omega)⟩⟩
   case true =>
    have hsome : FT = some (kk, kt) := by
     rcases HFTR.out with ⟨_, h⟩ | ⟨h, _⟩
     ·exact h
     ·cases h
    have HGN : Hid (fieldXP f types ps n x k = none) := by
     refine (?_ : _ = _)
     rw [HFX.out, hsome]; rfl
    have HFE : Hid (fdP f types ps n x.1 y = ⟨y.num, y.name, kk, y.rep, kt⟩) := by
     refine (?_ : _ = _)
     rw [HFP.out, hsome]; rfl
    have hCl := fun W => clone_any (mkB y.name) W (by rw [mkB_size]; omega)
    clear hsome HFX HFP HFTR
    have hcf : ∀ W : World, W.heap[w1.heap.size]? = some (.cells #[.bool y.rep, .string (mkB y.type), .string (mkB y.name), .int .i64 y.num, .int .i64 y.line, .int .i64 y.col] 71 (0, 0)) → W.heap[w.heap.size + 2]? = some (.cells #[.string (mkB x.1), .slice fva k fvc] 48 (0, 0)) → W.cell? ⟨w1.heap.size, 0, none⟩ = some (.bool y.rep) ∧ W.cell? ⟨w1.heap.size, 2, none⟩ = some (.string (mkB y.name)) ∧ W.cell? ⟨w1.heap.size, 3, none⟩ = some (.int .i64 y.num) ∧ W.cell? ⟨w.heap.size + 2, 1, none⟩ = some (.slice fva k fvc) := fun W h1 h2 => ⟨by simp [World.cell?, h1], by simp [World.cell?, h1], by simp [World.cell?, h1], by simp [World.cell?, h2]⟩
    have HCF := Lib.hid hcf
    obtain ⟨t0, t2, t3, tp⟩ := hcf W2 H2C.out H22.out
    clear hcf
    have hw2y : w1.heap.size < W2.heap.size := blk_lt H2C.out
    go_upto_region 8 with fail
    have hsy0 : W2.drew.heap[w1.heap.size]? = _ := H2C.out
    have hsp0 : W2.drew.heap[w.heap.size + 2]? = _ := H22.out
    clear t0 t2 t3 tp
    refine region_G 15 (fun W => W.heap[w1.heap.size]? = some (.cells #[.bool y.rep, .string (mkB y.type), .string (mkB y.name), .int .i64 y.num, .int .i64 y.line, .int .i64 y.col] 71 (0, 0))) (fun W => W.heap[w.heap.size + 2]? = some (.cells #[.string (mkB x.1), .slice fva k fvc] 48 (0, 0))) (by kernel_rfl) ?_
    refine G_take (i := 0) (v := .pointer (some ⟨w.heap.size + 2, 1, none⟩)) [13, 1, 0] rfl (by kernel_rfl) (fun _ _ _ h => h) (.inl ⟨by kernel_rfl, fun W hW => by go_simp⟩) ⟨hsy0, fun _ => hsp0⟩ ?_
    refine G_take (i := 1) (v := .slice fva k fvc) [13, 1] rfl (by kernel_rfl) (fun _ _ _ h => h) (.inl ⟨by kernel_rfl, fun W hW => by obtain ⟨u0, u2, u3, up⟩ := HCF.out W hW.1 hW.2; go_simp⟩) ⟨hsy0, fun _ => hsp0⟩ ?_
    refine G_take (i := 2) (v := .pointer (some ⟨w1.heap.size, 3, none⟩)) [13, 12, 11, 3, 2] rfl (by kernel_rfl) (fun _ _ _ h => h) (.inl ⟨by kernel_rfl, fun W hW => by go_simp⟩) ⟨hsy0, fun _ => hsp0⟩ ?_
    refine G_take (i := 3) (v := .int .i64 y.num) [13, 12, 11, 3] rfl (by kernel_rfl) (fun _ _ _ h => h) (.inl ⟨by kernel_rfl, fun W hW => by obtain ⟨u0, u2, u3, up⟩ := HCF.out W hW.1 hW.2; go_simp⟩) ⟨hsy0, fun _ => hsp0⟩ ?_
    refine G_take (i := 4) (v := .pointer (some ⟨w1.heap.size, 2, none⟩)) [13, 12, 11, 6, 5, 4] rfl (by kernel_rfl) (fun _ _ _ h => h) (.inl ⟨by kernel_rfl, fun W hW => by go_simp⟩) ⟨hsy0, fun _ => hsp0⟩ ?_
    refine G_take (i := 5) (v := .string (mkB y.name)) [13, 12, 11, 6, 5] rfl (by kernel_rfl) (fun _ _ _ h => h) (.inl ⟨by kernel_rfl, fun W hW => by obtain ⟨u0, u2, u3, up⟩ := HCF.out W hW.1 hW.2; go_simp⟩) ⟨hsy0, fun _ => hsp0⟩ ?_
    refine G_take (i := 7) (v := .int .i64 kk) [13, 12, 11, 7] rfl (by kernel_rfl) (fun _ _ _ h => h) (.inl ⟨by kernel_rfl, fun W hW => by go_simp⟩) ⟨hsy0, fun _ => hsp0⟩ ?_
    refine G_take (i := 8) (v := .pointer (some ⟨w1.heap.size, 0, none⟩)) [13, 12, 11, 9, 8] rfl (by kernel_rfl) (fun _ _ _ h => h) (.inl ⟨by kernel_rfl, fun W hW => by go_simp⟩) ⟨hsy0, fun _ => hsp0⟩ ?_
    refine G_take (i := 9) (v := .bool y.rep) [13, 12, 11, 9] rfl (by kernel_rfl) (fun _ _ _ h => h) (.inl ⟨by kernel_rfl, fun W hW => by obtain ⟨u0, u2, u3, up⟩ := HCF.out W hW.1 hW.2; go_simp⟩) ⟨hsy0, fun _ => hsp0⟩ ?_
    refine G_take (i := 10) (v := .int .i64 kt) [13, 12, 11, 10] rfl (by kernel_rfl) (fun _ _ _ h => h) (.inl ⟨by kernel_rfl, fun W hW => by go_simp⟩) ⟨hsy0, fun _ => hsp0⟩ ?_
    refine G_one (i := 6) (by kernel_rfl) rfl (fun K hK => ?_)
    go_simp
    refine (hCl _).mono ?_
    rintro e5 W5 ⟨rfl, hb5⟩
    have hb5' : Below W2.heap.size W2 W5 := (Below.refl _ W2).drew.trans hb5
    have hy5 := (hb5'.block _ hw2y).trans H2C.out
    have hp5 := (hb5'.block _ (by omega)).trans H22.out
    have ho5 : W5.ownsRow (w.heap.size + 3) 88 5 (.slice fva k fvc) k (XS.flatMap fdrow) := (own_keep HO2.out fun b hb => hb5'.block b (by have := HOB.out b hb; omega))
    have h5s := hb5'.size
    dsimp only
    refine hK.out _ _ ⟨hy5, fun _ => hp5⟩ ?_
    clear hK K
    refine G_take (i := 11) (v := .agg #[.int .i64 y.num, .string (mkB y.name), .int .i64 kk, .bool y.rep, .int .i64 kt]) [13, 12, 11] rfl (by kernel_rfl) (fun _ _ _ h => h) (.inl ⟨by kernel_rfl, fun W hW => by go_simp⟩) ⟨hy5, fun _ => hp5⟩ ?_
    refine G_one (i := 12) (by kernel_rfl) rfl (fun K hK => ?_)
    go_simp
    refine hK.out _ _ ⟨(alloc_heap_old _ _ _ (by omega)).trans hy5, fun _ => (alloc_heap_old _ _ _ (by omega)).trans hp5⟩ ?_
    clear hK K
    refine G_one (i := 13) (by kernel_rfl) rfl (fun K hK => ?_)
    refine row_pushS (T := 88) Tryz.underlying46 infoFdA rfl (by decide) (ho5.alloc _) (by simp; omega) (fdrow ⟨y.num, y.name, kk, y.rep, kt⟩) rfl (fdrow_one _) W5.heap.size (alloc_heap_new _ _) rfl _ _ rfl rfl rfl (by unfold maxLen; omega) (by omega) ?_
    intro g6 cap6 W6 hown6 hgr6 hat6 hlt6
    have hgr5 : W5.grownBy W6 (Value.slice fva k fvc).ownBlock := ((World.grownBy_alloc _ _ _).trans hgr6)
    have hp6 : W6.heap[w.heap.size + 2]? = some (.cells #[.string (mkB x.1), .slice fva k fvc] 48 (0, 0)) := ((hgr5.block _ (by omega) (fun e => by have := HOB.out _ e.symm; omega)).trans hp5)
    have hy6 : W6.heap[w1.heap.size]? = _ := ((hgr5.block _ (by omega) (fun e => by have := HOB.out _ e.symm; omega)).trans hy5)
    have c61 : W6.cell? ⟨w.heap.size + 2, 1, none⟩ = some (.slice fva k fvc) := (by simp [World.cell?, hp6])
    have f61 : W6.frozen? ⟨w.heap.size + 2, 1, none⟩ = false := (by simp [World.frozen?, hp6])
    refine hK.out _ _ ⟨hy6, fun _ => hp6⟩ ?_
    clear hK K
    refine G_take (i := 14) (v := .pointer (some ⟨w.heap.size + 2, 1, none⟩)) [14] rfl (by kernel_rfl) (fun _ _ _ h => h) (.inl ⟨by kernel_rfl, fun W hW => by go_simp⟩) ⟨hy6, fun _ => hp6⟩ ?_
    refine G_one (i := 15) (by kernel_rfl) rfl (fun K hK => ?_)
    go_simp
    refine hK.out _ _ ⟨(Below.heap_setCell _ _ _ _ (by show w1.heap.size ≠ w.heap.size + 2; omega)).trans hy6, fun h => (by cases h)⟩ ?_
    clear hK K
    refine G_done (by kernel_rfl) ?_ _
    all_goals
     have hb6 : Below (w.heap.size + 3) W2 W6 := (hb5'.mono (by omega)).grown hgr5 (by have := hb5'.size; omega) (fun b hb => (HOB.out b hb).1)
     have hQp : (W6.setCell ⟨w.heap.size + 2, 1, none⟩ (.slice (some ⟨g6, 0, none⟩) (k + 1) cap6)).heap[w.heap.size + 2]? = some (.cells #[.string (mkB x.1), .slice (some ⟨g6, 0, none⟩) (k + 1) cap6] 48 (0, 0)) := by rw [setCell_heap hp6]; rfl
     have hQo : ∀ b, b ≠ w.heap.size + 2 → (W6.setCell ⟨w.heap.size + 2, 1, none⟩ (.slice (some ⟨g6, 0, none⟩) (k + 1) cap6)).heap[b]? = W6.heap[b]? := fun b hb => Below.heap_setCell _ _ _ _ hb
     have hQs : (W6.setCell ⟨w.heap.size + 2, 1, none⟩ (.slice (some ⟨g6, 0, none⟩) (k + 1) cap6)).heap.size = W6.heap.size := by simp
     have hQb : Below w.heap.size w (W6.setCell ⟨w.heap.size + 2, 1, none⟩ (.slice (some ⟨g6, 0, none⟩) (k + 1) cap6)) := (HB2.out.trans (hb6.mono (by omega))).setCell (p := ⟨w.heap.size + 2, 1, none⟩) (by show w.heap.size ≤ w.heap.size + 2; omega) _
     obtain ⟨Q, hQ⟩ : ∃ Q, W6.setCell ⟨w.heap.size + 2, 1, none⟩ (.slice (some ⟨g6, 0, none⟩) (k + 1) cap6) = Q := ⟨_, rfl⟩
     rw [hQ] at hQp hQo hQs hQb
     have HQ := Lib.hid hQ
     have H30 : Hid (Q.heap[w.heap.size]? = _) := (hQo _ (by omega)).trans ((hb6.block _ (by omega)).trans H20.out)
     have H31 : Hid (Q.heap[w.heap.size + 1]? = some (.cells #[.int .i64 0, .int .i64 0] 31 (0, 0))) := (hQo _ (by omega)).trans ((hb6.block _ (by omega)).trans H21.out)
     have H32 := Lib.hid hQp
     have HB3 := Lib.hid hQb
     have h3s : w.heap.size + 3 ≤ Q.heap.size := by have := hb5'.size; have := hgr5.size; omega
     have HO3 : Hid (Q.ownsRow (w.heap.size + 3) 88 5 (.slice (some ⟨g6, 0, none⟩) (k + 1) cap6) (k + 1) ((XS ++ [fdP f types ps n x.1 y]).flatMap fdrow)) := by
      refine (?_ : World.ownsRow _ _ _ _ _ _ _)
      rw [HFE.out, List.flatMap_append]
      refine own_keep ?_ fun b hb => hQo b (by have := (own_block hown6 b hb).1; omega)
      simpa using hown6
     clear hQ hQp hQo hQs hQb hb6 hown6 hgr6 hgr5 hat6 hb5 hb5' ho5 hy5 hp5 hp6 hy6 hsy0 hsp0
     try go_wp2_with fail
     rw [HQ.out]
     clear c61 f61
     try go_wp2_with fail
     go_roundw
     case rel => exact ⟨k + 1, _, by go_num, by omega, firstS_step HFS.out HGN.out, HB3.out, h3s, H30.out, H31.out, H32.out, by rw [HTK.out]; exact HO3.out⟩
     case measure => simp [intOf]; omega
  ·have hkn' : ¬ (k : Int) < (nf : Int) := by omega
   have hke : k = nf := by omega
   have hte : x.2.fields.take k = x.2.fields := List.take_of_length_le (by have := HNF.out; omega)
   rw [hte] at HO
   obtain ⟨XS, hXS⟩ : ∃ X, x.2.fields.map (fdP f types ps n x.1) = X := ⟨_, rfl⟩
   rw [hXS] at HO
   have HXS := Lib.hid hXS
   have hXl : XS.length = k := by rw [← hXS, List.length_map, HNF.out, hke]
   have HXL := Lib.hid hXl
   have hso := sortFd_any (w.heap.size + 3) (.slice fva k fvc) XS w1 (by rw [hXl]; exact HO.out) (by omega)
   have HKE := Lib.hid hke
   have q1 := cell_at H2.out 1 rfl
   have HOB : Hid (∀ b, (Value.slice fva k fvc).ownBlock = some b → w.heap.size + 3 ≤ b ∧ b < w1.heap.size) := fun b hb => own_block HO.out b hb
   clear hte hXS hXl hke hkn
   go_wp2_with fail
   refine hso.mono ?_
   rintro e U ⟨rfl, ys, hperm, hpw, hownU, hgrU⟩
   rw [HXL.out] at hownU
   have hUs := hgrU.size
   have hUB : Below (w.heap.size + 3) w1 U := (Below.refl _ w1).grown hgrU (by omega) (fun b hb => (HOB.out b hb).1)
   have HUB : Hid (Below w.heap.size w U) := HBE.out.trans (hUB.mono (by omega))
   have HU1 : Hid (U.heap[w.heap.size + 1]? = some (.cells #[.int .i64 0, .int .i64 0] 31 (0, 0))) := (hUB.block _ (by omega)).trans H1.out
   have hU2 : U.heap[w.heap.size + 2]? = _ := (hUB.block _ (by omega)).trans H2.out
   have HU2 := Lib.hid hU2
   have HBdU := Lib.hid (HB.out.below (W := U) HUB.out)
   have hU5 := HBdU.out.cells
   have p0 := cell_at hU2 0 rfl
   have p1 := cell_at hU2 1 rfl
   have b2 := cell_at hU5 2 rfl
   have hUlt : w.heap.size + 3 ≤ U.heap.size := by omega
   have b2a : ∀ ob, (U.alloc ob).cell? ⟨B, 2, none⟩ = some (.slice mva s.ms.length mvc) := fun ob => by rw [World.cell?_of_block (alloc_heap_old _ _ _ (by show B < _; omega))]; exact b2
   have b2d : ∀ ob, (U.drew.alloc ob).cell? ⟨B, 2, none⟩ = some (.slice mva s.ms.length mvc) := fun ob => by rw [World.cell?_of_block (alloc_heap_old _ _ _ (by show B < U.heap.size; omega))]; exact b2
   have HPERM := Lib.hid hperm
   have HPW := Lib.hid hpw
   have hyl : ys.length = k := by rw [hperm.length_eq, HXL.out]
   have HYL := Lib.hid hyl
   have HROW : Hid (RowsIn U (FarB base U B (.slice mva s.ms.length mvc) ev xv) 5 fdrow (.slice fva ys.length fvc) ys) := by
    refine (?_ : RowsIn _ _ _ _ _ _)
    rw [hyl]
    have hownU' : U.ownsRow (w.heap.size + 3) 88 5 (.slice fva k fvc) ys.length (ys.flatMap fdrow) := by rw [hyl]; exact hownU
    refine rowsIn_own (row := fdrow) (fun _ => rfl) hownU' _ fun b hb => ?_
    have hb' := HOB.out b hb
    have hwB := HB.out
    have hwz := hwB.sz
    refine ⟨⟨by omega, by omega, fun e => ?_, fun e => ?_, fun e => ?_⟩, by omega⟩
    ·have := (own_block hwB.ms.own b e).2; omega
    ·have := (own_block hwB.es.own b e).2; omega
    ·have := (own_block hwB.ts b e).2; omega
   have hMO : (U.drew).ownsRow base 48 2 (.slice mva s.ms.length mvc) s.ms.length (mr.flatMap id) := HBdU.out.ms.own
   have hMb : ∀ b, (Value.slice mva s.ms.length mvc).ownBlock = some b → base ≤ b ∧ b < w.heap.size := fun b hb => own_block HB.out.ms.own b hb
   have HMB := Lib.hid hMb
   have hbs := HBdU.out.sz
   have hbb := HB.out.bb
   have hbw := HB.out.sz
   clear hperm hpw hownU hgrU hUB hU2 hso q1 hyl hMb
   go_upto_region 11 with fail
   go_region_law (first
    | (refine row_pushS (T := 48) Tryz.underlying25 infoMdA rfl (by decide) (hMO.alloc _) (by simp; show base ≤ U.heap.size + 1; omega) [.string (mkB x.1), .slice fva k fvc] rfl (by intro u hu; simp only [List.mem_cons, List.not_mem_nil, or_false] at hu; rcases hu with rfl | rfl <;> rfl) U.heap.size (alloc_heap_new _ _) rfl _ _ rfl rfl rfl (by unfold maxLen; omega) (by omega) ?_; intro g6 cap6 W6 hown6 hgr6 hat6 hlt6; have hgr5 : U.grownBy W6 (Value.slice mva s.ms.length mvc).ownBlock := (World.grownBy.trans (World.grownBy_alloc U _ _) ⟨hgr6.os, hgr6.tape, hgr6.output, hgr6.size, hgr6.block⟩); have hB6 : W6.heap[B]? = some (.cells #[tv, .map (some mb), .slice mva s.ms.length mvc, ev, xv] 128 (0, 0)) := ((hgr5.block _ (by omega) (fun e => by have := HMB.out _ e.symm; omega)).trans HBdU.out.cells); have c62 : W6.cell? ⟨B, 2, none⟩ = some (.slice mva s.ms.length mvc) := (by simp [World.cell?, hB6]); have f62 : W6.frozen? ⟨B, 2, none⟩ = false := (by simp [World.frozen?, hB6]); dsimp only))
   all_goals
    have hat5 : (Value.slice mva s.ms.length mvc).ownBlock = some g6 ∨ U.heap.size ≤ g6 := hat6.imp id fun e => by rw [e]; simp
    have hpush := HBdU.out.pushM ⟨x.1, ys⟩ fva fvc HROW.out g6 cap6 (by simpa [HYL.out] using hown6) hgr5 hat5
    have hQ1 : (W6.setCell ⟨B, 2, none⟩ (.slice (some ⟨g6, 0, none⟩) (s.ms.length + 1) cap6)).heap[w.heap.size + 1]? = some (.cells #[.int .i64 0, .int .i64 0] 31 (0, 0)) := by
     rw [Below.heap_setCell _ _ _ _ (by show w.heap.size + 1 ≠ B; omega)]
     exact (hgr5.block _ (by omega) (fun e => by have := HMB.out _ e.symm; omega)).trans HU1.out
    have hQo : ∀ b, b < w.heap.size → b ≠ B → (Value.slice mva s.ms.length mvc).ownBlock ≠ some b → (W6.setCell ⟨B, 2, none⟩ (.slice (some ⟨g6, 0, none⟩) (s.ms.length + 1) cap6)).heap[b]? = w.heap[b]? := fun b h1 h2 h3 => by
     rw [Below.heap_setCell _ _ _ _ h2, hgr5.block b (by omega) (fun e => h3 e.symm)]
     exact HUB.out.block b h1
    have hQs : w.heap.size + 3 ≤ (W6.setCell ⟨B, 2, none⟩ (.slice (some ⟨g6, 0, none⟩) (s.ms.length + 1) cap6)).heap.size := by have := hgr5.size; simp; omega
    have hQB : Below B w (W6.setCell ⟨B, 2, none⟩ (.slice (some ⟨g6, 0, none⟩) (s.ms.length + 1) cap6)) := (show Below B w W6 from (HUB.out.mono (by omega)).grown hgr5 (by omega) (fun b hb => by have := HMB.out b hb; omega)).setCell (p := ⟨B, 2, none⟩) (Nat.le_refl _) _
    obtain ⟨Q, hQ⟩ : ∃ Q, W6.setCell ⟨B, 2, none⟩ (.slice (some ⟨g6, 0, none⟩) (s.ms.length + 1) cap6) = Q := ⟨_, rfl⟩
    rw [hQ] at hpush hQ1 hQo hQs hQB
    have HQ := Lib.hid hQ
    have HPU := Lib.hid hpush
    have HQO := Lib.hid hQo
    obtain ⟨Z, hZ, z8, zo, zs, zb⟩ := set2_all hQ1 (.int .i64 0) (.int .i64 0)
    have HZ := Lib.hid hZ
    have hbZ : Bd f base Z B mb tv (.slice (some ⟨g6, 0, none⟩) (s.ms.length + 1) cap6) ev xv types ps n ⟨s.ms ++ [⟨x.1, ys⟩], s.es, s.ts⟩ (mr ++ [[.string (mkB x.1), .slice fva ys.length fvc]]) er := hpush.grow (by omega) fun b hb => by
     by_cases hbe : b = w.heap.size + 1
     ·subst hbe; rw [z8, hQ1]
     ·exact zo b hbe
    have HBZ := Lib.hid hbZ
    have k0 := cell_at hQ1 0 rfl
    have k1 := cell_at hQ1 1 rfl
    have kf0 := frozen_at hQ1 0
    have kf1 := frozen_at hQ1 1
    have r0 := cell_at z8 0 rfl
    have r1 := cell_at z8 1 rfl
    have HZO : Hid (∀ b, b < w.heap.size → b ≠ B → (Value.slice mva s.ms.length mvc).ownBlock ≠ some b → Z.heap[b]? = w.heap[b]?) := fun b h1 h2 h3 => (zo b (by omega)).trans (HQO.out b h1 h2 h3)
    have hZs : w.heap.size ≤ Z.heap.size := by omega
    have HZB : Hid (Below B w Z) := hQB.trans (zb.mono (by omega))
    clear hQB hQ hpush hQ1 hQo hQs hZ z8 zo zs zb hbZ hown6 hgr6 hgr5 hat6 hat5 hB6 b2a b2d hMO
    rw [HQ.out]
    clear c62 f62 b2 p0 p1
    go_wp2_with fail
    rw [HZ.out]
    refine bodyPost_ret (v := .tuple #[.agg #[.int .i64 0, .int .i64 0], .bool false]) (by simp [results, Tryz.results63, go_sem, r0, r1]) rfl ?_
    exact ⟨_, _, _, rfl, HZB.out, hZs, HZO.out, .inr ⟨rfl, rfl, rfl, by rw [HNF.out, ← HKE.out]; exact HFS.out, ys, _, _, by rw [HXS.out]; exact HPERM.out, HPW.out, HBZ.out⟩⟩
end Go.Proofs.YtpojeinddnjpfaaGreatDoor
