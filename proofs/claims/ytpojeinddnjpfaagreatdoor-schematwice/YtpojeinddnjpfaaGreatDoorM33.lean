/-
  The walk over the program's builder.service.
-/
import Derived.Test.YtpojeinddnjpfaaGreatDoorM0
import Derived.Test.YtpojeinddnjpfaaGreatDoorM31
namespace Go.Proofs.YtpojeinddnjpfaaGreatDoor
set_option linter.unusedVariables false
open Go.ChangeShapes Go.WideShapes Go.ChangeAt Go.RowKit Go.Maps

theorem infoTdA : (Tryz.prog.info? 45).map (fun i => (i.zero, i.size, i.bytes)) = some (some (.agg #[.int .i64 0, .string ⟨#[]⟩, .string ⟨#[]⟩, .int .i64 0, .int .i64 0]), 5, 56) := by kernel_rfl
theorem tdrow_one (x : TD) : ∀ u ∈ tdrow x, u.oneCell' = true := by
 intro u hu
 simp only [tdrow, List.mem_cons, List.not_mem_nil, or_false] at hu
 rcases hu with rfl | rfl | rfl | rfl | rfl <;> rfl
def tdAddP (f : Nat) (types : List Dc) (ps : List Pl) (n : Nat) (svc : List UInt8) (ts : List TD) (m : Mt) : List TD := ts ++ [⟨ts.length + 1, svc, m.name, (mtP f types ps n m.inp).getD 0, (mtP f types ps n m.out).getD 0⟩]
def methXP (f : Nat) (types : List Dc) (ps : List Pl) (n : Nat) (x : Pl) (k : Nat) : Option (Int × Int) := match x.2.methods[k]? with
 | some m => if (mtP f types ps n m.inp).isNone = true ∨ (mtP f types ps n m.out).isNone = true then some (m.line, m.col) else none
 | none => none
def SvAns (f base B mb : Nat) (tv mv ev xv : Value) (types : List Dc) (ps : List Pl) (n : Nat) (s : SC) (mr er : List (List Value)) (x : Pl) (w : World) (e : Ending) (w' : World) : Prop :=
  ∃ l c b, e = .returned (.tuple #[.agg #[.int .i64 l, .int .i64 c], .bool b]) ∧ Below B w w' ∧ w.heap.size ≤ w'.heap.size ∧ (∀ b, b < w.heap.size → b ≠ B → xv.ownBlock ≠ some b → w'.heap[b]? = w.heap[b]?) ∧
    ((b = true ∧ firstS (methXP f types ps n x) x.2.methods.length = some (l, c)) ∨
     (b = false ∧ l = 0 ∧ c = 0 ∧ firstS (methXP f types ps n x) x.2.methods.length = none ∧ ∃ (xv' : Value), Bd f base w' B mb tv mv ev xv' types ps n ⟨s.ms, s.es, x.2.methods.foldl (tdAddP f types ps n x.2.name) s.ts⟩ mr er))
theorem fold_len (f : Nat) (types : List Dc) (ps : List Pl) (n : Nat) (svc : List UInt8) : ∀ (ms : List Mt) (ts : List TD), (ms.foldl (tdAddP f types ps n svc) ts).length = ts.length + ms.length
 | [], ts => rfl
 | m :: t, ts => by rw [List.foldl_cons, fold_len f types ps n svc t]; simp [tdAddP]; omega
set_option maxHeartbeats 16000000 in
set_option maxRecDepth 20000 in
theorem svP_any (f base B mb : Nat) (tv mv ev xv : Value) (types : List Dc) (ps : List Pl) (n : Nat) (s : SC) (mr er : List (List Value)) (x : Pl) (fa va ma ia : Option Addr) (fc vc mc ic : Nat) (w : World) (F : Nat)
  (hTy : TyFit f types) (hfl : x.2.methods.length ≤ 100000) (hwl : x.2.name.length ≤ 1000000) (hft : ∀ y ∈ x.2.methods, y.inp.length ≤ 200000000 ∧ y.out.length ≤ 200000000 ∧ y.name.length ≤ 1000000) (hms : s.ts.length ≤ 100000)
  (hB : Bd f base w B mb tv mv ev xv types ps n s mr er) (kd : Kids F w (Far w B mv ev xv) (.slice fa x.2.fields.length fc) (.slice va x.2.values.length vc) (.slice ma x.2.methods.length mc) (.slice ia x.2.inner.length ic) x.2) :
  Calls Tryz.prog 65 #[.pointer (some ⟨B, 0, none⟩), .agg #[.int .i64 x.2.kind, .string (mkB x.2.name), .int .i64 x.2.line, .int .i64 x.2.col, .slice fa x.2.fields.length fc, .slice va x.2.values.length vc, .slice ma x.2.methods.length mc, .slice ia x.2.inner.length ic, .string (mkB x.1)]] w fun e w' => SvAns f base B mb tv mv ev xv types ps n s mr er x w e w' := by
 have HTY := Lib.hid hTy
 have HFT := Lib.hid hft
 have HB := Lib.hid hB
 have HKD := Lib.hid kd
 have hBlt := hB.lt
 obtain ⟨nf, hnf⟩ : ∃ k, x.2.methods.length = k := ⟨_, rfl⟩
 have HNF := Lib.hid hnf
 rw [hnf] at hfl HKD ⊢
 clear hTy hft hB kd hnf
 have hVb : Below w.heap.size w ((w.alloc (.cells #[.int .i64 x.2.kind, .string (mkB x.2.name), .int .i64 x.2.line, .int .i64 x.2.col, .slice fa x.2.fields.length fc, .slice va x.2.values.length vc, .slice ma nf mc, .slice ia x.2.inner.length ic, .string (mkB x.1)] 117)).alloc (.cells #[.int .i64 0, .int .i64 0] 31)) := ((Below.refl _ w).alloc (Nat.le_refl _) _).alloc (by simp) _
 have hV1 : ((w.alloc (.cells #[.int .i64 x.2.kind, .string (mkB x.2.name), .int .i64 x.2.line, .int .i64 x.2.col, .slice fa x.2.fields.length fc, .slice va x.2.values.length vc, .slice ma nf mc, .slice ia x.2.inner.length ic, .string (mkB x.1)] 117)).alloc (.cells #[.int .i64 0, .int .i64 0] 31)).heap[w.heap.size + 1]? = some (.cells #[.int .i64 0, .int .i64 0] 31 (0, 0)) := by
  have := alloc_heap_new (w.alloc (.cells #[.int .i64 x.2.kind, .string (mkB x.2.name), .int .i64 x.2.line, .int .i64 x.2.col, .slice fa x.2.fields.length fc, .slice va x.2.values.length vc, .slice ma nf mc, .slice ia x.2.inner.length ic, .string (mkB x.1)] 117)) (.cells #[.int .i64 0, .int .i64 0] 31)
  simpa using this
 have hV0 : ((w.alloc (.cells #[.int .i64 x.2.kind, .string (mkB x.2.name), .int .i64 x.2.line, .int .i64 x.2.col, .slice fa x.2.fields.length fc, .slice va x.2.values.length vc, .slice ma nf mc, .slice ia x.2.inner.length ic, .string (mkB x.1)] 117)).alloc (.cells #[.int .i64 0, .int .i64 0] 31)).heap[w.heap.size]? = some (.cells #[.int .i64 x.2.kind, .string (mkB x.2.name), .int .i64 x.2.line, .int .i64 x.2.col, .slice fa x.2.fields.length fc, .slice va x.2.values.length vc, .slice ma nf mc, .slice ia x.2.inner.length ic, .string (mkB x.1)] 117 (0, 0)) := by
  rw [alloc_heap_old _ _ _ (by simp)]; exact alloc_heap_new _ _
 have hVs : ((w.alloc (.cells #[.int .i64 x.2.kind, .string (mkB x.2.name), .int .i64 x.2.line, .int .i64 x.2.col, .slice fa x.2.fields.length fc, .slice va x.2.values.length vc, .slice ma nf mc, .slice ia x.2.inner.length ic, .string (mkB x.1)] 117)).alloc (.cells #[.int .i64 0, .int .i64 0] 31)).heap.size = w.heap.size + 2 := by simp
 go_enter Tryz.func65, Tryz.ntmps65
 go_upto_region 1 with fail
 generalize ((w.alloc (.cells #[.int .i64 x.2.kind, .string (mkB x.2.name), .int .i64 x.2.line, .int .i64 x.2.col, .slice fa x.2.fields.length fc, .slice va x.2.values.length vc, .slice ma nf mc, .slice ia x.2.inner.length ic, .string (mkB x.1)] 117)).alloc (.cells #[.int .i64 0, .int .i64 0] 31)) = V at *
 have v4 := cell_at hV0 6 rfl
 have HVB := Lib.hid hVb
 have HV0 := Lib.hid hV0
 have HV1 := Lib.hid hV1
 have hVs1 : w.heap.size + 2 ≤ V.heap.size := by omega
 have HBV := Lib.hid (HB.out.below (W := V) hVb)
 have HXB : Hid (∀ b, xv.ownBlock = some b → b < w.heap.size) := fun b hb => (own_block HB.out.ts b hb).2
 clear hVb hV0 hV1 hVs
 go_wp2_with fail
 clear v4
 go_loopw [15] (fun i wr => ∃ (k : Nat) (xv' : Value), i = .int .i64 (k : Int) ∧ k ≤ nf ∧ firstS (methXP f types ps n x) k = none ∧ Bd f base wr B mb tv mv ev xv' types ps n ⟨s.ms, s.es, (x.2.methods.take k).foldl (tdAddP f types ps n x.2.name) s.ts⟩ mr er ∧ Below B w wr ∧ w.heap.size + 2 ≤ wr.heap.size ∧ wr.heap[w.heap.size]? = some (.cells #[.int .i64 x.2.kind, .string (mkB x.2.name), .int .i64 x.2.line, .int .i64 x.2.col, .slice fa x.2.fields.length fc, .slice va x.2.values.length vc, .slice ma nf mc, .slice ia x.2.inner.length ic, .string (mkB x.1)] 117 (0, 0)) ∧ wr.heap[w.heap.size + 1]? = some (.cells #[.int .i64 0, .int .i64 0] 31 (0, 0)) ∧ (∀ b, b < w.heap.size → b ≠ B → xv.ownBlock ≠ some b → wr.heap[b]? = w.heap[b]?) ∧ (∀ b, xv'.ownBlock = some b → xv.ownBlock = some b ∨ w.heap.size + 2 ≤ b)) (fun i _ => nf - (intOf i).toNat)
 case atStart => exact ⟨0, xv, rfl, Nat.zero_le _, rfl, HBV.out, HVB.out.mono (by omega), hVs1, HV0.out, HV1.out, fun b h1 _ _ => HVB.out.block b h1, fun b hb => .inl hb⟩
 case round =>
  generalize wr = w1 at *
  obtain ⟨k, xv1, rfl, hk, hfs, hbd, hbel, hsz, hx0, hx1, hoth, hxo⟩ := hrel
  have HBEL := Lib.hid hbel
  have HFS := Lib.hid hfs
  have HBD := Lib.hid hbd
  have H0 := Lib.hid hx0
  have H1 := Lib.hid hx1
  have HOT := Lib.hid hoth
  have HXO := Lib.hid hxo
  clear hbel hfs hx0 hx1 hoth hxo HV0 HV1 HVB HBV
  have hxne : ∀ b, w.heap.size ≤ b → b < w.heap.size + 2 → xv1.ownBlock ≠ some b := fun b h1 h2 e => by
   rcases HXO.out b e with h | h
   ·have := HXB.out b h; omega
   ·omega
  have HXNE := Lib.hid hxne
  have htl := fold_len f types ps n x.2.name (x.2.methods.take k) s.ts
  have hkl : (x.2.methods.take k).length = k := by rw [List.length_take, HNF.out]; omega
  rw [hkl] at htl
  obtain ⟨TSL, hTSL⟩ : ∃ T, (x.2.methods.take k).foldl (tdAddP f types ps n x.2.name) s.ts = T := ⟨_, rfl⟩
  rw [hTSL] at htl HBD hbd
  obtain ⟨xva, xvc, hxv⟩ := own_slice hbd.ts
  have hxv : xv1 = .slice xva TSL.length xvc := hxv
  subst hxv
  have HTSL := Lib.hid hTSL
  have htl1 : TSL.length ≤ 300000 := by omega
  clear hbd hxne hkl hTSL htl
  by_cases hkn : k < nf
  ·obtain ⟨y, hy⟩ : ∃ y, x.2.methods[k]? = some y := ⟨_, List.getElem?_eq_getElem (by have := HNF.out; omega)⟩
   obtain ⟨hil, hol, hnml⟩ := HFT.out y (List.mem_of_getElem? hy)
   obtain ⟨g, oo, c0, hsl, hg, e0, e1, e2, e3, e4⟩ := meth_at HKD.out.2.2.1 (W := w1) (fun b hb => HOT.out b hb.1 hb.2.1 hb.2.2.2.2) hy
   rw [HNF.out] at hsl
   obtain ⟨rfl, rfl⟩ : ma = some ⟨g, oo, none⟩ ∧ mc = c0 := by
    injection hsl with h1 _ h3
    exact ⟨h1, h3⟩
   have HFX : Hid (methXP f types ps n x k = if (mtP f types ps n y.inp).isNone = true ∨ (mtP f types ps n y.out).isNone = true then some (y.line, y.col) else none) := by
    refine (?_ : _ = _)
    unfold methXP
    rw [hy]
   have HTK : Hid ((x.2.methods.take (k + 1)).foldl (tdAddP f types ps n x.2.name) s.ts = TSL ++ [⟨TSL.length + 1, x.2.name, y.name, (mtP f types ps n y.inp).getD 0, (mtP f types ps n y.out).getD 0⟩]) := by
    refine (?_ : _ = _)
    rw [take_snoc hy, List.foldl_append, HTSL.out]; rfl
   have hk0 : (0 : Int) ≤ (k : Int) := by omega
   have hk1 : (k : Int) < (nf : Int) := by omega
   have hwq : IntKind.i64.wrap ((k : Int) + 1) = (k : Int) + 1 := by rw [IntKind.wrap_i64]; omega
   clear hsl hy
   have hC : (w1.alloc (.cells #[.string (mkB y.name), .string (mkB y.inp), .string (mkB y.out), .int .i64 y.line, .int .i64 y.col] 77)).heap[w1.heap.size]? = some (.cells #[.string (mkB y.name), .string (mkB y.inp), .string (mkB y.out), .int .i64 y.line, .int .i64 y.col] 77 (0, 0)) := alloc_heap_new _ _
   have hCb : Below w1.heap.size w1 (w1.alloc (.cells #[.string (mkB y.name), .string (mkB y.inp), .string (mkB y.out), .int .i64 y.line, .int .i64 y.col] 77)) := (Below.refl _ w1).alloc (Nat.le_refl _) _
   go_upto_region 4 with fail
   generalize (w1.alloc (.cells #[.string (mkB y.name), .string (mkB y.inp), .string (mkB y.out), .int .i64 y.line, .int .i64 y.col] 77)) = Y at *
   have l0 := cell_at hC 0 rfl
   have l1 := cell_at hC 1 rfl
   have l2 := cell_at hC 2 rfl
   have l3 := cell_at hC 3 rfl
   have l4 := cell_at hC 4 rfl
   have hYs := hCb.size
   have hYl := blk_lt hC
   have HBY := Lib.hid hCb
   have HCY : Hid (Y.heap[w1.heap.size]? = some (.cells #[.string (mkB y.name), .string (mkB y.inp), .string (mkB y.out), .int .i64 y.line, .int .i64 y.col] 77 (0, 0))) := hC
   have HBdY := Lib.hid (HBD.out.below (W := Y) hCb)
   have hm1 := mtP_any f types ps n B mb tv _ ev _ y.inp Y HTY.out.ct HTY.out.fit HTY.out.txt hil (fun z hz => HTY.out.sym _ _ z hz) HBdY.out.bl
   obtain ⟨RI, hRI⟩ : ∃ r, mtP f types ps n y.inp = r := ⟨_, rfl⟩
   obtain ⟨RO, hRO⟩ : ∃ r, mtP f types ps n y.out = r := ⟨_, rfl⟩
   rw [hRI] at hm1 HFX HTK
   rw [hRO] at HFX HTK
   have HRO := Lib.hid hRO
   clear hC hCb e0 e1 e2 e3 e4 hRI hRO
   go_wp2_with fail
   refine hm1.mono ?_
   rintro e W2 ⟨mi, b, rfl, hr1, hb2⟩
   have h2s := hb2.size
   have HW2 := Lib.hid (HBY.out.trans (hb2.mono hYs))
   have H2C : Hid (W2.heap[w1.heap.size]? = some (.cells #[.string (mkB y.name), .string (mkB y.inp), .string (mkB y.out), .int .i64 y.line, .int .i64 y.col] 77 (0, 0))) := (hb2.block _ hYl).trans HCY.out
   have HR1 := Lib.hid hr1
   clear hb2 hr1 l0 l1 l2 l3 l4 hm1 HCY HBdY
   cases b
   case false =>
    have hno : RI = none := by
     rcases HR1.out with ⟨h, _⟩ | ⟨_, h⟩
     ·cases h
     ·exact h
    have HGS : Hid (methXP f types ps n x k = some (y.line, y.col)) := by
     refine (?_ : _ = _)
     rw [HFX.out, hno]; rw [if_pos (.inl rfl)]
    have q4 := cell_at H2C.out 3 rfl
    have q5 := cell_at H2C.out 4 rfl
    have hw1 : W2.heap[w.heap.size + 1]? = some (.cells #[.int .i64 0, .int .i64 0] 31 (0, 0)) := (HW2.out.block _ (by omega)).trans H1.out
    have k0 := cell_at hw1 0 rfl
    have k1 := cell_at hw1 1 rfl
    have kf0 := frozen_at hw1 0
    have kf1 := frozen_at hw1 1
    obtain ⟨Z, hZ, z8, zo, zs, zb⟩ := set2_all hw1 (.int .i64 y.line) (.int .i64 y.col)
    have HZ := Lib.hid hZ
    have r0 := cell_at z8 0 rfl
    have r1 := cell_at z8 1 rfl
    have hwsz := HW2.out.size
    have HZO : Hid (∀ b, b < w.heap.size → b ≠ B → xv.ownBlock ≠ some b → Z.heap[b]? = w.heap[b]?) := fun b h1 h2 h3 => (zo b (by omega)).trans ((HW2.out.block b (by omega)).trans (HOT.out b h1 h2 h3))
    have hZs : w.heap.size ≤ Z.heap.size := by omega
    have HZB : Hid (Below B w Z) := (HBEL.out.trans (HW2.out.mono (by omega))).trans (zb.mono (by omega))
    clear hZ z8 zo zs zb hw1
    go_wp2_with fail
    rw [HZ.out]
    refine bodyPost_ret (v := .tuple #[.agg #[.int .i64 y.line, .int .i64 y.col], .bool true]) (by simp [results, Tryz.results65, go_sem, r0, r1]) rfl ?_
    exact ⟨_, _, _, rfl, HZB.out, hZs, HZO.out, .inl ⟨rfl, by rw [HNF.out]; exact firstS_some HFS.out HGS.out (by omega)⟩⟩
   case true =>
    have hsi : RI = some mi := by
     rcases HR1.out with ⟨_, h⟩ | ⟨h, _⟩
     ·exact h
     ·cases h
    rw [hsi] at HFX HTK
    have HBd2 := Lib.hid (HBD.out.below (W := W2) HW2.out)
    have hm2 := mtP_any f types ps n B mb tv _ ev _ y.out W2 HTY.out.ct HTY.out.fit HTY.out.txt hol (fun z hz => HTY.out.sym _ _ z hz) HBd2.out.bl
    rw [HRO.out] at hm2
    have q2 := cell_at H2C.out 2 rfl
    clear hsi HR1
    go_wp2_with fail
    refine hm2.mono ?_
    rintro e W3 ⟨mo, b, rfl, hr2, hb3⟩
    have h3s := hb3.size
    have HW3 := Lib.hid (HW2.out.trans (hb3.mono HW2.out.size))
    have h2l := blk_lt H2C.out
    have H3C : Hid (W3.heap[w1.heap.size]? = some (.cells #[.string (mkB y.name), .string (mkB y.inp), .string (mkB y.out), .int .i64 y.line, .int .i64 y.col] 77 (0, 0))) := (hb3.block _ h2l).trans H2C.out
    have HR2 := Lib.hid hr2
    clear hb3 hr2 q2 hm2
    cases b
    case false =>
     have hno : RO = none := by
      rcases HR2.out with ⟨h, _⟩ | ⟨_, h⟩
      ·cases h
      ·exact h
     have HGS : Hid (methXP f types ps n x k = some (y.line, y.col)) := by
      refine (?_ : _ = _)
      rw [HFX.out, hno]; rw [if_pos (.inr rfl)]
     have q4 := cell_at H3C.out 3 rfl
     have q5 := cell_at H3C.out 4 rfl
     have hw1 : W3.heap[w.heap.size + 1]? = some (.cells #[.int .i64 0, .int .i64 0] 31 (0, 0)) := (HW3.out.block _ (by omega)).trans H1.out
     have k0 := cell_at hw1 0 rfl
     have k1 := cell_at hw1 1 rfl
     have kf0 := frozen_at hw1 0
     have kf1 := frozen_at hw1 1
     obtain ⟨Z, hZ, z8, zo, zs, zb⟩ := set2_all hw1 (.int .i64 y.line) (.int .i64 y.col)
     have HZ := Lib.hid hZ
     have r0 := cell_at z8 0 rfl
     have r1 := cell_at z8 1 rfl
     have hwsz := HW3.out.size
     have HZO : Hid (∀ b, b < w.heap.size → b ≠ B → xv.ownBlock ≠ some b → Z.heap[b]? = w.heap[b]?) := fun b h1 h2 h3 => (zo b (by omega)).trans ((HW3.out.block b (by omega)).trans (HOT.out b h1 h2 h3))
     have hZs : w.heap.size ≤ Z.heap.size := by omega
     have HZB : Hid (Below B w Z) := (HBEL.out.trans (HW3.out.mono (by omega))).trans (zb.mono (by omega))
     clear hZ z8 zo zs zb hw1
     go_wp2_with fail
     rw [HZ.out]
     refine bodyPost_ret (v := .tuple #[.agg #[.int .i64 y.line, .int .i64 y.col], .bool true]) (by simp [results, Tryz.results65, go_sem, r0, r1]) rfl ?_
     exact ⟨_, _, _, rfl, HZB.out, hZs, HZO.out, .inl ⟨rfl, by rw [HNF.out]; exact firstS_some HFS.out HGS.out (by omega)⟩⟩
    case true =>
     have hso : RO = some mo := by
      rcases HR2.out with ⟨_, h⟩ | ⟨h, _⟩
      ·exact h
      ·cases h
     rw [hso] at HFX HTK
     have HGN : Hid (methXP f types ps n x k = none) := by
      refine (?_ : _ = _)
      rw [HFX.out, if_neg (by simp)]
     have HBd3 := Lib.hid (HBD.out.below (W := W3) HW3.out)
     have hCl := fun W => clone_any (mkB x.2.name) W (by rw [mkB_size]; omega)
     have hCl2 := fun W => clone_any (mkB y.name) W (by rw [mkB_size]; omega)
     have hw3s := HW3.out.size
     have h3l := blk_lt H3C.out
     have hBl3 := HBd3.out.lt
     have hbb := HBd3.out.bb
     have hB1 := HBD.out.lt
     have h30 : W3.heap[w.heap.size]? = some (.cells #[.int .i64 x.2.kind, .string (mkB x.2.name), .int .i64 x.2.line, .int .i64 x.2.col, .slice fa x.2.fields.length fc, .slice va x.2.values.length vc, .slice (some ⟨g, oo, none⟩) nf mc, .slice ia x.2.inner.length ic, .string (mkB x.1)] 117 (0, 0)) := (HW3.out.block _ (by omega)).trans H0.out
     have hsy0 : W3.drew.heap[w1.heap.size]? = some (.cells #[.string (mkB y.name), .string (mkB y.inp), .string (mkB y.out), .int .i64 y.line, .int .i64 y.col] 77 (0, 0)) ∧ W3.drew.heap[w.heap.size]? = some (.cells #[.int .i64 x.2.kind, .string (mkB x.2.name), .int .i64 x.2.line, .int .i64 x.2.col, .slice fa x.2.fields.length fc, .slice va x.2.values.length vc, .slice (some ⟨g, oo, none⟩) nf mc, .slice ia x.2.inner.length ic, .string (mkB x.1)] 117 (0, 0)) := ⟨H3C.out, h30⟩
     have hsp0 : W3.drew.heap[B]? = some (.cells #[tv, .map (some mb), mv, ev, .slice xva TSL.length xvc] 128 (0, 0)) := HBd3.out.cells
     have HCF : Hid (∀ W : World, (W.heap[w1.heap.size]? = some (.cells #[.string (mkB y.name), .string (mkB y.inp), .string (mkB y.out), .int .i64 y.line, .int .i64 y.col] 77 (0, 0)) ∧ W.heap[w.heap.size]? = some (.cells #[.int .i64 x.2.kind, .string (mkB x.2.name), .int .i64 x.2.line, .int .i64 x.2.col, .slice fa x.2.fields.length fc, .slice va x.2.values.length vc, .slice (some ⟨g, oo, none⟩) nf mc, .slice ia x.2.inner.length ic, .string (mkB x.1)] 117 (0, 0))) → W.heap[B]? = some (.cells #[tv, .map (some mb), mv, ev, .slice xva TSL.length xvc] 128 (0, 0)) → W.cell? ⟨w1.heap.size, 0, none⟩ = some (.string (mkB y.name)) ∧ W.cell? ⟨w.heap.size, 1, none⟩ = some (.string (mkB x.2.name)) ∧ W.cell? ⟨B, 4, none⟩ = some (.slice xva TSL.length xvc)) := fun W h1 h2 => ⟨by simp [World.cell?, h1.1], by simp [World.cell?, h1.2], by simp [World.cell?, h2]⟩
     have HOB : Hid (∀ b, (Value.slice xva TSL.length xvc).ownBlock = some b → base ≤ b ∧ b < w1.heap.size) := fun b hb => own_block HBD.out.ts b hb
     have HOY : Hid (W3.ownsRow base 45 5 (.slice xva TSL.length xvc) TSL.length (TSL.flatMap tdrow)) := HBd3.out.ts
     have hwt : IntKind.i64.wrap ((TSL.length : Int) + 1) = (TSL.length : Int) + 1 := by rw [IntKind.wrap_i64]; omega
     have hbs := HBD.out.sz
     clear hso HR2 h30
     go_upto_region 10 with fail
     refine region_G 28 (fun W => W.heap[w1.heap.size]? = some (.cells #[.string (mkB y.name), .string (mkB y.inp), .string (mkB y.out), .int .i64 y.line, .int .i64 y.col] 77 (0, 0)) ∧ W.heap[w.heap.size]? = some (.cells #[.int .i64 x.2.kind, .string (mkB x.2.name), .int .i64 x.2.line, .int .i64 x.2.col, .slice fa x.2.fields.length fc, .slice va x.2.values.length vc, .slice (some ⟨g, oo, none⟩) nf mc, .slice ia x.2.inner.length ic, .string (mkB x.1)] 117 (0, 0))) (fun W => W.heap[B]? = some (.cells #[tv, .map (some mb), mv, ev, .slice xva TSL.length xvc] 128 (0, 0))) (by kernel_rfl) ?_
     refine G_take (i := 0) (v := .pointer (some ⟨B, 0, none⟩)) [27, 26, 25, 0] rfl (by kernel_rfl) (fun _ _ _ h => h) (.inl ⟨by kernel_rfl, fun W hW => by go_simp⟩) ⟨hsy0, fun _ => hsp0⟩ ?_
     refine G_take (i := 1) (v := .pointer (some ⟨B, 0, none⟩)) [24, 5, 4, 3, 2, 1] rfl (by kernel_rfl) (fun _ _ _ h => h) (.inl ⟨by kernel_rfl, fun W hW => by go_simp⟩) ⟨hsy0, fun _ => hsp0⟩ ?_
     refine G_take (i := 2) (v := .pointer (some ⟨B, 0, none⟩)) [24, 5, 4, 3, 2] rfl (by kernel_rfl) (fun _ _ _ h => h) (.inl ⟨by kernel_rfl, fun W hW => by go_simp⟩) ⟨hsy0, fun _ => hsp0⟩ ?_
     refine G_take (i := 3) (v := .pointer (some ⟨B, 2, none⟩)) [24, 5, 4, 3] rfl (by kernel_rfl) (fun _ _ _ h => h) (.inl ⟨by kernel_rfl, fun W hW => by go_simp⟩) ⟨hsy0, fun _ => hsp0⟩ ?_
     refine G_take (i := 4) (v := .pointer (some ⟨B, 4, none⟩)) [24, 5, 4] rfl (by kernel_rfl) (fun _ _ _ h => h) (.inl ⟨by kernel_rfl, fun W hW => by go_simp⟩) ⟨hsy0, fun _ => hsp0⟩ ?_
     refine G_take (i := 5) (v := .slice xva TSL.length xvc) [24, 5] rfl (by kernel_rfl) (fun _ _ _ h => h) (.inl ⟨by kernel_rfl, fun W hW => by obtain ⟨u0, u1, up⟩ := HCF.out W hW.1 hW.2; go_simp⟩) ⟨hsy0, fun _ => hsp0⟩ ?_
     refine G_take (i := 6) (v := .pointer (some ⟨B, 0, none⟩)) [24, 23, 22, 12, 11, 10, 9, 8, 7, 6] rfl (by kernel_rfl) (fun _ _ _ h => h) (.inl ⟨by kernel_rfl, fun W hW => by go_simp⟩) ⟨hsy0, fun _ => hsp0⟩ ?_
     refine G_take (i := 7) (v := .pointer (some ⟨B, 0, none⟩)) [24, 23, 22, 12, 11, 10, 9, 8, 7] rfl (by kernel_rfl) (fun _ _ _ h => h) (.inl ⟨by kernel_rfl, fun W hW => by go_simp⟩) ⟨hsy0, fun _ => hsp0⟩ ?_
     refine G_take (i := 8) (v := .pointer (some ⟨B, 2, none⟩)) [24, 23, 22, 12, 11, 10, 9, 8] rfl (by kernel_rfl) (fun _ _ _ h => h) (.inl ⟨by kernel_rfl, fun W hW => by go_simp⟩) ⟨hsy0, fun _ => hsp0⟩ ?_
     refine G_take (i := 9) (v := .pointer (some ⟨B, 4, none⟩)) [24, 23, 22, 12, 11, 10, 9] rfl (by kernel_rfl) (fun _ _ _ h => h) (.inl ⟨by kernel_rfl, fun W hW => by go_simp⟩) ⟨hsy0, fun _ => hsp0⟩ ?_
     refine G_take (i := 10) (v := .slice xva TSL.length xvc) [24, 23, 22, 12, 11, 10] rfl (by kernel_rfl) (fun _ _ _ h => h) (.inl ⟨by kernel_rfl, fun W hW => by obtain ⟨u0, u1, up⟩ := HCF.out W hW.1 hW.2; go_simp⟩) ⟨hsy0, fun _ => hsp0⟩ ?_
     refine G_take (i := 11) (v := .int .i64 (TSL.length : Int)) [24, 23, 22, 12, 11] rfl (by kernel_rfl) (fun _ _ _ h => h) (.inl ⟨by kernel_rfl, fun W hW => by go_simp⟩) ⟨hsy0, fun _ => hsp0⟩ ?_
     refine G_take (i := 12) (v := .int .i64 ((TSL.length : Int) + 1)) [24, 23, 22, 12] rfl (by kernel_rfl) (fun _ _ _ h => h) (.inl ⟨by kernel_rfl, fun W hW => by go_simp⟩) ⟨hsy0, fun _ => hsp0⟩ ?_
     refine G_take (i := 13) (v := .pointer (some ⟨w.heap.size, 0, none⟩)) [24, 23, 22, 16, 15, 14, 13] rfl (by kernel_rfl) (fun _ _ _ h => h) (.inl ⟨by kernel_rfl, fun W hW => by go_simp⟩) ⟨hsy0, fun _ => hsp0⟩ ?_
     refine G_take (i := 14) (v := .pointer (some ⟨w.heap.size, 1, none⟩)) [24, 23, 22, 16, 15, 14] rfl (by kernel_rfl) (fun _ _ _ h => h) (.inl ⟨by kernel_rfl, fun W hW => by go_simp⟩) ⟨hsy0, fun _ => hsp0⟩ ?_
     refine G_take (i := 15) (v := .string (mkB x.2.name)) [24, 23, 22, 16, 15] rfl (by kernel_rfl) (fun _ _ _ h => h) (.inl ⟨by kernel_rfl, fun W hW => by obtain ⟨u0, u1, up⟩ := HCF.out W hW.1 hW.2; go_simp⟩) ⟨hsy0, fun _ => hsp0⟩ ?_
     refine G_take (i := 17) (v := .pointer (some ⟨w1.heap.size, 0, none⟩)) [24, 23, 22, 19, 18, 17] rfl (by kernel_rfl) (fun _ _ _ h => h) (.inl ⟨by kernel_rfl, fun W hW => by go_simp⟩) ⟨hsy0, fun _ => hsp0⟩ ?_
     refine G_take (i := 18) (v := .string (mkB y.name)) [24, 23, 22, 19, 18] rfl (by kernel_rfl) (fun _ _ _ h => h) (.inl ⟨by kernel_rfl, fun W hW => by obtain ⟨u0, u1, up⟩ := HCF.out W hW.1 hW.2; go_simp⟩) ⟨hsy0, fun _ => hsp0⟩ ?_
     refine G_take (i := 20) (v := .int .i64 mi) [24, 23, 22, 20] rfl (by kernel_rfl) (fun _ _ _ h => h) (.inl ⟨by kernel_rfl, fun W hW => by go_simp⟩) ⟨hsy0, fun _ => hsp0⟩ ?_
     refine G_take (i := 21) (v := .int .i64 mo) [24, 23, 22, 21] rfl (by kernel_rfl) (fun _ _ _ h => h) (.inl ⟨by kernel_rfl, fun W hW => by go_simp⟩) ⟨hsy0, fun _ => hsp0⟩ ?_
     refine G_one (i := 16) (by kernel_rfl) rfl (fun K hK => ?_)
     go_simp
     refine (hCl _).mono ?_
     rintro e4 W4 ⟨rfl, hb4⟩
     have hb4' : Below W3.heap.size W3 W4 := (Below.refl _ W3).drew.trans hb4
     have hy4 : W4.heap[w1.heap.size]? = _ ∧ W4.heap[w.heap.size]? = _ := ⟨(hb4'.block _ h3l).trans hsy0.1, (hb4'.block _ (by omega)).trans hsy0.2⟩
     have hp4 := (hb4'.block _ hBl3).trans hsp0
     dsimp only
     refine hK.out _ _ ⟨hy4, fun _ => hp4⟩ ?_
     clear hK K
     refine G_one (i := 19) (by kernel_rfl) rfl (fun K hK => ?_)
     go_simp
     refine (hCl2 _).mono ?_
     rintro e5 W5 ⟨rfl, hb5⟩
     have hb5' : Below W3.heap.size W3 W5 := hb4'.trans (hb5.mono hb4'.size)
     have hy5 : W5.heap[w1.heap.size]? = _ ∧ W5.heap[w.heap.size]? = _ := ⟨(hb5'.block _ h3l).trans hsy0.1, (hb5'.block _ (by omega)).trans hsy0.2⟩
     have hp5 := (hb5'.block _ hBl3).trans hsp0
     have ho5 : W5.ownsRow base 45 5 (.slice xva TSL.length xvc) TSL.length (TSL.flatMap tdrow) := (own_keep HOY.out fun b hb => hb5'.block b (by have := HOB.out b hb; omega))
     have h5s := hb5'.size
     dsimp only
     refine hK.out _ _ ⟨hy5, fun _ => hp5⟩ ?_
     clear hK K
     refine G_take (i := 22) (v := .agg #[.int .i64 ((TSL.length : Int) + 1), .string (mkB x.2.name), .string (mkB y.name), .int .i64 mi, .int .i64 mo]) [24, 23, 22] rfl (by kernel_rfl) (fun _ _ _ h => h) (.inl ⟨by kernel_rfl, fun W hW => by go_simp⟩) ⟨hy5, fun _ => hp5⟩ ?_
     refine G_one (i := 23) (by kernel_rfl) rfl (fun K hK => ?_)
     go_simp
     refine hK.out _ _ ⟨⟨(alloc_heap_old _ _ _ (by omega)).trans hy5.1, (alloc_heap_old _ _ _ (by omega)).trans hy5.2⟩, fun _ => (alloc_heap_old _ _ _ (by omega)).trans hp5⟩ ?_
     clear hK K
     refine G_one (i := 24) (by kernel_rfl) rfl (fun K hK => ?_)
     refine row_pushS (T := 45) Tryz.underlying27 infoTdA rfl (by decide) (ho5.alloc _) (by simp; omega) (tdrow ⟨(TSL.length : Int) + 1, x.2.name, y.name, mi, mo⟩) rfl (tdrow_one _) W5.heap.size (alloc_heap_new _ _) rfl _ _ rfl rfl rfl (by unfold maxLen; omega) (by omega) ?_
     intro g6 cap6 W6 hown6 hgr6 hat6 hlt6
     have hgr5 : W5.grownBy W6 (Value.slice xva TSL.length xvc).ownBlock := ((World.grownBy_alloc _ _ _).trans hgr6)
     have hp6 : W6.heap[B]? = some (.cells #[tv, .map (some mb), mv, ev, .slice xva TSL.length xvc] 128 (0, 0)) := ((hgr5.block _ (by omega) (fun e => by have := HOB.out _ e.symm; omega)).trans hp5)
     have hy6 : W6.heap[w1.heap.size]? = _ ∧ W6.heap[w.heap.size]? = _ := ⟨(hgr5.block _ (by omega) (fun e => by have := HOB.out _ e.symm; omega)).trans hy5.1, (hgr5.block _ (by omega) (fun e => HXNE.out _ (Nat.le_refl _) (by omega) e.symm)).trans hy5.2⟩
     have c61 : W6.cell? ⟨B, 4, none⟩ = some (.slice xva TSL.length xvc) := (by simp [World.cell?, hp6])
     have f61 : W6.frozen? ⟨B, 4, none⟩ = false := (by simp [World.frozen?, hp6])
     refine hK.out _ _ ⟨hy6, fun _ => hp6⟩ ?_
     clear hK K
     refine G_take (i := 25) (v := .pointer (some ⟨B, 0, none⟩)) [27, 26, 25] rfl (by kernel_rfl) (fun _ _ _ h => h) (.inl ⟨by kernel_rfl, fun W hW => by go_simp⟩) ⟨hy6, fun _ => hp6⟩ ?_
     refine G_take (i := 26) (v := .pointer (some ⟨B, 2, none⟩)) [27, 26] rfl (by kernel_rfl) (fun _ _ _ h => h) (.inl ⟨by kernel_rfl, fun W hW => by go_simp⟩) ⟨hy6, fun _ => hp6⟩ ?_
     refine G_take (i := 27) (v := .pointer (some ⟨B, 4, none⟩)) [27] rfl (by kernel_rfl) (fun _ _ _ h => h) (.inl ⟨by kernel_rfl, fun W hW => by go_simp⟩) ⟨hy6, fun _ => hp6⟩ ?_
     refine G_one (i := 28) (by kernel_rfl) rfl (fun K hK => ?_)
     go_simp
     refine hK.out _ _ ⟨⟨(Below.heap_setCell _ _ _ _ (by show w1.heap.size ≠ B; omega)).trans hy6.1, (Below.heap_setCell _ _ _ _ (by show w.heap.size ≠ B; omega)).trans hy6.2⟩, fun h => (by cases h)⟩ ?_
     clear hK K
     refine G_done (by kernel_rfl) ?_ _
     have HBd5 := HBd3.out.below (W := W5) hb5'
     have hat5 : (Value.slice xva TSL.length xvc).ownBlock = some g6 ∨ W5.heap.size ≤ g6 := hat6.imp id fun e => by rw [e]; simp
     have hpush := HBd5.pushT ⟨(TSL.length : Int) + 1, x.2.name, y.name, mi, mo⟩ g6 cap6 hown6 hgr5 hat5
     have hQo : ∀ b, b < w1.heap.size → b ≠ B → (Value.slice xva TSL.length xvc).ownBlock ≠ some b → (W6.setCell ⟨B, 4, none⟩ (.slice (some ⟨g6, 0, none⟩) (TSL.length + 1) cap6)).heap[b]? = w1.heap[b]? := fun b h1 h2 h3 => by
      rw [Below.heap_setCell _ _ _ _ h2, hgr5.block b (by omega) (fun e => h3 e.symm)]
      exact (hb5'.block b (by omega)).trans (HW3.out.block b h1)
     have hQs : W5.heap.size ≤ (W6.setCell ⟨B, 4, none⟩ (.slice (some ⟨g6, 0, none⟩) (TSL.length + 1) cap6)).heap.size := by have := hgr5.size; simp; omega
     have hQB : Below B w (W6.setCell ⟨B, 4, none⟩ (.slice (some ⟨g6, 0, none⟩) (TSL.length + 1) cap6)) := (show Below B w W6 from (HBEL.out.trans ((HW3.out.trans (hb5'.mono HW3.out.size)).mono (by omega))).grown hgr5 (by omega) (fun b hb => by have := HOB.out b hb; omega)).setCell (p := ⟨B, 4, none⟩) (Nat.le_refl _) _
     obtain ⟨Q, hQ⟩ : ∃ Q, (W6.setCell ⟨B, 4, none⟩ (.slice (some ⟨g6, 0, none⟩) (TSL.length + 1) cap6)) = Q := ⟨_, rfl⟩
     rw [hQ] at hpush hQo hQs hQB
     have HQB := Lib.hid hQB
     have HQ := Lib.hid hQ
     have HPU : Hid (Bd f base Q B mb tv mv ev (.slice (some ⟨g6, 0, none⟩) (TSL.length + 1) cap6) types ps n ⟨s.ms, s.es, TSL ++ [⟨(TSL.length : Int) + 1, x.2.name, y.name, mi, mo⟩]⟩ mr er) := hpush
     have HQ0 : Hid (Q.heap[w.heap.size]? = _) := (hQo _ (by omega) (by omega) (HXNE.out _ (Nat.le_refl _) (by omega))).trans H0.out
     have HQ1 : Hid (Q.heap[w.heap.size + 1]? = some (.cells #[.int .i64 0, .int .i64 0] 31 (0, 0))) := (hQo _ (by omega) (by omega) (HXNE.out _ (by omega) (by omega))).trans H1.out
     have hxx : ∀ b, b < w.heap.size → xv.ownBlock ≠ some b → (Value.slice xva TSL.length xvc).ownBlock ≠ some b := fun b h1 h2 e => by
      rcases HXO.out b e with h | h
      ·exact h2 h
      ·omega
     have HQT : Hid (∀ b, b < w.heap.size → b ≠ B → xv.ownBlock ≠ some b → Q.heap[b]? = w.heap[b]?) := fun b h1 h2 h3 => (hQo b (by omega) h2 (hxx b h1 h3)).trans (HOT.out b h1 h2 h3)
     have HQX : Hid (∀ b, (Value.slice (some ⟨g6, 0, none⟩) (TSL.length + 1) cap6).ownBlock = some b → xv.ownBlock = some b ∨ w.heap.size + 2 ≤ b) := fun b hb => by
      have hb' : g6 = b := Option.some.inj hb
      subst hb'
      rcases hat5 with e | e
      ·exact HXO.out _ e
      ·right; omega
     have hQs2 : w.heap.size + 2 ≤ Q.heap.size := by omega
     clear hQB hQ hpush hQo hQs hown6 hgr6 hgr5 hat6 hat5 hb4 hb4' hb5 hb5' ho5 hy4 hp4 hy5 hp5 hp6 hy6 hsy0 hsp0 HBd5 hxx
     rw [HQ.out]
     clear c61 f61
     go_wp2_with fail
     go_roundw
     case rel => exact ⟨k + 1, _, by go_num, by omega, firstS_step HFS.out HGN.out, by rw [HTK.out]; exact HPU.out, HQB.out, hQs2, HQ0.out, HQ1.out, HQT.out, HQX.out⟩
     case measure => simp [intOf]; omega
  ·have hkn' : ¬ (k : Int) < (nf : Int) := by omega
   have hke : k = nf := by omega
   have hte : x.2.methods.take k = x.2.methods := List.take_of_length_le (by have := HNF.out; omega)
   rw [hte] at HTSL
   have h1 := H1.out
   have k0 := cell_at h1 0 rfl
   have k1 := cell_at h1 1 rfl
   have kf0 := frozen_at h1 0
   have kf1 := frozen_at h1 1
   obtain ⟨Z, hZ, z8, zo, zs, zb⟩ := set2_all h1 (.int .i64 0) (.int .i64 0)
   have HZ := Lib.hid hZ
   have r0 := cell_at z8 0 rfl
   have r1 := cell_at z8 1 rfl
   have hall : ∀ b, Z.heap[b]? = w1.heap[b]? := fun b => by
    by_cases hbe : b = w.heap.size + 1
    ·subst hbe; rw [z8, h1]
    ·exact zo b hbe
   have HBZ := Lib.hid (HBD.out.grow (W := Z) (by omega) fun b _ => hall b)
   have HZO : Hid (∀ b, b < w.heap.size → b ≠ B → xv.ownBlock ≠ some b → Z.heap[b]? = w.heap[b]?) := fun b h1 h2 h3 => (hall b).trans (HOT.out b h1 h2 h3)
   have hZs : w.heap.size ≤ Z.heap.size := by omega
   have HZB : Hid (Below B w Z) := HBEL.out.trans (zb.mono (by omega))
   have HKE := Lib.hid hke
   clear hZ z8 zo zs zb hall h1 hke hte hkn
   go_wp2_with fail
   rw [HZ.out]
   refine bodyPost_ret (v := .tuple #[.agg #[.int .i64 0, .int .i64 0], .bool false]) (by simp [results, Tryz.results65, go_sem, r0, r1]) rfl ?_
   exact ⟨_, _, _, rfl, HZB.out, hZs, HZO.out, .inr ⟨rfl, rfl, rfl, by rw [HNF.out, ← HKE.out]; exact HFS.out, _, by rw [HTSL.out]; exact HBZ.out⟩⟩
end Go.Proofs.YtpojeinddnjpfaaGreatDoor
