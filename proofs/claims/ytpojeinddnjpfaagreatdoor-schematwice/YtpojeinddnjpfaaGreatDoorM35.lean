/-
  The walk over the program's tables.
-/
import Derived.Test.YtpojeinddnjpfaaGreatDoorM0
import Derived.Test.YtpojeinddnjpfaaGreatDoorM31
import Derived.Test.YtpojeinddnjpfaaGreatDoorM32
import Derived.Test.YtpojeinddnjpfaaGreatDoorM33
import Derived.Test.YtpojeinddnjpfaaGreatDoorM34
namespace Go.Proofs.YtpojeinddnjpfaaGreatDoor
set_option linter.unusedVariables false
open Go.ChangeShapes Go.WideShapes Go.ChangeAt Go.RowKit Go.Maps

def typeXP (f : Nat) (types : List Dc) (ps : List Pl) (n : Nat) (x : Pl) : Option (Int × Int) := if x.2.kind = 1 then firstS (fieldXP f types ps n x) x.2.fields.length else if x.2.kind = 3 then firstS (methXP f types ps n x) x.2.methods.length else none
def typeGP (f : Nat) (types : List Dc) (ps : List Pl) (n i : Nat) : Option (Int × Int) := match ps[i]? with
 | some x => typeXP f types ps n x
 | none => none
def tabSP (f : Nat) (types : List Dc) (ps : List Pl) (n : Nat) (s : SC) (x : Pl) : SC := if x.2.kind = 1 then ⟨s.ms ++ [⟨x.1, sortF (x.2.fields.map (fdP f types ps n x.1))⟩], s.es, s.ts⟩ else if x.2.kind = 2 then ⟨s.ms, s.es ++ [edOf x], s.ts⟩ else if x.2.kind = 3 then ⟨s.ms, s.es, x.2.methods.foldl (tdAddP f types ps n x.2.name) s.ts⟩ else s
def tabLP (f : Nat) (types : List Dc) (ps : List Pl) (n : Nat) (qs : List Pl) : SC := qs.foldl (tabSP f types ps n) ⟨[], [], []⟩
theorem tabLP_snoc (f : Nat) (types : List Dc) (ps : List Pl) (n : Nat) (qs : List Pl) (x : Pl) : tabLP f types ps n (qs ++ [x]) = tabSP f types ps n (tabLP f types ps n qs) x := by
 unfold tabLP; rw [List.foldl_append]; rfl
theorem tab_bound (f : Nat) (types : List Dc) (ps : List Pl) (n : Nat) : ∀ (k : Nat) (qs : List Pl), qs.length = k → (tabLP f types ps n qs).ms.length ≤ qs.length ∧ (tabLP f types ps n qs).es.length ≤ qs.length ∧ (tabLP f types ps n qs).ts.length ≤ msum qs
 | 0, qs, h => by
  have : qs = [] := List.eq_nil_of_length_eq_zero h
  subst this; exact ⟨Nat.le_refl _, Nat.le_refl _, Nat.le_refl _⟩
 | k + 1, qs, h => by
  rcases List.eq_nil_or_concat qs with h0 | ⟨q, x, h1⟩
  ·subst h0; simp at h
  ·rw [List.concat_eq_append] at h1
   subst h1
   have hl : q.length = k := by simpa using h
   obtain ⟨a, b, c⟩ := tab_bound f types ps n k q hl
   rw [tabLP_snoc, msum_snoc, List.length_append]
   unfold tabSP
   split
   ·simp; omega
   ·split
    ·simp; omega
    ·split
     ·rw [show (⟨(tabLP f types ps n q).ms, (tabLP f types ps n q).es, x.2.methods.foldl (tdAddP f types ps n x.2.name) (tabLP f types ps n q).ts⟩ : SC).ts.length = _ from fold_len f types ps n x.2.name x.2.methods _]
      simp; omega
     ·simp; omega
structure XFit (x : Pl) : Prop where
 fl : x.2.fields.length ≤ 100000
 vl : x.2.values.length ≤ 100000
 ml : x.2.methods.length ≤ 100000
 wl : x.1.length ≤ 1000000000000
 nl : x.2.name.length ≤ 1000000
 ft : ∀ y ∈ x.2.fields, y.type.length ≤ 200000000 ∧ y.name.length ≤ 1000000
 vt : ∀ y ∈ x.2.values, y.name.length ≤ 1000000
 mt : ∀ y ∈ x.2.methods, y.inp.length ≤ 200000000 ∧ y.out.length ≤ 200000000 ∧ y.name.length ≤ 1000000
 nd : (x.2.fields.map (·.num)).Nodup
def TabAns (R : Option (Int × Int)) (s : SC) (w : World) (e : Ending) (w' : World) : Prop := ∃ (aa ba ca : Option Addr) (an ac bn bc cn cc : Nat) (l p : Int) (q : Bool), e = .returned (.tuple #[.agg #[.slice aa an ac, .slice ba bn bc, .slice ca cn cc], .agg #[.int .i64 l, .int .i64 p], .bool q]) ∧ Below w.heap.size w w' ∧
 ((q = true ∧ R = some (l, p) ∧ aa = none ∧ an = 0 ∧ ac = 0 ∧ ba = none ∧ bn = 0 ∧ bc = 0 ∧ ca = none ∧ cn = 0 ∧ cc = 0) ∨ (q = false ∧ R = none ∧ l = 0 ∧ p = 0 ∧ HeldSc w' (fun b => w.heap.size ≤ b ∧ b < w'.heap.size) (.slice aa an ac) (.slice ba bn bc) (.slice ca cn cc) s))
theorem set3_all {w : World} {B : Nat} {T : TypeId} {z0 z1 z2 : Value} (h : w.heap[B]? = some (.cells #[z0, z1, z2] T (0, 0))) (x0 x1 x2 : Value) :
  ∃ Y, (((w.setCell ⟨B, 0, none⟩ x0).setCell ⟨B, 1, none⟩ x1).setCell ⟨B, 2, none⟩ x2) = Y ∧ Y.heap[B]? = some (.cells #[x0, x1, x2] T (0, 0)) ∧ (∀ b, b ≠ B → Y.heap[b]? = w.heap[b]?) ∧ Y.heap.size = w.heap.size ∧ Below B w Y := by
 refine ⟨_, rfl, ?_, fun b hb => ?_, by simp, ?_⟩
 ·rw [setCell_heap (setCell_heap (setCell_heap h x0) x1) x2]; rfl
 ·rw [Below.heap_setCell _ _ _ _ hb, Below.heap_setCell _ _ _ _ hb, Below.heap_setCell _ _ _ _ hb]
 ·exact ((((Below.refl B w).setCell (p := ⟨B, 0, none⟩) (Nat.le_refl _) x0).setCell (p := ⟨B, 1, none⟩) (Nat.le_refl _) x1).setCell (p := ⟨B, 2, none⟩) (Nat.le_refl _) x2)
set_option maxHeartbeats 32000000 in
set_option maxRecDepth 20000 in
theorem tabP_any (f : Nat) (ds : List Dc) (dv : Value) (ps : List Pl) (v : Value) (w : World) (hn0 : ps.length ≤ 100000) (hds : ds.length ≤ 100000) (hms : msum ps ≤ 100000) (hTy : TyFit f (noSvc ds)) (hxf : ∀ x ∈ ps, XFit x) (hD : HeldD (f + 1) w (fun b => b < w.heap.size) dv ds) (hH : HeldP 9 f w (fun b => b < w.heap.size) v ps) :
  Calls Tryz.prog 28 #[dv, v] w fun e w' => TabAns (firstS (typeGP f (noSvc ds) ps ps.length) ps.length) (tabLP f (noSvc ds) ps ps.length ps) w e w' := by
 have HH := Lib.hid hH
 have HDD := Lib.hid hD
 have HTY := Lib.hid hTy
 have HXF := Lib.hid hxf
 obtain ⟨ad, cc, rfl⟩ := hH.isSl
 obtain ⟨dd, dc, rfl⟩ := hD.isSlD
 obtain ⟨n, hn⟩ : ∃ n, ps.length = n := ⟨_, rfl⟩
 have HN := Lib.hid hn
 obtain ⟨TYS, hTYS⟩ : ∃ t, noSvc ds = t := ⟨_, rfl⟩
 rw [hn] at hn0 ⊢
 rw [hTYS] at HTY ⊢
 have HMS := Lib.hid hms
 obtain ⟨RES, hRES⟩ : ∃ r, firstS (typeGP f TYS ps n) n = r := ⟨_, rfl⟩
 have HRES := Lib.hid hRES
 rw [hRES]
 have hV0 : ((w.alloc (.cells #[.slice none 0 0, .slice none 0 0, .slice none 0 0] 29)).alloc (.cells #[.int .i64 0, .int .i64 0] 31)).heap[w.heap.size]? = some (.cells #[.slice none 0 0, .slice none 0 0, .slice none 0 0] 29 (0, 0)) := by
  rw [alloc_heap_old _ _ _ (by simp)]; exact alloc_heap_new _ _
 have hV1 : ((w.alloc (.cells #[.slice none 0 0, .slice none 0 0, .slice none 0 0] 29)).alloc (.cells #[.int .i64 0, .int .i64 0] 31)).heap[w.heap.size + 1]? = some (.cells #[.int .i64 0, .int .i64 0] 31 (0, 0)) := by
  have := alloc_heap_new (w.alloc (.cells #[.slice none 0 0, .slice none 0 0, .slice none 0 0] 29)) (.cells #[.int .i64 0, .int .i64 0] 31)
  simpa using this
 have hVb : Below w.heap.size w ((w.alloc (.cells #[.slice none 0 0, .slice none 0 0, .slice none 0 0] 29)).alloc (.cells #[.int .i64 0, .int .i64 0] 31)) := ((Below.refl _ w).alloc (Nat.le_refl _) _).alloc (by simp) _
 have hVs : ((w.alloc (.cells #[.slice none 0 0, .slice none 0 0, .slice none 0 0] 29)).alloc (.cells #[.int .i64 0, .int .i64 0] 31)).heap.size = w.heap.size + 2 := by simp
 clear hH hD hTy hxf hn hms hRES
 go_enter Tryz.func28, Tryz.ntmps28
 go_upto_region 1 with fail
 generalize ((w.alloc (.cells #[.slice none 0 0, .slice none 0 0, .slice none 0 0] 29)).alloc (.cells #[.int .i64 0, .int .i64 0] 31)) = V at *
 have HV0 := Lib.hid hV0
 have HV1 := Lib.hid hV1
 have HVB := Lib.hid hVb
 have hVs1 : w.heap.size + 2 ≤ V.heap.size := by omega
 have hsv := svcP_any f ds _ V hds ((HeldD.old (fun b hb => hVb.block b hb) HDD.out).more fun b hb => by have hb' : b < w.heap.size := hb; omega)
 rw [hTYS] at hsv
 clear hV0 hV1 hVb hVs hTYS
 go_wp2_with fail
 refine hsv.mono ?_
 rintro e W1 ⟨tv, rfl, htv, hb1⟩
 obtain ⟨ta, tc, hta⟩ := htv.isSlD
 subst hta
 have h1s := hb1.size
 have HTV := Lib.hid htv
 have HB1 := Lib.hid (HVB.out.trans (hb1.mono (by omega)))
 have HB1V := Lib.hid hb1
 have hnu := numbP_any f ps _ W1 (by rw [HN.out]; exact hn0) (fun x hx => (HXF.out x hx).wl) ((HH.out.old fun b hb => HB1.out.block b hb).more fun b hb => by have hb' : b < w.heap.size := hb; omega)
 rw [HN.out] at hnu
 clear htv hb1 hsv
 go_wp2_with fail
 refine hnu.mono ?_
 rintro e W2 ⟨mb, rfl, hmbl, hnm, hb2⟩
 have h2s := hb2.size
 have hml := hnm.lt
 have hU : (W2.alloc (.cells #[.slice ta TYS.length tc, .map (some mb), .slice none 0 0, .slice none 0 0, .slice none 0 0] 128)).heap[W2.heap.size]? = some (.cells #[.slice ta TYS.length tc, .map (some mb), .slice none 0 0, .slice none 0 0, .slice none 0 0] 128 (0, 0)) := alloc_heap_new _ _
 have hUb : Below W2.heap.size W2 (W2.alloc (.cells #[.slice ta TYS.length tc, .map (some mb), .slice none 0 0, .slice none 0 0, .slice none 0 0] 128)) := (Below.refl _ W2).alloc (Nat.le_refl _) _
 have hUs : (W2.alloc (.cells #[.slice ta TYS.length tc, .map (some mb), .slice none 0 0, .slice none 0 0, .slice none 0 0] 128)).heap.size = W2.heap.size + 1 := by simp
 have HB2 := Lib.hid hb2
 have HNM := Lib.hid hnm
 clear hnu hb2 hnm
 go_upto_region 2 with fail
 generalize (W2.alloc (.cells #[.slice ta TYS.length tc, .map (some mb), .slice none 0 0, .slice none 0 0, .slice none 0 0] 128)) = U at *
 obtain ⟨B, hB⟩ : ∃ b, W2.heap.size = b := ⟨_, rfl⟩
 have HUo : Hid (∀ b, b < W2.heap.size → U.heap[b]? = W2.heap[b]?) := fun b hb => hUb.block b hb
 have HBd0 : Hid (Bd f (B + 1) U B mb (.slice ta TYS.length tc) (.slice none 0 0) (.slice none 0 0) (.slice none 0 0) TYS ps n ⟨[], [], []⟩ [] []) := by
  refine (?_ : Bd _ _ _ _ _ _ _ _ _ _ _ _ _ _ _)
  rw [hB] at hU hUs hml
  have hno : ∀ b, (Value.slice none 0 0).ownBlock ≠ some b := fun b e => by cases e
  refine ⟨hU, by omega, by omega, ⟨by omega, by omega, hno _, hno _, hno _⟩, ?_, HNM.out.old (HUo.out mb (by omega)), Tb.nil _ _ _ _, Tb.nil _ _ _ _, World.ownsRow_nil _ _ _ _, fun b e => (by cases e), fun b e => (by cases e)⟩
  refine (HeldD.old (fun b hb => (HUo.out b (by have hb' : b < W1.heap.size := hb; omega)).trans (HB2.out.block b hb)) HTV.out).more fun b hb => ?_
  have hb' : b < W1.heap.size := hb
  exact ⟨by omega, by omega, hno _, hno _, hno _⟩
 have hBs : B < U.heap.size := by omega
 have hB2 : w.heap.size + 2 ≤ B := by omega
 have HUW : Hid (Below w.heap.size w U) := HB1.out.trans ((HB2.out.trans (hUb.mono h2s)).mono (by omega))
 have HU0 : Hid (U.heap[w.heap.size]? = some (.cells #[.slice none 0 0, .slice none 0 0, .slice none 0 0] 29 (0, 0))) := (HUo.out _ (by omega)).trans ((HB2.out.block _ (by omega)).trans ((HB1V.out.block _ (by omega)).trans HV0.out))
 have HU1 : Hid (U.heap[w.heap.size + 1]? = some (.cells #[.int .i64 0, .int .i64 0] 31 (0, 0))) := (HUo.out _ (by omega)).trans ((HB2.out.block _ (by omega)).trans ((HB1V.out.block _ (by omega)).trans HV1.out))
 clear hU hUb hUs HUo HNM HTV hml hmbl HB2 HB1 HB1V HVB HV0 HV1
 rw [hB]
 clear hB h2s h1s hVs1
 go_wp2_with fail
 go_loopw [19] (fun i wr => ∃ (j : Nat) (mv ev xv : Value) (mr er : List (List Value)), i = .int .i64 (j : Int) ∧ j ≤ n ∧ firstS (typeGP f TYS ps n) j = none ∧ Bd f (B + 1) wr B mb (.slice ta TYS.length tc) mv ev xv TYS ps n (tabLP f TYS ps n (ps.take j)) mr er ∧ Below B U wr) (fun i _ => n - (intOf i).toNat)
 case atStart => exact ⟨0, _, _, _, [], [], rfl, Nat.zero_le _, rfl, HBd0.out, Below.refl _ _⟩
 case round =>
  generalize wr = w1 at *
  obtain ⟨j, mv, ev, xv, mr, er, rfl, hj, hfs, hbd, hoth⟩ := hrel
  have HFS := Lib.hid hfs
  have HBD := Lib.hid hbd
  have HOTB := Lib.hid hoth
  have HOT : Hid (∀ b, b < B → w1.heap[b]? = U.heap[b]?) := fun b hb => hoth.block b hb
  have hBw := hbd.lt
  have hsz1 := hbd.sz
  have HMB : Hid (∀ b, mv.ownBlock = some b → B + 1 ≤ b ∧ b < w1.heap.size) := fun b hb => own_block hbd.ms.own b hb
  have HEB : Hid (∀ b, ev.ownBlock = some b → B + 1 ≤ b ∧ b < w1.heap.size) := fun b hb => own_block hbd.es.own b hb
  have HXB : Hid (∀ b, xv.ownBlock = some b → B + 1 ≤ b ∧ b < w1.heap.size) := fun b hb => own_block hbd.ts b hb
  clear hfs hbd hoth HBd0
  by_cases hjn : j < n
  ·obtain ⟨x, hx⟩ : ∃ x, ps[j]? = some x := ⟨_, List.getElem?_eq_getElem (by have := HN.out; omega)⟩
   have HXX := Lib.hid (HXF.out x (List.mem_of_getElem? hx))
   obtain ⟨tb1, tb2, tb3⟩ := tab_bound f TYS ps n _ (ps.take j) rfl
   have htj : (ps.take j).length ≤ j := by simp; omega
   have hmt : msum (ps.take j) ≤ msum ps := by
    have e : ps = ps.take j ++ ps.drop j := (List.take_append_drop _ _).symm
    have key : ∀ (a b : List Pl), msum a ≤ msum (a ++ b) := fun a b => by
     induction a with
     | nil => simp [msum]
     | cons c t ih => simp only [List.cons_append, msum]; omega
    exact Nat.le_trans (key _ (ps.drop j)) (Nat.le_of_eq (congrArg msum e.symm))
   have hmm := HMS.out
   have HG : Hid (typeGP f TYS ps n j = typeXP f TYS ps n x) := by
    refine (?_ : _ = _)
    unfold typeGP
    rw [hx]
   have HTN : Hid (tabLP f TYS ps n (ps.take (j + 1)) = tabSP f TYS ps n (tabLP f TYS ps n (ps.take j)) x) := by
    refine (?_ : _ = _)
    rw [take_snoc hx, tabLP_snoc]
   obtain ⟨g, o, c0, fa, fc, va, vc, ma, mc, ia, ic, hsl, hg, e0, e1, e2, e3, e4, e5, e6, e7, e8, kd⟩ := place_at HH.out (W := w1) (fun b hb => (HOT.out b (by have hb' : b < w.heap.size := hb; omega)).trans (HUW.out.block b hb)) hx
   rw [HN.out] at hsl
   obtain ⟨rfl, rfl⟩ : ad = some ⟨g, o, none⟩ ∧ cc = c0 := by
    injection hsl with h1 _ h3
    exact ⟨h1, h3⟩
   have hj0 : (0 : Int) ≤ (j : Int) := by omega
   have hj1 : (j : Int) < (n : Int) := by omega
   have hwq : IntKind.i64.wrap ((j : Int) + 1) = (j : Int) + 1 := by rw [IntKind.wrap_i64]; omega
   obtain ⟨ST, hST⟩ : ∃ s, tabLP f TYS ps n (ps.take j) = s := ⟨_, rfl⟩
   rw [hST] at tb1 tb2 tb3 HBD HTN
   have hb1 : ST.ms.length ≤ 100000 := by omega
   have hb2 : ST.es.length ≤ 100000 := by omega
   have hb3 : ST.ts.length ≤ 100000 := by omega
   have HKD := Lib.hid kd
   clear hsl kd hST tb1 tb2 tb3 htj hmt hmm hx
   have hC0 : ((w1.alloc (.cells #[.int .i64 x.2.kind, .string (mkB x.2.name), .int .i64 x.2.line, .int .i64 x.2.col, .slice fa x.2.fields.length fc, .slice va x.2.values.length vc, .slice ma x.2.methods.length mc, .slice ia x.2.inner.length ic, .string (mkB x.1)] 117)).alloc (.cells #[.int .i64 0, .int .i64 0] 31)).heap[w1.heap.size]? = some (.cells #[.int .i64 x.2.kind, .string (mkB x.2.name), .int .i64 x.2.line, .int .i64 x.2.col, .slice fa x.2.fields.length fc, .slice va x.2.values.length vc, .slice ma x.2.methods.length mc, .slice ia x.2.inner.length ic, .string (mkB x.1)] 117 (0, 0)) := by
    rw [alloc_heap_old _ _ _ (by simp)]; exact alloc_heap_new _ _
   have hC1 : ((w1.alloc (.cells #[.int .i64 x.2.kind, .string (mkB x.2.name), .int .i64 x.2.line, .int .i64 x.2.col, .slice fa x.2.fields.length fc, .slice va x.2.values.length vc, .slice ma x.2.methods.length mc, .slice ia x.2.inner.length ic, .string (mkB x.1)] 117)).alloc (.cells #[.int .i64 0, .int .i64 0] 31)).heap[w1.heap.size + 1]? = some (.cells #[.int .i64 0, .int .i64 0] 31 (0, 0)) := by
    have := alloc_heap_new (w1.alloc (.cells #[.int .i64 x.2.kind, .string (mkB x.2.name), .int .i64 x.2.line, .int .i64 x.2.col, .slice fa x.2.fields.length fc, .slice va x.2.values.length vc, .slice ma x.2.methods.length mc, .slice ia x.2.inner.length ic, .string (mkB x.1)] 117)) (.cells #[.int .i64 0, .int .i64 0] 31)
    simpa using this
   have hCb : Below w1.heap.size w1 ((w1.alloc (.cells #[.int .i64 x.2.kind, .string (mkB x.2.name), .int .i64 x.2.line, .int .i64 x.2.col, .slice fa x.2.fields.length fc, .slice va x.2.values.length vc, .slice ma x.2.methods.length mc, .slice ia x.2.inner.length ic, .string (mkB x.1)] 117)).alloc (.cells #[.int .i64 0, .int .i64 0] 31)) := ((Below.refl _ w1).alloc (Nat.le_refl _) _).alloc (by simp) _
   have hCs : ((w1.alloc (.cells #[.int .i64 x.2.kind, .string (mkB x.2.name), .int .i64 x.2.line, .int .i64 x.2.col, .slice fa x.2.fields.length fc, .slice va x.2.values.length vc, .slice ma x.2.methods.length mc, .slice ia x.2.inner.length ic, .string (mkB x.1)] 117)).alloc (.cells #[.int .i64 0, .int .i64 0] 31)).heap.size = w1.heap.size + 2 := by simp
   go_upto_region 6 with fail
   generalize ((w1.alloc (.cells #[.int .i64 x.2.kind, .string (mkB x.2.name), .int .i64 x.2.line, .int .i64 x.2.col, .slice fa x.2.fields.length fc, .slice va x.2.values.length vc, .slice ma x.2.methods.length mc, .slice ia x.2.inner.length ic, .string (mkB x.1)] 117)).alloc (.cells #[.int .i64 0, .int .i64 0] 31)) = Y at *
   have HC0 := Lib.hid hC0
   have HC1 := Lib.hid hC1
   have hYs : w1.heap.size + 2 ≤ Y.heap.size := by omega
   have HBY := Lib.hid hCb
   have HBdY := Lib.hid (HBD.out.below (W := Y) hCb)
   have HKY : Hid (Kids f Y (Far Y B mv ev xv) (.slice fa x.2.fields.length fc) (.slice va x.2.values.length vc) (.slice ma x.2.methods.length mc) (.slice ia x.2.inner.length ic) x.2) := (HKD.out.old fun b hb => hCb.block b (by have hb' : b < w.heap.size := hb; omega)).more fun b hb => by
    have hb' : b < w.heap.size := hb
    exact ⟨by omega, by omega, fun e => by have := HMB.out b e; omega, fun e => by have := HEB.out b e; omega, fun e => by have := HXB.out b e; omega⟩
   have l0 := cell_at hC0 0 rfl
   have l1 := cell_at hC0 1 rfl
   have l2 := cell_at hC0 2 rfl
   have l3 := cell_at hC0 3 rfl
   have l4 := cell_at hC0 4 rfl
   have l5 := cell_at hC0 5 rfl
   have l6 := cell_at hC0 6 rfl
   have l7 := cell_at hC0 7 rfl
   have l8 := cell_at hC0 8 rfl
   clear hC0 hC1 hCb hCs e0 e1 e2 e3 e4 e5 e6 e7 e8 HKD
   by_cases hk : x.2.kind = 1
   ·have hcall := msgP_any f (B + 1) B mb _ mv ev xv TYS ps n ST mr er x fa va ma ia fc vc mc ic Y f HTY.out HXX.out.fl HXX.out.wl HXX.out.ft hb1 HBdY.out HKY.out
    rw [hk] at l0
    have HK := Lib.hid hk
    rw [hk] at hcall
    clear hk
    go_wp2_with fail
    refine hcall.mono ?_
    rintro e W3 ⟨l, c, b, rfl, h3B, h3s, h3o, hans⟩
    have HANS := Lib.hid hans
    have hne : ∀ b, w1.heap.size ≤ b → mv.ownBlock ≠ some b := fun b hb e => by have := HMB.out b e; omega
    have h3b : W3.heap[w1.heap.size + 1]? = some (.cells #[.int .i64 0, .int .i64 0] 31 (0, 0)) := (h3o _ (by omega) (by omega) (hne _ (by omega))).trans HC1.out
    have HLO : Hid (∀ b, b < B → W3.heap[b]? = U.heap[b]?) := fun b hb => (h3o b (by omega) (by omega) (fun e => by have := HMB.out b e; omega)).trans ((HBY.out.block b (by omega)).trans (HOT.out b hb))
    obtain ⟨Z, hZ, z8, zo, zs, zb⟩ := set2_all h3b (.int .i64 l) (.int .i64 c)
    have HZ := Lib.hid hZ
    have k0 := cell_at h3b 0 rfl
    have k1 := cell_at h3b 1 rfl
    have kf0 := frozen_at h3b 0
    have kf1 := frozen_at h3b 1
    have HZL : Hid (∀ b, b < B → Z.heap[b]? = U.heap[b]?) := fun b hb => (zo b (by omega)).trans (HLO.out b hb)
    have HZ8 := Lib.hid z8
    have HZB : Hid (Below B U Z) := ((HOTB.out.trans (HBY.out.mono (by omega))).trans h3B).trans (zb.mono (by omega))
    have hZs : W3.heap.size ≤ Z.heap.size := by omega
    have HZS : Hid (Z.heap.size = W3.heap.size) := zs
    have HZO := Lib.hid zo
    have H3B := Lib.hid h3b
    clear hans hcall hZ z8 zo zs zb h3b h3o hne l0 l1 l2 l3 l4 l5 l6 l7 l8
    cases b
    case true =>
     have HGS : Hid (typeGP f TYS ps n j = some (l, c)) := by
      refine (?_ : _ = _)
      rw [HG.out]; unfold typeXP
      rw [if_pos HK.out]
      rcases HANS.out with ⟨_, h⟩ | ⟨h, _⟩
      ·exact h
      ·cases h
     have z0 := cell_at HZ8.out 0 rfl
     have z1 := cell_at HZ8.out 1 rfl
     have hz4 : Z.heap[w.heap.size]? = some (.cells #[.slice none 0 0, .slice none 0 0, .slice none 0 0] 29 (0, 0)) := (HZL.out _ (by omega)).trans HU0.out
     have hz5 : Z.heap[w.heap.size + 1]? = some (.cells #[.int .i64 0, .int .i64 0] 31 (0, 0)) := (HZL.out _ (by omega)).trans HU1.out
     have m0 := cell_at hz4 0 rfl
     have m1 := cell_at hz4 1 rfl
     have m2 := cell_at hz4 2 rfl
     have mf0 := frozen_at hz4 0
     have mf1 := frozen_at hz4 1
     have mf2 := frozen_at hz4 2
     have p0 := cell_at hz5 0 rfl
     have p1 := cell_at hz5 1 rfl
     have pf0 := frozen_at hz5 0
     have pf1 := frozen_at hz5 1
     have HZ4 := Lib.hid hz4
     have HZ5 := Lib.hid hz5
     have HZW : Hid (Below w.heap.size w Z) := HUW.out.trans (HZB.out.mono (by omega))
     clear hz4 hz5
     go_upto_region 14 with fail
     rw [HZ.out]
     go_upto_region 15 with fail
     obtain ⟨A1, hA1, a8, ao, asz, ab⟩ := set3_all HZ4.out (.slice none 0 0) (.slice none 0 0) (.slice none 0 0)
     obtain ⟨A2, hA2, c8, co, cs, cb⟩ := set2_all ((ao _ (by omega)).trans HZ5.out) (.int .i64 l) (.int .i64 c)
     obtain ⟨B1, hB1, b8, bo, bs, bb⟩ := set2_all HZ5.out (.int .i64 l) (.int .i64 c)
     obtain ⟨B2, hB2, d8, do', ds', db⟩ := set3_all ((bo _ (by omega)).trans HZ4.out) (.slice none 0 0) (.slice none 0 0) (.slice none 0 0)
     have HA1 := Lib.hid hA1
     have HA2 := Lib.hid hA2
     have HB1' := Lib.hid hB1
     have HB2' := Lib.hid hB2
     have hA : A2.heap[w.heap.size]? = some (.cells #[.slice none 0 0, .slice none 0 0, .slice none 0 0] 29 (0, 0)) := (co _ (by omega)).trans a8
     have hBx : B2.heap[w.heap.size + 1]? = some (.cells #[.int .i64 l, .int .i64 c] 31 (0, 0)) := (do' _ (by omega)).trans b8
     have r0 := cell_at hA 0 rfl
     have r1 := cell_at hA 1 rfl
     have r2 := cell_at hA 2 rfl
     have r3 := cell_at c8 0 rfl
     have r4 := cell_at c8 1 rfl
     have s0 := cell_at d8 0 rfl
     have s1 := cell_at d8 1 rfl
     have s2 := cell_at d8 2 rfl
     have s3 := cell_at hBx 0 rfl
     have s4 := cell_at hBx 1 rfl
     have HAB : Hid (Below w.heap.size w A2) := HZW.out.trans (ab.trans (cb.mono (by omega)))
     have HBB : Hid (Below w.heap.size w B2) := HZW.out.trans ((bb.mono (by omega)).trans db)
     have HRS : Hid (RES = some (l, c)) := by
      refine (?_ : _ = _)
      rw [← HRES.out]; exact firstS_some HFS.out HGS.out (by omega)
     clear hA1 a8 ao asz ab hA2 c8 co cs cb hB1 b8 bo bs bb hB2 d8 do' ds' db hA hBx
     go_region
     all_goals
      first | rw [HA1.out, HA2.out] | rw [HB1'.out, HB2'.out]
      clear z0 z1 m0 m1 m2 mf0 mf1 mf2 p0 p1 pf0 pf1 k0 k1 kf0 kf1
      go_wp2_with fail
      first
       | (refine bodyPost_ret (v := .tuple #[.agg #[.slice none 0 0, .slice none 0 0, .slice none 0 0], .agg #[.int .i64 l, .int .i64 c], .bool true]) (by simp [results, Tryz.results28, go_sem, r0, r1, r2, r3, r4]) rfl ?_; exact ⟨_, _, _, _, _, _, _, _, _, _, _, _, rfl, HAB.out.drew, .inl ⟨rfl, HRS.out, rfl, rfl, rfl, rfl, rfl, rfl, rfl, rfl, rfl⟩⟩)
       | (refine bodyPost_ret (v := .tuple #[.agg #[.slice none 0 0, .slice none 0 0, .slice none 0 0], .agg #[.int .i64 l, .int .i64 c], .bool true]) (by simp [results, Tryz.results28, go_sem, s0, s1, s2, s3, s4]) rfl ?_; exact ⟨_, _, _, _, _, _, _, _, _, _, _, _, rfl, HBB.out.drew, .inl ⟨rfl, HRS.out, rfl, rfl, rfl, rfl, rfl, rfl, rfl, rfl, rfl⟩⟩)
    case false =>
     obtain ⟨-, hl, hc, hno, hmore⟩ := HANS.out.resolve_left (fun h => by cases h.1)
     subst hl hc
     have HGN : Hid (typeGP f TYS ps n j = none) := by
      refine (?_ : _ = _)
      rw [HG.out]; unfold typeXP
      rw [if_pos HK.out]
      exact hno
     have hall : ∀ b, Z.heap[b]? = W3.heap[b]? := fun b => by
      by_cases hbe : b = w1.heap.size + 1
      ·subst hbe; rw [HZ8.out, H3B.out]
      ·exact HZO.out b hbe
     obtain ⟨ys, mv', mr', hpm, hpw, hbd3⟩ := hmore
     have hys : ys = sortF (x.2.fields.map (fdP f TYS ps n x.1)) := sortF_one (by rw [List.map_map]; exact HXX.out.nd) hpm hpw
     have HBZ : Hid (Bd f (B + 1) Z B mb (.slice ta TYS.length tc) mv' ev xv TYS ps n (tabLP f TYS ps n (ps.take (j + 1))) mr' er) := by
      refine (?_ : Bd _ _ _ _ _ _ _ _ _ _ _ _ _ _ _)
      rw [HTN.out]; unfold tabSP; rw [if_pos HK.out, ← hys]
      exact hbd3.grow (by omega) fun b _ => hall b
     clear hpm hpw hbd3 hys
     clear hno hall
     go_wp2_with fail
     rw [HZ.out]
     try go_wp2_with fail
     go_roundw
     case rel => exact ⟨j + 1, _, _, _, _, _, by go_num, by omega, firstS_step HFS.out HGN.out, HBZ.out, HZB.out⟩
     case measure => simp [intOf]; omega
   by_cases hk2 : x.2.kind = 2
   ·have hcall := enmP_any f (B + 1) B mb _ mv ev xv TYS ps n ST mr er x fa va ma ia fc vc mc ic Y f HXX.out.vl HXX.out.vt hb2 HBdY.out HKY.out
    rw [hk2] at l0
    have HK := Lib.hid hk2
    rw [hk2] at hcall
    have HGN : Hid (typeGP f TYS ps n j = none) := by
     refine (?_ : _ = _)
     rw [HG.out]; unfold typeXP
     rw [if_neg hk, if_neg (by rw [HK.out]; decide)]
    have HKN := Lib.hid hk
    clear hk2 hk
    go_wp2_with fail
    refine hcall.mono ?_
    rintro e W3 ⟨rfl, h3B, h3s, h3o, ev', er', hbd3⟩
    have HBZ : Hid (Bd f (B + 1) W3 B mb (.slice ta TYS.length tc) mv ev' xv TYS ps n (tabLP f TYS ps n (ps.take (j + 1))) mr er') := by
     refine (?_ : Bd _ _ _ _ _ _ _ _ _ _ _ _ _ _ _)
     rw [HTN.out]; unfold tabSP; rw [if_neg HKN.out, if_pos HK.out]
     exact hbd3
    have HZB : Hid (Below B U W3) := (HOTB.out.trans (HBY.out.mono (by omega))).trans h3B
    clear hcall h3o hbd3 l0 l1 l2 l3 l4 l5 l6 l7 l8
    go_wp2_with fail
    go_roundw
    case rel => exact ⟨j + 1, _, _, _, _, _, by go_num, by omega, firstS_step HFS.out HGN.out, HBZ.out, HZB.out⟩
    case measure => simp [intOf]; omega
   by_cases hk3 : x.2.kind = 3
   ·have hk := hk3
    clear hk3
    have hcall := svP_any f (B + 1) B mb _ mv ev xv TYS ps n ST mr er x fa va ma ia fc vc mc ic Y f HTY.out HXX.out.ml HXX.out.nl HXX.out.mt hb3 HBdY.out HKY.out
    rw [hk] at l0
    have HK := Lib.hid hk
    rw [hk] at hcall
    clear hk
    go_wp2_with fail
    refine hcall.mono ?_
    rintro e W3 ⟨l, c, b, rfl, h3B, h3s, h3o, hans⟩
    have HANS := Lib.hid hans
    have hne : ∀ b, w1.heap.size ≤ b → xv.ownBlock ≠ some b := fun b hb e => by have := HXB.out b e; omega
    have h3b : W3.heap[w1.heap.size + 1]? = some (.cells #[.int .i64 0, .int .i64 0] 31 (0, 0)) := (h3o _ (by omega) (by omega) (hne _ (by omega))).trans HC1.out
    have HLO : Hid (∀ b, b < B → W3.heap[b]? = U.heap[b]?) := fun b hb => (h3o b (by omega) (by omega) (fun e => by have := HXB.out b e; omega)).trans ((HBY.out.block b (by omega)).trans (HOT.out b hb))
    obtain ⟨Z, hZ, z8, zo, zs, zb⟩ := set2_all h3b (.int .i64 l) (.int .i64 c)
    have HZ := Lib.hid hZ
    have k0 := cell_at h3b 0 rfl
    have k1 := cell_at h3b 1 rfl
    have kf0 := frozen_at h3b 0
    have kf1 := frozen_at h3b 1
    have HZL : Hid (∀ b, b < B → Z.heap[b]? = U.heap[b]?) := fun b hb => (zo b (by omega)).trans (HLO.out b hb)
    have HZ8 := Lib.hid z8
    have HZB : Hid (Below B U Z) := ((HOTB.out.trans (HBY.out.mono (by omega))).trans h3B).trans (zb.mono (by omega))
    have hZs : W3.heap.size ≤ Z.heap.size := by omega
    have HZS : Hid (Z.heap.size = W3.heap.size) := zs
    have HZO := Lib.hid zo
    have H3B := Lib.hid h3b
    clear hans hcall hZ z8 zo zs zb h3b h3o hne l0 l1 l2 l3 l4 l5 l6 l7 l8
    cases b
    case true =>
     have HGS : Hid (typeGP f TYS ps n j = some (l, c)) := by
      refine (?_ : _ = _)
      rw [HG.out]; unfold typeXP
      rw [if_neg (by rw [HK.out]; decide), if_pos HK.out]
      rcases HANS.out with ⟨_, h⟩ | ⟨h, _⟩
      ·exact h
      ·cases h
     have z0 := cell_at HZ8.out 0 rfl
     have z1 := cell_at HZ8.out 1 rfl
     have hz4 : Z.heap[w.heap.size]? = some (.cells #[.slice none 0 0, .slice none 0 0, .slice none 0 0] 29 (0, 0)) := (HZL.out _ (by omega)).trans HU0.out
     have hz5 : Z.heap[w.heap.size + 1]? = some (.cells #[.int .i64 0, .int .i64 0] 31 (0, 0)) := (HZL.out _ (by omega)).trans HU1.out
     have m0 := cell_at hz4 0 rfl
     have m1 := cell_at hz4 1 rfl
     have m2 := cell_at hz4 2 rfl
     have mf0 := frozen_at hz4 0
     have mf1 := frozen_at hz4 1
     have mf2 := frozen_at hz4 2
     have p0 := cell_at hz5 0 rfl
     have p1 := cell_at hz5 1 rfl
     have pf0 := frozen_at hz5 0
     have pf1 := frozen_at hz5 1
     have HZ4 := Lib.hid hz4
     have HZ5 := Lib.hid hz5
     have HZW : Hid (Below w.heap.size w Z) := HUW.out.trans (HZB.out.mono (by omega))
     clear hz4 hz5
     go_upto_region 14 with fail
     rw [HZ.out]
     go_upto_region 15 with fail
     obtain ⟨A1, hA1, a8, ao, asz, ab⟩ := set3_all HZ4.out (.slice none 0 0) (.slice none 0 0) (.slice none 0 0)
     obtain ⟨A2, hA2, c8, co, cs, cb⟩ := set2_all ((ao _ (by omega)).trans HZ5.out) (.int .i64 l) (.int .i64 c)
     obtain ⟨B1, hB1, b8, bo, bs, bb⟩ := set2_all HZ5.out (.int .i64 l) (.int .i64 c)
     obtain ⟨B2, hB2, d8, do', ds', db⟩ := set3_all ((bo _ (by omega)).trans HZ4.out) (.slice none 0 0) (.slice none 0 0) (.slice none 0 0)
     have HA1 := Lib.hid hA1
     have HA2 := Lib.hid hA2
     have HB1' := Lib.hid hB1
     have HB2' := Lib.hid hB2
     have hA : A2.heap[w.heap.size]? = some (.cells #[.slice none 0 0, .slice none 0 0, .slice none 0 0] 29 (0, 0)) := (co _ (by omega)).trans a8
     have hBx : B2.heap[w.heap.size + 1]? = some (.cells #[.int .i64 l, .int .i64 c] 31 (0, 0)) := (do' _ (by omega)).trans b8
     have r0 := cell_at hA 0 rfl
     have r1 := cell_at hA 1 rfl
     have r2 := cell_at hA 2 rfl
     have r3 := cell_at c8 0 rfl
     have r4 := cell_at c8 1 rfl
     have s0 := cell_at d8 0 rfl
     have s1 := cell_at d8 1 rfl
     have s2 := cell_at d8 2 rfl
     have s3 := cell_at hBx 0 rfl
     have s4 := cell_at hBx 1 rfl
     have HAB : Hid (Below w.heap.size w A2) := HZW.out.trans (ab.trans (cb.mono (by omega)))
     have HBB : Hid (Below w.heap.size w B2) := HZW.out.trans ((bb.mono (by omega)).trans db)
     have HRS : Hid (RES = some (l, c)) := by
      refine (?_ : _ = _)
      rw [← HRES.out]; exact firstS_some HFS.out HGS.out (by omega)
     clear hA1 a8 ao asz ab hA2 c8 co cs cb hB1 b8 bo bs bb hB2 d8 do' ds' db hA hBx
     go_region
     all_goals
      first | rw [HA1.out, HA2.out] | rw [HB1'.out, HB2'.out]
      clear z0 z1 m0 m1 m2 mf0 mf1 mf2 p0 p1 pf0 pf1 k0 k1 kf0 kf1
      go_wp2_with fail
      first
       | (refine bodyPost_ret (v := .tuple #[.agg #[.slice none 0 0, .slice none 0 0, .slice none 0 0], .agg #[.int .i64 l, .int .i64 c], .bool true]) (by simp [results, Tryz.results28, go_sem, r0, r1, r2, r3, r4]) rfl ?_; exact ⟨_, _, _, _, _, _, _, _, _, _, _, _, rfl, HAB.out.drew, .inl ⟨rfl, HRS.out, rfl, rfl, rfl, rfl, rfl, rfl, rfl, rfl, rfl⟩⟩)
       | (refine bodyPost_ret (v := .tuple #[.agg #[.slice none 0 0, .slice none 0 0, .slice none 0 0], .agg #[.int .i64 l, .int .i64 c], .bool true]) (by simp [results, Tryz.results28, go_sem, s0, s1, s2, s3, s4]) rfl ?_; exact ⟨_, _, _, _, _, _, _, _, _, _, _, _, rfl, HBB.out.drew, .inl ⟨rfl, HRS.out, rfl, rfl, rfl, rfl, rfl, rfl, rfl, rfl, rfl⟩⟩)
    case false =>
     obtain ⟨-, hl, hc, hno, hmore⟩ := HANS.out.resolve_left (fun h => by cases h.1)
     subst hl hc
     have HGN : Hid (typeGP f TYS ps n j = none) := by
      refine (?_ : _ = _)
      rw [HG.out]; unfold typeXP
      rw [if_neg (by rw [HK.out]; decide), if_pos HK.out]
      exact hno
     have hall : ∀ b, Z.heap[b]? = W3.heap[b]? := fun b => by
      by_cases hbe : b = w1.heap.size + 1
      ·subst hbe; rw [HZ8.out, H3B.out]
      ·exact HZO.out b hbe
     obtain ⟨xv', hbd3⟩ := hmore
     have HBZ : Hid (Bd f (B + 1) Z B mb (.slice ta TYS.length tc) mv ev xv' TYS ps n (tabLP f TYS ps n (ps.take (j + 1))) mr er) := by
      refine (?_ : Bd _ _ _ _ _ _ _ _ _ _ _ _ _ _ _)
      rw [HTN.out]; unfold tabSP; rw [if_neg (by rw [HK.out]; decide), if_neg (by rw [HK.out]; decide), if_pos HK.out]
      exact hbd3.grow (by omega) fun b _ => hall b
     clear hbd3
     clear hno hall
     go_wp2_with fail
     rw [HZ.out]
     try go_wp2_with fail
     go_roundw
     case rel => exact ⟨j + 1, _, _, _, _, _, by go_num, by omega, firstS_step HFS.out HGN.out, HBZ.out, HZB.out⟩
     case measure => simp [intOf]; omega
   ·have h1' : (x.2.kind == 1) = false := by simp [hk]
    have h2' : (x.2.kind == 2) = false := by simp [hk2]
    have h3' : (x.2.kind == 3) = false := by simp [hk3]
    have HGN : Hid (typeGP f TYS ps n j = none) := by
     refine (?_ : _ = _)
     rw [HG.out]; unfold typeXP
     rw [if_neg hk, if_neg hk3]
    have HBZ : Hid (Bd f (B + 1) Y B mb (.slice ta TYS.length tc) mv ev xv TYS ps n (tabLP f TYS ps n (ps.take (j + 1))) mr er) := by
     refine (?_ : Bd _ _ _ _ _ _ _ _ _ _ _ _ _ _ _)
     rw [HTN.out]; unfold tabSP; rw [if_neg hk, if_neg hk2, if_neg hk3]
     exact HBdY.out
    have HZB : Hid (Below B U Y) := HOTB.out.trans (HBY.out.mono (by omega))
    go_wp2_with fail
    go_roundw
    case rel => exact ⟨j + 1, _, _, _, _, _, by go_num, by omega, firstS_step HFS.out HGN.out, HBZ.out, HZB.out⟩
    case measure => simp [intOf]; omega
  ·have hjn' : ¬ (j : Int) < (n : Int) := by omega
   have hje : j = n := by omega
   have hte : ps.take j = ps := List.take_of_length_le (by have := HN.out; omega)
   rw [hte] at HBD
   obtain ⟨mva, mvc, hmv⟩ := own_slice HBD.out.ms.own
   obtain ⟨eva, evc, hev⟩ := own_slice HBD.out.es.own
   obtain ⟨xva, xvc, hxv⟩ := own_slice HBD.out.ts
   obtain ⟨MN, hMN⟩ : ∃ q, (tabLP f TYS ps n ps).ms.length = q := ⟨_, rfl⟩
   obtain ⟨EN, hEN⟩ : ∃ q, (tabLP f TYS ps n ps).es.length = q := ⟨_, rfl⟩
   obtain ⟨XN, hXN⟩ : ∃ q, (tabLP f TYS ps n ps).ts.length = q := ⟨_, rfl⟩
   rw [hMN] at hmv
   rw [hEN] at hev
   rw [hXN] at hxv
   subst hmv hev hxv
   have hcB := HBD.out.cells
   have hz4 : w1.heap[w.heap.size]? = some (.cells #[.slice none 0 0, .slice none 0 0, .slice none 0 0] 29 (0, 0)) := (HOT.out _ (by omega)).trans HU0.out
   have hz5 : w1.heap[w.heap.size + 1]? = some (.cells #[.int .i64 0, .int .i64 0] 31 (0, 0)) := (HOT.out _ (by omega)).trans HU1.out
   have b2 := cell_at hcB 2 rfl
   have b3 := cell_at hcB 3 rfl
   have b4 := cell_at hcB 4 rfl
   have m0 := cell_at hz4 0 rfl
   have m1 := cell_at hz4 1 rfl
   have m2 := cell_at hz4 2 rfl
   have mf0 := frozen_at hz4 0
   have mf1 := frozen_at hz4 1
   have mf2 := frozen_at hz4 2
   obtain ⟨A1, hA1, a8, ao, asz, ab⟩ := set3_all hz4 (.slice mva MN mvc) (.slice eva EN evc) (.slice xva XN xvc)
   have hA5 : A1.heap[w.heap.size + 1]? = some (.cells #[.int .i64 0, .int .i64 0] 31 (0, 0)) := (ao _ (by omega)).trans hz5
   have p0 := cell_at hz5 0 rfl
   have p1 := cell_at hz5 1 rfl
   have pf0 := frozen_at hz5 0
   have pf1 := frozen_at hz5 1
   obtain ⟨A2, hA2, c8, co, cs, cb⟩ := set2_all hA5 (.int .i64 0) (.int .i64 0)
   have hA : A2.heap[w.heap.size]? = _ := (co _ (by omega)).trans a8
   have r0 := cell_at hA 0 rfl
   have r1 := cell_at hA 1 rfl
   have r2 := cell_at hA 2 rfl
   have r3 := cell_at c8 0 rfl
   have r4 := cell_at c8 1 rfl
   have HA1 := Lib.hid hA1
   have HA2 := Lib.hid hA2
   have HAB : Hid (Below w.heap.size w A2) := (HUW.out.trans (HOTB.out.mono (by omega))).trans (ab.trans (cb.mono (by omega)))
   have hA2s : A2.heap.size = w1.heap.size := by omega
   have hsame : ∀ b, B + 1 ≤ b → A2.heap[b]? = w1.heap[b]? := fun b hb => (co b (by omega)).trans (ao b (by omega))
   have HSC : Hid (HeldSc A2 (fun b => w.heap.size ≤ b ∧ b < A2.heap.size) (.slice mva MN mvc) (.slice eva EN evc) (.slice xva XN xvc) (tabLP f TYS ps n ps)) := by
    refine (?_ : HeldSc _ _ _ _ _ _)
    have hbd := HBD.out
    refine ⟨?_, ?_, ?_⟩
    ·exact (HeldN.old (hbd.ms.held (K' := fun b => B + 1 ≤ b ∧ b < w1.heap.size) (fun b hb => ⟨hb.2, hb.1.1⟩) (fun b hb => own_block hbd.ms.own b hb)) (fun b hb => hsame b hb.1)).more fun b hb => ⟨by have := hb.1; omega, by have := hb.2; omega⟩
    ·exact (HeldN.old (hbd.es.held (K' := fun b => B + 1 ≤ b ∧ b < w1.heap.size) (fun b hb => ⟨hb.2, hb.1.1⟩) (fun b hb => own_block hbd.es.own b hb)) (fun b hb => hsame b hb.1)).more fun b hb => ⟨by have := hb.1; omega, by have := hb.2; omega⟩
    ·have ht : w1.ownsRow (B + 1) 45 5 (.slice xva XN xvc) (tabLP f TYS ps n ps).ts.length ((tabLP f TYS ps n ps).ts.flatMap tdrow) := hbd.ts
     exact ((rowsIn_own (row := tdrow) (fun _ => rfl) ht (fun b => B + 1 ≤ b ∧ b < w1.heap.size) (fun b hb => own_block ht b hb)).old (fun b hb => hsame b hb.1)).more fun b hb => ⟨by have := hb.1; omega, by have := hb.2; omega⟩
   have HRN : Hid (RES = none) := by
    refine (?_ : _ = _)
    have h := HFS.out; rw [hje] at h; exact HRES.out.symm.trans h
   clear hA1 a8 ao asz ab hA2 c8 co cs cb hA hA2s hsame hje hjn hte hz4 hz5 hcB hMN hEN hXN hA5
   go_wp2_with fail
   rw [HA1.out, HA2.out]
   try go_wp2_with fail
   refine bodyPost_ret (v := .tuple #[.agg #[.slice mva MN mvc, .slice eva EN evc, .slice xva XN xvc], .agg #[.int .i64 0, .int .i64 0], .bool false]) (by simp [results, Tryz.results28, go_sem, r0, r1, r2, r3, r4]) rfl ?_
   exact ⟨_, _, _, _, _, _, _, _, _, _, _, _, rfl, HAB.out, .inr ⟨rfl, HRN.out, rfl, rfl, HSC.out⟩⟩
end Go.Proofs.YtpojeinddnjpfaaGreatDoor
