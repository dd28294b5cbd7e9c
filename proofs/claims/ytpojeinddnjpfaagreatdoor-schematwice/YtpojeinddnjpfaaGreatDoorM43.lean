/-
  The walk over the program's Check.
-/
import Derived.Test.YtpojeinddnjpfaaGreatDoorM0
import Derived.Test.YtpojeinddnjpfaaGreatDoorM35
import Derived.Test.YtpojeinddnjpfaaGreatDoorM37
import Derived.Test.YtpojeinddnjpfaaGreatDoorM38
import Derived.Test.YtpojeinddnjpfaaGreatDoorM40
import Derived.Test.YtpojeinddnjpfaaGreatDoorM42
import Derived.Test.YtpojeinddnjpfaaGreatDoorM34
import Derived.Test.YtpojeinddnjpfaaGreatDoorM23
namespace Go.Proofs.YtpojeinddnjpfaaGreatDoor
set_option linter.unusedVariables false
open Go.ChangeShapes Go.WideShapes Go.ChangeAt Go.RowKit Go.Maps

theorem HeldP.up {k f : Nat} {w : World} {S : Nat → Prop} {v : Value} {ps : List Pl} (h : HeldP k f w S v ps) : HeldP k (f + 1) w S v ps := by
 obtain ⟨ad, c, hv, hc, h⟩ := h
 refine ⟨ad, c, hv, hc, h.imp id ?_⟩
 rintro ⟨g, o, ha, hg, h⟩
 refine ⟨g, o, ha, hg, fun j d hj => ?_⟩
 obtain ⟨fs, vs, ms, ins, h0, h1⟩ := h j d hj
 exact ⟨fs, vs, ms, ins, h0, h1.up⟩
theorem heldSc_nil (w : World) (S : Nat → Prop) : HeldSc w S (.slice none 0 0) (.slice none 0 0) (.slice none 0 0) ⟨[], [], []⟩ :=
 ⟨⟨none, 0, rfl, Nat.le_refl _, .inl rfl⟩, ⟨none, 0, rfl, Nat.le_refl _, .inl rfl⟩, ⟨none, 0, rfl, Nat.le_refl _, .inl rfl⟩⟩
def checkP (f : Nat) (ds : List Dc) (c : Option (Int × Int)) : SC × (Int × Int) × Int :=
 if fmL (f + 1) 0 ds = true then
  match firstS (longG (locL (f + 1) [] ds)) (locL (f + 1) [] ds).length with
  | some p => (⟨[], [], []⟩, p, 4)
  | none => match firstS (nameG (locL (f + 1) [] ds)) (locL (f + 1) [] ds).length with
   | some p => (⟨[], [], []⟩, p, 9)
   | none => match firstS (numG (locL (f + 1) [] ds)) (locL (f + 1) [] ds).length with
    | some p => (⟨[], [], []⟩, p, 11)
    | none => match firstS (typeGP f (noSvc ds) (locL (f + 1) [] ds) (locL (f + 1) [] ds).length) (locL (f + 1) [] ds).length with
     | some p => (⟨[], [], []⟩, p, 10)
     | none => match c with
      | some p => (⟨[], [], []⟩, p, 12)
      | none => (tabLP f (noSvc ds) (locL (f + 1) [] ds) (locL (f + 1) [] ds).length (locL (f + 1) [] ds), (0, 0), 0)
 else (⟨[], [], []⟩, (0, 0), 1)
structure CkFit (f : Nat) (ds : List Dc) : Prop where
 hn : (locL (f + 1) [] ds).length ≤ 100000
 nm : ∀ x ∈ locL (f + 1) [] ds, NameFit x.2 ∧ x.1.length ≤ 1000000000
 nu : ∀ x ∈ locL (f + 1) [] ds, NumFit x.2
 ms : msum (locL (f + 1) [] ds) ≤ 100000
 ty : firstS (nameG (locL (f + 1) [] ds)) (locL (f + 1) [] ds).length = none → TyFit f (noSvc ds)
 xf : firstS (numG (locL (f + 1) [] ds)) (locL (f + 1) [] ds).length = none → ∀ x ∈ locL (f + 1) [] ds, XFit x
 rg : firstS (nameG (locL (f + 1) [] ds)) (locL (f + 1) [] ds).length = none → firstS (numG (locL (f + 1) [] ds)) (locL (f + 1) [] ds).length = none → firstS (typeGP f (noSvc ds) (locL (f + 1) [] ds) (locL (f + 1) [] ds).length) (locL (f + 1) [] ds).length = none → RingFit (tabLP f (noSvc ds) (locL (f + 1) [] ds) (locL (f + 1) [] ds).length (locL (f + 1) [] ds)).ms
 ct : cntK 1 (locL (f + 1) [] ds) ≤ (tabLP f (noSvc ds) (locL (f + 1) [] ds) (locL (f + 1) [] ds).length (locL (f + 1) [] ds)).ms.length
def CkAns (P : SC × (Int × Int) × Int → Prop) (w : World) (e : Ending) (w' : World) : Prop := ∃ (aa ba ca : Option Addr) (an ac bn bc cn cc : Nat) (s : SC) (l p k : Int), e = .returned (.tuple #[.agg #[.slice aa an ac, .slice ba bn bc, .slice ca cn cc], .agg #[.int .i64 l, .int .i64 p], .int .i64 k]) ∧ Below w.heap.size w w' ∧ HeldSc w' (fun b => w.heap.size ≤ b ∧ b < w'.heap.size) (.slice aa an ac) (.slice ba bn bc) (.slice ca cn cc) s ∧ P (s, (l, p), k)
def CkP (f : Nat) (ds : List Dc) (r : SC × (Int × Int) × Int) : Prop := ∃ o, CycAt (tabLP f (noSvc ds) (locL (f + 1) [] ds) (locL (f + 1) [] ds).length (locL (f + 1) [] ds)).ms (locL (f + 1) [] ds) (locL (f + 1) [] ds).length o ∧ r = checkP f ds o
theorem box_pos {w : World} {B : Nat} {a b : Value} {T : TypeId} (h : w.heap[B]? = some (.cells #[a, b] T (0, 0))) : w.cell? ⟨B, 0, none⟩ = some a ∧ w.cell? ⟨B, 1, none⟩ = some b ∧ w.frozen? ⟨B, 0, none⟩ = false ∧ w.frozen? ⟨B, 1, none⟩ = false := by
 simp [World.cell?, World.frozen?, h]
theorem least_ex {P : Nat → Prop} (h : ∃ i, P i) : ∃ i, P i ∧ ∀ j, j < i → ¬ P j := by
 classical
 obtain ⟨n, hn⟩ := h
 induction n using Nat.strongRecOn with
 | ind n ih =>
  by_cases h' : ∃ j, j < n ∧ P j
  ·obtain ⟨j, hj, hp⟩ := h'
   exact ih j hj hp
  ·exact ⟨n, hn, fun j hj hp => h' ⟨j, hj, hp⟩⟩
theorem cyc_ex (ms : List MD) (ps : List Pl) : ∃ o, CycAt ms ps ps.length o := by
 classical
 by_cases h : ∃ i : Nat, ∃ x : Pl, ps[i]? = some x ∧ x.2.kind = 1 ∧ Ring ms (cntK 1 (ps.take i))
 ·obtain ⟨i, ⟨x, hx, hk, hr⟩, hm⟩ := least_ex h
  exact ⟨some (x.2.line, x.2.col), i, x, hx, hk, hr, rfl, fun j y hj hy hky hry => hm j hj ⟨y, hy, hky, hry⟩⟩
 ·exact ⟨none, fun i x _ hx hk hr => h ⟨i, x, hx, hk, hr⟩⟩
set_option maxHeartbeats 16000000 in
set_option maxRecDepth 20000 in
theorem checkP_any (f : Nat) (ds : List Dc) (v : Value) (w : World) (hf : FitD (f + 1) ds) (ht : TxtD (f + 1) ds) (hc : ctL (f + 1) ds ≤ 2000) (hk : fmL (f + 1) 0 ds = true → CkFit f ds) (hH : HeldD (f + 1) w (fun b => b < w.heap.size) v ds) :
  Calls Tryz.prog 10 #[v] w fun e w' => CkAns (CkP f ds) w e w' := by
 obtain ⟨dd, dc, rfl⟩ := hH.isSlD
 have HF := Lib.hid hf
 have HT := Lib.hid ht
 have HC := Lib.hid hc
 have HKF := Lib.hid hk
 have HH := Lib.hid hH
 have hV4 : ((w.alloc (.cells #[.slice none 0 0, .slice none 0 0, .slice none 0 0] 29)).alloc (.cells #[.int .i64 0, .int .i64 0] 31)).heap[w.heap.size]? = some (.cells #[.slice none 0 0, .slice none 0 0, .slice none 0 0] 29 (0, 0)) := by
  rw [alloc_heap_old _ _ _ (by simp)]; exact alloc_heap_new _ _
 have hV5 : ((w.alloc (.cells #[.slice none 0 0, .slice none 0 0, .slice none 0 0] 29)).alloc (.cells #[.int .i64 0, .int .i64 0] 31)).heap[w.heap.size + 1]? = some (.cells #[.int .i64 0, .int .i64 0] 31 (0, 0)) := by
  have := alloc_heap_new (w.alloc (.cells #[.slice none 0 0, .slice none 0 0, .slice none 0 0] 29)) (.cells #[.int .i64 0, .int .i64 0] 31)
  simpa using this
 have hVB : Below w.heap.size w ((w.alloc (.cells #[.slice none 0 0, .slice none 0 0, .slice none 0 0] 29)).alloc (.cells #[.int .i64 0, .int .i64 0] 31)) := ((Below.refl _ w).alloc (Nat.le_refl _) _).alloc (by simp) _
 have hVs : w.heap.size + 2 ≤ ((w.alloc (.cells #[.slice none 0 0, .slice none 0 0, .slice none 0 0] 29)).alloc (.cells #[.int .i64 0, .int .i64 0] 31)).heap.size := by simp
 have hCY := cyc_ex (tabLP f (noSvc ds) (locL (f + 1) [] ds) (locL (f + 1) [] ds).length (locL (f + 1) [] ds)).ms (locL (f + 1) [] ds)
 have HCY := Lib.hid hCY
 have HLD := Lib.hid hf.1
 clear hf ht hc hk hH hCY
 go_enter Tryz.func10, Tryz.ntmps10
 go_upto_region 1 with fail
 generalize ((w.alloc (.cells #[.slice none 0 0, .slice none 0 0, .slice none 0 0] 29)).alloc (.cells #[.int .i64 0, .int .i64 0] 31)) = V at *
 have hcall := formedP_any (f + 1) ds _ V HF.out HT.out ((HH.out.old (fun b hb => hVB.block b hb)).more fun b hb => by have hb' : b < w.heap.size := hb; omega)
 obtain ⟨FM, hFM⟩ : ∃ b, fmL (f + 1) 0 ds = b := ⟨_, rfl⟩
 rw [hFM] at hcall
 have HFM := Lib.hid hFM
 have HV4 := Lib.hid hV4
 have HV5 := Lib.hid hV5
 have HVB := Lib.hid hVB
 clear hV4 hV5 hVB hFM
 go_wp2_with fail
 refine hcall.mono ?_
 rintro e Y ⟨rfl, hbY⟩
 have hYs := hbY.size
 have hz4 : Y.heap[w.heap.size]? = some (.cells #[.slice none 0 0, .slice none 0 0, .slice none 0 0] 29 (0, 0)) := (hbY.block _ (by omega)).trans HV4.out
 have hz5 : Y.heap[w.heap.size + 1]? = some (.cells #[.int .i64 0, .int .i64 0] 31 (0, 0)) := (hbY.block _ (by omega)).trans HV5.out
 have HZW : Hid (Below w.heap.size w Y) := HVB.out.trans (hbY.mono (by omega))
 clear hcall hbY HV4 HV5 HVB
 cases FM
 case false =>
  have m0 := cell_at hz4 0 rfl
  have m1 := cell_at hz4 1 rfl
  have m2 := cell_at hz4 2 rfl
  have mf0 := frozen_at hz4 0
  have mf1 := frozen_at hz4 1
  have mf2 := frozen_at hz4 2
  have p0 := cell_at hz5 0 rfl
  have p1 := cell_at hz5 1 rfl
  have pf0 := frozen_at hz5 0
  have pf1 := frozen_at hz5 1
  obtain ⟨A1, hA1, a8, ao, asz, ab⟩ := set3_all hz4 (.slice none 0 0) (.slice none 0 0) (.slice none 0 0)
  obtain ⟨A2, hA2, c8, co, cs, cb⟩ := set2_all ((ao _ (by omega)).trans hz5) (.int .i64 0) (.int .i64 0)
  have hA : A2.heap[w.heap.size]? = some (.cells #[.slice none 0 0, .slice none 0 0, .slice none 0 0] 29 (0, 0)) := (co _ (by omega)).trans a8
  have r0 := cell_at hA 0 rfl
  have r1 := cell_at hA 1 rfl
  have r2 := cell_at hA 2 rfl
  have r3 := cell_at c8 0 rfl
  have r4 := cell_at c8 1 rfl
  have HA1 := Lib.hid hA1
  have HA2 := Lib.hid hA2
  have HAB : Hid (Below w.heap.size w A2) := HZW.out.trans (ab.trans (cb.mono (by omega)))
  clear hA1 a8 ao asz ab hA2 c8 co cs cb hA hz4 hz5
  have HP : Hid (CkP f ds (⟨[], [], []⟩, (0, 0), 1)) := by
   refine (?_ : CkP _ _ _)
   obtain ⟨o, ho⟩ := HCY.out
   refine ⟨o, ho, ?_⟩
   unfold checkP
   rw [if_neg (by rw [HFM.out]; decide)]
  go_wp2_with fail
  rw [HA1.out, HA2.out]
  try go_wp2_with fail
  refine bodyPost_ret (v := .tuple #[.agg #[.slice none 0 0, .slice none 0 0, .slice none 0 0], .agg #[.int .i64 0, .int .i64 0], .int .i64 1]) (by simp [results, Tryz.results10, go_sem, r0, r1, r2, r3, r4]) rfl ?_
  exact ⟨none, none, none, 0, 0, 0, 0, 0, 0, _, 0, 0, 1, rfl, HAB.out, heldSc_nil _ _, HP.out⟩
 case true =>
  have hFIT := HKF.out HFM.out
  have HFIT := Lib.hid hFIT
  have hcall := orderP_any f ds _ Y HF.out HT.out HC.out ((HH.out.old (fun b hb => HZW.out.block b hb)).more fun b hb => by have hb' : b < w.heap.size := hb; omega)
  obtain ⟨ps, hps⟩ : ∃ ps, locL (f + 1) [] ds = ps := ⟨_, rfl⟩
  rw [hps] at hcall
  have HPS := Lib.hid hps
  have HZ4 := Lib.hid hz4
  have HZ5 := Lib.hid hz5
  clear hps hFIT hz4 hz5
  go_wp2_with fail
  refine hcall.mono ?_
  rintro e W0 ⟨rv, rfl, hHP, hb0⟩
  obtain ⟨pa, pc, rfl⟩ := hHP.isSl
  have h0s := hb0.size
  have HHP := Lib.hid hHP
  have HZW0 : Hid (Below w.heap.size w W0) := HZW.out.trans (hb0.mono (by omega))
  have HZ40 : Hid (W0.heap[w.heap.size]? = some (.cells #[.slice none 0 0, .slice none 0 0, .slice none 0 0] 29 (0, 0))) := (hb0.block _ (by omega)).trans HZ4.out
  have HZ50 : Hid (W0.heap[w.heap.size + 1]? = some (.cells #[.int .i64 0, .int .i64 0] 31 (0, 0))) := (hb0.block _ (by omega)).trans HZ5.out
  clear hb0 hcall hHP HZ4 HZ5 HZW
  have hfit := HFIT.out
  obtain ⟨hn, hnm, hnu, hms, hty, hxf, hrg, hct⟩ := hfit
  rw [HPS.out] at hn hnm hnu hms hty hxf hrg hct
  have HNM := Lib.hid hnm
  have HNU := Lib.hid hnu
  have HTY := Lib.hid hty
  have HXF := Lib.hid hxf
  have HRG := Lib.hid hrg
  have HCT := Lib.hid hct
  clear hnm hnu hty hxf hrg hct
  have HHP0 := HHP
  clear HHP
  have hcall := longP_any f ps _ W0 hn (fun x hx => by have := (HNM.out x hx).1.1; omega) HHP0.out
  obtain ⟨R, hR⟩ : ∃ r, firstS (longG ps) ps.length = r := ⟨_, rfl⟩
  rw [hR] at hcall
  have HRR := Lib.hid hR
  clear hR
  go_wp2_with fail
  refine hcall.mono ?_
  rintro e W1 ⟨l, c, b, rfl, hbW, hans⟩
  have hWs := hbW.size
  have hbx : (W1.alloc (.cells #[.int .i64 l, .int .i64 c] 31)).heap[W1.heap.size]? = some (.cells #[.int .i64 l, .int .i64 c] 31 (0, 0)) := alloc_heap_new _ _
  have hx4 : (W1.alloc (.cells #[.int .i64 l, .int .i64 c] 31)).heap[w.heap.size]? = some (.cells #[.slice none 0 0, .slice none 0 0, .slice none 0 0] 29 (0, 0)) := (alloc_heap_old _ _ _ (by omega)).trans ((hbW.block _ (by omega)).trans HZ40.out)
  have hx5 : (W1.alloc (.cells #[.int .i64 l, .int .i64 c] 31)).heap[w.heap.size + 1]? = some (.cells #[.int .i64 0, .int .i64 0] 31 (0, 0)) := (alloc_heap_old _ _ _ (by omega)).trans ((hbW.block _ (by omega)).trans HZ50.out)
  have hBZ : Below W0.heap.size W0 (W1.alloc (.cells #[.int .i64 l, .int .i64 c] 31)) := hbW.alloc hWs _
  obtain ⟨Z1, hZ⟩ : ∃ Z, W1.alloc (.cells #[.int .i64 l, .int .i64 c] 31) = Z := ⟨_, rfl⟩
  rw [hZ] at hbx hx4 hx5 hBZ
  have HZ := Lib.hid hZ
  have HZ41 := Lib.hid hx4
  have HZ51 := Lib.hid hx5
  have HZW1 : Hid (Below w.heap.size w Z1) := HZW0.out.trans (hBZ.mono (by omega))
  have hZs1 : W0.heap.size ≤ Z1.heap.size := hBZ.size
  have HBZ := Lib.hid hBZ
  have z0 : Z1.cell? ⟨W1.heap.size, 0, none⟩ = some (.int .i64 l) := (box_pos hbx).1
  have z1 : Z1.cell? ⟨W1.heap.size, 1, none⟩ = some (.int .i64 c) := (box_pos hbx).2.1
  have HANS := Lib.hid hans
  clear hbx hx4 hx5 hZ hBZ hbW hans hcall
  go_upto_region 5 with fail
  rw [HZ.out]
  cases b
  case true =>
   have HRS : Hid (firstS (longG ps) ps.length = some (l, c)) := by
    refine (?_ : _ = _)
    rw [HRR.out]
    rcases HANS.out with ⟨_, h, _⟩ | ⟨_, h⟩
    ·cases h
    ·exact h
   have hz4 := HZ41.out
   have hz5 := HZ51.out
   have HZW := HZW1
   have m0 := cell_at hz4 0 rfl
   have m1 := cell_at hz4 1 rfl
   have m2 := cell_at hz4 2 rfl
   have mf0 := frozen_at hz4 0
   have mf1 := frozen_at hz4 1
   have mf2 := frozen_at hz4 2
   have p0 := cell_at hz5 0 rfl
   have p1 := cell_at hz5 1 rfl
   have pf0 := frozen_at hz5 0
   have pf1 := frozen_at hz5 1
   have HZ4 := Lib.hid hz4
   have HZ5 := Lib.hid hz5
   clear hz4 hz5
   go_upto_region 6 with fail
   obtain ⟨A1, hA1, a8, ao, asz, ab⟩ := set3_all HZ4.out (.slice none 0 0) (.slice none 0 0) (.slice none 0 0)
   obtain ⟨A2, hA2, c8, co, cs, cb⟩ := set2_all ((ao _ (by omega)).trans HZ5.out) (.int .i64 l) (.int .i64 c)
   obtain ⟨B1, hB1, b8, bo, bs, bb⟩ := set2_all HZ5.out (.int .i64 l) (.int .i64 c)
   obtain ⟨B2, hB2, d8, do', ds', db⟩ := set3_all ((bo _ (by omega)).trans HZ4.out) (.slice none 0 0) (.slice none 0 0) (.slice none 0 0)
   have HA1 := Lib.hid hA1
   have HA2 := Lib.hid hA2
   have HB1' := Lib.hid hB1
   have HB2' := Lib.hid hB2
   have hA : A2.heap[w.heap.size]? = some (.cells #[.slice none 0 0, .slice none 0 0, .slice none 0 0] 29 (0, 0)) := (co _ (by omega)).trans a8
   have hBx : B2.heap[w.heap.size + 1]? = some (.cells #[.int .i64 l, .int .i64 c] 31 (0, 0)) := (do' _ (by omega)).trans b8
   have r0 := cell_at hA 0 rfl
   have r1 := cell_at hA 1 rfl
   have r2 := cell_at hA 2 rfl
   have r3 := cell_at c8 0 rfl
   have r4 := cell_at c8 1 rfl
   have s0 := cell_at d8 0 rfl
   have s1 := cell_at d8 1 rfl
   have s2 := cell_at d8 2 rfl
   have s3 := cell_at hBx 0 rfl
   have s4 := cell_at hBx 1 rfl
   have HAB : Hid (Below w.heap.size w A2) := HZW.out.trans (ab.trans (cb.mono (by omega)))
   have HBB : Hid (Below w.heap.size w B2) := HZW.out.trans ((bb.mono (by omega)).trans db)
   clear hA1 a8 ao asz ab hA2 c8 co cs cb hB1 b8 bo bs bb hB2 d8 do' ds' db hA hBx
   have HP : Hid (CkP f ds (⟨[], [], []⟩, (l, c), 4)) := by
    refine (?_ : CkP _ _ _)
    obtain ⟨o, ho⟩ := HCY.out
    refine ⟨o, ho, ?_⟩
    unfold checkP
    rw [if_pos HFM.out, HPS.out]
    have hs := HRS.out
    simp only [hs]
   go_region
   all_goals
    first | rw [HA1.out, HA2.out] | rw [HB1'.out, HB2'.out]
    clear z0 z1 m0 m1 m2 mf0 mf1 mf2 p0 p1 pf0 pf1
    go_wp2_with fail
    first
     | (refine bodyPost_ret (v := .tuple #[.agg #[.slice none 0 0, .slice none 0 0, .slice none 0 0], .agg #[.int .i64 l, .int .i64 c], .int .i64 4]) (by simp [results, Tryz.results10, go_sem, r0, r1, r2, r3, r4]) rfl ?_; exact ⟨none, none, none, 0, 0, 0, 0, 0, 0, _, l, c, 4, rfl, HAB.out.drew, heldSc_nil _ _, HP.out⟩)
     | (refine bodyPost_ret (v := .tuple #[.agg #[.slice none 0 0, .slice none 0 0, .slice none 0 0], .agg #[.int .i64 l, .int .i64 c], .int .i64 4]) (by simp [results, Tryz.results10, go_sem, s0, s1, s2, s3, s4]) rfl ?_; exact ⟨none, none, none, 0, 0, 0, 0, 0, 0, _, l, c, 4, rfl, HBB.out.drew, heldSc_nil _ _, HP.out⟩)
  obtain ⟨hR, -, hl, hc⟩ := HANS.out.resolve_right (fun h => by cases h.1)
  subst hl hc
  have HR1 : Hid (firstS (longG ps) ps.length = none) := HRR.out.trans hR
  have HHP1 : Hid (HeldP 9 f Z1 (fun b => b < Z1.heap.size) (.slice pa ps.length pc) ps) := (HHP0.out.old (fun b hb => HBZ.out.block b hb)).more fun b hb => by have hb' : b < W0.heap.size := hb; omega
  clear hR HANS HRR HBZ HZ HZ40 HZ50 HZW0 HHP0 z0 z1
  have hcall := wrongNameP_any f ps _ Z1 hn HNM.out HHP1.out.up
  obtain ⟨R, hR⟩ : ∃ r, firstS (nameG ps) ps.length = r := ⟨_, rfl⟩
  rw [hR] at hcall
  have HRR := Lib.hid hR
  clear hR
  go_wp2_with fail
  refine hcall.mono ?_
  rintro e W2 ⟨l, c, b, rfl, hbW, hans⟩
  have hWs := hbW.size
  have hbx : (W2.alloc (.cells #[.int .i64 l, .int .i64 c] 31)).heap[W2.heap.size]? = some (.cells #[.int .i64 l, .int .i64 c] 31 (0, 0)) := alloc_heap_new _ _
  have hx4 : (W2.alloc (.cells #[.int .i64 l, .int .i64 c] 31)).heap[w.heap.size]? = some (.cells #[.slice none 0 0, .slice none 0 0, .slice none 0 0] 29 (0, 0)) := (alloc_heap_old _ _ _ (by omega)).trans ((hbW.block _ (by omega)).trans HZ41.out)
  have hx5 : (W2.alloc (.cells #[.int .i64 l, .int .i64 c] 31)).heap[w.heap.size + 1]? = some (.cells #[.int .i64 0, .int .i64 0] 31 (0, 0)) := (alloc_heap_old _ _ _ (by omega)).trans ((hbW.block _ (by omega)).trans HZ51.out)
  have hBZ : Below Z1.heap.size Z1 (W2.alloc (.cells #[.int .i64 l, .int .i64 c] 31)) := hbW.alloc hWs _
  obtain ⟨Z2, hZ⟩ : ∃ Z, W2.alloc (.cells #[.int .i64 l, .int .i64 c] 31) = Z := ⟨_, rfl⟩
  rw [hZ] at hbx hx4 hx5 hBZ
  have HZ := Lib.hid hZ
  have HZ42 := Lib.hid hx4
  have HZ52 := Lib.hid hx5
  have HZW2 : Hid (Below w.heap.size w Z2) := HZW1.out.trans (hBZ.mono (by omega))
  have hZs2 : Z1.heap.size ≤ Z2.heap.size := hBZ.size
  have HBZ := Lib.hid hBZ
  have z0 : Z2.cell? ⟨W2.heap.size, 0, none⟩ = some (.int .i64 l) := (box_pos hbx).1
  have z1 : Z2.cell? ⟨W2.heap.size, 1, none⟩ = some (.int .i64 c) := (box_pos hbx).2.1
  have HANS := Lib.hid hans
  clear hbx hx4 hx5 hZ hBZ hbW hans hcall
  go_upto_region 8 with fail
  rw [HZ.out]
  cases b
  case true =>
   have HRS : Hid (firstS (nameG ps) ps.length = some (l, c)) := by
    refine (?_ : _ = _)
    rw [HRR.out]
    rcases HANS.out with ⟨_, h, _⟩ | ⟨_, h⟩
    ·cases h
    ·exact h
   have hz4 := HZ42.out
   have hz5 := HZ52.out
   have HZW := HZW2
   have m0 := cell_at hz4 0 rfl
   have m1 := cell_at hz4 1 rfl
   have m2 := cell_at hz4 2 rfl
   have mf0 := frozen_at hz4 0
   have mf1 := frozen_at hz4 1
   have mf2 := frozen_at hz4 2
   have p0 := cell_at hz5 0 rfl
   have p1 := cell_at hz5 1 rfl
   have pf0 := frozen_at hz5 0
   have pf1 := frozen_at hz5 1
   have HZ4 := Lib.hid hz4
   have HZ5 := Lib.hid hz5
   clear hz4 hz5
   go_upto_region 9 with fail
   obtain ⟨A1, hA1, a8, ao, asz, ab⟩ := set3_all HZ4.out (.slice none 0 0) (.slice none 0 0) (.slice none 0 0)
   obtain ⟨A2, hA2, c8, co, cs, cb⟩ := set2_all ((ao _ (by omega)).trans HZ5.out) (.int .i64 l) (.int .i64 c)
   obtain ⟨B1, hB1, b8, bo, bs, bb⟩ := set2_all HZ5.out (.int .i64 l) (.int .i64 c)
   obtain ⟨B2, hB2, d8, do', ds', db⟩ := set3_all ((bo _ (by omega)).trans HZ4.out) (.slice none 0 0) (.slice none 0 0) (.slice none 0 0)
   have HA1 := Lib.hid hA1
   have HA2 := Lib.hid hA2
   have HB1' := Lib.hid hB1
   have HB2' := Lib.hid hB2
   have hA : A2.heap[w.heap.size]? = some (.cells #[.slice none 0 0, .slice none 0 0, .slice none 0 0] 29 (0, 0)) := (co _ (by omega)).trans a8
   have hBx : B2.heap[w.heap.size + 1]? = some (.cells #[.int .i64 l, .int .i64 c] 31 (0, 0)) := (do' _ (by omega)).trans b8
   have r0 := cell_at hA 0 rfl
   have r1 := cell_at hA 1 rfl
   have r2 := cell_at hA 2 rfl
   have r3 := cell_at c8 0 rfl
   have r4 := cell_at c8 1 rfl
   have s0 := cell_at d8 0 rfl
   have s1 := cell_at d8 1 rfl
   have s2 := cell_at d8 2 rfl
   have s3 := cell_at hBx 0 rfl
   have s4 := cell_at hBx 1 rfl
   have HAB : Hid (Below w.heap.size w A2) := HZW.out.trans (ab.trans (cb.mono (by omega)))
   have HBB : Hid (Below w.heap.size w B2) := HZW.out.trans ((bb.mono (by omega)).trans db)
   clear hA1 a8 ao asz ab hA2 c8 co cs cb hB1 b8 bo bs bb hB2 d8 do' ds' db hA hBx
   have HP : Hid (CkP f ds (⟨[], [], []⟩, (l, c), 9)) := by
    refine (?_ : CkP _ _ _)
    obtain ⟨o, ho⟩ := HCY.out
    refine ⟨o, ho, ?_⟩
    unfold checkP
    rw [if_pos HFM.out, HPS.out]
    have hs := HRS.out
    simp only [HR1.out, hs]
   go_region
   all_goals
    first | rw [HA1.out, HA2.out] | rw [HB1'.out, HB2'.out]
    clear z0 z1 m0 m1 m2 mf0 mf1 mf2 p0 p1 pf0 pf1
    go_wp2_with fail
    first
     | (refine bodyPost_ret (v := .tuple #[.agg #[.slice none 0 0, .slice none 0 0, .slice none 0 0], .agg #[.int .i64 l, .int .i64 c], .int .i64 9]) (by simp [results, Tryz.results10, go_sem, r0, r1, r2, r3, r4]) rfl ?_; exact ⟨none, none, none, 0, 0, 0, 0, 0, 0, _, l, c, 9, rfl, HAB.out.drew, heldSc_nil _ _, HP.out⟩)
     | (refine bodyPost_ret (v := .tuple #[.agg #[.slice none 0 0, .slice none 0 0, .slice none 0 0], .agg #[.int .i64 l, .int .i64 c], .int .i64 9]) (by simp [results, Tryz.results10, go_sem, s0, s1, s2, s3, s4]) rfl ?_; exact ⟨none, none, none, 0, 0, 0, 0, 0, 0, _, l, c, 9, rfl, HBB.out.drew, heldSc_nil _ _, HP.out⟩)
  obtain ⟨hR, -, hl, hc⟩ := HANS.out.resolve_right (fun h => by cases h.1)
  subst hl hc
  have HR2 : Hid (firstS (nameG ps) ps.length = none) := HRR.out.trans hR
  have HHP2 : Hid (HeldP 9 f Z2 (fun b => b < Z2.heap.size) (.slice pa ps.length pc) ps) := (HHP1.out.old (fun b hb => HBZ.out.block b hb)).more fun b hb => by have hb' : b < Z1.heap.size := hb; omega
  clear hR HANS HRR HBZ HZ HZ41 HZ51 HZW1 HHP1 z0 z1
  have hcall := numP_any f ps _ Z2 hn HNU.out HHP2.out
  obtain ⟨R, hR⟩ : ∃ r, firstS (numG ps) ps.length = r := ⟨_, rfl⟩
  rw [hR] at hcall
  have HRR := Lib.hid hR
  clear hR
  go_wp2_with fail
  refine hcall.mono ?_
  rintro e W3 ⟨l, c, b, rfl, hbW, hans⟩
  have hWs := hbW.size
  have hbx : (W3.alloc (.cells #[.int .i64 l, .int .i64 c] 31)).heap[W3.heap.size]? = some (.cells #[.int .i64 l, .int .i64 c] 31 (0, 0)) := alloc_heap_new _ _
  have hx4 : (W3.alloc (.cells #[.int .i64 l, .int .i64 c] 31)).heap[w.heap.size]? = some (.cells #[.slice none 0 0, .slice none 0 0, .slice none 0 0] 29 (0, 0)) := (alloc_heap_old _ _ _ (by omega)).trans ((hbW.block _ (by omega)).trans HZ42.out)
  have hx5 : (W3.alloc (.cells #[.int .i64 l, .int .i64 c] 31)).heap[w.heap.size + 1]? = some (.cells #[.int .i64 0, .int .i64 0] 31 (0, 0)) := (alloc_heap_old _ _ _ (by omega)).trans ((hbW.block _ (by omega)).trans HZ52.out)
  have hBZ : Below Z2.heap.size Z2 (W3.alloc (.cells #[.int .i64 l, .int .i64 c] 31)) := hbW.alloc hWs _
  obtain ⟨Z3, hZ⟩ : ∃ Z, W3.alloc (.cells #[.int .i64 l, .int .i64 c] 31) = Z := ⟨_, rfl⟩
  rw [hZ] at hbx hx4 hx5 hBZ
  have HZ := Lib.hid hZ
  have HZ43 := Lib.hid hx4
  have HZ53 := Lib.hid hx5
  have HZW3 : Hid (Below w.heap.size w Z3) := HZW2.out.trans (hBZ.mono (by omega))
  have hZs3 : Z2.heap.size ≤ Z3.heap.size := hBZ.size
  have HBZ := Lib.hid hBZ
  have z0 : Z3.cell? ⟨W3.heap.size, 0, none⟩ = some (.int .i64 l) := (box_pos hbx).1
  have z1 : Z3.cell? ⟨W3.heap.size, 1, none⟩ = some (.int .i64 c) := (box_pos hbx).2.1
  have HANS := Lib.hid hans
  clear hbx hx4 hx5 hZ hBZ hbW hans hcall
  go_upto_region 11 with fail
  rw [HZ.out]
  cases b
  case true =>
   have HRS : Hid (firstS (numG ps) ps.length = some (l, c)) := by
    refine (?_ : _ = _)
    rw [HRR.out]
    rcases HANS.out with ⟨_, h, _⟩ | ⟨_, h⟩
    ·cases h
    ·exact h
   have hz4 := HZ43.out
   have hz5 := HZ53.out
   have HZW := HZW3
   have m0 := cell_at hz4 0 rfl
   have m1 := cell_at hz4 1 rfl
   have m2 := cell_at hz4 2 rfl
   have mf0 := frozen_at hz4 0
   have mf1 := frozen_at hz4 1
   have mf2 := frozen_at hz4 2
   have p0 := cell_at hz5 0 rfl
   have p1 := cell_at hz5 1 rfl
   have pf0 := frozen_at hz5 0
   have pf1 := frozen_at hz5 1
   have HZ4 := Lib.hid hz4
   have HZ5 := Lib.hid hz5
   clear hz4 hz5
   go_upto_region 12 with fail
   obtain ⟨A1, hA1, a8, ao, asz, ab⟩ := set3_all HZ4.out (.slice none 0 0) (.slice none 0 0) (.slice none 0 0)
   obtain ⟨A2, hA2, c8, co, cs, cb⟩ := set2_all ((ao _ (by omega)).trans HZ5.out) (.int .i64 l) (.int .i64 c)
   obtain ⟨B1, hB1, b8, bo, bs, bb⟩ := set2_all HZ5.out (.int .i64 l) (.int .i64 c)
   obtain ⟨B2, hB2, d8, do', ds', db⟩ := set3_all ((bo _ (by omega)).trans HZ4.out) (.slice none 0 0) (.slice none 0 0) (.slice none 0 0)
   have HA1 := Lib.hid hA1
   have HA2 := Lib.hid hA2
   have HB1' := Lib.hid hB1
   have HB2' := Lib.hid hB2
   have hA : A2.heap[w.heap.size]? = some (.cells #[.slice none 0 0, .slice none 0 0, .slice none 0 0] 29 (0, 0)) := (co _ (by omega)).trans a8
   have hBx : B2.heap[w.heap.size + 1]? = some (.cells #[.int .i64 l, .int .i64 c] 31 (0, 0)) := (do' _ (by omega)).trans b8
   have r0 := cell_at hA 0 rfl
   have r1 := cell_at hA 1 rfl
   have r2 := cell_at hA 2 rfl
   have r3 := cell_at c8 0 rfl
   have r4 := cell_at c8 1 rfl
   have s0 := cell_at d8 0 rfl
   have s1 := cell_at d8 1 rfl
   have s2 := cell_at d8 2 rfl
   have s3 := cell_at hBx 0 rfl
   have s4 := cell_at hBx 1 rfl
   have HAB : Hid (Below w.heap.size w A2) := HZW.out.trans (ab.trans (cb.mono (by omega)))
   have HBB : Hid (Below w.heap.size w B2) := HZW.out.trans ((bb.mono (by omega)).trans db)
   clear hA1 a8 ao asz ab hA2 c8 co cs cb hB1 b8 bo bs bb hB2 d8 do' ds' db hA hBx
   have HP : Hid (CkP f ds (⟨[], [], []⟩, (l, c), 11)) := by
    refine (?_ : CkP _ _ _)
    obtain ⟨o, ho⟩ := HCY.out
    refine ⟨o, ho, ?_⟩
    unfold checkP
    rw [if_pos HFM.out, HPS.out]
    have hs := HRS.out
    simp only [HR1.out, HR2.out, hs]
   go_region
   all_goals
    first | rw [HA1.out, HA2.out] | rw [HB1'.out, HB2'.out]
    clear z0 z1 m0 m1 m2 mf0 mf1 mf2 p0 p1 pf0 pf1
    go_wp2_with fail
    first
     | (refine bodyPost_ret (v := .tuple #[.agg #[.slice none 0 0, .slice none 0 0, .slice none 0 0], .agg #[.int .i64 l, .int .i64 c], .int .i64 11]) (by simp [results, Tryz.results10, go_sem, r0, r1, r2, r3, r4]) rfl ?_; exact ⟨none, none, none, 0, 0, 0, 0, 0, 0, _, l, c, 11, rfl, HAB.out.drew, heldSc_nil _ _, HP.out⟩)
     | (refine bodyPost_ret (v := .tuple #[.agg #[.slice none 0 0, .slice none 0 0, .slice none 0 0], .agg #[.int .i64 l, .int .i64 c], .int .i64 11]) (by simp [results, Tryz.results10, go_sem, s0, s1, s2, s3, s4]) rfl ?_; exact ⟨none, none, none, 0, 0, 0, 0, 0, 0, _, l, c, 11, rfl, HBB.out.drew, heldSc_nil _ _, HP.out⟩)
  obtain ⟨hR, -, hl, hc⟩ := HANS.out.resolve_right (fun h => by cases h.1)
  subst hl hc
  have HR3 : Hid (firstS (numG ps) ps.length = none) := HRR.out.trans hR
  have HHP3 : Hid (HeldP 9 f Z3 (fun b => b < Z3.heap.size) (.slice pa ps.length pc) ps) := (HHP2.out.old (fun b hb => HBZ.out.block b hb)).more fun b hb => by have hb' : b < Z2.heap.size := hb; omega
  clear hR HANS HRR HBZ HZ HZ42 HZ52 HZW2 HHP2 z0 z1
  have hcall := tabP_any f ds (.slice dd ds.length dc) ps _ Z3 hn HLD.out hms (HTY.out HR2.out) (HXF.out HR3.out) ((HH.out.old (fun b hb => HZW3.out.block b hb)).more fun b hb => by have hb' : b < w.heap.size := hb; omega) HHP3.out
  obtain ⟨R, hR⟩ : ∃ r, firstS (typeGP f (noSvc ds) ps ps.length) ps.length = r := ⟨_, rfl⟩
  obtain ⟨TB, hTB⟩ : ∃ r, tabLP f (noSvc ds) ps ps.length ps = r := ⟨_, rfl⟩
  rw [hR, hTB] at hcall
  have HRR := Lib.hid hR
  have HTB := Lib.hid hTB
  clear hR hTB
  go_wp2_with fail
  refine hcall.mono ?_
  rintro e W4 ⟨aa, ba, ca, an, ac, bn, bc, cn, cc, l, c, b, rfl, hbW, hans⟩
  have hWs := hbW.size
  have hbx : ((W4.alloc (.cells #[.slice aa an ac, .slice ba bn bc, .slice ca cn cc] 29)).alloc (.cells #[.int .i64 l, .int .i64 c] 31)).heap[W4.heap.size + 1]? = some (.cells #[.int .i64 l, .int .i64 c] 31 (0, 0)) := by
   have := alloc_heap_new (W4.alloc (.cells #[.slice aa an ac, .slice ba bn bc, .slice ca cn cc] 29)) (.cells #[.int .i64 l, .int .i64 c] 31)
   simpa using this
  have hbs : ((W4.alloc (.cells #[.slice aa an ac, .slice ba bn bc, .slice ca cn cc] 29)).alloc (.cells #[.int .i64 l, .int .i64 c] 31)).heap[W4.heap.size]? = some (.cells #[.slice aa an ac, .slice ba bn bc, .slice ca cn cc] 29 (0, 0)) := (alloc_heap_old _ _ _ (by simp)).trans (alloc_heap_new _ _)
  have hxo : ∀ b, b < W4.heap.size → ((W4.alloc (.cells #[.slice aa an ac, .slice ba bn bc, .slice ca cn cc] 29)).alloc (.cells #[.int .i64 l, .int .i64 c] 31)).heap[b]? = W4.heap[b]? := fun b hb => (alloc_heap_old _ _ _ (by simp; omega)).trans (alloc_heap_old _ _ _ hb)
  have hx4 : ((W4.alloc (.cells #[.slice aa an ac, .slice ba bn bc, .slice ca cn cc] 29)).alloc (.cells #[.int .i64 l, .int .i64 c] 31)).heap[w.heap.size]? = some (.cells #[.slice none 0 0, .slice none 0 0, .slice none 0 0] 29 (0, 0)) := (hxo _ (by omega)).trans ((hbW.block _ (by omega)).trans HZ43.out)
  have hx5 : ((W4.alloc (.cells #[.slice aa an ac, .slice ba bn bc, .slice ca cn cc] 29)).alloc (.cells #[.int .i64 l, .int .i64 c] 31)).heap[w.heap.size + 1]? = some (.cells #[.int .i64 0, .int .i64 0] 31 (0, 0)) := (hxo _ (by omega)).trans ((hbW.block _ (by omega)).trans HZ53.out)
  have hBZ : Below Z3.heap.size Z3 ((W4.alloc (.cells #[.slice aa an ac, .slice ba bn bc, .slice ca cn cc] 29)).alloc (.cells #[.int .i64 l, .int .i64 c] 31)) := (hbW.alloc hWs _).alloc (by simp; omega) _
  have hZsz : W4.heap.size + 2 ≤ ((W4.alloc (.cells #[.slice aa an ac, .slice ba bn bc, .slice ca cn cc] 29)).alloc (.cells #[.int .i64 l, .int .i64 c] 31)).heap.size := by simp
  obtain ⟨Z4, hZ⟩ : ∃ Z, ((W4.alloc (.cells #[.slice aa an ac, .slice ba bn bc, .slice ca cn cc] 29)).alloc (.cells #[.int .i64 l, .int .i64 c] 31)) = Z := ⟨_, rfl⟩
  rw [hZ] at hbx hbs hxo hx4 hx5 hBZ hZsz
  have HZ := Lib.hid hZ
  have HZ44 := Lib.hid hx4
  have HZ54 := Lib.hid hx5
  have HZW4 : Hid (Below w.heap.size w Z4) := HZW3.out.trans (hBZ.mono (by omega))
  have HBZ := Lib.hid hBZ
  have HXO := Lib.hid hxo
  have HBS := Lib.hid hbs
  have z0 : Z4.cell? ⟨W4.heap.size + 1, 0, none⟩ = some (.int .i64 l) := (box_pos hbx).1
  have z1 : Z4.cell? ⟨W4.heap.size + 1, 1, none⟩ = some (.int .i64 c) := (box_pos hbx).2.1
  have HANS := Lib.hid hans
  clear hbx hbs hxo hx4 hx5 hZ hBZ hbW hans hcall
  go_upto_region 14 with fail
  rw [HZ.out]
  cases b
  case true =>
   obtain ⟨hRS, -⟩ : firstS (typeGP f (noSvc ds) ps ps.length) ps.length = some (l, c) ∧ True := by
    refine ⟨?_, trivial⟩
    rw [HRR.out]
    rcases HANS.out with ⟨_, h, _⟩ | ⟨h, _⟩
    ·exact h
    ·cases h
   have HRS := Lib.hid hRS
   clear hRS
   have hz4 := HZ44.out
   have hz5 := HZ54.out
   have HZW := HZW4
   have m0 := cell_at hz4 0 rfl
   have m1 := cell_at hz4 1 rfl
   have m2 := cell_at hz4 2 rfl
   have mf0 := frozen_at hz4 0
   have mf1 := frozen_at hz4 1
   have mf2 := frozen_at hz4 2
   have p0 := cell_at hz5 0 rfl
   have p1 := cell_at hz5 1 rfl
   have pf0 := frozen_at hz5 0
   have pf1 := frozen_at hz5 1
   have HZ4 := Lib.hid hz4
   have HZ5 := Lib.hid hz5
   clear hz4 hz5
   go_upto_region 15 with fail
   obtain ⟨A1, hA1, a8, ao, asz, ab⟩ := set3_all HZ4.out (.slice none 0 0) (.slice none 0 0) (.slice none 0 0)
   obtain ⟨A2, hA2, c8, co, cs, cb⟩ := set2_all ((ao _ (by omega)).trans HZ5.out) (.int .i64 l) (.int .i64 c)
   obtain ⟨B1, hB1, b8, bo, bs, bb⟩ := set2_all HZ5.out (.int .i64 l) (.int .i64 c)
   obtain ⟨B2, hB2, d8, do', ds', db⟩ := set3_all ((bo _ (by omega)).trans HZ4.out) (.slice none 0 0) (.slice none 0 0) (.slice none 0 0)
   have HA1 := Lib.hid hA1
   have HA2 := Lib.hid hA2
   have HB1' := Lib.hid hB1
   have HB2' := Lib.hid hB2
   have hA : A2.heap[w.heap.size]? = some (.cells #[.slice none 0 0, .slice none 0 0, .slice none 0 0] 29 (0, 0)) := (co _ (by omega)).trans a8
   have hBx : B2.heap[w.heap.size + 1]? = some (.cells #[.int .i64 l, .int .i64 c] 31 (0, 0)) := (do' _ (by omega)).trans b8
   have r0 := cell_at hA 0 rfl
   have r1 := cell_at hA 1 rfl
   have r2 := cell_at hA 2 rfl
   have r3 := cell_at c8 0 rfl
   have r4 := cell_at c8 1 rfl
   have s0 := cell_at d8 0 rfl
   have s1 := cell_at d8 1 rfl
   have s2 := cell_at d8 2 rfl
   have s3 := cell_at hBx 0 rfl
   have s4 := cell_at hBx 1 rfl
   have HAB : Hid (Below w.heap.size w A2) := HZW.out.trans (ab.trans (cb.mono (by omega)))
   have HBB : Hid (Below w.heap.size w B2) := HZW.out.trans ((bb.mono (by omega)).trans db)
   clear hA1 a8 ao asz ab hA2 c8 co cs cb hB1 b8 bo bs bb hB2 d8 do' ds' db hA hBx
   have HP : Hid (CkP f ds (⟨[], [], []⟩, (l, c), 10)) := by
    refine (?_ : CkP _ _ _)
    obtain ⟨o, ho⟩ := HCY.out
    refine ⟨o, ho, ?_⟩
    unfold checkP
    rw [if_pos HFM.out, HPS.out]
    have hs := HRS.out
    simp only [HR1.out, HR2.out, HR3.out, hs]
   go_region
   all_goals
    first | rw [HA1.out, HA2.out] | rw [HB1'.out, HB2'.out]
    clear z0 z1 m0 m1 m2 mf0 mf1 mf2 p0 p1 pf0 pf1
    go_wp2_with fail
    first
     | (refine bodyPost_ret (v := .tuple #[.agg #[.slice none 0 0, .slice none 0 0, .slice none 0 0], .agg #[.int .i64 l, .int .i64 c], .int .i64 10]) (by simp [results, Tryz.results10, go_sem, r0, r1, r2, r3, r4]) rfl ?_; exact ⟨none, none, none, 0, 0, 0, 0, 0, 0, _, l, c, 10, rfl, HAB.out.drew, heldSc_nil _ _, HP.out⟩)
     | (refine bodyPost_ret (v := .tuple #[.agg #[.slice none 0 0, .slice none 0 0, .slice none 0 0], .agg #[.int .i64 l, .int .i64 c], .int .i64 10]) (by simp [results, Tryz.results10, go_sem, s0, s1, s2, s3, s4]) rfl ?_; exact ⟨none, none, none, 0, 0, 0, 0, 0, 0, _, l, c, 10, rfl, HBB.out.drew, heldSc_nil _ _, HP.out⟩)
  obtain ⟨-, hR, hl, hc, hSC⟩ := HANS.out.resolve_left (fun h => by cases h.1)
  subst hl hc
  have HR4 : Hid (firstS (typeGP f (noSvc ds) ps ps.length) ps.length = none) := HRR.out.trans hR
  have HHP4 : Hid (HeldP 9 f Z4 (fun b => b < Z4.heap.size) (.slice pa ps.length pc) ps) := (HHP3.out.old (fun b hb => HBZ.out.block b hb)).more fun b hb => by have hb' : b < Z3.heap.size := hb; omega
  have HSC4 : Hid (HeldSc Z4 (fun b => Z3.heap.size ≤ b ∧ b < W4.heap.size) (.slice aa an ac) (.slice ba bn bc) (.slice ca cn cc) TB) := ⟨HeldN.old hSC.1 (fun b hb => HXO.out b hb.2), HeldN.old hSC.2.1 (fun b hb => HXO.out b hb.2), hSC.2.2.old (fun b hb => HXO.out b hb.2)⟩
  have t0 := cell_at HBS.out 0 rfl
  clear hR hSC HANS HRR HBZ HZ HZ43 HZ53 HZW3 HHP3 z0 z1
  have hcall := cycP_any f TB.ms (.slice aa an ac) ps _ Z4 hn (by have := HRG.out HR2.out HR3.out HR4.out; rw [HTB.out] at this; exact this) (by have := HCT.out; rw [HTB.out] at this; exact this) (HSC4.out.1.more fun b hb => by have := hb.2; omega) HHP4.out
  go_wp2_with fail
  refine hcall.mono ?_
  rintro e W5 ⟨R5, hcy, l, c, b, rfl, hbW, hans⟩
  have hWs5 := hbW.size
  have hbx : (W5.alloc (.cells #[.int .i64 l, .int .i64 c] 31)).heap[W5.heap.size]? = some (.cells #[.int .i64 l, .int .i64 c] 31 (0, 0)) := alloc_heap_new _ _
  have hx4 : (W5.alloc (.cells #[.int .i64 l, .int .i64 c] 31)).heap[w.heap.size]? = some (.cells #[.slice none 0 0, .slice none 0 0, .slice none 0 0] 29 (0, 0)) := (alloc_heap_old _ _ _ (by omega)).trans ((hbW.block _ (by omega)).trans HZ44.out)
  have hx5 : (W5.alloc (.cells #[.int .i64 l, .int .i64 c] 31)).heap[w.heap.size + 1]? = some (.cells #[.int .i64 0, .int .i64 0] 31 (0, 0)) := (alloc_heap_old _ _ _ (by omega)).trans ((hbW.block _ (by omega)).trans HZ54.out)
  have hBZ : Below Z4.heap.size Z4 (W5.alloc (.cells #[.int .i64 l, .int .i64 c] 31)) := hbW.alloc hWs5 _
  obtain ⟨Z5, hZ⟩ : ∃ Z, W5.alloc (.cells #[.int .i64 l, .int .i64 c] 31) = Z := ⟨_, rfl⟩
  rw [hZ] at hbx hx4 hx5 hBZ
  have HZ := Lib.hid hZ
  have HZ45 := Lib.hid hx4
  have HZ55 := Lib.hid hx5
  have HZW5 : Hid (Below w.heap.size w Z5) := HZW4.out.trans (hBZ.mono (by omega))
  have hZs5 : Z4.heap.size ≤ Z5.heap.size := hBZ.size
  have HBZ := Lib.hid hBZ
  have z0 : Z5.cell? ⟨W5.heap.size, 0, none⟩ = some (.int .i64 l) := (box_pos hbx).1
  have z1 : Z5.cell? ⟨W5.heap.size, 1, none⟩ = some (.int .i64 c) := (box_pos hbx).2.1
  have HANS := Lib.hid hans
  have HCYC : Hid (CycAt (tabLP f (noSvc ds) (locL (f + 1) [] ds) (locL (f + 1) [] ds).length (locL (f + 1) [] ds)).ms (locL (f + 1) [] ds) (locL (f + 1) [] ds).length R5) := by
   refine (?_ : CycAt _ _ _ _)
   rw [HPS.out, HTB.out]; exact hcy
  clear hbx hx4 hx5 hZ hBZ hbW hans hcall hcy t0
  go_upto_region 17 with fail
  rw [HZ.out]
  cases b
  case true =>
   have HRS : Hid (R5 = some (l, c)) := by
    refine (?_ : _ = _)
    rcases HANS.out with ⟨_, h, _⟩ | ⟨_, h⟩
    ·cases h
    ·exact h
   have hz4 := HZ45.out
   have hz5 := HZ55.out
   have HZW := HZW5
   have m0 := cell_at hz4 0 rfl
   have m1 := cell_at hz4 1 rfl
   have m2 := cell_at hz4 2 rfl
   have mf0 := frozen_at hz4 0
   have mf1 := frozen_at hz4 1
   have mf2 := frozen_at hz4 2
   have p0 := cell_at hz5 0 rfl
   have p1 := cell_at hz5 1 rfl
   have pf0 := frozen_at hz5 0
   have pf1 := frozen_at hz5 1
   have HZ4 := Lib.hid hz4
   have HZ5 := Lib.hid hz5
   clear hz4 hz5
   go_upto_region 18 with fail
   obtain ⟨A1, hA1, a8, ao, asz, ab⟩ := set3_all HZ4.out (.slice none 0 0) (.slice none 0 0) (.slice none 0 0)
   obtain ⟨A2, hA2, c8, co, cs, cb⟩ := set2_all ((ao _ (by omega)).trans HZ5.out) (.int .i64 l) (.int .i64 c)
   obtain ⟨B1, hB1, b8, bo, bs, bb⟩ := set2_all HZ5.out (.int .i64 l) (.int .i64 c)
   obtain ⟨B2, hB2, d8, do', ds', db⟩ := set3_all ((bo _ (by omega)).trans HZ4.out) (.slice none 0 0) (.slice none 0 0) (.slice none 0 0)
   have HA1 := Lib.hid hA1
   have HA2 := Lib.hid hA2
   have HB1' := Lib.hid hB1
   have HB2' := Lib.hid hB2
   have hA : A2.heap[w.heap.size]? = some (.cells #[.slice none 0 0, .slice none 0 0, .slice none 0 0] 29 (0, 0)) := (co _ (by omega)).trans a8
   have hBx : B2.heap[w.heap.size + 1]? = some (.cells #[.int .i64 l, .int .i64 c] 31 (0, 0)) := (do' _ (by omega)).trans b8
   have r0 := cell_at hA 0 rfl
   have r1 := cell_at hA 1 rfl
   have r2 := cell_at hA 2 rfl
   have r3 := cell_at c8 0 rfl
   have r4 := cell_at c8 1 rfl
   have s0 := cell_at d8 0 rfl
   have s1 := cell_at d8 1 rfl
   have s2 := cell_at d8 2 rfl
   have s3 := cell_at hBx 0 rfl
   have s4 := cell_at hBx 1 rfl
   have HAB : Hid (Below w.heap.size w A2) := HZW.out.trans (ab.trans (cb.mono (by omega)))
   have HBB : Hid (Below w.heap.size w B2) := HZW.out.trans ((bb.mono (by omega)).trans db)
   clear hA1 a8 ao asz ab hA2 c8 co cs cb hB1 b8 bo bs bb hB2 d8 do' ds' db hA hBx
   have HP : Hid (CkP f ds (⟨[], [], []⟩, (l, c), 12)) := by
    refine (?_ : CkP _ _ _)
    refine ⟨_, HCYC.out, ?_⟩
    unfold checkP
    rw [if_pos HFM.out, HPS.out]
    have hs := HRS.out
    simp only [HR1.out, HR2.out, HR3.out, HR4.out, hs]
   go_region
   all_goals
    first | rw [HA1.out, HA2.out] | rw [HB1'.out, HB2'.out]
    clear z0 z1 m0 m1 m2 mf0 mf1 mf2 p0 p1 pf0 pf1
    go_wp2_with fail
    first
     | (refine bodyPost_ret (v := .tuple #[.agg #[.slice none 0 0, .slice none 0 0, .slice none 0 0], .agg #[.int .i64 l, .int .i64 c], .int .i64 12]) (by simp [results, Tryz.results10, go_sem, r0, r1, r2, r3, r4]) rfl ?_; exact ⟨none, none, none, 0, 0, 0, 0, 0, 0, _, l, c, 12, rfl, HAB.out.drew, heldSc_nil _ _, HP.out⟩)
     | (refine bodyPost_ret (v := .tuple #[.agg #[.slice none 0 0, .slice none 0 0, .slice none 0 0], .agg #[.int .i64 l, .int .i64 c], .int .i64 12]) (by simp [results, Tryz.results10, go_sem, s0, s1, s2, s3, s4]) rfl ?_; exact ⟨none, none, none, 0, 0, 0, 0, 0, 0, _, l, c, 12, rfl, HBB.out.drew, heldSc_nil _ _, HP.out⟩)
  obtain ⟨hR, -, hl, hc⟩ := HANS.out.resolve_right (fun h => by cases h.1)
  subst hl hc
  have hz4 := HZ45.out
  have hz5 := HZ55.out
  have hb12 : Z5.heap[W4.heap.size]? = some (.cells #[.slice aa an ac, .slice ba bn bc, .slice ca cn cc] 29 (0, 0)) := (HBZ.out.block _ (by omega)).trans HBS.out
  have t0 := cell_at hb12 0 rfl
  have t1 := cell_at hb12 1 rfl
  have t2 := cell_at hb12 2 rfl
  have m0 := cell_at hz4 0 rfl
  have m1 := cell_at hz4 1 rfl
  have m2 := cell_at hz4 2 rfl
  have mf0 := frozen_at hz4 0
  have mf1 := frozen_at hz4 1
  have mf2 := frozen_at hz4 2
  have p0 := cell_at hz5 0 rfl
  have p1 := cell_at hz5 1 rfl
  have pf0 := frozen_at hz5 0
  have pf1 := frozen_at hz5 1
  obtain ⟨A1, hA1, a8, ao, asz, ab⟩ := set3_all hz4 (.slice aa an ac) (.slice ba bn bc) (.slice ca cn cc)
  obtain ⟨A2, hA2, c8, co, cs, cb⟩ := set2_all ((ao _ (by omega)).trans hz5) (.int .i64 0) (.int .i64 0)
  have hA : A2.heap[w.heap.size]? = _ := (co _ (by omega)).trans a8
  have r0 := cell_at hA 0 rfl
  have r1 := cell_at hA 1 rfl
  have r2 := cell_at hA 2 rfl
  have r3 := cell_at c8 0 rfl
  have r4 := cell_at c8 1 rfl
  have HA1 := Lib.hid hA1
  have HA2 := Lib.hid hA2
  have HAB : Hid (Below w.heap.size w A2) := HZW5.out.trans (ab.trans (cb.mono (by omega)))
  have hsame : ∀ b, Z3.heap.size ≤ b ∧ b < W4.heap.size → A2.heap[b]? = Z4.heap[b]? := fun b hb => (co b (by omega)).trans ((ao b (by omega)).trans (HBZ.out.block b (by omega)))
  have HSC5 : Hid (HeldSc A2 (fun b => w.heap.size ≤ b ∧ b < A2.heap.size) (.slice aa an ac) (.slice ba bn bc) (.slice ca cn cc) TB) := ⟨(HeldN.old HSC4.out.1 hsame).more fun b hb => ⟨by omega, by omega⟩, (HeldN.old HSC4.out.2.1 hsame).more fun b hb => ⟨by omega, by omega⟩, (HSC4.out.2.2.old hsame).more fun b hb => ⟨by omega, by omega⟩⟩
  have HP : Hid (CkP f ds (TB, (0, 0), 0)) := by
   refine (?_ : CkP _ _ _)
   refine ⟨_, HCYC.out, ?_⟩
   unfold checkP
   rw [if_pos HFM.out, HPS.out]
   simp only [HR1.out, HR2.out, HR3.out, HR4.out, hR, HTB.out]
  clear hA1 a8 ao asz ab hA2 c8 co cs cb hA hz4 hz5 hb12 hsame z0 z1 hR
  go_wp2_with fail
  rw [HA1.out, HA2.out]
  try go_wp2_with fail
  refine bodyPost_ret (v := .tuple #[.agg #[.slice aa an ac, .slice ba bn bc, .slice ca cn cc], .agg #[.int .i64 0, .int .i64 0], .int .i64 0]) (by simp [results, Tryz.results10, go_sem, r0, r1, r2, r3, r4]) rfl ?_
  exact ⟨aa, ba, ca, an, ac, bn, bc, cn, cc, _, 0, 0, 0, rfl, HAB.out, HSC5.out, HP.out⟩
end Go.Proofs.YtpojeinddnjpfaaGreatDoor
