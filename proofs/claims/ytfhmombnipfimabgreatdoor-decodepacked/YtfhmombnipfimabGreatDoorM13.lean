/-
  The walks over the document's zero and the program's byDefault.
  The walks over the program's stays, and over the function that its Normal hands to copied.
-/
import Derived.Test.YtfhmombnipfimabGreatDoorM8
import Derived.Test.YtfhmombnipfimabGreatDoorM10
import Derived.Test.YtfhmombnipfimabGreatDoorM12
import Derived.Test.YtfhmombnipfimabGreatDoorM9
import Derived.Test.YtfhmombnipfimabGreatDoorM11
namespace Go.Proofs.YtfhmombnipfimabGreatDoor
set_option linter.unusedVariables false
open Go.ChangeShapes Go.WideShapes Go.ChangeAt Go.RowKit

theorem notEmpty {s : List UInt8} (h : ¬ s = []) : (mkB s).toList.isEmpty = false := by
  rw [mkB_list]
  cases s with
  | nil => exact absurd rfl h
  | cons a t => rfl
theorem isEmptyN : (mkB []).toList.isEmpty = true := by rw [mkB_list]; rfl
set_option maxHeartbeats 8000000 in
set_option maxRecDepth 20000 in
theorem byDef_any (y : Nd) (fs : Value) (w : World) : Calls Tryz.prog 63 #[ival y fs] w fun e w' => e = .returned (.bool (defP y)) ∧ w' = w := by
  have t1 := fun W => taInt y fs W
  have t2 := fun W => taUint y fs W
  have t3 := fun W => taBool y fs W
  have t4 := fun W => taText y fs W
  have t5 := fun W => taBytes y fs W
  have t6 := fun W => taEnum y fs W
  obtain ⟨v, hv⟩ : ∃ v, ival y fs = v := ⟨_, rfl⟩
  rw [hv] at t1 t2 t3 t4 t5 t6 ⊢
  clear hv
  obtain ⟨kind, n, u, b, s, type, fields⟩ := y
  dsimp only at t1 t2 t3 t4 t5 t6
  obtain ⟨R, hR⟩ : ∃ R, defP ⟨kind, n, u, b, s, type, fields⟩ = R := ⟨_, rfl⟩
  have HR : Hid ((if kind = 1 then decide (n = 0) else if kind = 2 then decide (u = 0) else if kind = 3 then !b else if kind = 4 ∨ kind = 5 then decide (s = []) else if kind = 6 then decide (IntKind.i32.wrap n = 0) else false) = R) := hR
  rw [hR]
  clear hR
  by_cases h1 : kind = 1
  · subst h1
    rw [if_pos rfl, decide_eq_true rfl] at t1
    clear t2 t3 t4 t5 t6
    by_cases hz : n = 0
    · subst hz
      have e : R = true := by rw [← HR.out]; simp
      subst e
      go_enter Tryz.func63, Tryz.ntmps63
      go_wp2_with fail
      go_ret
      exact ⟨rfl, rfl⟩
    · have e : R = false := by rw [← HR.out]; simp [hz]
      subst e
      have hz' : (n == 0) = false := by simp [hz]
      go_enter Tryz.func63, Tryz.ntmps63
      go_wp2_with fail
      go_ret
      exact ⟨rfl, rfl⟩
  by_cases h2 : kind = 2
  · subst h2
    rw [if_neg (by decide), decide_eq_false (by decide)] at t1
    rw [if_pos rfl, decide_eq_true rfl] at t2
    clear t3 t4 t5 t6
    by_cases hz : u = 0
    · subst hz
      have e : R = true := by rw [← HR.out]; simp
      subst e
      go_enter Tryz.func63, Tryz.ntmps63
      go_wp2_with fail
      go_ret
      exact ⟨rfl, rfl⟩
    · have e : R = false := by rw [← HR.out]; simp [hz]
      subst e
      have hz' : (u == 0) = false := by simp [hz]
      go_enter Tryz.func63, Tryz.ntmps63
      go_wp2_with fail
      go_ret
      exact ⟨rfl, rfl⟩
  by_cases h3 : kind = 3
  · subst h3
    rw [if_neg (by decide), decide_eq_false (by decide)] at t1
    rw [if_neg (by decide), decide_eq_false (by decide)] at t2
    rw [if_pos rfl, decide_eq_true rfl] at t3
    clear t4 t5 t6
    have e : R = !b := by rw [← HR.out]; simp
    subst e
    go_enter Tryz.func63, Tryz.ntmps63
    go_wp2_with fail
    go_ret
    exact ⟨rfl, rfl⟩
  by_cases h4 : kind = 4
  · subst h4
    rw [if_neg (by decide), decide_eq_false (by decide)] at t1
    rw [if_neg (by decide), decide_eq_false (by decide)] at t2
    rw [if_neg (by decide), decide_eq_false (by decide)] at t3
    rw [if_pos rfl, decide_eq_true rfl] at t4
    clear t5 t6
    by_cases hz : s = []
    · subst hz
      have e : R = true := by rw [← HR.out]; simp
      subst e
      have hz' := isEmptyN
      go_enter Tryz.func63, Tryz.ntmps63
      go_wp2_with fail
      go_ret
      exact ⟨rfl, rfl⟩
    · have e : R = false := by rw [← HR.out]; simp [hz]
      subst e
      have hz' := notEmpty hz
      go_enter Tryz.func63, Tryz.ntmps63
      go_wp2_with fail
      go_ret
      exact ⟨rfl, rfl⟩
  by_cases h5 : kind = 5
  · subst h5
    rw [if_neg (by decide), decide_eq_false (by decide)] at t1
    rw [if_neg (by decide), decide_eq_false (by decide)] at t2
    rw [if_neg (by decide), decide_eq_false (by decide)] at t3
    rw [if_neg (by decide), decide_eq_false (by decide)] at t4
    rw [if_pos rfl, decide_eq_true rfl] at t5
    clear t6
    by_cases hz : s = []
    · subst hz
      have e : R = true := by rw [← HR.out]; simp
      subst e
      have hz' := isEmptyN
      go_enter Tryz.func63, Tryz.ntmps63
      go_wp2_with fail
      go_ret
      exact ⟨rfl, rfl⟩
    · have e : R = false := by rw [← HR.out]; simp [hz]
      subst e
      have hz' := notEmpty hz
      go_enter Tryz.func63, Tryz.ntmps63
      go_wp2_with fail
      go_ret
      exact ⟨rfl, rfl⟩
  by_cases h6 : kind = 6
  · subst h6
    rw [if_neg (by decide), decide_eq_false (by decide)] at t1
    rw [if_neg (by decide), decide_eq_false (by decide)] at t2
    rw [if_neg (by decide), decide_eq_false (by decide)] at t3
    rw [if_neg (by decide), decide_eq_false (by decide)] at t4
    rw [if_neg (by decide), decide_eq_false (by decide)] at t5
    rw [if_pos rfl, decide_eq_true rfl] at t6
    obtain ⟨E, hE⟩ : ∃ E, IntKind.i32.wrap n = E := ⟨_, rfl⟩
    rw [hE] at t6 HR
    clear hE
    by_cases hz : E = 0
    · subst hz
      have e : R = true := by rw [← HR.out]; simp
      subst e
      go_enter Tryz.func63, Tryz.ntmps63
      go_wp2_with fail
      go_ret
      exact ⟨rfl, rfl⟩
    · have e : R = false := by rw [← HR.out]; simp [hz]
      subst e
      have hz' : (E == 0) = false := by simp [hz]
      go_enter Tryz.func63, Tryz.ntmps63
      go_wp2_with fail
      go_ret
      exact ⟨rfl, rfl⟩
  have e : R = false := by rw [← HR.out]; simp [h1, h2, h3, h4, h5, h6]
  subst e
  rw [if_neg h1, show decide (kind = 1) = false from decide_eq_false h1] at t1
  rw [if_neg h2, show decide (kind = 2) = false from decide_eq_false h2] at t2
  rw [if_neg h3, show decide (kind = 3) = false from decide_eq_false h3] at t3
  rw [if_neg h4, show decide (kind = 4) = false from decide_eq_false h4] at t4
  rw [if_neg h5, show decide (kind = 5) = false from decide_eq_false h5] at t5
  rw [if_neg h6, show decide (kind = 6) = false from decide_eq_false h6] at t6
  go_enter Tryz.func63, Tryz.ntmps63
  go_wp2_with fail
  go_ret
  exact ⟨rfl, rfl⟩
end Go.Proofs.YtfhmombnipfimabGreatDoor
namespace Go.Proofs.YtfhmombnipfimabGreatDoor
set_option linter.unusedVariables false
open Go.ChangeShapes Go.WideShapes Go.ChangeAt Go.RowKit

set_option maxHeartbeats 8000000 in
set_option maxRecDepth 20000 in
theorem stays_any (nn : List UInt8) (fa : Option Addr) (n fc : Nat) (fs : List FD) (fd : FD) (num : Int) (va : Option Addr) (m vc : Nat) (ys : List Nd) (f : Nat) (w : World) (hn : fs.length = n) (hl : n ≤ 100000) (hH : RowsIn w (fun b => b < w.heap.size) 5 fdrow (.slice fa n fc) fs) (hfd : firstF fs num = some fd) (hm : ys.length = m) (hm0 : 0 < m) (hV : ValsG valS w (fun b => b < w.heap.size) f (.slice va m vc) ys) :
    Calls Tryz.prog 40 #[.agg #[.string (mkB nn), .slice fa n fc], .agg #[.int .i64 num, .slice va m vc]] w fun e w' => e = .returned (.bool (keepB fs (num, ys))) ∧ Below w.heap.size w w' := by
  obtain ⟨y, hy⟩ : ∃ y, ys[0]? = some y := ⟨_, List.getElem?_eq_getElem (by omega)⟩
  obtain ⟨R, hR⟩ : ∃ R, keepB fs (num, ys) = R := ⟨_, rfl⟩
  have HR : Hid ((fd.rep || !defP y) = R) := by
    refine (?_ : _ = _)
    rw [← hR]
    unfold keepB
    dsimp only
    rw [hfd, hy]
  rw [hR]
  clear hR
  obtain ⟨Y, hY, hC, hb, hYs⟩ := box_new w #[.string (mkB nn), .slice fa n fc] 44
  obtain ⟨V, hV', hD, hVb, hVs⟩ := box_new Y #[.int .i64 num, .slice va m vc] 78
  have HY := Lib.hid hY
  have HV := Lib.hid hV'
  rw [hYs] at hD
  have hC2 := (hVb.block _ (by omega)).trans hC
  have hBV := hb.trans (hVb.mono hb.size)
  have HBV := Lib.hid hBV
  have HD := Lib.hid hD
  have d0 : V.cell? ⟨w.heap.size, 0, none⟩ = some (.string (mkB nn)) := cell_at hC2 0 rfl
  have d1 : V.cell? ⟨w.heap.size, 1, none⟩ = some (.slice fa n fc) := cell_at hC2 1 rfl
  have f0 : V.cell? ⟨w.heap.size + 1, 0, none⟩ = some (.int .i64 num) := cell_at hD 0 rfl
  have h := defined_any nn fa n fc fs num V hn hl ((RowsIn.old hH fun b h => hBV.block b h).more fun b h => by have := hBV.size; omega)
  obtain ⟨g, o, c, yf, hsl, hg, hcl, _⟩ := ValsG.at hV hy
  rw [hm] at hsl
  obtain ⟨rfl, rfl⟩ := slice_two hsl
  have hgN : g < w.heap.size := hg
  have e0 : w.cell? ⟨g, o, none⟩ = some (ival y yf) := by have := hcl 0 _ rfl; simpa [valS] using this
  have hdf := byDef_any y yf
  have hVl : w.heap.size + 2 ≤ V.heap.size := by omega
  have hm1 : (0 : Int) < (m : Int) := by omega
  generalize ival y yf = v0 at e0 hdf
  generalize defP y = D at HR hdf
  have HFD := Lib.hid hfd
  clear hn hl hH hm hV hC hY hb hYs hV' hVb hVs hD hC2 hBV hsl hcl hg hy hfd
  go_enter Tryz.func40, Tryz.ntmps40
  go_upto_region 1 with fail
  rw [HY.out, HV.out]
  go_wp2_with fail
  refine h.mono ?_
  rintro e W ⟨x, b, rfl, hbt, hbf, hbW⟩
  obtain rfl : b = true := by
    cases b
    · have := hbf rfl; rw [HFD.out] at this; cases this
    · rfl
  obtain rfl : x = fd := by have := hbt rfl; rw [HFD.out] at this; exact (Option.some.inj this).symm
  have HBW := Lib.hid (HBV.out.trans (hbW.mono HBV.out.size))
  have hWs := hbW.size
  have HDW : Hid (W.heap[w.heap.size + 1]? = some (.cells #[.int .i64 num, .slice (some ⟨g, o, none⟩) m vc] 78 (0, 0))) := (hbW.block _ (by omega)).trans HD.out
  clear h hbW d0 d1 f0 hbt hbf HD HFD
  obtain ⟨xnum, xname, xkind, xrep, xtype⟩ := x
  dsimp only at HR ⊢
  have hC : (W.alloc (.cells #[.int .i64 xnum, .string (mkB xname), .int .i64 xkind, .bool xrep, .int .i64 xtype] 46)).heap[W.heap.size]? = some (.cells #[.int .i64 xnum, .string (mkB xname), .int .i64 xkind, .bool xrep, .int .i64 xtype] 46 (0, 0)) := alloc_heap_new _ _
  have hCb : Below W.heap.size W (W.alloc (.cells #[.int .i64 xnum, .string (mkB xname), .int .i64 xkind, .bool xrep, .int .i64 xtype] 46)) := (Below.refl _ W).alloc (Nat.le_refl _) _
  go_upto_region 2 with fail
  generalize (W.alloc (.cells #[.int .i64 xnum, .string (mkB xname), .int .i64 xkind, .bool xrep, .int .i64 xtype] 46)) = X at *
  have HBX := Lib.hid (HBW.out.trans (hCb.mono HBW.out.size))
  have hDX := (hCb.block _ (by omega)).trans HDW.out
  have q1 : X.cell? ⟨w.heap.size + 1, 1, none⟩ = some (.slice (some ⟨g, o, none⟩) m vc) := cell_at hDX 1 rfl
  have q3 : X.cell? ⟨W.heap.size, 3, none⟩ = some (.bool xrep) := cell_at hC 3 rfl
  have q0 : X.cell? ⟨g, o, none⟩ = some v0 := (HBX.out.cell (by simpa using hgN)).trans e0
  have hd := hdf X
  clear hC hCb hDX HDW HBW e0 hdf
  cases xrep
  case true =>
    have e : R = true := by rw [← HR.out]; rfl
    subst e
    go_wp2_with fail
    go_ret
    exact ⟨rfl, HBX.out⟩
  case false =>
    have e : R = !D := by rw [← HR.out]; rfl
    subst e
    go_wp2_with fail
    refine hd.mono ?_
    rintro e W9 ⟨rfl, hW⟩
    have hW := hW.symm
    subst hW
    go_wp2_with fail
    go_ret
    exact ⟨rfl, HBX.out⟩
set_option maxHeartbeats 8000000 in
set_option maxRecDepth 20000 in
theorem keep_any (cp : Nat) (ma ea ta : Option Addr) (nm ne nt mc ec tc : Nat) (ms : List MD) (q : Nat) (md : MD) (xa : Option Addr) (xl xc : Nat) (xs : List UInt8) (fd : FD) (num : Int) (va : Option Addr) (m vc : Nat) (ys : List Nd) (f : Nat) (w : World) (hnm : ms.length = nm) (hq : ms[q]? = some md) (hl : md.fields.length ≤ 100000) (hcp : w.cell? ⟨cp, 0, none⟩ = some (.slice ma nm mc)) (hH : HeldM w (fun b => b < w.heap.size) (.slice ma nm mc) ms) (hfd : firstF md.fields num = some fd) (hm : ys.length = m) (hm0 : 0 < m) (hV : ValsG valS w (fun b => b < w.heap.size) f (.slice va m vc) ys) :
    Calls Tryz.prog 39 #[.agg #[.int .i64 (q : Int), .slice xa xl xc, .string (mkB xs)], .agg #[.int .i64 num, .slice va m vc], .pointer (some ⟨cp, 0, none⟩)] w fun e w' => e = .returned (.bool (keepB md.fields (num, ys))) ∧ Below w.heap.size w w' := by
  have hcpl : cp < w.heap.size := cell_ltB hcp
  obtain ⟨mname, mfs⟩ := md
  dsimp only at hl hfd ⊢
  obtain ⟨nf, hnf⟩ : ∃ n, mfs.length = n := ⟨_, rfl⟩
  obtain ⟨R, hR⟩ : ∃ R, keepB mfs (num, ys) = R := ⟨_, rfl⟩
  rw [hR]
  obtain ⟨Y, hY, hC, hb, hYs⟩ := box_new w #[.int .i64 (q : Int), .slice xa xl xc, .string (mkB xs)] 76
  obtain ⟨V, hV', hD, hVb, hVs⟩ := box_new Y #[.int .i64 num, .slice va m vc] 78
  have HY := Lib.hid hY
  have HV := Lib.hid hV'
  rw [hYs] at hD
  have hC2 := (hVb.block _ (by omega)).trans hC
  have hBV := hb.trans (hVb.mono hb.size)
  have HBV := Lib.hid hBV
  obtain ⟨g, oo, c0, ka, kc, hsl, hg, e0, e1, hrow⟩ := HeldN.at hH (W := V) (fun b hb => hBV.block b hb) hq
  rw [hnm] at hsl
  obtain ⟨rfl, rfl⟩ := slice_two hsl
  dsimp only at hrow e0 e1
  rw [hnf] at hrow e1 hl
  have HST : Hid (∀ W, Below V.heap.size V W → Calls Tryz.prog 40 #[.agg #[.string (mkB mname), .slice ka nf kc], .agg #[.int .i64 num, .slice va m vc]] W fun e w' => e = .returned (.bool R) ∧ Below W.heap.size W w') := by
    refine (?_ : ∀ W, _ → _)
    intro W hW
    rw [← hR]
    have hw := hBV.trans (hW.mono hBV.size)
    exact stays_any mname ka nf kc mfs fd num va m vc ys f W hnf hl ((RowsIn.old hrow fun b hb => hW.block b (by have hb' : b < w.heap.size := hb; have := hBV.size; omega)).more fun b hb => by have hb' : b < w.heap.size := hb; have := hw.size; omega) hfd hm hm0 (ValsG.mv (fun b hb => hw.block b hb) (fun b hb => by have hb' : b < w.heap.size := hb; have := hw.size; omega) hV)
  have hgN : g < w.heap.size := hg
  have hVl : w.heap.size + 2 ≤ V.heap.size := by omega
  have s0 : ∀ W, Below V.heap.size V W → W.cell? ⟨cp, 0, none⟩ = some (.slice (some ⟨g, oo, none⟩) nm mc) := fun W hW => (hW.cell (by simp; omega)).trans ((hBV.cell (by simpa using hcpl)).trans hcp)
  have s1 : ∀ W, Below V.heap.size V W → W.cell? ⟨w.heap.size, 0, none⟩ = some (.int .i64 (q : Int)) := fun W hW => (hW.cell (by simp; omega)).trans (cell_at hC2 0 rfl)
  have s2 : ∀ W, Below V.heap.size V W → W.cell? ⟨g, oo + q * 2, none⟩ = some (.string (mkB mname)) := fun W hW => (hW.cell (by simp; omega)).trans e0
  have s3 : ∀ W, Below V.heap.size V W → W.cell? ⟨g, oo + q * 2 + 1, none⟩ = some (.slice ka nf kc) := fun W hW => (hW.cell (by simp; omega)).trans e1
  have s4 : ∀ W, Below V.heap.size V W → W.cell? ⟨w.heap.size + 1, 0, none⟩ = some (.int .i64 num) := fun W hW => (hW.cell (by simp; omega)).trans (cell_at hD 0 rfl)
  have s5 : ∀ W, Below V.heap.size V W → W.cell? ⟨w.heap.size + 1, 1, none⟩ = some (.slice va m vc) := fun W hW => (hW.cell (by simp; omega)).trans (cell_at hD 1 rfl)
  have hqn : q < nm := by have := (List.getElem?_eq_some_iff.1 hq).1; omega
  have hq0 : (0 : Int) ≤ (q : Int) := by omega
  have hq1 : (q : Int) < (nm : Int) := by omega
  clear hY hC hb hYs hV' hD hVb hVs hC2 hBV hsl hg e0 e1 hrow hH hV hR hfd hm hq hcp
  go_enter Tryz.func39, Tryz.ntmps39
  go_upto_region 1 with fail
  rw [HY.out, HV.out]
  have hS0 : Below V.heap.size V V.drew := (Below.refl _ _).drew
  refine wp_region_held_drew (S := fun W => Below V.heap.size V W) (by kernel_rfl) hS0 (fun _ => ?_)
  refine T_on 0 (.pointer (some ⟨cp, 0, none⟩)) rfl (by kernel_rfl) (fun _ _ _ h => h) hS0 (fun W hW => by go_simp) ?_
  refine T_on 1 (.slice (some ⟨g, oo, none⟩) nm mc) rfl (by kernel_rfl) (fun _ _ _ h => h) hS0 (fun W hW => by have c := s0 W hW; go_simp) ?_
  refine T_on 2 (.pointer (some ⟨w.heap.size, 0, none⟩)) rfl (by kernel_rfl) (fun _ _ _ h => h) hS0 (fun W hW => by go_simp) ?_
  refine T_on 3 (.int .i64 (q : Int)) rfl (by kernel_rfl) (fun _ _ _ h => h) hS0 (fun W hW => by have c := s1 W hW; go_simp) ?_
  refine T_on 4 (.pointer (some ⟨g, oo + q * 2, none⟩)) rfl (by kernel_rfl) (fun _ _ _ h => h) hS0 (fun W hW => by go_simp) ?_
  refine T_on 5 (.agg #[.string (mkB mname), .slice ka nf kc]) rfl (by kernel_rfl) (fun _ _ _ h => h) hS0 (fun W hW => by have c := s2 W hW; have c2 := s3 W hW; go_simp) ?_
  refine T_on 6 (.agg #[.int .i64 num, .slice va m vc]) rfl (by kernel_rfl) (fun _ _ _ h => h) hS0 (fun W hW => by have c := s4 W hW; have c2 := s5 W hW; go_simp) ?_
  refine T_call 7 (by kernel_rfl) rfl (fun K hK => ?_)
  go_simp
  refine (HST.out _ hS0).mono ?_
  rintro e U1 ⟨rfl, hb1⟩
  have hS1 := hS0.trans (hb1.mono hS0.size)
  clear hS0 hb1
  have hS0 := hS1
  clear hS1
  dsimp only
  refine hK.out _ _ hS0 (fun _ => ?_)
  clear hK K
  refine T_on 8 (.bool R) rfl (by kernel_rfl) (fun _ _ _ h => h) hS0 (fun W hW => by go_simp) ?_
  refine wpAnyH_done (by kernel_rfl) ?_ _
  go_simp
  have HE := Lib.hid (HBV.out.trans (hS0.mono HBV.out.size))
  go_wp2_with fail
  go_ret
  exact ⟨rfl, HE.out⟩
end Go.Proofs.YtfhmombnipfimabGreatDoor
