/-
  The walk over the document's one: a value's field.
-/
import Derived.Test.YtfhmombnipfimaaGreatDoorM9
import Derived.Test.YtfhmombnipfimaaGreatDoorM22
namespace Go.Proofs.YtfhmombnipfimaaGreatDoor
set_option linter.unusedVariables false
open Go.ChangeShapes Go.WideShapes Go.ChangeAt Go.RowKit

set_option maxHeartbeats 16000000 in
set_option maxRecDepth 20000 in
theorem oneR_any (ma ea ta : Option Addr) (nm ne nt mc ec tc : Nat) (fd : FD) (z : Nd) (la : Option Addr) (ln lc : Nat) (D : List Int) (w : World) (hz : Rg1 z) (hs : z.s.length ≤ 100000) (hc : fd.kind = 10 → ∀ W, Below w.heap.size w W → Calls Tryz.prog 42 #[.agg #[.slice ma nm mc, .slice ea ne ec, .slice ta nt tc], .agg #[.int .i64 z.kind, .int .i64 z.n, .int .u64 z.u, .bool z.b, .string (mkB z.s), .int .i64 z.type, .slice la ln lc]] W fun e w' => BAns D W e w') (h56 : fd.kind = 5 ∨ fd.kind = 6 → D = ints z.s) :
    Calls Tryz.prog 76 #[.agg #[.slice ma nm mc, .slice ea ne ec, .slice ta nt tc], .agg #[.int .i64 fd.num, .string (mkB fd.name), .int .i64 fd.kind, .bool fd.rep, .int .i64 fd.type], .agg #[.int .i64 z.kind, .int .i64 z.n, .int .u64 z.u, .bool z.b, .string (mkB z.s), .int .i64 z.type, .slice la ln lc]] w fun e w' => WfAns (if isNum fd.kind then ⟨fd.num, wireT fd.kind, numR fd.kind z, []⟩ else ⟨fd.num, wireT fd.kind, 0, D⟩) w e w' := by
  have hnum := fun W => numberR_any fd.kind z la ln lc W hz
  have hwt := fun W => wireT_any fd.kind W
  obtain ⟨N, hN⟩ : ∃ n, numR fd.kind z = n := ⟨_, rfl⟩
  obtain ⟨T, hT⟩ : ∃ n, wireT fd.kind = n := ⟨_, rfl⟩
  rw [hN, hT]
  obtain ⟨X, hX⟩ : ∃ X : WF, (if isNum fd.kind then ⟨fd.num, T, N, []⟩ else ⟨fd.num, T, 0, D⟩) = X := ⟨_, rfl⟩
  have HX := Lib.hid hX
  rw [hX]
  clear hX
  rw [hN] at hnum
  rw [hT] at hwt
  clear hN hT
  obtain ⟨Y, hY, hC, hb, hYs⟩ := box_new w #[.slice ma nm mc, .slice ea ne ec, .slice ta nt tc] 26
  obtain ⟨U, hU, hE, hUb, hUs⟩ := box_new Y #[.int .i64 fd.num, .string (mkB fd.name), .int .i64 fd.kind, .bool fd.rep, .int .i64 fd.type] 84
  obtain ⟨G, hG', hG, hGb, hGs⟩ := box_new U #[.int .i64 z.kind, .int .i64 z.n, .int .u64 z.u, .bool z.b, .string (mkB z.s), .int .i64 z.type, .slice la ln lc] 30
  obtain ⟨V, hV', hD, hVb, hVs⟩ := box_new G #[.int .i64 0, .int .i64 0, .int .u64 0, .slice none 0 0] 128
  have HY := Lib.hid hY
  have HU := Lib.hid hU
  have HG := Lib.hid hG'
  have HV := Lib.hid hV'
  rw [hGs, hUs, hYs] at hD
  rw [hUs, hYs] at hG
  rw [hYs] at hE
  have hG2 := (hVb.block _ (by omega)).trans hG
  have hE2 := (hVb.block _ (by omega)).trans ((hGb.block _ (by omega)).trans hE)
  have hC2 := (hVb.block _ (by omega)).trans ((hGb.block _ (by omega)).trans ((hUb.block _ (by omega)).trans hC))
  have hBV := hb.trans ((hUb.trans ((hGb.trans (hVb.mono hGb.size)).mono hUb.size)).mono hb.size)
  have HBV := Lib.hid hBV
  have HDV := Lib.hid hD
  have hVl : w.heap.size + 4 = V.heap.size := by omega
  have s0 : ∀ W, Below V.heap.size V W → W.cell? ⟨w.heap.size, 0, none⟩ = some (.slice ma nm mc) := fun W hW => (hW.cell (by simp; omega)).trans (cell_at hC2 0 rfl)
  have s1 : ∀ W, Below V.heap.size V W → W.cell? ⟨w.heap.size, 1, none⟩ = some (.slice ea ne ec) := fun W hW => (hW.cell (by simp; omega)).trans (cell_at hC2 1 rfl)
  have s2 : ∀ W, Below V.heap.size V W → W.cell? ⟨w.heap.size, 2, none⟩ = some (.slice ta nt tc) := fun W hW => (hW.cell (by simp; omega)).trans (cell_at hC2 2 rfl)
  have q0 : ∀ W, Below V.heap.size V W → W.cell? ⟨w.heap.size + 1, 0, none⟩ = some (.int .i64 fd.num) := fun W hW => (hW.cell (by simp; omega)).trans (cell_at hE2 0 rfl)
  have q2 : ∀ W, Below V.heap.size V W → W.cell? ⟨w.heap.size + 1, 2, none⟩ = some (.int .i64 fd.kind) := fun W hW => (hW.cell (by simp; omega)).trans (cell_at hE2 2 rfl)
  have n0 : ∀ W, Below V.heap.size V W → W.cell? ⟨w.heap.size + 2, 0, none⟩ = some (.int .i64 z.kind) := fun W hW => (hW.cell (by simp; omega)).trans (cell_at hG2 0 rfl)
  have n1 : ∀ W, Below V.heap.size V W → W.cell? ⟨w.heap.size + 2, 1, none⟩ = some (.int .i64 z.n) := fun W hW => (hW.cell (by simp; omega)).trans (cell_at hG2 1 rfl)
  have n2 : ∀ W, Below V.heap.size V W → W.cell? ⟨w.heap.size + 2, 2, none⟩ = some (.int .u64 z.u) := fun W hW => (hW.cell (by simp; omega)).trans (cell_at hG2 2 rfl)
  have n3 : ∀ W, Below V.heap.size V W → W.cell? ⟨w.heap.size + 2, 3, none⟩ = some (.bool z.b) := fun W hW => (hW.cell (by simp; omega)).trans (cell_at hG2 3 rfl)
  have n4 : ∀ W, Below V.heap.size V W → W.cell? ⟨w.heap.size + 2, 4, none⟩ = some (.string (mkB z.s)) := fun W hW => (hW.cell (by simp; omega)).trans (cell_at hG2 4 rfl)
  have n5 : ∀ W, Below V.heap.size V W → W.cell? ⟨w.heap.size + 2, 5, none⟩ = some (.int .i64 z.type) := fun W hW => (hW.cell (by simp; omega)).trans (cell_at hG2 5 rfl)
  have n6 : ∀ W, Below V.heap.size V W → W.cell? ⟨w.heap.size + 2, 6, none⟩ = some (.slice la ln lc) := fun W hW => (hW.cell (by simp; omega)).trans (cell_at hG2 6 rfl)
  clear hC hY hb hYs hU hUb hUs hE hG' hG hGb hGs hV' hVb hVs hD hE2 hC2 hG2 hBV
  go_enter Tryz.func76, Tryz.ntmps76
  go_upto_region 1 with fail
  rw [HY.out, HU.out, HG.out, HV.out]
  go_cut [7] (fun v wx => v = .pointer (some ⟨V.heap.size, 0, none⟩) ∧ wx.heap[V.heap.size]? = some (.cells #[.int .i64 fd.num, .int .i64 T, .int .u64 0, .slice none 0 0] 128 (0, 0)) ∧ Below V.heap.size V wx)
  case first =>
    have hS0 : Below V.heap.size V V.drew := (Below.refl _ _).drew
    refine wp_region_held_drew (S := fun W => Below V.heap.size V W) (by kernel_rfl) hS0 (fun _ => ?_)
    refine T_on 0 (.pointer (some ⟨w.heap.size + 1, 0, none⟩)) rfl (by kernel_rfl) (fun _ _ _ h => h) hS0 (fun W hW => by go_simp) ?_
    refine T_on 1 (.int .i64 fd.num) rfl (by kernel_rfl) (fun _ _ _ h => h) hS0 (fun W hW => by have c := q0 W hW; go_simp) ?_
    refine T_on 2 (.pointer (some ⟨w.heap.size + 1, 2, none⟩)) rfl (by kernel_rfl) (fun _ _ _ h => h) hS0 (fun W hW => by go_simp) ?_
    refine T_on 3 (.int .i64 fd.kind) rfl (by kernel_rfl) (fun _ _ _ h => h) hS0 (fun W hW => by have c := q2 W hW; go_simp) ?_
    have hA : ((V.alloc (.cells #[.int .i64 0, .int .i64 0, .int .u64 0, .slice none 0 0] 128)).drew).heap[V.heap.size]? = some (.cells #[.int .i64 0, .int .i64 0, .int .u64 0, .slice none 0 0] 128 (0, 0)) := alloc_heap_new V (.cells #[.int .i64 0, .int .i64 0, .int .u64 0, .slice none 0 0] 128)
    have hS1 : Below V.heap.size V ((V.alloc (.cells #[.int .i64 0, .int .i64 0, .int .u64 0, .slice none 0 0] 128)).drew) := ((Below.refl _ V).alloc (Nat.le_refl _) _).drew
    refine T_two 4 6 (by kernel_rfl) rfl rfl (fun K hK => ?_) (fun K hK => ?_)
    · go_simp
      refine (hwt _).mono ?_
      rintro e W9 ⟨rfl, hW9⟩
      have hW9 := hW9.symm
      subst hW9
      dsimp only
      refine hK.out _ _ hS0 (fun _ => ?_)
      clear hK K
      refine T_on 5 (.agg #[.int .i64 fd.num, .int .i64 T, .int .u64 0, .slice none 0 0]) rfl (by kernel_rfl) (fun _ _ _ h => h) hS0 (fun W hW => by go_simp) ?_
      refine T_call 6 (by kernel_rfl) rfl (fun K hK => ?_)
      go_simp
      refine hK.out _ _ hS1 (fun _ => ?_)
      clear hK K
      generalize (V.alloc (.cells #[.int .i64 0, .int .i64 0, .int .u64 0, .slice none 0 0] 128)).drew = WA at *
      have k0 : WA.cell? ⟨V.heap.size, 0, none⟩ = some (.int .i64 0) := cell_at hA 0 rfl
      have kf0 : WA.frozen? ⟨V.heap.size, 0, none⟩ = false := frz_at hA 0
      have k1 : WA.cell? ⟨V.heap.size, 1, none⟩ = some (.int .i64 0) := cell_at hA 1 rfl
      have kf1 : WA.frozen? ⟨V.heap.size, 1, none⟩ = false := frz_at hA 1
      have k2 : WA.cell? ⟨V.heap.size, 2, none⟩ = some (.int .u64 0) := cell_at hA 2 rfl
      have kf2 : WA.frozen? ⟨V.heap.size, 2, none⟩ = false := frz_at hA 2
      have k3 : WA.cell? ⟨V.heap.size, 3, none⟩ = some (.slice none 0 0) := cell_at hA 3 rfl
      have kf3 : WA.frozen? ⟨V.heap.size, 3, none⟩ = false := frz_at hA 3
      obtain ⟨Qw, hQ, hQc, _, _, hQb⟩ := set4V hA (.int .i64 fd.num) (.int .i64 T) (.int .u64 0) (.slice none 0 0)
      have hS3 : Below V.heap.size V Qw := hS1.trans hQb
      have HQ := Lib.hid hQ
      clear hQ hA
      refine T_call 7 (by kernel_rfl) rfl (fun K hK => ?_)
      go_simp
      rw [HQ.out]
      refine hK.out _ _ hS3 (fun _ => ?_)
      clear hK K
      refine wpAnyH_done (by kernel_rfl) ?_ _
      go_simp
      go_wp2_with fail
      go_meet
      exact ⟨rfl, hQc, hS3⟩
    · go_simp
      refine hK.out _ _ hS1 (fun _ => ?_)
      clear hK K
      generalize (V.alloc (.cells #[.int .i64 0, .int .i64 0, .int .u64 0, .slice none 0 0] 128)).drew = WA at *
      refine T_call 4 (by kernel_rfl) rfl (fun K hK => ?_)
      go_simp
      refine (hwt _).mono ?_
      rintro e W9 ⟨rfl, hW9⟩
      have hW9 := hW9.symm
      subst hW9
      dsimp only
      refine hK.out _ _ hS1 (fun _ => ?_)
      clear hK K
      refine T_on 5 (.agg #[.int .i64 fd.num, .int .i64 T, .int .u64 0, .slice none 0 0]) rfl (by kernel_rfl) (fun _ _ _ h => h) hS1 (fun W hW => by go_simp) ?_
      have k0 : WA.cell? ⟨V.heap.size, 0, none⟩ = some (.int .i64 0) := cell_at hA 0 rfl
      have kf0 : WA.frozen? ⟨V.heap.size, 0, none⟩ = false := frz_at hA 0
      have k1 : WA.cell? ⟨V.heap.size, 1, none⟩ = some (.int .i64 0) := cell_at hA 1 rfl
      have kf1 : WA.frozen? ⟨V.heap.size, 1, none⟩ = false := frz_at hA 1
      have k2 : WA.cell? ⟨V.heap.size, 2, none⟩ = some (.int .u64 0) := cell_at hA 2 rfl
      have kf2 : WA.frozen? ⟨V.heap.size, 2, none⟩ = false := frz_at hA 2
      have k3 : WA.cell? ⟨V.heap.size, 3, none⟩ = some (.slice none 0 0) := cell_at hA 3 rfl
      have kf3 : WA.frozen? ⟨V.heap.size, 3, none⟩ = false := frz_at hA 3
      obtain ⟨Qw, hQ, hQc, _, _, hQb⟩ := set4V hA (.int .i64 fd.num) (.int .i64 T) (.int .u64 0) (.slice none 0 0)
      have hS3 : Below V.heap.size V Qw := hS1.trans hQb
      have HQ := Lib.hid hQ
      clear hQ hA
      refine T_call 7 (by kernel_rfl) rfl (fun K hK => ?_)
      go_simp
      rw [HQ.out]
      refine hK.out _ _ hS3 (fun _ => ?_)
      clear hK K
      refine wpAnyH_done (by kernel_rfl) ?_ _
      go_simp
      go_wp2_with fail
      go_meet
      exact ⟨rfl, hQc, hS3⟩
  case rest =>
  obtain ⟨rfl, hDq, hS1⟩ := hcut
  generalize wc = Z at *
  have hZs := (Array.getElem?_eq_some_iff.1 hDq).1
  have c2 := q2 Z hS1
  have HDQ := Lib.hid hDq
  have HRX := Lib.hid ((hS1.block (w.heap.size + 3) (by omega)).trans HDV.out)
  have HS1 := Lib.hid hS1
  clear hDq hwt HDV
  by_cases h5 : fd.kind = 5
  · have hi : isNum fd.kind = false := by rw [h5]; rfl
    have hXe : X = ⟨fd.num, T, 0, ints z.s⟩ := by rw [← HX.out, hi, if_neg (by simp), h56 (by omega)]
    rw [h5] at c2
    have c4 := n4 Z hS1
    obtain ⟨W, c, hconv, hlc, hcm, hI, hWb, hWs⟩ := conv_bytes Z z.s hs
    have hWV := HS1.out.trans (hWb.mono HS1.out.size)
    have hPW := (hWb.block V.heap.size (by omega)).trans HDQ.out
    have hRW := (hWb.block (w.heap.size + 3) (by omega)).trans HRX.out
    have hbi : BIn W (fun b => Z.heap.size ≤ b ∧ b < W.heap.size) (some ⟨Z.heap.size, 0, none⟩) c (ints z.s) := conv_BIn hI (by omega) hs ⟨hlc, hcm⟩ _ ⟨Nat.le_refl _, by omega⟩
    rw [← ints_len] at hconv
    generalize ints z.s = D' at *
    clear hI hWb hlc hcm hc h56 hi h5 s0 s1 s2 q0 q2 n0 n1 n2 n3 n4 n5 n6 hnum hS1
    have kt : W.cell? ⟨V.heap.size, 3, none⟩ = some (.slice none 0 0) := cell_at hPW 3 rfl
    have kft : W.frozen? ⟨V.heap.size, 3, none⟩ = false := frz_at hPW 3
    obtain ⟨S, hSe⟩ : ∃ S, W.setCell ⟨V.heap.size, 3, none⟩ (.slice (some ⟨Z.heap.size, 0, none⟩) D'.length c) = S := ⟨_, rfl⟩
    have hSp : S.heap[V.heap.size]? = some (.cells #[.int .i64 fd.num, .int .i64 T, .int .u64 0, .slice (some ⟨Z.heap.size, 0, none⟩) D'.length c] 128 (0, 0)) := by rw [← hSe, setCell_heap hPW]; rfl
    have hSR : S.heap[w.heap.size + 3]? = some (.cells #[.int .i64 0, .int .i64 0, .int .u64 0, .slice none 0 0] 128 (0, 0)) := by rw [← hSe]; exact (Below.heap_setCell _ _ _ _ (by show w.heap.size + 3 ≠ V.heap.size; omega)).trans hRW
    have hSo : ∀ b, b ≠ V.heap.size → S.heap[b]? = W.heap[b]? := fun b hb => by rw [← hSe]; exact Below.heap_setCell _ _ _ _ hb
    have hSs : S.heap.size = W.heap.size := by rw [← hSe]; simp
    have hSb : Below V.heap.size V S := by rw [← hSe]; exact hWV.setCell (p := ⟨V.heap.size, 3, none⟩) (Nat.le_refl _) _
    have HSE := Lib.hid hSe
    clear hSe
    have m0 : S.cell? ⟨V.heap.size, 0, none⟩ = some (.int .i64 fd.num) := cell_at hSp 0 rfl
    have m1 : S.cell? ⟨V.heap.size, 1, none⟩ = some (.int .i64 T) := cell_at hSp 1 rfl
    have m2 : S.cell? ⟨V.heap.size, 2, none⟩ = some (.int .u64 0) := cell_at hSp 2 rfl
    have m3 : S.cell? ⟨V.heap.size, 3, none⟩ = some (.slice (some ⟨Z.heap.size, 0, none⟩) D'.length c) := cell_at hSp 3 rfl
    have k0 : S.cell? ⟨w.heap.size + 3, 0, none⟩ = some (.int .i64 0) := cell_at hSR 0 rfl
    have kf0 : S.frozen? ⟨w.heap.size + 3, 0, none⟩ = false := frz_at hSR 0
    have k1 : S.cell? ⟨w.heap.size + 3, 1, none⟩ = some (.int .i64 0) := cell_at hSR 1 rfl
    have kf1 : S.frozen? ⟨w.heap.size + 3, 1, none⟩ = false := frz_at hSR 1
    have k2 : S.cell? ⟨w.heap.size + 3, 2, none⟩ = some (.int .u64 0) := cell_at hSR 2 rfl
    have kf2 : S.frozen? ⟨w.heap.size + 3, 2, none⟩ = false := frz_at hSR 2
    have k3 : S.cell? ⟨w.heap.size + 3, 3, none⟩ = some (.slice none 0 0) := cell_at hSR 3 rfl
    have kf3 : S.frozen? ⟨w.heap.size + 3, 3, none⟩ = false := frz_at hSR 3
    obtain ⟨Q, hQ, hQc, hQo, hQs, hQb⟩ := set4V hSR (.int .i64 fd.num) (.int .i64 T) (.int .u64 0) (.slice (some ⟨Z.heap.size, 0, none⟩) D'.length c)
    have HQ := Lib.hid hQ
    have HQC := Lib.hid hQc
    have HRES : Hid (WfAns X w (.returned (.agg #[.int .i64 fd.num, .int .i64 T, .int .u64 0, .slice (some ⟨Z.heap.size, 0, none⟩) D'.length c])) Q) := by
      refine (?_ : WfAns _ _ _ _)
      rw [hXe]
      exact ⟨_, _, rfl, hbi.mv (fun b hb => (hQo b (by have := hb.1; omega)).trans (hSo b (by have := hb.1; omega))) (fun b hb => ⟨by have := hb.1; omega, by have := hb.2; omega⟩), (HBV.out.trans (hSb.mono HBV.out.size)).trans (hQb.mono (by omega))⟩
    clear hQ hQc hQo hQs hQb hXe
    clear hSp hSR hSo hSs hSb
    go_upto_region 9 with fail
    rw [HSE.out]
    clear kt kft
    go_wp2_with fail
    rw [HQ.out]
    have r0 := cell_at HQC.out 0 rfl
    have r1 := cell_at HQC.out 1 rfl
    have r2 := cell_at HQC.out 2 rfl
    have r3 := cell_at HQC.out 3 rfl
    refine bodyPost_ret (v := .agg #[.int .i64 fd.num, .int .i64 T, .int .u64 0, .slice (some ⟨Z.heap.size, 0, none⟩) D'.length c]) (by simp [results, Tryz.results76, go_sem, r0, r1, r2, r3]) rfl ?_
    exact HRES.out
  have k5' : (fd.kind == 5) = false := by simp [h5]
  by_cases h6 : fd.kind = 6
  · have hi : isNum fd.kind = false := by rw [h6]; rfl
    have hXe : X = ⟨fd.num, T, 0, ints z.s⟩ := by rw [← HX.out, hi, if_neg (by simp), h56 (by omega)]
    rw [h6] at c2
    have c4 := n4 Z hS1
    obtain ⟨W, c, hconv, hlc, hcm, hI, hWb, hWs⟩ := conv_bytes Z z.s hs
    have hWV := HS1.out.trans (hWb.mono HS1.out.size)
    have hPW := (hWb.block V.heap.size (by omega)).trans HDQ.out
    have hRW := (hWb.block (w.heap.size + 3) (by omega)).trans HRX.out
    have hbi : BIn W (fun b => Z.heap.size ≤ b ∧ b < W.heap.size) (some ⟨Z.heap.size, 0, none⟩) c (ints z.s) := conv_BIn hI (by omega) hs ⟨hlc, hcm⟩ _ ⟨Nat.le_refl _, by omega⟩
    rw [← ints_len] at hconv
    generalize ints z.s = D' at *
    clear hI hWb hlc hcm hc h56 hi h6 s0 s1 s2 q0 q2 n0 n1 n2 n3 n4 n5 n6 hnum hS1
    have kt : W.cell? ⟨V.heap.size, 3, none⟩ = some (.slice none 0 0) := cell_at hPW 3 rfl
    have kft : W.frozen? ⟨V.heap.size, 3, none⟩ = false := frz_at hPW 3
    obtain ⟨S, hSe⟩ : ∃ S, W.setCell ⟨V.heap.size, 3, none⟩ (.slice (some ⟨Z.heap.size, 0, none⟩) D'.length c) = S := ⟨_, rfl⟩
    have hSp : S.heap[V.heap.size]? = some (.cells #[.int .i64 fd.num, .int .i64 T, .int .u64 0, .slice (some ⟨Z.heap.size, 0, none⟩) D'.length c] 128 (0, 0)) := by rw [← hSe, setCell_heap hPW]; rfl
    have hSR : S.heap[w.heap.size + 3]? = some (.cells #[.int .i64 0, .int .i64 0, .int .u64 0, .slice none 0 0] 128 (0, 0)) := by rw [← hSe]; exact (Below.heap_setCell _ _ _ _ (by show w.heap.size + 3 ≠ V.heap.size; omega)).trans hRW
    have hSo : ∀ b, b ≠ V.heap.size → S.heap[b]? = W.heap[b]? := fun b hb => by rw [← hSe]; exact Below.heap_setCell _ _ _ _ hb
    have hSs : S.heap.size = W.heap.size := by rw [← hSe]; simp
    have hSb : Below V.heap.size V S := by rw [← hSe]; exact hWV.setCell (p := ⟨V.heap.size, 3, none⟩) (Nat.le_refl _) _
    have HSE := Lib.hid hSe
    clear hSe
    have m0 : S.cell? ⟨V.heap.size, 0, none⟩ = some (.int .i64 fd.num) := cell_at hSp 0 rfl
    have m1 : S.cell? ⟨V.heap.size, 1, none⟩ = some (.int .i64 T) := cell_at hSp 1 rfl
    have m2 : S.cell? ⟨V.heap.size, 2, none⟩ = some (.int .u64 0) := cell_at hSp 2 rfl
    have m3 : S.cell? ⟨V.heap.size, 3, none⟩ = some (.slice (some ⟨Z.heap.size, 0, none⟩) D'.length c) := cell_at hSp 3 rfl
    have k0 : S.cell? ⟨w.heap.size + 3, 0, none⟩ = some (.int .i64 0) := cell_at hSR 0 rfl
    have kf0 : S.frozen? ⟨w.heap.size + 3, 0, none⟩ = false := frz_at hSR 0
    have k1 : S.cell? ⟨w.heap.size + 3, 1, none⟩ = some (.int .i64 0) := cell_at hSR 1 rfl
    have kf1 : S.frozen? ⟨w.heap.size + 3, 1, none⟩ = false := frz_at hSR 1
    have k2 : S.cell? ⟨w.heap.size + 3, 2, none⟩ = some (.int .u64 0) := cell_at hSR 2 rfl
    have kf2 : S.frozen? ⟨w.heap.size + 3, 2, none⟩ = false := frz_at hSR 2
    have k3 : S.cell? ⟨w.heap.size + 3, 3, none⟩ = some (.slice none 0 0) := cell_at hSR 3 rfl
    have kf3 : S.frozen? ⟨w.heap.size + 3, 3, none⟩ = false := frz_at hSR 3
    obtain ⟨Q, hQ, hQc, hQo, hQs, hQb⟩ := set4V hSR (.int .i64 fd.num) (.int .i64 T) (.int .u64 0) (.slice (some ⟨Z.heap.size, 0, none⟩) D'.length c)
    have HQ := Lib.hid hQ
    have HQC := Lib.hid hQc
    have HRES : Hid (WfAns X w (.returned (.agg #[.int .i64 fd.num, .int .i64 T, .int .u64 0, .slice (some ⟨Z.heap.size, 0, none⟩) D'.length c])) Q) := by
      refine (?_ : WfAns _ _ _ _)
      rw [hXe]
      exact ⟨_, _, rfl, hbi.mv (fun b hb => (hQo b (by have := hb.1; omega)).trans (hSo b (by have := hb.1; omega))) (fun b hb => ⟨by have := hb.1; omega, by have := hb.2; omega⟩), (HBV.out.trans (hSb.mono HBV.out.size)).trans (hQb.mono (by omega))⟩
    clear hQ hQc hQo hQs hQb hXe
    clear hSp hSR hSo hSs hSb
    go_upto_region 9 with fail
    rw [HSE.out]
    clear kt kft
    go_wp2_with fail
    rw [HQ.out]
    have r0 := cell_at HQC.out 0 rfl
    have r1 := cell_at HQC.out 1 rfl
    have r2 := cell_at HQC.out 2 rfl
    have r3 := cell_at HQC.out 3 rfl
    refine bodyPost_ret (v := .agg #[.int .i64 fd.num, .int .i64 T, .int .u64 0, .slice (some ⟨Z.heap.size, 0, none⟩) D'.length c]) (by simp [results, Tryz.results76, go_sem, r0, r1, r2, r3]) rfl ?_
    exact HRES.out
  have k6' : (fd.kind == 6) = false := by simp [h6]
  by_cases h10 : fd.kind = 10
  · have hi : isNum fd.kind = false := by rw [h10]; rfl
    have hXe : X = ⟨fd.num, T, 0, D⟩ := by rw [← HX.out, hi, if_neg (by simp)]
    rw [h10] at c2
    have hco := hc h10 Z (HBV.out.trans (hS1.mono HBV.out.size))
    have b0 := s0 Z hS1
    have b1 := s1 Z hS1
    have b2 := s2 Z hS1
    have y0 := n0 Z hS1
    have y1 := n1 Z hS1
    have y2 := n2 Z hS1
    have y3 := n3 Z hS1
    have y4 := n4 Z hS1
    have y5 := n5 Z hS1
    have y6 := n6 Z hS1
    clear hc h56 hi s0 s1 s2 q0 q2 n0 n1 n2 n3 n4 n5 n6 hnum hS1
    go_wp2_with fail
    refine hco.mono ?_
    rintro e W ⟨a, c, rfl, hbi0, hWb⟩
    have hWV := HS1.out.trans (hWb.mono HS1.out.size)
    have hPW := (hWb.block V.heap.size (by omega)).trans HDQ.out
    have hRW := (hWb.block (w.heap.size + 3) (by omega)).trans HRX.out
    have hWs := hWb.size
    have hbi : BIn W (fun b => Z.heap.size ≤ b ∧ b < W.heap.size) a c D := hbi0
    clear hco hWb hbi0 b0 b1 b2 y0 y1 y2 y3 y4 y5 y6
    have kt : W.cell? ⟨V.heap.size, 3, none⟩ = some (.slice none 0 0) := cell_at hPW 3 rfl
    have kft : W.frozen? ⟨V.heap.size, 3, none⟩ = false := frz_at hPW 3
    obtain ⟨S, hSe⟩ : ∃ S, W.setCell ⟨V.heap.size, 3, none⟩ (.slice a D.length c) = S := ⟨_, rfl⟩
    have hSp : S.heap[V.heap.size]? = some (.cells #[.int .i64 fd.num, .int .i64 T, .int .u64 0, .slice a D.length c] 128 (0, 0)) := by rw [← hSe, setCell_heap hPW]; rfl
    have hSR : S.heap[w.heap.size + 3]? = some (.cells #[.int .i64 0, .int .i64 0, .int .u64 0, .slice none 0 0] 128 (0, 0)) := by rw [← hSe]; exact (Below.heap_setCell _ _ _ _ (by show w.heap.size + 3 ≠ V.heap.size; omega)).trans hRW
    have hSo : ∀ b, b ≠ V.heap.size → S.heap[b]? = W.heap[b]? := fun b hb => by rw [← hSe]; exact Below.heap_setCell _ _ _ _ hb
    have hSs : S.heap.size = W.heap.size := by rw [← hSe]; simp
    have hSb : Below V.heap.size V S := by rw [← hSe]; exact hWV.setCell (p := ⟨V.heap.size, 3, none⟩) (Nat.le_refl _) _
    have HSE := Lib.hid hSe
    clear hSe
    have m0 : S.cell? ⟨V.heap.size, 0, none⟩ = some (.int .i64 fd.num) := cell_at hSp 0 rfl
    have m1 : S.cell? ⟨V.heap.size, 1, none⟩ = some (.int .i64 T) := cell_at hSp 1 rfl
    have m2 : S.cell? ⟨V.heap.size, 2, none⟩ = some (.int .u64 0) := cell_at hSp 2 rfl
    have m3 : S.cell? ⟨V.heap.size, 3, none⟩ = some (.slice a D.length c) := cell_at hSp 3 rfl
    have k0 : S.cell? ⟨w.heap.size + 3, 0, none⟩ = some (.int .i64 0) := cell_at hSR 0 rfl
    have kf0 : S.frozen? ⟨w.heap.size + 3, 0, none⟩ = false := frz_at hSR 0
    have k1 : S.cell? ⟨w.heap.size + 3, 1, none⟩ = some (.int .i64 0) := cell_at hSR 1 rfl
    have kf1 : S.frozen? ⟨w.heap.size + 3, 1, none⟩ = false := frz_at hSR 1
    have k2 : S.cell? ⟨w.heap.size + 3, 2, none⟩ = some (.int .u64 0) := cell_at hSR 2 rfl
    have kf2 : S.frozen? ⟨w.heap.size + 3, 2, none⟩ = false := frz_at hSR 2
    have k3 : S.cell? ⟨w.heap.size + 3, 3, none⟩ = some (.slice none 0 0) := cell_at hSR 3 rfl
    have kf3 : S.frozen? ⟨w.heap.size + 3, 3, none⟩ = false := frz_at hSR 3
    obtain ⟨Q, hQ, hQc, hQo, hQs, hQb⟩ := set4V hSR (.int .i64 fd.num) (.int .i64 T) (.int .u64 0) (.slice a D.length c)
    have HQ := Lib.hid hQ
    have HQC := Lib.hid hQc
    have HRES : Hid (WfAns X w (.returned (.agg #[.int .i64 fd.num, .int .i64 T, .int .u64 0, .slice a D.length c])) Q) := by
      refine (?_ : WfAns _ _ _ _)
      rw [hXe]
      exact ⟨_, _, rfl, hbi.mv (fun b hb => (hQo b (by have := hb.1; omega)).trans (hSo b (by have := hb.1; omega))) (fun b hb => ⟨by have := hb.1; omega, by have := hb.2; omega⟩), (HBV.out.trans (hSb.mono HBV.out.size)).trans (hQb.mono (by omega))⟩
    clear hQ hQc hQo hQs hQb hXe
    clear hSp hSR hSo hSs hSb
    go_upto_region 9 with fail
    rw [HSE.out]
    clear kt kft
    go_wp2_with fail
    rw [HQ.out]
    have r0 := cell_at HQC.out 0 rfl
    have r1 := cell_at HQC.out 1 rfl
    have r2 := cell_at HQC.out 2 rfl
    have r3 := cell_at HQC.out 3 rfl
    refine bodyPost_ret (v := .agg #[.int .i64 fd.num, .int .i64 T, .int .u64 0, .slice a D.length c]) (by simp [results, Tryz.results76, go_sem, r0, r1, r2, r3]) rfl ?_
    exact HRES.out
  have k10' : (fd.kind == 10) = false := by simp [h10]
  have hi : isNum fd.kind = true := by unfold isNum; exact decide_eq_true ⟨h5, h6, h10⟩
  have hXe : X = ⟨fd.num, T, N, []⟩ := by rw [← HX.out, hi, if_pos rfl]
  have y0 := n0 Z hS1
  have y1 := n1 Z hS1
  have y2 := n2 Z hS1
  have y3 := n3 Z hS1
  have y4 := n4 Z hS1
  have y5 := n5 Z hS1
  have y6 := n6 Z hS1
  have hco := hnum Z
  clear hc h56 hi s0 s1 s2 q0 q2 n0 n1 n2 n3 n4 n5 n6 hnum hS1 h5 h6 h10
  go_wp2_with fail
  refine hco.mono ?_
  rintro e W ⟨rfl, hWb⟩
  have hWV := HS1.out.trans (hWb.mono HS1.out.size)
  have hPW := (hWb.block V.heap.size (by omega)).trans HDQ.out
  have hRW := (hWb.block (w.heap.size + 3) (by omega)).trans HRX.out
  clear hco hWb y0 y1 y2 y3 y4 y5 y6
  have kt : W.cell? ⟨V.heap.size, 2, none⟩ = some (.int .u64 0) := cell_at hPW 2 rfl
  have kft : W.frozen? ⟨V.heap.size, 2, none⟩ = false := frz_at hPW 2
  obtain ⟨S, hSe⟩ : ∃ S, W.setCell ⟨V.heap.size, 2, none⟩ (.int .u64 N) = S := ⟨_, rfl⟩
  have hSp : S.heap[V.heap.size]? = some (.cells #[.int .i64 fd.num, .int .i64 T, .int .u64 N, .slice none 0 0] 128 (0, 0)) := by rw [← hSe, setCell_heap hPW]; rfl
  have hSR : S.heap[w.heap.size + 3]? = some (.cells #[.int .i64 0, .int .i64 0, .int .u64 0, .slice none 0 0] 128 (0, 0)) := by rw [← hSe]; exact (Below.heap_setCell _ _ _ _ (by show w.heap.size + 3 ≠ V.heap.size; omega)).trans hRW
  have hSo : ∀ b, b ≠ V.heap.size → S.heap[b]? = W.heap[b]? := fun b hb => by rw [← hSe]; exact Below.heap_setCell _ _ _ _ hb
  have hSs : S.heap.size = W.heap.size := by rw [← hSe]; simp
  have hSb : Below V.heap.size V S := by rw [← hSe]; exact hWV.setCell (p := ⟨V.heap.size, 2, none⟩) (Nat.le_refl _) _
  have HSE := Lib.hid hSe
  clear hSe
  have m0 : S.cell? ⟨V.heap.size, 0, none⟩ = some (.int .i64 fd.num) := cell_at hSp 0 rfl
  have m1 : S.cell? ⟨V.heap.size, 1, none⟩ = some (.int .i64 T) := cell_at hSp 1 rfl
  have m2 : S.cell? ⟨V.heap.size, 2, none⟩ = some (.int .u64 N) := cell_at hSp 2 rfl
  have m3 : S.cell? ⟨V.heap.size, 3, none⟩ = some (.slice none 0 0) := cell_at hSp 3 rfl
  have k0 : S.cell? ⟨w.heap.size + 3, 0, none⟩ = some (.int .i64 0) := cell_at hSR 0 rfl
  have kf0 : S.frozen? ⟨w.heap.size + 3, 0, none⟩ = false := frz_at hSR 0
  have k1 : S.cell? ⟨w.heap.size + 3, 1, none⟩ = some (.int .i64 0) := cell_at hSR 1 rfl
  have kf1 : S.frozen? ⟨w.heap.size + 3, 1, none⟩ = false := frz_at hSR 1
  have k2 : S.cell? ⟨w.heap.size + 3, 2, none⟩ = some (.int .u64 0) := cell_at hSR 2 rfl
  have kf2 : S.frozen? ⟨w.heap.size + 3, 2, none⟩ = false := frz_at hSR 2
  have k3 : S.cell? ⟨w.heap.size + 3, 3, none⟩ = some (.slice none 0 0) := cell_at hSR 3 rfl
  have kf3 : S.frozen? ⟨w.heap.size + 3, 3, none⟩ = false := frz_at hSR 3
  obtain ⟨Q, hQ, hQc, hQo, hQs, hQb⟩ := set4V hSR (.int .i64 fd.num) (.int .i64 T) (.int .u64 N) (.slice none 0 0)
  have HQ := Lib.hid hQ
  have HQC := Lib.hid hQc
  have HRES : Hid (WfAns X w (.returned (.agg #[.int .i64 fd.num, .int .i64 T, .int .u64 N, .slice none 0 0])) Q) := by
    refine (?_ : WfAns _ _ _ _)
    rw [hXe]
    exact ⟨none, 0, rfl, BIn.nil _ _, (HBV.out.trans (hSb.mono HBV.out.size)).trans (hQb.mono (by omega))⟩
  clear hQ hQc hQo hQs hQb hXe
  clear hSp hSR hSo hSs hSb
  go_upto_region 9 with fail
  rw [HSE.out]
  clear kt kft
  go_wp2_with fail
  rw [HQ.out]
  have r0 := cell_at HQC.out 0 rfl
  have r1 := cell_at HQC.out 1 rfl
  have r2 := cell_at HQC.out 2 rfl
  have r3 := cell_at HQC.out 3 rfl
  refine bodyPost_ret (v := .agg #[.int .i64 fd.num, .int .i64 T, .int .u64 N, .slice none 0 0]) (by simp [results, Tryz.results76, go_sem, r0, r1, r2, r3]) rfl ?_
  exact HRES.out
end Go.Proofs.YtfhmombnipfimaaGreatDoor
