/-
  The walk over the document's fits.
-/
import Derived.Test.YtfhmombnipfimaaGreatDoorM14
import Derived.Test.YtfhmombnipfimaaGreatDoorM16
import Derived.Test.YtfhmombnipfimaaGreatDoorM23
import Derived.BigQuiet
import Derived.Deep.QuietTactic
namespace Go.Proofs.YtfhmombnipfimaaGreatDoor
set_option linter.unusedVariables false
open Go.ChangeShapes Go.WideShapes Go.ChangeAt Go.RowKit

theorem bdq {B : Nat} {w W : World} (h : Below B w W) (n : Nat) : Below B w (W.drewN n) := h.trans ⟨rfl, rfl, rfl, Nat.le_refl _, fun _ _ => rfl⟩
set_option maxHeartbeats 64000000 in
set_option maxRecDepth 20000 in
theorem fitsR_any (ma ea ta : Option Addr) (nm ne nt mc ec tc : Nat) (ms : List MD) (hnm : ms.length = nm) (hok : TyOK ms) : ∀ (f : Nat) (t dep : Int) (x z : Nd) (la : Option Addr) (ln lc : Nat) (w : World), z = cn x → Tabs w → 0 ≤ dep ∧ dep ≤ 100 → 0 ≤ t → t < (nm : Int) → HeldM w (fun b => b < w.heap.size) (.slice ma nm mc) ms → FitG 100000 10000 f x → (x.kind = 7 → HeldG clS w (fun b => b < w.heap.size) f (.slice la ln lc) x.fields) →
    Calls Tryz.prog 35 #[.agg #[.slice ma nm mc, .slice ea ne ec, .slice ta nt tc], .int .i64 t, .agg #[.int .i64 z.kind, .int .i64 z.n, .int .u64 z.u, .bool z.b, .string (mkB z.s), .int .i64 z.type, .slice la ln lc], .int .i64 dep] w fun e w' => e = .returned (.bool (fitR ms f dep t x)) ∧ Below w.heap.size w w' := by
  intro f
  induction f using Nat.strongRecOn with
  | _ f ih =>
  intro t dep x z la ln lc w hz hT hdep ht0 ht1 hHM hfit hHG
  obtain ⟨R, hR⟩ : ∃ R, fitR ms f dep t x = R := ⟨_, rfl⟩
  rw [hR]
  rw [fitR_eq, topR, ← hz] at hR
  have HR := Lib.hid hR
  have HZ := Lib.hid hz
  clear hR hz
  obtain ⟨zk, zn, zu, zb, zs, zt, zf⟩ := z
  dsimp only at HR ⊢
  obtain ⟨Y, hY, hC, hb, hYs⟩ := box_new w #[.slice ma nm mc, .slice ea ne ec, .slice ta nt tc] 26
  obtain ⟨V, hV, hD, hVb, hVs⟩ := box_new Y #[.int .i64 zk, .int .i64 zn, .int .u64 zu, .bool zb, .string (mkB zs), .int .i64 zt, .slice la ln lc] 30
  rw [hYs] at hD
  have HY := Lib.hid hY
  have HV := Lib.hid hV
  have hBV := hb.trans (hVb.mono hb.size)
  have HBV := Lib.hid hBV
  have hCV := (hVb.block _ (by omega)).trans hC
  have hVl : w.heap.size + 2 ≤ V.heap.size := by omega
  have n0 : ∀ W, Below V.heap.size V W → W.cell? ⟨w.heap.size + 1, 0, none⟩ = some (.int .i64 zk) := fun W hW => (hW.cell (by simp; omega)).trans (cell_at hD 0 rfl)
  have n4 : ∀ W, Below V.heap.size V W → W.cell? ⟨w.heap.size + 1, 4, none⟩ = some (.string (mkB zs)) := fun W hW => (hW.cell (by simp; omega)).trans (cell_at hD 4 rfl)
  have n5 : ∀ W, Below V.heap.size V W → W.cell? ⟨w.heap.size + 1, 5, none⟩ = some (.int .i64 zt) := fun W hW => (hW.cell (by simp; omega)).trans (cell_at hD 5 rfl)
  have n6 : ∀ W, Below V.heap.size V W → W.cell? ⟨w.heap.size + 1, 6, none⟩ = some (.slice la ln lc) := fun W hW => (hW.cell (by simp; omega)).trans (cell_at hD 6 rfl)
  have s0 : ∀ W, Below V.heap.size V W → W.cell? ⟨w.heap.size, 0, none⟩ = some (.slice ma nm mc) := fun W hW => (hW.cell (by simp; omega)).trans (cell_at hCV 0 rfl)
  have s1 : ∀ W, Below V.heap.size V W → W.cell? ⟨w.heap.size, 1, none⟩ = some (.slice ea ne ec) := fun W hW => (hW.cell (by simp; omega)).trans (cell_at hCV 1 rfl)
  have s2 : ∀ W, Below V.heap.size V W → W.cell? ⟨w.heap.size, 2, none⟩ = some (.slice ta nt tc) := fun W hW => (hW.cell (by simp; omega)).trans (cell_at hCV 2 rfl)
  have hS0 : Below V.heap.size V V.drew := (Below.refl _ _).drew
  have HT := Lib.hid hT
  have HHM := Lib.hid hHM
  have HNM := Lib.hid hnm
  have HOK := Lib.hid hok
  have HIH := Lib.hid ih
  have HFIT := Lib.hid hfit
  have HBD : Hid (Below w.heap.size w V.drew) := hBV.drew
  clear hC hY hb hYs hV hD hVb hVs hCV hBV hT hHM hnm hok ih hfit
  obtain ⟨q, hq⟩ : ∃ q : Nat, t = (q : Int) := ⟨t.toNat, by omega⟩
  subst hq
  have hqn : q < nm := by omega
  obtain ⟨m, hm⟩ : ∃ m, ms[q]? = some m := ⟨_, List.getElem?_eq_getElem (by have := HNM.out; omega)⟩
  have HRB : Hid ((decide (zk = 7 ∧ zt = (q : Int) ∧ dep ≤ 16) && (noneOf (knownR m.fields) zs && allB (atB zf (fun k y => risesR zf k y && fldR (recR ms dep f) m.fields y)) zf.length)) = R) := by
    refine (?_ : _ = _)
    rw [← HR.out]
    simp only [Int.toNat_natCast, hm]
    rfl
  have hmm := List.mem_of_getElem? hm
  obtain ⟨g, oo, c0, ka, kc, hsl, hg, e0, e1, hrow⟩ := HeldN.at HHM.out (W := V) (fun b hb => HBV.out.block b hb) hm
  rw [HNM.out] at hsl
  obtain ⟨rfl, rfl⟩ := slice_two hsl
  obtain ⟨hml, hmt⟩ := HOK.out m hmm
  obtain ⟨mname, mfs⟩ := m
  dsimp only at hrow e0 e1 hml hmt HRB
  obtain ⟨nf, hnf⟩ : ∃ n, mfs.length = n := ⟨_, rfl⟩
  have HNF := Lib.hid hnf
  rw [hnf] at hrow e1 hml
  have HMT := Lib.hid hmt
  have hgN : g < w.heap.size := hg
  have m0 : ∀ W, Below V.heap.size V W → W.cell? ⟨g, oo + q * 2, none⟩ = some (.string (mkB mname)) := fun W hW => (hW.cell (by simp; omega)).trans e0
  have m1 : ∀ W, Below V.heap.size V W → W.cell? ⟨g, oo + q * 2 + 1, none⟩ = some (.slice ka nf kc) := fun W hW => (hW.cell (by simp; omega)).trans e1
  have HROW : Hid (∀ W, Below V.heap.size V W → RowsIn W (fun b => b < W.heap.size) 5 fdrow (.slice ka nf kc) mfs) := fun W hW => (RowsIn.old hrow fun b hb => hW.block b (by have hb' : b < w.heap.size := hb; omega)).more fun b hb => by have hb' : b < w.heap.size := hb; have := hW.size; omega
  have hq0 : (0 : Int) ≤ (q : Int) := by omega
  have hq1 : (q : Int) < (nm : Int) := by omega
  have hxs : zs.length ≤ 100000 := by
    have h1 := HFIT.out.s
    have h2 : zs = (cn x).s := by rw [← HZ.out]
    have h3 : (cn x).s = x.s ∨ (cn x).s = [] := by
      unfold cn
      dsimp only
      split
      · exact .inl rfl
      · exact .inr rfl
    rw [h2]
    rcases h3 with h3 | h3 <;> rw [h3]
    · exact h1
    · exact Nat.zero_le _
  have hun : ∀ W, Below V.heap.size V W → Calls Tryz.prog 54 #[.agg #[.string (mkB mname), .slice ka nf kc], .string (mkB zs)] W fun e w' => e = .returned (.bool (noneOf (knownR mfs) zs)) ∧ Below V.heap.size V w' := fun W hW => (noneR_any mname ka nf kc mfs zs W HNF.out hml hxs (HROW.out W hW)).mono fun e w' ⟨h1, h2⟩ => ⟨h1, hW.trans (h2.mono hW.size)⟩
  obtain ⟨B, hB⟩ : ∃ B, noneOf (knownR mfs) zs = B := ⟨_, rfl⟩
  rw [hB] at HRB
  simp only [hB] at hun
  have HXK : Hid (zk = 7 → x.kind = 7 ∧ zf = x.fields) := by
    refine (?_ : _ → _)
    intro hk
    have h1 : (cn x).kind = 7 := by rw [← HZ.out]; exact hk
    rw [cn_kind (by decide) (by decide)] at h1
    have h2 := cn_fields h1
    rw [← HZ.out] at h2
    exact ⟨h1, h2⟩
  clear hsl hnf hm hmm hmt hqn ht0 ht1 hB hrow e0 e1 hg HR HZ
  go_enter Tryz.func35, Tryz.ntmps35
  go_upto_region 1 with fail
  rw [HY.out, HV.out]
  go_cut [38] (fun v wx => RegAns V (R = false) (zk = 7 ∧ zt = (q : Int) ∧ dep ≤ 16 ∧ B = true) v wx)
  case first =>
    clear HIH
    by_cases hk : zk = 7
    case neg =>
      have hk' : (zk != 7) = true := by simp [hk]
      have HNO : Hid (R = false) := by
        have hno : ¬ (zk = 7 ∧ zt = (q : Int) ∧ dep ≤ 16) := fun h => hk h.1
        refine (?_ : _ = _)
        rw [← HRB.out, decide_eq_false hno, Bool.false_and]
      clear hk HRB
      refine wp_region_held_drew (S := fun W => Below V.heap.size V W) (by kernel_rfl) hS0 (fun _ => ?_)
      refine T_on 0 (.pointer (some ⟨w.heap.size + 1, 0, none⟩)) rfl (by kernel_rfl) (fun _ _ _ h => h) hS0 (fun W hW => by go_simp) ?_
      refine T_on 1 (.int .i64 zk) rfl (by kernel_rfl) (fun _ _ _ h => h) hS0 (fun W hW => by have c := n0 W hW; go_simp) ?_
      refine T_on 2 (.bool true) rfl (by kernel_rfl) (fun _ _ _ h => h) hS0 (fun W hW => by go_simp) ?_
      refine T_on 3 (.bool true) rfl (by kernel_rfl) (fun _ _ _ h => h) hS0 (fun W hW => by go_simp) ?_
      refine T_off 4 rfl (by kernel_rfl) (fun _ _ _ h => h) hS0 ?_
      refine T_off 5 rfl (by kernel_rfl) (fun _ _ _ h => h) hS0 ?_
      refine T_off 6 rfl (by kernel_rfl) (fun _ _ _ h => h) hS0 ?_
      refine T_off 7 rfl (by kernel_rfl) (fun _ _ _ h => h) hS0 ?_
      refine T_on 8 (.bool true) rfl (by kernel_rfl) (fun _ _ _ h => h) hS0 (fun W hW => by go_simp) ?_
      refine T_on 9 (.bool true) rfl (by kernel_rfl) (fun _ _ _ h => h) hS0 (fun W hW => by go_simp) ?_
      refine T_off 10 rfl (by kernel_rfl) (fun _ _ _ h => h) hS0 ?_
      refine T_off 11 rfl (by kernel_rfl) (fun _ _ _ h => h) hS0 ?_
      refine T_on 12 (.bool true) rfl (by kernel_rfl) (fun _ _ _ h => h) hS0 (fun W hW => by go_simp) ?_
      refine T_on 13 (.bool true) rfl (by kernel_rfl) (fun _ _ _ h => h) hS0 (fun W hW => by go_simp) ?_
      refine T_off 14 rfl (by kernel_rfl) (fun _ _ _ h => h) hS0 ?_
      refine T_off 15 rfl (by kernel_rfl) (fun _ _ _ h => h) hS0 ?_
      refine T_off 16 rfl (by kernel_rfl) (fun _ _ _ h => h) hS0 ?_
      refine T_off 17 rfl (by kernel_rfl) (fun _ _ _ h => h) hS0 ?_
      refine T_off 18 rfl (by kernel_rfl) (fun _ _ _ h => h) hS0 ?_
      refine T_off 19 rfl (by kernel_rfl) (fun _ _ _ h => h) hS0 ?_
      refine T_off 20 rfl (by kernel_rfl) (fun _ _ _ h => h) hS0 ?_
      refine T_off 21 rfl (by kernel_rfl) (fun _ _ _ h => h) hS0 ?_
      refine T_off 22 rfl (by kernel_rfl) (fun _ _ _ h => h) hS0 ?_
      refine T_on 23 (.bool true) rfl (by kernel_rfl) (fun _ _ _ h => h) hS0 (fun W hW => by go_simp) ?_
      refine wpAnyH_done (by kernel_rfl) ?_ _
      go_simp
      go_wp2_with fail
      go_meet
      exact ⟨true, rfl, hS0, (fun _ => HNO.out), (fun h => by cases h)⟩
    subst hk
    by_cases hty : zt = (q : Int)
    case neg =>
      have hty' : (zt != (q : Int)) = true := by simp [hty]
      have HNO : Hid (R = false) := by
        have hno : ¬ ((7 : Int) = 7 ∧ zt = (q : Int) ∧ dep ≤ 16) := fun h => hty h.2.1
        refine (?_ : _ = _)
        rw [← HRB.out, decide_eq_false hno, Bool.false_and]
      clear hty HRB
      refine wp_region_held_drew (S := fun W => Below V.heap.size V W) (by kernel_rfl) hS0 (fun _ => ?_)
      refine T_on 0 (.pointer (some ⟨w.heap.size + 1, 0, none⟩)) rfl (by kernel_rfl) (fun _ _ _ h => h) hS0 (fun W hW => by go_simp) ?_
      refine T_on 1 (.int .i64 7) rfl (by kernel_rfl) (fun _ _ _ h => h) hS0 (fun W hW => by have c := n0 W hW; go_simp) ?_
      refine T_on 2 (.bool false) rfl (by kernel_rfl) (fun _ _ _ h => h) hS0 (fun W hW => by go_simp) ?_
      refine T_on 3 (.bool false) rfl (by kernel_rfl) (fun _ _ _ h => h) hS0 (fun W hW => by go_simp) ?_
      refine T_on 4 (.pointer (some ⟨w.heap.size + 1, 5, none⟩)) rfl (by kernel_rfl) (fun _ _ _ h => h) hS0 (fun W hW => by go_simp) ?_
      refine T_on 5 (.int .i64 zt) rfl (by kernel_rfl) (fun _ _ _ h => h) hS0 (fun W hW => by have c := n5 W hW; go_simp) ?_
      refine T_on 6 (.int .i64 (q : Int)) rfl (by kernel_rfl) (fun _ _ _ h => h) hS0 (fun W hW => by go_simp) ?_
      refine T_on 7 (.bool true) rfl (by kernel_rfl) (fun _ _ _ h => h) hS0 (fun W hW => by go_simp) ?_
      refine T_on 8 (.bool true) rfl (by kernel_rfl) (fun _ _ _ h => h) hS0 (fun W hW => by go_simp) ?_
      refine T_on 9 (.bool true) rfl (by kernel_rfl) (fun _ _ _ h => h) hS0 (fun W hW => by go_simp) ?_
      refine T_off 10 rfl (by kernel_rfl) (fun _ _ _ h => h) hS0 ?_
      refine T_off 11 rfl (by kernel_rfl) (fun _ _ _ h => h) hS0 ?_
      refine T_on 12 (.bool true) rfl (by kernel_rfl) (fun _ _ _ h => h) hS0 (fun W hW => by go_simp) ?_
      refine T_on 13 (.bool true) rfl (by kernel_rfl) (fun _ _ _ h => h) hS0 (fun W hW => by go_simp) ?_
      refine T_off 14 rfl (by kernel_rfl) (fun _ _ _ h => h) hS0 ?_
      refine T_off 15 rfl (by kernel_rfl) (fun _ _ _ h => h) hS0 ?_
      refine T_off 16 rfl (by kernel_rfl) (fun _ _ _ h => h) hS0 ?_
      refine T_off 17 rfl (by kernel_rfl) (fun _ _ _ h => h) hS0 ?_
      refine T_off 18 rfl (by kernel_rfl) (fun _ _ _ h => h) hS0 ?_
      refine T_off 19 rfl (by kernel_rfl) (fun _ _ _ h => h) hS0 ?_
      refine T_off 20 rfl (by kernel_rfl) (fun _ _ _ h => h) hS0 ?_
      refine T_off 21 rfl (by kernel_rfl) (fun _ _ _ h => h) hS0 ?_
      refine T_off 22 rfl (by kernel_rfl) (fun _ _ _ h => h) hS0 ?_
      refine T_on 23 (.bool true) rfl (by kernel_rfl) (fun _ _ _ h => h) hS0 (fun W hW => by go_simp) ?_
      refine wpAnyH_done (by kernel_rfl) ?_ _
      go_simp
      go_wp2_with fail
      go_meet
      exact ⟨true, rfl, hS0, (fun _ => HNO.out), (fun h => by cases h)⟩
    subst hty
    by_cases hd16 : dep ≤ 16
    case neg =>
      have hd2 : 16 < dep := by omega
      have HNO : Hid (R = false) := by
        have hno : ¬ ((7 : Int) = 7 ∧ (q : Int) = (q : Int) ∧ dep ≤ 16) := fun h => hd16 h.2.2
        refine (?_ : _ = _)
        rw [← HRB.out, decide_eq_false hno, Bool.false_and]
      clear hd16 HRB
      refine wp_region_held_drew (S := fun W => Below V.heap.size V W) (by kernel_rfl) hS0 (fun _ => ?_)
      refine T_on 0 (.pointer (some ⟨w.heap.size + 1, 0, none⟩)) rfl (by kernel_rfl) (fun _ _ _ h => h) hS0 (fun W hW => by go_simp) ?_
      refine T_on 1 (.int .i64 7) rfl (by kernel_rfl) (fun _ _ _ h => h) hS0 (fun W hW => by have c := n0 W hW; go_simp) ?_
      refine T_on 2 (.bool false) rfl (by kernel_rfl) (fun _ _ _ h => h) hS0 (fun W hW => by go_simp) ?_
      refine T_on 3 (.bool false) rfl (by kernel_rfl) (fun _ _ _ h => h) hS0 (fun W hW => by go_simp) ?_
      refine T_on 4 (.pointer (some ⟨w.heap.size + 1, 5, none⟩)) rfl (by kernel_rfl) (fun _ _ _ h => h) hS0 (fun W hW => by go_simp) ?_
      refine T_on 5 (.int .i64 (q : Int)) rfl (by kernel_rfl) (fun _ _ _ h => h) hS0 (fun W hW => by have c := n5 W hW; go_simp) ?_
      refine T_on 6 (.int .i64 (q : Int)) rfl (by kernel_rfl) (fun _ _ _ h => h) hS0 (fun W hW => by go_simp) ?_
      refine T_on 7 (.bool false) rfl (by kernel_rfl) (fun _ _ _ h => h) hS0 (fun W hW => by go_simp) ?_
      refine T_on 8 (.bool false) rfl (by kernel_rfl) (fun _ _ _ h => h) hS0 (fun W hW => by go_simp) ?_
      refine T_on 9 (.bool false) rfl (by kernel_rfl) (fun _ _ _ h => h) hS0 (fun W hW => by go_simp) ?_
      refine T_on 10 (.int .i64 dep) rfl (by kernel_rfl) (fun _ _ _ h => h) hS0 (fun W hW => by go_simp) ?_
      refine T_on 11 (.bool true) rfl (by kernel_rfl) (fun _ _ _ h => h) hS0 (fun W hW => by go_simp) ?_
      refine T_on 12 (.bool true) rfl (by kernel_rfl) (fun _ _ _ h => h) hS0 (fun W hW => by go_simp) ?_
      refine T_on 13 (.bool true) rfl (by kernel_rfl) (fun _ _ _ h => h) hS0 (fun W hW => by go_simp) ?_
      refine T_off 14 rfl (by kernel_rfl) (fun _ _ _ h => h) hS0 ?_
      refine T_off 15 rfl (by kernel_rfl) (fun _ _ _ h => h) hS0 ?_
      refine T_off 16 rfl (by kernel_rfl) (fun _ _ _ h => h) hS0 ?_
      refine T_off 17 rfl (by kernel_rfl) (fun _ _ _ h => h) hS0 ?_
      refine T_off 18 rfl (by kernel_rfl) (fun _ _ _ h => h) hS0 ?_
      refine T_off 19 rfl (by kernel_rfl) (fun _ _ _ h => h) hS0 ?_
      refine T_off 20 rfl (by kernel_rfl) (fun _ _ _ h => h) hS0 ?_
      refine T_off 21 rfl (by kernel_rfl) (fun _ _ _ h => h) hS0 ?_
      refine T_off 22 rfl (by kernel_rfl) (fun _ _ _ h => h) hS0 ?_
      refine T_on 23 (.bool true) rfl (by kernel_rfl) (fun _ _ _ h => h) hS0 (fun W hW => by go_simp) ?_
      refine wpAnyH_done (by kernel_rfl) ?_ _
      go_simp
      go_wp2_with fail
      go_meet
      exact ⟨true, rfl, hS0, (fun _ => HNO.out), (fun h => by cases h)⟩
    have hd17 : ¬ (16 : Int) < dep := by omega
    refine wp_region_held_drew (S := fun W => Below V.heap.size V W) (by kernel_rfl) hS0 (fun _ => ?_)
    refine T_on 0 (.pointer (some ⟨w.heap.size + 1, 0, none⟩)) rfl (by kernel_rfl) (fun _ _ _ h => h) hS0 (fun W hW => by go_simp) ?_
    refine T_on 1 (.int .i64 7) rfl (by kernel_rfl) (fun _ _ _ h => h) hS0 (fun W hW => by have c := n0 W hW; go_simp) ?_
    refine T_on 2 (.bool false) rfl (by kernel_rfl) (fun _ _ _ h => h) hS0 (fun W hW => by go_simp) ?_
    refine T_on 3 (.bool false) rfl (by kernel_rfl) (fun _ _ _ h => h) hS0 (fun W hW => by go_simp) ?_
    refine T_on 4 (.pointer (some ⟨w.heap.size + 1, 5, none⟩)) rfl (by kernel_rfl) (fun _ _ _ h => h) hS0 (fun W hW => by go_simp) ?_
    refine T_on 5 (.int .i64 (q : Int)) rfl (by kernel_rfl) (fun _ _ _ h => h) hS0 (fun W hW => by have c := n5 W hW; go_simp) ?_
    refine T_on 6 (.int .i64 (q : Int)) rfl (by kernel_rfl) (fun _ _ _ h => h) hS0 (fun W hW => by go_simp) ?_
    refine T_on 7 (.bool false) rfl (by kernel_rfl) (fun _ _ _ h => h) hS0 (fun W hW => by go_simp) ?_
    refine T_on 8 (.bool false) rfl (by kernel_rfl) (fun _ _ _ h => h) hS0 (fun W hW => by go_simp) ?_
    refine T_on 9 (.bool false) rfl (by kernel_rfl) (fun _ _ _ h => h) hS0 (fun W hW => by go_simp) ?_
    refine T_on 10 (.int .i64 dep) rfl (by kernel_rfl) (fun _ _ _ h => h) hS0 (fun W hW => by go_simp) ?_
    refine T_on 11 (.bool false) rfl (by kernel_rfl) (fun _ _ _ h => h) hS0 (fun W hW => by go_simp) ?_
    refine T_on 12 (.bool false) rfl (by kernel_rfl) (fun _ _ _ h => h) hS0 (fun W hW => by go_simp) ?_
    refine T_on 13 (.bool false) rfl (by kernel_rfl) (fun _ _ _ h => h) hS0 (fun W hW => by go_simp) ?_
    refine T_on 14 (.pointer (some ⟨w.heap.size, 0, none⟩)) rfl (by kernel_rfl) (fun _ _ _ h => h) hS0 (fun W hW => by go_simp) ?_
    refine T_on 15 (.slice (some ⟨g, oo, none⟩) nm mc) rfl (by kernel_rfl) (fun _ _ _ h => h) hS0 (fun W hW => by have c := s0 W hW; go_simp) ?_
    refine T_on 16 (.int .i64 (q : Int)) rfl (by kernel_rfl) (fun _ _ _ h => h) hS0 (fun W hW => by go_simp) ?_
    refine T_on 17 (.pointer (some ⟨g, oo + q * 2, none⟩)) rfl (by kernel_rfl) (fun _ _ _ h => h) hS0 (fun W hW => by go_simp) ?_
    refine T_on 18 (.agg #[.string (mkB mname), .slice ka nf kc]) rfl (by kernel_rfl) (fun _ _ _ h => h) hS0 (fun W hW => by have c := m0 W hW; have c2 := m1 W hW; go_simp) ?_
    refine T_on 19 (.pointer (some ⟨w.heap.size + 1, 4, none⟩)) rfl (by kernel_rfl) (fun _ _ _ h => h) hS0 (fun W hW => by go_simp) ?_
    refine T_on 20 (.string (mkB zs)) rfl (by kernel_rfl) (fun _ _ _ h => h) hS0 (fun W hW => by have c := n4 W hW; go_simp) ?_
    refine T_call 21 (by kernel_rfl) rfl (fun K hK => ?_)
    go_simp
    refine (hun _ hS0).mono ?_
    rintro e W9 ⟨rfl, hW9⟩
    clear hS0
    have hS0 := hW9
    clear hW9
    dsimp only
    refine hK.out _ _ hS0 (fun _ => ?_)
    clear hK K
    refine T_on 22 (.bool (!B)) rfl (by kernel_rfl) (fun _ _ _ h => h) hS0 (fun W hW => by go_simp) ?_
    refine T_on 23 (.bool (!B)) rfl (by kernel_rfl) (fun _ _ _ h => h) hS0 (fun W hW => by go_simp) ?_
    refine wpAnyH_done (by kernel_rfl) ?_ _
    go_simp
    go_wp2_with fail
    go_meet
    refine ⟨!B, rfl, hS0, fun h => ?_, fun h => ?_⟩
    · have e : B = false := by simpa using h
      rw [← HRB.out, e]; simp
    · have e : B = true := by simpa using h
      exact ⟨by first | rfl | trivial, by first | rfl | trivial, by omega, e⟩
  case rest =>
  obtain ⟨b, rfl, hS1, hA1, hA2⟩ := hcut
  have HAA := Lib.hid hA1
  have HAB := Lib.hid hA2
  clear hA1 hA2
  generalize wc = U at *
  have HU := Lib.hid hS1
  have HBU := Lib.hid (HBV.out.trans (hS1.mono HBV.out.size))
  have hUs := hS1.size
  have u6 := n6 U hS1
  clear hS0 hS1 hun HBD
  cases b
  case true =>
    have e : R = false := HAA.out rfl
    subst e
    clear HIH HRB
    go_wp2_with fail
    go_ret
    exact ⟨rfl, HBU.out⟩
  obtain ⟨hk, hty, hd16, hB⟩ := HAB.out rfl
  subst hk hty hB
  clear HAA HAB
  rw [decide_eq_true ⟨rfl, rfl, hd16⟩, Bool.true_and, Bool.true_and] at HRB
  obtain ⟨hxk, hzf⟩ := HXK.out rfl
  have hHG := hHG hxk
  have hfit := HFIT.out
  obtain ⟨n, hn⟩ : ∃ n, zf.length = n := ⟨_, rfl⟩
  have HN := Lib.hid hn
  rw [← hzf] at hHG
  obtain ⟨la2, lc2, hl2⟩ := HeldG.isSl hHG
  rw [hn] at hl2
  have hln : ln = n := by injection hl2
  subst hln
  have HHG := Lib.hid hHG
  have HFZ : Hid (zf = x.fields) := hzf
  clear hxk hHG hn hl2 HXK hzf hfit
  go_wp2_with fail
  clear u6
  go_loopw [42] (fun i wr => ∃ (k : Nat), i = .int .i64 (k : Int) ∧ k ≤ ln ∧ allB (atB zf (fun k y => risesR zf k y && fldR (recR ms dep f) mfs y)) k = true ∧ Below U.heap.size U wr) (fun i _ => ln - (intOf i).toNat)
  case atStart => exact ⟨0, rfl, Nat.zero_le _, rfl, Below.refl _ _⟩
  case round =>
    generalize wr = w1 at *
    obtain ⟨k, rfl, hkl, hall, hbel⟩ := hrel
    have HA := Lib.hid hall
    have hBw1 := HBU.out.trans (hbel.mono HBU.out.size)
    have HBw := Lib.hid hBw1
    have HBE := Lib.hid hbel
    have hVw := HU.out.trans (hbel.mono HU.out.size)
    have HVw := Lib.hid hVw
    have hws := hbel.size
    by_cases hkn : k < ln
    · obtain ⟨y, hy⟩ : ∃ y, zf[k]? = some y := ⟨_, List.getElem?_eq_getElem (by have := HN.out; omega)⟩
      obtain ⟨f', gg, go, gc, va, vc, hf', hsl, hgg, e0, e1, hvals⟩ := HeldG.at HHG.out (W := w1) (fun b hb => hBw1.block b hb) hy
      subst hf'
      rw [HN.out] at hsl
      obtain ⟨rfl, rfl⟩ := slice_two hsl
      have HKB : Hid (atB zf (fun k y => risesR zf k y && fldR (recR ms dep (f' + 1)) mfs y) k = (risesR zf k y && fldR (recR ms dep (f' + 1)) mfs y)) := atB_some hy
      have hFZ : zf = x.fields := HFZ.out
      obtain ⟨hfl1, hfl2⟩ := HFIT.out.2.2 y (by rw [← hFZ]; exact List.mem_of_getElem? hy)
      have hn1 : ln ≤ 10000 := by have h1 := HFIT.out.2.1; rw [← hFZ] at h1; have h2 := HN.out; omega
      have HPV : Hid (∀ kp, k = kp + 1 → w1.cell? ⟨gg, go + kp * 2, none⟩ = some (.int .i64 (prevF zf k))) := by
        refine (?_ : ∀ kp, _ → _)
        rintro kp rfl
        obtain ⟨yp, hyp⟩ : ∃ y, zf[kp]? = some y := ⟨_, List.getElem?_eq_getElem (by have := HN.out; omega)⟩
        obtain ⟨_, gp, op, cp, _, _, _, hslp, _, ep, _, _⟩ := HeldG.at HHG.out (W := w1) (fun b hb => hBw1.block b hb) hyp
        obtain ⟨hap, _⟩ := slice_two hslp
        injection hap with hap
        injection hap with hap1 hap2
        subst hap1 hap2
        rw [prevF_step hyp]; exact ep
      obtain ⟨ynum, ys⟩ := y
      dsimp only at hvals e0 e1 HKB hfl1 hfl2
      obtain ⟨mv, hmv⟩ : ∃ n, ys.length = n := ⟨_, rfl⟩
      have HMV := Lib.hid hmv
      rw [hmv] at e1 hvals hfl1
      have HFL2 := Lib.hid hfl2
      have HVA := Lib.hid hvals
      have hk0 : (0 : Int) ≤ (k : Int) := by omega
      have hk1 : (k : Int) < (ln : Int) := by omega
      have hwq : IntKind.i64.wrap ((k : Int) + 1) = (k : Int) + 1 := by rw [IntKind.wrap_i64]; omega
      have z6 := n6 w1 hVw
      have hggN : gg < w.heap.size := hgg
      obtain ⟨p, hp⟩ : ∃ p, prevF zf k = p := ⟨_, rfl⟩
      rw [hp] at HPV
      have HRI : Hid (risesR zf k (ynum, ys) = (decide (k = 0) || decide (p < ynum))) := by
        refine (?_ : _ = _)
        unfold risesR
        rw [hp]
      clear hsl hy hgg hvals hmv hfl2 hbel hall hBw1 hVw hFZ hp
      have hC : (w1.alloc (.cells #[.int .i64 ynum, .slice va mv vc] 81)).heap[w1.heap.size]? = some (.cells #[.int .i64 ynum, .slice va mv vc] 81 (0, 0)) := alloc_heap_new _ _
      have hCb : Below w1.heap.size w1 (w1.alloc (.cells #[.int .i64 ynum, .slice va mv vc] 81)) := (Below.refl _ w1).alloc (Nat.le_refl _) _
      go_upto_region 7 with fail
      generalize (w1.alloc (.cells #[.int .i64 ynum, .slice va mv vc] 81)) = X at *
      have HBX := Lib.hid (HBw.out.trans (hCb.mono HBw.out.size))
      have HUX := Lib.hid (HBE.out.trans (hCb.mono hws))
      have HX := Lib.hid hC
      have hXs : w1.heap.size + 1 ≤ X.heap.size := by have := (Array.getElem?_eq_some_iff.1 hC).1; omega
      have HVX : Hid (∀ W, Below X.heap.size X W → Below V.heap.size V W) := fun W hW => (HVw.out.trans (hCb.mono HVw.out.size)).trans (hW.mono (HVw.out.trans (hCb.mono HVw.out.size)).size)
      have x0 : ∀ W, Below X.heap.size X W → W.cell? ⟨w1.heap.size, 0, none⟩ = some (.int .i64 ynum) := fun W hW => (hW.cell (by simp; omega)).trans (cell_at HX.out 0 rfl)
      have x1 : ∀ W, Below X.heap.size X W → W.cell? ⟨w1.heap.size, 1, none⟩ = some (.slice va mv vc) := fun W hW => (hW.cell (by simp; omega)).trans (cell_at HX.out 1 rfl)
      have HPX : Hid (∀ W, Below X.heap.size X W → ∀ kp, k = kp + 1 → W.cell? ⟨gg, go + kp * 2, none⟩ = some (.int .i64 p)) := by
        refine (?_ : ∀ W, _ → _)
        intro W hW kp hkp
        have hWw := hCb.trans (hW.mono hCb.size)
        exact (hWw.cell (by show gg < _; omega)).trans (HPV.out kp hkp)
      have hfi : ∀ W, Below X.heap.size X W → Calls Tryz.prog 36 #[.agg #[.string (mkB mname), .slice ka nf kc], .int .i64 ynum] W fun e w' => FindAns mfs ynum X e w' := fun W hW => (find_any mname ka nf kc mfs ynum W HNF.out hml (HROW.out W (HVX.out W hW))).mono fun e w' ⟨r, h1, h2, h3⟩ => ⟨r, h1, h2, hW.trans (h3.mono hW.size)⟩
      have hS0 : Below X.heap.size X X.drew := (Below.refl _ _).drew
      clear hC hCb e0 e1 z6
      go_cut [11] (fun v wx => ∃ r : Int, v = .int .i64 r ∧ ((r = -1 ∧ NoField mfs ynum) ∨ ∃ (i : Nat) (x : FD), r = (i : Int) ∧ isFirst mfs ynum i x) ∧ Below X.heap.size X wx)
      case first =>
        clear HIH
        refine wp_region_held_drew (S := fun W => Below X.heap.size X W) (by kernel_rfl) hS0 (fun _ => ?_)
        refine T_on 0 (.pointer (some ⟨w.heap.size, 0, none⟩)) rfl (by kernel_rfl) (fun _ _ _ h => h) hS0 (fun W hW => by go_simp) ?_
        refine T_on 1 (.slice (some ⟨g, oo, none⟩) nm mc) rfl (by kernel_rfl) (fun _ _ _ h => h) hS0 (fun W hW => by have c := s0 W (HVX.out W hW); go_simp) ?_
        refine T_on 2 (.int .i64 (q : Int)) rfl (by kernel_rfl) (fun _ _ _ h => h) hS0 (fun W hW => by go_simp) ?_
        refine T_on 3 (.pointer (some ⟨g, oo + q * 2, none⟩)) rfl (by kernel_rfl) (fun _ _ _ h => h) hS0 (fun W hW => by go_simp) ?_
        refine T_on 4 (.agg #[.string (mkB mname), .slice ka nf kc]) rfl (by kernel_rfl) (fun _ _ _ h => h) hS0 (fun W hW => by have c := m0 W (HVX.out W hW); have c2 := m1 W (HVX.out W hW); go_simp) ?_
        refine T_on 5 (.pointer (some ⟨w1.heap.size, 0, none⟩)) rfl (by kernel_rfl) (fun _ _ _ h => h) hS0 (fun W hW => by go_simp) ?_
        refine T_on 6 (.int .i64 ynum) rfl (by kernel_rfl) (fun _ _ _ h => h) hS0 (fun W hW => by have c := x0 W hW; go_simp) ?_
        refine T_call 7 (by kernel_rfl) rfl (fun K hK => ?_)
        go_simp
        refine (hfi _ hS0).mono ?_
        rintro e W9 ⟨r, rfl, hr, hW9⟩
        have HRR := Lib.hid hr
        clear hS0 hr
        have hS0 := hW9
        clear hW9
        dsimp only
        refine hK.out _ _ hS0 (fun _ => ?_)
        clear hK K
        refine T_on 8 (.int .i64 r) rfl (by kernel_rfl) (fun _ _ _ h => h) hS0 (fun W hW => by go_simp) ?_
        refine wpAnyH_done (by kernel_rfl) ?_ _
        go_simp
        go_wp2_with fail
        go_meet
        exact ⟨r, rfl, HRR.out, hS0⟩
      case rest =>
      obtain ⟨r, rfl, hr, hS1⟩ := hcut
      have HRR := Lib.hid hr
      generalize wc = U1 at *
      have HX1 := Lib.hid hS1
      have HB1 := Lib.hid (HBX.out.trans (hS1.mono HBX.out.size))
      have hU1s := hS1.size
      have a0 := x0 U1 hS1
      have a1 := x1 U1 hS1
      have a6 := n6 U1 (HVX.out U1 hS1)
      clear hS0 hS1 hfi hr
      rcases HRR.out with ⟨rfl, hno⟩ | ⟨at', fd, rfl, hfi⟩
      · have e : R = false := by
          rw [← HRB.out, allB_no (j := k) (by rw [HKB.out]; unfold fldR; dsimp only; rw [firstF_no hno]; simp) (by have := HN.out; omega)]
        subst e
        clear HIH HRB hno HRR
        go_upto_region 8 with fail
        go_quiet (fail)
        go_wp2_with fail
        go_ret
        exact ⟨rfl, bdq HB1.out _⟩
      have HFI := Lib.hid hfi
      have hatl : at' < nf := by have := (List.getElem?_eq_some_iff.1 hfi.1).1; have := HNF.out; omega
      have hat0 : ¬ (at' : Int) < 0 := by omega
      have hat1 : (0 : Int) ≤ (at' : Int) := by omega
      have hat2 : (at' : Int) < (nf : Int) := by omega
      clear hfi HRR
      go_upto_region 8 with fail
      go_cut [81] (fun v wx => RegAns U1 ((risesR zf k (ynum, ys) && !decide (mv = 0)) = false) ((risesR zf k (ynum, ys) && !decide (mv = 0)) = true) v wx)
      case first =>
        clear HIH HRB
        by_cases hkz : k = 0
        · have hk00 : ¬ (0 : Int) < (k : Int) := by omega
          by_cases hm0 : mv = 0
          · have hmz : ((mv : Int) == 0) = true := by simp [hm0]
            have HW : Hid ((risesR zf k (ynum, ys) && !decide (mv = 0)) = false) := by
              refine (?_ : _ = _)
              rw [HRI.out]; simp [hm0]
            have hS0 : Below U1.heap.size U1 U1.drew := (Below.refl _ _).drew
            clear hkz hm0
            refine wp_region_held_drew (S := fun W => Below U1.heap.size U1 W) (by kernel_rfl) hS0 (fun _ => ?_)
            refine T_on 0 (.int .i64 (at' : Int)) rfl (by kernel_rfl) (fun _ _ _ h => h) hS0 (fun W hW => by go_simp) ?_
            refine T_on 1 (.bool false) rfl (by kernel_rfl) (fun _ _ _ h => h) hS0 (fun W hW => by go_simp; try omega) ?_
            refine T_on 2 (.bool false) rfl (by kernel_rfl) (fun _ _ _ h => h) hS0 (fun W hW => by go_simp) ?_
            refine T_on 3 (.int .i64 (k : Int)) rfl (by kernel_rfl) (fun _ _ _ h => h) hS0 (fun W hW => by go_simp) ?_
            refine T_on 4 (.bool false) rfl (by kernel_rfl) (fun _ _ _ h => h) hS0 (fun W hW => by go_simp; try omega) ?_
            refine T_on 5 (.bool false) rfl (by kernel_rfl) (fun _ _ _ h => h) hS0 (fun W hW => by go_simp) ?_
            refine T_off 6 rfl (by kernel_rfl) (fun _ _ _ h => h) hS0 ?_
            refine T_off 7 rfl (by kernel_rfl) (fun _ _ _ h => h) hS0 ?_
            refine T_off 8 rfl (by kernel_rfl) (fun _ _ _ h => h) hS0 ?_
            refine T_off 9 rfl (by kernel_rfl) (fun _ _ _ h => h) hS0 ?_
            refine T_off 10 rfl (by kernel_rfl) (fun _ _ _ h => h) hS0 ?_
            refine T_off 11 rfl (by kernel_rfl) (fun _ _ _ h => h) hS0 ?_
            refine T_off 12 rfl (by kernel_rfl) (fun _ _ _ h => h) hS0 ?_
            refine T_off 13 rfl (by kernel_rfl) (fun _ _ _ h => h) hS0 ?_
            refine T_off 14 rfl (by kernel_rfl) (fun _ _ _ h => h) hS0 ?_
            refine T_off 15 rfl (by kernel_rfl) (fun _ _ _ h => h) hS0 ?_
            refine T_on 16 (.bool false) rfl (by kernel_rfl) (fun _ _ _ h => h) hS0 (fun W hW => by go_simp) ?_
            refine T_on 17 (.bool false) rfl (by kernel_rfl) (fun _ _ _ h => h) hS0 (fun W hW => by go_simp) ?_
            refine T_on 18 (.bool false) rfl (by kernel_rfl) (fun _ _ _ h => h) hS0 (fun W hW => by go_simp) ?_
            refine T_on 19 (.pointer (some ⟨w1.heap.size, 1, none⟩)) rfl (by kernel_rfl) (fun _ _ _ h => h) hS0 (fun W hW => by go_simp) ?_
            refine T_on 20 (.slice va mv vc) rfl (by kernel_rfl) (fun _ _ _ h => h) hS0 (fun W hW => by have c := x1 W (HX1.out.trans (hW.mono HX1.out.size)); go_simp) ?_
            refine T_on 21 (.int .i64 (mv : Int)) rfl (by kernel_rfl) (fun _ _ _ h => h) hS0 (fun W hW => by go_simp) ?_
            refine T_on 22 (.bool true) rfl (by kernel_rfl) (fun _ _ _ h => h) hS0 (fun W hW => by go_simp; try omega) ?_
            refine T_on 23 (.bool true) rfl (by kernel_rfl) (fun _ _ _ h => h) hS0 (fun W hW => by go_simp) ?_
            refine wpAnyH_done (by kernel_rfl) ?_ _
            go_simp
            go_wp2_with fail
            go_meet
            exact ⟨true, rfl, hS0, (fun _ => HW.out), (fun h => by cases h)⟩
          · have hmz : ((mv : Int) == 0) = false := by simp [hm0]
            have HW : Hid ((risesR zf k (ynum, ys) && !decide (mv = 0)) = true) := by
              refine (?_ : _ = _)
              rw [HRI.out]; simp [hkz, hm0]
            have hS0 : Below U1.heap.size U1 U1.drew := (Below.refl _ _).drew
            clear hkz hm0
            refine wp_region_held_drew (S := fun W => Below U1.heap.size U1 W) (by kernel_rfl) hS0 (fun _ => ?_)
            refine T_on 0 (.int .i64 (at' : Int)) rfl (by kernel_rfl) (fun _ _ _ h => h) hS0 (fun W hW => by go_simp) ?_
            refine T_on 1 (.bool false) rfl (by kernel_rfl) (fun _ _ _ h => h) hS0 (fun W hW => by go_simp; try omega) ?_
            refine T_on 2 (.bool false) rfl (by kernel_rfl) (fun _ _ _ h => h) hS0 (fun W hW => by go_simp) ?_
            refine T_on 3 (.int .i64 (k : Int)) rfl (by kernel_rfl) (fun _ _ _ h => h) hS0 (fun W hW => by go_simp) ?_
            refine T_on 4 (.bool false) rfl (by kernel_rfl) (fun _ _ _ h => h) hS0 (fun W hW => by go_simp; try omega) ?_
            refine T_on 5 (.bool false) rfl (by kernel_rfl) (fun _ _ _ h => h) hS0 (fun W hW => by go_simp) ?_
            refine T_off 6 rfl (by kernel_rfl) (fun _ _ _ h => h) hS0 ?_
            refine T_off 7 rfl (by kernel_rfl) (fun _ _ _ h => h) hS0 ?_
            refine T_off 8 rfl (by kernel_rfl) (fun _ _ _ h => h) hS0 ?_
            refine T_off 9 rfl (by kernel_rfl) (fun _ _ _ h => h) hS0 ?_
            refine T_off 10 rfl (by kernel_rfl) (fun _ _ _ h => h) hS0 ?_
            refine T_off 11 rfl (by kernel_rfl) (fun _ _ _ h => h) hS0 ?_
            refine T_off 12 rfl (by kernel_rfl) (fun _ _ _ h => h) hS0 ?_
            refine T_off 13 rfl (by kernel_rfl) (fun _ _ _ h => h) hS0 ?_
            refine T_off 14 rfl (by kernel_rfl) (fun _ _ _ h => h) hS0 ?_
            refine T_off 15 rfl (by kernel_rfl) (fun _ _ _ h => h) hS0 ?_
            refine T_on 16 (.bool false) rfl (by kernel_rfl) (fun _ _ _ h => h) hS0 (fun W hW => by go_simp) ?_
            refine T_on 17 (.bool false) rfl (by kernel_rfl) (fun _ _ _ h => h) hS0 (fun W hW => by go_simp) ?_
            refine T_on 18 (.bool false) rfl (by kernel_rfl) (fun _ _ _ h => h) hS0 (fun W hW => by go_simp) ?_
            refine T_on 19 (.pointer (some ⟨w1.heap.size, 1, none⟩)) rfl (by kernel_rfl) (fun _ _ _ h => h) hS0 (fun W hW => by go_simp) ?_
            refine T_on 20 (.slice va mv vc) rfl (by kernel_rfl) (fun _ _ _ h => h) hS0 (fun W hW => by have c := x1 W (HX1.out.trans (hW.mono HX1.out.size)); go_simp) ?_
            refine T_on 21 (.int .i64 (mv : Int)) rfl (by kernel_rfl) (fun _ _ _ h => h) hS0 (fun W hW => by go_simp) ?_
            refine T_on 22 (.bool false) rfl (by kernel_rfl) (fun _ _ _ h => h) hS0 (fun W hW => by go_simp; try omega) ?_
            refine T_on 23 (.bool false) rfl (by kernel_rfl) (fun _ _ _ h => h) hS0 (fun W hW => by go_simp) ?_
            refine wpAnyH_done (by kernel_rfl) ?_ _
            go_simp
            go_wp2_with fail
            go_meet
            exact ⟨false, rfl, hS0, (fun h => by cases h), (fun _ => HW.out)⟩
        · obtain ⟨kp, hkp⟩ : ∃ kp, k = kp + 1 := ⟨k - 1, by omega⟩
          have HKP := Lib.hid hkp
          have hk00 : (0 : Int) < (k : Int) := by omega
          have hwk : IntKind.i64.wrap ((k : Int) - 1) = (kp : Int) := by rw [IntKind.wrap_i64]; omega
          have hkp0 : (0 : Int) ≤ (kp : Int) := by omega
          have hkp1 : (kp : Int) < (ln : Int) := by omega
          by_cases hpn : p < ynum
          · have hpn2 : ¬ ynum ≤ p := by omega
            by_cases hm0 : mv = 0
            · have hmz : ((mv : Int) == 0) = true := by simp [hm0]
              have HW : Hid ((risesR zf k (ynum, ys) && !decide (mv = 0)) = false) := by
                refine (?_ : _ = _)
                rw [HRI.out]; simp [hm0]
              have hS0 : Below U1.heap.size U1 U1.drew := (Below.refl _ _).drew
              clear hkz hm0 hkp hpn
              refine wp_region_held_drew (S := fun W => Below U1.heap.size U1 W) (by kernel_rfl) hS0 (fun _ => ?_)
              refine T_on 0 (.int .i64 (at' : Int)) rfl (by kernel_rfl) (fun _ _ _ h => h) hS0 (fun W hW => by go_simp) ?_
              refine T_on 1 (.bool false) rfl (by kernel_rfl) (fun _ _ _ h => h) hS0 (fun W hW => by go_simp; try omega) ?_
              refine T_on 2 (.bool false) rfl (by kernel_rfl) (fun _ _ _ h => h) hS0 (fun W hW => by go_simp) ?_
              refine T_on 3 (.int .i64 (k : Int)) rfl (by kernel_rfl) (fun _ _ _ h => h) hS0 (fun W hW => by go_simp) ?_
              refine T_on 4 (.bool true) rfl (by kernel_rfl) (fun _ _ _ h => h) hS0 (fun W hW => by go_simp; try omega) ?_
              refine T_on 5 (.bool true) rfl (by kernel_rfl) (fun _ _ _ h => h) hS0 (fun W hW => by go_simp) ?_
              refine T_on 6 (.pointer (some ⟨w.heap.size + 1, 6, none⟩)) rfl (by kernel_rfl) (fun _ _ _ h => h) hS0 (fun W hW => by go_simp) ?_
              refine T_on 7 (.slice (some ⟨gg, go, none⟩) ln lc) rfl (by kernel_rfl) (fun _ _ _ h => h) hS0 (fun W hW => by have c := n6 W (HVX.out W (HX1.out.trans (hW.mono HX1.out.size))); go_simp) ?_
              refine T_on 8 (.int .i64 (k : Int)) rfl (by kernel_rfl) (fun _ _ _ h => h) hS0 (fun W hW => by go_simp) ?_
              refine T_on 9 (.int .i64 (kp : Int)) rfl (by kernel_rfl) (fun _ _ _ h => h) hS0 (fun W hW => by go_simp; try omega) ?_
              refine T_on 10 (.pointer (some ⟨gg, go + kp * 2, none⟩)) rfl (by kernel_rfl) (fun _ _ _ h => h) hS0 (fun W hW => by go_simp; try omega) ?_
              refine T_on 11 (.pointer (some ⟨gg, go + kp * 2, none⟩)) rfl (by kernel_rfl) (fun _ _ _ h => h) hS0 (fun W hW => by go_simp) ?_
              refine T_on 12 (.int .i64 p) rfl (by kernel_rfl) (fun _ _ _ h => h) hS0 (fun W hW => by have c := HPX.out W (HX1.out.trans (hW.mono HX1.out.size)) kp HKP.out; go_simp) ?_
              refine T_on 13 (.pointer (some ⟨w1.heap.size, 0, none⟩)) rfl (by kernel_rfl) (fun _ _ _ h => h) hS0 (fun W hW => by go_simp) ?_
              refine T_on 14 (.int .i64 ynum) rfl (by kernel_rfl) (fun _ _ _ h => h) hS0 (fun W hW => by have c := x0 W (HX1.out.trans (hW.mono HX1.out.size)); go_simp) ?_
              refine T_on 15 (.bool false) rfl (by kernel_rfl) (fun _ _ _ h => h) hS0 (fun W hW => by go_simp; try omega) ?_
              refine T_on 16 (.bool false) rfl (by kernel_rfl) (fun _ _ _ h => h) hS0 (fun W hW => by go_simp) ?_
              refine T_on 17 (.bool false) rfl (by kernel_rfl) (fun _ _ _ h => h) hS0 (fun W hW => by go_simp) ?_
              refine T_on 18 (.bool false) rfl (by kernel_rfl) (fun _ _ _ h => h) hS0 (fun W hW => by go_simp) ?_
              refine T_on 19 (.pointer (some ⟨w1.heap.size, 1, none⟩)) rfl (by kernel_rfl) (fun _ _ _ h => h) hS0 (fun W hW => by go_simp) ?_
              refine T_on 20 (.slice va mv vc) rfl (by kernel_rfl) (fun _ _ _ h => h) hS0 (fun W hW => by have c := x1 W (HX1.out.trans (hW.mono HX1.out.size)); go_simp) ?_
              refine T_on 21 (.int .i64 (mv : Int)) rfl (by kernel_rfl) (fun _ _ _ h => h) hS0 (fun W hW => by go_simp) ?_
              refine T_on 22 (.bool true) rfl (by kernel_rfl) (fun _ _ _ h => h) hS0 (fun W hW => by go_simp; try omega) ?_
              refine T_on 23 (.bool true) rfl (by kernel_rfl) (fun _ _ _ h => h) hS0 (fun W hW => by go_simp) ?_
              refine wpAnyH_done (by kernel_rfl) ?_ _
              go_simp
              go_wp2_with fail
              go_meet
              exact ⟨true, rfl, hS0, (fun _ => HW.out), (fun h => by cases h)⟩
            · have hmz : ((mv : Int) == 0) = false := by simp [hm0]
              have HW : Hid ((risesR zf k (ynum, ys) && !decide (mv = 0)) = true) := by
                refine (?_ : _ = _)
                rw [HRI.out]; simp [hpn, hm0]
              have hS0 : Below U1.heap.size U1 U1.drew := (Below.refl _ _).drew
              clear hkz hm0 hkp hpn
              refine wp_region_held_drew (S := fun W => Below U1.heap.size U1 W) (by kernel_rfl) hS0 (fun _ => ?_)
              refine T_on 0 (.int .i64 (at' : Int)) rfl (by kernel_rfl) (fun _ _ _ h => h) hS0 (fun W hW => by go_simp) ?_
              refine T_on 1 (.bool false) rfl (by kernel_rfl) (fun _ _ _ h => h) hS0 (fun W hW => by go_simp; try omega) ?_
              refine T_on 2 (.bool false) rfl (by kernel_rfl) (fun _ _ _ h => h) hS0 (fun W hW => by go_simp) ?_
              refine T_on 3 (.int .i64 (k : Int)) rfl (by kernel_rfl) (fun _ _ _ h => h) hS0 (fun W hW => by go_simp) ?_
              refine T_on 4 (.bool true) rfl (by kernel_rfl) (fun _ _ _ h => h) hS0 (fun W hW => by go_simp; try omega) ?_
              refine T_on 5 (.bool true) rfl (by kernel_rfl) (fun _ _ _ h => h) hS0 (fun W hW => by go_simp) ?_
              refine T_on 6 (.pointer (some ⟨w.heap.size + 1, 6, none⟩)) rfl (by kernel_rfl) (fun _ _ _ h => h) hS0 (fun W hW => by go_simp) ?_
              refine T_on 7 (.slice (some ⟨gg, go, none⟩) ln lc) rfl (by kernel_rfl) (fun _ _ _ h => h) hS0 (fun W hW => by have c := n6 W (HVX.out W (HX1.out.trans (hW.mono HX1.out.size))); go_simp) ?_
              refine T_on 8 (.int .i64 (k : Int)) rfl (by kernel_rfl) (fun _ _ _ h => h) hS0 (fun W hW => by go_simp) ?_
              refine T_on 9 (.int .i64 (kp : Int)) rfl (by kernel_rfl) (fun _ _ _ h => h) hS0 (fun W hW => by go_simp; try omega) ?_
              refine T_on 10 (.pointer (some ⟨gg, go + kp * 2, none⟩)) rfl (by kernel_rfl) (fun _ _ _ h => h) hS0 (fun W hW => by go_simp; try omega) ?_
              refine T_on 11 (.pointer (some ⟨gg, go + kp * 2, none⟩)) rfl (by kernel_rfl) (fun _ _ _ h => h) hS0 (fun W hW => by go_simp) ?_
              refine T_on 12 (.int .i64 p) rfl (by kernel_rfl) (fun _ _ _ h => h) hS0 (fun W hW => by have c := HPX.out W (HX1.out.trans (hW.mono HX1.out.size)) kp HKP.out; go_simp) ?_
              refine T_on 13 (.pointer (some ⟨w1.heap.size, 0, none⟩)) rfl (by kernel_rfl) (fun _ _ _ h => h) hS0 (fun W hW => by go_simp) ?_
              refine T_on 14 (.int .i64 ynum) rfl (by kernel_rfl) (fun _ _ _ h => h) hS0 (fun W hW => by have c := x0 W (HX1.out.trans (hW.mono HX1.out.size)); go_simp) ?_
              refine T_on 15 (.bool false) rfl (by kernel_rfl) (fun _ _ _ h => h) hS0 (fun W hW => by go_simp; try omega) ?_
              refine T_on 16 (.bool false) rfl (by kernel_rfl) (fun _ _ _ h => h) hS0 (fun W hW => by go_simp) ?_
              refine T_on 17 (.bool false) rfl (by kernel_rfl) (fun _ _ _ h => h) hS0 (fun W hW => by go_simp) ?_
              refine T_on 18 (.bool false) rfl (by kernel_rfl) (fun _ _ _ h => h) hS0 (fun W hW => by go_simp) ?_
              refine T_on 19 (.pointer (some ⟨w1.heap.size, 1, none⟩)) rfl (by kernel_rfl) (fun _ _ _ h => h) hS0 (fun W hW => by go_simp) ?_
              refine T_on 20 (.slice va mv vc) rfl (by kernel_rfl) (fun _ _ _ h => h) hS0 (fun W hW => by have c := x1 W (HX1.out.trans (hW.mono HX1.out.size)); go_simp) ?_
              refine T_on 21 (.int .i64 (mv : Int)) rfl (by kernel_rfl) (fun _ _ _ h => h) hS0 (fun W hW => by go_simp) ?_
              refine T_on 22 (.bool false) rfl (by kernel_rfl) (fun _ _ _ h => h) hS0 (fun W hW => by go_simp; try omega) ?_
              refine T_on 23 (.bool false) rfl (by kernel_rfl) (fun _ _ _ h => h) hS0 (fun W hW => by go_simp) ?_
              refine wpAnyH_done (by kernel_rfl) ?_ _
              go_simp
              go_wp2_with fail
              go_meet
              exact ⟨false, rfl, hS0, (fun h => by cases h), (fun _ => HW.out)⟩
          · have hpn2 : ynum ≤ p := by omega
            have HW : Hid ((risesR zf k (ynum, ys) && !decide (mv = 0)) = false) := by
              refine (?_ : _ = _)
              rw [HRI.out]; simp [hkz, hpn]
            have hS0 : Below U1.heap.size U1 U1.drew := (Below.refl _ _).drew
            clear hkz hkp hpn
            refine wp_region_held_drew (S := fun W => Below U1.heap.size U1 W) (by kernel_rfl) hS0 (fun _ => ?_)
            refine T_on 0 (.int .i64 (at' : Int)) rfl (by kernel_rfl) (fun _ _ _ h => h) hS0 (fun W hW => by go_simp) ?_
            refine T_on 1 (.bool false) rfl (by kernel_rfl) (fun _ _ _ h => h) hS0 (fun W hW => by go_simp; try omega) ?_
            refine T_on 2 (.bool false) rfl (by kernel_rfl) (fun _ _ _ h => h) hS0 (fun W hW => by go_simp) ?_
            refine T_on 3 (.int .i64 (k : Int)) rfl (by kernel_rfl) (fun _ _ _ h => h) hS0 (fun W hW => by go_simp) ?_
            refine T_on 4 (.bool true) rfl (by kernel_rfl) (fun _ _ _ h => h) hS0 (fun W hW => by go_simp; try omega) ?_
            refine T_on 5 (.bool true) rfl (by kernel_rfl) (fun _ _ _ h => h) hS0 (fun W hW => by go_simp) ?_
            refine T_on 6 (.pointer (some ⟨w.heap.size + 1, 6, none⟩)) rfl (by kernel_rfl) (fun _ _ _ h => h) hS0 (fun W hW => by go_simp) ?_
            refine T_on 7 (.slice (some ⟨gg, go, none⟩) ln lc) rfl (by kernel_rfl) (fun _ _ _ h => h) hS0 (fun W hW => by have c := n6 W (HVX.out W (HX1.out.trans (hW.mono HX1.out.size))); go_simp) ?_
            refine T_on 8 (.int .i64 (k : Int)) rfl (by kernel_rfl) (fun _ _ _ h => h) hS0 (fun W hW => by go_simp) ?_
            refine T_on 9 (.int .i64 (kp : Int)) rfl (by kernel_rfl) (fun _ _ _ h => h) hS0 (fun W hW => by go_simp; try omega) ?_
            refine T_on 10 (.pointer (some ⟨gg, go + kp * 2, none⟩)) rfl (by kernel_rfl) (fun _ _ _ h => h) hS0 (fun W hW => by go_simp; try omega) ?_
            refine T_on 11 (.pointer (some ⟨gg, go + kp * 2, none⟩)) rfl (by kernel_rfl) (fun _ _ _ h => h) hS0 (fun W hW => by go_simp) ?_
            refine T_on 12 (.int .i64 p) rfl (by kernel_rfl) (fun _ _ _ h => h) hS0 (fun W hW => by have c := HPX.out W (HX1.out.trans (hW.mono HX1.out.size)) kp HKP.out; go_simp) ?_
            refine T_on 13 (.pointer (some ⟨w1.heap.size, 0, none⟩)) rfl (by kernel_rfl) (fun _ _ _ h => h) hS0 (fun W hW => by go_simp) ?_
            refine T_on 14 (.int .i64 ynum) rfl (by kernel_rfl) (fun _ _ _ h => h) hS0 (fun W hW => by have c := x0 W (HX1.out.trans (hW.mono HX1.out.size)); go_simp) ?_
            refine T_on 15 (.bool true) rfl (by kernel_rfl) (fun _ _ _ h => h) hS0 (fun W hW => by go_simp; try omega) ?_
            refine T_on 16 (.bool true) rfl (by kernel_rfl) (fun _ _ _ h => h) hS0 (fun W hW => by go_simp) ?_
            refine T_on 17 (.bool true) rfl (by kernel_rfl) (fun _ _ _ h => h) hS0 (fun W hW => by go_simp) ?_
            refine T_on 18 (.bool true) rfl (by kernel_rfl) (fun _ _ _ h => h) hS0 (fun W hW => by go_simp) ?_
            refine T_off 19 rfl (by kernel_rfl) (fun _ _ _ h => h) hS0 ?_
            refine T_off 20 rfl (by kernel_rfl) (fun _ _ _ h => h) hS0 ?_
            refine T_off 21 rfl (by kernel_rfl) (fun _ _ _ h => h) hS0 ?_
            refine T_off 22 rfl (by kernel_rfl) (fun _ _ _ h => h) hS0 ?_
            refine T_on 23 (.bool true) rfl (by kernel_rfl) (fun _ _ _ h => h) hS0 (fun W hW => by go_simp) ?_
            refine wpAnyH_done (by kernel_rfl) ?_ _
            go_simp
            go_wp2_with fail
            go_meet
            exact ⟨true, rfl, hS0, (fun _ => HW.out), (fun h => by cases h)⟩
      case rest =>
      obtain ⟨b, rfl, hS1, hA1, hA2⟩ := hcut
      have HAA := Lib.hid hA1
      have HAB := Lib.hid hA2
      clear hA1 hA2 a0 a1 a6
      generalize wc = U2 at *
      have hXU := HX1.out.trans (hS1.mono HX1.out.size)
      have HX2 := Lib.hid hXU
      have HB2 := Lib.hid (HBX.out.trans (hXU.mono HBX.out.size))
      have hU2s := hXU.size
      clear HX1 HB1 HPX HPV
      cases b
      case true =>
        have e : R = false := by
          rw [← HRB.out, allB_no (j := k) (by
            have h1 := HAA.out rfl
            rw [HKB.out]
            unfold fldR
            dsimp only
            rw [firstF_is HFI.out, HMV.out]
            dsimp only
            cases hq : risesR zf k (ynum, ys)
            · rfl
            · rw [hq, Bool.true_and] at h1; rw [h1]; rfl) (by have := HN.out; omega)]
        subst e
        clear HIH HRB
        go_wp2_with fail
        go_ret
        exact ⟨rfl, HB2.out⟩
      have HKC : Hid (atB zf (fun k y => risesR zf k y && fldR (recR ms dep (f' + 1)) mfs y) k = ((fd.rep || decide (mv ≤ 1)) && allA ys fun _ y => valR (recR ms dep (f' + 1)) fd y)) := by
        refine (?_ : _ = _)
        have h1 := HAB.out rfl
        rw [Bool.and_eq_true] at h1
        rw [HKB.out, h1.1, Bool.true_and]
        unfold fldR
        dsimp only
        rw [firstF_is HFI.out, HMV.out]
        dsimp only
        rw [h1.2, Bool.true_and]
      have HFM : Hid (fd ∈ mfs) := List.mem_of_getElem? HFI.out.1
      obtain ⟨gf, of, cf, hslf, hgf, e0, e1, e2, e3, e4⟩ := fd_at (HROW.out U2 (HVX.out U2 hXU)) (W := U2) (fun b hb => rfl) HFI.out.1
      rw [HNF.out] at hslf
      obtain ⟨rfl, rfl⟩ := slice_two hslf
      have b0 := s0 U2 (HVX.out U2 hXU)
      have b1 := m1 U2 (HVX.out U2 hXU)
      obtain ⟨xnum, xname, xk, xrep, xtype⟩ := fd
      dsimp only at e0 e1 e2 e3 e4 HKC
      clear HKB HAA HAB HFI hslf hgf HRI
      have hC : (U2.alloc (.cells #[.int .i64 xnum, .string (mkB xname), .int .i64 xk, .bool xrep, .int .i64 xtype] 84)).heap[U2.heap.size]? = some (.cells #[.int .i64 xnum, .string (mkB xname), .int .i64 xk, .bool xrep, .int .i64 xtype] 84 (0, 0)) := alloc_heap_new _ _
      have hCb : Below U2.heap.size U2 (U2.alloc (.cells #[.int .i64 xnum, .string (mkB xname), .int .i64 xk, .bool xrep, .int .i64 xtype] 84)) := (Below.refl _ U2).alloc (Nat.le_refl _) _
      go_upto_region 11 with fail
      generalize (U2.alloc (.cells #[.int .i64 xnum, .string (mkB xname), .int .i64 xk, .bool xrep, .int .i64 xtype] 84)) = D at *
      have HD := Lib.hid hC
      have hDb := hXU.trans (hCb.mono hU2s)
      have HDX := Lib.hid hDb
      have HBD2 := Lib.hid (HBX.out.trans (hDb.mono HBX.out.size))
      have HUD := Lib.hid (HUX.out.trans (hDb.mono HUX.out.size))
      have hDs : U2.heap.size + 1 ≤ D.heap.size := by have := (Array.getElem?_eq_some_iff.1 hC).1; omega
      have q3 : D.cell? ⟨U2.heap.size, 3, none⟩ = some (.bool xrep) := cell_at hC 3 rfl
      have q1 := x1 D hDb
      clear hC hCb e0 e1 e2 e3 e4 b0 b1 hXU hDb
      by_cases hrp : xrep = false ∧ 1 < mv
      · obtain ⟨hr1, hr2⟩ := hrp
        subst hr1
        have hm2 : (1 : Int) < (mv : Int) := by omega
        have e : R = false := by
          rw [← HRB.out, allB_no (j := k) (by rw [HKC.out, decide_eq_false (by omega : ¬ mv ≤ 1)]; rfl) (by have := HN.out; omega)]
        subst e
        clear HIH HRB hr2
        go_wp2_with fail
        go_ret
        exact ⟨rfl, HBD2.out⟩
      have HKD : Hid (atB zf (fun k y => risesR zf k y && fldR (recR ms dep (f' + 1)) mfs y) k = allB (atB ys fun _ y => valR (recR ms dep (f' + 1)) ⟨xnum, xname, xk, xrep, xtype⟩ y) ys.length) := by
        refine (?_ : _ = _)
        rw [HKC.out]
        have e2 : (xrep || decide (mv ≤ 1)) = true := by
          cases xrep
          · simp at hrp; simp; omega
          · rfl
        rw [e2, Bool.true_and]
        rfl
      clear HKC
      go_cut [99] (fun v wx => v = .bool false ∧ wx = D)
      case first =>
        clear HIH HRB HKD
        by_cases hm2 : (1 : Int) < (mv : Int)
        · have hr : xrep = true := by
            cases xrep
            · exact absurd ⟨rfl, by omega⟩ hrp
            · rfl
          subst hr
          clear hrp
          go_wp2_with fail
          go_meet
          exact ⟨rfl, rfl⟩
        · clear hrp
          cases xrep
          all_goals
            go_wp2_with fail
            go_meet
            exact ⟨rfl, rfl⟩
      case rest =>
      obtain ⟨rfl, hwc⟩ := hcut
      have hwc := hwc.symm
      subst hwc
      clear q3 hrp
      go_wp2_with fail
      clear q1
      go_loopw [103] (fun i wr => ∃ (a : Nat), i = .int .i64 (a : Int) ∧ a ≤ mv ∧ allB (atB ys fun _ y => valR (recR ms dep (f' + 1)) ⟨xnum, xname, xk, xrep, xtype⟩ y) a = true ∧ Below D.heap.size D wr) (fun i _ => mv - (intOf i).toNat)
      case atStart => exact ⟨0, rfl, Nat.zero_le _, rfl, Below.refl _ _⟩
      case round =>
        generalize wr = w3 at *
        obtain ⟨a, rfl, hal, hall, hbel⟩ := hrel
        have HA3 := Lib.hid hall
        have HB3 := Lib.hid hbel
        have hX3 := HDX.out.trans (hbel.mono HDX.out.size)
        have HX3 := Lib.hid hX3
        have hBw3 := HBX.out.trans (hX3.mono HBX.out.size)
        have HBW3 := Lib.hid hBw3
        have h3s := hbel.size
        have q1 := x1 w3 hX3
        by_cases han : a < mv
        · obtain ⟨c, hc⟩ : ∃ c, ys[a]? = some c := ⟨_, List.getElem?_eq_getElem (by have := HMV.out; omega)⟩
          obtain ⟨g2, o2, c2, fs2, hsl2, hg2, hcl, hheld⟩ := ValsG.at HVA.out hc
          rw [HMV.out] at hsl2
          obtain ⟨rfl, rfl⟩ := slice_two hsl2
          have hg2N : g2 < w.heap.size := hg2
          have hcl2 := hcl.old (hBw3.block g2 hg2N)
          have hfitc := HFL2.out c (List.mem_of_getElem? hc)
          have HVC : Hid (atB ys (fun _ y => valR (recR ms dep (f' + 1)) ⟨xnum, xname, xk, xrep, xtype⟩ y) a = valR (recR ms dep (f' + 1)) ⟨xnum, xname, xk, xrep, xtype⟩ c) := atB_some hc
          obtain ⟨sa, sl, sc, hL⟩ : ∃ sa sl sc, (if c.kind = 7 then fs2 else .slice none 0 0) = .slice sa sl sc := by
            by_cases h7 : c.kind = 7
            · rw [if_pos h7]
              obtain ⟨sa, sc, h⟩ := HeldG.isSl (hheld (by simpa [clS] using h7))
              exact ⟨_, _, _, h⟩
            · rw [if_neg h7]; exact ⟨_, _, _, rfl⟩
          have HHC : Hid (c.kind = 7 → HeldG clS w (fun b => b < w.heap.size) f' (.slice sa sl sc) c.fields) := by
            refine (?_ : _ → _)
            intro h7
            rw [if_pos h7] at hL
            rw [← hL]
            exact hheld (by simpa [clS] using h7)
          obtain ⟨zc, hzc⟩ : ∃ z, z = cn c := ⟨_, rfl⟩
          have HZC := Lib.hid hzc
          have hrowc : clS.row c fs2 = nrow zc (.slice sa sl sc) := by
            show nrow (cn c) (if c.kind = 7 then fs2 else .slice none 0 0) = _
            rw [hL, hzc]
          rw [hrowc] at hcl2
          have HVR : Hid (valR (recR ms dep (f' + 1)) ⟨xnum, xname, xk, xrep, xtype⟩ c = (decide (zc.kind = kindOf xk) && (!(decide (xk = 7) && decide (4294967296 ≤ zc.u)) && (!(decide (xk = 5) && !valB zc.s) && (!decide (xk = 10) || recR ms dep (f' + 1) xtype c))))) := by
            refine (?_ : _ = _)
            rw [hzc]; rfl
          have hcsl : zc.s.length ≤ 100000 := by
            have h1 := hfitc.s
            have h3 : (cn c).s = c.s ∨ (cn c).s = [] := by
              unfold cn
              dsimp only
              split
              · exact .inl rfl
              · exact .inr rfl
            rw [hzc]
            rcases h3 with h3 | h3 <;> rw [h3]
            · exact h1
            · exact Nat.zero_le _
          obtain ⟨ck, cnn, cu, cb, cs, ct, cf⟩ := zc
          dsimp only at HVR hcsl
          have y0 : w3.cell? ⟨g2, o2 + a * 7, none⟩ = some (.int .i64 ck) := by have := hcl2 0 _ rfl; simpa [clS] using this
          have y1 : w3.cell? ⟨g2, o2 + a * 7 + 1, none⟩ = some (.int .i64 cnn) := by have := hcl2 1 _ rfl; simpa [clS] using this
          have y2 : w3.cell? ⟨g2, o2 + a * 7 + 2, none⟩ = some (.int .u64 cu) := by have := hcl2 2 _ rfl; simpa [clS] using this
          have y3 : w3.cell? ⟨g2, o2 + a * 7 + 3, none⟩ = some (.bool cb) := by have := hcl2 3 _ rfl; simpa [clS] using this
          have y4 : w3.cell? ⟨g2, o2 + a * 7 + 4, none⟩ = some (.string (mkB cs)) := by have := hcl2 4 _ rfl; simpa [clS] using this
          have y5 : w3.cell? ⟨g2, o2 + a * 7 + 5, none⟩ = some (.int .i64 ct) := by have := hcl2 5 _ rfl; simpa [clS] using this
          have y6 : w3.cell? ⟨g2, o2 + a * 7 + 6, none⟩ = some (.slice sa sl sc) := by have := hcl2 6 _ rfl; simpa [clS] using this
          have ha0 : (0 : Int) ≤ (a : Int) := by omega
          have ha1 : (a : Int) < (mv : Int) := by omega
          have hwa : IntKind.i64.wrap ((a : Int) + 1) = (a : Int) + 1 := by rw [IntKind.wrap_i64]; omega
          have HFC := Lib.hid hfitc
          clear hsl2 hc hg2 hcl hheld hcl2 hfitc hrowc hzc hL hall
          have hC : (w3.alloc (.cells #[.int .i64 ck, .int .i64 cnn, .int .u64 cu, .bool cb, .string (mkB cs), .int .i64 ct, .slice sa sl sc] 30)).heap[w3.heap.size]? = some (.cells #[.int .i64 ck, .int .i64 cnn, .int .u64 cu, .bool cb, .string (mkB cs), .int .i64 ct, .slice sa sl sc] 30 (0, 0)) := alloc_heap_new _ _
          have hCb : Below w3.heap.size w3 (w3.alloc (.cells #[.int .i64 ck, .int .i64 cnn, .int .u64 cu, .bool cb, .string (mkB cs), .int .i64 ct, .slice sa sl sc] 30)) := (Below.refl _ w3).alloc (Nat.le_refl _) _
          go_upto_region 17 with fail
          generalize (w3.alloc (.cells #[.int .i64 ck, .int .i64 cnn, .int .u64 cu, .bool cb, .string (mkB cs), .int .i64 ct, .slice sa sl sc] 30)) = Z at *
          have HZ3 := Lib.hid hC
          have hZs : w3.heap.size + 1 ≤ Z.heap.size := by have := (Array.getElem?_eq_some_iff.1 hC).1; omega
          have HDZ : Hid (Below D.heap.size D Z) := hbel.trans (hCb.mono h3s)
          have HXZ : Hid (∀ W, Below Z.heap.size Z W → Below X.heap.size X W) := fun W hW => (hX3.trans (hCb.mono hX3.size)).trans (hW.mono (hX3.trans (hCb.mono hX3.size)).size)
          have HBZ : Hid (∀ W, Below Z.heap.size Z W → Below w.heap.size w W) := fun W hW => HBX.out.trans ((HXZ.out W hW).mono HBX.out.size)
          have zz0 : ∀ W, Below Z.heap.size Z W → W.cell? ⟨w3.heap.size, 0, none⟩ = some (.int .i64 ck) := fun W hW => (hW.cell (by simp; omega)).trans (cell_at hC 0 rfl)
          have zz2 : ∀ W, Below Z.heap.size Z W → W.cell? ⟨w3.heap.size, 2, none⟩ = some (.int .u64 cu) := fun W hW => (hW.cell (by simp; omega)).trans (cell_at hC 2 rfl)
          have zz4 : ∀ W, Below Z.heap.size Z W → W.cell? ⟨w3.heap.size, 4, none⟩ = some (.string (mkB cs)) := fun W hW => (hW.cell (by simp; omega)).trans (cell_at hC 4 rfl)
          have dd2 : ∀ W, Below Z.heap.size Z W → W.cell? ⟨U2.heap.size, 2, none⟩ = some (.int .i64 xk) := fun W hW => ((HDZ.out.trans (hW.mono HDZ.out.size)).cell (by simp; omega)).trans (cell_at HD.out 2 rfl)
          have hS0 : Below Z.heap.size Z Z.drew := (Below.refl _ _).drew
          have hko := fun W => kindOf_any xk W
          have hva : ∀ W, Below Z.heap.size Z W → Calls Tryz.prog 56 #[.string (mkB cs)] W fun e w' => e = .returned (.bool (valB cs)) ∧ Below Z.heap.size Z w' := fun W hW => (valid_at cs W (by omega) (tabs_below HT.out (HBZ.out W hW))).mono fun e w' ⟨h1, h2⟩ => ⟨h1, hW.trans (h2.mono hW.size)⟩
          obtain ⟨KK, hKK⟩ : ∃ k, kindOf xk = k := ⟨_, rfl⟩
          obtain ⟨VB, hVB⟩ : ∃ b, valB cs = b := ⟨_, rfl⟩
          rw [hKK, hVB] at HVR
          simp only [hKK] at hko
          simp only [hVB] at hva
          clear hC hCb hbel hX3 hBw3 hKK hVB y0 y1 y2 y3 y4 y5 y6 q1
          go_cut [137] (fun v wx => RegAns Z (valR (recR ms dep (f' + 1)) ⟨xnum, xname, xk, xrep, xtype⟩ c = false) (valR (recR ms dep (f' + 1)) ⟨xnum, xname, xk, xrep, xtype⟩ c = (!decide (xk = 10) || recR ms dep (f' + 1) xtype c)) v wx)
          case first =>
            clear HIH HRB HKD
            by_cases hck : ck = KK
            case neg =>
              have hck' : (ck != KK) = true := by simp [hck]
              have HW : Hid (valR (recR ms dep (f' + 1)) ⟨xnum, xname, xk, xrep, xtype⟩ c = false) := by
                refine (?_ : _ = _)
                rw [HVR.out]; simp [hck]
              clear hck HVR
              refine wp_region_held_drew (S := fun W => Below Z.heap.size Z W) (by kernel_rfl) hS0 (fun _ => ?_)
              refine T_on 0 (.pointer (some ⟨w3.heap.size, 0, none⟩)) rfl (by kernel_rfl) (fun _ _ _ h => h) hS0 (fun W hW => by go_simp) ?_
              refine T_on 1 (.int .i64 ck) rfl (by kernel_rfl) (fun _ _ _ h => h) hS0 (fun W hW => by have c := zz0 W hW; go_simp) ?_
              refine T_on 2 (.pointer (some ⟨U2.heap.size, 2, none⟩)) rfl (by kernel_rfl) (fun _ _ _ h => h) hS0 (fun W hW => by go_simp) ?_
              refine T_on 3 (.int .i64 xk) rfl (by kernel_rfl) (fun _ _ _ h => h) hS0 (fun W hW => by have c := dd2 W hW; go_simp) ?_
              refine T_call 4 (by kernel_rfl) rfl (fun K hK => ?_)
              go_simp
              refine (hko _).mono ?_
              rintro e W9 ⟨rfl, hW9⟩
              have hW9 := hW9.symm
              subst hW9
              dsimp only
              refine hK.out _ _ hS0 (fun _ => ?_)
              clear hK K
              refine T_on 5 (.bool true) rfl (by kernel_rfl) (fun _ _ _ h => h) hS0 (fun W hW => by go_simp) ?_
              refine T_on 6 (.bool true) rfl (by kernel_rfl) (fun _ _ _ h => h) hS0 (fun W hW => by go_simp) ?_
              refine T_off 7 rfl (by kernel_rfl) (fun _ _ _ h => h) hS0 ?_
              refine T_off 8 rfl (by kernel_rfl) (fun _ _ _ h => h) hS0 ?_
              refine T_off 9 rfl (by kernel_rfl) (fun _ _ _ h => h) hS0 ?_
              refine T_off 10 rfl (by kernel_rfl) (fun _ _ _ h => h) hS0 ?_
              refine T_off 11 rfl (by kernel_rfl) (fun _ _ _ h => h) hS0 ?_
              refine T_off 12 rfl (by kernel_rfl) (fun _ _ _ h => h) hS0 ?_
              refine T_off 13 rfl (by kernel_rfl) (fun _ _ _ h => h) hS0 ?_
              refine T_off 14 rfl (by kernel_rfl) (fun _ _ _ h => h) hS0 ?_
              refine T_on 15 (.bool true) rfl (by kernel_rfl) (fun _ _ _ h => h) hS0 (fun W hW => by go_simp) ?_
              refine T_on 16 (.bool true) rfl (by kernel_rfl) (fun _ _ _ h => h) hS0 (fun W hW => by go_simp) ?_
              refine T_off 17 rfl (by kernel_rfl) (fun _ _ _ h => h) hS0 ?_
              refine T_off 18 rfl (by kernel_rfl) (fun _ _ _ h => h) hS0 ?_
              refine T_off 19 rfl (by kernel_rfl) (fun _ _ _ h => h) hS0 ?_
              refine T_off 20 rfl (by kernel_rfl) (fun _ _ _ h => h) hS0 ?_
              refine T_off 21 rfl (by kernel_rfl) (fun _ _ _ h => h) hS0 ?_
              refine T_off 22 rfl (by kernel_rfl) (fun _ _ _ h => h) hS0 ?_
              refine T_off 23 rfl (by kernel_rfl) (fun _ _ _ h => h) hS0 ?_
              refine T_off 24 rfl (by kernel_rfl) (fun _ _ _ h => h) hS0 ?_
              refine T_off 25 rfl (by kernel_rfl) (fun _ _ _ h => h) hS0 ?_
              refine T_on 26 (.bool true) rfl (by kernel_rfl) (fun _ _ _ h => h) hS0 (fun W hW => by go_simp) ?_
              refine wpAnyH_done (by kernel_rfl) ?_ _
              go_simp
              go_wp2_with fail
              go_meet
              exact ⟨true, rfl, hS0, (fun _ => HW.out), (fun h => by cases h)⟩
            subst hck
            by_cases h7 : xk = 7
            · by_cases hu : 4294967296 ≤ cu
              · have h7' : (xk == 7) = true := by simp [h7]
                have HW : Hid (valR (recR ms dep (f' + 1)) ⟨xnum, xname, xk, xrep, xtype⟩ c = false) := by
                  refine (?_ : _ = _)
                  rw [HVR.out]; simp [h7, hu]
                clear h7 HVR
                refine wp_region_held_drew (S := fun W => Below Z.heap.size Z W) (by kernel_rfl) hS0 (fun _ => ?_)
                refine T_on 0 (.pointer (some ⟨w3.heap.size, 0, none⟩)) rfl (by kernel_rfl) (fun _ _ _ h => h) hS0 (fun W hW => by go_simp) ?_
                refine T_on 1 (.int .i64 ck) rfl (by kernel_rfl) (fun _ _ _ h => h) hS0 (fun W hW => by have c := zz0 W hW; go_simp) ?_
                refine T_on 2 (.pointer (some ⟨U2.heap.size, 2, none⟩)) rfl (by kernel_rfl) (fun _ _ _ h => h) hS0 (fun W hW => by go_simp) ?_
                refine T_on 3 (.int .i64 xk) rfl (by kernel_rfl) (fun _ _ _ h => h) hS0 (fun W hW => by have c := dd2 W hW; go_simp) ?_
                refine T_call 4 (by kernel_rfl) rfl (fun K hK => ?_)
                go_simp
                refine (hko _).mono ?_
                rintro e W9 ⟨rfl, hW9⟩
                have hW9 := hW9.symm
                subst hW9
                dsimp only
                refine hK.out _ _ hS0 (fun _ => ?_)
                clear hK K
                refine T_on 5 (.bool false) rfl (by kernel_rfl) (fun _ _ _ h => h) hS0 (fun W hW => by go_simp) ?_
                refine T_on 6 (.bool false) rfl (by kernel_rfl) (fun _ _ _ h => h) hS0 (fun W hW => by go_simp) ?_
                refine T_on 7 (.pointer (some ⟨U2.heap.size, 2, none⟩)) rfl (by kernel_rfl) (fun _ _ _ h => h) hS0 (fun W hW => by go_simp) ?_
                refine T_on 8 (.int .i64 xk) rfl (by kernel_rfl) (fun _ _ _ h => h) hS0 (fun W hW => by have c := dd2 W hW; go_simp) ?_
                refine T_on 9 (.bool true) rfl (by kernel_rfl) (fun _ _ _ h => h) hS0 (fun W hW => by go_simp) ?_
                refine T_on 10 (.bool true) rfl (by kernel_rfl) (fun _ _ _ h => h) hS0 (fun W hW => by go_simp) ?_
                refine T_on 11 (.pointer (some ⟨w3.heap.size, 2, none⟩)) rfl (by kernel_rfl) (fun _ _ _ h => h) hS0 (fun W hW => by go_simp) ?_
                refine T_on 12 (.int .u64 cu) rfl (by kernel_rfl) (fun _ _ _ h => h) hS0 (fun W hW => by have c := zz2 W hW; go_simp) ?_
                refine T_on 13 (.bool true) rfl (by kernel_rfl) (fun _ _ _ h => h) hS0 (fun W hW => by go_simp; try omega) ?_
                refine T_on 14 (.bool true) rfl (by kernel_rfl) (fun _ _ _ h => h) hS0 (fun W hW => by go_simp) ?_
                refine T_on 15 (.bool true) rfl (by kernel_rfl) (fun _ _ _ h => h) hS0 (fun W hW => by go_simp) ?_
                refine T_on 16 (.bool true) rfl (by kernel_rfl) (fun _ _ _ h => h) hS0 (fun W hW => by go_simp) ?_
                refine T_off 17 rfl (by kernel_rfl) (fun _ _ _ h => h) hS0 ?_
                refine T_off 18 rfl (by kernel_rfl) (fun _ _ _ h => h) hS0 ?_
                refine T_off 19 rfl (by kernel_rfl) (fun _ _ _ h => h) hS0 ?_
                refine T_off 20 rfl (by kernel_rfl) (fun _ _ _ h => h) hS0 ?_
                refine T_off 21 rfl (by kernel_rfl) (fun _ _ _ h => h) hS0 ?_
                refine T_off 22 rfl (by kernel_rfl) (fun _ _ _ h => h) hS0 ?_
                refine T_off 23 rfl (by kernel_rfl) (fun _ _ _ h => h) hS0 ?_
                refine T_off 24 rfl (by kernel_rfl) (fun _ _ _ h => h) hS0 ?_
                refine T_off 25 rfl (by kernel_rfl) (fun _ _ _ h => h) hS0 ?_
                refine T_on 26 (.bool true) rfl (by kernel_rfl) (fun _ _ _ h => h) hS0 (fun W hW => by go_simp) ?_
                refine wpAnyH_done (by kernel_rfl) ?_ _
                go_simp
                go_wp2_with fail
                go_meet
                exact ⟨true, rfl, hS0, (fun _ => HW.out), (fun h => by cases h)⟩
              · have h7' : (xk == 7) = true := by simp [h7]
                have h5' : (xk == 5) = false := by simp [h7]
                have HW : Hid (valR (recR ms dep (f' + 1)) ⟨xnum, xname, xk, xrep, xtype⟩ c = (!decide (xk = 10) || recR ms dep (f' + 1) xtype c)) := by
                  refine (?_ : _ = _)
                  rw [HVR.out]; simp [h7, hu]
                clear h7 HVR
                refine wp_region_held_drew (S := fun W => Below Z.heap.size Z W) (by kernel_rfl) hS0 (fun _ => ?_)
                refine T_on 0 (.pointer (some ⟨w3.heap.size, 0, none⟩)) rfl (by kernel_rfl) (fun _ _ _ h => h) hS0 (fun W hW => by go_simp) ?_
                refine T_on 1 (.int .i64 ck) rfl (by kernel_rfl) (fun _ _ _ h => h) hS0 (fun W hW => by have c := zz0 W hW; go_simp) ?_
                refine T_on 2 (.pointer (some ⟨U2.heap.size, 2, none⟩)) rfl (by kernel_rfl) (fun _ _ _ h => h) hS0 (fun W hW => by go_simp) ?_
                refine T_on 3 (.int .i64 xk) rfl (by kernel_rfl) (fun _ _ _ h => h) hS0 (fun W hW => by have c := dd2 W hW; go_simp) ?_
                refine T_call 4 (by kernel_rfl) rfl (fun K hK => ?_)
                go_simp
                refine (hko _).mono ?_
                rintro e W9 ⟨rfl, hW9⟩
                have hW9 := hW9.symm
                subst hW9
                dsimp only
                refine hK.out _ _ hS0 (fun _ => ?_)
                clear hK K
                refine T_on 5 (.bool false) rfl (by kernel_rfl) (fun _ _ _ h => h) hS0 (fun W hW => by go_simp) ?_
                refine T_on 6 (.bool false) rfl (by kernel_rfl) (fun _ _ _ h => h) hS0 (fun W hW => by go_simp) ?_
                refine T_on 7 (.pointer (some ⟨U2.heap.size, 2, none⟩)) rfl (by kernel_rfl) (fun _ _ _ h => h) hS0 (fun W hW => by go_simp) ?_
                refine T_on 8 (.int .i64 xk) rfl (by kernel_rfl) (fun _ _ _ h => h) hS0 (fun W hW => by have c := dd2 W hW; go_simp) ?_
                refine T_on 9 (.bool true) rfl (by kernel_rfl) (fun _ _ _ h => h) hS0 (fun W hW => by go_simp) ?_
                refine T_on 10 (.bool true) rfl (by kernel_rfl) (fun _ _ _ h => h) hS0 (fun W hW => by go_simp) ?_
                refine T_on 11 (.pointer (some ⟨w3.heap.size, 2, none⟩)) rfl (by kernel_rfl) (fun _ _ _ h => h) hS0 (fun W hW => by go_simp) ?_
                refine T_on 12 (.int .u64 cu) rfl (by kernel_rfl) (fun _ _ _ h => h) hS0 (fun W hW => by have c := zz2 W hW; go_simp) ?_
                refine T_on 13 (.bool false) rfl (by kernel_rfl) (fun _ _ _ h => h) hS0 (fun W hW => by go_simp; try omega) ?_
                refine T_on 14 (.bool false) rfl (by kernel_rfl) (fun _ _ _ h => h) hS0 (fun W hW => by go_simp) ?_
                refine T_on 15 (.bool false) rfl (by kernel_rfl) (fun _ _ _ h => h) hS0 (fun W hW => by go_simp) ?_
                refine T_on 16 (.bool false) rfl (by kernel_rfl) (fun _ _ _ h => h) hS0 (fun W hW => by go_simp) ?_
                refine T_on 17 (.pointer (some ⟨U2.heap.size, 2, none⟩)) rfl (by kernel_rfl) (fun _ _ _ h => h) hS0 (fun W hW => by go_simp) ?_
                refine T_on 18 (.int .i64 xk) rfl (by kernel_rfl) (fun _ _ _ h => h) hS0 (fun W hW => by have c := dd2 W hW; go_simp) ?_
                refine T_on 19 (.bool false) rfl (by kernel_rfl) (fun _ _ _ h => h) hS0 (fun W hW => by go_simp) ?_
                refine T_on 20 (.bool false) rfl (by kernel_rfl) (fun _ _ _ h => h) hS0 (fun W hW => by go_simp) ?_
                refine T_off 21 rfl (by kernel_rfl) (fun _ _ _ h => h) hS0 ?_
                refine T_off 22 rfl (by kernel_rfl) (fun _ _ _ h => h) hS0 ?_
                refine T_off 23 rfl (by kernel_rfl) (fun _ _ _ h => h) hS0 ?_
                refine T_off 24 rfl (by kernel_rfl) (fun _ _ _ h => h) hS0 ?_
                refine T_on 25 (.bool false) rfl (by kernel_rfl) (fun _ _ _ h => h) hS0 (fun W hW => by go_simp) ?_
                refine T_on 26 (.bool false) rfl (by kernel_rfl) (fun _ _ _ h => h) hS0 (fun W hW => by go_simp) ?_
                refine wpAnyH_done (by kernel_rfl) ?_ _
                go_simp
                go_wp2_with fail
                go_meet
                exact ⟨false, rfl, hS0, (fun h => by cases h), (fun _ => HW.out)⟩
            have h7' : (xk == 7) = false := by simp [h7]
            by_cases h5 : xk = 5
            · have h5' : (xk == 5) = true := by simp [h5]
              have HW : Hid (valR (recR ms dep (f' + 1)) ⟨xnum, xname, xk, xrep, xtype⟩ c = (VB && (!decide (xk = 10) || recR ms dep (f' + 1) xtype c))) := by
                refine (?_ : _ = _)
                rw [HVR.out]; simp [h5]
              clear h5 h7 HVR
              refine wp_region_held_drew (S := fun W => Below Z.heap.size Z W) (by kernel_rfl) hS0 (fun _ => ?_)
              refine T_on 0 (.pointer (some ⟨w3.heap.size, 0, none⟩)) rfl (by kernel_rfl) (fun _ _ _ h => h) hS0 (fun W hW => by go_simp) ?_
              refine T_on 1 (.int .i64 ck) rfl (by kernel_rfl) (fun _ _ _ h => h) hS0 (fun W hW => by have c := zz0 W hW; go_simp) ?_
              refine T_on 2 (.pointer (some ⟨U2.heap.size, 2, none⟩)) rfl (by kernel_rfl) (fun _ _ _ h => h) hS0 (fun W hW => by go_simp) ?_
              refine T_on 3 (.int .i64 xk) rfl (by kernel_rfl) (fun _ _ _ h => h) hS0 (fun W hW => by have c := dd2 W hW; go_simp) ?_
              refine T_call 4 (by kernel_rfl) rfl (fun K hK => ?_)
              go_simp
              refine (hko _).mono ?_
              rintro e W9 ⟨rfl, hW9⟩
              have hW9 := hW9.symm
              subst hW9
              dsimp only
              refine hK.out _ _ hS0 (fun _ => ?_)
              clear hK K
              refine T_on 5 (.bool false) rfl (by kernel_rfl) (fun _ _ _ h => h) hS0 (fun W hW => by go_simp) ?_
              refine T_on 6 (.bool false) rfl (by kernel_rfl) (fun _ _ _ h => h) hS0 (fun W hW => by go_simp) ?_
              refine T_on 7 (.pointer (some ⟨U2.heap.size, 2, none⟩)) rfl (by kernel_rfl) (fun _ _ _ h => h) hS0 (fun W hW => by go_simp) ?_
              refine T_on 8 (.int .i64 xk) rfl (by kernel_rfl) (fun _ _ _ h => h) hS0 (fun W hW => by have c := dd2 W hW; go_simp) ?_
              refine T_on 9 (.bool false) rfl (by kernel_rfl) (fun _ _ _ h => h) hS0 (fun W hW => by go_simp) ?_
              refine T_on 10 (.bool false) rfl (by kernel_rfl) (fun _ _ _ h => h) hS0 (fun W hW => by go_simp) ?_
              refine T_off 11 rfl (by kernel_rfl) (fun _ _ _ h => h) hS0 ?_
              refine T_off 12 rfl (by kernel_rfl) (fun _ _ _ h => h) hS0 ?_
              refine T_off 13 rfl (by kernel_rfl) (fun _ _ _ h => h) hS0 ?_
              refine T_on 14 (.bool false) rfl (by kernel_rfl) (fun _ _ _ h => h) hS0 (fun W hW => by go_simp) ?_
              refine T_on 15 (.bool false) rfl (by kernel_rfl) (fun _ _ _ h => h) hS0 (fun W hW => by go_simp) ?_
              refine T_on 16 (.bool false) rfl (by kernel_rfl) (fun _ _ _ h => h) hS0 (fun W hW => by go_simp) ?_
              refine T_on 17 (.pointer (some ⟨U2.heap.size, 2, none⟩)) rfl (by kernel_rfl) (fun _ _ _ h => h) hS0 (fun W hW => by go_simp) ?_
              refine T_on 18 (.int .i64 xk) rfl (by kernel_rfl) (fun _ _ _ h => h) hS0 (fun W hW => by have c := dd2 W hW; go_simp) ?_
              refine T_on 19 (.bool true) rfl (by kernel_rfl) (fun _ _ _ h => h) hS0 (fun W hW => by go_simp) ?_
              refine T_on 20 (.bool true) rfl (by kernel_rfl) (fun _ _ _ h => h) hS0 (fun W hW => by go_simp) ?_
              refine T_on 21 (.pointer (some ⟨w3.heap.size, 4, none⟩)) rfl (by kernel_rfl) (fun _ _ _ h => h) hS0 (fun W hW => by go_simp) ?_
              refine T_on 22 (.string (mkB cs)) rfl (by kernel_rfl) (fun _ _ _ h => h) hS0 (fun W hW => by have c := zz4 W hW; go_simp) ?_
              refine T_call 23 (by kernel_rfl) rfl (fun K hK => ?_)
              go_simp
              refine (hva _ hS0).mono ?_
              rintro e W9 ⟨rfl, hW9⟩
              clear hS0
              have hS0 := hW9
              clear hW9
              dsimp only
              refine hK.out _ _ hS0 (fun _ => ?_)
              clear hK K
              refine T_on 24 (.bool (!VB)) rfl (by kernel_rfl) (fun _ _ _ h => h) hS0 (fun W hW => by go_simp) ?_
              refine T_on 25 (.bool (!VB)) rfl (by kernel_rfl) (fun _ _ _ h => h) hS0 (fun W hW => by go_simp) ?_
              refine T_on 26 (.bool (!VB)) rfl (by kernel_rfl) (fun _ _ _ h => h) hS0 (fun W hW => by go_simp) ?_
              refine wpAnyH_done (by kernel_rfl) ?_ _
              go_simp
              go_wp2_with fail
              go_meet
              refine ⟨!VB, rfl, hS0, fun h => ?_, fun h => ?_⟩
              · have e : VB = false := by simpa using h
                rw [HW.out, e]; rfl
              · have e : VB = true := by simpa using h
                rw [HW.out, e]; rfl
            have h5' : (xk == 5) = false := by simp [h5]
            have HW : Hid (valR (recR ms dep (f' + 1)) ⟨xnum, xname, xk, xrep, xtype⟩ c = (!decide (xk = 10) || recR ms dep (f' + 1) xtype c)) := by
              refine (?_ : _ = _)
              rw [HVR.out]; simp [h5, h7]
            clear h5 h7 HVR
            refine wp_region_held_drew (S := fun W => Below Z.heap.size Z W) (by kernel_rfl) hS0 (fun _ => ?_)
            refine T_on 0 (.pointer (some ⟨w3.heap.size, 0, none⟩)) rfl (by kernel_rfl) (fun _ _ _ h => h) hS0 (fun W hW => by go_simp) ?_
            refine T_on 1 (.int .i64 ck) rfl (by kernel_rfl) (fun _ _ _ h => h) hS0 (fun W hW => by have c := zz0 W hW; go_simp) ?_
            refine T_on 2 (.pointer (some ⟨U2.heap.size, 2, none⟩)) rfl (by kernel_rfl) (fun _ _ _ h => h) hS0 (fun W hW => by go_simp) ?_
            refine T_on 3 (.int .i64 xk) rfl (by kernel_rfl) (fun _ _ _ h => h) hS0 (fun W hW => by have c := dd2 W hW; go_simp) ?_
            refine T_call 4 (by kernel_rfl) rfl (fun K hK => ?_)
            go_simp
            refine (hko _).mono ?_
            rintro e W9 ⟨rfl, hW9⟩
            have hW9 := hW9.symm
            subst hW9
            dsimp only
            refine hK.out _ _ hS0 (fun _ => ?_)
            clear hK K
            refine T_on 5 (.bool false) rfl (by kernel_rfl) (fun _ _ _ h => h) hS0 (fun W hW => by go_simp) ?_
            refine T_on 6 (.bool false) rfl (by kernel_rfl) (fun _ _ _ h => h) hS0 (fun W hW => by go_simp) ?_
            refine T_on 7 (.pointer (some ⟨U2.heap.size, 2, none⟩)) rfl (by kernel_rfl) (fun _ _ _ h => h) hS0 (fun W hW => by go_simp) ?_
            refine T_on 8 (.int .i64 xk) rfl (by kernel_rfl) (fun _ _ _ h => h) hS0 (fun W hW => by have c := dd2 W hW; go_simp) ?_
            refine T_on 9 (.bool false) rfl (by kernel_rfl) (fun _ _ _ h => h) hS0 (fun W hW => by go_simp) ?_
            refine T_on 10 (.bool false) rfl (by kernel_rfl) (fun _ _ _ h => h) hS0 (fun W hW => by go_simp) ?_
            refine T_off 11 rfl (by kernel_rfl) (fun _ _ _ h => h) hS0 ?_
            refine T_off 12 rfl (by kernel_rfl) (fun _ _ _ h => h) hS0 ?_
            refine T_off 13 rfl (by kernel_rfl) (fun _ _ _ h => h) hS0 ?_
            refine T_on 14 (.bool false) rfl (by kernel_rfl) (fun _ _ _ h => h) hS0 (fun W hW => by go_simp) ?_
            refine T_on 15 (.bool false) rfl (by kernel_rfl) (fun _ _ _ h => h) hS0 (fun W hW => by go_simp) ?_
            refine T_on 16 (.bool false) rfl (by kernel_rfl) (fun _ _ _ h => h) hS0 (fun W hW => by go_simp) ?_
            refine T_on 17 (.pointer (some ⟨U2.heap.size, 2, none⟩)) rfl (by kernel_rfl) (fun _ _ _ h => h) hS0 (fun W hW => by go_simp) ?_
            refine T_on 18 (.int .i64 xk) rfl (by kernel_rfl) (fun _ _ _ h => h) hS0 (fun W hW => by have c := dd2 W hW; go_simp) ?_
            refine T_on 19 (.bool false) rfl (by kernel_rfl) (fun _ _ _ h => h) hS0 (fun W hW => by go_simp) ?_
            refine T_on 20 (.bool false) rfl (by kernel_rfl) (fun _ _ _ h => h) hS0 (fun W hW => by go_simp) ?_
            refine T_off 21 rfl (by kernel_rfl) (fun _ _ _ h => h) hS0 ?_
            refine T_off 22 rfl (by kernel_rfl) (fun _ _ _ h => h) hS0 ?_
            refine T_off 23 rfl (by kernel_rfl) (fun _ _ _ h => h) hS0 ?_
            refine T_off 24 rfl (by kernel_rfl) (fun _ _ _ h => h) hS0 ?_
            refine T_on 25 (.bool false) rfl (by kernel_rfl) (fun _ _ _ h => h) hS0 (fun W hW => by go_simp) ?_
            refine T_on 26 (.bool false) rfl (by kernel_rfl) (fun _ _ _ h => h) hS0 (fun W hW => by go_simp) ?_
            refine wpAnyH_done (by kernel_rfl) ?_ _
            go_simp
            go_wp2_with fail
            go_meet
            exact ⟨false, rfl, hS0, (fun h => by cases h), (fun _ => HW.out)⟩
          case rest =>
          obtain ⟨b, rfl, hS1, hA1, hA2⟩ := hcut
          have HAA := Lib.hid hA1
          have HAB := Lib.hid hA2
          clear hA1 hA2
          generalize wc = U3 at *
          have HU3 := Lib.hid hS1
          have hDU3 := HDZ.out.trans (hS1.mono HDZ.out.size)
          have HDU3 := Lib.hid hDU3
          have hB3 := HBZ.out U3 hS1
          have HB3' := Lib.hid hB3
          have hx3 := HXZ.out U3 hS1
          cases b
          case true =>
            have e : R = false := by
              have h1 := HAA.out rfl
              rw [← HRB.out, allB_no (j := k) (by rw [HKD.out]; exact allB_no (j := a) (by rw [HVC.out]; exact h1) (by have := HMV.out; omega)) (by have := HN.out; omega)]
            subst e
            clear HIH HRB hS0 hS1 hva hko
            go_wp2_with fail
            go_ret
            exact ⟨rfl, HB3'.out⟩
          have HVF := Lib.hid (HAB.out rfl)
          have p2 := dd2 U3 hS1
          clear HAA HAB hS0 hva hko HVR
          by_cases h10 : xk = 10
          case neg =>
            have h10' : (xk == 10) = false := by simp [h10]
            have HVT : Hid (atB ys (fun _ y => valR (recR ms dep (f' + 1)) ⟨xnum, xname, xk, xrep, xtype⟩ y) a = true) := by
              refine (?_ : _ = _)
              rw [HVC.out, HVF.out]; simp [h10]
            clear h10 HIH hS1 hDU3 hB3 hx3
            go_wp2_with fail
            go_roundw
            case rel => exact ⟨a + 1, by go_num, by omega, allB_step HA3.out HVT.out, HDU3.out⟩
            case measure => simp [intOf]; omega
          subst h10
          have hv3 := HVX.out U3 hx3
          have t0 := s0 U3 hv3
          have t1 := s1 U3 hv3
          have t2 := s2 U3 hv3
          have hD3 := (hDU3.block _ (by omega)).trans HD.out
          have p4 : U3.cell? ⟨U2.heap.size, 4, none⟩ = some (.int .i64 xtype) := cell_at hD3 4 rfl
          have hZ3 := (hS1.block _ (by omega)).trans HZ3.out
          have k0 : U3.cell? ⟨w3.heap.size, 0, none⟩ = some (.int .i64 ck) := cell_at hZ3 0 rfl
          have k1 : U3.cell? ⟨w3.heap.size, 1, none⟩ = some (.int .i64 cnn) := cell_at hZ3 1 rfl
          have k2 : U3.cell? ⟨w3.heap.size, 2, none⟩ = some (.int .u64 cu) := cell_at hZ3 2 rfl
          have k3 : U3.cell? ⟨w3.heap.size, 3, none⟩ = some (.bool cb) := cell_at hZ3 3 rfl
          have k4 : U3.cell? ⟨w3.heap.size, 4, none⟩ = some (.string (mkB cs)) := cell_at hZ3 4 rfl
          have k5 : U3.cell? ⟨w3.heap.size, 5, none⟩ = some (.int .i64 ct) := cell_at hZ3 5 rfl
          have k6 : U3.cell? ⟨w3.heap.size, 6, none⟩ = some (.slice sa sl sc) := cell_at hZ3 6 rfl
          obtain ⟨hx0, hx1⟩ := HMT.out _ HFM.out rfl
          dsimp only at hx0 hx1
          rw [HNM.out] at hx1
          have h := HIH.out f' (by omega) xtype (dep + 1) c ⟨ck, cnn, cu, cb, cs, ct, cf⟩ sa sl sc U3 HZC.out (tabs_below HT.out hB3) (by omega) hx0 hx1 ((HeldN.old HHM.out fun b hb => hB3.block b hb).more fun b hb => by have hb' : b < w.heap.size := hb; have := hB3.size; omega) HFC.out (fun h7 => HeldG.mv (fun b hb => hB3.block b hb) (fun b hb => by have hb' : b < w.heap.size := hb; have := hB3.size; omega) (HHC.out h7))
          obtain ⟨B2, hB2⟩ : ∃ b, fitR ms f' (dep + 1) xtype c = b := ⟨_, rfl⟩
          have HVT : Hid (atB ys (fun _ y => valR (recR ms dep (f' + 1)) ⟨xnum, xname, 10, xrep, xtype⟩ y) a = B2) := by
            refine (?_ : _ = _)
            rw [HVC.out, HVF.out, ← hB2]; rfl
          rw [hB2] at h
          have hwd : IntKind.i64.wrap (dep + 1) = dep + 1 := by rw [IntKind.wrap_i64]; omega
          clear hB2 hx0 hx1 hS1 hDU3 hx3 hv3 hD3 hZ3
          dsimp only at h
          go_wp2_with fail
          refine h.mono ?_
          rintro e W5 ⟨rfl, hb5⟩
          have HB5 := Lib.hid (hB3.trans (hb5.mono hB3.size))
          have HDW5 := Lib.hid (HDU3.out.trans (hb5.mono HDU3.out.size))
          clear h hb5 hB3 t0 t1 t2 p2 p4 k0 k1 k2 k3 k4 k5 k6
          cases B2
          case false =>
            have e : R = false := by
              rw [← HRB.out, allB_no (j := k) (by rw [HKD.out]; exact allB_no (j := a) HVT.out (by have := HMV.out; omega)) (by have := HN.out; omega)]
            subst e
            clear HIH HRB
            go_wp2_with fail
            go_ret
            exact ⟨rfl, HB5.out⟩
          case true =>
            clear HIH
            go_wp2_with fail
            go_roundw
            case rel => exact ⟨a + 1, by go_num, by omega, allB_step HA3.out HVT.out, HDW5.out⟩
            case measure => simp [intOf]; omega
        · have han' : ¬ (a : Int) < (mv : Int) := by omega
          have HKT : Hid (atB zf (fun k y => risesR zf k y && fldR (recR ms dep (f' + 1)) mfs y) k = true) := by
            refine (?_ : _ = _)
            have hae : ys.length = a := by have := HMV.out; omega
            rw [HKD.out, hae]; exact HA3.out
          have HUW := Lib.hid (HUD.out.trans (hbel.mono HUD.out.size))
          clear hall hbel hX3 hBw3 HIH q1
          go_wp2_with fail
          go_roundw
          case rel => exact ⟨k + 1, by go_num, by omega, allB_step HA.out HKT.out, HUW.out⟩
          case measure => simp [intOf]; omega
    · have hkn' : ¬ (k : Int) < (ln : Int) := by omega
      have e : R = true := by
        have hkk : zf.length = k := by have := HN.out; omega
        rw [← HRB.out, hkk]; exact HA.out
      subst e
      clear hall hbel hBw1 hVw HIH HRB
      go_wp2_with fail
      go_ret
      exact ⟨rfl, HBw.out⟩
end Go.Proofs.YtfhmombnipfimaaGreatDoor
