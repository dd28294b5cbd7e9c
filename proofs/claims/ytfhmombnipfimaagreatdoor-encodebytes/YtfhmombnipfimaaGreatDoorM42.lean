/-
  The walks over the document's Encode and Size.
-/
import Derived.Test.YtfhmombnipfimaaGreatDoorM32
import Derived.Test.YtfhmombnipfimaaGreatDoorM39
import Derived.Test.YtfhmombnipfimaaGreatDoorM30
import Derived.Test.YtfhmombnipfimaaGreatDoorM41
namespace Go.Proofs.YtfhmombnipfimaaGreatDoor
set_option linter.unusedVariables false
open Go.ChangeShapes Go.WideShapes Go.ChangeAt Go.RowKit

theorem kinds_of {s : SC} (h : FormS s) : ∀ m ∈ s.ms, ∀ x ∈ m.fields, 1 ≤ x.kind ∧ x.kind ≤ 10 := by
  have h0 : formM s.es.length s.ms.length s.ms = true := by
    have h1 := h.1
    unfold formS at h1
    simp only [Bool.and_eq_true] at h1
    exact h1.2.2.1
  intro m hm x hx
  obtain ⟨i, hi⟩ := List.getElem?_of_mem hm
  have h1 := allA_iff.1 h0 i m hi
  unfold goodM at h1
  rw [Bool.and_eq_true] at h1
  obtain ⟨j, hj⟩ := List.getElem?_of_mem hx
  have h2 := allA_iff.1 h1.2 j x hj
  unfold goodF at h2
  simp only [Bool.and_eq_true] at h2
  by_cases hk : x.kind < 1 ∨ 10 < x.kind
  · have h3 := h2.2.2.2.2
    rw [typB_lo hk] at h3
    cases h3
  · omega
/-- the document's bytes of a normal value -/
theorem bytesX_of (ma ea ta : Option Addr) (nm ne nt mc ec tc : Nat) (s : SC) (f : Nat) (t : Int) (x : Nd) (W : World) (r0 r1 r2 : Int) (r3 : Bool) (r4 : ByteArray) (r5 : Int) (ra : Option Addr) (rl rc : Nat) (fsr : Value) (hnm : s.ms.length = nm) (hf : FitS s) (hx : FitX s f t x) (hM : HeldM W (fun b => b < W.heap.size) (.slice ma nm mc) s.ms) (hfit : FitG 100000 10000 f x) (hrng : RngG f x) (hbnd : bndN f x ≤ 1000000000)
    (hrow : [.int .i64 r0, .int .i64 r1, .int .u64 r2, .bool r3, .string r4, .int .i64 r5, .slice ra rl rc] = clS.row (normN s.ms f x) fsr) (hH : HeldG clS W (fun b => b < W.heap.size) f fsr (normN s.ms f x).fields) :
    Calls Tryz.prog 42 #[.agg #[.slice ma nm mc, .slice ea ne ec, .slice ta nt tc], .agg #[.int .i64 r0, .int .i64 r1, .int .u64 r2, .bool r3, .string r4, .int .i64 r5, .slice ra rl rc]] W fun e w' => BAns (encB s f x) W e w' := by
  have hno := numOK_of hf hx.1
  have hft := norm_fit hno f 1 t x hx.2.1 hx.2.2.1 hx.2.2.2
  have hen := encG_of hno f 1 t _ hx.2.1 hx.2.2.1 hft
  have hek := encK_of hno (kinds_of hx.1) f 1 t _ hx.2.1 hx.2.2.1 hft
  have hrn := norm_rng s.ms f x hrng
  have hbn := norm_bnd s.ms f x
  have hfn := norm_fitG s.ms (bs := 100000) (bf := 10000) f x hfit
  unfold encB
  generalize normN s.ms f x = y at *
  have hk := hek.one.1
  have hr : clS.row y fsr = [.int .i64 (cn y).kind, .int .i64 (cn y).n, .int .u64 (cn y).u, .bool (cn y).b, .string (mkB (cn y).s), .int .i64 (cn y).type, if y.kind = 7 then fsr else .slice none 0 0] := rfl
  rw [hr] at hrow
  simp only [List.cons.injEq, Value.int.injEq, Value.bool.injEq, Value.string.injEq, true_and, and_true] at hrow
  obtain ⟨rfl, rfl, rfl, rfl, rfl, rfl, h7⟩ := hrow
  rw [if_pos hk] at h7
  subst h7
  obtain ⟨a, c, he⟩ := HeldG.isSl hH
  have hl : y.fields.length = rl := (Value.slice.inj he).2.1.symm
  exact bytesN_any ma ea ta nm ne nt mc ec tc s.ms hnm (fun m hm => (tyOK_of hf hx.1 m hm).1) f y (cn y) ra rl rc W rfl hek hen hrn hfn (by omega) hM hH hl
set_option maxHeartbeats 16000000 in
set_option maxRecDepth 20000 in
theorem encodeR_any (ma ea ta : Option Addr) (nm ne nt mc ec tc : Nat) (s : SC) (f : Nat) (t : Int) (w : World) (hT : Tabs w) (hnm : s.ms.length = nm) (hne : s.es.length = ne) (hnt : s.ts.length = nt) (hf : FitS s) (hH : HeldSc w (fun b => b < w.heap.size) (.slice ma nm mc) (.slice ea ne ec) (.slice ta nt tc) s) (x z : Nd) (la : Option Addr) (ln lc : Nat) (hz : z = cn x) (hV : x.kind = 7 → HeldG clS w (fun b => b < w.heap.size) f (.slice la ln lc) x.fields) (hfit : FitG 100000 10000 f x) (hrng : RngG f x) (hbnd : bndN f x ≤ 1000000000) :
    Calls Tryz.prog 22 #[.agg #[.slice ma nm mc, .slice ea ne ec, .slice ta nt tc], .int .i64 t, .agg #[.int .i64 z.kind, .int .i64 z.n, .int .u64 z.u, .bool z.b, .string (mkB z.s), .int .i64 z.type, .slice la ln lc]] w fun e w' => EncAns s f t x w e w' := by
  obtain ⟨Y, hY, hC, hb, hYs⟩ := box_new w #[.slice ma nm mc, .slice ea ne ec, .slice ta nt tc] 26
  obtain ⟨V, hV', hD, hVb, hVs⟩ := box_new Y #[.int .i64 z.kind, .int .i64 z.n, .int .u64 z.u, .bool z.b, .string (mkB z.s), .int .i64 z.type, .slice la ln lc] 30
  rw [hYs] at hD
  have HY := Lib.hid hY
  have HV := Lib.hid hV'
  have hBV := hb.trans (hVb.mono hb.size)
  have HBV := Lib.hid hBV
  have hCV := (hVb.block _ (by omega)).trans hC
  have hVl : w.heap.size + 2 = V.heap.size := by omega
  have HVV : Hid (∀ W, Below w.heap.size w W → x.kind = 7 → HeldG clS W (fun b => b < W.heap.size) f (.slice la ln lc) x.fields) := fun W hW hk => HeldG.mv (fun b hb => hW.block b hb) (fun b hb => by have hb' : b < w.heap.size := hb; have := hW.size; omega) (hV hk)
  have h := fitsRV_any ma ea ta nm ne nt mc ec tc s f t V (tabs_below hT hBV) hnm hne hnt hf (heldSc_mv hH hBV) x z la ln lc hz (HVV.out V hBV) hfit
  have HNR : Hid (FitX s f t x → ∀ W, Below V.heap.size V W → Calls Tryz.prog 17 #[.agg #[.slice ma nm mc, .slice ea ne ec, .slice ta nt tc], .agg #[.int .i64 z.kind, .int .i64 z.n, .int .u64 z.u, .bool z.b, .string (mkB z.s), .int .i64 z.type, .slice la ln lc]] W fun e w' => OurAns f W (normN s.ms f x) e w') := by
    refine (?_ : _ → ∀ W, _ → _)
    intro hx W hW
    have hw := hBV.trans (hW.mono hBV.size)
    have hgd := good_of_fit (fun m hm y hy => (tyOK_of hf hx.1 m hm).2 y hy) f 1 t x hx.2.1 hx.2.2.1 hx.2.2.2
    obtain ⟨a, c, he⟩ := HeldG.isSl (hV hgd.1)
    exact normR_any ma ea ta nm ne nt mc ec tc s.ms hnm (tyOK_of hf hx.1) f x z la ln lc W hz hgd.1 hgd.2 (heldSc_mv hH hw).1 hfit (HVV.out W hw hgd.1) (Value.slice.inj he).2.1.symm
  have HBX : Hid (FitX s f t x → ∀ (W : World) (r0 r1 r2 : Int) (r3 : Bool) (r4 : ByteArray) (r5 : Int) (ra : Option Addr) (rl rc : Nat) (fsr : Value), Below V.heap.size V W → [.int .i64 r0, .int .i64 r1, .int .u64 r2, .bool r3, .string r4, .int .i64 r5, .slice ra rl rc] = clS.row (normN s.ms f x) fsr → HeldG clS W (fun b => b < W.heap.size) f fsr (normN s.ms f x).fields → Calls Tryz.prog 42 #[.agg #[.slice ma nm mc, .slice ea ne ec, .slice ta nt tc], .agg #[.int .i64 r0, .int .i64 r1, .int .u64 r2, .bool r3, .string r4, .int .i64 r5, .slice ra rl rc]] W fun e w' => BAns (encB s f x) W e w') := by
    refine (?_ : _ → ∀ (W : World) (r0 r1 r2 : Int) (r3 : Bool) (r4 : ByteArray) (r5 : Int) (ra : Option Addr) (rl rc : Nat) (fsr : Value), _ → _ → _ → _)
    intro hx W r0 r1 r2 r3 r4 r5 ra rl rc fsr hW hrow hh
    have hw := hBV.trans (hW.mono hBV.size)
    exact bytesX_of ma ea ta nm ne nt mc ec tc s f t x W r0 r1 r2 r3 r4 r5 ra rl rc fsr hnm hf hx (heldSc_mv hH hw).1 hfit hrng hbnd hrow hh
  have HNK : Hid (FitX s f t x → (normN s.ms f x).kind = 7) := by
    refine (?_ : _ → _)
    intro hx
    rw [norm_kind]
    exact (good_of_fit (fun m hm y hy => (tyOK_of hf hx.1 m hm).2 y hy) f 1 t x hx.2.1 hx.2.2.1 hx.2.2.2).1
  have s0 : ∀ W, Below V.heap.size V W → W.cell? ⟨w.heap.size, 0, none⟩ = some (.slice ma nm mc) := fun W hW => (hW.cell (by simp; omega)).trans (cell_at hCV 0 rfl)
  have s1 : ∀ W, Below V.heap.size V W → W.cell? ⟨w.heap.size, 1, none⟩ = some (.slice ea ne ec) := fun W hW => (hW.cell (by simp; omega)).trans (cell_at hCV 1 rfl)
  have s2 : ∀ W, Below V.heap.size V W → W.cell? ⟨w.heap.size, 2, none⟩ = some (.slice ta nt tc) := fun W hW => (hW.cell (by simp; omega)).trans (cell_at hCV 2 rfl)
  have n0 : ∀ W, Below V.heap.size V W → W.cell? ⟨w.heap.size + 1, 0, none⟩ = some (.int .i64 z.kind) := fun W hW => (hW.cell (by simp; omega)).trans (cell_at hD 0 rfl)
  have n1 : ∀ W, Below V.heap.size V W → W.cell? ⟨w.heap.size + 1, 1, none⟩ = some (.int .i64 z.n) := fun W hW => (hW.cell (by simp; omega)).trans (cell_at hD 1 rfl)
  have n2 : ∀ W, Below V.heap.size V W → W.cell? ⟨w.heap.size + 1, 2, none⟩ = some (.int .u64 z.u) := fun W hW => (hW.cell (by simp; omega)).trans (cell_at hD 2 rfl)
  have n3 : ∀ W, Below V.heap.size V W → W.cell? ⟨w.heap.size + 1, 3, none⟩ = some (.bool z.b) := fun W hW => (hW.cell (by simp; omega)).trans (cell_at hD 3 rfl)
  have n4 : ∀ W, Below V.heap.size V W → W.cell? ⟨w.heap.size + 1, 4, none⟩ = some (.string (mkB z.s)) := fun W hW => (hW.cell (by simp; omega)).trans (cell_at hD 4 rfl)
  have n5 : ∀ W, Below V.heap.size V W → W.cell? ⟨w.heap.size + 1, 5, none⟩ = some (.int .i64 z.type) := fun W hW => (hW.cell (by simp; omega)).trans (cell_at hD 5 rfl)
  have n6 : ∀ W, Below V.heap.size V W → W.cell? ⟨w.heap.size + 1, 6, none⟩ = some (.slice la ln lc) := fun W hW => (hW.cell (by simp; omega)).trans (cell_at hD 6 rfl)
  have b0 := s0 V (Below.refl _ _)
  have b1 := s1 V (Below.refl _ _)
  have b2 := s2 V (Below.refl _ _)
  have k0 := n0 V (Below.refl _ _)
  have k1 := n1 V (Below.refl _ _)
  have k2 := n2 V (Below.refl _ _)
  have k3 := n3 V (Below.refl _ _)
  have k4 := n4 V (Below.refl _ _)
  have k5 := n5 V (Below.refl _ _)
  have k6 := n6 V (Below.refl _ _)
  clear hY hC hb hYs hV' hD hVb hVs hBV hCV hT hnm hne hnt hf hH hz hV hfit hrng hbnd
  go_enter Tryz.func22, Tryz.ntmps22
  go_upto_region 1 with fail
  rw [HY.out, HV.out]
  go_wp2_with fail
  refine h.mono ?_
  rintro e W1 ⟨b, rfl, hbi, hb1⟩
  have HBI := Lib.hid hbi
  have hw1 := HBV.out.trans (hb1.mono HBV.out.size)
  have HB1 := Lib.hid hw1
  clear h hbi b0 b1 b2 k0 k1 k2 k3 k4 k5 k6
  cases b
  case false =>
    have HE : Hid (EncAns s f t x w (.returned (.tuple #[.slice none 0 0, .int .i64 1])) W1) := ⟨.inl ⟨fun hx => (by have := HBI.out.2 hx; cases this), rfl⟩, hw1⟩
    clear hw1 hb1
    go_wp2_with fail
    go_ret2
    exact HE.out
  have hx : FitX s f t x := HBI.out.1 rfl
  have HX := Lib.hid hx
  have HNR2 := Lib.hid (HNR.out hx)
  have HBX2 := Lib.hid (HBX.out hx)
  have HNK2 := Lib.hid (HNK.out hx)
  have hS0 : Below V.heap.size V W1.drew := hb1.drew
  clear hx hb1 hw1 HNR HBX HNK
  go_upto_region 3 with fail
  refine wp_region_held_drew (S := fun W => Below V.heap.size V W) (by kernel_rfl) hS0 (fun _ => ?_)
  refine T_on 0 (.agg #[.slice ma nm mc, .slice ea ne ec, .slice ta nt tc]) rfl (by kernel_rfl) (fun _ _ _ h => h) hS0 (fun W hW => by have c0 := s0 W hW; have c1 := s1 W hW; have c2 := s2 W hW; go_simp) ?_
  refine T_on 1 (.agg #[.slice ma nm mc, .slice ea ne ec, .slice ta nt tc]) rfl (by kernel_rfl) (fun _ _ _ h => h) hS0 (fun W hW => by have c0 := s0 W hW; have c1 := s1 W hW; have c2 := s2 W hW; go_simp) ?_
  refine T_on 2 (.agg #[.int .i64 z.kind, .int .i64 z.n, .int .u64 z.u, .bool z.b, .string (mkB z.s), .int .i64 z.type, .slice la ln lc]) rfl (by kernel_rfl) (fun _ _ _ h => h) hS0 (fun W hW => by have c0 := n0 W hW; have c1 := n1 W hW; have c2 := n2 W hW; have c3 := n3 W hW; have c4 := n4 W hW; have c5 := n5 W hW; have c6 := n6 W hW; go_simp) ?_
  refine T_call 3 (by kernel_rfl) rfl (fun K hK => ?_)
  go_simp
  refine (HNR2.out _ hS0).mono ?_
  rintro e U5 ⟨r0, r1, r2, r3, r4, r5, ra, rl, rc, rf, rfl, rrow, rhg, hb4⟩
  have hS1 := hS0.trans (hb4.mono hS0.size)
  have hcb := HBX2.out U5 r0 r1 r2 r3 r4 r5 ra rl rc rf hS1 rrow (HeldG.mv (fun _ _ => rfl) (fun b hb => hb.2) (rhg HNK2.out))
  clear hS0 hb4 rrow rhg
  have hS0 := hS1
  clear hS1
  dsimp only
  refine hK.out _ _ hS0 (fun _ => ?_)
  clear hK K
  refine T_call 4 (by kernel_rfl) rfl (fun K hK => ?_)
  go_simp
  refine hcb.mono ?_
  rintro e U6 ⟨a, c, rfl, hbi, hb6⟩
  have hS1 := hS0.trans (hb6.mono hS0.size)
  have HBZ : Hid (BIn U6 (fun b => w.heap.size ≤ b ∧ b < U6.heap.size) a c (encB s f x)) := hbi.mv (fun _ _ => rfl) (fun b hb => ⟨by have := hb.1; have := hS0.size; omega, hb.2⟩)
  clear hS0 hcb hbi hb6
  have hS0 := hS1
  clear hS1
  dsimp only
  refine hK.out _ _ hS0 (fun _ => ?_)
  clear hK K
  refine T_on 5 (.slice a (encB s f x).length c) rfl (by kernel_rfl) (fun _ _ _ h => h) hS0 (fun W hW => by go_simp) ?_
  refine wpAnyH_done (by kernel_rfl) ?_ _
  go_simp
  have hw6 := HBV.out.trans (hS0.mono HBV.out.size)
  by_cases hl : (encB s f x).length ≤ 4096
  · have hl' : ¬ (4096 : Int) < ((encB s f x).length : Int) := by omega
    have HE : Hid (EncAns s f t x w (.returned (.tuple #[.slice a (encB s f x).length c, .int .i64 0])) U6) := by
      refine ⟨.inr ⟨HX.out, ?_⟩, hw6⟩
      have e1 : encE s f x = 0 := if_pos hl
      have e2 : encLz s f x = encB s f x := if_pos hl
      rw [e1, e2]
      exact ⟨a, c, rfl, HBZ.out⟩
    generalize (encB s f x).length = L at *
    clear hS0 hw6 hl
    go_wp2_with fail
    go_ret2
    exact HE.out
  · have hl' : (4096 : Int) < ((encB s f x).length : Int) := by omega
    have HE : Hid (EncAns s f t x w (.returned (.tuple #[.slice none 0 0, .int .i64 4])) U6) := by
      refine ⟨.inr ⟨HX.out, ?_⟩, hw6⟩
      have e1 : encE s f x = 4 := if_neg hl
      have e2 : encLz s f x = [] := if_neg hl
      rw [e1, e2]
      exact ⟨none, 0, rfl, BIn.nil _ _⟩
    generalize (encB s f x).length = L at *
    clear hS0 hw6 hl
    go_wp2_with fail
    go_ret2
    exact HE.out
set_option maxHeartbeats 16000000 in
set_option maxRecDepth 20000 in
theorem sizeR10_any (ma ea ta : Option Addr) (nm ne nt mc ec tc : Nat) (s : SC) (f : Nat) (t : Int) (w : World) (hT : Tabs w) (hnm : s.ms.length = nm) (hne : s.es.length = ne) (hnt : s.ts.length = nt) (hf : FitS s) (hH : HeldSc w (fun b => b < w.heap.size) (.slice ma nm mc) (.slice ea ne ec) (.slice ta nt tc) s) (x z : Nd) (la : Option Addr) (ln lc : Nat) (hz : z = cn x) (hV : x.kind = 7 → HeldG clS w (fun b => b < w.heap.size) f (.slice la ln lc) x.fields) (hfit : FitG 100000 10000 f x) (hrng : RngG f x) (hbnd : bndN f x ≤ 1000000000) :
    Calls Tryz.prog 24 #[.agg #[.slice ma nm mc, .slice ea ne ec, .slice ta nt tc], .int .i64 t, .agg #[.int .i64 z.kind, .int .i64 z.n, .int .u64 z.u, .bool z.b, .string (mkB z.s), .int .i64 z.type, .slice la ln lc]] w fun e w' => SzAns s f t x w e w' := by
  obtain ⟨Y, hY, hC, hb, hYs⟩ := box_new w #[.slice ma nm mc, .slice ea ne ec, .slice ta nt tc] 26
  obtain ⟨V, hV', hD, hVb, hVs⟩ := box_new Y #[.int .i64 z.kind, .int .i64 z.n, .int .u64 z.u, .bool z.b, .string (mkB z.s), .int .i64 z.type, .slice la ln lc] 30
  rw [hYs] at hD
  have HY := Lib.hid hY
  have HV := Lib.hid hV'
  have hBV := hb.trans (hVb.mono hb.size)
  have HBV := Lib.hid hBV
  have hCV := (hVb.block _ (by omega)).trans hC
  have hVl : w.heap.size + 2 = V.heap.size := by omega
  have HVV : Hid (∀ W, Below w.heap.size w W → x.kind = 7 → HeldG clS W (fun b => b < W.heap.size) f (.slice la ln lc) x.fields) := fun W hW hk => HeldG.mv (fun b hb => hW.block b hb) (fun b hb => by have hb' : b < w.heap.size := hb; have := hW.size; omega) (hV hk)
  have h := fitsRV_any ma ea ta nm ne nt mc ec tc s f t V (tabs_below hT hBV) hnm hne hnt hf (heldSc_mv hH hBV) x z la ln lc hz (HVV.out V hBV) hfit
  have HNR : Hid (FitX s f t x → ∀ W, Below V.heap.size V W → Calls Tryz.prog 17 #[.agg #[.slice ma nm mc, .slice ea ne ec, .slice ta nt tc], .agg #[.int .i64 z.kind, .int .i64 z.n, .int .u64 z.u, .bool z.b, .string (mkB z.s), .int .i64 z.type, .slice la ln lc]] W fun e w' => OurAns f W (normN s.ms f x) e w') := by
    refine (?_ : _ → ∀ W, _ → _)
    intro hx W hW
    have hw := hBV.trans (hW.mono hBV.size)
    have hgd := good_of_fit (fun m hm y hy => (tyOK_of hf hx.1 m hm).2 y hy) f 1 t x hx.2.1 hx.2.2.1 hx.2.2.2
    obtain ⟨a, c, he⟩ := HeldG.isSl (hV hgd.1)
    exact normR_any ma ea ta nm ne nt mc ec tc s.ms hnm (tyOK_of hf hx.1) f x z la ln lc W hz hgd.1 hgd.2 (heldSc_mv hH hw).1 hfit (HVV.out W hw hgd.1) (Value.slice.inj he).2.1.symm
  have HBX : Hid (FitX s f t x → ∀ (W : World) (r0 r1 r2 : Int) (r3 : Bool) (r4 : ByteArray) (r5 : Int) (ra : Option Addr) (rl rc : Nat) (fsr : Value), Below V.heap.size V W → [.int .i64 r0, .int .i64 r1, .int .u64 r2, .bool r3, .string r4, .int .i64 r5, .slice ra rl rc] = clS.row (normN s.ms f x) fsr → HeldG clS W (fun b => b < W.heap.size) f fsr (normN s.ms f x).fields → Calls Tryz.prog 42 #[.agg #[.slice ma nm mc, .slice ea ne ec, .slice ta nt tc], .agg #[.int .i64 r0, .int .i64 r1, .int .u64 r2, .bool r3, .string r4, .int .i64 r5, .slice ra rl rc]] W fun e w' => BAns (encB s f x) W e w') := by
    refine (?_ : _ → ∀ (W : World) (r0 r1 r2 : Int) (r3 : Bool) (r4 : ByteArray) (r5 : Int) (ra : Option Addr) (rl rc : Nat) (fsr : Value), _ → _ → _ → _)
    intro hx W r0 r1 r2 r3 r4 r5 ra rl rc fsr hW hrow hh
    have hw := hBV.trans (hW.mono hBV.size)
    exact bytesX_of ma ea ta nm ne nt mc ec tc s f t x W r0 r1 r2 r3 r4 r5 ra rl rc fsr hnm hf hx (heldSc_mv hH hw).1 hfit hrng hbnd hrow hh
  have HNK : Hid (FitX s f t x → (normN s.ms f x).kind = 7) := by
    refine (?_ : _ → _)
    intro hx
    rw [norm_kind]
    exact (good_of_fit (fun m hm y hy => (tyOK_of hf hx.1 m hm).2 y hy) f 1 t x hx.2.1 hx.2.2.1 hx.2.2.2).1
  have s0 : ∀ W, Below V.heap.size V W → W.cell? ⟨w.heap.size, 0, none⟩ = some (.slice ma nm mc) := fun W hW => (hW.cell (by simp; omega)).trans (cell_at hCV 0 rfl)
  have s1 : ∀ W, Below V.heap.size V W → W.cell? ⟨w.heap.size, 1, none⟩ = some (.slice ea ne ec) := fun W hW => (hW.cell (by simp; omega)).trans (cell_at hCV 1 rfl)
  have s2 : ∀ W, Below V.heap.size V W → W.cell? ⟨w.heap.size, 2, none⟩ = some (.slice ta nt tc) := fun W hW => (hW.cell (by simp; omega)).trans (cell_at hCV 2 rfl)
  have n0 : ∀ W, Below V.heap.size V W → W.cell? ⟨w.heap.size + 1, 0, none⟩ = some (.int .i64 z.kind) := fun W hW => (hW.cell (by simp; omega)).trans (cell_at hD 0 rfl)
  have n1 : ∀ W, Below V.heap.size V W → W.cell? ⟨w.heap.size + 1, 1, none⟩ = some (.int .i64 z.n) := fun W hW => (hW.cell (by simp; omega)).trans (cell_at hD 1 rfl)
  have n2 : ∀ W, Below V.heap.size V W → W.cell? ⟨w.heap.size + 1, 2, none⟩ = some (.int .u64 z.u) := fun W hW => (hW.cell (by simp; omega)).trans (cell_at hD 2 rfl)
  have n3 : ∀ W, Below V.heap.size V W → W.cell? ⟨w.heap.size + 1, 3, none⟩ = some (.bool z.b) := fun W hW => (hW.cell (by simp; omega)).trans (cell_at hD 3 rfl)
  have n4 : ∀ W, Below V.heap.size V W → W.cell? ⟨w.heap.size + 1, 4, none⟩ = some (.string (mkB z.s)) := fun W hW => (hW.cell (by simp; omega)).trans (cell_at hD 4 rfl)
  have n5 : ∀ W, Below V.heap.size V W → W.cell? ⟨w.heap.size + 1, 5, none⟩ = some (.int .i64 z.type) := fun W hW => (hW.cell (by simp; omega)).trans (cell_at hD 5 rfl)
  have n6 : ∀ W, Below V.heap.size V W → W.cell? ⟨w.heap.size + 1, 6, none⟩ = some (.slice la ln lc) := fun W hW => (hW.cell (by simp; omega)).trans (cell_at hD 6 rfl)
  have b0 := s0 V (Below.refl _ _)
  have b1 := s1 V (Below.refl _ _)
  have b2 := s2 V (Below.refl _ _)
  have k0 := n0 V (Below.refl _ _)
  have k1 := n1 V (Below.refl _ _)
  have k2 := n2 V (Below.refl _ _)
  have k3 := n3 V (Below.refl _ _)
  have k4 := n4 V (Below.refl _ _)
  have k5 := n5 V (Below.refl _ _)
  have k6 := n6 V (Below.refl _ _)
  clear hY hC hb hYs hV' hD hVb hVs hBV hCV hT hnm hne hnt hf hH hz hV hfit hrng hbnd
  go_enter Tryz.func24, Tryz.ntmps24
  go_upto_region 1 with fail
  rw [HY.out, HV.out]
  go_wp2_with fail
  refine h.mono ?_
  rintro e W1 ⟨b, rfl, hbi, hb1⟩
  have HBI := Lib.hid hbi
  have hw1 := HBV.out.trans (hb1.mono HBV.out.size)
  have HB1 := Lib.hid hw1
  clear h hbi b0 b1 b2 k0 k1 k2 k3 k4 k5 k6
  cases b
  case false =>
    have HE : Hid (SzAns s f t x w (.returned (.int .i64 0)) W1) := ⟨.inl ⟨fun hx => (by have := HBI.out.2 hx; cases this), rfl⟩, hw1⟩
    clear hw1 hb1
    go_wp2_with fail
    go_ret
    exact HE.out
  have hx : FitX s f t x := HBI.out.1 rfl
  have HX := Lib.hid hx
  have HNR2 := Lib.hid (HNR.out hx)
  have HBX2 := Lib.hid (HBX.out hx)
  have HNK2 := Lib.hid (HNK.out hx)
  have hS0 : Below V.heap.size V W1.drew := hb1.drew
  clear hx hb1 hw1 HNR HBX HNK
  go_upto_region 3 with fail
  refine wp_region_held_drew (S := fun W => Below V.heap.size V W) (by kernel_rfl) hS0 (fun _ => ?_)
  refine T_on 0 (.agg #[.slice ma nm mc, .slice ea ne ec, .slice ta nt tc]) rfl (by kernel_rfl) (fun _ _ _ h => h) hS0 (fun W hW => by have c0 := s0 W hW; have c1 := s1 W hW; have c2 := s2 W hW; go_simp) ?_
  refine T_on 1 (.agg #[.slice ma nm mc, .slice ea ne ec, .slice ta nt tc]) rfl (by kernel_rfl) (fun _ _ _ h => h) hS0 (fun W hW => by have c0 := s0 W hW; have c1 := s1 W hW; have c2 := s2 W hW; go_simp) ?_
  refine T_on 2 (.agg #[.int .i64 z.kind, .int .i64 z.n, .int .u64 z.u, .bool z.b, .string (mkB z.s), .int .i64 z.type, .slice la ln lc]) rfl (by kernel_rfl) (fun _ _ _ h => h) hS0 (fun W hW => by have c0 := n0 W hW; have c1 := n1 W hW; have c2 := n2 W hW; have c3 := n3 W hW; have c4 := n4 W hW; have c5 := n5 W hW; have c6 := n6 W hW; go_simp) ?_
  refine T_call 3 (by kernel_rfl) rfl (fun K hK => ?_)
  go_simp
  refine (HNR2.out _ hS0).mono ?_
  rintro e U5 ⟨r0, r1, r2, r3, r4, r5, ra, rl, rc, rf, rfl, rrow, rhg, hb4⟩
  have hS1 := hS0.trans (hb4.mono hS0.size)
  have hcb := HBX2.out U5 r0 r1 r2 r3 r4 r5 ra rl rc rf hS1 rrow (HeldG.mv (fun _ _ => rfl) (fun b hb => hb.2) (rhg HNK2.out))
  clear hS0 hb4 rrow rhg
  have hS0 := hS1
  clear hS1
  dsimp only
  refine hK.out _ _ hS0 (fun _ => ?_)
  clear hK K
  refine T_call 4 (by kernel_rfl) rfl (fun K hK => ?_)
  go_simp
  refine hcb.mono ?_
  rintro e U6 ⟨a, c, rfl, hbi, hb6⟩
  have hS1 := hS0.trans (hb6.mono hS0.size)
  have HBZ : Hid (BIn U6 (fun b => w.heap.size ≤ b ∧ b < U6.heap.size) a c (encB s f x)) := hbi.mv (fun _ _ => rfl) (fun b hb => ⟨by have := hb.1; have := hS0.size; omega, hb.2⟩)
  clear hS0 hcb hbi hb6
  have hS0 := hS1
  clear hS1
  dsimp only
  refine hK.out _ _ hS0 (fun _ => ?_)
  clear hK K
  refine T_on 5 (.int .i64 ((encB s f x).length : Int)) rfl (by kernel_rfl) (fun _ _ _ h => h) hS0 (fun W hW => by go_simp) ?_
  refine T_on 6 (.int .i64 ((encB s f x).length : Int)) rfl (by kernel_rfl) (fun _ _ _ h => h) hS0 (fun W hW => by go_simp) ?_
  refine wpAnyH_done (by kernel_rfl) ?_ _
  go_simp
  have hw6 := HBV.out.trans (hS0.mono HBV.out.size)
  have HE : Hid (SzAns s f t x w (.returned (.int .i64 ((encB s f x).length : Int))) U6) := ⟨.inr ⟨HX.out, rfl⟩, hw6⟩
  generalize (encB s f x).length = L at *
  clear hS0 hw6
  go_wp2_with fail
  go_ret
  exact HE.out
end Go.Proofs.YtfhmombnipfimaaGreatDoor
