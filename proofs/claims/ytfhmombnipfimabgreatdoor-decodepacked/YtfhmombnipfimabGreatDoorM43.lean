/-
  The walk over the law DecodePacked.
-/
import Derived.Test.YtfhmombnipfimabGreatDoorM40
import Derived.Test.YtfhmombnipfimabGreatDoorM41
import Derived.Test.YtfhmombnipfimabGreatDoorM42
import Derived.Laws.Concat
namespace Go.Proofs.YtfhmombnipfimabGreatDoor
set_option linter.unusedVariables false
open Go.ChangeShapes Go.WideShapes Go.ChangeAt Go.RowKit

/-- slices that grow beside each other -/
def OwnL (w : World) (B : Nat) (vs : List Value) (ls : List (List Int)) : Prop := vs.length = ls.length ∧ (∀ (i : Nat) (v : Value) (l : List Int), vs[i]? = some v → ls[i]? = some l → OwnB w B v l) ∧ ∀ (i j : Nat) (v u : Value) (b : Nat), i ≠ j → vs[i]? = some v → vs[j]? = some u → v.ownBlock = some b → u.ownBlock ≠ some b
theorem OwnL.old {w W : World} {B : Nat} {vs : List Value} {ls : List (List Int)} (h : OwnL w B vs ls) (hb : Below w.heap.size w W) : OwnL W B vs ls :=
  ⟨h.1, fun i v l h1 h2 => own_old (h.2.1 i v l h1 h2) hb, h.2.2⟩
theorem OwnL.blk {w : World} {B : Nat} {vs : List Value} {ls : List (List Int)} (h : OwnL w B vs ls) {i : Nat} {v : Value} (hv : vs[i]? = some v) : ∀ b, v.ownBlock = some b → b < w.heap.size ∧ B ≤ b := fun b hb => by
  obtain ⟨l, hl⟩ : ∃ l, ls[i]? = some l := ⟨_, List.getElem?_eq_getElem (by rw [← h.1]; exact (List.getElem?_eq_some_iff.1 hv).1)⟩
  exact owns_lt (h.2.1 i v l hv hl) b hb
theorem OwnL.grow {w W : World} {B : Nat} {vs : List Value} {ls : List (List Int)} (h : OwnL w B vs ls) {i : Nat} {v u : Value} {l' : List Int} (hv : vs[i]? = some v) (hgr : w.grownBy W v.ownBlock) (hown : OwnB W B u l') (hat : u.ownBlock = v.ownBlock ∨ u.ownBlock = some w.heap.size) : OwnL W B (vs.set i u) (ls.set i l') := by
  have hi : i < vs.length := (List.getElem?_eq_some_iff.1 hv).1
  have hset : ∀ (j : Nat) (x : Value), (vs.set i u)[j]? = some x → (j = i ∧ x = u) ∨ (j ≠ i ∧ vs[j]? = some x) := fun j x hx => by
    by_cases hj : j = i
    · subst hj
      rw [List.getElem?_set_self hi] at hx
      exact .inl ⟨rfl, by injection hx with hx; exact hx.symm⟩
    · rw [List.getElem?_set_ne (fun e => hj e.symm)] at hx
      exact .inr ⟨hj, hx⟩
  refine ⟨by rw [List.length_set, List.length_set]; exact h.1, fun j x l hx hl => ?_, fun j k x y b hjk hx hy hb e => ?_⟩
  · rcases hset j x hx with ⟨rfl, rfl⟩ | ⟨hj, hx'⟩
    · rw [List.getElem?_set_self (by rw [← h.1]; exact hi)] at hl
      have e : l' = l := by injection hl
      subst e
      exact hown
    · rw [List.getElem?_set_ne (fun e => hj e.symm)] at hl
      exact owns_grown (h.2.1 j x l hx' hl) hgr (fun b hb e => h.2.2 i j v x b (fun e => hj e.symm) hv hx' e hb)
  · rcases hset j x hx with ⟨rfl, rfl⟩ | ⟨hj, hx'⟩
    · rcases hset k y hy with ⟨rfl, rfl⟩ | ⟨hk, hy'⟩
      · exact hjk rfl
      · rcases hat with h1 | h1
        · rw [h1] at hb
          exact h.2.2 j k v y b (fun e => hk e.symm) hv hy' hb e
        · rw [h1] at hb
          have e2 : w.heap.size = b := by simpa using hb
          have := (h.blk hy' b e).1
          omega
    · rcases hset k y hy with ⟨rfl, rfl⟩ | ⟨hk, hy'⟩
      · rcases hat with h1 | h1
        · rw [h1] at e
          exact h.2.2 k j v x b (fun e => hj e.symm) hv hx' e hb
        · rw [h1] at e
          have e2 : w.heap.size = b := by simpa using e
          have := (h.blk hx' b hb).1
          omega
      · exact h.2.2 j k x y b hjk hx' hy' hb e
theorem OwnL.nil4 (w : World) (B : Nat) : OwnL w B [.slice none 0 0, .slice none 0 0, .slice none 0 0, .slice none 0 0] [[], [], [], []] := by
  refine ⟨rfl, fun i v l h1 h2 => ?_, fun i j v u b hij h1 h2 hb => ?_⟩
  · rcases i with _ | _ | _ | _ | i
    iterate 4
      first
        | (have e1 : Value.slice none 0 0 = v := by simpa using h1
           have e2 : ([] : List Int) = l := by simpa using h2
           subst e1 e2
           exact own_nil _ _)
        | skip
    all_goals first | (simp at h1; done) | skip
    all_goals
      (have e1 : Value.slice none 0 0 = v := by simpa using h1
       have e2 : ([] : List Int) = l := by simpa using h2
       subst e1 e2
       exact own_nil _ _)
  · have e1 : v = Value.slice none 0 0 := by
      have := List.mem_of_getElem? h1
      simpa using this
    subst e1
    simp [Value.ownBlock] at hb
theorem dc_use {K : Int} (hK : K4 K) {zs : List Int} {ys : List Nd} {W W' : World} {e : Ending} (hd : decM (scP K).ms 16 0 zs = .ok (outP ys)) (hl : zs.length ≤ 4096) (hy : ∀ y ∈ ys, y.kind ≠ 7) (h : DcAns (scP K) 0 zs W e W') : (∃ v, e = .returned (.tuple #[v, .int .i64 0]) ∧ HeldV W' (fun b => W.heap.size ≤ b ∧ b < W'.heap.size) 16 v (outP ys)) ∧ Below W.heap.size W W' := by
  obtain ⟨hor, hb⟩ := h
  refine ⟨?_, hb⟩
  rcases hor with ⟨hno, rfl⟩ | ⟨_, hlt, rfl⟩ | ⟨_, _, ⟨er, _, hde, _⟩ | ⟨y, v, hde, rfl, hv⟩⟩
  · exact absurd (⟨form4 hK, by decide, by simp [scP]⟩ : GoodM (scP K) 0) hno
  · exact absurd hlt (by omega)
  · rw [hd] at hde; cases hde
  · rw [hd] at hde
    have e : outP ys = y := by injection hde
    subst e
    rw [norm_outP hy] at hv
    exact ⟨v, rfl, hv⟩
theorem row_at {w : World} {ad : Option Addr} {n c k : Nat} {us : List Int} {u : Int} (h : RowsIn w (fun b => b < w.heap.size) 1 (fun z => [.int .u64 z]) (.slice ad n c) us) (hu : us[k]? = some u) : ∃ g o, ad = some ⟨g, o, none⟩ ∧ ∀ W, Below w.heap.size w W → W.cell? ⟨g, o + k, none⟩ = some (.int .u64 u) := by
  obtain ⟨ad', c', hv, _, hor⟩ := h
  have e : ad = ad' := by injection hv
  subst e
  rcases hor with h0 | ⟨g, o, ha, hg, hrow⟩
  · rw [h0] at hu; simp at hu
  · refine ⟨g, o, ha, fun W hW => ?_⟩
    have h1 := hrow k u hu 0 _ rfl
    have h2 : w.cell? ⟨g, o + k, none⟩ = some (.int .u64 u) := by simpa using h1
    exact (hW.cell (by simpa using hg)).trans h2
set_option maxHeartbeats 64000000 in
set_option maxRecDepth 20000 in
theorem decodePacked_any (kd : Int) (ad : Option Addr) (n c : Nat) (us : List Int) (ct : Int) (w : World) (hT : Tabs w) (hn : us.length = n) (hn1 : n ≤ 140737488355328) (hR : RowsIn w (fun b => b < w.heap.size) 1 (fun z => [.int .u64 z]) (.slice ad n c) us) (hr : ∀ u ∈ us, OkP u) (hkd : 0 ≤ kd ∧ kd ≤ 255) (hct : 0 ≤ ct ∧ ct ≤ 255) :
    Calls Tryz.prog 4 #[.int .u8 kd, .slice ad n c, .int .u8 ct] w fun e w' => e = .returned (.bool true) ∧ Below w.heap.size w w' := by
  have hA := fun W (hW : Below w.heap.size w W) => awake11_any W (tabs_below hT hW)
  have HR := Lib.hid hR
  have HN := Lib.hid hn
  have HO := Lib.hid hr
  have HT := Lib.hid hT
  have ha0 := hA w (Below.refl _ _)
  clear hR hn hr hT
  go_enter Tryz.func4, Tryz.ntmps4
  go_wp2_with fail
  refine ha0.mono ?_
  rintro e w0 ⟨rfl, hb0⟩
  have HB0 := Lib.hid hb0
  have h0s := hb0.size
  clear ha0
  by_cases h60 : n ≤ 60
  case neg =>
    have h61 : (60 : Int) < (n : Int) := by omega
    have ha1 := hA w0 hb0
    clear hA hb0
    go_wp2_with fail
    refine ha1.mono ?_
    rintro e W1 ⟨rfl, hb1⟩
    have HB1 := Lib.hid (HB0.out.trans (hb1.mono HB0.out.size))
    clear ha1 hb1
    go_wp2_with fail
    go_ret
    exact ⟨rfl, HB1.out⟩
  have h61 : ¬ (60 : Int) < (n : Int) := by omega
  clear hA hb0
  obtain ⟨q, hq, hq4⟩ : ∃ q : Nat, kd.tmod 4 = (q : Int) ∧ q < 4 := by
    rw [Int.tmod_eq_emod_of_nonneg hkd.1]
    exact ⟨(kd % 4).toNat, by omega, by omega⟩
  obtain ⟨K, hK⟩ : ∃ K : Int, (q : Int) + 1 = K := ⟨_, rfl⟩
  have HK4 : Hid (K4 K) := by
    refine (?_ : K4 K)
    unfold K4; omega
  obtain ⟨Y0, hY0, cY0, bY0, sY0⟩ := box_new w0 #[.int .i64 1, .int .i64 2, .int .i64 3, .int .i64 4] 3
  obtain ⟨Y1, hY1, cY1, bY1, sY1⟩ := box_new Y0 #[.int .i64 4, .string ⟨#[108]⟩, .int .i64 K, .bool true, .int .i64 0] 46
  obtain ⟨Y2, hY2, cY2, bY2, sY2⟩ := box_new Y1 #[.string ⟨#[65]⟩, .slice (some ⟨Y0.heap.size, 0, none⟩) 1 1] 44
  obtain ⟨Y3, hY3, cY3, bY3, sY3⟩ := box_new Y2 #[.slice (some ⟨Y1.heap.size, 0, none⟩) 1 1, .slice none 0 0, .slice none 0 0] 26
  have t2 := bY1.trans (bY2.mono bY1.size)
  have t3 := t2.trans (bY3.mono t2.size)
  have d1 := (bY3.block _ (by omega)).trans ((bY2.block _ (by omega)).trans cY1)
  have d2 := (bY3.block _ (by omega)).trans cY2
  have hH : HeldSc Y3 (fun b => b < Y3.heap.size) (.slice (some ⟨Y1.heap.size, 0, none⟩) 1 1) (.slice none 0 0) (.slice none 0 0) (scP K) := by
    refine ⟨⟨_, _, rfl, Nat.le_refl _, .inr ⟨Y1.heap.size, 0, rfl, by show Y1.heap.size < Y3.heap.size; omega, fun j x hj => ?_⟩⟩, HeldN.nil _ _, RowsIn.nil _ _ _ _ _ _⟩
    obtain ⟨rfl, rfl⟩ := lst1 hj
    refine ⟨some ⟨Y0.heap.size, 0, none⟩, 1, cell_at d2 0 rfl, cell_at d2 1 rfl, ⟨_, _, rfl, Nat.le_refl _, .inr ⟨Y0.heap.size, 0, rfl, by show Y0.heap.size < Y3.heap.size; omega, fun k y hk => ?_⟩⟩⟩
    obtain ⟨rfl, rfl⟩ := lst1 hk
    intro i u hu
    simp only [World.cell?, d1]
    simpa [fdrow, fdP, mkB] using hu
  have HH := Lib.hid hH
  have HB3 := Lib.hid (HB0.out.trans ((bY0.trans (t3.mono bY0.size)).mono HB0.out.size))
  have HC3 := Lib.hid cY3
  have HY0 := Lib.hid hY0
  have HY1 := Lib.hid hY1
  have HY2 := Lib.hid hY2
  have HY3 := Lib.hid hY3
  have k0 : Y0.cell? ⟨w0.heap.size, q, none⟩ = some (.int .i64 K) := by
    rw [← hK]
    rcases q with _ | _ | _ | _ | q
    · exact cell_at cY0 0 rfl
    · exact cell_at cY0 1 rfl
    · exact cell_at cY0 2 rfl
    · exact cell_at cY0 3 rfl
    · omega
  have hwk : IntKind.i64.wrap kd = kd := by rw [IntKind.wrap_i64]; omega
  have hwc : IntKind.i64.wrap ct = ct := by rw [IntKind.wrap_i64]; omega
  have hq0 : (0 : Int) ≤ (q : Int) := by omega
  have hq5 : (q : Int) < 4 := by omega
  have hz3 : Y2.heap.size + 1 = Y3.heap.size := by omega
  have hz0 : w0.heap.size + 1 = Y0.heap.size := by omega
  have hz1 : Y0.heap.size + 1 = Y1.heap.size := by omega
  have hz2 : Y1.heap.size + 1 = Y2.heap.size := by omega
  clear hY0 hY1 hY2 hY3 cY0 cY1 cY2 cY3 bY0 bY1 bY2 bY3 sY0 sY1 sY2 sY3 t2 t3 d1 d2 hH hK
  go_upto_region 4 with fail
  rw [HY0.out]
  go_upto_region 5 with fail
  rw [HY1.out, HY2.out, HY3.out]
  clear k0 HY0 HY1 HY2 HY3
  have hzw : w.heap.size ≤ Y3.heap.size := by omega
  obtain ⟨cN, hcN⟩ : ∃ cN : Nat, ct = (cN : Int) := ⟨ct.toNat, by omega⟩
  subst hcN
  go_wp2_with fail
  generalize Y3 = Z at *
  go_loopw [9, 10, 11, 12, 45] (fun o t a f i wr => ∃ (k : Nat) (o' t' a' f' : Value), o' = o ∧ t' = t ∧ a' = a ∧ f' = f ∧ i = .int .i64 (k : Int) ∧ k ≤ n ∧ Below Z.heap.size Z wr ∧ OwnL wr Z.heap.size [o', t', a', f'] [vints (us.take k), vints ((us.take k).drop cN), alones (us.take k), vints ((us.take k).take cN)]) (fun _ _ _ _ i _ => n - (intOf i).toNat)
  case atStart => exact ⟨0, _, _, _, _, rfl, rfl, rfl, rfl, rfl, Nat.zero_le _, Below.refl _ _, by simpa [vints, alones] using OwnL.nil4 Z Z.heap.size⟩
  case round =>
    generalize wr = w1 at *
    obtain ⟨k, o1, t1, a1, f1, rfl, rfl, rfl, rfl, rfl, hk, hbel, hown⟩ := hrel
    have HBE := Lib.hid hbel
    have HL := Lib.hid hown
    have hws := hbel.size
    have hBw := HB3.out.trans (hbel.mono HB3.out.size)
    have HBW := Lib.hid hBw
    have hOT : ∀ u ∈ us.take k, OkP u := fun u hu => HO.out u (List.mem_of_mem_take hu)
    have hb1 := vints_len hOT
    have hb2 := vints_len (us := (us.take k).drop cN) fun u hu => hOT u (List.mem_of_mem_drop hu)
    have hb3 := alones_len hOT
    have hb4 := vints_len (us := (us.take k).take cN) fun u hu => hOT u (List.mem_of_mem_take hu)
    have htl : (us.take k).length = k := by rw [List.length_take, HN.out]; omega
    rw [List.length_drop, htl] at hb2
    rw [List.length_take, htl] at hb4
    rw [htl] at hb1 hb3
    have HTL := Lib.hid htl
    replace hb1 : (vints (us.take k)).length ≤ 1000 := by omega
    replace hb2 : (vints ((us.take k).drop cN)).length ≤ 1000 := by omega
    replace hb3 : (alones (us.take k)).length ≤ 2000 := by omega
    replace hb4 : (vints ((us.take k).take cN)).length ≤ 1000 := by omega
    clear hown hbel hOT htl
    by_cases hkn : k < n
    · obtain ⟨u, hu⟩ : ∃ u, us[k]? = some u := ⟨_, List.getElem?_eq_getElem (by have := HN.out; omega)⟩
      obtain ⟨g, o, rfl, hrow⟩ := row_at HR.out hu
      have HRW := Lib.hid hrow
      have HTK : Hid (us.take (k + 1) = us.take k ++ [u]) := take_snoc hu
      have hku := HO.out u (List.mem_of_getElem? hu)
      have e1 := hrow w1 hBw
      have hk0 : (0 : Int) ≤ (k : Int) := by omega
      have hk1 : (k : Int) < (n : Int) := by omega
      have hwk1 : IntKind.i64.wrap ((k : Int) + 1) = (k : Int) + 1 := by rw [IntKind.wrap_i64]; omega
      have hva := varintR_int (.slice none 0 0) w1.heap.size [] u w1 (.inl (own_nil _ _)) hku.1 hku.2 (by simp) (Nat.le_refl _)
      have hvl := vint_le u hku.2
      clear hu hrow hBw
      go_wp2_with fail
      refine hva.mono ?_
      rintro e W3 ⟨v3, rfl, hov3, hbW3⟩
      rw [List.nil_append] at hov3
      have HVB : Hid (IsBs (vint u.toNat)) := vint_bytes _
      have HX1 : Hid (vints (us.take (k + 1)) = vints (us.take k) ++ vint u.toNat) := by
        refine (?_ : _ = _)
        rw [HTK.out, vints_app, vints_one]
      have HX4 : Hid (k < cN → vints ((us.take (k + 1)).take cN) = vints ((us.take k).take cN) ++ vint u.toNat ∧ vints ((us.take (k + 1)).drop cN) = vints ((us.take k).drop cN)) := by
        refine (?_ : _ → _)
        intro hlt
        obtain ⟨h1, h2⟩ := (step_take (us.take k) u cN).1 (by rw [HTL.out]; exact hlt)
        rw [HTK.out, h1, h2, vints_app, vints_one]
        exact ⟨rfl, rfl⟩
      have HX2 : Hid (¬ k < cN → vints ((us.take (k + 1)).take cN) = vints ((us.take k).take cN) ∧ vints ((us.take (k + 1)).drop cN) = vints ((us.take k).drop cN) ++ vint u.toNat) := by
        refine (?_ : _ → _)
        intro hlt
        obtain ⟨h1, h2⟩ := (step_take (us.take k) u cN).2 (by rw [HTL.out]; omega)
        rw [HTK.out, h1, h2, vints_app, vints_one]
        exact ⟨rfl, rfl⟩
      have HX3 : Hid (alones (us.take (k + 1)) = alones (us.take k) ++ fbytes 4 0 u []) := by
        refine (?_ : _ = _)
        rw [HTK.out, alones_app, alones_one]
      obtain ⟨fb, hfb⟩ : ∃ fb, vint u.toNat = fb := ⟨_, rfl⟩
      rw [hfb] at hov3 hvl HVB HX1 HX2 HX4
      obtain ⟨ba, bc, rfl, hbI⟩ := own_BIn hov3 HVB.out (by omega)
      have h3s := hbW3.size
      have HZ3 : Hid (Below Z.heap.size Z W3) := HBE.out.trans (hbW3.mono hws)
      have HL3 := Lib.hid (HL.out.old hbW3)
      have hz3' : Z.heap.size ≤ W3.heap.size := by omega
      have HBI3 := Lib.hid hbI
      have HI3 := Lib.hid hbI.isB
      have hLB : ∀ (i : Nat) (v : Value), [o1, t1, a1, f1][i]? = some v → ∀ b, v.ownBlock = some b → b < w1.heap.size := fun i v hv b hb => (HL.out.blk hv b hb).1
      have HLB := Lib.hid hLB
      clear hva hov3 hbW3 hbI e1 hfb HTK hLB
      go_wp2_with (at_builtin; refine wpB_at rfl _ _ rfl Z.heap.size o1 _ rfl (HL3.out.2.1 0 _ _ rfl rfl) ba fb.length bc fb rfl HI3.out HBI3.out.2.1 (by omega) hz3' ?_)
      intro o2 W6 hown6 hgr6 hat6
      have h6s := hgr6.size
      have HL6 : Hid (OwnL W6 Z.heap.size [o2, t1, a1, f1] [vints (us.take (k + 1)), vints ((us.take k).drop cN), alones (us.take k), vints ((us.take k).take cN)]) := by
        refine (?_ : OwnL _ _ _ _)
        rw [HX1.out]
        exact HL3.out.grow (i := 0) rfl hgr6 hown6 hat6
      have HZ6 : Hid (Below Z.heap.size Z W6) := HZ3.out.grown hgr6 (by omega) (fun b hb => (HL3.out.blk (i := 0) rfl b hb).2)
      have HBI6 : Hid (BIn W6 (fun b => w1.heap.size ≤ b ∧ b < W6.heap.size) ba bc fb) := HBI3.out.mv (fun b hb => hgr6.block b hb.2 (fun e => by have := HLB.out 0 _ rfl b e.symm; have := hb.1; omega)) (fun b hb => ⟨hb.1, by have := hb.2; omega⟩)
      have HI6 := Lib.hid HBI6.out.isB
      have hz6 : Z.heap.size ≤ W6.heap.size := by omega
      clear hown6 hgr6 hat6
      by_cases hkc : k < cN
      · have hkc' : (k : Int) < (cN : Int) := by omega
        obtain ⟨x1, x2⟩ := HX4.out hkc
        have HXA := Lib.hid x1
        have HXB := Lib.hid x2
        clear x1 x2 hkc
        go_wp2_with (at_builtin; refine wpB_at rfl _ _ rfl Z.heap.size f1 _ rfl (HL6.out.2.1 3 _ _ rfl rfl) ba fb.length bc fb rfl HI6.out HBI6.out.2.1 (by omega) hz6 ?_)
        intro f2 W7 hown7 hgr7 hat7
        have h7s := hgr7.size
        have HL7 : Hid (OwnL W7 Z.heap.size [o2, t1, a1, f2] [vints (us.take (k + 1)), vints ((us.take (k + 1)).drop cN), alones (us.take k), vints ((us.take (k + 1)).take cN)]) := by
          refine (?_ : OwnL _ _ _ _)
          rw [HXA.out, HXB.out]
          exact HL6.out.grow (i := 3) rfl hgr7 hown7 hat7
        have HZ7 : Hid (Below Z.heap.size Z W7) := HZ6.out.grown hgr7 (by omega) (fun b hb => (HL6.out.blk (i := 3) rfl b hb).2)
        have hB7 := HB3.out.trans (HZ7.out.mono HB3.out.size)
        have e7 := HRW.out W7 hB7
        have hbR := bytesR_any 4 0 u none 0 0 [] W7 ⟨rfl, by decide, .inl rfl⟩ hku.1 hku.2 (by decide) (by decide) (.inl rfl) (by decide) (fun _ => ⟨rfl, rfl⟩)
        unfold fv at hbR
        clear hown7 hgr7 hat7 hB7
        go_wp2_with fail
        refine hbR.mono ?_
        rintro e W8 ⟨v8, rfl, hov8, hb8⟩
        have hfl := fby_len 4 0 u [] (by decide) (by decide) hku.2 (by simp)
        have HFB : Hid (IsBs (fbytes 4 0 u [])) := fbytes_ok _ _ _ (fun z hz => by cases hz)
        obtain ⟨gb, hgb⟩ : ∃ gb, fbytes 4 0 u [] = gb := ⟨_, rfl⟩
        rw [hgb] at hov8 hfl HFB HX3
        rw [List.length_nil] at hfl
        obtain ⟨ga, gc, rfl, hgI⟩ := own_BIn hov8 HFB.out (by omega)
        have HGI := Lib.hid hgI
        have HGB := Lib.hid hgI.isB
        have HL8 := Lib.hid (HL7.out.old hb8)
        have HZ8 : Hid (Below Z.heap.size Z W8) := HZ7.out.trans (hb8.mono (by omega))
        have h8s := hb8.size
        have hz8 : Z.heap.size ≤ W8.heap.size := by omega
        clear hbR hov8 hb8 hgI hgb e7
        go_wp2_with (at_builtin; refine wpB_at rfl _ _ rfl Z.heap.size a1 _ rfl (HL8.out.2.1 2 _ _ rfl rfl) ga gb.length gc gb rfl HGB.out HGI.out.2.1 (by omega) hz8 ?_)
        intro a2 W9 hown9 hgr9 hat9
        have HL9 : Hid (OwnL W9 Z.heap.size [o2, t1, a2, f2] [vints (us.take (k + 1)), vints ((us.take (k + 1)).drop cN), alones (us.take (k + 1)), vints ((us.take (k + 1)).take cN)]) := by
          refine (?_ : OwnL _ _ _ _)
          rw [HX3.out]
          exact HL8.out.grow (i := 2) rfl hgr9 hown9 hat9
        have HZ9 : Hid (Below Z.heap.size Z W9) := HZ8.out.grown hgr9 (by omega) (fun b hb => (HL8.out.blk (i := 2) rfl b hb).2)
        clear hown9 hgr9 hat9
        go_wp2_with fail
        go_roundw
        case rel => exact ⟨k + 1, _, _, _, _, rfl, rfl, rfl, rfl, by go_num, by omega, HZ9.out, HL9.out⟩
        case measure => simp [intOf]; omega
      · have hkc' : ¬ (k : Int) < (cN : Int) := by omega
        obtain ⟨x1, x2⟩ := HX2.out hkc
        have HXA := Lib.hid x1
        have HXB := Lib.hid x2
        clear x1 x2 hkc
        go_wp2_with (at_builtin; refine wpB_at rfl _ _ rfl Z.heap.size t1 _ rfl (HL6.out.2.1 1 _ _ rfl rfl) ba fb.length bc fb rfl HI6.out HBI6.out.2.1 (by omega) hz6 ?_)
        intro t2 W7 hown7 hgr7 hat7
        have h7s := hgr7.size
        have HL7 : Hid (OwnL W7 Z.heap.size [o2, t2, a1, f1] [vints (us.take (k + 1)), vints ((us.take (k + 1)).drop cN), alones (us.take k), vints ((us.take (k + 1)).take cN)]) := by
          refine (?_ : OwnL _ _ _ _)
          rw [HXA.out, HXB.out]
          exact HL6.out.grow (i := 1) rfl hgr7 hown7 hat7
        have HZ7 : Hid (Below Z.heap.size Z W7) := HZ6.out.grown hgr7 (by omega) (fun b hb => (HL6.out.blk (i := 1) rfl b hb).2)
        have hB7 := HB3.out.trans (HZ7.out.mono HB3.out.size)
        have e7 := HRW.out W7 hB7
        have hbR := bytesR_any 4 0 u none 0 0 [] W7 ⟨rfl, by decide, .inl rfl⟩ hku.1 hku.2 (by decide) (by decide) (.inl rfl) (by decide) (fun _ => ⟨rfl, rfl⟩)
        unfold fv at hbR
        clear hown7 hgr7 hat7 hB7
        go_wp2_with fail
        refine hbR.mono ?_
        rintro e W8 ⟨v8, rfl, hov8, hb8⟩
        have hfl := fby_len 4 0 u [] (by decide) (by decide) hku.2 (by simp)
        have HFB : Hid (IsBs (fbytes 4 0 u [])) := fbytes_ok _ _ _ (fun z hz => by cases hz)
        obtain ⟨gb, hgb⟩ : ∃ gb, fbytes 4 0 u [] = gb := ⟨_, rfl⟩
        rw [hgb] at hov8 hfl HFB HX3
        rw [List.length_nil] at hfl
        obtain ⟨ga, gc, rfl, hgI⟩ := own_BIn hov8 HFB.out (by omega)
        have HGI := Lib.hid hgI
        have HGB := Lib.hid hgI.isB
        have HL8 := Lib.hid (HL7.out.old hb8)
        have HZ8 : Hid (Below Z.heap.size Z W8) := HZ7.out.trans (hb8.mono (by omega))
        have h8s := hb8.size
        have hz8 : Z.heap.size ≤ W8.heap.size := by omega
        clear hbR hov8 hb8 hgI hgb e7
        go_wp2_with (at_builtin; refine wpB_at rfl _ _ rfl Z.heap.size a1 _ rfl (HL8.out.2.1 2 _ _ rfl rfl) ga gb.length gc gb rfl HGB.out HGI.out.2.1 (by omega) hz8 ?_)
        intro a2 W9 hown9 hgr9 hat9
        have HL9 : Hid (OwnL W9 Z.heap.size [o2, t2, a2, f1] [vints (us.take (k + 1)), vints ((us.take (k + 1)).drop cN), alones (us.take (k + 1)), vints ((us.take (k + 1)).take cN)]) := by
          refine (?_ : OwnL _ _ _ _)
          rw [HX3.out]
          exact HL8.out.grow (i := 2) rfl hgr9 hown9 hat9
        have HZ9 : Hid (Below Z.heap.size Z W9) := HZ8.out.grown hgr9 (by omega) (fun b hb => (HL8.out.blk (i := 2) rfl b hb).2)
        clear hown9 hgr9 hat9
        go_wp2_with fail
        go_roundw
        case rel => exact ⟨k + 1, _, _, _, _, rfl, rfl, rfl, rfl, by go_num, by omega, HZ9.out, HL9.out⟩
        case measure => simp [intOf]; omega
    · have hkn' : ¬ (k : Int) < (n : Int) := by omega
      have hte : us.take k = us := List.take_of_length_le (by have := HN.out; omega)
      rw [hte] at HL hb1 hb2 hb3 hb4
      have hus60 : us.length ≤ 60 := by have := HN.out; omega
      have HDP := Lib.hid (dec_packed HK4.out HO.out hus60)
      have HDT := Lib.hid (dec_parted HK4.out (List.take_append_drop cN us).symm HO.out hus60)
      have HDA := Lib.hid (dec_alone HK4.out HO.out)
      have HFK := Lib.hid (out_fit HK4.out HO.out hus60)
      have HNK : Hid (∀ y ∈ us.map (numD K), y.kind = 1 ∨ y.kind = 2 ∨ y.kind = 3) := by
        refine (?_ : ∀ y ∈ us.map (numD K), _)
        intro y hy
        obtain ⟨u, _, rfl⟩ := List.mem_map.1 hy
        exact num_kindP HK4.out u
      have HN7 : Hid (∀ y ∈ us.map (numD K), y.kind ≠ 7) := fun y hy => by have := HNK.out y hy; omega
      have HYL : Hid ((us.map (numD K)).length = n) := by
        refine (?_ : _ = _)
        rw [List.length_map]; exact HN.out
      obtain ⟨oa, oc, rfl, hoI⟩ := own_BIn (HL.out.2.1 0 _ _ rfl rfl) (vints_bs us) (by omega)
      obtain ⟨ta, tc, rfl, htI⟩ := own_BIn (HL.out.2.1 1 _ _ rfl rfl) (vints_bs _) (by omega)
      obtain ⟨aa, ac, rfl, haI⟩ := own_BIn (HL.out.2.1 2 _ _ rfl rfl) (alones_bs us) (by omega)
      obtain ⟨fa, fc, rfl, hfI⟩ := own_BIn (HL.out.2.1 3 _ _ rfl rfl) (vints_bs _) (by omega)
      have HPB : Hid (IsBs (fbytes 4 2 0 (vints us))) := fbytes_ok _ _ _ (vints_bs _)
      have HFB : Hid (IsBs (fbytes 4 2 0 (vints (us.take cN)))) := fbytes_ok _ _ _ (vints_bs _)
      have HTB : Hid (IsBs (fbytes 4 2 0 (vints (us.drop cN)))) := fbytes_ok _ _ _ (vints_bs _)
      have hpl := fby_len 4 2 0 (vints us) (by decide) (by decide) (by decide) (by omega)
      have hfl := fby_len 4 2 0 (vints (us.take cN)) (by decide) (by decide) (by decide) (by omega)
      have htl := fby_len 4 2 0 (vints (us.drop cN)) (by decide) (by decide) (by decide) (by omega)
      obtain ⟨YS, hYS⟩ : ∃ YS, us.map (numD K) = YS := ⟨_, rfl⟩
      rw [hYS] at HDP HDT HDA HFK HNK HN7 HYL
      obtain ⟨P, hP⟩ : ∃ P, fbytes 4 2 0 (vints us) = P := ⟨_, rfl⟩
      obtain ⟨F, hF⟩ : ∃ P, fbytes 4 2 0 (vints (us.take cN)) = P := ⟨_, rfl⟩
      obtain ⟨T, hTT⟩ : ∃ P, fbytes 4 2 0 (vints (us.drop cN)) = P := ⟨_, rfl⟩
      have hbP := fun W hB => bytesR_any 4 2 0 oa (vints us).length oc (vints us) W hB (by decide) (by decide) (by decide) (by decide) (.inr (.inr (.inr rfl))) (by omega) hoI.2.1
      have hbF := fun W hB => bytesR_any 4 2 0 fa (vints (us.take cN)).length fc (vints (us.take cN)) W hB (by decide) (by decide) (by decide) (by decide) (.inr (.inr (.inr rfl))) (by omega) hfI.2.1
      have hbT := fun W hB => bytesR_any 4 2 0 ta (vints (us.drop cN)).length tc (vints (us.drop cN)) W hB (by decide) (by decide) (by decide) (by decide) (.inr (.inr (.inr rfl))) (by omega) htI.2.1
      unfold fv at hbP hbF hbT
      rw [hP] at HDP HPB hpl hbP
      rw [hF] at HDT HFB hfl hbF
      rw [hTT] at HDT HTB htl hbT
      obtain ⟨O, hO⟩ : ∃ O, vints us = O := ⟨_, rfl⟩
      obtain ⟨A, hA⟩ : ∃ A, alones us = A := ⟨_, rfl⟩
      obtain ⟨F0, hF0⟩ : ∃ F, vints (us.take cN) = F := ⟨_, rfl⟩
      obtain ⟨T0, hT0⟩ : ∃ F, vints (us.drop cN) = F := ⟨_, rfl⟩
      rw [hO] at hbP hoI hb1 hpl ⊢
      rw [hA] at HDA haI hb3 ⊢
      rw [hF0] at hbF hfI hb4 hfl ⊢
      rw [hT0] at hbT htI hb2 htl ⊢
      have HOI := Lib.hid hoI
      have HTI := Lib.hid htI
      have HAI := Lib.hid haI
      have HFI := Lib.hid hfI
      have hp1 := hbP w1 hoI.isB
      have HPF := Lib.hid hbF
      have HPT := Lib.hid hbT
      have HDE : Hid (∀ (W : World) (a : Option Addr) (len cap : Nat) (zs : List Int), Below Z.heap.size Z W → IsB W a len zs → len ≤ cap → cap ≤ 9223372036854775807 → Calls Tryz.prog 10 #[.agg #[.slice (some ⟨Y1.heap.size, 0, none⟩) 1 1, .slice none 0 0, .slice none 0 0], .int .i64 0, .slice a len cap] W fun e w' => DcAns (scP K) 0 zs W e w') := by
        refine (?_ : ∀ (W : World) (a : Option Addr) (len cap : Nat) (zs : List Int), _)
        intro W a len cap zs hW hB hlc hcm
        exact decodeP_any (some ⟨Y1.heap.size, 0, none⟩) none none 1 0 0 1 0 0 (scP K) 0 a len cap zs W (tabs_below HT.out (HB3.out.trans (hW.mono HB3.out.size))) rfl rfl rfl (fitS4 HK4.out) (heldSc_mv HH.out hW) hB hlc hcm (fun h => absurd h (noText4 HK4.out))
      have HQ : Hid (∀ W, Below Z.heap.size Z W → W.cell? ⟨Y2.heap.size, 0, none⟩ = some (.slice (some ⟨Y1.heap.size, 0, none⟩) 1 1) ∧ W.cell? ⟨Y2.heap.size, 1, none⟩ = some (.slice none 0 0) ∧ W.cell? ⟨Y2.heap.size, 2, none⟩ = some (.slice none 0 0)) := by
        refine (?_ : ∀ W, _ → _)
        intro W hW
        have hc := (hW.block _ (by omega)).trans HC3.out
        exact ⟨cell_at hc 0 rfl, cell_at hc 1 rfl, cell_at hc 2 rfl⟩
      clear hte hus60 hoI htI haI hfI hYS hP hF hTT hbP hbF hbT hO hA hF0 hT0 HL hBw
      go_wp2_with fail
      refine hp1.mono ?_
      rintro e W2 ⟨v2, rfl, hov2, hb2'⟩
      obtain ⟨pa, pc, rfl, hpI⟩ := own_BIn hov2 HPB.out (by omega)
      have HPI := Lib.hid hpI
      have h2s := hb2'.size
      have HB12 := Lib.hid hb2'
      have hp2 := HPF.out W2 (isB_old HFI.out.isB hb2')
      clear hp1 hov2 hb2' hpI
      go_wp2_with fail
      refine hp2.mono ?_
      rintro e W3 ⟨v3, rfl, hov3, hb3'⟩
      have HOV3 := Lib.hid hov3
      have h3s := hb3'.size
      have HB13 := Lib.hid (HB12.out.trans (hb3'.mono HB12.out.size))
      have HB23 := Lib.hid hb3'
      have HPI3 : Hid (BIn W3 (fun b => b < W3.heap.size) pa pc P) := HPI.out.mv (fun b hb => hb3'.block b hb.2) (fun b hb => by have := hb.2; omega)
      have hp3 := HPT.out W3 (isB_old HTI.out.isB HB13.out)
      clear hp2 hov3 hb3'
      go_wp2_with fail
      refine hp3.mono ?_
      rintro e W4 ⟨v4, rfl, hov4, hb4'⟩
      obtain ⟨qa, qc, rfl, hqI⟩ := own_BIn hov4 HTB.out (by omega)
      have HQI := Lib.hid hqI
      have HQB := Lib.hid hqI.isB
      have h4s := hb4'.size
      have HB14 := Lib.hid (HB13.out.trans (hb4'.mono HB13.out.size))
      have HOV4 := Lib.hid (own_old HOV3.out hb4')
      have HPI4 : Hid (BIn W4 (fun b => b < W2.heap.size) pa pc P) := HPI.out.mv (fun b hb => (hb4'.block b (by have := hb.2; omega)).trans (HB23.out.block b hb.2)) (fun b hb => hb.2)
      clear hp3 hov4 hb4' hqI
      go_wp2_with (at_builtin; refine wpB_at rfl _ _ rfl W2.heap.size v3 _ rfl HOV4.out qa T.length qc T rfl HQB.out HQI.out.2.1 (by omega) (by omega) ?_)
      intro v5 W5 hown5 hgr5 hat5
      have HFT : Hid (IsBs (F ++ T)) := by
        refine (?_ : IsBs (F ++ T))
        intro z hz
        rcases List.mem_append.1 hz with hz | hz
        · exact HFB.out z hz
        · exact HTB.out z hz
      have hrl : (F ++ T).length ≤ 2500 := by rw [List.length_append]; omega
      obtain ⟨R, hR⟩ : ∃ R, F ++ T = R := ⟨_, rfl⟩
      rw [hR] at hown5 HFT hrl HDT
      obtain ⟨ra, rc, rfl, hrI⟩ := own_BIn hown5 HFT.out (by omega)
      have h5s := hgr5.size
      have hb45 : Below W2.heap.size W4 W5 := (Below.refl _ W4).grown hgr5 (by omega) (fun b hb => own_blockB HOV4.out b hb)
      have HB15 : Hid (Below w1.heap.size w1 W5) := HB14.out.trans (hb45.mono h2s)
      have HRI := Lib.hid hrI
      have hPI5 : BIn W5 (fun b => b < W5.heap.size) pa pc P := HPI4.out.mv (fun b hb => hb45.block b hb) (fun b hb => by have hb' : b < W2.heap.size := hb; omega)
      have hZ5 : Below Z.heap.size Z W5 := HBE.out.trans (HB15.out.mono hws)
      have HZ5 := Lib.hid hZ5
      have hd1 := HDE.out W5 pa P.length pc P hZ5 hPI5.isB hPI5.2.2.2.1 hPI5.2.2.2.2
      obtain ⟨q0, q1, q2⟩ := HQ.out W5 hZ5
      clear hown5 hgr5 hat5 hR hrI hb45 hPI5 hZ5
      go_wp2_with fail
      refine hd1.mono ?_
      rintro e V1 hans
      obtain ⟨⟨va, rfl, hva⟩, hbv1⟩ := dc_use HK4.out HDP.out (by omega) HN7.out hans
      have HVA := Lib.hid hva
      have hv1s := hbv1.size
      have HB51 := Lib.hid hbv1
      have hZ1 := HZ5.out.trans (hbv1.mono HZ5.out.size)
      have HZ1 := Lib.hid hZ1
      have hRI1 : BIn V1 (fun b => b < V1.heap.size) ra rc R := HRI.out.mv (fun b hb => hbv1.block b hb.2) (fun b hb => by have := hb.2; omega)
      have hd2 := HDE.out V1 ra R.length rc R hZ1 hRI1.isB hRI1.2.2.2.1 hRI1.2.2.2.2
      clear q0 q1 q2 hans hd1 hva hbv1 hRI1
      obtain ⟨q0, q1, q2⟩ := HQ.out V1 hZ1
      clear hZ1
      go_wp2_with fail
      refine hd2.mono ?_
      rintro e V2 hans
      obtain ⟨⟨vb, rfl, hvb⟩, hbv2⟩ := dc_use HK4.out HDT.out (by omega) HN7.out hans
      have HVB := Lib.hid hvb
      have hv2s := hbv2.size
      have HB12v := Lib.hid hbv2
      have hZ2 := HZ1.out.trans (hbv2.mono HZ1.out.size)
      have HZ2 := Lib.hid hZ2
      have hb1V2 : Below w1.heap.size w1 V2 := HB15.out.trans ((HB51.out.trans (hbv2.mono HB51.out.size)).mono HB15.out.size)
      have hAI2 : BIn V2 (fun b => b < V2.heap.size) aa ac A := HAI.out.mv (fun b hb => hb1V2.block b hb.2) (fun b hb => by have := hb.2; have := hb1V2.size; omega)
      have hd3 := HDE.out V2 aa A.length ac A hZ2 hAI2.isB hAI2.2.2.2.1 hAI2.2.2.2.2
      clear q0 q1 q2 hans hd2 hvb hbv2 hAI2 hb1V2
      obtain ⟨q0, q1, q2⟩ := HQ.out V2 hZ2
      clear hZ2
      go_wp2_with fail
      refine hd3.mono ?_
      rintro e V3 hans
      obtain ⟨⟨vc, rfl, hvc⟩, hbv3⟩ := dc_use HK4.out HDA.out (by omega) HN7.out hans
      have hv3s := hbv3.size
      have HVC : Hid (HeldV V3 (fun b => b < V3.heap.size) 16 vc (outP YS)) := hvc.mv (fun _ _ => rfl) (fun b hb => hb.2)
      have HVB3 : Hid (HeldV V3 (fun b => b < V3.heap.size) 16 vb (outP YS)) := HVB.out.mv (fun b hb => hbv3.block b hb.2) (fun b hb => by have := hb.2; omega)
      have hb13 := HB12v.out.trans (hbv3.mono HB12v.out.size)
      have HVA3 : Hid (HeldV V3 (fun b => b < V3.heap.size) 16 va (outP YS)) := HVA.out.mv (fun b hb => hb13.block b hb.2) (fun b hb => by have := hb.2; omega)
      have hZ3 := HZ2.out.trans (hbv3.mono HZ2.out.size)
      have HW3 := Lib.hid (HB3.out.trans (hZ3.mono HB3.out.size))
      have hs1 := sameV_any 16 (outP YS) va vb V3 HFK.out.1 ⟨by show (1 : Int) ≤ 7; omega, by show (7 : Int) ≤ 7; omega⟩ (fun _ => HFK.out.2) HVA3.out HVB3.out
      clear q0 q1 q2 hans hd3 hvc hbv3 hb13 hZ3
      go_wp2_with fail
      refine hs1.mono ?_
      rintro e S1 ⟨rfl, hbs1⟩
      have hs1s := hbs1.size
      have HS1 := Lib.hid hbs1
      have hs2 := sameV_any 16 (outP YS) vb vc S1 HFK.out.1 ⟨by show (1 : Int) ≤ 7; omega, by show (7 : Int) ≤ 7; omega⟩ (fun _ => HFK.out.2) (HVB3.out.mv (fun b hb => hbs1.block b hb) (fun b hb => by have hb' : b < V3.heap.size := hb; omega)) (HVC.out.mv (fun b hb => hbs1.block b hb) (fun b hb => by have hb' : b < V3.heap.size := hb; omega))
      clear hs1 hbs1
      go_wp2_with fail
      refine hs2.mono ?_
      rintro e S2 ⟨rfl, hbs2⟩
      have hb32 := HS1.out.trans (hbs2.mono HS1.out.size)
      have HS2 := Lib.hid (HW3.out.trans (hb32.mono HW3.out.size))
      have hge := getL_any 16 (outP YS) va 4 YS S2 rfl rfl HNK.out (by rw [HYL.out]; omega) (HVA3.out.mv (fun b hb => hb32.block b hb) (fun b hb => by have hb' : b < V3.heap.size := hb; have := hb32.size; omega))
      rw [HYL.out] at hge
      clear hs2 hbs2 hb32
      go_wp2_with fail
      refine hge.mono ?_
      rintro e S3 ⟨⟨ga, gc, rfl⟩, hbs3⟩
      have HS3 := Lib.hid (HS2.out.trans (hbs3.mono HS2.out.size))
      clear hge hbs3
      go_wp2_with fail
      go_ret
      exact ⟨rfl, HS3.out⟩
end Go.Proofs.YtfhmombnipfimabGreatDoor
