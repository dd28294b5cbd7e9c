/-
  The walk over the law's own Theirs: the same declarations, as the program has them.
-/
import Derived.Test.YtpojeinddnjpfaaGreatDoorM0
import Derived.Test.YtpojeinddnjpfaaGreatDoorM19
import Derived.Test.YtpojeinddnjpfaaGreatDoorM7
import Derived.Deep.Cut
import Derived.Deep.DeepCutAuto
namespace Go.Proofs.YtpojeinddnjpfaaGreatDoor
set_option linter.unusedVariables false
open Go.ChangeShapes Go.WideShapes Go.ChangeAt Go.RowKit

structure DsT (f : Nat) (w : World) (base : Nat) (S : Nat → Prop) (v : Value) (ds : List Dc) (rs : List (List Value)) : Prop where
 own : w.ownsRow base 69 8 v ds.length (rs.flatMap id)
 len : rs.length = ds.length
 kids : ∀ (j : Nat) (d : Dc), ds[j]? = some d → ∃ fs vs ms ins, rs[j]? = some (drow d fs vs ms ins) ∧ Kids f w S fs vs ms ins d
theorem DsT.nil (f : Nat) (w : World) (base : Nat) (S : Nat → Prop) : DsT f w base S (.slice none 0 0) [] [] := ⟨World.ownsRow_nil _ _ _ _, rfl, fun j d h => by simp at h⟩
theorem DsT.row8 {f : Nat} {w : World} {base : Nat} {S : Nat → Prop} {v : Value} {ds : List Dc} {rs : List (List Value)} (h : DsT f w base S v ds rs) : ∀ r ∈ rs, r.length = 8 := by
 intro r hr
 obtain ⟨j, hj⟩ := List.getElem?_of_mem hr
 have hlt := (List.getElem?_eq_some_iff.1 hj).1
 have hlt2 : j < ds.length := by rw [← h.len]; exact hlt
 obtain ⟨fs, vs, ms, ins, h1, _⟩ := h.kids j (ds[j]'hlt2) (by rw [List.getElem?_eq_getElem hlt2])
 rw [hj] at h1
 rw [Option.some.inj h1]; rfl
theorem DsT.held {f : Nat} {w : World} {base : Nat} {S S' : Nat → Prop} {v : Value} {ds : List Dc} {rs : List (List Value)} (h : DsT f w base S v ds rs) (hS : ∀ b, S b → S' b) (hv : ∀ b, v.ownBlock = some b → S' b) : HeldD (f + 1) w S' v ds := by
 have h8 := h.row8
 have hk := h.kids
 have hlen := h.len
 obtain ⟨hl, ⟨rfl, h0⟩ | ⟨g, cap, cur, rfl, hg, hh, h3, h4, h5, h6⟩⟩ := h.own
 ·exact ⟨none, 0, by rw [h0], by omega, .inl (List.eq_nil_of_length_eq_zero h0)⟩
 ·refine ⟨_, cap, rfl, h3, .inr ⟨g, 0, rfl, hv g rfl, fun j d hj => ?_⟩⟩
  obtain ⟨fs, vs, ms, ins, hr, hkd⟩ := hk j d hj
  refine ⟨fs, vs, ms, ins, fun i u hu => ?_, hkd.more hS⟩
  have hi : i < 8 := (List.getElem?_eq_some_iff.1 hu).1
  have e := flat8 rs j _ i h8 hi hr
  have hjl := (List.getElem?_eq_some_iff.1 hj).1
  rw [← h6, List.getElem?_take, if_pos (by omega), hu] at e
  simp only [World.cell?, hh]
  rw [Nat.zero_add]
  simpa using e
theorem DsT.keep {f : Nat} {w w' : World} {base : Nat} {S S' : Nat → Prop} {v : Value} {ds : List Dc} {rs : List (List Value)} (h : DsT f w base S v ds rs) (ho : ∀ b, v.ownBlock = some b → w'.heap[b]? = w.heap[b]?) (hb : ∀ b, S b → w'.heap[b]? = w.heap[b]?) (hS : ∀ b, S b → S' b) : DsT f w' base S' v ds rs :=
 ⟨own_keep h.own ho, h.len, fun j d hj => by
  obtain ⟨fs, vs, ms, ins, h1, h2⟩ := h.kids j d hj
  exact ⟨fs, vs, ms, ins, h1, (h2.old hb).more hS⟩⟩
theorem DsT.pushL {f : Nat} {wx : World} {base : Nat} {S : Nat → Prop} {v : Value} {ds : List Dc} {rs : List (List Value)} (h : DsT f wx base S v ds rs) (hb0 : base ≤ wx.heap.size) (x : Dc) (kf kv km ki : Value) (T : Nat → Prop) (hkid : Kids f wx T kf kv km ki x) (hone : ∀ u ∈ drow x kf kv km ki, u.oneCell' = true)
  (hS : ∀ b, S b ∨ T b → b < wx.heap.size ∧ v.ownBlock ≠ some b) {ops : Array Oper} {rest : List Oper} {o : Oper} {a : Act} {Q : Exit → Act → World → Prop} (hgd : o.guard = none) (s' x' : Operand)
  (ho : o.op = .call { callee := .builtin .append, args := #[s', x'], argTypes := #[35, 35] })
  (crow : Array Value) (hcs : crow = (drow x kf kv km ki).toArray) (hs : a.eval s' = v) (hx : a.eval x' = .slice (some ⟨wx.heap.size, 0, none⟩) 1 1) (hbd : ds.length ≤ 100000)
  (hk : ∀ g cap W, DsT f W base (fun b => S b ∨ T b) (.slice (some ⟨g, 0, none⟩) (ds.length + 1) cap) (ds ++ [x]) (rs ++ [drow x kf kv km ki]) → wx.grownBy W v.ownBlock → (∀ b, S b ∨ T b → b ≠ g) → base ≤ g → wpList Tryz.prog ops Q rest (a.put o.dst (.slice (some ⟨g, 0, none⟩) (ds.length + 1) cap)) W) :
  wpList Tryz.prog ops Q (o :: rest) a (wx.alloc (.cells crow 69)) := by
 subst hcs
 obtain ⟨i0, hi0, hz0, hz1, hz2⟩ := info_parts infoDcD
 refine wpList_append_lies _ hgd s' x' 35 ho base 69 i0 _ 8 136 Tryz.underlying35 hi0 hz0 hz1 hz2 rfl (by decide) v ds.length (rs.flatMap id) hs (World.ownsRow.alloc h.own _) ⟨wx.heap.size, 0, none⟩ 1 1 (drow x kf kv km ki) hx rfl ?_ hone (by decide) (by unfold maxLen; omega) (by omega) (by simp; omega) _ rfl ?_
 ·exact World.news_of_block (cs := (drow x kf kv km ki).toArray) (t := 69) (fr := (0, 0)) (by show (wx.heap.push _)[wx.heap.size]? = _; simp)
 ·intro g cap W hown hg hat hlt
  have hsa : (wx.alloc (.cells (drow x kf kv km ki).toArray 69)).heap.size = wx.heap.size + 1 := by simp
  have hkW : ∀ b, b < wx.heap.size → v.ownBlock ≠ some b → W.heap[b]? = wx.heap[b]? := fun b hb hne => by
   rw [hg.block b (by rw [hsa]; omega) (fun e => hne e.symm), alloc_heap_old _ _ _ hb]
  have hng : ∀ b, S b ∨ T b → b ≠ g := fun b hb e => by
   subst e
   obtain ⟨h1, h2⟩ := hS b hb
   rcases hat with e | e
   ·exact h2 e
   ·rw [hsa] at e; omega
  have hgb : base ≤ g := by
   rcases hat with e | e
   ·exact (own_block h.own g e).1
   ·rw [hsa] at e; omega
  refine hk g cap W ⟨?_, ?_, ?_⟩ ((World.grownBy_alloc _ _ _).trans hg) hng hgb
  ·rw [List.length_append, List.flatMap_append]
   simpa using hown
  ·rw [List.length_append, List.length_append, h.len]; rfl
  ·intro j d hj
   by_cases hjl : j < ds.length
   ·rw [List.getElem?_append_left hjl] at hj
    obtain ⟨f1, v1, m1, i1, hr1, hk1⟩ := h.kids j d hj
    exact ⟨f1, v1, m1, i1, by rw [List.getElem?_append_left (by rw [h.len]; exact hjl)]; exact hr1, (hk1.old fun b hb' => hkW b (hS b (.inl hb')).1 (hS b (.inl hb')).2).more fun b hb => .inl hb⟩
   ·have hjn := (List.getElem?_eq_some_iff.1 hj).1
    rw [List.length_append] at hjn
    have hje : j = ds.length := by simp at hjn; omega
    subst hje
    rw [List.getElem?_append_right (Nat.le_refl _), Nat.sub_self] at hj
    have e : x = d := by simpa using hj
    subst e
    exact ⟨kf, kv, km, ki, by rw [← h.len, List.getElem?_append_right (Nat.le_refl _), Nat.sub_self]; rfl, (hkid.old fun b hb' => hkW b (hS b (.inr hb')).1 (hS b (.inr hb')).2).more fun b hb => .inr hb⟩
set_option maxHeartbeats 16000000 in
set_option maxRecDepth 20000 in
theorem theirs_any : ∀ (f : Nat) (ds : List Dc) (v : Value) (w : World), FitD f ds → HeldD f w (fun b => b < w.heap.size) v ds →
  Calls Tryz.prog 11 #[v] w fun e w' => CAns f w ds e w' := by
 intro f
 induction f with
 | zero =>
  rintro ds v w _ ⟨rfl, ad, c, rfl⟩
  go_enter Tryz.func11, Tryz.ntmps11
  go_wp2_with fail
  go_loopw [3, 11] (fun v i wr => v = .slice none 0 0 ∧ i = .int .i64 0 ∧ wr = w) (fun _ _ _ => 0)
  case atStart => exact ⟨rfl, rfl, rfl⟩
  case round =>
   obtain ⟨rfl, rfl, hwr⟩ := hrel
   subst hwr
   go_wp2_with fail
   go_ret
   exact ⟨none, 0, rfl, ⟨rfl, none, 0, rfl⟩, Below.refl _ _⟩
 | succ f ih =>
 rintro ds v w ⟨hlen, hfit⟩ ⟨ad, c, rfl, hcap, hheld⟩
 have HFT := Lib.hid hfit
 have HHD := Lib.hid hheld
 obtain ⟨n, hn⟩ : ∃ n, ds.length = n := ⟨_, rfl⟩
 have HN := Lib.hid hn
 rw [hn] at hlen hcap ⊢
 clear hfit hheld hn
 go_enter Tryz.func11, Tryz.ntmps11
 go_wp2_with fail
 go_loopw [3, 11] (fun v i wr => ∃ (j : Nat) (rs : List (List Value)), i = .int .i64 (j : Int) ∧ j ≤ n ∧ Below w.heap.size w wr ∧ DsT f wr w.heap.size (fun b => w.heap.size ≤ b ∧ b < wr.heap.size ∧ v.ownBlock ≠ some b) v (ds.take j) rs) (fun _ i _ => n - (intOf i).toNat)
 case atStart => exact ⟨0, [], rfl, by omega, Below.refl _ _, by rw [List.take_zero]; exact DsT.nil _ _ _ _⟩
 case round =>
  generalize wr = w1 at *
  obtain ⟨j, rs, rfl, hj, hbel, hDs⟩ := hrel
  have hlt0 : (ds.take j).length = j := by rw [List.length_take]; have := HN.out; omega
  have hown := hDs.own
  rw [hlt0] at hown
  obtain ⟨oa, oc, rfl⟩ := own_slice hown
  have HO0 := Lib.hid hown
  have HDs := Lib.hid hDs
  have HB := Lib.hid hbel
  clear hown
  clear hDs hbel
  by_cases hjn : j < n
  ·obtain ⟨d, hd⟩ : ∃ d, ds[j]? = some d := ⟨_, List.getElem?_eq_getElem (by have := HN.out; omega)⟩
   have hfd := HFT.out d (List.mem_of_getElem? hd)
   rcases HHD.out with h0 | ⟨g, o, rfl, hg, hk⟩
   ·rw [h0] at hd; simp at hd
   obtain ⟨fs, vs, ms, ins, hcell, hF, hV, hM, hI⟩ := hk j d hd
   have hcl : ∀ W, Below w.heap.size w W → ∀ i u, (drow d fs vs ms ins)[i]? = some u → W.cell? ⟨g, o + (j * 8 + i), none⟩ = some u := fun W hW i u hu => by
    rw [hW.cell (show g < w.heap.size from hg)]; exact hcell i u hu
   have HCL := Lib.hid hcl
   have HF := Lib.hid hF
   have HV := Lib.hid hV
   have HM := Lib.hid hM
   have HI := Lib.hid hI
   have HD := Lib.hid hd
   have hI2 : ∀ W, Below w.heap.size w W → HeldD f W (fun b => b < W.heap.size) ins d.inner := fun W hW => (HeldD.old (fun b hb => hW.block b hb) HI.out).more fun b hb => by have := hW.size; omega
   have hRec := fun W hW => ih d.inner ins W hfd.2.2.2 (hI2 W hW)
   have HRec := Lib.hid hRec
   clear hcell hF hV hM hI hd hk hcl hI2 hRec hlt0
   have hb0 : ∀ W, Below w1.heap.size w1 W → Below w.heap.size w W := fun W hW => HB.out.trans (hW.mono HB.out.size)
   have HB0 := Lib.hid hb0
   have k0 : ∀ W, Below w1.heap.size w1 W → W.cell? ⟨g, o + j * 8, none⟩ = some (.int .i64 d.kind) := fun W hW => by have := HCL.out W (HB0.out W hW) 0 _ rfl; simpa using this
   have k1 : ∀ W, Below w1.heap.size w1 W → W.cell? ⟨g, o + j * 8 + 1, none⟩ = some (.string (mkB d.name)) := fun W hW => by have := HCL.out W (HB0.out W hW) 1 _ rfl; simpa [Nat.add_assoc] using this
   have k2 : ∀ W, Below w1.heap.size w1 W → W.cell? ⟨g, o + j * 8 + 2, none⟩ = some (.int .i64 d.line) := fun W hW => by have := HCL.out W (HB0.out W hW) 2 _ rfl; simpa [Nat.add_assoc] using this
   have k3 : ∀ W, Below w1.heap.size w1 W → W.cell? ⟨g, o + j * 8 + 3, none⟩ = some (.int .i64 d.col) := fun W hW => by have := HCL.out W (HB0.out W hW) 3 _ rfl; simpa [Nat.add_assoc] using this
   have k7 : ∀ W, Below w1.heap.size w1 W → W.cell? ⟨g, o + j * 8 + 7, none⟩ = some ins := fun W hW => by have := HCL.out W (HB0.out W hW) 7 _ rfl; simpa [Nat.add_assoc] using this
   have hj0 : (0 : Int) ≤ (j : Int) := by omega
   have hj1 : (j : Int) < (n : Int) := by omega
   have hbr : Below w1.heap.size w1 w1.drew := (Below.refl _ _).drew
   have hba : ∀ o, Below w1.heap.size w1 (w1.alloc o).drew := fun o => ((Below.refl _ w1).alloc (Nat.le_refl _) o).drew
   clear hb0
   have HRC : Hid (∀ W, Below w1.heap.size w1 W → Calls Tryz.prog 11 #[ins] W fun e w' => CAns f W d.inner e w') := fun W hW => HRec.out W (HB0.out W hW)
   go_upto_region 5 with fail
   go_cut [5] (fun s5 wx => ∃ (D : Nat) (ia : Option Addr) (ic : Nat), s5 = .pointer (some ⟨D, 0, none⟩) ∧ wx.heap[D]? = some (.cells #[.int .i64 d.kind, .string (mkB d.name), .int .i64 d.line, .int .i64 d.col, .slice none 0 0, .slice none 0 0, .slice none 0 0, .slice ia d.inner.length ic] 69 (0, 0)) ∧ Below w1.heap.size w1 wx ∧ w1.heap.size ≤ D ∧ HeldD f wx (fun b => w1.heap.size ≤ b ∧ b < wx.heap.size ∧ b ≠ D) (.slice ia d.inner.length ic) d.inner)
   case first =>
    go_region_held_law (fun W => Below w1.heap.size w1 W) (first | with_reducible exact hbr | with_reducible exact hba _ | with_reducible exact hb5 | with_reducible exact hb5.alloc hb5.size _ | with_reducible exact (((((((hb5.setCell (p := ⟨w1.heap.size, 0, none⟩) (Nat.le_refl _) _).setCell (p := ⟨w1.heap.size, 1, none⟩) (Nat.le_refl _) _).setCell (p := ⟨w1.heap.size, 2, none⟩) (Nat.le_refl _) _).setCell (p := ⟨w1.heap.size, 3, none⟩) (Nat.le_refl _) _).setCell (p := ⟨w1.heap.size, 4, none⟩) (Nat.le_refl _) _).setCell (p := ⟨w1.heap.size, 5, none⟩) (Nat.le_refl _) _).setCell (p := ⟨w1.heap.size, 6, none⟩) (Nat.le_refl _) _).setCell (p := ⟨w1.heap.size, 7, none⟩) (Nat.le_refl _) _)
     (first
      | (go_at_call 11; refine (HRC.out _ (by assumption)).mono ?_; rintro e W5 ⟨ia, ic, rfl, hH5, hb5'⟩; have hb5 : Below w1.heap.size w1 W5 := Below.trans (by assumption) (hb5'.mono (by simp)); first | (have hz5 := drewn_block (o := .cells z8 69) hb5'; have HZ5 := Lib.hid hz5; obtain ⟨z0c, z1c, z2c, z3c, z4c, z5c, z6c, z7c, z0f, z1f, z2f, z3f, z4f, z5f, z6f, z7f⟩ := z8_cells hz5; clear hz5) | skip))
    all_goals go_wp2_with fail
    all_goals go_meet
    ·refine ⟨W5.heap.size, ia, ic, rfl, alloc_heap_new _ _, hb5.alloc hb5.size _, hb5.size, ?_⟩
     refine (HeldD.old (fun b hb => alloc_heap_old _ _ _ hb.2) hH5).more fun b hb => ?_
     have e0 : w1.drew.heap.size = w1.heap.size := rfl
     have hb1 := hb.1
     exact ⟨by omega, by simp; omega, by omega⟩
    ·obtain ⟨Y, hY, y8, yo, yz, yb⟩ := set8_all HZ5.out (.int .i64 d.kind) (.string (mkB d.name)) (.int .i64 d.line) (.int .i64 d.col) (.slice none 0 0) (.slice none 0 0) (.slice none 0 0) (.slice ia d.inner.length ic)
     rw [hY]
     have e0 : ∀ o : Obj, (w1.alloc o).drew.heap.size = w1.heap.size + 1 := fun o => by show (w1.heap.push o).size = _; simp
     refine ⟨w1.heap.size, ia, ic, rfl, y8, hb5.trans yb, Nat.le_refl _, ?_⟩
     refine (HeldD.old (fun b hb => yo b (by have := hb.1; rw [e0] at this; omega)) hH5).more fun b hb => ?_
     have hb1 := hb.1
     have hb2 := hb.2
     rw [e0] at hb1
     exact ⟨by omega, by omega, by omega⟩
   case rest =>
    obtain ⟨D, ia, ic, rfl, hD, hbX, hDg, hHI⟩ := hcut
    generalize wc = X at *
    have HDl := Lib.hid hD
    have HBX := Lib.hid hbX
    have HHI := Lib.hid hHI
    have hDX : D < X.heap.size := (Array.getElem?_eq_some_iff.1 hD).1
    have hb1 := HB0.out X hbX
    have kk4 : X.cell? ⟨g, o + j * 8 + 4, none⟩ = some fs := by have := HCL.out X hb1 4 _ rfl; simpa [Nat.add_assoc] using this
    obtain ⟨fa, fc, rfl, hfc, hFr⟩ := HF.out
    have HFr := Lib.hid hFr
    obtain ⟨va, vc, rfl, hvc, hVr⟩ := HV.out
    have HVr := Lib.hid hVr
    obtain ⟨ma, mc, rfl, hmc, hMr⟩ := HM.out
    have HMr := Lib.hid hMr
    clear hD hbX hHI hFr hVr hMr k0 k1 k2 k3 k7 hbr hba hb1
    have hgw : g < w.heap.size := hg
    have hww : w.heap.size ≤ w1.heap.size := HB.out.size
    have hgD : g ≠ D := by omega
    have HD1 := HDl
    have HBl1 : Hid (Below w.heap.size w X) := HB0.out X HBX.out
    have HW1 : Hid (w.heap.size ≤ X.heap.size) := by refine (?_ : w.heap.size ≤ X.heap.size); omega
    have HO1 : Hid (∀ b, b < w.heap.size → X.heap[b]? = w.heap[b]?) := fun b hb => (HB0.out X HBX.out).block b hb
    go_wp2_with fail
    go_loopw [6, 42] (fun _ kk wq => ∃ (q : Nat) (u : Value), kk = .int .i64 (q : Int) ∧ q ≤ d.fields.length ∧ Lp X wq D 69 #[.int .i64 d.kind, .string (mkB d.name), .int .i64 d.line, .int .i64 d.col, u, .slice none 0 0, .slice none 0 0, .slice ia d.inner.length ic] 71 6 u q ((d.fields.take q).flatMap frow)) (fun _ kk _ => d.fields.length - (intOf kk).toNat)
    case atStart => exact ⟨0, .slice none 0 0, rfl, by omega, by rw [List.take_zero]; exact Lp.start X HD1.out _ _⟩
    case round =>
     obtain ⟨q, u, rfl, hq, hLp⟩ := hrel
     obtain ⟨ua, uc, rfl⟩ := own_slice hLp.own
     have HLp := Lib.hid hLp
     have hloc := hLp.loc
     have kd : ∀ o', (wr.alloc o').cell? ⟨D, 4, none⟩ = some (.slice ua q uc) := fun o' => by
      have := (hLp.alloc o').loc
      simp [World.cell?, this]
     have kd0 := cell_at hloc 4 rfl
     have HKS : Hid (∀ b, b < X.heap.size → b ≠ D → wr.heap[b]? = X.heap[b]?) := fun b h1 h2 => HLp.out.keep h1 h2
     have hsw := HW1.out
     clear hLp hloc
     by_cases hqn : q < d.fields.length
     ·obtain ⟨x, hx⟩ : ∃ x, d.fields[q]? = some x := ⟨_, List.getElem?_eq_getElem hqn⟩
      rcases HFr.out with h0 | ⟨g2, o2, rfl, hg2, hk2⟩
      ·rw [h0] at hx; simp at hx
      have hg2' : g2 < w.heap.size := hg2
      have hs2 : wr.heap[g2]? = w.heap[g2]? := by rw [HKS.out g2 (by omega) (by omega)]; exact HO1.out g2 hg2'
      have hs1 : wr.heap[g]? = w.heap[g]? := by rw [HKS.out g (by omega) (by omega)]; exact HO1.out g hg
      have HXT : Hid ((d.fields.take (q + 1)).flatMap frow = (d.fields.take q).flatMap frow ++ frow x) := by
       refine (?_ : _ = _)
       rw [List.take_add_one, hx, List.flatMap_append]; simp
      have sl : wr.cell? ⟨g, o + j * 8 + 4, none⟩ = some (.slice (some ⟨g2, o2, none⟩) d.fields.length fc) := by
       rw [World.cell?_of_block hs1]
       have := HCL.out w (Below.refl _ _) 4 _ rfl
       simpa [Nat.add_assoc] using this
      have e0 : wr.cell? ⟨g2, o2 + q * 6, none⟩ = some (.bool x.rep) := by
       rw [World.cell?_of_block hs2]
       have := hk2 q x hx 0 _ rfl
       simpa [Nat.add_assoc] using this
      have e1 : wr.cell? ⟨g2, o2 + q * 6 + 1, none⟩ = some (.string (mkB x.type)) := by
       rw [World.cell?_of_block hs2]
       have := hk2 q x hx 1 _ rfl
       simpa [Nat.add_assoc] using this
      have e2 : wr.cell? ⟨g2, o2 + q * 6 + 2, none⟩ = some (.string (mkB x.name)) := by
       rw [World.cell?_of_block hs2]
       have := hk2 q x hx 2 _ rfl
       simpa [Nat.add_assoc] using this
      have e3 : wr.cell? ⟨g2, o2 + q * 6 + 3, none⟩ = some (.int .i64 x.num) := by
       rw [World.cell?_of_block hs2]
       have := hk2 q x hx 3 _ rfl
       simpa [Nat.add_assoc] using this
      have e4 : wr.cell? ⟨g2, o2 + q * 6 + 4, none⟩ = some (.int .i64 x.line) := by
       rw [World.cell?_of_block hs2]
       have := hk2 q x hx 4 _ rfl
       simpa [Nat.add_assoc] using this
      have e5 : wr.cell? ⟨g2, o2 + q * 6 + 5, none⟩ = some (.int .i64 x.col) := by
       rw [World.cell?_of_block hs2]
       have := hk2 q x hx 5 _ rfl
       simpa [Nat.add_assoc] using this
      have hq0 : (0 : Int) ≤ (q : Int) := by omega
      have hq1 : (q : Int) < (d.fields.length : Int) := by omega
      have hfl := hfd.1
      clear hs1 hs2 hk2 hx
      go_wp2_with fail
      go_region_law (first
       | (refine HLp.out.drew.push 4 rfl _ _ 65 rfl Tryz.underlying65 _ 64 infoFdD rfl (by decide) (frow x) rfl (by intro y hy; simp only [frow, List.mem_cons, List.not_mem_nil, or_false] at hy; rcases hy with rfl | rfl | rfl | rfl | rfl | rfl <;> rfl) _ rfl rfl rfl (by omega) (by decide) ?_; intro gg cap W hDW hLpW; have hw1 : W.cell? ⟨D, 4, none⟩ = some (.slice ua q uc) := (by simp [World.cell?, hDW]); have hw2 : W.frozen? ⟨D, 4, none⟩ = false := (by simp [World.frozen?, hDW]); clear hDW; dsimp only))
      all_goals
       have HLW := Lib.hid hLpW
       clear hLpW
       go_wp2_with fail
       go_roundw
       case rel => exact ⟨q + 1, _, by go_num, by omega, by rw [HXT.out]; exact HLW.out⟩
       case measure => simp [intOf]; omega
     ·obtain rfl : q = d.fields.length := by omega
      rw [show d.fields.take d.fields.length = d.fields from List.take_length] at HLp
      generalize ua = f1a at *
      generalize uc = f1c at *
      generalize wr = X2 at *
      have hqq : ¬ ((d.fields.length : Int) < (d.fields.length : Int)) := by omega
      have HR1 : Hid (RowsIn X2 (fun b => X.heap.size ≤ b ∧ b < X2.heap.size) 6 frow (.slice f1a d.fields.length f1c) d.fields) := rowsIn_own (k := 6) (row := frow) (fun _ => rfl) HLp.out.own _ (fun b hb => own_block HLp.out.own b hb)
      have HD2 := Lib.hid HLp.out.loc
      have HZ2 := Lib.hid HLp.out.size
      have HK2 := HKS
      have HBl2 : Hid (Below w.heap.size w X2) := HBl1.out.grown HLp.out.gr (by omega) (fun b hb => by cases hb; omega)
      have HW2 : Hid (w.heap.size ≤ X2.heap.size) := Nat.le_trans HW1.out HZ2.out
      have HO2 : Hid (∀ b, b < w.heap.size → X2.heap[b]? = w.heap[b]?) := fun b hb => by
       rw [HK2.out b (by omega) (by omega)]; exact HO1.out b hb
      clear hsw HLp HKS kd hq hqn
      have kn : X2.cell? ⟨g, o + j * 8 + 5, none⟩ = some (.slice va d.values.length vc) := by
       rw [World.cell?_of_block (HO2.out g hg)]
       have := HCL.out w (Below.refl _ _) 5 _ rfl
       simpa [Nat.add_assoc] using this
      go_wp2_with fail
      go_loopw [7, 65] (fun _ kk wq => ∃ (q : Nat) (u : Value), kk = .int .i64 (q : Int) ∧ q ≤ d.values.length ∧ Lp X2 wq D 69 #[.int .i64 d.kind, .string (mkB d.name), .int .i64 d.line, .int .i64 d.col, .slice f1a d.fields.length f1c, u, .slice none 0 0, .slice ia d.inner.length ic] 74 4 u q ((d.values.take q).flatMap vrow)) (fun _ kk _ => d.values.length - (intOf kk).toNat)
      case atStart => exact ⟨0, .slice none 0 0, rfl, by omega, by rw [List.take_zero]; exact Lp.start X2 HD2.out _ _⟩
      case round =>
       obtain ⟨q, u, rfl, hq, hLp⟩ := hrel
       obtain ⟨ua, uc, rfl⟩ := own_slice hLp.own
       have HLp := Lib.hid hLp
       have hloc := hLp.loc
       have kd : ∀ o', (wr.alloc o').cell? ⟨D, 5, none⟩ = some (.slice ua q uc) := fun o' => by
        have := (hLp.alloc o').loc
        simp [World.cell?, this]
       have kd0 := cell_at hloc 5 rfl
       have HKS : Hid (∀ b, b < X2.heap.size → b ≠ D → wr.heap[b]? = X2.heap[b]?) := fun b h1 h2 => HLp.out.keep h1 h2
       have hsw := HW2.out
       clear hLp hloc
       by_cases hqn : q < d.values.length
       ·obtain ⟨x, hx⟩ : ∃ x, d.values[q]? = some x := ⟨_, List.getElem?_eq_getElem hqn⟩
        rcases HVr.out with h0 | ⟨g2, o2, rfl, hg2, hk2⟩
        ·rw [h0] at hx; simp at hx
        have hg2' : g2 < w.heap.size := hg2
        have hs2 : wr.heap[g2]? = w.heap[g2]? := by rw [HKS.out g2 (by omega) (by omega)]; exact HO2.out g2 hg2'
        have hs1 : wr.heap[g]? = w.heap[g]? := by rw [HKS.out g (by omega) (by omega)]; exact HO2.out g hg
        have HXT : Hid ((d.values.take (q + 1)).flatMap vrow = (d.values.take q).flatMap vrow ++ vrow x) := by
         refine (?_ : _ = _)
         rw [List.take_add_one, hx, List.flatMap_append]; simp
        have sl : wr.cell? ⟨g, o + j * 8 + 5, none⟩ = some (.slice (some ⟨g2, o2, none⟩) d.values.length vc) := by
         rw [World.cell?_of_block hs1]
         have := HCL.out w (Below.refl _ _) 5 _ rfl
         simpa [Nat.add_assoc] using this
        have e0 : wr.cell? ⟨g2, o2 + q * 4, none⟩ = some (.string (mkB x.name)) := by
         rw [World.cell?_of_block hs2]
         have := hk2 q x hx 0 _ rfl
         simpa [Nat.add_assoc] using this
        have e1 : wr.cell? ⟨g2, o2 + q * 4 + 1, none⟩ = some (.int .i64 x.num) := by
         rw [World.cell?_of_block hs2]
         have := hk2 q x hx 1 _ rfl
         simpa [Nat.add_assoc] using this
        have e2 : wr.cell? ⟨g2, o2 + q * 4 + 2, none⟩ = some (.int .i64 x.line) := by
         rw [World.cell?_of_block hs2]
         have := hk2 q x hx 2 _ rfl
         simpa [Nat.add_assoc] using this
        have e3 : wr.cell? ⟨g2, o2 + q * 4 + 3, none⟩ = some (.int .i64 x.col) := by
         rw [World.cell?_of_block hs2]
         have := hk2 q x hx 3 _ rfl
         simpa [Nat.add_assoc] using this
        have hq0 : (0 : Int) ≤ (q : Int) := by omega
        have hq1 : (q : Int) < (d.values.length : Int) := by omega
        have hfl := hfd.2.1
        clear hs1 hs2 hk2 hx
        go_wp2_with fail
        go_region_law (first
         | (refine HLp.out.drew.push 5 rfl _ _ 66 rfl Tryz.underlying66 _ 40 infoVlD rfl (by decide) (vrow x) rfl (by intro y hy; simp only [vrow, List.mem_cons, List.not_mem_nil, or_false] at hy; rcases hy with rfl | rfl | rfl | rfl <;> rfl) _ rfl rfl rfl (by omega) (by decide) ?_; intro gg cap W hDW hLpW; have hw1 : W.cell? ⟨D, 5, none⟩ = some (.slice ua q uc) := (by simp [World.cell?, hDW]); have hw2 : W.frozen? ⟨D, 5, none⟩ = false := (by simp [World.frozen?, hDW]); clear hDW; dsimp only))
        all_goals
         have HLW := Lib.hid hLpW
         clear hLpW
         go_wp2_with fail
         go_roundw
         case rel => exact ⟨q + 1, _, by go_num, by omega, by rw [HXT.out]; exact HLW.out⟩
         case measure => simp [intOf]; omega
       ·obtain rfl : q = d.values.length := by omega
        rw [show d.values.take d.values.length = d.values from List.take_length] at HLp
        generalize ua = v1a at *
        generalize uc = v1c at *
        generalize wr = X3 at *
        have hqq : ¬ ((d.values.length : Int) < (d.values.length : Int)) := by omega
        have HR2 : Hid (RowsIn X3 (fun b => X2.heap.size ≤ b ∧ b < X3.heap.size) 4 vrow (.slice v1a d.values.length v1c) d.values) := rowsIn_own (k := 4) (row := vrow) (fun _ => rfl) HLp.out.own _ (fun b hb => own_block HLp.out.own b hb)
        have HD3 := Lib.hid HLp.out.loc
        have HZ3 := Lib.hid HLp.out.size
        have HK3 := HKS
        have HBl3 : Hid (Below w.heap.size w X3) := HBl2.out.grown HLp.out.gr (by omega) (fun b hb => by cases hb; omega)
        have HW3 : Hid (w.heap.size ≤ X3.heap.size) := Nat.le_trans HW2.out HZ3.out
        have HO3 : Hid (∀ b, b < w.heap.size → X3.heap[b]? = w.heap[b]?) := fun b hb => by
         rw [HK3.out b (by omega) (by omega)]; exact HO2.out b hb
        clear hsw HLp HKS kd hq hqn
        have kn : X3.cell? ⟨g, o + j * 8 + 6, none⟩ = some (.slice ma d.methods.length mc) := by
         rw [World.cell?_of_block (HO3.out g hg)]
         have := HCL.out w (Below.refl _ _) 6 _ rfl
         simpa [Nat.add_assoc] using this
        go_wp2_with fail
        go_loopw [8, 88] (fun _ kk wq => ∃ (q : Nat) (u : Value), kk = .int .i64 (q : Int) ∧ q ≤ d.methods.length ∧ Lp X3 wq D 69 #[.int .i64 d.kind, .string (mkB d.name), .int .i64 d.line, .int .i64 d.col, .slice f1a d.fields.length f1c, .slice v1a d.values.length v1c, u, .slice ia d.inner.length ic] 77 5 u q ((d.methods.take q).flatMap mrow)) (fun _ kk _ => d.methods.length - (intOf kk).toNat)
        case atStart => exact ⟨0, .slice none 0 0, rfl, by omega, by rw [List.take_zero]; exact Lp.start X3 HD3.out _ _⟩
        case round =>
         obtain ⟨q, u, rfl, hq, hLp⟩ := hrel
         obtain ⟨ua, uc, rfl⟩ := own_slice hLp.own
         have HLp := Lib.hid hLp
         have hloc := hLp.loc
         have kd : ∀ o', (wr.alloc o').cell? ⟨D, 6, none⟩ = some (.slice ua q uc) := fun o' => by
          have := (hLp.alloc o').loc
          simp [World.cell?, this]
         have kd0 := cell_at hloc 6 rfl
         have HKS : Hid (∀ b, b < X3.heap.size → b ≠ D → wr.heap[b]? = X3.heap[b]?) := fun b h1 h2 => HLp.out.keep h1 h2
         have hsw := HW3.out
         clear hLp hloc
         by_cases hqn : q < d.methods.length
         ·obtain ⟨x, hx⟩ : ∃ x, d.methods[q]? = some x := ⟨_, List.getElem?_eq_getElem hqn⟩
          rcases HMr.out with h0 | ⟨g2, o2, rfl, hg2, hk2⟩
          ·rw [h0] at hx; simp at hx
          have hg2' : g2 < w.heap.size := hg2
          have hs2 : wr.heap[g2]? = w.heap[g2]? := by rw [HKS.out g2 (by omega) (by omega)]; exact HO3.out g2 hg2'
          have hs1 : wr.heap[g]? = w.heap[g]? := by rw [HKS.out g (by omega) (by omega)]; exact HO3.out g hg
          have HXT : Hid ((d.methods.take (q + 1)).flatMap mrow = (d.methods.take q).flatMap mrow ++ mrow x) := by
           refine (?_ : _ = _)
           rw [List.take_add_one, hx, List.flatMap_append]; simp
          have sl : wr.cell? ⟨g, o + j * 8 + 6, none⟩ = some (.slice (some ⟨g2, o2, none⟩) d.methods.length mc) := by
           rw [World.cell?_of_block hs1]
           have := HCL.out w (Below.refl _ _) 6 _ rfl
           simpa [Nat.add_assoc] using this
          have e0 : wr.cell? ⟨g2, o2 + q * 5, none⟩ = some (.string (mkB x.name)) := by
           rw [World.cell?_of_block hs2]
           have := hk2 q x hx 0 _ rfl
           simpa [Nat.add_assoc] using this
          have e1 : wr.cell? ⟨g2, o2 + q * 5 + 1, none⟩ = some (.string (mkB x.inp)) := by
           rw [World.cell?_of_block hs2]
           have := hk2 q x hx 1 _ rfl
           simpa [Nat.add_assoc] using this
          have e2 : wr.cell? ⟨g2, o2 + q * 5 + 2, none⟩ = some (.string (mkB x.out)) := by
           rw [World.cell?_of_block hs2]
           have := hk2 q x hx 2 _ rfl
           simpa [Nat.add_assoc] using this
          have e3 : wr.cell? ⟨g2, o2 + q * 5 + 3, none⟩ = some (.int .i64 x.line) := by
           rw [World.cell?_of_block hs2]
           have := hk2 q x hx 3 _ rfl
           simpa [Nat.add_assoc] using this
          have e4 : wr.cell? ⟨g2, o2 + q * 5 + 4, none⟩ = some (.int .i64 x.col) := by
           rw [World.cell?_of_block hs2]
           have := hk2 q x hx 4 _ rfl
           simpa [Nat.add_assoc] using this
          have hq0 : (0 : Int) ≤ (q : Int) := by omega
          have hq1 : (q : Int) < (d.methods.length : Int) := by omega
          have hfl := hfd.2.2.1
          clear hs1 hs2 hk2 hx
          go_wp2_with fail
          go_region_law (first
           | (refine HLp.out.drew.push 6 rfl _ _ 67 rfl Tryz.underlying67 _ 64 infoMtD rfl (by decide) (mrow x) rfl (by intro y hy; simp only [mrow, List.mem_cons, List.not_mem_nil, or_false] at hy; rcases hy with rfl | rfl | rfl | rfl | rfl <;> rfl) _ rfl rfl rfl (by omega) (by decide) ?_; intro gg cap W hDW hLpW; have hw1 : W.cell? ⟨D, 6, none⟩ = some (.slice ua q uc) := (by simp [World.cell?, hDW]); have hw2 : W.frozen? ⟨D, 6, none⟩ = false := (by simp [World.frozen?, hDW]); clear hDW; dsimp only))
          all_goals
           have HLW := Lib.hid hLpW
           clear hLpW
           go_wp2_with fail
           go_roundw
           case rel => exact ⟨q + 1, _, by go_num, by omega, by rw [HXT.out]; exact HLW.out⟩
           case measure => simp [intOf]; omega
         ·obtain rfl : q = d.methods.length := by omega
          rw [show d.methods.take d.methods.length = d.methods from List.take_length] at HLp
          generalize ua = m1a at *
          generalize uc = m1c at *
          generalize wr = X4 at *
          have hqq : ¬ ((d.methods.length : Int) < (d.methods.length : Int)) := by omega
          have HR3 : Hid (RowsIn X4 (fun b => X3.heap.size ≤ b ∧ b < X4.heap.size) 5 mrow (.slice m1a d.methods.length m1c) d.methods) := rowsIn_own (k := 5) (row := mrow) (fun _ => rfl) HLp.out.own _ (fun b hb => own_block HLp.out.own b hb)
          have HD4 := Lib.hid HLp.out.loc
          have HZ4 := Lib.hid HLp.out.size
          have HK4 := HKS
          have HBl4 : Hid (Below w.heap.size w X4) := HBl3.out.grown HLp.out.gr (by omega) (fun b hb => by cases hb; omega)
          have HW4 : Hid (w.heap.size ≤ X4.heap.size) := Nat.le_trans HW3.out HZ4.out
          have HO4 : Hid (∀ b, b < w.heap.size → X4.heap[b]? = w.heap[b]?) := fun b hb => by
           rw [HK4.out b (by omega) (by omega)]; exact HO3.out b hb
          clear hsw HLp HKS kd hq hqn
          have z2 := HZ2.out
          have z3 := HZ3.out
          have z4 := HZ4.out
          have l4 := HD4.out
          have d0 := cell_at l4 0 rfl
          have d1 := cell_at l4 1 rfl
          have d2 := cell_at l4 2 rfl
          have d3 := cell_at l4 3 rfl
          have d4 := cell_at l4 4 rfl
          have d5 := cell_at l4 5 rfl
          have d6 := cell_at l4 6 rfl
          have d7 := cell_at l4 7 rfl
          have HKid : Hid (Kids f X4 (fun b => w1.heap.size ≤ b ∧ b < X4.heap.size) (.slice f1a d.fields.length f1c) (.slice v1a d.values.length v1c) (.slice m1a d.methods.length m1c) (.slice ia d.inner.length ic) d) := by
           refine (?_ : _ ∧ _)
           refine ⟨?_, ?_, ?_, ?_⟩
           ·refine ((HR1.out.old (w' := X3) fun b hb => HK3.out b hb.2 (by have := hb.1; omega)).old (w' := X4) fun b hb => HK4.out b (by have := hb.2; omega) (by have := hb.1; omega)).more fun b hb => ?_
            have h1 := hb.1
            have h2 := hb.2
            exact ⟨by omega, by omega⟩
           ·refine (HR2.out.old (w' := X4) fun b hb => HK4.out b hb.2 (by have := hb.1; omega)).more fun b hb => ?_
            have h1 := hb.1
            have h2 := hb.2
            exact ⟨by omega, by omega⟩
           ·exact HR3.out.more fun b hb => ⟨by have := hb.1; omega, hb.2⟩
           ·refine (((HeldD.old (w' := X2) (fun b hb => HK2.out b hb.2.1 hb.2.2) HHI.out).old (w' := X3) (fun b hb => HK3.out b (by have := hb.2.1; omega) hb.2.2)).old (w' := X4) (fun b hb => HK4.out b (by have := hb.2.1; omega) hb.2.2)).more fun b hb => ?_
            have h1 := hb.1
            have h2 := hb.2.1
            exact ⟨h1, by omega⟩
          have hk4 : ∀ b, b < w1.heap.size → X4.heap[b]? = w1.heap[b]? := fun b hb => by
           rw [HK4.out b (by omega) (by omega), HK3.out b (by omega) (by omega), HK2.out b (by omega) (by omega), HBX.out.block b hb]
          have HK14 := Lib.hid hk4
          have HOwn : Hid (∀ b, (Value.slice oa j oc).ownBlock = some b → w.heap.size ≤ b ∧ b < w1.heap.size) := fun b hb => own_block HO0.out b hb
          have HDX : Hid (DsT f X4 w.heap.size (fun b => w.heap.size ≤ b ∧ b < w1.heap.size ∧ (Value.slice oa j oc).ownBlock ≠ some b) (.slice oa j oc) (ds.take j) rs) :=
           HDs.out.keep (fun b hb => HK14.out b (HOwn.out b hb).2) (fun b hb => HK14.out b hb.2.1) (fun b hb => hb)
          have HSS : Hid (∀ b, (w.heap.size ≤ b ∧ b < w1.heap.size ∧ (Value.slice oa j oc).ownBlock ≠ some b) ∨ (w1.heap.size ≤ b ∧ b < X4.heap.size) → b < X4.heap.size ∧ (Value.slice oa j oc).ownBlock ≠ some b) := fun b hb => by
           rcases hb with hb | hb
           ·exact ⟨by have := hb.2.1; omega, hb.2.2⟩
           ·exact ⟨hb.2, fun e => by have := (HOwn.out b e).2; have := hb.1; omega⟩
          have hlj : (ds.take j).length = j := by rw [List.length_take]; have := HN.out; omega
          have HTK : Hid (ds.take (j + 1) = ds.take j ++ [d]) := by
           refine (?_ : _ = _)
           rw [List.take_add_one, HD.out]; rfl
          have HW4' := HW4.out
          clear l4 hk4 kd0 hqq
          go_wp2_with (at_builtin; refine HDX.out.pushL (by omega) d _ _ _ _ _ HKid.out (by intro u hu; simp only [drow, List.mem_cons, List.not_mem_nil, or_false] at hu; rcases hu with rfl | rfl | rfl | rfl | rfl | rfl | rfl | rfl <;> rfl) HSS.out rfl _ _ rfl _ rfl rfl rfl (by omega) ?_)
          intro g9 cap9 W9 hDs9 hg9 hne9 hb9
          have HDs9 := Lib.hid hDs9
          have HB9 : Hid (Below w.heap.size w W9) := HBl4.out.grown hg9 (by omega) (fun b hb => (HOwn.out b hb).1)
          have hz9 := hg9.size
          have HNE := Lib.hid hne9
          clear hDs9 hne9 hg9
          go_wp2_with fail
          go_roundw
          case rel =>
           have hfin := HDs9.out.keep (w' := W9) (S' := fun b => w.heap.size ≤ b ∧ b < W9.heap.size ∧ (Value.slice (some ⟨g9, 0, none⟩) (j + 1) cap9).ownBlock ≠ some b) (fun _ _ => rfl) (fun _ _ => rfl) (fun b hb => by
            have hng := HNE.out b hb
            refine ⟨?_, ?_, ?_⟩
            ·rcases hb with hb | hb
             ·exact hb.1
             ·have := hb.1; omega
            ·rcases hb with hb | hb
             ·have := hb.2.1; omega
             ·have := hb.2; omega
            ·intro e
             have e' : g9 = b := by simpa [Value.ownBlock] using e
             exact hng e'.symm)
           rw [← HTK.out] at hfin
           exact ⟨j + 1, _, by go_num, by omega, HB9.out, hfin⟩
          case measure => simp [intOf]; omega
  ·obtain rfl : j = n := by omega
   have hnn : ¬ ((j : Int) < (j : Int)) := by omega
   have hta : ds.take j = ds := List.take_of_length_le (by have := HN.out; omega)
   have HDl : Hid (DsT f w1 w.heap.size (fun b => w.heap.size ≤ b ∧ b < w1.heap.size ∧ (Value.slice oa j oc).ownBlock ≠ some b) (.slice oa j oc) ds rs) := by
    have := HDs.out
    rw [hta] at this
    exact this
   clear HDs hta hlt0
   go_wp2_with fail
   go_ret
   refine ⟨oa, oc, by rw [HN.out]; rfl, ?_, HB.out⟩
   rw [HN.out]
   exact HDl.out.held (fun b hb => ⟨hb.1, hb.2.1⟩) (fun b hb => own_block HO0.out b hb)
end Go.Proofs.YtpojeinddnjpfaaGreatDoor
