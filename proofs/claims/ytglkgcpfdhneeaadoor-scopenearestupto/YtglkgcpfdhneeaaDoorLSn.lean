/-
  A name that is declared right in the scope is meant there, whatever else has it: the walk.
-/
import Derived.Test.YtglkgcpfdhneeaaDoorLSa
namespace Go.Proofs.YtglkgcpfdhneeaaDoor
set_option linter.unusedVariables false
open Go.ChangeShapes Go.WideShapes Go.ChangeAt Go.RowKit

theorem infoDR : (Tryd.prog.info? 51).map (fun i => (i.zero, i.size, i.bytes)) = some (some (.agg #[.int .i64 0, .string ⟨#[]⟩, .int .i64 0, .int .i64 0, .slice none 0 0, .slice none 0 0, .slice none 0 0, .slice none 0 0]), 8, 136) := by kernel_rfl
/-- a slice of no elements behind another one -/
theorem run_append_zero {P : Program} (w : World) (base : Nat) (t ty e : TypeId) (i : TypeInfo) (size : Nat) (ht : P.underlying t = some (.slice e)) (hi : P.info? e = some i)
    (v : Value) (n : Nat) (xs : List Value) (hown : w.ownsRow base e size v n xs) (ad : Option Addr) (c : Nat) :
    (Builtin.append_ #[t, t] ty #[v, .slice ad 0 c]).run P w = .ok v w := by
  rcases hown.2 with ⟨rfl, rfl⟩ | ⟨g, cap, cur, rfl, _, _, hnc, _⟩
  · cases ad <;> simp [Builtin.append_, run_underlying ht, sizeOf, typeInfo, hi, Builtin.lenOf, Builtin.firstCells, loadCells, loadCellsFrom]
  · cases ad <;> simp [Builtin.append_, run_underlying ht, sizeOf, typeInfo, hi, Builtin.lenOf, Builtin.firstCells, hnc, storeCells, loadCells, loadCellsFrom]
/-- declarations behind one that lies alone in a row -/
theorem dc_join {f : Nat} {wx : World} {base g1 : Nat} {S : Nat → Prop} {own : Dc} {ds : List Dc} {kf kv km ki : Value} {ad : Option Addr} {c : Nat} (h : wx.ownsRow base 51 8 (.slice (some ⟨g1, 0, none⟩) 1 1) 1 (drow own kf kv km ki)) (hb0 : base ≤ wx.heap.size)
    (hk0 : Kids f wx S kf kv km ki own) (hH : HeldD (f + 1) wx S (.slice ad ds.length c) ds) (hS : ∀ b, S b → b < base) (hl : ds.length ≤ 100000)
    {ops : Array Oper} {rest : List Oper} {o : Oper} {a : Act} {Q : Exit → Act → World → Prop} (hgd : o.guard = none) (s' x' : Operand)
    (ho : o.op = .call { callee := .builtin .append, args := #[s', x'], argTypes := #[22, 22] }) (hs : a.eval s' = .slice (some ⟨g1, 0, none⟩) 1 1) (hx : a.eval x' = .slice ad ds.length c)
    (hk : ∀ v' W, HeldD (f + 1) W (fun b => b < W.heap.size) v' (own :: ds) → wx.grownBy W (some g1) → wpList Tryd.prog ops Q rest (a.put o.dst v') W) :
    wpList Tryd.prog ops Q (o :: rest) a wx := by
  obtain ⟨i0, hi0, hz0, hz1, hz2⟩ := info_parts infoDR
  have hg1 := own_block h g1 rfl
  by_cases h0 : ds = []
  · subst h0
    refine wpList_plain hgd fun K hK => ?_
    have hrun := run_append_zero (P := Tryd.prog) wx base 22 o.type 51 i0 8 Tryd.underlying22 hi0 _ 1 _ h ad c
    unfold Oper.wp
    simp [execOp, ho, resolve, invoke, builtin, hs, hx, hrun, Result.andThen]
    refine hK _ _ (hk _ wx ⟨_, 1, rfl, Nat.le_refl _, .inr ⟨g1, 0, rfl, hg1.2, fun j d hj => ?_⟩⟩ (World.grownBy.refl _ _))
    have hj0 : j = 0 := by have := (List.getElem?_eq_some_iff.1 hj).1; simp at this; exact this
    subst hj0
    have hd : d = own := by simpa using hj.symm
    subst hd
    refine ⟨kf, kv, km, ki, fun i u hu => ?_, hk0.more fun b hb => by have := hS b hb; omega⟩
    have := World.ownsRow.cells h (g := g1) rfl i u hu
    have hadd : (⟨g1, 0, none⟩ : Addr).add i = ⟨g1, i, none⟩ := by unfold Addr.add; split <;> simp_all
    rw [hadd] at this
    simpa using this
  · obtain ⟨ad', c', hv, hc, h1 | ⟨g, off, had, hg, hrow⟩⟩ := hH
    · exact absurd h1 h0
    obtain ⟨rfl, rfl⟩ : ad = ad' ∧ c = c' := by
      injection hv with e1 _ e3
      exact ⟨e1, e3⟩
    subst had
    obtain ⟨L, hLl, hL⟩ := list_choiceD (P := fun k u => wx.cell? ⟨g, off + k, none⟩ = some u) (ds.length * 8) (fun k hk => by
      obtain ⟨d, hd⟩ : ∃ d, ds[k / 8]? = some d := ⟨_, List.getElem?_eq_getElem (by omega)⟩
      obtain ⟨fs, vs, ms, ins, hcell, _⟩ := hrow (k / 8) d hd
      obtain ⟨u, hu⟩ : ∃ u, (drow d fs vs ms ins)[k % 8]? = some u := ⟨_, List.getElem?_eq_getElem (by show k % 8 < 8; omega)⟩
      refine ⟨u, ?_⟩
      have := hcell (k % 8) u hu
      rw [show k / 8 * 8 + k % 8 = k by omega] at this
      exact this)
    have hone : ∀ u ∈ L, u.oneCell' = true := fun u hu => by
      obtain ⟨k, hk⟩ := List.getElem?_of_mem hu
      have hkl := (List.getElem?_eq_some_iff.1 hk).1
      obtain ⟨d, hd⟩ : ∃ d, ds[k / 8]? = some d := ⟨_, List.getElem?_eq_getElem (by omega)⟩
      obtain ⟨fs, vs, ms, ins, hcell, b1, b2, b3, b4⟩ := hrow (k / 8) d hd
      obtain ⟨_, _, rfl⟩ := b1.isSl
      obtain ⟨_, _, rfl⟩ := b2.isSl
      obtain ⟨_, _, rfl⟩ := b3.isSl
      obtain ⟨_, _, rfl⟩ := b4.isSlD
      have e := hL k u hk
      have hi : k % 8 = 0 ∨ k % 8 = 1 ∨ k % 8 = 2 ∨ k % 8 = 3 ∨ k % 8 = 4 ∨ k % 8 = 5 ∨ k % 8 = 6 ∨ k % 8 = 7 := by omega
      have hke : k / 8 * 8 + k % 8 = k := by omega
      rcases hi with hi | hi | hi | hi | hi | hi | hi | hi
      all_goals
        have := hcell (k % 8) _ (by rw [hi]; rfl)
        rw [hke, e] at this
        rw [Option.some.inj this]
        rfl
    refine wpList_append_own_at _ hgd s' x' 22 ho base 51 i0 _ 8 136 Tryd.underlying22 hi0 hz0 hz1 hz2 rfl (by decide) _ 1 _ hs h ⟨g, off, none⟩ ds.length c L hx hLl ?_ hone (by unfold maxLen; omega) (by omega) hb0 ?_
    · intro j y hy
      have hadd : (⟨g, off, none⟩ : Addr).add j = ⟨g, off + j, none⟩ := by unfold Addr.add; split <;> simp_all
      rw [hadd]
      exact hL j y hy
    · intro v' W hown hgr _ hat
      have hb : ∀ b, S b → W.heap[b]? = wx.heap[b]? := fun b hb => hgr.block b (by have := hS b hb; omega) (fun e => by have e' : b = g1 := Option.some.inj e; have := hS b hb; omega)
      refine hk v' W ?_ hgr
      obtain ⟨hll, ⟨hv0, hn0⟩ | ⟨gg, cap, cur, rfl, hgb, hh, h3, h4, h5, h6⟩⟩ := hown
      · omega
      refine ⟨some ⟨gg, 0, none⟩, cap, by rw [List.length_cons, Nat.add_comm], by rw [List.length_cons]; omega, .inr ⟨gg, 0, rfl, blk_lt hh, fun j d hj => ?_⟩⟩
      have hcell : ∀ k u, (drow own kf kv km ki ++ L)[k]? = some u → W.cell? ⟨gg, 0 + k, none⟩ = some u := fun k u hu => by
        have hkl := (List.getElem?_eq_some_iff.1 hu).1
        rw [hll] at hkl
        rw [← h6, List.getElem?_take, if_pos hkl] at hu
        simp only [World.cell?, hh]
        rw [Nat.zero_add]
        simpa using hu
      cases j with
      | zero =>
        have hd : d = own := by simpa using hj.symm
        subst hd
        refine ⟨kf, kv, km, ki, fun i u hu => ?_, (hk0.old hb).more fun b hb => by have := hS b hb; have := hgr.size; omega⟩
        have hi : i < 8 := (List.getElem?_eq_some_iff.1 hu).1
        rw [show 0 * 8 + i = i by omega]
        exact hcell i u (by rw [List.getElem?_append_left (by show i < 8; exact hi)]; exact hu)
      | succ j =>
        have hj : ds[j]? = some d := by simpa using hj
        obtain ⟨fs, vs, ms, ins, hc1, kd⟩ := hrow j d hj
        have kd : Kids f wx S fs vs ms ins d := kd
        refine ⟨fs, vs, ms, ins, fun i u hu => ?_, (kd.old hb).more fun b hb => by have := hS b hb; have := hgr.size; omega⟩
        have hi : i < 8 := (List.getElem?_eq_some_iff.1 hu).1
        have hjl := (List.getElem?_eq_some_iff.1 hj).1
        refine hcell _ u ?_
        rw [List.getElem?_append_right (by show 8 ≤ _; omega), show (j + 1) * 8 + i - (drow own kf kv km ki).length = j * 8 + i by show (j + 1) * 8 + i - 8 = _; omega]
        obtain ⟨y, hy⟩ : ∃ y, L[j * 8 + i]? = some y := ⟨_, List.getElem?_eq_getElem (by omega)⟩
        have e1 := hL _ y hy
        rw [hc1 i u hu] at e1
        rw [hy, Option.some.inj e1]
/-- more room for depth changes nothing -/
theorem up_all {w : World} {S : Nat → Prop} : ∀ (f : Nat) (ds : List Dc) (v : Value), HeldD f w S v ds → FitD f ds → TxtD f ds → FitD (f + 1) ds ∧ TxtD (f + 1) ds ∧ ctL (f + 1) ds = ctL f ds
  | 0, ds, v, h, _, _ => by
    rw [h.1]
    exact ⟨⟨by simp, fun d hd => (by cases hd)⟩, (fun d hd => (by cases hd)), rfl⟩
  | f + 1, ds, v, h, hf, ht => by
    have key : ∀ d ∈ ds, FitD (f + 1) d.inner ∧ TxtD (f + 1) d.inner ∧ ctL (f + 1) d.inner = ctL f d.inner := fun d hd => by
      obtain ⟨j, hj⟩ := List.getElem?_of_mem hd
      obtain ⟨_, _, _, _, _, _, _, _, _, _, _, _, _, _, _, _, _, _, _, _, _, kd⟩ := decl_at h (W := w) (fun _ _ => rfl) hj
      exact up_all f d.inner _ kd.2.2.2 (hf.2 d hd).2.2.2 (ht d hd).2.2.2.2
    refine ⟨⟨hf.1, fun d hd => ⟨(hf.2 d hd).1, (hf.2 d hd).2.1, (hf.2 d hd).2.2.1, (key d hd).1⟩⟩, fun d hd => ⟨(ht d hd).1, (ht d hd).2.1, (ht d hd).2.2.1, (ht d hd).2.2.2.1, (key d hd).2.1⟩, ?_⟩
    show (ds.map fun d => 1 + d.fields.length + d.values.length + d.methods.length + ctL (f + 1) d.inner).sum = (ds.map fun d => 1 + d.fields.length + d.values.length + d.methods.length + ctL f d.inner).sum
    congr 1
    exact List.map_congr_left fun d hd => by rw [(key d hd).2.2]
/-- the declaration that is laid ahead of all -/
def nrE (nm : List UInt8) : Dc := { kind := 2, name := nm, line := 0, col := 0, fields := [], values := [], methods := [], inner := [] }
def nrO (nm ot : List UInt8) : Dc := { kind := 1, name := ot, line := 0, col := 0, fields := [], values := [], methods := [], inner := [nrE nm] }
theorem plain_len {l : List UInt8} (h : plainL l = true) : l.length ≤ 160 := by
  have := name_size (mkB l) (plainL_name h).1
  rw [mkB_size] at this; exact this
theorem nr_kids {f : Nat} {w : World} {S : Nat → Prop} {nm ot : List UInt8} {b1 : Nat} (h1 : w.heap[b1]? = some (.cells #[.int .i64 2, .string (mkB nm), .int .i64 0, .int .i64 0, .slice none 0 0, .slice none 0 0, .slice none 0 0, .slice none 0 0] 51 (0, 0))) (hS : S b1) :
    Kids (f + 1) w S (.slice none 0 0) (.slice none 0 0) (.slice none 0 0) (.slice (some ⟨b1, 0, none⟩) 1 1) (nrO nm ot) := by
  refine ⟨RowsIn.nil _ _ _ _ _ _, RowsIn.nil _ _ _ _ _ _, RowsIn.nil _ _ _ _ _ _, ?_⟩
  refine ⟨_, 1, rfl, Nat.le_refl _, .inr ⟨b1, 0, rfl, hS, fun j d hj => ?_⟩⟩
  have hj0 : j = 0 := by have := (List.getElem?_eq_some_iff.1 hj).1; simp [nrO] at this; exact this
  subst hj0
  have hd : d = nrE nm := by simpa [nrO] using hj.symm
  subst hd
  refine ⟨.slice none 0 0, .slice none 0 0, .slice none 0 0, .slice none 0 0, fun i u hu => ?_, RowsIn.nil _ _ _ _ _ _, RowsIn.nil _ _ _ _ _ _, RowsIn.nil _ _ _ _ _ _, HeldD.nil _ _ _ _ _⟩
  have hu' : ([.int .i64 2, .string (mkB nm), .int .i64 0, .int .i64 0, .slice none 0 0, .slice none 0 0, .slice none 0 0, .slice none 0 0] : List Value)[i]? = some u := hu
  simp only [World.cell?, h1]
  simpa using hu'
theorem nr_fit {f : Nat} {nm ot : List UInt8} {ds : List Dc} (hn : nm.length ≤ 160) (ho : ot.length ≤ 160) (hl : ds.length ≤ 800) (h1 : FitD (f + 2) ds) (h2 : TxtD (f + 2) ds) : FitD (f + 2) (nrO nm ot :: ds) ∧ TxtD (f + 2) (nrO nm ot :: ds) := by
  refine ⟨⟨by rw [List.length_cons]; omega, fun d hd => ?_⟩, fun d hd => ?_⟩
  · rcases List.mem_cons.1 hd with rfl | hd
    · refine ⟨by simp [nrO], by simp [nrO], by simp [nrO], by simp [nrO], fun d hd => ?_⟩
      have hd : d = nrE nm := by simpa [nrO] using hd
      subst hd
      refine ⟨by simp [nrE], by simp [nrE], by simp [nrE], ?_⟩
      cases f with
      | zero => trivial
      | succ f => exact ⟨by simp [nrE], fun d hd => (by simp [nrE] at hd)⟩
    · exact h1.2 d hd
  · rcases List.mem_cons.1 hd with rfl | hd
    · refine ⟨by show ot.length ≤ _; omega, by intro x hx; simp [nrO] at hx, by intro x hx; simp [nrO] at hx, by intro x hx; simp [nrO] at hx, fun d hd => ?_⟩
      have hd : d = nrE nm := by simpa [nrO] using hd
      subst hd
      refine ⟨by show nm.length ≤ _; omega, by intro x hx; simp [nrE] at hx, by intro x hx; simp [nrE] at hx, by intro x hx; simp [nrE] at hx, ?_⟩
      cases f with
      | zero => trivial
      | succ f => exact fun d hd => (by simp [nrE] at hd)
    · exact h2 d hd
theorem nr_ct (f : Nat) (nm ot : List UInt8) (ds : List Dc) : ctL (f + 2) (nrO nm ot :: ds) = 2 + ctL (f + 2) ds := by
  rw [ctL_cons]
  unfold ctD
  have : ctL (f + 1) (nrO nm ot).inner = 1 := by
    show ctL (f + 1) [nrE nm] = 1
    rw [ctL_cons]
    unfold ctD
    have : ctL f (nrE nm).inner = 0 := by cases f <;> rfl
    rw [this]
    rfl
  rw [this]
  rfl
theorem len_ct : ∀ (f : Nat) (ds : List Dc), ds.length ≤ ctL (f + 1) ds
  | f, [] => by simp
  | f, d :: t => by
    have := len_ct f t
    rw [ctL_cons, List.length_cons]
    unfold ctD
    omega
set_option maxHeartbeats 16000000 in
set_option maxRecDepth 20000 in
theorem scopeNearest_any (v : Value) (f : Nat) (ds : List Dc) (nm ot : List UInt8) (w : World) (hT : Tabs w) (hH : HeldD (f + 1) w (fun b => b < w.heap.size) v ds) (hF : FitW (f + 1) ds) (hn : nm.length ≤ 100000000) (ho : ot.length ≤ 100000000) :
    Calls Tryd.prog 6 #[v, .string (mkB nm), .string (mkB ot)] w fun e w' => e = .returned (.bool true) ∧ Below w.heap.size w w' := by
  obtain ⟨va, vc, rfl⟩ := hH.isSlD
  have HH := Lib.hid hH
  have HF := Lib.hid hF
  have HTB := Lib.hid hT
  have HAW : Hid (∀ W : World, Below w.heap.size w W → Calls Tryd.prog 7 #[] W fun e w' => e = .returned (.bool true) ∧ Below w.heap.size w w') := fun W hW => (awake7_any W).mono fun e w' h => ⟨h.1, hW.trans (h.2.mono hW.size)⟩
  clear hH hF hT
  go_enter Tryd.func6, Tryd.ntmps6
  go_wp2_with fail
  refine (HAW.out w (Below.refl _ _)).mono ?_
  rintro e W1 ⟨rfl, hb1⟩
  have HB1 := Lib.hid hb1
  clear hb1
  go_wp2_with fail
  refine (smallY_any (f + 1) ds (.slice va ds.length vc) W1 HF.out (held_to HH.out HB1.out)).mono ?_
  rintro e W2 ⟨⟨b, rfl, hb⟩, hb2⟩
  have HB2 := Lib.hid (HB1.out.trans (hb2.mono HB1.out.size))
  have HSM := Lib.hid hb
  clear hb hb2
  cases b with
  | false =>
    go_wp2_with fail
    refine (HAW.out W2 HB2.out).mono ?_
    rintro e W3 ⟨rfl, hb3⟩
    have HB3 := Lib.hid hb3
    clear hb3
    go_wp2_with fail
    go_ret
    exact ⟨rfl, HB3.out⟩
  | true =>
  obtain ⟨hfit, htxt, hct⟩ := HSM.out rfl
  have HFT := Lib.hid hfit
  have HTX := Lib.hid htxt
  have HCT := Lib.hid hct
  clear hfit htxt hct
  have hP1 := plainQ_any nm W2 (tabs_below HTB.out HB2.out) (by omega)
  obtain ⟨p1, hp1⟩ : ∃ b, plainL nm = b := ⟨_, rfl⟩
  rw [hp1] at hP1
  have HP1 := Lib.hid hp1
  clear hp1
  go_wp2_with fail
  refine hP1.mono ?_
  rintro e W3 ⟨rfl, hb3⟩
  have HB3 := Lib.hid (HB2.out.trans (hb3.mono HB2.out.size))
  clear hb3 hP1
  cases p1 with
  | false =>
    go_wp2_with fail
    refine (HAW.out W3 HB3.out).mono ?_
    rintro e W4 ⟨rfl, hb4⟩
    have HB4 := Lib.hid hb4
    clear hb4
    go_wp2_with fail
    go_ret
    exact ⟨rfl, HB4.out⟩
  | true =>
  have hP2 := plainQ_any ot W3 (tabs_below HTB.out HB3.out) (by omega)
  obtain ⟨p2, hp2⟩ : ∃ b, plainL ot = b := ⟨_, rfl⟩
  rw [hp2] at hP2
  have HP2 := Lib.hid hp2
  clear hp2
  go_wp2_with fail
  refine hP2.mono ?_
  rintro e W4 ⟨rfl, hb4⟩
  have HB4 := Lib.hid (HB3.out.trans (hb4.mono HB3.out.size))
  clear hb4 hP2
  cases p2 with
  | false =>
    go_wp2_with fail
    refine (HAW.out W4 HB4.out).mono ?_
    rintro e W5 ⟨rfl, hb5⟩
    have HB5 := Lib.hid hb5
    clear hb5
    go_wp2_with fail
    go_ret
    exact ⟨rfl, HB5.out⟩
  | true =>
  by_cases he : nm = ot
  · subst he
    go_wp2_with fail
    refine (HAW.out W4 HB4.out).mono ?_
    rintro e W5 ⟨rfl, hb5⟩
    have HB5 := Lib.hid hb5
    clear hb5
    go_wp2_with fail
    go_ret
    exact ⟨rfl, HB5.out⟩
  have t' := mkB_beqS he
  have t'' := beq_eq_false_iff_ne.2 he
  have hl1 := plain_len HP1.out
  have hl2 := plain_len HP2.out
  have HUP := Lib.hid (up_all (f + 1) ds _ HH.out HFT.out HTX.out)
  have hds : ds.length ≤ 800 := Nat.le_trans (len_ct f ds) HCT.out
  have HNF := Lib.hid (nr_fit (f := f) (nm := nm) (ot := ot) hl1 hl2 hds HUP.out.1 HUP.out.2.1)
  have HNC : Hid (ctL (f + 2) (nrO nm ot :: ds) ≤ 100000) := by
    refine (?_ : ctL (f + 2) (nrO nm ot :: ds) ≤ 100000)
    rw [nr_ct]
    have h1 := HUP.out.2.2
    have h2 := HCT.out
    have h1 : ctL (f + 2) ds = ctL (f + 1) ds := h1
    omega
  have HFI : Hid (findP (f + 2) (nrO nm ot :: ds) ot nm = some (ot ++ 46 :: nm, 2)) := nearestP f (nrO nm ot) (nrE nm) ds rfl rfl (.inr rfl) HP1.out HP2.out
  have hV0 : ((W4.alloc (.cells #[.int .i64 2, .string (mkB nm), .int .i64 0, .int .i64 0, .slice none 0 0, .slice none 0 0, .slice none 0 0, .slice none 0 0] 51)).alloc (.cells #[.int .i64 1, .string (mkB ot), .int .i64 0, .int .i64 0, .slice none 0 0, .slice none 0 0, .slice none 0 0, .slice (some ⟨W4.heap.size, 0, none⟩) 1 1] 51)).heap[W4.heap.size]? = some (.cells #[.int .i64 2, .string (mkB nm), .int .i64 0, .int .i64 0, .slice none 0 0, .slice none 0 0, .slice none 0 0, .slice none 0 0] 51 (0, 0)) := by rw [alloc_heap_old _ _ _ (by simp)]; exact alloc_heap_new _ _
  have hV1 : ((W4.alloc (.cells #[.int .i64 2, .string (mkB nm), .int .i64 0, .int .i64 0, .slice none 0 0, .slice none 0 0, .slice none 0 0, .slice none 0 0] 51)).alloc (.cells #[.int .i64 1, .string (mkB ot), .int .i64 0, .int .i64 0, .slice none 0 0, .slice none 0 0, .slice none 0 0, .slice (some ⟨W4.heap.size, 0, none⟩) 1 1] 51)).heap[W4.heap.size + 1]? = some (.cells #[.int .i64 1, .string (mkB ot), .int .i64 0, .int .i64 0, .slice none 0 0, .slice none 0 0, .slice none 0 0, .slice (some ⟨W4.heap.size, 0, none⟩) 1 1] 51 (0, 0)) := by
    have := alloc_heap_new (W4.alloc (.cells #[.int .i64 2, .string (mkB nm), .int .i64 0, .int .i64 0, .slice none 0 0, .slice none 0 0, .slice none 0 0, .slice none 0 0] 51)) (.cells #[.int .i64 1, .string (mkB ot), .int .i64 0, .int .i64 0, .slice none 0 0, .slice none 0 0, .slice none 0 0, .slice (some ⟨W4.heap.size, 0, none⟩) 1 1] 51)
    simpa using this
  have hVb : Below w.heap.size w ((W4.alloc (.cells #[.int .i64 2, .string (mkB nm), .int .i64 0, .int .i64 0, .slice none 0 0, .slice none 0 0, .slice none 0 0, .slice none 0 0] 51)).alloc (.cells #[.int .i64 1, .string (mkB ot), .int .i64 0, .int .i64 0, .slice none 0 0, .slice none 0 0, .slice none 0 0, .slice (some ⟨W4.heap.size, 0, none⟩) 1 1] 51)) := (HB4.out.alloc HB4.out.size _).alloc (by have := HB4.out.size; simp; omega) _
  go_upto_region 4 with fail
  generalize ((W4.alloc (.cells #[.int .i64 2, .string (mkB nm), .int .i64 0, .int .i64 0, .slice none 0 0, .slice none 0 0, .slice none 0 0, .slice none 0 0] 51)).alloc (.cells #[.int .i64 1, .string (mkB ot), .int .i64 0, .int .i64 0, .slice none 0 0, .slice none 0 0, .slice none 0 0, .slice (some ⟨W4.heap.size, 0, none⟩) 1 1] 51)) = V at *
  have k0 : V.cell? ⟨W4.heap.size + 1, 0, none⟩ = some (.int .i64 1) := by simp [World.cell?, hV1]
  have k1 : V.cell? ⟨W4.heap.size + 1, 1, none⟩ = some (.string (mkB ot)) := by simp [World.cell?, hV1]
  have k2 : V.cell? ⟨W4.heap.size + 1, 2, none⟩ = some (.int .i64 0) := by simp [World.cell?, hV1]
  have k3 : V.cell? ⟨W4.heap.size + 1, 3, none⟩ = some (.int .i64 0) := by simp [World.cell?, hV1]
  have k4 : V.cell? ⟨W4.heap.size + 1, 4, none⟩ = some (.slice none 0 0) := by simp [World.cell?, hV1]
  have k5 : V.cell? ⟨W4.heap.size + 1, 5, none⟩ = some (.slice none 0 0) := by simp [World.cell?, hV1]
  have k6 : V.cell? ⟨W4.heap.size + 1, 6, none⟩ = some (.slice none 0 0) := by simp [World.cell?, hV1]
  have k7 : V.cell? ⟨W4.heap.size + 1, 7, none⟩ = some (.slice (some ⟨W4.heap.size, 0, none⟩) 1 1) := by simp [World.cell?, hV1]
  have hlV := blk_lt hV0
  have HVb := Lib.hid hVb
  have HX0 : Hid ((V.alloc (.cells #[.int .i64 1, .string (mkB ot), .int .i64 0, .int .i64 0, .slice none 0 0, .slice none 0 0, .slice none 0 0, .slice (some ⟨W4.heap.size, 0, none⟩) 1 1] 51)).heap[W4.heap.size]? = some (.cells #[.int .i64 2, .string (mkB nm), .int .i64 0, .int .i64 0, .slice none 0 0, .slice none 0 0, .slice none 0 0, .slice none 0 0] 51 (0, 0))) := by
    refine (?_ : _ = _)
    rw [alloc_heap_old _ _ _ hlV]; exact hV0
  have HOW : Hid ((V.alloc (.cells #[.int .i64 1, .string (mkB ot), .int .i64 0, .int .i64 0, .slice none 0 0, .slice none 0 0, .slice none 0 0, .slice (some ⟨W4.heap.size, 0, none⟩) 1 1] 51)).ownsRow V.heap.size 51 8 (.slice (some ⟨V.heap.size, 0, none⟩) 1 1) 1 (drow (nrO nm ot) (.slice none 0 0) (.slice none 0 0) (.slice none 0 0) (.slice (some ⟨W4.heap.size, 0, none⟩) 1 1))) := ⟨rfl, .inr ⟨V.heap.size, 1, #[.int .i64 1, .string (mkB ot), .int .i64 0, .int .i64 0, .slice none 0 0, .slice none 0 0, .slice none 0 0, .slice (some ⟨W4.heap.size, 0, none⟩) 1 1], rfl, Nat.le_refl _, alloc_heap_new _ _, Nat.le_refl _, by unfold maxLen; omega, rfl, rfl⟩⟩
  have HKD : Hid (Kids (f + 1) (V.alloc (.cells #[.int .i64 1, .string (mkB ot), .int .i64 0, .int .i64 0, .slice none 0 0, .slice none 0 0, .slice none 0 0, .slice (some ⟨W4.heap.size, 0, none⟩) 1 1] 51)) (fun b => b < V.heap.size) (.slice none 0 0) (.slice none 0 0) (.slice none 0 0) (.slice (some ⟨W4.heap.size, 0, none⟩) 1 1) (nrO nm ot)) := nr_kids HX0.out hlV
  have HBA : Hid (Below w.heap.size w (V.alloc (.cells #[.int .i64 1, .string (mkB ot), .int .i64 0, .int .i64 0, .slice none 0 0, .slice none 0 0, .slice none 0 0, .slice (some ⟨W4.heap.size, 0, none⟩) 1 1] 51))) := HVb.out.alloc HVb.out.size _
  have HHA : Hid (HeldD (f + 2) (V.alloc (.cells #[.int .i64 1, .string (mkB ot), .int .i64 0, .int .i64 0, .slice none 0 0, .slice none 0 0, .slice none 0 0, .slice (some ⟨W4.heap.size, 0, none⟩) 1 1] 51)) (fun b => b < V.heap.size) (.slice va ds.length vc) ds) := (HeldD.old (fun b hb => HBA.out.block b hb) (HH.out.more (S' := fun b => b < w.heap.size) fun b hb => hb)).up.more fun b hb => Nat.lt_of_lt_of_le hb HVb.out.size
  clear hV0 hV1 hVb t' t''
  go_wp2_with (at_builtin; refine dc_join (f := f + 1) HOW.out (by simp) HKD.out HHA.out (fun b hb => hb) (by omega) rfl _ _ rfl rfl rfl ?_)
  intro v5 W5 hH5 hgr5
  have HB5 : Hid (Below w.heap.size w W5) := HBA.out.grown hgr5 HBA.out.size (fun b hb => by cases hb; exact HVb.out.size)
  have HH5 := Lib.hid hH5
  obtain ⟨qa, qc, hqv⟩ := hH5.isSlD
  subst hqv
  clear hH5 hgr5 k0 k1 k2 k3 k4 k5 k6 k7
  have hTh := theirs_any (f + 2) (nrO nm ot :: ds) _ W5 HNF.out.1 HH5.out
  obtain ⟨m, hm⟩ : ∃ m, (nrO nm ot :: ds).length = m := ⟨_, rfl⟩
  have HM := Lib.hid hm
  rw [hm] at hTh ⊢
  clear hm
  go_wp2_with fail
  refine hTh.mono ?_
  rintro e W6 ⟨ta, tc, rfl, hH6, hb6⟩
  rw [HM.out] at hH6 ⊢
  have HB6 := Lib.hid (HB5.out.trans (hb6.mono HB5.out.size))
  have hFi := find_any (f + 1) (nrO nm ot :: ds) (.slice ta m tc) ot nm (fun b => b < W6.heap.size) W6 HNC.out HNF.out.1 HNF.out.2 (by omega) (by omega) (hH6.more fun b hb => hb.2) (fun b hb => hb)
  rw [HFI.out] at hFi
  obtain ⟨M, hMM⟩ : ∃ M, ot ++ 46 :: nm = M := ⟨_, rfl⟩
  rw [hMM] at hFi
  have HFJ : Hid (Calls Tryd.prog 12 #[.slice ta m tc, .string (mkB ot), .string (mkB nm)] W6 fun e w' => e = .returned (.tuple #[.agg #[.string (mkB M), .int .i64 2], .bool true]) ∧ Below W6.heap.size W6 w') := hFi.mono fun e w' ⟨h1, h2⟩ => by
    rcases h1 with ⟨y, h3, h4⟩ | ⟨h3, _⟩
    · cases h3; exact ⟨h4, h2⟩
    · cases h3
  have s1 := sumS (mkB ot) ⟨#[46]⟩ 160 (by rw [mkB_size]; exact hl2) (by show _ + 1 ≤ _; omega)
  have e1 : mkB ot ++ ⟨#[46]⟩ = mkB (ot ++ [46]) := (mkB_cat ot [46]).symm
  rw [e1] at s1
  have s2 := sumS (mkB (ot ++ [46])) (mkB nm) 161 (by rw [mkB_size]; simp; omega) (by rw [mkB_size]; omega)
  rw [← mkB_cat] at s2
  have e2 : ot ++ [46] ++ nm = M := by rw [← hMM]; simp
  rw [e2] at s2
  obtain ⟨M1, hM1⟩ : ∃ x, ot ++ [46] = x := ⟨_, rfl⟩
  rw [hM1] at s1 s2
  clear hTh hH6 hb6 hFi e1 e2 hM1 hMM
  go_wp2_with fail
  refine HFJ.out.mono ?_
  rintro e W7 ⟨rfl, hb7⟩
  have HB7 := Lib.hid (HB6.out.trans (hb7.mono HB6.out.size))
  have hY : (W7.alloc (.cells #[.string (mkB M), .int .i64 2] 33)).heap[W7.heap.size]? = some (.cells #[.string (mkB M), .int .i64 2] 33 (0, 0)) := alloc_heap_new _ _
  have hYb : Below w.heap.size w (W7.alloc (.cells #[.string (mkB M), .int .i64 2] 33)) := HB7.out.alloc HB7.out.size _
  clear hb7
  go_upto_region 6 with fail
  generalize (W7.alloc (.cells #[.string (mkB M), .int .i64 2] 33)) = Y at *
  have y0 : Y.cell? ⟨W7.heap.size, 0, none⟩ = some (.string (mkB M)) := by simp [World.cell?, hY]
  have y1 : Y.cell? ⟨W7.heap.size, 1, none⟩ = some (.int .i64 2) := by simp [World.cell?, hY]
  have HY := Lib.hid hYb
  clear hY hYb
  go_wp2_with fail
  go_ret
  exact ⟨rfl, HY.out⟩
end Go.Proofs.YtglkgcpfdhneeaaDoor
