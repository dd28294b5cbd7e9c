/-
  The walks over the program's fitsKind, fitsField and fitsMessage.
  The walk over the program's fitsField.
-/
import Derived.Test.YteajlfgbmefncaaGreatDoorM19
import Derived.Test.YteajlfgbmefncaaGreatDoorM9
import Derived.Test.YteajlfgbmefncaaGreatDoorM11
namespace Go.Proofs.YteajlfgbmefncaaGreatDoor
set_option linter.unusedVariables false
open Go.ChangeShapes Go.WideShapes Go.ChangeAt Go.RowKit

theorem valid_at (l : List UInt8) (w : World) (hl : l.length ≤ 1000000) (hT : Tabs w) : Calls Tryz.prog 108 #[.string (mkB l)] w fun e w' => e = .returned (.bool (valB l)) ∧ Below w.heap.size w w' := by
  have h := utf8_ValidString (mkB l) w (by rw [mkB_size]; omega) hT
  have hd : (mkB l).data.toList = l := by simp [mkB]
  rw [hd] at h
  exact h
set_option maxHeartbeats 16000000 in
set_option maxRecDepth 20000 in
theorem kindP_any (ma ea ta : Option Addr) (nm ne nt mc ec tc : Nat) (rec : Int → Nd → Bool) (x : FD) (dep : Int) (v : Value) (y : Nd) (w : World) (hT : Tabs w) (hdep : 0 ≤ dep ∧ dep ≤ 1000) (hs : y.s.length ≤ 100000) (hV : ∃ fs, v = ival y fs)
    (hrec : x.kind = 10 → ∀ W, Below w.heap.size w W → Calls Tryz.prog 56 #[.agg #[.slice ma nm mc, .slice ea ne ec, .slice ta nt tc], .int .i64 x.type, v, .int .i64 (dep + 1)] W fun e w' => e = .returned (.bool (rec x.type y)) ∧ Below W.heap.size W w') :
    Calls Tryz.prog 107 #[.agg #[.slice ma nm mc, .slice ea ne ec, .slice ta nt tc], .agg #[.int .i64 x.num, .string (mkB x.name), .int .i64 x.kind, .bool x.rep, .int .i64 x.type], v, .int .i64 dep] w fun e w' => e = .returned (.bool (valP rec x y)) ∧ Below w.heap.size w w' := by
  obtain ⟨num, name, kind, rep, type⟩ := x
  dsimp only at hrec ⊢
  obtain ⟨R, hR⟩ : ∃ R, valP rec ⟨num, name, kind, rep, type⟩ y = R := ⟨_, rfl⟩
  have HR : Hid ((if kind = 10 then rec type y else kindB kind y) = R) := hR
  rw [hR]
  clear hR
  obtain ⟨fs, rfl⟩ := hV
  have t1 := fun W => taInt y fs W
  have t2 := fun W => taUint y fs W
  have t3 := fun W => taBool y fs W
  have t4 := fun W => taText y fs W
  have t5 := fun W => taBytes y fs W
  have t6 := fun W => taEnum y fs W
  generalize ival y fs = v at *
  obtain ⟨Y, hY, hC, hb, hYs⟩ := box_new w #[.slice ma nm mc, .slice ea ne ec, .slice ta nt tc] 26
  obtain ⟨V, hV, hD, hVb, hVs⟩ := box_new Y #[.int .i64 num, .string (mkB name), .int .i64 kind, .bool rep, .int .i64 type] 51
  have HY := Lib.hid hY
  have HV := Lib.hid hV
  rw [hYs] at hD
  have hCV := (hVb.block _ (by omega)).trans hC
  have hBV := hb.trans (hVb.mono hb.size)
  have HBV := Lib.hid hBV
  have c2 : V.cell? ⟨w.heap.size + 1, 2, none⟩ = some (.int .i64 kind) := cell_at hD 2 rfl
  by_cases h1 : kind = 1
  · subst h1
    have e : R = decide (y.kind = 1) := by rw [← HR.out, if_neg (by decide)]; simp [kindB]
    subst e
    have t1' : ∃ z, ∀ W, (Instr.typeAssert v 31 68 true).run Tryz.prog W = .ok (.tuple #[z, .bool (decide (y.kind = 1))]) W := ⟨_, t1⟩
    clear t1
    obtain ⟨z, t1⟩ := t1'
    generalize decide (y.kind = 1) = b at t1 ⊢
    clear hrec HR t2 t3 t4 t5 t6 hC hD hY hb hYs hV hVb hVs hCV hBV
    go_enter Tryz.func107, Tryz.ntmps107
    go_upto_region 1 with fail
    rw [HY.out, HV.out]
    go_wp2_with fail
    go_ret
    exact ⟨rfl, HBV.out⟩
  by_cases h3 : kind = 3
  · subst h3
    have e : R = decide (y.kind = 1) := by rw [← HR.out, if_neg (by decide)]; simp [kindB]
    subst e
    have t1' : ∃ z, ∀ W, (Instr.typeAssert v 31 68 true).run Tryz.prog W = .ok (.tuple #[z, .bool (decide (y.kind = 1))]) W := ⟨_, t1⟩
    clear t1
    obtain ⟨z, t1⟩ := t1'
    generalize decide (y.kind = 1) = b at t1 ⊢
    clear hrec HR t2 t3 t4 t5 t6 hC hD hY hb hYs hV hVb hVs hCV hBV
    go_enter Tryz.func107, Tryz.ntmps107
    go_upto_region 1 with fail
    rw [HY.out, HV.out]
    go_wp2_with fail
    go_ret
    exact ⟨rfl, HBV.out⟩
  by_cases h2 : kind = 2
  · subst h2
    have e : R = decide (y.kind = 2) := by rw [← HR.out, if_neg (by decide)]; simp [kindB]
    subst e
    have t2' : ∃ z, ∀ W, (Instr.typeAssert v 31 69 true).run Tryz.prog W = .ok (.tuple #[z, .bool (decide (y.kind = 2))]) W := ⟨_, t2⟩
    clear t2
    obtain ⟨z, t2⟩ := t2'
    generalize decide (y.kind = 2) = b at t2 ⊢
    clear hrec HR t1 t3 t4 t5 t6 hC hD hY hb hYs hV hVb hVs hCV hBV
    go_enter Tryz.func107, Tryz.ntmps107
    go_upto_region 1 with fail
    rw [HY.out, HV.out]
    go_wp2_with fail
    go_ret
    exact ⟨rfl, HBV.out⟩
  by_cases h8 : kind = 8
  · subst h8
    have e : R = decide (y.kind = 2) := by rw [← HR.out, if_neg (by decide)]; simp [kindB]
    subst e
    have t2' : ∃ z, ∀ W, (Instr.typeAssert v 31 69 true).run Tryz.prog W = .ok (.tuple #[z, .bool (decide (y.kind = 2))]) W := ⟨_, t2⟩
    clear t2
    obtain ⟨z, t2⟩ := t2'
    generalize decide (y.kind = 2) = b at t2 ⊢
    clear hrec HR t1 t3 t4 t5 t6 hC hD hY hb hYs hV hVb hVs hCV hBV
    go_enter Tryz.func107, Tryz.ntmps107
    go_upto_region 1 with fail
    rw [HY.out, HV.out]
    go_wp2_with fail
    go_ret
    exact ⟨rfl, HBV.out⟩
  by_cases h4 : kind = 4
  · subst h4
    have e : R = decide (y.kind = 3) := by rw [← HR.out, if_neg (by decide)]; simp [kindB]
    subst e
    have t3' : ∃ z, ∀ W, (Instr.typeAssert v 31 70 true).run Tryz.prog W = .ok (.tuple #[z, .bool (decide (y.kind = 3))]) W := ⟨_, t3⟩
    clear t3
    obtain ⟨z, t3⟩ := t3'
    generalize decide (y.kind = 3) = b at t3 ⊢
    clear hrec HR t1 t2 t4 t5 t6 hC hD hY hb hYs hV hVb hVs hCV hBV
    go_enter Tryz.func107, Tryz.ntmps107
    go_upto_region 1 with fail
    rw [HY.out, HV.out]
    go_wp2_with fail
    go_ret
    exact ⟨rfl, HBV.out⟩
  by_cases h6 : kind = 6
  · subst h6
    have e : R = decide (y.kind = 5) := by rw [← HR.out, if_neg (by decide)]; simp [kindB]
    subst e
    have t5' : ∃ z, ∀ W, (Instr.typeAssert v 31 72 true).run Tryz.prog W = .ok (.tuple #[z, .bool (decide (y.kind = 5))]) W := ⟨_, t5⟩
    clear t5
    obtain ⟨z, t5⟩ := t5'
    generalize decide (y.kind = 5) = b at t5 ⊢
    clear hrec HR t1 t2 t3 t4 t6 hC hD hY hb hYs hV hVb hVs hCV hBV
    go_enter Tryz.func107, Tryz.ntmps107
    go_upto_region 1 with fail
    rw [HY.out, HV.out]
    go_wp2_with fail
    go_ret
    exact ⟨rfl, HBV.out⟩
  by_cases h9 : kind = 9
  · subst h9
    have e : R = decide (y.kind = 6) := by rw [← HR.out, if_neg (by decide)]; simp [kindB]
    subst e
    have t6' : ∃ z, ∀ W, (Instr.typeAssert v 31 73 true).run Tryz.prog W = .ok (.tuple #[z, .bool (decide (y.kind = 6))]) W := ⟨_, t6⟩
    clear t6
    obtain ⟨z, t6⟩ := t6'
    generalize decide (y.kind = 6) = b at t6 ⊢
    clear hrec HR t1 t2 t3 t4 t5 hC hD hY hb hYs hV hVb hVs hCV hBV
    go_enter Tryz.func107, Tryz.ntmps107
    go_upto_region 1 with fail
    rw [HY.out, HV.out]
    go_wp2_with fail
    go_ret
    exact ⟨rfl, HBV.out⟩
  by_cases h7 : kind = 7
  · subst h7
    by_cases hk : y.kind = 2
    · have e : R = decide (y.u < 4294967296) := by rw [← HR.out, if_neg (by decide)]; simp [kindB, hk]
      rw [e]
      rw [if_pos hk, decide_eq_true hk] at t2
      clear hrec HR t1 t3 t4 t5 t6 hC hD hY hb hYs hV hVb hVs hCV hBV e hk
      generalize y.u = u at *
      go_enter Tryz.func107, Tryz.ntmps107
      go_upto_region 1 with fail
      rw [HY.out, HV.out]
      go_wp2_with fail
      go_ret
      exact ⟨rfl, HBV.out⟩
    · have e : R = false := by rw [← HR.out, if_neg (by decide)]; simp [kindB, hk]
      subst e
      rw [if_neg hk, decide_eq_false hk] at t2
      clear hrec HR t1 t3 t4 t5 t6 hC hD hY hb hYs hV hVb hVs hCV hBV hk
      go_enter Tryz.func107, Tryz.ntmps107
      go_upto_region 1 with fail
      rw [HY.out, HV.out]
      go_wp2_with fail
      go_ret
      exact ⟨rfl, HBV.out⟩
  by_cases h5 : kind = 5
  · subst h5
    by_cases hk : y.kind = 4
    · have e : R = valB y.s := by rw [← HR.out, if_neg (by decide)]; simp [kindB, hk]
      rw [e]
      rw [if_pos hk, decide_eq_true hk] at t4
      have hva := valid_at y.s V (by omega) (tabs_below hT hBV)
      clear hrec HR t1 t2 t3 t5 t6 hC hD hY hb hYs hV hVb hVs hCV hBV e hk
      generalize valB y.s = B at *
      go_enter Tryz.func107, Tryz.ntmps107
      go_upto_region 1 with fail
      rw [HY.out, HV.out]
      go_wp2_with fail
      refine hva.mono ?_
      rintro e W ⟨rfl, hbW⟩
      have HBW := Lib.hid (HBV.out.trans (hbW.mono HBV.out.size))
      clear hbW hva
      go_wp2_with fail
      go_ret
      exact ⟨rfl, HBW.out⟩
    · have e : R = false := by rw [← HR.out, if_neg (by decide)]; simp [kindB, hk]
      subst e
      rw [if_neg hk, decide_eq_false hk] at t4
      clear hrec HR t1 t2 t3 t5 t6 hC hD hY hb hYs hV hVb hVs hCV hBV hk
      go_enter Tryz.func107, Tryz.ntmps107
      go_upto_region 1 with fail
      rw [HY.out, HV.out]
      go_wp2_with fail
      go_ret
      exact ⟨rfl, HBV.out⟩
  by_cases h10 : kind = 10
  · subst h10
    have e : R = rec type y := by rw [← HR.out, if_pos rfl]
    rw [e]
    have h := hrec rfl V hBV
    have s0 : V.cell? ⟨w.heap.size, 0, none⟩ = some (.slice ma nm mc) := cell_at hCV 0 rfl
    have s1 : V.cell? ⟨w.heap.size, 1, none⟩ = some (.slice ea ne ec) := cell_at hCV 1 rfl
    have s2 : V.cell? ⟨w.heap.size, 2, none⟩ = some (.slice ta nt tc) := cell_at hCV 2 rfl
    have c4 : V.cell? ⟨w.heap.size + 1, 4, none⟩ = some (.int .i64 type) := cell_at hD 4 rfl
    have hw1 : IntKind.i64.wrap (dep + 1) = dep + 1 := by rw [IntKind.wrap_i64]; omega
    clear hrec HR t1 t2 t3 t4 t5 t6 hC hD hY hb hYs hV hVb hVs hCV hBV e
    generalize rec type y = B at *
    go_enter Tryz.func107, Tryz.ntmps107
    go_upto_region 1 with fail
    rw [HY.out, HV.out]
    go_wp2_with fail
    refine h.mono ?_
    rintro e W ⟨rfl, hbW⟩
    have HBW := Lib.hid (HBV.out.trans (hbW.mono HBV.out.size))
    clear hbW h
    go_wp2_with fail
    go_ret
    exact ⟨rfl, HBW.out⟩
  have e : R = false := by
    rw [← HR.out, if_neg h10]; unfold kindB
    rw [if_neg (by omega), if_neg (by omega), if_neg h7, if_neg h4, if_neg h5, if_neg h6, if_neg h9]
  subst e
  clear hrec HR t1 t2 t3 t4 t5 t6 hC hD hY hb hYs hV hVb hVs hCV hBV
  go_enter Tryz.func107, Tryz.ntmps107
  go_upto_region 1 with fail
  rw [HY.out, HV.out]
  go_wp2_with fail
  go_ret
  exact ⟨rfl, HBV.out⟩
end Go.Proofs.YteajlfgbmefncaaGreatDoor
namespace Go.Proofs.YteajlfgbmefncaaGreatDoor
set_option linter.unusedVariables false
open Go.ChangeShapes Go.WideShapes Go.ChangeAt Go.RowKit

set_option maxHeartbeats 16000000 in
set_option maxRecDepth 20000 in
theorem fldP_any (ma ea ta : Option Addr) (nm ne nt mc ec tc : Nat) (nn : List UInt8) (fa : Option Addr) (n fc : Nat) (fs : List FD) (num : Int) (va : Option Addr) (m vc : Nat) (ys : List Nd) (rec : Int → Nd → Bool) (f : Nat) (dep : Int) (w : World) (hT : Tabs w) (hdep : 0 ≤ dep ∧ dep ≤ 1000)
    (hn : fs.length = n) (hl : n ≤ 100000) (hH : RowsIn w (fun b => b < w.heap.size) 5 fdrow (.slice fa n fc) fs) (hm : ys.length = m) (hml : m ≤ 100000) (hV : ValsG valS w (fun b => b < w.heap.size) f (.slice va m vc) ys) (hs : ∀ y ∈ ys, y.s.length ≤ 100000)
    (hrec : ∀ (x : FD) (v : Value) (y : Nd) (W : World), x ∈ fs → x.kind = 10 → y ∈ ys → Below w.heap.size w W → HeldV W (fun b => b < W.heap.size) f v y → Calls Tryz.prog 56 #[.agg #[.slice ma nm mc, .slice ea ne ec, .slice ta nt tc], .int .i64 x.type, v, .int .i64 (dep + 1)] W fun e w' => e = .returned (.bool (rec x.type y)) ∧ Below W.heap.size W w') :
    Calls Tryz.prog 85 #[.agg #[.slice ma nm mc, .slice ea ne ec, .slice ta nt tc], .agg #[.string (mkB nn), .slice fa n fc], .agg #[.int .i64 num, .slice va m vc], .int .i64 dep] w fun e w' => e = .returned (.bool (fldP rec fs (num, ys))) ∧ Below w.heap.size w w' := by
  obtain ⟨R, hR⟩ : ∃ R, fldP rec fs (num, ys) = R := ⟨_, rfl⟩
  have HR := Lib.hid hR
  rw [hR]
  clear hR
  obtain ⟨Y, hY, hC, hb, hYs⟩ := box_new w #[.slice ma nm mc, .slice ea ne ec, .slice ta nt tc] 26
  obtain ⟨U, hU, hE, hUb, hUs⟩ := box_new Y #[.string (mkB nn), .slice fa n fc] 54
  obtain ⟨V, hV', hD, hVb, hVs⟩ := box_new U #[.int .i64 num, .slice va m vc] 79
  have HY := Lib.hid hY
  have HU := Lib.hid hU
  have HV := Lib.hid hV'
  rw [hUs, hYs] at hD
  rw [hYs] at hE
  have hE2 := (hVb.block _ (by omega)).trans hE
  have hC2 := (hVb.block _ (by omega)).trans ((hUb.block _ (by omega)).trans hC)
  have hBV := hb.trans ((hUb.trans (hVb.mono hUb.size)).mono hb.size)
  have HBV := Lib.hid hBV
  have HC2 := Lib.hid hC2
  have HD2 := Lib.hid hD
  have d0 : V.cell? ⟨w.heap.size + 1, 0, none⟩ = some (.string (mkB nn)) := cell_at hE2 0 rfl
  have d1 : V.cell? ⟨w.heap.size + 1, 1, none⟩ = some (.slice fa n fc) := cell_at hE2 1 rfl
  have f0 : V.cell? ⟨w.heap.size + 2, 0, none⟩ = some (.int .i64 num) := cell_at hD 0 rfl
  have h := defined_any nn fa n fc fs num V hn hl ((RowsIn.old hH fun b h => hBV.block b h).more fun b h => by have := hBV.size; omega)
  have HREC := Lib.hid hrec
  have HVL := Lib.hid hV
  have HS := Lib.hid hs
  have HM := Lib.hid hm
  have HT := Lib.hid hT
  have hVl : w.heap.size + 3 ≤ V.heap.size := by omega
  clear hn hl hH hm hV hs hrec hC hY hb hYs hU hUb hUs hE hV' hVb hVs hD hE2 hC2 hBV hT
  go_enter Tryz.func85, Tryz.ntmps85
  go_upto_region 1 with fail
  rw [HY.out, HU.out, HV.out]
  go_wp2_with fail
  refine h.mono ?_
  rintro e W ⟨x, b, rfl, hbt, hbf, hbW⟩
  have HBW := Lib.hid (HBV.out.trans (hbW.mono HBV.out.size))
  have hWs := hbW.size
  have HCW : Hid (W.heap[w.heap.size]? = _) := (hbW.block _ (by omega)).trans HC2.out
  have HDW : Hid (W.heap[w.heap.size + 2]? = _) := (hbW.block _ (by omega)).trans HD2.out
  have HXF : Hid (b = true → x ∈ fs ∧ R = (!decide (ys.length = 0) && ((decide (ys.length ≤ 1) || x.rep) && allA ys fun _ y => valP rec x y))) := by
    refine (?_ : _ → _)
    intro hb
    refine ⟨(firstF_some (hbt hb)).1, ?_⟩
    rw [← HR.out]; unfold fldP; rw [hbt hb]
  have HXN : Hid (b = false → R = false) := by
    refine (?_ : _ → _)
    intro hb
    rw [← HR.out]; unfold fldP; rw [hbf hb]
  clear h hbW d0 d1 f0 hbt hbf HC2 HD2 HBV HR
  obtain ⟨xnum, xname, xkind, xrep, xtype⟩ := x
  dsimp only at HXF ⊢
  have hC : (W.alloc (.cells #[.int .i64 xnum, .string (mkB xname), .int .i64 xkind, .bool xrep, .int .i64 xtype] 51)).heap[W.heap.size]? = some (.cells #[.int .i64 xnum, .string (mkB xname), .int .i64 xkind, .bool xrep, .int .i64 xtype] 51 (0, 0)) := alloc_heap_new _ _
  have hCb : Below W.heap.size W (W.alloc (.cells #[.int .i64 xnum, .string (mkB xname), .int .i64 xkind, .bool xrep, .int .i64 xtype] 51)) := (Below.refl _ W).alloc (Nat.le_refl _) _
  go_upto_region 2 with fail
  generalize (W.alloc (.cells #[.int .i64 xnum, .string (mkB xname), .int .i64 xkind, .bool xrep, .int .i64 xtype] 51)) = X at *
  have HBX := Lib.hid (HBW.out.trans (hCb.mono HBW.out.size))
  have HX := Lib.hid hC
  have hXs : W.heap.size + 1 ≤ X.heap.size := by have := (Array.getElem?_eq_some_iff.1 hC).1; omega
  have HCX : Hid (X.heap[w.heap.size]? = _) := (hCb.block _ (by omega)).trans HCW.out
  have hDX := (hCb.block _ (by omega)).trans HDW.out
  have HDX := Lib.hid hDX
  have q1 : X.cell? ⟨w.heap.size + 2, 1, none⟩ = some (.slice va m vc) := cell_at hDX 1 rfl
  have q3 : X.cell? ⟨W.heap.size, 3, none⟩ = some (.bool xrep) := cell_at hC 3 rfl
  clear hC hCb hDX HCW HDW HBW
  cases b
  case false =>
    have e : R = false := HXN.out rfl
    subst e
    go_wp2_with fail
    go_ret
    exact ⟨rfl, HBX.out⟩
  obtain ⟨hxm, hRe⟩ := HXF.out rfl
  rw [HM.out] at hRe
  have HRE := Lib.hid hRe
  have HXM := Lib.hid hxm
  clear HXF HXN hRe hxm
  by_cases hm0 : m = 0
  · subst hm0
    have e : R = false := by rw [HRE.out]; rfl
    subst e
    go_wp2_with fail
    go_ret
    exact ⟨rfl, HBX.out⟩
  have hm0' : ((m : Int) == 0) = false := beq_eq_false_iff_ne.2 (by omega)
  by_cases hm1 : 1 < m ∧ xrep = false
  · obtain ⟨hm1, hr⟩ := hm1
    subst hr
    have hm1' : (1 : Int) < (m : Int) := by omega
    have e : R = false := by rw [HRE.out, decide_eq_false (by omega : ¬ m ≤ 1)]; simp
    subst e
    go_wp2_with fail
    go_ret
    exact ⟨rfl, HBX.out⟩
  have HRA : Hid (allB (atB ys fun _ y => valP rec ⟨xnum, xname, xkind, xrep, xtype⟩ y) ys.length = R) := by
    refine (?_ : _ = _)
    rw [HRE.out, decide_eq_false hm0]
    have e2 : (decide (m ≤ 1) || xrep) = true := by
      cases xrep
      · simp at hm1; simp; omega
      · simp
    rw [e2]; simp [allA]
  have hgo : (1 : Int) < (m : Int) → xrep = true := fun h => by
    cases xrep
    · exact absurd ⟨by omega, rfl⟩ hm1
    · rfl
  clear HRE hm1
  by_cases hm2 : (1 : Int) < (m : Int)
  · have hr := hgo hm2
    subst hr
    clear hgo
    go_wp2_with fail
    clear q1 q3
    go_loopw [42] (fun i wr => ∃ (k : Nat), i = .int .i64 (k : Int) ∧ k ≤ m ∧ allB (atB ys fun _ y => valP rec ⟨xnum, xname, xkind, true, xtype⟩ y) k = true ∧ Below X.heap.size X wr) (fun i _ => m - (intOf i).toNat)
    case atStart => exact ⟨0, rfl, Nat.zero_le _, rfl, Below.refl _ _⟩
    case round =>
      generalize wr = w1 at *
      obtain ⟨k, rfl, hk, hall, hbel⟩ := hrel
      have HA := Lib.hid hall
      have hBw1 := HBX.out.trans (hbel.mono HBX.out.size)
      have HBE := Lib.hid hbel
      have HBw := Lib.hid hBw1
      have hws := hbel.size
      by_cases hkn : k < m
      · obtain ⟨y, hy⟩ : ∃ y, ys[k]? = some y := ⟨_, List.getElem?_eq_getElem (by have := HM.out; omega)⟩
        obtain ⟨g, oo, c0, fs', hsl, hg, hcl, hheld⟩ := ValsG.at HVL.out hy
        rw [HM.out] at hsl
        obtain ⟨rfl, rfl⟩ := slice_two hsl
        have e0 : w1.cell? ⟨g, oo + k, none⟩ = some (ival y fs') := by
          have := (hcl.old (hBw1.block g hg)) 0 _ rfl
          simpa [valS] using this
        have hHV : HeldV w1 (fun b => b < w1.heap.size) f (ival y fs') y := ⟨fs', rfl, fun hk7 => HeldG.mv (fun b hb => hBw1.block b hb) (fun b hb => by have := hBw1.size; omega) (hheld (by simpa [valS] using hk7))⟩
        have hym := List.mem_of_getElem? hy
        have HKB : Hid (atB ys (fun _ y => valP rec ⟨xnum, xname, xkind, true, xtype⟩ y) k = valP rec ⟨xnum, xname, xkind, true, xtype⟩ y) := atB_some hy
        have h := kindP_any ma ea ta nm ne nt mc ec tc rec ⟨xnum, xname, xkind, true, xtype⟩ dep (ival y fs') y w1 (tabs_below HT.out hBw1) hdep (HS.out y hym) ⟨fs', rfl⟩ (fun hk10 W hW => HREC.out _ _ y W HXM.out hk10 hym (hBw1.trans (hW.mono hBw1.size)) (hHV.mv (fun b hb => hW.block b hb) (fun b hb => by have := hW.size; omega)))
        have hk0 : (0 : Int) ≤ (k : Int) := by omega
        have hk1 : (k : Int) < (m : Int) := by omega
        have hwq : IntKind.i64.wrap ((k : Int) + 1) = (k : Int) + 1 := by rw [IntKind.wrap_i64]; omega
        have hc1 := (hbel.block _ (by omega)).trans HCX.out
        have hx1 := (hbel.block _ (by omega)).trans HX.out
        have s0 : w1.cell? ⟨w.heap.size, 0, none⟩ = some (.slice ma nm mc) := cell_at hc1 0 rfl
        have s1 : w1.cell? ⟨w.heap.size, 1, none⟩ = some (.slice ea ne ec) := cell_at hc1 1 rfl
        have s2 : w1.cell? ⟨w.heap.size, 2, none⟩ = some (.slice ta nt tc) := cell_at hc1 2 rfl
        have p0 : w1.cell? ⟨W.heap.size, 0, none⟩ = some (.int .i64 xnum) := cell_at hx1 0 rfl
        have p1 : w1.cell? ⟨W.heap.size, 1, none⟩ = some (.string (mkB xname)) := cell_at hx1 1 rfl
        have p2 : w1.cell? ⟨W.heap.size, 2, none⟩ = some (.int .i64 xkind) := cell_at hx1 2 rfl
        have p3 : w1.cell? ⟨W.heap.size, 3, none⟩ = some (.bool true) := cell_at hx1 3 rfl
        have p4 : w1.cell? ⟨W.heap.size, 4, none⟩ = some (.int .i64 xtype) := cell_at hx1 4 rfl
        obtain ⟨B, hB⟩ : ∃ B, valP rec ⟨xnum, xname, xkind, true, xtype⟩ y = B := ⟨_, rfl⟩
        rw [hB] at h HKB
        obtain ⟨v, hv⟩ : ∃ v, ival y fs' = v := ⟨_, rfl⟩
        rw [hv] at h e0
        clear hB hv
        clear hsl hy hg hcl hheld hHV hym hc1 hx1 hbel hall hBw1
        dsimp only at h
        go_wp2_with fail
        refine h.mono ?_
        rintro e W2 ⟨rfl, hb2⟩
        have HB2 := Lib.hid (HBw.out.trans (hb2.mono HBw.out.size))
        have HBR := Lib.hid (HBE.out.trans (hb2.mono hws))
        clear hb2 h s0 s1 s2 p0 p1 p2 p3 p4 e0
        cases B
        case false =>
          have e : R = false := by rw [← HRA.out]; exact allB_no HKB.out (by have := HM.out; omega)
          subst e
          go_wp2_with fail
          go_ret
          exact ⟨rfl, HB2.out⟩
        case true =>
          go_wp2_with fail
          go_roundw
          case rel => exact ⟨k + 1, by go_num, by omega, allB_step HA.out HKB.out, HBR.out⟩
          case measure => simp [intOf]; omega
      · have hkn' : ¬ (k : Int) < (m : Int) := by omega
        have e : R = true := by
          have hkk : k = ys.length := by have := HM.out; omega
          rw [← HRA.out, ← hkk]; exact HA.out
        subst e
        go_wp2_with fail
        go_ret
        exact ⟨rfl, HBw.out⟩
  · clear hgo
    go_wp2_with fail
    clear q1 q3
    go_loopw [42] (fun i wr => ∃ (k : Nat), i = .int .i64 (k : Int) ∧ k ≤ m ∧ allB (atB ys fun _ y => valP rec ⟨xnum, xname, xkind, xrep, xtype⟩ y) k = true ∧ Below X.heap.size X wr) (fun i _ => m - (intOf i).toNat)
    case atStart => exact ⟨0, rfl, Nat.zero_le _, rfl, Below.refl _ _⟩
    case round =>
      generalize wr = w1 at *
      obtain ⟨k, rfl, hk, hall, hbel⟩ := hrel
      have HA := Lib.hid hall
      have hBw1 := HBX.out.trans (hbel.mono HBX.out.size)
      have HBE := Lib.hid hbel
      have HBw := Lib.hid hBw1
      have hws := hbel.size
      by_cases hkn : k < m
      · obtain ⟨y, hy⟩ : ∃ y, ys[k]? = some y := ⟨_, List.getElem?_eq_getElem (by have := HM.out; omega)⟩
        obtain ⟨g, oo, c0, fs', hsl, hg, hcl, hheld⟩ := ValsG.at HVL.out hy
        rw [HM.out] at hsl
        obtain ⟨rfl, rfl⟩ := slice_two hsl
        have e0 : w1.cell? ⟨g, oo + k, none⟩ = some (ival y fs') := by
          have := (hcl.old (hBw1.block g hg)) 0 _ rfl
          simpa [valS] using this
        have hHV : HeldV w1 (fun b => b < w1.heap.size) f (ival y fs') y := ⟨fs', rfl, fun hk7 => HeldG.mv (fun b hb => hBw1.block b hb) (fun b hb => by have := hBw1.size; omega) (hheld (by simpa [valS] using hk7))⟩
        have hym := List.mem_of_getElem? hy
        have HKB : Hid (atB ys (fun _ y => valP rec ⟨xnum, xname, xkind, xrep, xtype⟩ y) k = valP rec ⟨xnum, xname, xkind, xrep, xtype⟩ y) := atB_some hy
        have h := kindP_any ma ea ta nm ne nt mc ec tc rec ⟨xnum, xname, xkind, xrep, xtype⟩ dep (ival y fs') y w1 (tabs_below HT.out hBw1) hdep (HS.out y hym) ⟨fs', rfl⟩ (fun hk10 W hW => HREC.out _ _ y W HXM.out hk10 hym (hBw1.trans (hW.mono hBw1.size)) (hHV.mv (fun b hb => hW.block b hb) (fun b hb => by have := hW.size; omega)))
        have hk0 : (0 : Int) ≤ (k : Int) := by omega
        have hk1 : (k : Int) < (m : Int) := by omega
        have hwq : IntKind.i64.wrap ((k : Int) + 1) = (k : Int) + 1 := by rw [IntKind.wrap_i64]; omega
        have hc1 := (hbel.block _ (by omega)).trans HCX.out
        have hx1 := (hbel.block _ (by omega)).trans HX.out
        have s0 : w1.cell? ⟨w.heap.size, 0, none⟩ = some (.slice ma nm mc) := cell_at hc1 0 rfl
        have s1 : w1.cell? ⟨w.heap.size, 1, none⟩ = some (.slice ea ne ec) := cell_at hc1 1 rfl
        have s2 : w1.cell? ⟨w.heap.size, 2, none⟩ = some (.slice ta nt tc) := cell_at hc1 2 rfl
        have p0 : w1.cell? ⟨W.heap.size, 0, none⟩ = some (.int .i64 xnum) := cell_at hx1 0 rfl
        have p1 : w1.cell? ⟨W.heap.size, 1, none⟩ = some (.string (mkB xname)) := cell_at hx1 1 rfl
        have p2 : w1.cell? ⟨W.heap.size, 2, none⟩ = some (.int .i64 xkind) := cell_at hx1 2 rfl
        have p3 : w1.cell? ⟨W.heap.size, 3, none⟩ = some (.bool xrep) := cell_at hx1 3 rfl
        have p4 : w1.cell? ⟨W.heap.size, 4, none⟩ = some (.int .i64 xtype) := cell_at hx1 4 rfl
        obtain ⟨B, hB⟩ : ∃ B, valP rec ⟨xnum, xname, xkind, xrep, xtype⟩ y = B := ⟨_, rfl⟩
        rw [hB] at h HKB
        obtain ⟨v, hv⟩ : ∃ v, ival y fs' = v := ⟨_, rfl⟩
        rw [hv] at h e0
        clear hB hv
        clear hsl hy hg hcl hheld hHV hym hc1 hx1 hbel hall hBw1
        dsimp only at h
        go_wp2_with fail
        refine h.mono ?_
        rintro e W2 ⟨rfl, hb2⟩
        have HB2 := Lib.hid (HBw.out.trans (hb2.mono HBw.out.size))
        have HBR := Lib.hid (HBE.out.trans (hb2.mono hws))
        clear hb2 h s0 s1 s2 p0 p1 p2 p3 p4 e0
        cases B
        case false =>
          have e : R = false := by rw [← HRA.out]; exact allB_no HKB.out (by have := HM.out; omega)
          subst e
          go_wp2_with fail
          go_ret
          exact ⟨rfl, HB2.out⟩
        case true =>
          go_wp2_with fail
          go_roundw
          case rel => exact ⟨k + 1, by go_num, by omega, allB_step HA.out HKB.out, HBR.out⟩
          case measure => simp [intOf]; omega
      · have hkn' : ¬ (k : Int) < (m : Int) := by omega
        have e : R = true := by
          have hkk : k = ys.length := by have := HM.out; omega
          rw [← HRA.out, ← hkk]; exact HA.out
        subst e
        go_wp2_with fail
        go_ret
        exact ⟨rfl, HBw.out⟩
end Go.Proofs.YteajlfgbmefncaaGreatDoor
