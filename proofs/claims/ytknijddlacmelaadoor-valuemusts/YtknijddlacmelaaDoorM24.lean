/-
  The walk over the program's fitsField.
-/
import Derived.Test.YtknijddlacmelaaDoorM23
namespace Go.Proofs.YtknijddlacmelaaDoor
set_option linter.unusedVariables false
open Go.ChangeShapes Go.WideShapes Go.ChangeAt Go.RowKit

set_option maxHeartbeats 16000000 in
set_option maxRecDepth 20000 in
theorem fldP_any (ma ea ta : Option Addr) (nm ne nt mc ec tc : Nat) (nn : List UInt8) (fa : Option Addr) (n fc : Nat) (fs : List FD) (num : Int) (va : Option Addr) (m vc : Nat) (ys : List Nd) (rec : Int → Nd → Bool) (f : Nat) (dep : Int) (w : World) (hT : Tabs w) (hdep : 0 ≤ dep ∧ dep ≤ 1000)
    (hn : fs.length = n) (hl : n ≤ 100000) (hH : RowsIn w (fun b => b < w.heap.size) 5 fdrow (.slice fa n fc) fs) (hm : ys.length = m) (hml : m ≤ 100000) (hV : ValsG valS w (fun b => b < w.heap.size) f (.slice va m vc) ys) (hs : ∀ y ∈ ys, y.s.length ≤ 100000)
    (hrec : ∀ (x : FD) (v : Value) (y : Nd) (W : World), x ∈ fs → x.kind = 10 → y ∈ ys → Below w.heap.size w W → HeldV W (fun b => b < W.heap.size) f v y → Calls Tryd.prog 19 #[.agg #[.slice ma nm mc, .slice ea ne ec, .slice ta nt tc], .int .i64 x.type, v, .int .i64 (dep + 1)] W fun e w' => e = .returned (.bool (rec x.type y)) ∧ Below W.heap.size W w') :
    Calls Tryd.prog 26 #[.agg #[.slice ma nm mc, .slice ea ne ec, .slice ta nt tc], .agg #[.string (mkB nn), .slice fa n fc], .agg #[.int .i64 num, .slice va m vc], .int .i64 dep] w fun e w' => e = .returned (.bool (fldP rec fs (num, ys))) ∧ Below w.heap.size w w' := by
  obtain ⟨R, hR⟩ : ∃ R, fldP rec fs (num, ys) = R := ⟨_, rfl⟩
  have HR := Lib.hid hR
  rw [hR]
  clear hR
  obtain ⟨Y, hY, hC, hb, hYs⟩ := box_new w #[.slice ma nm mc, .slice ea ne ec, .slice ta nt tc] 53
  obtain ⟨U, hU, hE, hUb, hUs⟩ := box_new Y #[.string (mkB nn), .slice fa n fc] 48
  obtain ⟨V, hV', hD, hVb, hVs⟩ := box_new U #[.int .i64 num, .slice va m vc] 64
  have HY := Lib.hid hY
  have HU := Lib.hid hU
  have HV := Lib.hid hV'
  rw [hUs, hYs] at hD
  rw [hYs] at hE
  have hE2 := (hVb.block _ (by omega)).trans hE
  have hC2 := (hVb.block _ (by omega)).trans ((hUb.block _ (by omega)).trans hC)
  have hBV := hb.trans ((hUb.trans (hVb.mono hUb.size)).mono hb.size)
  have HBV := Lib.hid hBV
  have HC2 := Lib.hid hC2
  have HD2 := Lib.hid hD
  have d0 : V.cell? ⟨w.heap.size + 1, 0, none⟩ = some (.string (mkB nn)) := cell_at hE2 0 rfl
  have d1 : V.cell? ⟨w.heap.size + 1, 1, none⟩ = some (.slice fa n fc) := cell_at hE2 1 rfl
  have f0 : V.cell? ⟨w.heap.size + 2, 0, none⟩ = some (.int .i64 num) := cell_at hD 0 rfl
  have h := defined_any nn fa n fc fs num V hn hl ((RowsIn.old hH fun b h => hBV.block b h).more fun b h => by have := hBV.size; omega)
  have HREC := Lib.hid hrec
  have HVL := Lib.hid hV
  have HS := Lib.hid hs
  have HM := Lib.hid hm
  have HT := Lib.hid hT
  have hVl : w.heap.size + 3 ≤ V.heap.size := by omega
  clear hn hl hH hm hV hs hrec hC hY hb hYs hU hUb hUs hE hV' hVb hVs hD hE2 hC2 hBV hT
  go_enter Tryd.func26, Tryd.ntmps26
  go_upto_region 1 with fail
  rw [HY.out, HU.out, HV.out]
  go_wp2_with fail
  refine h.mono ?_
  rintro e W ⟨x, b, rfl, hbt, hbf, hbW⟩
  have HBW := Lib.hid (HBV.out.trans (hbW.mono HBV.out.size))
  have hWs := hbW.size
  have HCW : Hid (W.heap[w.heap.size]? = _) := (hbW.block _ (by omega)).trans HC2.out
  have HDW : Hid (W.heap[w.heap.size + 2]? = _) := (hbW.block _ (by omega)).trans HD2.out
  have HXF : Hid (b = true → x ∈ fs ∧ R = (!decide (ys.length = 0) && ((decide (ys.length ≤ 1) || x.rep) && allA ys fun _ y => valP rec x y))) := by
    refine (?_ : _ → _)
    intro hb
    refine ⟨(firstF_some (hbt hb)).1, ?_⟩
    rw [← HR.out]; unfold fldP; rw [hbt hb]
  have HXN : Hid (b = false → R = false) := by
    refine (?_ : _ → _)
    intro hb
    rw [← HR.out]; unfold fldP; rw [hbf hb]
  clear h hbW d0 d1 f0 hbt hbf HC2 HD2 HBV HR
  obtain ⟨xnum, xname, xkind, xrep, xtype⟩ := x
  dsimp only at HXF ⊢
  have hC : (W.alloc (.cells #[.int .i64 xnum, .string (mkB xname), .int .i64 xkind, .bool xrep, .int .i64 xtype] 95)).heap[W.heap.size]? = some (.cells #[.int .i64 xnum, .string (mkB xname), .int .i64 xkind, .bool xrep, .int .i64 xtype] 95 (0, 0)) := alloc_heap_new _ _
  have hCb : Below W.heap.size W (W.alloc (.cells #[.int .i64 xnum, .string (mkB xname), .int .i64 xkind, .bool xrep, .int .i64 xtype] 95)) := (Below.refl _ W).alloc (Nat.le_refl _) _
  go_upto_region 2 with fail
  generalize (W.alloc (.cells #[.int .i64 xnum, .string (mkB xname), .int .i64 xkind, .bool xrep, .int .i64 xtype] 95)) = X at *
  have HBX := Lib.hid (HBW.out.trans (hCb.mono HBW.out.size))
  have HX := Lib.hid hC
  have hXs : W.heap.size + 1 ≤ X.heap.size := by have := (Array.getElem?_eq_some_iff.1 hC).1; omega
  have HCX : Hid (X.heap[w.heap.size]? = _) := (hCb.block _ (by omega)).trans HCW.out
  have hDX := (hCb.block _ (by omega)).trans HDW.out
  have HDX := Lib.hid hDX
  have q1 : X.cell? ⟨w.heap.size + 2, 1, none⟩ = some (.slice va m vc) := cell_at hDX 1 rfl
  have q3 : X.cell? ⟨W.heap.size, 3, none⟩ = some (.bool xrep) := cell_at hC 3 rfl
  clear hC hCb hDX HCW HDW HBW
  cases b
  case false =>
    have e : R = false := HXN.out rfl
    subst e
    go_wp2_with fail
    go_ret
    exact ⟨rfl, HBX.out⟩
  obtain ⟨hxm, hRe⟩ := HXF.out rfl
  rw [HM.out] at hRe
  have HRE := Lib.hid hRe
  have HXM := Lib.hid hxm
  clear HXF HXN hRe hxm
  by_cases hm0 : m = 0
  · subst hm0
    have e : R = false := by rw [HRE.out]; rfl
    subst e
    go_wp2_with fail
    go_ret
    exact ⟨rfl, HBX.out⟩
  have hm0' : ((m : Int) == 0) = false := beq_eq_false_iff_ne.2 (by omega)
  by_cases hm1 : 1 < m ∧ xrep = false
  · obtain ⟨hm1, hr⟩ := hm1
    subst hr
    have hm1' : (1 : Int) < (m : Int) := by omega
    have e : R = false := by rw [HRE.out, decide_eq_false (by omega : ¬ m ≤ 1)]; simp
    subst e
    go_wp2_with fail
    go_ret
    exact ⟨rfl, HBX.out⟩
  have HRA : Hid (allB (atB ys fun _ y => valP rec ⟨xnum, xname, xkind, xrep, xtype⟩ y) ys.length = R) := by
    refine (?_ : _ = _)
    rw [HRE.out, decide_eq_false hm0]
    have e2 : (decide (m ≤ 1) || xrep) = true := by
      cases xrep
      · simp at hm1; simp; omega
      · simp
    rw [e2]; simp [allA]
  have hgo : (1 : Int) < (m : Int) → xrep = true := fun h => by
    cases xrep
    · exact absurd ⟨by omega, rfl⟩ hm1
    · rfl
  clear HRE hm1
  by_cases hm2 : (1 : Int) < (m : Int)
  · have hr := hgo hm2
    subst hr
    clear hgo
    go_wp2_with fail
    clear q1 q3
    go_loopw [42] (fun i wr => ∃ (k : Nat), i = .int .i64 (k : Int) ∧ k ≤ m ∧ allB (atB ys fun _ y => valP rec ⟨xnum, xname, xkind, true, xtype⟩ y) k = true ∧ Below X.heap.size X wr) (fun i _ => m - (intOf i).toNat)
    case atStart => exact ⟨0, rfl, Nat.zero_le _, rfl, Below.refl _ _⟩
    case round =>
      generalize wr = w1 at *
      obtain ⟨k, rfl, hk, hall, hbel⟩ := hrel
      have HA := Lib.hid hall
      have hBw1 := HBX.out.trans (hbel.mono HBX.out.size)
      have HBE := Lib.hid hbel
      have HBw := Lib.hid hBw1
      have hws := hbel.size
      by_cases hkn : k < m
      · obtain ⟨y, hy⟩ : ∃ y, ys[k]? = some y := ⟨_, List.getElem?_eq_getElem (by have := HM.out; omega)⟩
        obtain ⟨g, oo, c0, fs', hsl, hg, hcl, hheld⟩ := ValsG.at HVL.out hy
        rw [HM.out] at hsl
        obtain ⟨rfl, rfl⟩ := slice_two hsl
        have e0 : w1.cell? ⟨g, oo + k, none⟩ = some (ival y fs') := by
          have := (hcl.old (hBw1.block g hg)) 0 _ rfl
          simpa [valS] using this
        have hHV : HeldV w1 (fun b => b < w1.heap.size) f (ival y fs') y := ⟨fs', rfl, fun hk7 => HeldG.mv (fun b hb => hBw1.block b hb) (fun b hb => by have := hBw1.size; omega) (hheld (by simpa [valS] using hk7))⟩
        have hym := List.mem_of_getElem? hy
        have HKB : Hid (atB ys (fun _ y => valP rec ⟨xnum, xname, xkind, true, xtype⟩ y) k = valP rec ⟨xnum, xname, xkind, true, xtype⟩ y) := atB_some hy
        have h := kindP_any ma ea ta nm ne nt mc ec tc rec ⟨xnum, xname, xkind, true, xtype⟩ dep (ival y fs') y w1 (tabs_below HT.out hBw1) hdep (HS.out y hym) ⟨fs', rfl⟩ (fun hk10 W hW => HREC.out _ _ y W HXM.out hk10 hym (hBw1.trans (hW.mono hBw1.size)) (hHV.mv (fun b hb => hW.block b hb) (fun b hb => by have := hW.size; omega)))
        have hk0 : (0 : Int) ≤ (k : Int) := by omega
        have hk1 : (k : Int) < (m : Int) := by omega
        have hwq : IntKind.i64.wrap ((k : Int) + 1) = (k : Int) + 1 := by rw [IntKind.wrap_i64]; omega
        have hc1 := (hbel.block _ (by omega)).trans HCX.out
        have hx1 := (hbel.block _ (by omega)).trans HX.out
        have s0 : w1.cell? ⟨w.heap.size, 0, none⟩ = some (.slice ma nm mc) := cell_at hc1 0 rfl
        have s1 : w1.cell? ⟨w.heap.size, 1, none⟩ = some (.slice ea ne ec) := cell_at hc1 1 rfl
        have s2 : w1.cell? ⟨w.heap.size, 2, none⟩ = some (.slice ta nt tc) := cell_at hc1 2 rfl
        have p0 : w1.cell? ⟨W.heap.size, 0, none⟩ = some (.int .i64 xnum) := cell_at hx1 0 rfl
        have p1 : w1.cell? ⟨W.heap.size, 1, none⟩ = some (.string (mkB xname)) := cell_at hx1 1 rfl
        have p2 : w1.cell? ⟨W.heap.size, 2, none⟩ = some (.int .i64 xkind) := cell_at hx1 2 rfl
        have p3 : w1.cell? ⟨W.heap.size, 3, none⟩ = some (.bool true) := cell_at hx1 3 rfl
        have p4 : w1.cell? ⟨W.heap.size, 4, none⟩ = some (.int .i64 xtype) := cell_at hx1 4 rfl
        obtain ⟨B, hB⟩ : ∃ B, valP rec ⟨xnum, xname, xkind, true, xtype⟩ y = B := ⟨_, rfl⟩
        rw [hB] at h HKB
        obtain ⟨v, hv⟩ : ∃ v, ival y fs' = v := ⟨_, rfl⟩
        rw [hv] at h e0
        clear hB hv
        clear hsl hy hg hcl hheld hHV hym hc1 hx1 hbel hall hBw1
        dsimp only at h
        go_wp2_with fail
        refine h.mono ?_
        rintro e W2 ⟨rfl, hb2⟩
        have HB2 := Lib.hid (HBw.out.trans (hb2.mono HBw.out.size))
        have HBR := Lib.hid (HBE.out.trans (hb2.mono hws))
        clear hb2 h s0 s1 s2 p0 p1 p2 p3 p4 e0
        cases B
        case false =>
          have e : R = false := by rw [← HRA.out]; exact allB_no HKB.out (by have := HM.out; omega)
          subst e
          go_wp2_with fail
          go_ret
          exact ⟨rfl, HB2.out⟩
        case true =>
          go_wp2_with fail
          go_roundw
          case rel => exact ⟨k + 1, by go_num, by omega, allB_step HA.out HKB.out, HBR.out⟩
          case measure => simp [intOf]; omega
      · have hkn' : ¬ (k : Int) < (m : Int) := by omega
        have e : R = true := by
          have hkk : k = ys.length := by have := HM.out; omega
          rw [← HRA.out, ← hkk]; exact HA.out
        subst e
        go_wp2_with fail
        go_ret
        exact ⟨rfl, HBw.out⟩
  · clear hgo
    go_wp2_with fail
    clear q1 q3
    go_loopw [42] (fun i wr => ∃ (k : Nat), i = .int .i64 (k : Int) ∧ k ≤ m ∧ allB (atB ys fun _ y => valP rec ⟨xnum, xname, xkind, xrep, xtype⟩ y) k = true ∧ Below X.heap.size X wr) (fun i _ => m - (intOf i).toNat)
    case atStart => exact ⟨0, rfl, Nat.zero_le _, rfl, Below.refl _ _⟩
    case round =>
      generalize wr = w1 at *
      obtain ⟨k, rfl, hk, hall, hbel⟩ := hrel
      have HA := Lib.hid hall
      have hBw1 := HBX.out.trans (hbel.mono HBX.out.size)
      have HBE := Lib.hid hbel
      have HBw := Lib.hid hBw1
      have hws := hbel.size
      by_cases hkn : k < m
      · obtain ⟨y, hy⟩ : ∃ y, ys[k]? = some y := ⟨_, List.getElem?_eq_getElem (by have := HM.out; omega)⟩
        obtain ⟨g, oo, c0, fs', hsl, hg, hcl, hheld⟩ := ValsG.at HVL.out hy
        rw [HM.out] at hsl
        obtain ⟨rfl, rfl⟩ := slice_two hsl
        have e0 : w1.cell? ⟨g, oo + k, none⟩ = some (ival y fs') := by
          have := (hcl.old (hBw1.block g hg)) 0 _ rfl
          simpa [valS] using this
        have hHV : HeldV w1 (fun b => b < w1.heap.size) f (ival y fs') y := ⟨fs', rfl, fun hk7 => HeldG.mv (fun b hb => hBw1.block b hb) (fun b hb => by have := hBw1.size; omega) (hheld (by simpa [valS] using hk7))⟩
        have hym := List.mem_of_getElem? hy
        have HKB : Hid (atB ys (fun _ y => valP rec ⟨xnum, xname, xkind, xrep, xtype⟩ y) k = valP rec ⟨xnum, xname, xkind, xrep, xtype⟩ y) := atB_some hy
        have h := kindP_any ma ea ta nm ne nt mc ec tc rec ⟨xnum, xname, xkind, xrep, xtype⟩ dep (ival y fs') y w1 (tabs_below HT.out hBw1) hdep (HS.out y hym) ⟨fs', rfl⟩ (fun hk10 W hW => HREC.out _ _ y W HXM.out hk10 hym (hBw1.trans (hW.mono hBw1.size)) (hHV.mv (fun b hb => hW.block b hb) (fun b hb => by have := hW.size; omega)))
        have hk0 : (0 : Int) ≤ (k : Int) := by omega
        have hk1 : (k : Int) < (m : Int) := by omega
        have hwq : IntKind.i64.wrap ((k : Int) + 1) = (k : Int) + 1 := by rw [IntKind.wrap_i64]; omega
        have hc1 := (hbel.block _ (by omega)).trans HCX.out
        have hx1 := (hbel.block _ (by omega)).trans HX.out
        have s0 : w1.cell? ⟨w.heap.size, 0, none⟩ = some (.slice ma nm mc) := cell_at hc1 0 rfl
        have s1 : w1.cell? ⟨w.heap.size, 1, none⟩ = some (.slice ea ne ec) := cell_at hc1 1 rfl
        have s2 : w1.cell? ⟨w.heap.size, 2, none⟩ = some (.slice ta nt tc) := cell_at hc1 2 rfl
        have p0 : w1.cell? ⟨W.heap.size, 0, none⟩ = some (.int .i64 xnum) := cell_at hx1 0 rfl
        have p1 : w1.cell? ⟨W.heap.size, 1, none⟩ = some (.string (mkB xname)) := cell_at hx1 1 rfl
        have p2 : w1.cell? ⟨W.heap.size, 2, none⟩ = some (.int .i64 xkind) := cell_at hx1 2 rfl
        have p3 : w1.cell? ⟨W.heap.size, 3, none⟩ = some (.bool xrep) := cell_at hx1 3 rfl
        have p4 : w1.cell? ⟨W.heap.size, 4, none⟩ = some (.int .i64 xtype) := cell_at hx1 4 rfl
        obtain ⟨B, hB⟩ : ∃ B, valP rec ⟨xnum, xname, xkind, xrep, xtype⟩ y = B := ⟨_, rfl⟩
        rw [hB] at h HKB
        obtain ⟨v, hv⟩ : ∃ v, ival y fs' = v := ⟨_, rfl⟩
        rw [hv] at h e0
        clear hB hv
        clear hsl hy hg hcl hheld hHV hym hc1 hx1 hbel hall hBw1
        dsimp only at h
        go_wp2_with fail
        refine h.mono ?_
        rintro e W2 ⟨rfl, hb2⟩
        have HB2 := Lib.hid (HBw.out.trans (hb2.mono HBw.out.size))
        have HBR := Lib.hid (HBE.out.trans (hb2.mono hws))
        clear hb2 h s0 s1 s2 p0 p1 p2 p3 p4 e0
        cases B
        case false =>
          have e : R = false := by rw [← HRA.out]; exact allB_no HKB.out (by have := HM.out; omega)
          subst e
          go_wp2_with fail
          go_ret
          exact ⟨rfl, HB2.out⟩
        case true =>
          go_wp2_with fail
          go_roundw
          case rel => exact ⟨k + 1, by go_num, by omega, allB_step HA.out HKB.out, HBR.out⟩
          case measure => simp [intOf]; omega
      · have hkn' : ¬ (k : Int) < (m : Int) := by omega
        have e : R = true := by
          have hkk : k = ys.length := by have := HM.out; omega
          rw [← HRA.out, ← hkk]; exact HA.out
        subst e
        go_wp2_with fail
        go_ret
        exact ⟨rfl, HBw.out⟩
end Go.Proofs.YtknijddlacmelaaDoor
