/-
  The walks over the program's endless, fresh, freshValues and Get: the values of a message's first field of that number, in new memory.
-/
import Derived.Test.YtknijddlacmelaaDoorM17
import Derived.Test.YtknijddlacmelaaDoorM34
namespace Go.Proofs.YtknijddlacmelaaDoor
set_option linter.unusedVariables false
open Go.ChangeShapes Go.WideShapes Go.ChangeAt Go.RowKit

/-- no deeper than is followed -/
def DepT : Nat → Int → Nd → Prop
  | 0, d, x => d ≤ 65536
  | f + 1, d, x => d ≤ 65536 ∧ ∀ p ∈ x.fields, ∀ y ∈ p.2, y.kind = 7 → DepT f (d + 1) y
theorem DepT.le {f : Nat} {d : Int} {x : Nd} (h : DepT f d x) : d ≤ 65536 := by
  cases f with
  | zero => exact h
  | succ f => exact h.1
theorem depT_wt : ∀ {f : Nat} {d : Int} {x : Nd}, d + (wtN f x : Int) ≤ 65536 → DepT f d x
  | 0, d, x, h => by show d ≤ 65536; omega
  | f + 1, d, x, h => by
    refine ⟨by omega, fun p hp y hy h7 => depT_wt ?_⟩
    unfold wtN at h
    have h1 : 1 + sumL (wtN f) p.2 ≤ sumL (fun p : Int × List Nd => 1 + sumL (wtN f) p.2) x.fields := sumL_mem (g := fun p : Int × List Nd => 1 + sumL (wtN f) p.2) hp
    have h2 : wtN f y ≤ sumL (wtN f) p.2 := sumL_mem (g := wtN f) hy
    omega
theorem depT_down : ∀ {f : Nat} {d : Int} {x : Nd}, DepT f (d + 1) x → DepT f d x
  | 0, d, x, h => by have h' : d + 1 ≤ 65536 := h; show d ≤ 65536; omega
  | f + 1, d, x, h => ⟨by have := h.1; omega, fun p hp y hy h7 => depT_down (h.2 p hp y hy h7)⟩
set_option maxHeartbeats 32000000 in
set_option maxRecDepth 20000 in
theorem endless_any : ∀ (f : Nat) (x : Nd) (v : Value) (dep : Int) (w : World), FitG 100000 10000 f x → (x.kind = 7 → DepT f dep x) → 1 ≤ dep → HeldV w (fun b => b < w.heap.size) f v x →
    Calls Tryd.prog 28 #[v, .int .i64 dep] w fun e w' => e = .returned (.bool false) ∧ Below w.heap.size w w' := by
  intro f
  induction f using Nat.strongRecOn with
  | _ f ih =>
  intro x v dep w hfit hkt hd1 hHV
  obtain ⟨fs, rfl, hHG⟩ := hHV
  have t7 := fun W => taMessage x fs W
  by_cases h7 : x.kind = 7
  case neg =>
    rw [if_neg h7, decide_eq_false h7] at t7
    obtain ⟨v, hv⟩ : ∃ v, ival x fs = v := ⟨_, rfl⟩
    rw [hv] at t7 ⊢
    obtain ⟨Y, hY, hC, hb, hYs⟩ := box_new w #[.int .i64 0, .slice none 0 0, .string ⟨#[]⟩] 30
    have HY := Lib.hid hY
    have HB := Lib.hid hb
    clear ih hfit hkt hHG hv hY hC hb hYs h7
    go_enter Tryd.func28, Tryd.ntmps28
    go_upto_region 2 with fail
    rw [HY.out]
    go_wp2_with fail
    go_ret
    exact ⟨rfl, HB.out⟩
  rw [if_pos h7, decide_eq_true h7] at t7
  replace hHG := hHG h7
  replace hkt := hkt h7
  have hdl := hkt.le
  obtain ⟨xa, xc, rfl⟩ := HeldG.isSl hHG
  obtain ⟨xkind, xn, xu, xb, xs, xt, fl⟩ := x
  dsimp only at h7 hHG t7 ⊢
  subst h7
  obtain ⟨n, hn⟩ : ∃ n, fl.length = n := ⟨_, rfl⟩
  have HN := Lib.hid hn
  rw [hn] at hHG t7 ⊢
  have HHG := Lib.hid hHG
  have HKT := Lib.hid hkt
  have HFIT := Lib.hid hfit
  have HIH := Lib.hid ih
  obtain ⟨v, hv⟩ : ∃ v, ival ⟨7, xn, xu, xb, xs, xt, fl⟩ (.slice xa n xc) = v := ⟨_, rfl⟩
  rw [hv] at t7 ⊢
  obtain ⟨Y, hY, hC, hb, hYs⟩ := box_new w #[.int .i64 xt, .slice xa n xc, .string (mkB xs)] 30
  have HYE := Lib.hid hY
  have HBY := Lib.hid hb
  have hYl : w.heap.size + 1 ≤ Y.heap.size := by omega
  have v1 : Y.cell? ⟨w.heap.size, 1, none⟩ = some (.slice xa n xc) := cell_at hC 1 rfl
  have hdn : ¬ (65536 : Int) < dep := by omega
  clear hn hHG hv hY hC hb hYs ih hfit hkt
  go_enter Tryd.func28, Tryd.ntmps28
  go_upto_region 2 with fail
  rw [HYE.out]
  clear t7
  go_wp2_with fail
  clear v1
  go_loopw [23] (fun i wr => ∃ j : Nat, i = .int .i64 (j : Int) ∧ j ≤ n ∧ Below Y.heap.size Y wr) (fun i _ => n - (intOf i).toNat)
  case atStart => exact ⟨0, rfl, Nat.zero_le _, Below.refl _ _⟩
  case round =>
    generalize wr = w1 at *
    obtain ⟨j, rfl, hj, hbel⟩ := hrel
    have HBE := Lib.hid hbel
    have hws := hbel.size
    have hBw := HBY.out.trans (hbel.mono HBY.out.size)
    have HBW := Lib.hid hBw
    clear hbel
    by_cases hjn : j < n
    · obtain ⟨y, hy⟩ : ∃ y, fl[j]? = some y := ⟨_, List.getElem?_eq_getElem (by have := HN.out; omega)⟩
      obtain ⟨f', g, go, gc, va, vc, hf', hsl, hg, e0, e1, hvals⟩ := HeldG.at HHG.out (W := w1) (fun b hb => hBw.block b hb) hy
      subst hf'
      rw [HN.out] at hsl
      obtain ⟨rfl, rfl⟩ := slice_two hsl
      have hyk := HKT.out.2 y (List.mem_of_getElem? hy)
      obtain ⟨hfl1, hfl2⟩ := HFIT.out.2.2 y (List.mem_of_getElem? hy)
      obtain ⟨ynum, ys⟩ := y
      dsimp only at hvals e0 e1 hyk hfl1 hfl2
      obtain ⟨mv, hmv⟩ : ∃ n, ys.length = n := ⟨_, rfl⟩
      have HMV := Lib.hid hmv
      rw [hmv] at e1 hvals hfl1
      have HYK := Lib.hid hyk
      have HFL2 := Lib.hid hfl2
      have HVA := Lib.hid hvals
      have hj0 : (0 : Int) ≤ (j : Int) := by omega
      have hj1 : (j : Int) < (n : Int) := by omega
      have hn1 : n ≤ 10000 := by have h1 := HFIT.out.2.1; have h2 := HN.out; dsimp only at h1; omega
      have hwq : IntKind.i64.wrap ((j : Int) + 1) = (j : Int) + 1 := by rw [IntKind.wrap_i64]; omega
      have hwd : IntKind.i64.wrap (dep + 1) = dep + 1 := by rw [IntKind.wrap_i64]; omega
      have hgN : g < w.heap.size := hg
      clear hsl hy hvals hmv hyk hfl2 hg
      have hC : (w1.alloc (.cells #[.int .i64 ynum, .slice va mv vc] 64)).heap[w1.heap.size]? = some (.cells #[.int .i64 ynum, .slice va mv vc] 64 (0, 0)) := alloc_heap_new _ _
      have hCb : Below w1.heap.size w1 (w1.alloc (.cells #[.int .i64 ynum, .slice va mv vc] 64)) := (Below.refl _ w1).alloc (Nat.le_refl _) _
      go_upto_region 9 with fail
      generalize (w1.alloc (.cells #[.int .i64 ynum, .slice va mv vc] 64)) = U at *
      have u1 : U.cell? ⟨w1.heap.size, 1, none⟩ = some (.slice va mv vc) := cell_at hC 1 rfl
      have HBU := Lib.hid (hBw.trans (hCb.mono hBw.size))
      have HBU2 := Lib.hid (HBE.out.trans (hCb.mono (by omega)))
      clear hC hCb hBw e0 e1
      go_wp2_with fail
      clear u1
      go_loopw [30] (fun i wr => ∃ p : Nat, i = .int .i64 (p : Int) ∧ p ≤ mv ∧ Below U.heap.size U wr) (fun i _ => mv - (intOf i).toNat)
      case atStart => exact ⟨0, rfl, Nat.zero_le _, Below.refl _ _⟩
      case round =>
        generalize wr = w2 at *
        obtain ⟨p, rfl, hp, hb2⟩ := hrel
        have HB2 := Lib.hid hb2
        have hBw2 := HBU.out.trans (hb2.mono HBU.out.size)
        clear hb2
        by_cases hpn : p < mv
        · obtain ⟨c, hc⟩ : ∃ c, ys[p]? = some c := ⟨_, List.getElem?_eq_getElem (by have := HMV.out; omega)⟩
          obtain ⟨g2, o2, c2, fs2, hsl2, hg2, hcl, hheld⟩ := ValsG.at HVA.out hc
          rw [HMV.out] at hsl2
          obtain ⟨rfl, rfl⟩ := slice_two hsl2
          have hg2N : g2 < w.heap.size := hg2
          have hcl2 := hcl.old (hBw2.block g2 hg2N)
          have hck := HYK.out c (List.mem_of_getElem? hc)
          have y0 : w2.cell? ⟨g2, o2 + p, none⟩ = some (ival c fs2) := by have := hcl2 0 _ rfl; simpa [valS] using this
          have hcall := HIH.out f' (by omega) c (ival c fs2) (dep + 1) w2 (HFL2.out c (List.mem_of_getElem? hc)) hck (by omega) ⟨fs2, rfl, fun hk => HeldG.mv (fun b hb => hBw2.block b hb) (fun b hb => by have hb' : b < w.heap.size := hb; have := hBw2.size; omega) (hheld (by simpa [valS] using hk))⟩
          obtain ⟨v2, hv2⟩ : ∃ v2, ival c fs2 = v2 := ⟨_, rfl⟩
          rw [hv2] at y0 hcall
          have hp0 : (0 : Int) ≤ (p : Int) := by omega
          have hp1 : (p : Int) < (mv : Int) := by omega
          have hwp : IntKind.i64.wrap ((p : Int) + 1) = (p : Int) + 1 := by rw [IntKind.wrap_i64]; omega
          clear hsl2 hc hg2 hcl hheld hcl2 hck hBw2 hv2
          go_wp2_with fail
          refine hcall.mono ?_
          rintro e W5 ⟨rfl, hb5⟩
          have HB5 := Lib.hid (HB2.out.trans (hb5.mono HB2.out.size))
          clear hcall hb5 y0
          go_wp2_with fail
          go_roundw
          case rel => exact ⟨p + 1, by go_num, by omega, HB5.out⟩
          case measure => simp [intOf]; omega
        · have hpn' : ¬ (p : Int) < (mv : Int) := by omega
          have HB5 := Lib.hid (HBU2.out.trans (HB2.out.mono HBU2.out.size))
          clear hBw2
          go_wp2_with fail
          go_roundw
          case rel => exact ⟨j + 1, by go_num, by omega, HB5.out⟩
          case measure => simp [intOf]; omega
    · have hjn' : ¬ (j : Int) < (n : Int) := by omega
      clear hBw
      go_wp2_with fail
      go_ret
      exact ⟨rfl, HBW.out⟩
set_option maxHeartbeats 16000000 in
set_option maxRecDepth 20000 in
theorem fresh_any (f : Nat) (x : Nd) (v : Value) (w : World) (hfit : FitG 100000 10000 f x) (hkt1 : x.kind = 7 → DepT f 1 x) (hHV : HeldV w (fun b => b < w.heap.size) f v x) :
    Calls Tryd.prog 20 #[v] w fun e w' => TheirAns f w x e w' := by
  have h1 := endless_any f x v 1 w hfit hkt1 (by omega) hHV
  have h2 : ∀ W, Below w.heap.size w W → Calls Tryd.prog 29 #[v, .func (.func 30) #[] #[]] W fun e w' => TheirAns f W x e w' := fun W hW => copiedF_any f x v W hfit (fun h7 => goodK_all f x) (hHV.mv (fun b hb => hW.block b hb) (fun b hb => by have hb' : b < w.heap.size := hb; have := hW.size; omega))
  have H2 := Lib.hid h2
  clear hfit hkt1 hHV h2
  go_enter Tryd.func20, Tryd.ntmps20
  go_wp2_with fail
  refine h1.mono ?_
  rintro e W ⟨rfl, hb⟩
  have HB := Lib.hid hb
  have hc := H2.out W hb
  clear h1 hb
  go_wp2_with fail
  refine hc.mono ?_
  rintro e W2 ⟨u, rfl, hu, hb⟩
  have HR : Hid (TheirAns f w x (.returned u) W2) := ⟨u, rfl, hu.mv (fun _ _ => rfl) (fun b hb => ⟨by have := hb.1; have := HB.out.size; omega, hb.2⟩), HB.out.trans (hb.mono HB.out.size)⟩
  clear hc hb hu
  go_wp2_with fail
  go_ret
  exact HR.out
theorem look_at : ∀ {fl : List (Int × List Nd)} {j : Nat} {num : Int} {ys : List Nd}, fl[j]? = some (num, ys) → (∀ (i : Nat) (p : Int × List Nd), i < j → fl[i]? = some p → p.1 ≠ num) → lookF fl num = some ys
  | p :: t, 0, num, ys, h, _ => by
    have e : p = (num, ys) := by simpa using h
    subst e
    unfold lookF; rw [if_pos rfl]
  | p :: t, j + 1, num, ys, h, hn => by
    unfold lookF
    rw [if_neg (hn 0 p (by omega) rfl)]
    exact look_at (by simpa using h) fun i q hi hq => hn (i + 1) q (by omega) (by simpa using hq)
theorem look_no : ∀ {fl : List (Int × List Nd)} {num : Int}, (∀ (i : Nat) (p : Int × List Nd), fl[i]? = some p → p.1 ≠ num) → lookF fl num = none
  | [], num, _ => rfl
  | p :: t, num, hn => by
    unfold lookF
    rw [if_neg (hn 0 p rfl)]
    exact look_no fun i q hq => hn (i + 1) q (by simpa using hq)
/-- the values of a field of that number -/
def valsF (fl : List (Int × List Nd)) (num : Int) : List Nd := (lookF fl num).getD []
/-- what Get answers -/
def GetAns (f : Nat) (ys : List Nd) (w : World) (e : Ending) (w' : World) : Prop := ∃ a c, e = .returned (.slice a ys.length c) ∧ ValsG valS w' (fun b => w.heap.size ≤ b ∧ b < w'.heap.size) (f - 1) (.slice a ys.length c) ys ∧ Below w.heap.size w w'
set_option maxHeartbeats 64000000 in
set_option maxRecDepth 20000 in
theorem freshValues_any (f : Nat) (x : Nd) (v : Value) (num : Int) (w : World) (h7 : x.kind = 7) (hfit : FitG 100000 10000 f x) (hkt : DepT f 1 x) (hHV : HeldV w (fun b => b < w.heap.size) f v x) :
    Calls Tryd.prog 17 #[v, .int .i64 num] w fun e w' => GetAns f (valsF x.fields num) w e w' := by
  obtain ⟨fs, rfl, hHG⟩ := hHV
  have t7 := fun W => taMessage x fs W
  rw [if_pos h7, decide_eq_true h7] at t7
  replace hHG := hHG h7
  obtain ⟨xa, xc, rfl⟩ := HeldG.isSl hHG
  obtain ⟨xkind, xn, xu, xb, xs, xt, fl⟩ := x
  dsimp only at h7 hHG t7 ⊢
  subst h7
  obtain ⟨n, hn⟩ : ∃ n, fl.length = n := ⟨_, rfl⟩
  have HN := Lib.hid hn
  rw [hn] at hHG t7 ⊢
  have HHG := Lib.hid hHG
  have HKT := Lib.hid hkt
  have HFIT := Lib.hid hfit
  obtain ⟨v, hv⟩ : ∃ v, ival ⟨7, xn, xu, xb, xs, xt, fl⟩ (.slice xa n xc) = v := ⟨_, rfl⟩
  rw [hv] at t7 ⊢
  obtain ⟨Y, hY, hC, hb, hYs⟩ := box_new w #[.int .i64 xt, .slice xa n xc, .string (mkB xs)] 30
  have HYE := Lib.hid hY
  have HBY := Lib.hid hb
  have hYl : w.heap.size + 1 ≤ Y.heap.size := by omega
  have v1 : Y.cell? ⟨w.heap.size, 1, none⟩ = some (.slice xa n xc) := cell_at hC 1 rfl
  clear hn hHG hv hY hC hb hYs hfit hkt
  go_enter Tryd.func17, Tryd.ntmps17
  go_upto_region 2 with fail
  rw [HYE.out]
  clear t7
  go_wp2_with fail
  clear v1
  go_loopw [22] (fun i wr => ∃ j : Nat, i = .int .i64 (j : Int) ∧ j ≤ n ∧ Below Y.heap.size Y wr ∧ ∀ (k : Nat) (p : Int × List Nd), k < j → fl[k]? = some p → p.1 ≠ num) (fun i _ => n - (intOf i).toNat)
  case atStart => exact ⟨0, rfl, Nat.zero_le _, Below.refl _ _, fun k p hk => absurd hk (Nat.not_lt_zero _)⟩
  case round =>
    generalize wr = w1 at *
    obtain ⟨j, rfl, hj, hbel, hno⟩ := hrel
    have HBE := Lib.hid hbel
    have HNO := Lib.hid hno
    have hws := hbel.size
    have hBw := HBY.out.trans (hbel.mono HBY.out.size)
    have HBW := Lib.hid hBw
    clear hbel hno
    by_cases hjn : j < n
    · obtain ⟨y, hy⟩ : ∃ y, fl[j]? = some y := ⟨_, List.getElem?_eq_getElem (by have := HN.out; omega)⟩
      obtain ⟨f', g, go, gc, va, vc, hf', hsl, hg, e0, e1, hvals⟩ := HeldG.at HHG.out (W := w1) (fun b hb => hBw.block b hb) hy
      subst hf'
      rw [HN.out] at hsl
      obtain ⟨rfl, rfl⟩ := slice_two hsl
      have hyk := HKT.out.2 y (List.mem_of_getElem? hy)
      obtain ⟨hfl1, hfl2⟩ := HFIT.out.2.2 y (List.mem_of_getElem? hy)
      obtain ⟨ynum, ys⟩ := y
      dsimp only at hvals e0 e1 hyk hfl1 hfl2
      have HYJ := Lib.hid hy
      obtain ⟨mv, hmv⟩ : ∃ n, ys.length = n := ⟨_, rfl⟩
      have HMV := Lib.hid hmv
      rw [hmv] at e1 hvals hfl1
      have HYK := Lib.hid hyk
      have HFL2 := Lib.hid hfl2
      have HVA := Lib.hid hvals
      have hj0 : (0 : Int) ≤ (j : Int) := by omega
      have hj1 : (j : Int) < (n : Int) := by omega
      have hn1 : n ≤ 10000 := by have h1 := HFIT.out.2.1; have h2 := HN.out; dsimp only at h1; omega
      have hwq : IntKind.i64.wrap ((j : Int) + 1) = (j : Int) + 1 := by rw [IntKind.wrap_i64]; omega
      have hgN : g < w.heap.size := hg
      clear hsl hy hvals hmv hyk hfl2 hg
      have hC : (w1.alloc (.cells #[.int .i64 ynum, .slice va mv vc] 64)).heap[w1.heap.size]? = some (.cells #[.int .i64 ynum, .slice va mv vc] 64 (0, 0)) := alloc_heap_new _ _
      have hCb : Below w1.heap.size w1 (w1.alloc (.cells #[.int .i64 ynum, .slice va mv vc] 64)) := (Below.refl _ w1).alloc (Nat.le_refl _) _
      go_upto_region 7 with fail
      generalize (w1.alloc (.cells #[.int .i64 ynum, .slice va mv vc] 64)) = U at *
      have u0 : U.cell? ⟨w1.heap.size, 0, none⟩ = some (.int .i64 ynum) := cell_at hC 0 rfl
      have u1 : U.cell? ⟨w1.heap.size, 1, none⟩ = some (.slice va mv vc) := cell_at hC 1 rfl
      have hUs : w1.heap.size + 1 ≤ U.heap.size := by have := (Array.getElem?_eq_some_iff.1 hC).1; omega
      have HBU := Lib.hid (hBw.trans (hCb.mono hBw.size))
      have HBU2 := Lib.hid (HBE.out.trans (hCb.mono (by omega)))
      clear hC hCb hBw e0 e1
      by_cases hyn : ynum = num
      case neg =>
        have hye : (ynum == num) = false := by simp; exact hyn
        have HNO2 : Hid (∀ (k : Nat) (p : Int × List Nd), k < j + 1 → fl[k]? = some p → p.1 ≠ num) := by
          refine (?_ : ∀ (k : Nat) (p : Int × List Nd), _ → _ → _)
          intro k p hk hp
          by_cases hkj : k < j
          · exact HNO.out k p hkj hp
          · have e : k = j := by omega
            subst e
            rw [HYJ.out] at hp
            have e2 : (ynum, ys) = p := by injection hp
            rw [← e2]; exact hyn
        clear hyn
        go_wp2_with fail
        go_roundw
        case rel => exact ⟨j + 1, by go_num, by omega, HBU2.out, HNO2.out⟩
        case measure => simp [intOf]; omega
      subst hyn
      have HLK : Hid (valsF fl ynum = ys) := by
        refine (?_ : _ = _)
        unfold valsF
        rw [look_at HYJ.out HNO.out]; rfl
      have hmk := run_makeV U mv (by omega)
      obtain ⟨B, hB, hBC, hBb, hBs⟩ := box_new U (List.replicate mv Value.nilIface).toArray 34
      rw [hB] at hmk
      have HBB := Lib.hid hBb
      have HBC := Lib.hid hBC
      have b1 : B.cell? ⟨w1.heap.size, 1, none⟩ = some (.slice va mv vc) := (hBb.cell (by simp; omega)).trans u1
      have hBl : U.heap.size + 1 ≤ B.heap.size := by omega
      clear hB hBC hBb hBs HNO HYJ
      go_wp2_with fail
      clear u0 u1 b1 hmk
      go_loopw [37] (fun i wr => ∃ (p : Nat) (vs : List Value), i = .int .i64 (p : Int) ∧ p ≤ mv ∧ Below U.heap.size U wr ∧ U.heap.size + 1 ≤ wr.heap.size ∧ wr.heap[U.heap.size]? = some (.cells (vs ++ List.replicate (mv - p) Value.nilIface).toArray 34 (0, 0)) ∧ Filled wr U.heap.size f' (cpy f') (ys.take p) vs) (fun i _ => mv - (intOf i).toNat)
      case atStart => exact ⟨0, [], rfl, Nat.zero_le _, HBB.out, hBl, HBC.out, ⟨rfl, fun k y v h => by simp at h⟩⟩
      case round =>
        generalize wr = w2 at *
        obtain ⟨p, vs, rfl, hp, hbel, hws2, hbx, hfi⟩ := hrel
        have HB2 := Lib.hid hbel
        have HX2 := Lib.hid hbx
        have hBw2 := HBU.out.trans (hbel.mono HBU.out.size)
        have HBW2 := Lib.hid hBw2
        have HFI := Lib.hid hfi
        have HVL : Hid (vs.length = p) := by
          refine (?_ : _ = _)
          rw [hfi.1, List.length_take, HMV.out]; omega
        clear hbel hbx hfi HBB HBC
        by_cases hpn : p < mv
        · obtain ⟨c, hc⟩ : ∃ c, ys[p]? = some c := ⟨_, List.getElem?_eq_getElem (by have := HMV.out; omega)⟩
          obtain ⟨g2, o2, c2, fs2, hsl2, hg2, hcl, hheld⟩ := ValsG.at HVA.out hc
          rw [HMV.out] at hsl2
          obtain ⟨rfl, rfl⟩ := slice_two hsl2
          have hg2N : g2 < w.heap.size := hg2
          have hcl2 := hcl.old (hBw2.block g2 hg2N)
          have hck := HYK.out c (List.mem_of_getElem? hc)
          have HTP : Hid (ys.take (p + 1) = ys.take p ++ [c]) := take_snoc hc
          have hkc : c.kind = 7 → DepT f' 1 c := fun h => depT_down (hck h)
          have y0 : w2.cell? ⟨g2, o2 + p, none⟩ = some (ival c fs2) := by have := hcl2 0 _ rfl; simpa [valS] using this
          have hcall := fresh_any f' c (ival c fs2) w2 (HFL2.out c (List.mem_of_getElem? hc)) hkc ⟨fs2, rfl, fun hk => HeldG.mv (fun b hb => hBw2.block b hb) (fun b hb => by have hb' : b < w.heap.size := hb; have := hBw2.size; omega) (hheld (by simpa [valS] using hk))⟩
          obtain ⟨v2, hv2⟩ : ∃ v2, ival c fs2 = v2 := ⟨_, rfl⟩
          rw [hv2] at y0 hcall
          have hp0 : (0 : Int) ≤ (p : Int) := by omega
          have hp1 : (p : Int) < (mv : Int) := by omega
          have hwp : IntKind.i64.wrap ((p : Int) + 1) = (p : Int) + 1 := by rw [IntKind.wrap_i64]; omega
          clear hsl2 hc hg2 hcl hheld hcl2 hck hBw2 hv2 hkc
          go_wp2_with fail
          refine hcall.mono ?_
          rintro e W5 ⟨v5, rfl, hv5, hb5⟩
          rcases val_form hv5 with h5 | ⟨U5, u5, h5⟩
          · subst h5
            have hW5 := hb5.size
            have hX5 := (hb5.block U.heap.size (by omega)).trans HX2.out
            obtain ⟨k, hk⟩ : ∃ k, mv - p = k + 1 := ⟨mv - p - 1, by omega⟩
            rw [hk] at hX5
            have c5 : W5.cell? ⟨U.heap.size, p, none⟩ = some .nilIface := by
              simp only [World.cell?, hX5]
              have hvl := HVL.out
              simp [hvl, List.replicate_succ]
            have f5 : W5.frozen? ⟨U.heap.size, p, none⟩ = false := frz_at hX5 p
            obtain ⟨Q, hQ⟩ : ∃ Q, W5.setCell ⟨U.heap.size, p, none⟩ .nilIface = Q := ⟨_, rfl⟩
            have hQp : Q.heap[U.heap.size]? = some (.cells ((vs ++ [Value.nilIface]) ++ List.replicate (mv - (p + 1)) Value.nilIface).toArray 34 (0, 0)) := by
              rw [← hQ, setCell_heap hX5, set_made HVL.out, show mv - (p + 1) = k by omega]
            have hQs : Q.heap.size = W5.heap.size := by rw [← hQ]; simp
            have hQo : ∀ b, b ≠ U.heap.size → Q.heap[b]? = W5.heap[b]? := fun b hb => by rw [← hQ]; exact Below.heap_setCell _ _ _ _ hb
            have hQb : Below U.heap.size U Q := by rw [← hQ]; exact (HB2.out.trans (hb5.mono (by omega))).setCell (p := ⟨U.heap.size, p, none⟩) (Nat.le_refl _) _
            have HFQ : Hid (Filled Q U.heap.size f' (cpy f') (ys.take (p + 1)) (vs ++ [Value.nilIface])) := by
              refine (?_ : Filled _ _ _ _ _ _)
              rw [HTP.out]
              refine Filled.snoc (HFI.out.mv (fun b h1 h2 => (hQo b (by omega)).trans (hb5.block b h2)) (by omega)) ?_
              exact hv5.mv (fun b hb => hQo b (by have := hb.1; omega)) (fun b hb => ⟨by have := hb.1; omega, by have := hb.2; omega⟩)
            have HQ := Lib.hid hQ
            have HQP := Lib.hid hQp
            have HQB := Lib.hid hQb
            have hQl : U.heap.size + 1 ≤ Q.heap.size := by omega
            clear hQ hQp hQs hQb hb5 hX5 hcall y0 hv5 hQo
            go_wp2_with fail
            rw [HQ.out]
            clear c5 f5
            try go_wp2_with fail
            go_roundw
            case rel => exact ⟨p + 1, _, by go_num, by omega, HQB.out, hQl, HQP.out, HFQ.out⟩
            case measure => simp [intOf]; omega
          · subst h5
            have hW5 := hb5.size
            have hX5 := (hb5.block U.heap.size (by omega)).trans HX2.out
            obtain ⟨k, hk⟩ : ∃ k, mv - p = k + 1 := ⟨mv - p - 1, by omega⟩
            rw [hk] at hX5
            have c5 : W5.cell? ⟨U.heap.size, p, none⟩ = some .nilIface := by
              simp only [World.cell?, hX5]
              have hvl := HVL.out
              simp [hvl, List.replicate_succ]
            have f5 : W5.frozen? ⟨U.heap.size, p, none⟩ = false := frz_at hX5 p
            obtain ⟨Q, hQ⟩ : ∃ Q, W5.setCell ⟨U.heap.size, p, none⟩ (.iface U5 u5) = Q := ⟨_, rfl⟩
            have hQp : Q.heap[U.heap.size]? = some (.cells ((vs ++ [Value.iface U5 u5]) ++ List.replicate (mv - (p + 1)) Value.nilIface).toArray 34 (0, 0)) := by
              rw [← hQ, setCell_heap hX5, set_made HVL.out, show mv - (p + 1) = k by omega]
            have hQs : Q.heap.size = W5.heap.size := by rw [← hQ]; simp
            have hQo : ∀ b, b ≠ U.heap.size → Q.heap[b]? = W5.heap[b]? := fun b hb => by rw [← hQ]; exact Below.heap_setCell _ _ _ _ hb
            have hQb : Below U.heap.size U Q := by rw [← hQ]; exact (HB2.out.trans (hb5.mono (by omega))).setCell (p := ⟨U.heap.size, p, none⟩) (Nat.le_refl _) _
            have HFQ : Hid (Filled Q U.heap.size f' (cpy f') (ys.take (p + 1)) (vs ++ [Value.iface U5 u5])) := by
              refine (?_ : Filled _ _ _ _ _ _)
              rw [HTP.out]
              refine Filled.snoc (HFI.out.mv (fun b h1 h2 => (hQo b (by omega)).trans (hb5.block b h2)) (by omega)) ?_
              exact hv5.mv (fun b hb => hQo b (by have := hb.1; omega)) (fun b hb => ⟨by have := hb.1; omega, by have := hb.2; omega⟩)
            have HQ := Lib.hid hQ
            have HQP := Lib.hid hQp
            have HQB := Lib.hid hQb
            have hQl : U.heap.size + 1 ≤ Q.heap.size := by omega
            clear hQ hQp hQs hQb hb5 hX5 hcall y0 hv5 hQo
            go_wp2_with fail
            rw [HQ.out]
            clear c5 f5
            try go_wp2_with fail
            go_roundw
            case rel => exact ⟨p + 1, _, by go_num, by omega, HQB.out, hQl, HQP.out, HFQ.out⟩
            case measure => simp [intOf]; omega
        · have hpn' : ¬ (p : Int) < (mv : Int) := by omega
          have hpe : p = mv := by omega
          have HRES : Hid (GetAns (f' + 1) (valsF fl ynum) w (.returned (.slice (some ⟨U.heap.size, 0, none⟩) mv mv)) w2) := by
            refine (?_ : GetAns _ _ _ _ _)
            rw [HLK.out]
            have hx2 := HX2.out
            have hfi := HFI.out
            rw [hpe, Nat.sub_self, List.replicate_zero, List.append_nil] at hx2
            rw [hpe, List.take_of_length_le (by rw [HMV.out]; exact Nat.le_refl _)] at hfi
            have hva := hfi.vals hx2 HMV.out
            have e : ys.map (cpy f') = ys := by show ys.map (fun x => x) = ys; rw [List.map_id']
            rw [e] at hva
            refine ⟨some ⟨U.heap.size, 0, none⟩, mv, by rw [HMV.out], ?_, HBW2.out⟩
            rw [HMV.out]
            exact ValsG.mv (fun _ _ => rfl) (fun b hb => ⟨by have := hb.1; have := HBU.out.size; omega, hb.2⟩) hva
          clear hBw2 hpe
          go_wp2_with fail
          go_ret
          exact HRES.out
    · have hjn' : ¬ (j : Int) < (n : Int) := by omega
      have HLK : Hid (valsF fl num = []) := by
        refine (?_ : _ = _)
        unfold valsF
        rw [look_no fun k p hp => HNO.out k p (by have h1 := (List.getElem?_eq_some_iff.1 hp).1; have h2 := HN.out; omega) hp]; rfl
      have HRES : Hid (GetAns f (valsF fl num) w (.returned (.slice none 0 0)) w1) := by
        refine (?_ : GetAns _ _ _ _ _)
        rw [HLK.out]
        exact ⟨none, 0, rfl, SlIn.nil _ _ _ none 0, HBW.out⟩
      clear hBw
      go_wp2_with fail
      go_ret
      exact HRES.out
set_option maxHeartbeats 16000000 in
set_option maxRecDepth 20000 in
theorem getD_any (f : Nat) (x : Nd) (v : Value) (num : Int) (w : World) (h7 : x.kind = 7) (hfit : FitG 100000 10000 f x) (hkt : DepT f 1 x) (hHV : HeldV w (fun b => b < w.heap.size) f v x) :
    Calls Tryd.prog 11 #[v, .int .i64 num] w fun e w' => GetAns f (valsF x.fields num) w e w' := by
  have h := freshValues_any f x v num w h7 hfit hkt hHV
  clear h7 hfit hkt hHV
  obtain ⟨ys, hys⟩ : ∃ ys, valsF x.fields num = ys := ⟨_, rfl⟩
  rw [hys] at h ⊢
  clear hys
  go_enter Tryd.func11, Tryd.ntmps11
  go_wp2_with fail
  refine h.mono ?_
  rintro e W ⟨a, c, rfl, hv, hb⟩
  have HR : Hid (GetAns f ys w (.returned (.slice a ys.length c)) W) := ⟨a, c, rfl, hv, hb⟩
  clear h hv hb
  go_wp2_with fail
  go_ret
  exact HR.out
end Go.Proofs.YtknijddlacmelaaDoor
