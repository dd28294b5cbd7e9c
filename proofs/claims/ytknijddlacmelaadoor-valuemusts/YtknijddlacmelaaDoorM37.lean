/-
  The walks over the program's Must and the law's must: of a Message it is told, in new memory; of all else there is a panic, which is caught.
-/
import Derived.Test.YtknijddlacmelaaDoorM36
import Derived.Defers
import Derived.Recover
namespace Go.Proofs.YtknijddlacmelaaDoor
set_option linter.unusedVariables false
open Go.ChangeShapes Go.WideShapes Go.ChangeAt Go.RowKit

theorem sameO2_any (f : Nat) (x : Nd) (W : World) (a0 a1 a2 : Int) (a3 : Bool) (a4 : ByteArray) (a5 : Int) (sa : Option Addr) (sl sc : Nat) (fa : Value) (b0 b1 b2 : Int) (b3 : Bool) (b4 : ByteArray) (b5 : Int) (ta : Option Addr) (tl tc : Nat) (fb : Value) (hfit : FitG 100000 10000 f x)
    (ha : [.int .i64 a0, .int .i64 a1, .int .u64 a2, .bool a3, .string a4, .int .i64 a5, .slice sa sl sc] = clS.row x fa) (hga : x.kind = 7 → HeldG clS W (fun b => b < W.heap.size) f fa x.fields)
    (hb : [.int .i64 b0, .int .i64 b1, .int .u64 b2, .bool b3, .string b4, .int .i64 b5, .slice ta tl tc] = clS.row x fb) (hgb : x.kind = 7 → HeldG clS W (fun b => b < W.heap.size) f fb x.fields) :
    Calls Tryd.prog 8 #[.agg #[.int .i64 a0, .int .i64 a1, .int .u64 a2, .bool a3, .string a4, .int .i64 a5, .slice sa sl sc], .agg #[.int .i64 b0, .int .i64 b1, .int .u64 b2, .bool b3, .string b4, .int .i64 b5, .slice ta tl tc]] W fun e w' => e = .returned (.bool true) ∧ Below W.heap.size W w' := by
  obtain ⟨rfl, rfl, rfl, rfl, rfl, rfl, h1⟩ := row_cn ha
  obtain ⟨rfl, rfl, rfl, rfl, rfl, rfl, h2⟩ := row_cn hb
  by_cases hk : x.kind = 7
  · rw [if_pos hk] at h1 h2
    subst h1 h2
    obtain ⟨_, _, e1⟩ := HeldG.isSl (hga hk)
    obtain ⟨_, _, e2⟩ := HeldG.isSl (hgb hk)
    obtain ⟨_, rfl, _⟩ := Value.slice.inj e1
    obtain ⟨_, rfl, _⟩ := Value.slice.inj e2
    exact sameN_any f x (cn x) sa ta x.fields.length sc tc W rfl hfit ⟨fun _ => ⟨hga hk, rfl⟩, fun h => absurd hk h⟩ ⟨fun _ => ⟨hgb hk, rfl⟩, fun h => absurd hk h⟩
  · rw [if_neg hk] at h1 h2
    obtain ⟨rfl, rfl, rfl⟩ := Value.slice.inj h1
    obtain ⟨rfl, rfl, rfl⟩ := Value.slice.inj h2
    exact sameN_any f x (cn x) none none 0 0 0 W rfl hfit ⟨fun h => absurd h hk, fun _ => rfl⟩ ⟨fun h => absurd h hk, fun _ => rfl⟩
theorem must1_ret (p : Addr) (w : World) :
    CallsD Tryd.prog 15 #[.pointer (some p)] .returning w fun e u' w' => e = .returned (.tuple #[]) ∧ u' = .returning ∧ w' = w := by
  refine callsD_of_wpS Tryd.func15 rfl fun c₀ cs hu => ?_
  apply wpS_seq
  apply wpS_region
  simp [wpOpsS, go_sem, recoverD, hu, Tryd.ntmps15, Exit.thenS]
  refine wpS_cond (t := false) (by simp [Act.eval, Array.replicate]) ?_
  simp only [Bool.false_eq_true, if_false]
  refine wpS_of_wp (wp_skip ?_)
  cases c₀
  simp_all [bodyPostS, results, Tryd.results15]
theorem must1_pan (p : Addr) (x : Bool) (u : TypeId) (pv : Value) (older : List PanicEntry) (w : World) (hc : w.cell? p = some (.bool x)) (hz : w.frozen? p = false) :
    CallsD Tryd.prog 15 #[.pointer (some p)] (.panicking ({ v := .iface u pv, recovered := false } :: older)) w fun e u' w' =>
      e = .returned (.tuple #[]) ∧ u' = .panicking ({ v := .iface u pv, recovered := true } :: older) ∧ w' = w.setCell p (.bool true) := by
  refine callsD_of_wpS Tryd.func15 rfl fun c₀ cs hu => ?_
  apply wpS_seq
  apply wpS_region
  simp [wpOpsS, go_sem, recoverD, hu, Tryd.ntmps15, Exit.thenS]
  refine wpS_cond (t := true) (by simp [Act.eval, Array.replicate]) ?_
  simp only [if_true]
  apply wpS_region
  simp [wpOpsS, go_sem, hc, hz, bodyPostS, results, Tryd.results15]
set_option maxHeartbeats 16000000 in
set_option maxRecDepth 20000 in
theorem mustP_not (f : Nat) (x : Nd) (v : Value) (w : World) (hfit : FitG 100000 10000 f x) (hk : x.kind ≠ 7) (hHV : HeldV w (fun b => b < w.heap.size) f v x) :
    Calls Tryd.prog 16 #[v] w fun e w' => ∃ u pv, e = .panicked [{ v := .iface u pv, recovered := false }] ∧ Below w.heap.size w w' := by
  obtain ⟨Y, hY, hC, hb, hYs⟩ := box_new w #[.int .i64 0, .slice none 0 0, .string ⟨#[]⟩] 30
  have hfr := fresh_any f x v Y hfit (fun h => absurd h hk) (hHV.mv (fun b h => hb.block b h) (fun b h => by have h' : b < w.heap.size := h; omega))
  have HY := Lib.hid hY
  have HB := Lib.hid hb
  have HK := Lib.hid hk
  clear hY hC hb hYs hfit hHV hk
  go_enter Tryd.func16, Tryd.ntmps16
  go_upto_region 1 with fail
  rw [HY.out]
  go_wp2_with fail
  refine hfr.mono ?_
  rintro e W ⟨u, rfl, hu, hbW⟩
  have HBW := Lib.hid (HB.out.trans (hbW.mono HB.out.size))
  obtain ⟨fs, hue, _⟩ := hu
  have hform : (∃ U u', u = .iface U u' ∧ U ≠ 30) ∨ u = .nilIface := by
    have hk := HK.out
    rcases ival_cases x fs with ⟨k, e⟩ | ⟨k, e⟩ | ⟨k, e⟩ | ⟨k, e⟩ | ⟨k, e⟩ | ⟨k, e⟩ | ⟨k, e⟩ | ⟨k, e⟩ <;> rw [hue, e] <;> first | exact absurd k hk | exact .inl ⟨_, _, rfl, by decide⟩ | exact .inr rfl
  clear hfr hbW HB HY hue
  rcases hform with ⟨U, u', rfl, hU⟩ | rfl
  · obtain ⟨cs, hcs⟩ := ta_fail U u' hU W
    have HBX := Lib.hid (HBW.out.trans (((Below.refl _ W).alloc (Nat.le_refl _) (.cells cs 165)).mono HBW.out.size))
    go_wp2_with fail
    exact ⟨rfl, _, _, rfl, HBX.out⟩
  · obtain ⟨cs, hcs⟩ := ta_failN W
    have HBX := Lib.hid (HBW.out.trans (((Below.refl _ W).alloc (Nat.le_refl _) (.cells cs 165)).mono HBW.out.size))
    go_wp2_with fail
    exact ⟨rfl, _, _, rfl, HBX.out⟩
theorem ta_ok (a : Value) (W : World) : (Instr.typeAssert (.iface 30 a) 34 30 false).run Tryd.prog W = .ok a W := by
  simp [Instr.typeAssert, run_underlying Tryd.underlying30]
set_option maxHeartbeats 16000000 in
set_option maxRecDepth 20000 in
theorem mustP_msg (f : Nat) (xn xu : Int) (xb : Bool) (xs : List UInt8) (xt : Int) (fl : List (Int × List Nd)) (v : Value) (w : World) (hfit : FitG 100000 10000 f ⟨7, xn, xu, xb, xs, xt, fl⟩) (hd : DepT f 1 ⟨7, xn, xu, xb, xs, xt, fl⟩) (hHV : HeldV w (fun b => b < w.heap.size) f v ⟨7, xn, xu, xb, xs, xt, fl⟩) :
    Calls Tryd.prog 16 #[v] w fun e w' => ∃ ma mc, e = .returned (.agg #[.int .i64 xt, .slice ma fl.length mc, .string (mkB xs)]) ∧ HeldG valS w' (fun b => w.heap.size ≤ b ∧ b < w'.heap.size) f (.slice ma fl.length mc) fl ∧ Below w.heap.size w w' := by
  obtain ⟨Y, hY, hC, hb, hYs⟩ := box_new w #[.int .i64 0, .slice none 0 0, .string ⟨#[]⟩] 30
  have hfr := fresh_any f ⟨7, xn, xu, xb, xs, xt, fl⟩ v Y hfit (fun _ => hd) (hHV.mv (fun b h => hb.block b h) (fun b h => by have h' : b < w.heap.size := h; omega))
  have HY := Lib.hid hY
  have HB := Lib.hid hb
  have HC := Lib.hid hC
  have hYl : w.heap.size + 1 ≤ Y.heap.size := by omega
  clear hY hC hb hYs hfit hHV hd
  go_enter Tryd.func16, Tryd.ntmps16
  go_upto_region 1 with fail
  rw [HY.out]
  go_wp2_with fail
  refine hfr.mono ?_
  rintro e W ⟨u, rfl, ⟨fs, hue, hfs⟩, hbW⟩
  have hu2 : u = .iface 30 (.agg #[.int .i64 xt, fs, .string (mkB xs)]) := hue
  subst hu2
  have hgs := hfs rfl
  dsimp only at hgs
  obtain ⟨ma, mc, rfl⟩ := HeldG.isSl hgs
  have hCW : W.heap[w.heap.size]? = some (.cells #[.int .i64 0, .slice none 0 0, .string ⟨#[]⟩] 30 (0, 0)) := (hbW.block _ (by omega)).trans HC.out
  have hBW := HB.out.trans (hbW.mono HB.out.size)
  have hws := hbW.size
  obtain ⟨Z, hZ, hZC, hZb⟩ := set3V hCW (.int .i64 xt) (.slice ma fl.length mc) (.string (mkB xs))
  have hta := fun W' => ta_ok (.agg #[.int .i64 xt, .slice ma fl.length mc, .string (mkB xs)]) W'
  have c0 : W.cell? ⟨w.heap.size, 0, none⟩ = some (.int .i64 0) := cell_at hCW 0 rfl
  have c1 : W.cell? ⟨w.heap.size, 1, none⟩ = some (.slice none 0 0) := cell_at hCW 1 rfl
  have c2 : W.cell? ⟨w.heap.size, 2, none⟩ = some (.string ⟨#[]⟩) := cell_at hCW 2 rfl
  have f0 : W.frozen? ⟨w.heap.size, 0, none⟩ = false := frz_at hCW 0
  have f1 : W.frozen? ⟨w.heap.size, 1, none⟩ = false := frz_at hCW 1
  have f2 : W.frozen? ⟨w.heap.size, 2, none⟩ = false := frz_at hCW 2
  have HZ := Lib.hid hZ
  have z0 : Z.cell? ⟨w.heap.size, 0, none⟩ = some (.int .i64 xt) := cell_at hZC 0 rfl
  have z1 : Z.cell? ⟨w.heap.size, 1, none⟩ = some (.slice ma fl.length mc) := cell_at hZC 1 rfl
  have z2 : Z.cell? ⟨w.heap.size, 2, none⟩ = some (.string (mkB xs)) := cell_at hZC 2 rfl
  have HG : Hid (HeldG valS Z (fun b => w.heap.size ≤ b ∧ b < Z.heap.size) f (.slice ma fl.length mc) fl) := HeldG.mv (fun b hb => by
      have hne : b ≠ w.heap.size := by have := hb.1; omega
      rw [← hZ]
      exact ((Below.heap_setCell _ _ _ _ hne).trans ((Below.heap_setCell _ _ _ _ hne).trans (Below.heap_setCell _ _ _ _ hne)))) (fun b hb => ⟨by have := hb.1; omega, by have := hb.2; have := hZb.size; omega⟩) hgs
  have HBZ := Lib.hid (hBW.trans hZb)
  clear hfr hbW hCW hBW hZ hZC hZb hgs hfs hue
  go_wp2_with fail
  rw [HZ.out]
  refine bodyPost_ret (v := .agg #[.int .i64 xt, .slice ma fl.length mc, .string (mkB xs)]) (by simp [results, Tryd.results16, go_sem, z0, z1, z2]) rfl ⟨_, _, rfl, HG.out, HBZ.out⟩
set_option maxHeartbeats 16000000 in
set_option maxRecDepth 20000 in
theorem must_not (f : Nat) (x : Nd) (v : Value) (w : World) (hfit : FitG 100000 10000 f x) (hk : x.kind ≠ 7) (hHV : HeldV w (fun b => b < w.heap.size) f v x) :
    Calls Tryd.prog 6 #[v] w fun e w' => e = .returned (.tuple #[.agg #[.int .i64 0, .slice none 0 0, .string ⟨#[]⟩], .bool true]) ∧ Below w.heap.size w w' := by
  have hmf : ∀ (fn : Fn) (first cap : Array Value) (w : World), (Instr.makeFunc fn first cap).run Tryd.prog w = .ok (.func fn first cap) w := fun _ _ _ _ => rfl
  obtain ⟨Y, hY, hC, hb, hYs⟩ := box_new w #[.int .i64 0, .slice none 0 0, .string ⟨#[]⟩] 30
  obtain ⟨Z, hZ, hD, hz, hZs⟩ := box_new Y #[.bool false] 4
  rw [hYs] at hD
  have hCZ := (hz.block _ (by omega)).trans hC
  have hBZ := hb.trans (hz.mono hb.size)
  have hmu := mustP_not f x v Z hfit hk (hHV.mv (fun b h => hBZ.block b h) (fun b h => by have h' : b < w.heap.size := h; omega))
  have HY := Lib.hid hY
  have HZ := Lib.hid hZ
  have HC := Lib.hid hCZ
  have HD := Lib.hid hD
  have HBZ := Lib.hid hBZ
  have hZl : w.heap.size + 2 ≤ Z.heap.size := by omega
  clear hY hC hb hYs hZ hD hz hZs hCZ hBZ hfit hHV hk
  go_enter_defers Tryd.func6, Tryd.ntmps6
  go_upto_region 1 with fail
  rw [HY.out, HZ.out]
  go_wp2_with fail
  refine hmu.mono ?_
  rintro e W ⟨u, pv, rfl, hbW⟩
  have hCW := (hbW.block _ (by omega)).trans HC.out
  have hDW := (hbW.block _ (by omega)).trans HD.out
  have hBW := HBZ.out.trans (hbW.mono HBZ.out.size)
  refine leaves_cons (f := 15) (args := #[.pointer (some ⟨w.heap.size + 1, 0, none⟩)]) (by simp) (by simp [go_sem]) ?_
  refine (must1_pan ⟨w.heap.size + 1, 0, none⟩ false u pv [] W (cell_at hDW 0 rfl) (frz_at hDW 0)).mono ?_
  rintro e u' w'' ⟨rfl, rfl, rfl⟩
  have hq : (W.setCell ⟨w.heap.size + 1, 0, none⟩ (.bool true)).heap[w.heap.size]? = W.heap[w.heap.size]? := Below.heap_setCell _ _ _ _ (by show w.heap.size ≠ w.heap.size + 1; omega)
  have hCQ := hq.trans hCW
  have hDQ : (W.setCell ⟨w.heap.size + 1, 0, none⟩ (.bool true)).heap[w.heap.size + 1]? = some (.cells #[.bool true] 4 (0, 0)) := by rw [setCell_heap hDW]; rfl
  have z0 := cell_at hCQ 0 rfl
  have z1 := cell_at hCQ 1 rfl
  have z2 := cell_at hCQ 2 rfl
  have z3 := cell_at hDQ 0 rfl
  have hBQ : Below w.heap.size w (W.setCell ⟨w.heap.size + 1, 0, none⟩ (.bool true)) := hBW.setCell (p := ⟨w.heap.size + 1, 0, none⟩) (by simp) _
  generalize W.setCell ⟨w.heap.size + 1, 0, none⟩ (.bool true) = Q at *
  simp [Leaves, settle, results, Tryd.results6, go_sem, z0, z1, z2, z3]
  exact hBQ
set_option maxHeartbeats 16000000 in
set_option maxRecDepth 20000 in
theorem must_msg (f : Nat) (xn xu : Int) (xb : Bool) (xs : List UInt8) (xt : Int) (fl : List (Int × List Nd)) (v : Value) (w : World) (hfit : FitG 100000 10000 f ⟨7, xn, xu, xb, xs, xt, fl⟩) (hd : DepT f 1 ⟨7, xn, xu, xb, xs, xt, fl⟩) (hHV : HeldV w (fun b => b < w.heap.size) f v ⟨7, xn, xu, xb, xs, xt, fl⟩) :
    Calls Tryd.prog 6 #[v] w fun e w' => ∃ ma mc, e = .returned (.tuple #[.agg #[.int .i64 xt, .slice ma fl.length mc, .string (mkB xs)], .bool false]) ∧ HeldG valS w' (fun b => w.heap.size ≤ b ∧ b < w'.heap.size) f (.slice ma fl.length mc) fl ∧ Below w.heap.size w w' := by
  have hmf : ∀ (fn : Fn) (first cap : Array Value) (w : World), (Instr.makeFunc fn first cap).run Tryd.prog w = .ok (.func fn first cap) w := fun _ _ _ _ => rfl
  obtain ⟨Y, hY, hC, hb, hYs⟩ := box_new w #[.int .i64 0, .slice none 0 0, .string ⟨#[]⟩] 30
  obtain ⟨Z, hZ, hD, hz, hZs⟩ := box_new Y #[.bool false] 4
  rw [hYs] at hD
  have hCZ := (hz.block _ (by omega)).trans hC
  have hBZ := hb.trans (hz.mono hb.size)
  have hmu := mustP_msg f xn xu xb xs xt fl v Z hfit hd (hHV.mv (fun b h => hBZ.block b h) (fun b h => by have h' : b < w.heap.size := h; omega))
  have HY := Lib.hid hY
  have HZ := Lib.hid hZ
  have HC := Lib.hid hCZ
  have HD := Lib.hid hD
  have HBZ := Lib.hid hBZ
  have hZl : w.heap.size + 2 ≤ Z.heap.size := by omega
  clear hY hC hb hYs hZ hD hz hZs hCZ hBZ hfit hHV hd
  go_enter_defers Tryd.func6, Tryd.ntmps6
  go_upto_region 1 with fail
  rw [HY.out, HZ.out]
  go_wp2_with fail
  refine hmu.mono ?_
  rintro e W ⟨ma, mc, rfl, hgs, hbW⟩
  have hws := hbW.size
  have hCW := (hbW.block _ (by omega)).trans HC.out
  have hDW := (hbW.block _ (by omega)).trans HD.out
  have hBW := HBZ.out.trans (hbW.mono HBZ.out.size)
  obtain ⟨X, hX, hXC, hXb⟩ := set3V hCW (.int .i64 xt) (.slice ma fl.length mc) (.string (mkB xs))
  have hXo : ∀ b, b ≠ w.heap.size → X.heap[b]? = W.heap[b]? := fun b hne => by
    rw [← hX]
    exact ((Below.heap_setCell _ _ _ _ hne).trans ((Below.heap_setCell _ _ _ _ hne).trans (Below.heap_setCell _ _ _ _ hne)))
  have hXD := (hXo (w.heap.size + 1) (by omega)).trans hDW
  obtain ⟨Q, hQ⟩ : ∃ Q, X.setCell ⟨w.heap.size + 1, 0, none⟩ (.bool false) = Q := ⟨_, rfl⟩
  have hQo : ∀ b, b ≠ w.heap.size + 1 → Q.heap[b]? = X.heap[b]? := fun b hne => by rw [← hQ]; exact Below.heap_setCell _ _ _ _ hne
  have hQC := (hQo w.heap.size (by omega)).trans hXC
  have hQD : Q.heap[w.heap.size + 1]? = some (.cells #[.bool false] 4 (0, 0)) := by rw [← hQ, setCell_heap hXD]; rfl
  have hXs : X.heap.size = W.heap.size := by rw [← hX]; simp
  have hQs : Q.heap.size = W.heap.size := by rw [← hQ, ← hXs]; simp
  have c0 : W.cell? ⟨w.heap.size, 0, none⟩ = some (.int .i64 0) := cell_at hCW 0 rfl
  have c1 : W.cell? ⟨w.heap.size, 1, none⟩ = some (.slice none 0 0) := cell_at hCW 1 rfl
  have c2 : W.cell? ⟨w.heap.size, 2, none⟩ = some (.string ⟨#[]⟩) := cell_at hCW 2 rfl
  have f0 : W.frozen? ⟨w.heap.size, 0, none⟩ = false := frz_at hCW 0
  have f1 : W.frozen? ⟨w.heap.size, 1, none⟩ = false := frz_at hCW 1
  have f2 : W.frozen? ⟨w.heap.size, 2, none⟩ = false := frz_at hCW 2
  have d0 : X.cell? ⟨w.heap.size + 1, 0, none⟩ = some (.bool false) := cell_at hXD 0 rfl
  have d1 : X.frozen? ⟨w.heap.size + 1, 0, none⟩ = false := frz_at hXD 0
  have d2 : W.cell? ⟨w.heap.size + 1, 0, none⟩ = some (.bool false) := cell_at hDW 0 rfl
  have d3 : W.frozen? ⟨w.heap.size + 1, 0, none⟩ = false := frz_at hDW 0
  have HX := Lib.hid hX
  have HQ := Lib.hid hQ
  have z0 := cell_at hQC 0 rfl
  have z1 := cell_at hQC 1 rfl
  have z2 := cell_at hQC 2 rfl
  have z3 := cell_at hQD 0 rfl
  have HZ0 := Lib.hid z0
  have HZ1 := Lib.hid z1
  have HZ2 := Lib.hid z2
  have HZ3 := Lib.hid z3
  have HG : Hid (HeldG valS Q (fun b => w.heap.size ≤ b ∧ b < Q.heap.size) f (.slice ma fl.length mc) fl) := HeldG.mv (fun b hb => (hQo b (by have := hb.1; omega)).trans (hXo b (by have := hb.1; omega))) (fun b hb => ⟨by have := hb.1; omega, by have := hb.2; omega⟩) hgs
  have HBQ : Hid (Below w.heap.size w Q) := by
    refine (?_ : Below _ _ _)
    rw [← hQ]
    exact (hBW.trans hXb).setCell (p := ⟨w.heap.size + 1, 0, none⟩) (by simp) _
  clear hmu hbW hCW hDW hBW hX hXC hXb hXo hXD hQ hQo hQC hQD hXs hQs hgs z0 z1 z2 z3
  go_wp2_with fail
  rw [HX.out, HQ.out]
  refine leaves_cons (f := 15) (args := #[.pointer (some ⟨w.heap.size + 1, 0, none⟩)]) (by simp) (by simp [go_sem]) ?_
  refine (must1_ret ⟨w.heap.size + 1, 0, none⟩ Q).mono ?_
  rintro e u' w'' ⟨rfl, rfl, rfl⟩
  have z0 := HZ0.out
  have z1 := HZ1.out
  have z2 := HZ2.out
  have z3 := HZ3.out
  simp [Leaves, settle, results, Tryd.results6, go_sem, z0, z1, z2, z3]
  first
    | exact ⟨HG.out, HBQ.out⟩
    | exact ⟨_, _, ⟨rfl, rfl⟩, HG.out, HBQ.out⟩
theorem get_not (f : Nat) (x : Nd) (v : Value) (num : Int) (w : World) (hk : ¬ x.kind = 7) (hHV : HeldV w (fun b => b < w.heap.size) f v x) :
    Calls Tryd.prog 11 #[v, .int .i64 num] w fun e w' => e = .returned (.slice none 0 0) ∧ Below w.heap.size w w' := by
  obtain ⟨fs, rfl, _⟩ := hHV
  have t7 := fun W => taMessage x fs W
  rw [if_neg hk, decide_eq_false hk] at t7
  obtain ⟨v, hv⟩ : ∃ v, ival x fs = v := ⟨_, rfl⟩
  rw [hv] at t7 ⊢
  obtain ⟨Y, hY, hC, hb, hYs⟩ := box_new w #[.int .i64 0, .slice none 0 0, .string ⟨#[]⟩] 30
  have HY := Lib.hid hY
  have HB := Lib.hid hb
  clear hk hv hY hC hb hYs
  have hfv : Calls Tryd.prog 17 #[v, .int .i64 num] w fun e w' => e = .returned (.slice none 0 0) ∧ Below w.heap.size w w' := by
    go_enter Tryd.func17, Tryd.ntmps17
    go_upto_region 2 with fail
    rw [HY.out]
    go_wp2_with fail
    go_ret
    exact ⟨rfl, HB.out⟩
  clear t7 HY HB
  go_enter Tryd.func11, Tryd.ntmps11
  go_wp2_with fail
  refine hfv.mono ?_
  rintro e W ⟨rfl, hb⟩
  have HB := Lib.hid hb
  clear hfv hb
  go_wp2_with fail
  go_ret
  exact ⟨rfl, HB.out⟩
end Go.Proofs.YtknijddlacmelaaDoor
