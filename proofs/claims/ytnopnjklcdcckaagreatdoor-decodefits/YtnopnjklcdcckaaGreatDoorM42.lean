/-
  The walk over the program's Same, of two values that lie in memory as one tree: it answers true.
  Numbers packed, in parts and alone: the arithmetic. Nothing is proved of the program here.
-/
import Derived.Test.YtnopnjklcdcckaaGreatDoorM7
import Derived.Test.YtnopnjklcdcckaaGreatDoorM16
import Derived.Test.YtnopnjklcdcckaaGreatDoorM9
import Derived.Defers
import Derived.Recover
import Derived.Laws.Pointers
import Derived.Lib.IfaceEq
import Derived.Test.YtnopnjklcdcckaaGreatDoorM41
namespace Go.Proofs.YtnopnjklcdcckaaGreatDoor
set_option linter.unusedVariables false
open Go.ChangeShapes Go.WideShapes Go.ChangeAt Go.RowKit

/-- every value is one, and none lies too deep -/
def KindT : Nat → Int → Nd → Prop
  | 0, d, x => d ≤ 65536
  | f + 1, d, x => d ≤ 65536 ∧ ∀ p ∈ x.fields, ∀ y ∈ p.2, (1 ≤ y.kind ∧ y.kind ≤ 7) ∧ (y.kind = 7 → KindT f (d + 1) y)
theorem KindT.le {f : Nat} {d : Int} {x : Nd} (h : KindT f d x) : d ≤ 65536 := by
  cases f with
  | zero => exact h
  | succ f => exact h.1
theorem kindT_of {ms : List MD} : ∀ (f : Nat) (dep t : Int) (x : Nd), fitP ms f dep t x = true → KindT f dep x
  | 0, dep, t, x, h => by
    rw [fitP_eq, topP, Bool.and_eq_true, decide_eq_true_eq] at h
    show dep ≤ 65536
    omega
  | f + 1, dep, t, x, h => by
    rw [fitP_eq, topP, Bool.and_eq_true, decide_eq_true_eq] at h
    obtain ⟨⟨hk7, ht, hd⟩, hb⟩ := h
    refine ⟨by omega, fun p hp y hy => ?_⟩
    cases hm : ms[t.toNat]? with
    | none => rw [hm] at hb; cases hb
    | some m =>
      rw [hm] at hb
      simp only at hb
      unfold bodyP at hb
      rw [Bool.and_eq_true] at hb
      obtain ⟨j, hj⟩ := List.getElem?_of_mem hp
      have h2 := allA_iff.1 hb.1 j p hj
      rw [Bool.and_eq_true] at h2
      have h3 := h2.2
      unfold fldP at h3
      cases hf : firstF m.fields p.1 with
      | none => rw [hf] at h3; cases h3
      | some fd =>
        rw [hf] at h3
        simp only [Bool.and_eq_true] at h3
        obtain ⟨_, _, h5⟩ := h3
        obtain ⟨a, ha⟩ := List.getElem?_of_mem hy
        have h6 := allA_iff.1 h5 a y ha
        have hr : ∀ t y, recP ms dep (f + 1) t y = true → y.kind = 7 := fun t y h => by
          have h' : fitP ms f (dep + 1) t y = true := h
          rw [fitP_eq, topP, Bool.and_eq_true, decide_eq_true_eq] at h'
          exact h'.1.1
        refine ⟨val_kind hr h6, fun hy7 => ?_⟩
        unfold valP at h6
        split at h6
        · exact kindT_of f (dep + 1) fd.type y h6
        · unfold kindB at h6
          rw [hy7] at h6
          repeat' split at h6
          all_goals simp at h6
theorem alikeD_any (p : Addr) (w : World) :
    CallsD Tryz.prog 62 #[.pointer (some p)] .returning w fun e u' w' => e = .returned (.tuple #[]) ∧ u' = .returning ∧ w' = w := by
  refine callsD_of_wpS Tryz.func62 rfl fun c₀ cs hu => ?_
  apply wpS_seq
  apply wpS_region
  simp [wpOpsS, go_sem, recoverD, hu, Tryz.ntmps62, Exit.thenS]
  refine wpS_cond (t := false) (by simp [Act.eval, Array.replicate]) ?_
  simp only [Bool.false_eq_true, if_false]
  refine wpS_of_wp (wp_skip ?_)
  cases c₀
  simp_all [bodyPostS, results, Tryz.results62]
theorem bytes_self (b : ByteArray) : (b == b) = true := by
  cases b with
  | mk d =>
    show ByteArray.beq ⟨d⟩ ⟨d⟩ = true
    unfold ByteArray.beq
    simp
theorem eqI_bool (w : World) {t tx : TypeId} {ms : Array (String × TypeId)} (b : Bool) (ht : Tryz.prog.underlying t = some (.interface ms)) (hc : (Tryz.prog.info? tx).map (·.comparable) = some true) (hx : Tryz.prog.underlying tx = some .bool) :
    (binOp .eql t (.iface tx (.bool b)) (.iface tx (.bool b))).run Tryz.prog w = .ok (.bool true) w := by
  obtain ⟨i, hi, hcc⟩ := Option.map_eq_some_iff.1 hc
  have h : ∀ d : Nat, (Op.equalIn (d + 2) t (.iface tx (.bool b)) (.iface tx (.bool b))).run Tryz.prog w = .ok true w := fun d => by
    simp [Op.equalIn, run_underlying ht, run_underlying hx, typeInfo, hi, hcc]
  simp only [binOp]
  simp [Op.equal, Op.maxDepth, h 9998]
theorem eqI_str (w : World) {t tx : TypeId} {ms : Array (String × TypeId)} (b : ByteArray) (ht : Tryz.prog.underlying t = some (.interface ms)) (hc : (Tryz.prog.info? tx).map (·.comparable) = some true) (hx : Tryz.prog.underlying tx = some .string) :
    (binOp .eql t (.iface tx (.string b)) (.iface tx (.string b))).run Tryz.prog w = .ok (.bool true) w := by
  obtain ⟨i, hi, hcc⟩ := Option.map_eq_some_iff.1 hc
  have h : ∀ d : Nat, (Op.equalIn (d + 2) t (.iface tx (.string b)) (.iface tx (.string b))).run Tryz.prog w = .ok true w := fun d => by
    simp [Op.equalIn, run_underlying ht, run_underlying hx, typeInfo, hi, hcc]
    exact bytes_self b
  simp only [binOp]
  simp [Op.equal, Op.maxDepth, h 9998]
set_option maxHeartbeats 4000000 in
set_option maxRecDepth 20000 in
theorem alikeV_any (T : TypeId) (u : Value) (w : World) (heq : ∀ W : World, (binOp .eql 31 (.iface T u) (.iface T u)).run Tryz.prog W = .ok (.bool true) W) :
    Calls Tryz.prog 39 #[.iface T u, .iface T u] w fun e w' => e = .returned (.bool true) ∧ Below w.heap.size w w' := by
  have hmf : ∀ (fn : Fn) (first cap : Array Value) (w : World), (Instr.makeFunc fn first cap).run Tryz.prog w = .ok (.func fn first cap) w := fun _ _ _ _ => rfl
  have hbel : Below w.heap.size w (w.alloc (.cells #[.bool true] 4)) := (Below.refl _ _).alloc (Nat.le_refl _) _
  have HBL := Lib.hid hbel
  clear hbel
  go_enter_defers Tryz.func39, Tryz.ntmps39
  go_wp2
  refine leaves_cons (f := 62) (args := #[.pointer (some ⟨w.heap.size, 0, none⟩)]) (by simp) (by simp [go_sem]) ?_
  refine (alikeD_any ⟨w.heap.size, 0, none⟩ _).mono ?_
  rintro e u' w'' ⟨rfl, rfl, rfl⟩
  simp [Leaves, settle, results, Tryz.results39, go_sem]
  exact HBL.out
theorem alikeN_any (y : Nd) (fs1 fs2 : Value) (w : World) (h1 : 1 ≤ y.kind) (h7 : y.kind ≤ 6) : Calls Tryz.prog 39 #[ival y fs1, ival y fs2] w fun e w' => e = .returned (.bool true) ∧ Below w.heap.size w w' := by
  obtain ⟨kind, n, u, b, s, type, fields⟩ := y
  dsimp only at h1 h7
  rcases (by omega : kind = 1 ∨ kind = 2 ∨ kind = 3 ∨ kind = 4 ∨ kind = 5 ∨ kind = 6) with rfl | rfl | rfl | rfl | rfl | rfl
  · exact alikeV_any 80 (.int .i64 n) w fun W => by
      have := Lib.run_eql_iface_int W n n (k := .i64) Tryz.underlying31 (by kernel_rfl) Tryz.underlying80
      rw [beq_self_eq_true] at this; exact this
  · exact alikeV_any 81 (.int .u64 u) w fun W => by
      have := Lib.run_eql_iface_int W u u (k := .u64) Tryz.underlying31 (by kernel_rfl) Tryz.underlying81
      rw [beq_self_eq_true] at this; exact this
  · exact alikeV_any 82 (.bool b) w fun W => eqI_bool W b Tryz.underlying31 (by kernel_rfl) Tryz.underlying82
  · exact alikeV_any 83 (.string (mkB s)) w fun W => eqI_str W (mkB s) Tryz.underlying31 (by kernel_rfl) Tryz.underlying83
  · exact alikeV_any 84 (.string (mkB s)) w fun W => eqI_str W (mkB s) Tryz.underlying31 (by kernel_rfl) Tryz.underlying84
  · exact alikeV_any 85 (.int .i32 (IntKind.i32.wrap n)) w fun W => by
      have := Lib.run_eql_iface_int W (IntKind.i32.wrap n) (IntKind.i32.wrap n) (k := .i32) Tryz.underlying31 (by kernel_rfl) Tryz.underlying85
      rw [beq_self_eq_true] at this; exact this
set_option maxHeartbeats 8000000 in
set_option maxRecDepth 20000 in
theorem eqVal_any (cp : Nat) (a1 a2 : Option Addr) (n c1 c2 : Nat) (ys : List Nd) (f : Nat) (w : World) (hn : ys.length = n) (hl : n ≤ 10000) (h1 : ValsG valS w (fun b => b < w.heap.size) f (.slice a1 n c1) ys) (h2 : ValsG valS w (fun b => b < w.heap.size) f (.slice a2 n c2) ys)
    (hc : ∀ y ∈ ys, ∀ (u1 u2 : Value) (W : World), Below w.heap.size w W → HeldV W (fun b => b < W.heap.size) f u1 y → HeldV W (fun b => b < W.heap.size) f u2 y → Calls Tryz.prog 43 #[u1, u2, .pointer (some ⟨cp, 0, none⟩)] W fun e w' => e = .returned (.bool true) ∧ Below W.heap.size W w') :
    Calls Tryz.prog 42 #[.slice a1 n c1, .slice a2 n c2, .func (.func 43) #[] #[.pointer (some ⟨cp, 0, none⟩)]] w fun e w' => e = .returned (.bool true) ∧ Below w.heap.size w w' := by
  have H1 := Lib.hid h1
  have H2 := Lib.hid h2
  have HC := Lib.hid hc
  have HN := Lib.hid hn
  clear h1 h2 hc hn
  go_enter Tryz.func42, Tryz.ntmps42
  go_wp2_with fail
  go_loopw [17] (fun i wr => ∃ (k : Nat), i = .int .i64 (k : Int) ∧ k ≤ n ∧ Below w.heap.size w wr) (fun i _ => n - (intOf i).toNat)
  case atStart => exact ⟨0, rfl, Nat.zero_le _, Below.refl _ _⟩
  case round =>
    generalize wr = w1 at *
    obtain ⟨k, rfl, hk, hbel⟩ := hrel
    have HBE := Lib.hid hbel
    by_cases hkn : k < n
    · obtain ⟨y, hy⟩ : ∃ y, ys[k]? = some y := ⟨_, List.getElem?_eq_getElem (by have := HN.out; omega)⟩
      obtain ⟨g1, o1, d1, fs1, hsl1, hg1, hcl1, hd1⟩ := ValsG.at H1.out hy
      rw [HN.out] at hsl1
      obtain ⟨rfl, rfl⟩ := slice_two hsl1
      obtain ⟨g2, o2, d2, fs2, hsl2, hg2, hcl2, hd2⟩ := ValsG.at H2.out hy
      rw [HN.out] at hsl2
      obtain ⟨rfl, rfl⟩ := slice_two hsl2
      have hg1N : g1 < w.heap.size := hg1
      have hg2N : g2 < w.heap.size := hg2
      have e1 : w1.cell? ⟨g1, o1 + k, none⟩ = some (ival y fs1) := by have := (hcl1.old (hbel.block g1 hg1N)) 0 _ rfl; simpa [valS] using this
      have e2 : w1.cell? ⟨g2, o2 + k, none⟩ = some (ival y fs2) := by have := (hcl2.old (hbel.block g2 hg2N)) 0 _ rfl; simpa [valS] using this
      have hmv : ∀ b, b < w.heap.size → b < w1.heap.size := fun b hb => by have := hbel.size; omega
      have hcall := HC.out y (List.mem_of_getElem? hy) (ival y fs1) (ival y fs2) w1 hbel ⟨fs1, rfl, fun h7 => HeldG.mv (fun b hb => hbel.block b hb) hmv (hd1 (by simp [valS, h7]))⟩ ⟨fs2, rfl, fun h7 => HeldG.mv (fun b hb => hbel.block b hb) hmv (hd2 (by simp [valS, h7]))⟩
      generalize ival y fs1 = v1 at e1 hcall
      generalize ival y fs2 = v2 at e2 hcall
      have hk0 : (0 : Int) ≤ (k : Int) := by omega
      have hk1 : (k : Int) < (n : Int) := by omega
      have hwk : IntKind.i64.wrap ((k : Int) + 1) = (k : Int) + 1 := by rw [IntKind.wrap_i64]; omega
      clear hsl1 hsl2 hcl1 hcl2 hd1 hd2 hy hg1 hg2 hbel
      go_wp2_with fail
      refine hcall.mono ?_
      rintro e W2 ⟨rfl, hb2⟩
      have HB2 := Lib.hid (HBE.out.trans (hb2.mono HBE.out.size))
      clear hcall hb2 e1 e2
      go_wp2_with fail
      go_roundw
      case rel => exact ⟨k + 1, by go_num, by omega, HB2.out⟩
      case measure => simp [intOf]; omega
    · have hkn' : ¬ (k : Int) < (n : Int) := by omega
      go_wp2_with fail
      go_ret
      exact ⟨rfl, HBE.out⟩
set_option maxHeartbeats 8000000 in
set_option maxRecDepth 20000 in
theorem same1_any (cp : Nat) (num : Int) (b1 b2 : Option Addr) (m e1 e2 : Nat) (ys : List Nd) (f : Nat) (w : World) (hn : ys.length = m) (hl : m ≤ 10000) (h1 : ValsG valS w (fun b => b < w.heap.size) f (.slice b1 m e1) ys) (h2 : ValsG valS w (fun b => b < w.heap.size) f (.slice b2 m e2) ys)
    (hc : ∀ y ∈ ys, ∀ (u1 u2 : Value) (W : World), Below w.heap.size w W → HeldV W (fun b => b < W.heap.size) f u1 y → HeldV W (fun b => b < W.heap.size) f u2 y → Calls Tryz.prog 43 #[u1, u2, .pointer (some ⟨cp, 0, none⟩)] W fun e w' => e = .returned (.bool true) ∧ Below W.heap.size W w') :
    Calls Tryz.prog 41 #[.agg #[.int .i64 num, .slice b1 m e1], .agg #[.int .i64 num, .slice b2 m e2], .pointer (some ⟨cp, 0, none⟩)] w fun e w' => e = .returned (.bool true) ∧ Below w.heap.size w w' := by
  have hmf : ∀ (fn : Fn) (first cap : Array Value) (w : World), (Instr.makeFunc fn first cap).run Tryz.prog w = .ok (.func fn first cap) w := fun _ _ _ _ => rfl
  obtain ⟨Y, hY, hC, hb, hYs⟩ := box_new w #[.int .i64 num, .slice b1 m e1] 74
  obtain ⟨V, hV, hD, hVb, hVs⟩ := box_new Y #[.int .i64 num, .slice b2 m e2] 74
  have HY := Lib.hid hY
  have HV := Lib.hid hV
  rw [hYs] at hD
  have hC2 := (hVb.block _ (by omega)).trans hC
  have hBV := hb.trans (hVb.mono hb.size)
  have HBV := Lib.hid hBV
  have p0 : V.cell? ⟨w.heap.size, 0, none⟩ = some (.int .i64 num) := cell_at hC2 0 rfl
  have p1 : V.cell? ⟨w.heap.size, 1, none⟩ = some (.slice b1 m e1) := cell_at hC2 1 rfl
  have q0 : V.cell? ⟨w.heap.size + 1, 0, none⟩ = some (.int .i64 num) := cell_at hD 0 rfl
  have q1 : V.cell? ⟨w.heap.size + 1, 1, none⟩ = some (.slice b2 m e2) := cell_at hD 1 rfl
  have hmv : ∀ b, b < w.heap.size → b < V.heap.size := fun b hb => by have := hBV.size; omega
  have hcall := eqVal_any cp b1 b2 m e1 e2 ys f V hn hl (ValsG.mv (fun b hb => hBV.block b hb) hmv h1) (ValsG.mv (fun b hb => hBV.block b hb) hmv h2) (fun y hy u1 u2 W hW => hc y hy u1 u2 W (hBV.trans (hW.mono hBV.size)))
  clear hY hC hb hYs hV hD hVb hVs hC2 hBV h1 h2 hc hn hmv
  go_enter Tryz.func41, Tryz.ntmps41
  go_upto_region 1 with fail
  rw [HY.out, HV.out]
  go_wp2_with fail
  refine hcall.mono ?_
  rintro e W2 ⟨rfl, hb2⟩
  have HB2 := Lib.hid (HBV.out.trans (hb2.mono HBV.out.size))
  clear hcall hb2 p0 p1 q0 q1
  go_wp2_with fail
  go_ret
  exact ⟨rfl, HB2.out⟩
set_option maxHeartbeats 16000000 in
set_option maxRecDepth 20000 in
theorem eqFld_any (cp : Nat) (a1 a2 : Option Addr) (n c1 c2 : Nat) (fl : List (Int × List Nd)) (f : Nat) (w : World) (hn : fl.length = n) (hl : n ≤ 10000) (hl2 : ∀ p ∈ fl, p.2.length ≤ 10000) (h1 : HeldG valS w (fun b => b < w.heap.size) (f + 1) (.slice a1 n c1) fl) (h2 : HeldG valS w (fun b => b < w.heap.size) (f + 1) (.slice a2 n c2) fl)
    (hc : ∀ p ∈ fl, ∀ y ∈ p.2, ∀ (u1 u2 : Value) (W : World), Below w.heap.size w W → HeldV W (fun b => b < W.heap.size) f u1 y → HeldV W (fun b => b < W.heap.size) f u2 y → Calls Tryz.prog 43 #[u1, u2, .pointer (some ⟨cp, 0, none⟩)] W fun e w' => e = .returned (.bool true) ∧ Below W.heap.size W w') :
    Calls Tryz.prog 40 #[.slice a1 n c1, .slice a2 n c2, .func (.func 41) #[] #[.pointer (some ⟨cp, 0, none⟩)]] w fun e w' => e = .returned (.bool true) ∧ Below w.heap.size w w' := by
  have H1 := Lib.hid h1
  have H2 := Lib.hid h2
  have HC := Lib.hid hc
  have HN := Lib.hid hn
  have HL2 := Lib.hid hl2
  clear h1 h2 hc hn hl2
  go_enter Tryz.func40, Tryz.ntmps40
  go_wp2_with fail
  go_loopw [17] (fun i wr => ∃ (k : Nat), i = .int .i64 (k : Int) ∧ k ≤ n ∧ Below w.heap.size w wr) (fun i _ => n - (intOf i).toNat)
  case atStart => exact ⟨0, rfl, Nat.zero_le _, Below.refl _ _⟩
  case round =>
    generalize wr = w1 at *
    obtain ⟨k, rfl, hk, hbel⟩ := hrel
    have HBE := Lib.hid hbel
    by_cases hkn : k < n
    · obtain ⟨y, hy⟩ : ∃ y, fl[k]? = some y := ⟨_, List.getElem?_eq_getElem (by have := HN.out; omega)⟩
      obtain ⟨f1, g1, o1, d1, v1a, v1c, hf1, hsl1, hg1, i0, i1, hv1⟩ := HeldG.at H1.out (W := w1) (fun b hb => hbel.block b hb) hy
      obtain ⟨f2, g2, o2, d2, v2a, v2c, hf2, hsl2, hg2, j0, j1, hv2⟩ := HeldG.at H2.out (W := w1) (fun b hb => hbel.block b hb) hy
      obtain rfl : f = f1 := by omega
      obtain rfl : f = f2 := by omega
      rw [HN.out] at hsl1 hsl2
      obtain ⟨rfl, rfl⟩ := slice_two hsl1
      obtain ⟨rfl, rfl⟩ := slice_two hsl2
      have hg1N : g1 < w.heap.size := hg1
      have hg2N : g2 < w.heap.size := hg2
      have hml := HL2.out y (List.mem_of_getElem? hy)
      have hcy := HC.out y (List.mem_of_getElem? hy)
      obtain ⟨ynum, ys⟩ := y
      dsimp only at i0 i1 j0 j1 hv1 hv2 hml hcy
      obtain ⟨mv, hmv⟩ : ∃ n, ys.length = n := ⟨_, rfl⟩
      rw [hmv] at i1 j1 hv1 hv2 hml
      obtain ⟨X, hX, hXC, hXb, hXs⟩ := box_new w1 #[.int .i64 ynum, .slice v1a mv v1c] 74
      obtain ⟨Y, hY, hYC, hYb, hYs⟩ := box_new X #[.int .i64 ynum, .slice v2a mv v2c] 74
      have HX := Lib.hid hX
      have HY := Lib.hid hY
      have hXY := (hYb.block _ (by omega)).trans hXC
      have hBX := hbel.trans (hXb.mono hbel.size)
      have hBY := hBX.trans (hYb.mono hBX.size)
      have HBY := Lib.hid hBY
      have j0' : X.cell? ⟨g2, o2 + k * 2, none⟩ = some (.int .i64 ynum) := (hXb.cell (by simp; have := hbel.size; omega)).trans j0
      have j1' : X.cell? ⟨g2, o2 + k * 2 + 1, none⟩ = some (.slice v2a mv v2c) := (hXb.cell (by simp; have := hbel.size; omega)).trans j1
      have p0 : Y.cell? ⟨w1.heap.size, 0, none⟩ = some (.int .i64 ynum) := cell_at hXY 0 rfl
      have p1 : Y.cell? ⟨w1.heap.size, 1, none⟩ = some (.slice v1a mv v1c) := cell_at hXY 1 rfl
      have q0 : Y.cell? ⟨X.heap.size, 0, none⟩ = some (.int .i64 ynum) := cell_at hYC 0 rfl
      have q1 : Y.cell? ⟨X.heap.size, 1, none⟩ = some (.slice v2a mv v2c) := cell_at hYC 1 rfl
      have hmw : ∀ b, b < w.heap.size → b < Y.heap.size := fun b hb => by have := hBY.size; omega
      have hcall := same1_any cp ynum v1a v2a mv v1c v2c ys f Y hmv hml (ValsG.mv (fun b hb => hBY.block b hb) hmw hv1) (ValsG.mv (fun b hb => hBY.block b hb) hmw hv2) (fun y hy u1 u2 W hW => hcy y hy u1 u2 W (hBY.trans (hW.mono hBY.size)))
      have hk0 : (0 : Int) ≤ (k : Int) := by omega
      have hk1 : (k : Int) < (n : Int) := by omega
      have hwk : IntKind.i64.wrap ((k : Int) + 1) = (k : Int) + 1 := by rw [IntKind.wrap_i64]; omega
      clear hsl1 hsl2 hv1 hv2 hy hg1 hg2 hbel hmv hml hcy hX hXC hXb hXs hY hYC hYb hYs hXY hBX hBY j0 j1 hmw
      go_upto_region 6 with fail
      rw [HX.out]
      clear i0 i1
      go_upto_region 7 with fail
      rw [HY.out]
      clear j0' j1'
      go_wp2_with fail
      refine hcall.mono ?_
      rintro e W2 ⟨rfl, hb2⟩
      have HB2 := Lib.hid (HBY.out.trans (hb2.mono HBY.out.size))
      clear hcall hb2 p0 p1 q0 q1
      go_wp2_with fail
      go_roundw
      case rel => exact ⟨k + 1, by go_num, by omega, HB2.out⟩
      case measure => simp [intOf]; omega
    · have hkn' : ¬ (k : Int) < (n : Int) := by omega
      go_wp2_with fail
      go_ret
      exact ⟨rfl, HBE.out⟩
set_option maxHeartbeats 16000000 in
set_option maxRecDepth 20000 in
theorem same_any : ∀ (f : Nat) (x : Nd) (v1 v2 : Value) (dep : Int) (w : World), FitG 100000 10000 f x → 1 ≤ x.kind ∧ x.kind ≤ 7 → (x.kind = 7 → KindT f dep x) → 1 ≤ dep → HeldV w (fun b => b < w.heap.size) f v1 x → HeldV w (fun b => b < w.heap.size) f v2 x →
    Calls Tryz.prog 23 #[v1, v2, .int .i64 dep] w fun e w' => e = .returned (.bool true) ∧ Below w.heap.size w w' := by
  have hmf : ∀ (fn : Fn) (first cap : Array Value) (w : World), (Instr.makeFunc fn first cap).run Tryz.prog w = .ok (.func fn first cap) w := fun _ _ _ _ => rfl
  intro f
  induction f using Nat.strongRecOn with
  | _ f ih =>
  intro x v1 v2 dep w hfit hkd hkt hd1 hV1 hV2
  obtain ⟨fs1, rfl, hG1⟩ := hV1
  obtain ⟨fs2, rfl, hG2⟩ := hV2
  have t1 := fun W => taMessage x fs1 W
  have t2 := fun W => taMessage x fs2 W
  obtain ⟨Y, hY, hC, hb, hYs⟩ := box_new w #[.int .i64 dep] 3
  have HY := Lib.hid hY
  by_cases h7 : x.kind = 7
  case neg =>
    rw [if_neg h7, decide_eq_false h7] at t1 t2
    obtain ⟨V, hV, hD, hVb, hVs⟩ := box_new Y #[.int .i64 0, .slice none 0 0, .string ⟨#[]⟩] 72
    obtain ⟨U, hU, hE, hUb, hUs⟩ := box_new V #[.int .i64 0, .slice none 0 0, .string ⟨#[]⟩] 72
    have HV := Lib.hid hV
    have HU := Lib.hid hU
    have hBV := hb.trans (hVb.mono hb.size)
    have hBU := hBV.trans (hUb.mono hBV.size)
    have HBU := Lib.hid hBU
    have hal := alikeN_any x fs1 fs2 U hkd.1 (by omega)
    generalize ival x fs1 = v1 at *
    generalize ival x fs2 = v2 at *
    clear hY hC hb hYs hV hD hVb hVs hU hE hUb hUs hBV hBU ih hG1 hG2 hfit hkt hkd h7
    go_enter Tryz.func23, Tryz.ntmps23
    go_upto_region 1 with fail
    rw [HY.out]
    go_upto_region 2 with fail
    rw [HV.out]
    go_upto_region 3 with fail
    rw [HU.out]
    go_wp2_with fail
    refine hal.mono ?_
    rintro e W ⟨rfl, hbW⟩
    have HBW := Lib.hid (HBU.out.trans (hbW.mono HBU.out.size))
    clear hal hbW
    go_wp2_with fail
    go_ret
    exact ⟨rfl, HBW.out⟩
  rw [if_pos h7, decide_eq_true h7] at t1 t2
  replace hG1 := hG1 h7
  replace hG2 := hG2 h7
  replace hkt := hkt h7
  obtain ⟨x1a, x1c, rfl⟩ := HeldG.isSl hG1
  obtain ⟨x2a, x2c, rfl⟩ := HeldG.isSl hG2
  obtain ⟨xkind, xn, xu, xb, xs, xt, fl⟩ := x
  dsimp only at h7 hG1 hG2 t1 t2 hkd
  subst h7
  obtain ⟨n, hn⟩ : ∃ n, fl.length = n := ⟨_, rfl⟩
  rw [hn] at hG1 hG2 t1 t2 ⊢
  obtain ⟨V, hV, hD, hVb, hVs⟩ := box_new Y #[.int .i64 xt, .slice x1a n x1c, .string (mkB xs)] 72
  obtain ⟨U, hU, hE, hUb, hUs⟩ := box_new V #[.int .i64 xt, .slice x2a n x2c, .string (mkB xs)] 72
  have HV := Lib.hid hV
  have HU := Lib.hid hU
  have hBV := hb.trans (hVb.mono hb.size)
  have hBU := hBV.trans (hUb.mono hBV.size)
  have HBU := Lib.hid hBU
  have hC2 := (hUb.block _ (by omega)).trans ((hVb.block _ (by omega)).trans hC)
  have hD2 := (hUb.block _ (by omega)).trans hD
  have d0 : U.cell? ⟨w.heap.size, 0, none⟩ = some (.int .i64 dep) := cell_at hC2 0 rfl
  have p0 : U.cell? ⟨Y.heap.size, 0, none⟩ = some (.int .i64 xt) := cell_at hD2 0 rfl
  have p1 : U.cell? ⟨Y.heap.size, 1, none⟩ = some (.slice x1a n x1c) := cell_at hD2 1 rfl
  have p2 : U.cell? ⟨Y.heap.size, 2, none⟩ = some (.string (mkB xs)) := cell_at hD2 2 rfl
  have q0 : U.cell? ⟨V.heap.size, 0, none⟩ = some (.int .i64 xt) := cell_at hE 0 rfl
  have q1 : U.cell? ⟨V.heap.size, 1, none⟩ = some (.slice x2a n x2c) := cell_at hE 1 rfl
  have q2 : U.cell? ⟨V.heap.size, 2, none⟩ = some (.string (mkB xs)) := cell_at hE 2 rfl
  have hmv : ∀ b, b < w.heap.size → b < U.heap.size := fun b hb => by have := hBU.size; omega
  have hcall : Calls Tryz.prog 40 #[.slice x1a n x1c, .slice x2a n x2c, .func (.func 41) #[] #[.pointer (some ⟨w.heap.size, 0, none⟩)]] U fun e w' => e = .returned (.bool true) ∧ Below U.heap.size U w' := by
    have g1 := HeldG.mv (fun b hb => hBU.block b hb) hmv hG1
    have g2 := HeldG.mv (fun b hb => hBU.block b hb) hmv hG2
    cases f with
    | zero =>
      have hf0 : fl = [] := hG1.1
      have hn0 : n = 0 := by rw [← hn, hf0]; rfl
      subst hn0
      rw [hf0] at g1 g2
      exact eqFld_any w.heap.size x1a x2a 0 x1c x2c [] 0 U rfl (by omega) (fun p hp => by cases hp) g1.up g2.up (fun p hp => by cases hp)
    | succ f =>
      refine eqFld_any w.heap.size x1a x2a n x1c x2c fl f U hn (by have := hfit.2.1; dsimp only at this; omega) (fun p hp => (hfit.2.2 p hp).1) g1 g2 (fun p hp y hy u1 u2 W hW hu1 hu2 => ?_)
      have hk := hkt.2 p hp y hy
      have hdl0 := hkt.1
      have hdc : W.cell? ⟨w.heap.size, 0, none⟩ = some (.int .i64 dep) := (hW.cell (by simp; omega)).trans d0
      have hrec := ih f (by omega) y u1 u2 (dep + 1) W ((hfit.2.2 p hp).2 y hy) hk.1 hk.2 (by omega) hu1 hu2
      have hw1 : IntKind.i64.wrap (dep + 1) = dep + 1 := by rw [IntKind.wrap_i64]; omega
      clear g1 g2 ih hu1 hu2 hk
      go_enter Tryz.func43, Tryz.ntmps43
      go_wp2_with fail
      refine hrec.mono ?_
      rintro e W2 ⟨rfl, hb2⟩
      clear hrec hdc
      go_wp2_with fail
      go_ret
      exact ⟨rfl, hb2⟩
  have hdl : dep ≤ 65536 := hkt.le
  have hbs := bytes_self (mkB xs)
  generalize ival ⟨7, xn, xu, xb, xs, xt, fl⟩ (.slice x1a n x1c) = v1 at *
  generalize ival ⟨7, xn, xu, xb, xs, xt, fl⟩ (.slice x2a n x2c) = v2 at *
  clear hY hC hb hYs hV hD hVb hVs hU hE hUb hUs hBV hBU ih hG1 hG2 hfit hkt hkd hC2 hD2 hmv hn
  go_enter Tryz.func23, Tryz.ntmps23
  go_upto_region 1 with fail
  rw [HY.out]
  go_upto_region 2 with fail
  rw [HV.out]
  go_upto_region 3 with fail
  rw [HU.out]
  go_wp2_with fail
  refine hcall.mono ?_
  rintro e W ⟨rfl, hbW⟩
  have HBW := Lib.hid (HBU.out.trans (hbW.mono HBU.out.size))
  clear hcall hbW d0 p0 p1 p2 q0 q1 q2
  go_wp2_with fail
  go_ret
  exact ⟨rfl, HBW.out⟩
theorem sameV_any (f : Nat) (x : Nd) (v1 v2 : Value) (w : World) (hfit : FitG 100000 10000 f x) (hk : 1 ≤ x.kind ∧ x.kind ≤ 7) (hkt : x.kind = 7 → KindT f 1 x) (h1 : HeldV w (fun b => b < w.heap.size) f v1 x) (h2 : HeldV w (fun b => b < w.heap.size) f v2 x) :
    Calls Tryz.prog 10 #[v1, v2] w fun e w' => e = .returned (.bool true) ∧ Below w.heap.size w w' := by
  have h := same_any f x v1 v2 1 w hfit hk hkt (by omega) h1 h2
  clear hfit hk hkt h1 h2
  go_enter Tryz.func10, Tryz.ntmps10
  go_wp2_with fail
  refine h.mono ?_
  rintro e W ⟨rfl, hb⟩
  clear h
  go_wp2_with fail
  go_ret
  exact ⟨rfl, hb⟩
end Go.Proofs.YtnopnjklcdcckaaGreatDoor
namespace Go.Proofs.YtnopnjklcdcckaaGreatDoor
set_option linter.unusedVariables false

def OkP (u : Int) : Prop := 0 ≤ u ∧ u ≤ 18446744073709551615
theorem takeN_front {k u : Int} (hk : k ≠ 7 ∧ k ≠ 8) (hu : OkP u) (t : List Int) : takeN k (vint u.toNat ++ t) = (u, ((vint u.toNat).length : Int), 0) := by
  unfold takeN
  rw [if_neg hk.1, if_neg hk.2, dec_front u.toNat t (by have := hu.2; omega), Int.toNat_of_nonneg hu.1]
end Go.Proofs.YtnopnjklcdcckaaGreatDoor
