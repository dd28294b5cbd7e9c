/-
  The law WireJoins returns true, and its argument reads as before, for every input of small bulk (the statement of the second form). No other condition.
-/
import Derived.Test.YthpaanjphpcfkaaRows
import Derived.WalkKit
import Derived.ProofKit
import Derived.OpenShut
import Derived.ShutString
import Derived.SizedLaws
import Derived.ChangeOld
import Derived.Below
import Derived.JoinedCond
import Derived.Deep.RegionWith
import Derived.Deep.RegionLaw
import Derived.Deep.DeepCutAuto
import Derived.Deep.RegionHeldLaw
import Derived.Test.YthpaanjphpcfkaaWApp
import Derived.Test.YthpaanjphpcfkaaWSp
import Derived.Test.YthpaanjphpcfkaaUpt
import Derived.Test.YthpaanjphpcfkaaUpl
import Derived.Test.YthpaanjphpcfkaaSpM
import Derived.Test.YthpaanjphpcfkaaJMath
namespace Go.Proofs.Ythpaanjphpcfkaa.wireJoins
open Go.ChangeShapes Go.WideShapes Go.ChangeAt Go.RowKit
open Go.ChangeMaps (open_string shut_string)
set_option linter.unusedVariables false

theorem own : ownKnob Try.prog.godebug = none := by kernel_rfl
theorem laidOut : laidOutB Try.prog = true := by kernel_rfl

theorem sameB_refl (num ty n : Int) (d : List Int) : sameB num ty n num ty n d d = true := by simp [sameB]
theorem fieldJ : FieldType 49 25 := ⟨Try.underlying49, by kernel_rfl⟩
theorem own_all {w : World} {base : Nat} {v : Value} {xs : List Int} (h : OwnB w base v xs) (hb : ∀ z ∈ xs, 0 ≤ z ∧ z ≤ 255) (hm : xs.length ≤ 281474976710656) :
    ∃ a c, v = .slice a xs.length c ∧ NewB w base a xs.length xs ∧ xs.length ≤ c ∧ c ≤ 9223372036854775807 ∧ (a = none → xs.length = 0 ∧ c = 0) := by
  obtain ⟨a, c, hv, hN⟩ := newB_own h hb hm
  obtain ⟨a', c', hv', _, hl, hno⟩ := own_isB h hb hm
  rw [hv] at hv'
  simp at hv'
  obtain ⟨rfl, rfl⟩ := hv'
  refine ⟨a, c, hv, hN, hl, ?_, hno⟩
  obtain ⟨_, h2 | ⟨g, cap, cur, hv2, _, _, _, h4, _⟩⟩ := h
  · have := hno (by rw [hv] at h2; simp at h2; exact h2.1.1)
    omega
  · rw [hv] at hv2
    simp at hv2
    unfold maxLen at h4
    omega
theorem joined_len : ∀ {ws : List FR}, (∀ f ∈ ws, f.Good) → (ws.flatMap FR.bytes).length ≤ (ws.map fun f => f.d.length).sum + 20 * ws.length
  | [], _ => by simp
  | f :: ws, h => by
    have := (h f List.mem_cons_self).len
    have ih := joined_len (ws := ws) (fun x hx => h x (List.mem_cons_of_mem _ hx))
    rw [List.flatMap_cons, List.length_append, List.map_cons, List.sum_cons, List.length_cons]
    omega
theorem caps_take {fs : List FR} {k : Nat} {f : FR} (h : fs[k]? = some f) : ((fs.take (k + 1)).map FR.cap).sum = ((fs.take k).map FR.cap).sum + f.cap := by
  rw [List.take_add_one, h]
  simp
theorem caps_le (fs : List FR) (k : Nat) : ((fs.take k).map FR.cap).sum ≤ (fs.map FR.cap).sum := by
  rw [show (fs.map FR.cap).sum = ((fs.take k ++ fs.drop k).map FR.cap).sum by rw [List.take_append_drop], List.map_append, List.sum_append]
  omega
theorem far_arg {w wr : World} {x y : Option Nat} {a : Option Addr} {len cap : Nat} {zs : List Int} (h : ArgB w a len cap zs) (hb : Below w.heap.size w wr) (hx : ∀ k, x = some k → w.heap.size ≤ k) (hy : ∀ k, y = some k → w.heap.size ≤ k) : Far wr x y a len zs := by
  have hI := h.isB
  refine ⟨hI.1, hI.2.1, ?_⟩
  rcases hI.2.2 with h0 | ⟨b, off, h1, h2⟩
  · exact .inl h0
  · cases zs with
    | nil => exact .inl rfl
    | cons z zs =>
      have hlt := held_lt h2
      exact .inr ⟨b, off, h1, held_old h2 hb, fun e => by have := hx b e; omega, fun e => by have := hy b e; omega⟩
theorem wpJ_F {w : World} {ops : Array Oper} {rest : List Oper} {o : Oper} {a : Act} {Q : Exit → Act → World → Prop} (hgd : o.guard = none) (s x : Operand) (t e : TypeId)
    (ho : o.op = .call { callee := .builtin .append, args := #[s, x], argTypes := #[t, t] }) (hT : FieldType t e) (B : Nat) (vF vR : Value) (fs : List FR) (rs : List Row3) (hs : a.eval s = vF) (h : SplSt w B e vF vR fs rs)
    (f : FR) (hf : Far w vF.ownBlock vR.ownBlock f.a f.len f.d) (ad : Addr) (c : Nat) (hx : a.eval x = .slice (some ad) 1 c) (hc : ∀ j u, f.cells[j]? = some u → w.cell? (ad.add j) = some u) (hB : B ≤ w.heap.size) (hn : fs.length ≤ 2097152)
    (hk : ∀ v' w', SplSt w' B e v' vR (fs ++ [f]) rs → Below B w w' → w.grownBy w' vF.ownBlock → (v'.ownBlock = vF.ownBlock ∨ v'.ownBlock = some w.heap.size) → wpList Try.prog ops Q rest (a.put o.dst v') w') : wpList Try.prog ops Q (o :: rest) a w := by
  obtain ⟨i0, hi, hz0, hz1, hz2⟩ := info_parts hT.2
  obtain ⟨v', w', hr, h1, h2, _, h4⟩ := run_append_own_at (P := Try.prog) w B t o.type e i0 _ 4 48 hT.1 hi hz0 hz1 hz2 rfl (by decide) vF fs.length _ h.ownF ad 1 c f.cells rfl hc (by intro u hu; simp [FR.cells] at hu; rcases hu with rfl | rfl | rfl | rfl <;> rfl) (by unfold maxLen; omega) (by omega) hB
  exact Lib.wpList_append_run _ hgd s x t t ho vF _ hs hx v' w' hr (hk v' w' (h.addF f hf h1 h2 h4) ((Below.refl _ _).grown h2 hB (fun k hk => (owns_lt h.ownF k hk).2)) h2 h4)
set_option maxHeartbeats 4000000 in
theorem walk (a0 : Option Addr) (len0 cap0 : Nat) (fs0 : List FR) (w : World) (l0 : fs0.length = len0) (c0 : len0 ≤ cap0) (u0 : cap0 ≤ 1048576) (s0 : (fs0.map FR.cap).sum ≤ 1048576) (w0 : ∀ k f, fs0[k]? = some f → FieldAt w a0 k f) :
    Calls Try.prog 7 #[.slice a0 len0 cap0] w fun e w' => e = .returned (.bool true) ∧ Below w.heap.size w w' := by
  have HTH : Hid (∀ (num ty n : Int) (a : Option Addr) (len cap : Nat) (W : World), Calls Try.prog 10 #[.agg #[.int .i64 num, .int .i64 ty, .int .u64 n, .slice a len cap]] W fun e w' => e = .returned (.agg #[.int .i64 num, .int .i64 ty, .int .u64 n, .slice a len cap]) ∧ Below W.heap.size W w') := theirs_any
  have HOU : Hid (∀ (num ty n : Int) (a : Option Addr) (len cap : Nat) (W : World), Calls Try.prog 17 #[.agg #[.int .i64 num, .int .i64 ty, .int .u64 n, .slice a len cap]] W fun e w' => e = .returned (.agg #[.int .i64 num, .int .i64 ty, .int .u64 n, .slice a len cap]) ∧ Below W.heap.size W w') := ours_any
  have HSA : Hid (∀ (num ty n : Int) (a a' : Option Addr) (len cap len' cap' : Nat) (d : List Int) (W : World), IsB W a len d → IsB W a' len' d → Calls Try.prog 16 #[.agg #[.int .i64 num, .int .i64 ty, .int .u64 n, .slice a len cap], .agg #[.int .i64 num, .int .i64 ty, .int .u64 n, .slice a' len' cap']] W fun e w' => e = .returned (.bool true) ∧ Below W.heap.size W w') := by
    intro num ty n a a' len cap len' cap' d W h h'
    have := sameR_any num ty n num ty n a a' len cap len' cap' d d W h h'
    rw [sameB_refl] at this
    exact this
  have HL0 : Hid (fs0.length = len0) := l0
  have HW0 : Hid (∀ k f, fs0[k]? = some f → FieldAt w a0 k f) := w0
  have HS0 : Hid ((fs0.map FR.cap).sum ≤ 1048576) := s0
  clear l0 w0 s0
  by_cases hbig : 300 < len0
  · go_enter Try.func7, Try.ntmps7
    go_wp2_with fail
    refine (awake_any _).mono ?_
    rintro e W1 ⟨rfl, hb1⟩
    go_wp2_with fail
    refine (awake_any _).mono ?_
    rintro e W2 ⟨rfl, hb2⟩
    go_wp2_with fail
    go_ret
    exact ⟨rfl, hb1.trans (hb2.mono hb1.size)⟩
  · go_enter Try.func7, Try.ntmps7
    go_wp2_with fail
    refine (awake_any _).mono ?_
    rintro e W1 ⟨rfl, hb1⟩
    have HB1 : Hid (Below w.heap.size w W1) := hb1
    clear hb1
    go_wp2_with fail
    go_loopw [3, 4, 22] (fun v3 v4 i wr => ∃ (k : Nat) (ws : List FR) (a3 : Option Addr) (n3 c3 : Nat), k ≤ len0 ∧ i = .int .i64 k ∧ v3 = .slice a3 n3 c3 ∧ n3 ≤ c3 ∧ c3 ≤ 9223372036854775807 ∧ (a3 = none → n3 = 0 ∧ c3 = 0) ∧ Far wr v4.ownBlock none a3 n3 (ws.flatMap FR.bytes) ∧ SplSt wr w.heap.size 25 v4 (.slice none 0 0) ws [] ∧ (∀ f ∈ ws, f.Good) ∧ (ws.map fun f => f.d.length).sum ≤ ((fs0.take k).map FR.cap).sum ∧ ws.length ≤ k ∧ Below w.heap.size w wr) (fun _ _ i _ => len0 - (intOf i).toNat)
    case atStart => exact ⟨0, [], none, 0, 0, by omega, rfl, rfl, by omega, by omega, fun _ => ⟨rfl, rfl⟩, ⟨rfl, by omega, .inl rfl⟩, SplSt.nil _ _ _, by simp, by simp, by simp, HB1.out⟩
    case round =>
      obtain ⟨k, ws, a3, n3, c3, hk, rfl, rfl, hn3, hc3, hno3, hfar3, hst, hgood, hsum, hwk, hbel⟩ := hrel
      have HNO3 : Hid (a3 = none → n3 = 0 ∧ c3 = 0) := hno3
      have HFAR : Hid (Far wr u4.ownBlock none a3 n3 (ws.flatMap FR.bytes)) := hfar3
      have HST : Hid (SplSt wr w.heap.size 25 u4 (.slice none 0 0) ws []) := hst
      have HGD : Hid (∀ f ∈ ws, f.Good) := hgood
      have HSUM : Hid ((ws.map fun f => f.d.length).sum ≤ ((fs0.take k).map FR.cap).sum) := hsum
      have HBL : Hid (Below w.heap.size w wr) := hbel
      have hszr := hbel.size
      have hn3b : n3 ≤ 1054576 := by
        have h1 := joined_len hgood
        have h2 := hfar3.1
        have h3 := caps_le fs0 k
        have h4 := HS0.out
        omega
      clear hno3 hfar3 hst hgood hsum hbel
      by_cases hlt : k < len0
      · obtain ⟨f, hf⟩ : ∃ f, fs0[k]? = some f := ⟨_, List.getElem?_eq_getElem (by have := HL0.out; omega)⟩
        obtain ⟨⟨g, off, rfl, hcell⟩, hok⟩ := HW0.out k f hf
        have HCK : Hid (((fs0.take (k + 1)).map FR.cap).sum = ((fs0.take k).map FR.cap).sum + f.cap) := caps_take hf
        obtain ⟨_, _, hnn, hA⟩ := hok
        have c0 : w.cell? ⟨g, off + k * 4 + 0, none⟩ = some (.int .i64 f.num) := hcell 0 _ rfl
        have c1 : w.cell? ⟨g, off + k * 4 + 1, none⟩ = some (.int .i64 f.ty) := hcell 1 _ rfl
        have c2 : w.cell? ⟨g, off + k * 4 + 2, none⟩ = some (.int .u64 f.n) := hcell 2 _ rfl
        have c3' : w.cell? ⟨g, off + k * 4 + 3, none⟩ = some (.slice f.a f.len f.cap) := hcell 3 _ rfl
        have hgw : g < w.heap.size := cell_lt c0
        rw [Nat.add_zero] at c0
        have d0 : wr.cell? ⟨g, off + k * 4, none⟩ = some (.int .i64 f.num) := (HBL.out.cell hgw).trans c0
        have d1 : wr.cell? ⟨g, off + k * 4 + 1, none⟩ = some (.int .i64 f.ty) := (HBL.out.cell hgw).trans c1
        have d2 : wr.cell? ⟨g, off + k * 4 + 2, none⟩ = some (.int .u64 f.n) := (HBL.out.cell hgw).trans c2
        have d3 : wr.cell? ⟨g, off + k * 4 + 3, none⟩ = some (.slice f.a f.len f.cap) := (HBL.out.cell hgw).trans c3'
        have HA : Hid (ArgB w f.a f.len f.cap f.d) := hA
        have hfl : f.len ≤ f.cap := hA.2.1
        have hfcb : f.cap ≤ 1048576 := by
          have h1 := HCK.out
          have h2 := caps_le fs0 (k + 1)
          have h3 := HS0.out
          omega
        have HDL : Hid (f.d.length = f.len) := hA.isB.1
        have hltI : (k : Int) < (len0 : Int) := by omega
        have hk0 : (0 : Int) ≤ (k : Int) := by omega
        clear hcell hf hA c0 c1 c2 c3'
        obtain ⟨fm, hfm⟩ : ∃ fm, fmd f.num f.ty f.n f.len = fm := ⟨_, rfl⟩
        cases fm with
        | false =>
          have HBAD : Hid (∀ (W : World), Calls Try.prog 9 #[.slice a3 n3 c3, .agg #[.int .i64 f.num, .int .i64 f.ty, .int .u64 f.n, .slice f.a f.len f.cap]] W fun e w' => e = .returned (.tuple #[.slice none 0 0, .int .i64 1]) ∧ Below W.heap.size W w') := fun W => appendW_bad a3 f.a n3 c3 f.len f.cap f.num f.ty f.n W hfm
          clear hfm
          go_wp2_with fail
          refine (HTH.out _ _ _ _ _ _ _).mono ?_
          rintro e X1 ⟨rfl, hb1⟩
          go_wp2_with fail
          refine (HBAD.out _).mono ?_
          rintro e X2 ⟨rfl, hb2⟩
          have hb12 : Below wr.heap.size wr X2 := hb1.trans (hb2.mono hb1.size)
          have HF2 : Hid (Far X2 u4.ownBlock none a3 n3 (ws.flatMap FR.bytes)) := HFAR.out.old hb12
          have HS2 : Hid (SplSt X2 w.heap.size 25 u4 (.slice none 0 0) ws []) := HST.out.old hb12
          have HB2 : Hid (Below w.heap.size w X2) := HBL.out.trans (hb12.mono hszr)
          clear hb1 hb2 hb12
          go_wp2_with fail
          go_roundw
          case rel => exact ⟨k + 1, ws, a3, n3, c3, by omega, by go_num, rfl, hn3, hc3, HNO3.out, HF2.out, HS2.out, HGD.out, by have h1 := HSUM.out; have h2 := HCK.out; omega, by omega, HB2.out⟩
          case measure => simp [intOf]; omega
        | true =>
          have HGF : Hid f.Good := by
            refine (?_ : f.Good)
            exact ⟨by rw [HDL.out]; exact hfm, hnn.1, hnn.2, by rw [HDL.out]; omega, isB_bytes HA.out.isB⟩
          have HOK : Hid (∀ (W : World), Below w.heap.size w W → IsB W a3 n3 (ws.flatMap FR.bytes) → Calls Try.prog 9 #[.slice a3 n3 c3, .agg #[.int .i64 f.num, .int .i64 f.ty, .int .u64 f.n, .slice f.a f.len f.cap]] W fun e w' => ∃ v', e = .returned (.tuple #[v', .int .i64 0]) ∧ OwnB w' W.heap.size v' (ws.flatMap FR.bytes ++ f.bytes) ∧ Below W.heap.size W w') :=
            fun W h1 h2 => appendW_ok a3 f.a n3 c3 f.len f.cap _ f.d f.num f.ty f.n W h2 HNO3.out (isB_old HA.out.isB h1) HA.out.none_of hnn.1 hnn.2 hfm (by omega)
          have HLB : Hid ((ws.flatMap FR.bytes ++ f.bytes).length ≤ 2103172) := by
            refine (?_ : (ws.flatMap FR.bytes ++ f.bytes).length ≤ 2103172)
            have h1 := HFAR.out.1
            have h2 := HGF.out.len
            have h3 := HDL.out
            rw [List.length_append]
            omega
          have HBB : Hid (∀ z ∈ ws.flatMap FR.bytes ++ f.bytes, 0 ≤ z ∧ z ≤ 255) := by
            intro z hz
            rcases List.mem_append.1 hz with h1 | h1
            · exact joined_bytes HGD.out z h1
            · exact HGF.out.bts z h1
          clear hfm
          go_wp2_with fail
          refine (HTH.out _ _ _ _ _ _ _).mono ?_
          rintro e X1 ⟨rfl, hb1⟩
          have hbX1 : Below w.heap.size w X1 := HBL.out.trans (hb1.mono hszr)
          have HIX : Hid (IsB X1 a3 n3 (ws.flatMap FR.bytes)) := (HFAR.out.old hb1).isB
          have HBX1 : Hid (Below w.heap.size w X1) := hbX1
          have HB1 : Hid (Below wr.heap.size wr X1) := hb1
          clear hb1 hbX1
          go_wp2_with fail
          refine (HOK.out _ HBX1.out HIX.out).mono ?_
          rintro e X2 ⟨v2, rfl, ho2, hb2⟩
          obtain ⟨a5, c5, rfl, hN5, hl5, hm5, hno5⟩ := own_all ho2 HBB.out (by have := HLB.out; omega)
          obtain ⟨n5, hn5⟩ : ∃ n5, (ws.flatMap FR.bytes ++ f.bytes).length = n5 := ⟨_, rfl⟩
          rw [hn5] at hN5 hl5 hno5 ⊢
          have hb12 : Below wr.heap.size wr X2 := HB1.out.trans (hb2.mono HB1.out.size)
          have hoW := owns_lt HST.out.ownF
          have hfar5 : Far X2 u4.ownBlock none a5 n5 (ws.flatMap FR.bytes ++ f.bytes) := Far.of_new hN5 (fun k hk => Nat.lt_of_lt_of_le (hoW k hk).1 HB1.out.size) (fun k hk => by simp at hk)
          have hbX2 : Below w.heap.size w X2 := HBL.out.trans (hb12.mono hszr)
          have hz2 := hbX2.size
          have e0 : X2.cell? ⟨g, off + k * 4, none⟩ = some (.int .i64 f.num) := (hb12.cell (show g < wr.heap.size by omega)).trans d0
          have e1 : X2.cell? ⟨g, off + k * 4 + 1, none⟩ = some (.int .i64 f.ty) := (hb12.cell (show g < wr.heap.size by omega)).trans d1
          have e2 : X2.cell? ⟨g, off + k * 4 + 2, none⟩ = some (.int .u64 f.n) := (hb12.cell (show g < wr.heap.size by omega)).trans d2
          have e3 : X2.cell? ⟨g, off + k * 4 + 3, none⟩ = some (.slice f.a f.len f.cap) := (hb12.cell (show g < wr.heap.size by omega)).trans d3
          have hfarf : Far X2 u4.ownBlock none f.a f.len f.d := far_arg HA.out hbX2 (fun k hk => (hoW k hk).2) (fun k hk => by simp at hk)
          have hal : Below X2.heap.size X2 (X2.alloc (.cells #[.int .i64 f.num, .int .i64 f.ty, .int .u64 f.n, .slice f.a f.len f.cap] 25)) := (Below.refl _ _).alloc (Nat.le_refl _) _
          have HS2 : Hid (SplSt (X2.alloc (.cells #[.int .i64 f.num, .int .i64 f.ty, .int .u64 f.n, .slice f.a f.len f.cap] 25)) w.heap.size 25 u4 (.slice none 0 0) ws []) := (HST.out.old hb12).old hal
          have HF2 : Hid (Far (X2.alloc (.cells #[.int .i64 f.num, .int .i64 f.ty, .int .u64 f.n, .slice f.a f.len f.cap] 25)) u4.ownBlock none f.a f.len f.d) := hfarf.old hal
          have HF5 : Hid (Far (X2.alloc (.cells #[.int .i64 f.num, .int .i64 f.ty, .int .u64 f.n, .slice f.a f.len f.cap] 25)) u4.ownBlock none a5 n5 (ws.flatMap FR.bytes ++ f.bytes)) := hfar5.old hal
          have HBA : Hid (Below w.heap.size w (X2.alloc (.cells #[.int .i64 f.num, .int .i64 f.ty, .int .u64 f.n, .slice f.a f.len f.cap] 25))) := hbX2.alloc hz2 _
          have HC2 : Hid (∀ j u, f.cells[j]? = some u → (X2.alloc (.cells #[.int .i64 f.num, .int .i64 f.ty, .int .u64 f.n, .slice f.a f.len f.cap] 25)).cell? ((⟨X2.heap.size, 0, none⟩ : Addr).add j) = some u) := by
            intro j u hj
            rw [add_off]
            rcases j with _ | _ | _ | _ | j
            · simp [FR.cells] at hj; subst hj; simp
            · simp [FR.cells] at hj; subst hj; simp
            · simp [FR.cells] at hj; subst hj; simp
            · simp [FR.cells] at hj; subst hj; simp
            · simp [FR.cells] at hj
          have HNO5 : Hid (a5 = none → n5 = 0 ∧ c5 = 0) := hno5
          clear ho2 hb2 hN5 hb12 hoW hfar5 hbX2 hfarf hal hno5 HOK HIX HBX1 HB1 d0 d1 d2 d3
          go_wp2_with (at_builtin; refine wpJ_F rfl (.tmp 38) (.tmp 43) 49 25 rfl fieldJ w.heap.size u4 (.slice none 0 0) ws [] rfl HS2.out f HF2.out ⟨X2.heap.size, 0, none⟩ 1 rfl HC2.out (by simp; omega) (by omega) ?_; intro v6 X3 hst3 hb3 hg3 hx3)
          have HF6 : Hid (Far X3 v6.ownBlock none a5 n5 ((ws ++ [f]).flatMap FR.bytes)) := by
            refine (?_ : Far X3 v6.ownBlock none a5 n5 ((ws ++ [f]).flatMap FR.bytes))
            rw [List.flatMap_append, List.flatMap_singleton]
            exact HF5.out.grow1 hg3 hx3
          go_roundw
          case rel =>
            refine ⟨k + 1, ws ++ [f], a5, n5, c5, by omega, by go_num, rfl, hl5, hm5, HNO5.out, HF6.out, hst3, ?_, ?_, by simp; omega, HBA.out.trans hb3⟩
            · intro x hx
              rcases List.mem_append.1 hx with h1 | h1
              · exact HGD.out x h1
              · simp at h1; subst h1; exact HGF.out
            · have h1 := HSUM.out
              have h2 := HCK.out
              have h3 := HDL.out
              rw [List.map_append, List.sum_append, List.map_singleton, List.sum_singleton]
              omega
          case measure => simp [intOf]; omega
      · obtain rfl : k = len0 := by omega
        obtain ⟨D, hD, hsays⟩ := split_joined ws HGD.out
        have HSP : Hid (Calls Try.prog 18 #[.slice a3 n3 c3] wr fun e w' => ∃ vF vR fs rs, e = .returned (.tuple #[vF, vR, .int .i64 0]) ∧ SplSt w' wr.heap.size 30 vF vR fs rs ∧ FitsF fs D ∧ FitsR rs D ∧ Below wr.heap.size wr w') := by
          have := splitW_any a3 n3 c3 (ws.flatMap FR.bytes) wr HFAR.out.isB hn3 hc3 (by omega)
          rw [hD] at this
          exact this
        have hDw : D.length = ws.length := by
          have := congrArg List.length hsays
          simpa using this
        obtain ⟨aW, cW, aX, cX, hvW, _, hlW, _, hcW, _⟩ := st_shapes HST.out
        have HSAY : Hid ((D.map fun p => p.1.says) = ws.map FR.says) := hsays
        have HCW : Hid _ := hcW
        rw [hvW]
        clear hsays hcW hD HFAR HNO3 HGD HSUM HST
        go_wp2_with fail
        refine HSP.out.mono ?_
        rintro e X4 ⟨vF, vR, fs, rs, rfl, hst4, hFF, hFR, hb4⟩
        obtain ⟨aF, cF, aR, cR, rfl, rfl, hlF, hlR, hcF, hcR⟩ := st_shapes hst4
        have hfw : fs.length = ws.length := hFF.len.trans hDw
        rw [hfw]
        rw [hfw] at hlF
        have HFF : Hid (FitsF fs D) := hFF
        have HCF : Hid _ := hcF
        have HB4 : Hid (Below wr.heap.size wr X4) := hb4
        have HB04 : Hid (Below w.heap.size w X4) := HBL.out.trans (hb4.mono hszr)
        have HCX : Hid (∀ k f, ws[k]? = some f → ∃ g, aW = some ⟨g, 0, none⟩ ∧ X4.cell? ⟨g, k * 4, none⟩ = some (.int .i64 f.num) ∧ X4.cell? ⟨g, k * 4 + 1, none⟩ = some (.int .i64 f.ty) ∧ X4.cell? ⟨g, k * 4 + 2, none⟩ = some (.int .u64 f.n) ∧ X4.cell? ⟨g, k * 4 + 3, none⟩ = some (.slice f.a f.len f.cap) ∧ IsB X4 f.a f.len f.d ∧ g < X4.heap.size) := by
          intro k f hk
          obtain ⟨g, h1, h2, h3, h4, h5, h6, h7⟩ := HCW.out k f hk
          have hz := hb4.size
          exact ⟨g, h1, (hb4.cell h7).trans h2, (hb4.cell h7).trans h3, (hb4.cell h7).trans h4, (hb4.cell h7).trans h5, isB_old h6 hb4, by omega⟩
        clear HCW
        obtain ⟨n, hn⟩ : ∃ n, ws.length = n := ⟨_, rfl⟩
        rw [hn] at hlF hlW hwk hDw ⊢
        have HN : Hid (ws.length = n) := hn
        have HDN : Hid (D.length = n) := hDw
        have hn300 : n ≤ 300 := by omega
        generalize rs.length = rl at *
        clear hst4 hFF hFR hcF hcR hb4 hfw hn hDw HSP
        go_wp2_with fail
        go_loopw [63] (fun i wq => ∃ q : Nat, q ≤ n ∧ i = .int .i64 q ∧ Below X4.heap.size X4 wq) (fun i _ => n - (intOf i).toNat)
        case atStart => exact ⟨0, by omega, rfl, Below.refl _ _⟩
        case round =>
          obtain ⟨q, hq, rfl, hbq⟩ := hrel
          have HBQ : Hid (Below X4.heap.size X4 wr) := hbq
          have HBW : Hid (Below w.heap.size w wr) := HB04.out.trans (hbq.mono HB04.out.size)
          by_cases hlt : q < n
          · obtain ⟨f, p, hf, hp, hfp⟩ := fits_at HFF.out q (by have := HDN.out; omega)
            obtain ⟨f', hf'⟩ : ∃ f', ws[q]? = some f' := ⟨_, List.getElem?_eq_getElem (by have := HN.out; omega)⟩
            have hsays : f'.says = f.says := by
              have h1 := congrArg (·[q]?) HSAY.out
              simp only [List.getElem?_map, hp, hf', Option.map_some] at h1
              have h2 : p.1.says = f'.says := by simpa using h1
              exact h2.symm.trans hfp.symm
            obtain ⟨gF, rfl, x0, x1, x2, x3, xI, xg⟩ := HCF.out q f hf
            obtain ⟨gG, rfl, y0, y1, y2, y3, yI, yg⟩ := HCX.out q f' hf'
            simp only [FR.says, Prod.mk.injEq] at hsays
            obtain ⟨q0, q1, q2, q3⟩ := hsays
            rw [q0] at y0
            rw [q1] at y1
            rw [q2] at y2
            rw [q3] at yI
            have hz4 := hbq.size
            have HXI : Hid (IsB wr f.a f.len f.d) := isB_old xI hbq
            have HYI : Hid (IsB wr f'.a f'.len f.d) := isB_old yI hbq
            have hx0 : ∀ W, Below wr.heap.size wr W → W.cell? ⟨gF, q * 4, none⟩ = some (.int .i64 f.num) := fun W h => (h.cell (show gF < wr.heap.size by omega)).trans ((HBQ.out.cell xg).trans x0)
            have hx1 : ∀ W, Below wr.heap.size wr W → W.cell? ⟨gF, q * 4 + 1, none⟩ = some (.int .i64 f.ty) := fun W h => (h.cell (show gF < wr.heap.size by omega)).trans ((HBQ.out.cell xg).trans x1)
            have hx2 : ∀ W, Below wr.heap.size wr W → W.cell? ⟨gF, q * 4 + 2, none⟩ = some (.int .u64 f.n) := fun W h => (h.cell (show gF < wr.heap.size by omega)).trans ((HBQ.out.cell xg).trans x2)
            have hx3 : ∀ W, Below wr.heap.size wr W → W.cell? ⟨gF, q * 4 + 3, none⟩ = some (.slice f.a f.len f.cap) := fun W h => (h.cell (show gF < wr.heap.size by omega)).trans ((HBQ.out.cell xg).trans x3)
            have hy0 : ∀ W, Below wr.heap.size wr W → W.cell? ⟨gG, q * 4, none⟩ = some (.int .i64 f.num) := fun W h => (h.cell (show gG < wr.heap.size by omega)).trans ((HBQ.out.cell yg).trans y0)
            have hy1 : ∀ W, Below wr.heap.size wr W → W.cell? ⟨gG, q * 4 + 1, none⟩ = some (.int .i64 f.ty) := fun W h => (h.cell (show gG < wr.heap.size by omega)).trans ((HBQ.out.cell yg).trans y1)
            have hy2 : ∀ W, Below wr.heap.size wr W → W.cell? ⟨gG, q * 4 + 2, none⟩ = some (.int .u64 f.n) := fun W h => (h.cell (show gG < wr.heap.size by omega)).trans ((HBQ.out.cell yg).trans y2)
            have hy3 : ∀ W, Below wr.heap.size wr W → W.cell? ⟨gG, q * 4 + 3, none⟩ = some (.slice f'.a f'.len f'.cap) := fun W h => (h.cell (show gG < wr.heap.size by omega)).trans ((HBQ.out.cell yg).trans y3)
            have hltI : (q : Int) < (n : Int) := by omega
            have hk0 : (0 : Int) ≤ (q : Int) := by omega
            clear x0 x1 x2 x3 xI xg y0 y1 y2 y3 yI yg q0 q1 q2 q3 hfp hf hf' hp hbq
            generalize f.num = fnum at *
            generalize f.ty = fty at *
            generalize f.n = fn at *
            generalize f.a = fa at *
            generalize f.len = flen at *
            generalize f.cap = fcap at *
            generalize f.d = fd at *
            generalize f'.a = ga at *
            generalize f'.len = glen at *
            generalize f'.cap = gcap at *
            have hbd : Below wr.heap.size wr wr.drew := (Below.refl _ _).drew
            go_wp2_with fail
            go_region_held_law (fun W' => Below wr.heap.size wr W') (first | exact hbd | assumption) (first
              | (go_at_call 17; refine (HOU.out _ _ _ _ _ _ _).mono ?_; rintro e X6 ⟨rfl, hb6⟩; have hb46 : Below wr.heap.size wr X6 := hbd.trans (hb6.mono (by simp)))
              | (go_at_call 16; refine (HSA.out _ _ _ _ _ _ _ _ _ fd _ (isB_old HXI.out hb46) (isB_old HYI.out hb46)).mono ?_; rintro e X7 ⟨rfl, hb7⟩; have hb47 : Below wr.heap.size wr X7 := hb46.trans (hb7.mono hb46.size)))
            all_goals
              go_wp2_with fail
              go_roundw
              case rel => exact ⟨q + 1, by omega, by go_num, HBQ.out.trans (hb47.mono hz4)⟩
              case measure => simp [intOf]; omega
          · obtain rfl : q = n := by omega
            go_wp2_with fail
            go_ret
            exact ⟨rfl, HBW.out⟩

theorem contract (H : Type) (enc : TypeId × Value → H) (W : World) (base : Nat) (args : Array Value) (ds gs : List (DataW H)) (before : List MemPlace)
    (hval0 : ∀ (j : Nat) t v, Try.f7.params[j]? = some t → args[j]? = some v → Value.okWide Try.prog W .any base t v)
    (hW : DataW.Whole enc Try.prog Try.f7.params.toList Rows.wireJoinsSpec.vars false W args.toList ds gs before) (hk : Rows.uptoSmall H (ds ++ gs) = true) :
    Calls Try.prog 7 args W fun e W' => ∃ v, e = .returned v ∧ Rows.wireJoinsSpec.post enc Try.prog Try.f7 false true false false W args v W' := by
  have hval : ∀ (j : Nat) t v, Try.f7.params[j]? = some t → args[j]? = some v → Value.okWide Try.prog W .any base t v := hval0
  have hu := bulk_bound hk
  clear hk
  have hW' := hW
  obtain ⟨p, q, hA0, hV, rfl, hfz, hnd⟩ := hW
  have hA : DataW.TrodAll enc Try.prog W 0 (fun _ => true) true Try.f7.params.toList args.toList ds p := hA0
  rw [Try.params7] at hA hval
  obtain ⟨v0, vs0, d0, ds0, p0, q0, hargs, rfl, rfl, h0, r0⟩ := trodAll_cons hA
  obtain ⟨rfl, rfl, rfl⟩ := trodAll_nil r0
  obtain rfl : args = #[v0] := by cases args; simp_all
  obtain ⟨rfl, rfl⟩ := trodVars_none hV
  have k0 := h0
  have lt0 : ∀ x ∈ p0, x.block < W.heap.size := by obtain ⟨m, hm⟩ := k0; exact DataW.trod_lt m _ _ _ hm
  have hu0 : Rows.uptoBulk d0 ≤ 1048576 := Nat.le_trans (bulk_part (by simp)) hu
  obtain ⟨a0, len0, cap0, fs0, rfl, l0, c0, u0, s0, w0⟩ := open_fieldsU (hval 0 49 v0 rfl rfl) h0 hu0
  clear hA0 hval0
  refine (walk a0 len0 cap0 fs0 W l0 c0 u0 s0 w0).mono fun e W' ⟨he, bel⟩ => ?_
  subst he
  exact ⟨_, rfl, _, _, _, [], _, [], hW', trodAll_mk1 (shut_bool Try.underlying4 _), (trodAll_cons_mk (Below.trod laidOut (by kernel_rfl) (of_decide_eq_true (by kernel_rfl)) k0 bel lt0) trodAll_mk0), rfl, bel.frame _, fun h => by cases h⟩

set_option maxRecDepth 100000 in
theorem lifted (os : Os) (started : os.Started) (H : Type) (enc : TypeId × Value → H) (F : Stop.Interp) :
    ReturnsInHanded {} Try.checked os 7 .any ((Rows.OpenSpec.upto Rows.wireJoinsSpec).pre6 enc Try.prog Try.f7 Rows.wireJoinsUptoRow.domain false) (((Rows.OpenSpec.upto Rows.wireJoinsSpec).at F).post enc Try.prog Try.f7 false true false false) := by
  refine returnsInHanded_of_cond (C := Try.checked) (s := Rows.OpenSpec.upto Rows.wireJoinsSpec) (k := Rows.uptoSmall) rfl own started (by kernel_rfl) Try.func7
    (OpenSpec.witness (enc := enc) (C := Try.checked) (s := Rows.OpenSpec.upto Rows.wireJoinsSpec) (k := Rows.uptoSmall) rfl false ⟨#[], #[.slice none 0 0], []⟩ 8 (by kernel_rfl) (by kernel_rfl) (by kernel_rfl)
      (x := ([.nil], [], [])) (by kernel_rfl) rfl (by kernel_rfl)) ?_
  intro W base args ds gs before hval hW _ hk _
  exact contract H enc W base args ds gs before hval hW hk

theorem over : Rows.wireJoinsUptoRow.holds Try.pinned (Rows.OpenSpec.upto Rows.wireJoinsSpec) :=
  OpenClaim.holds_of_cond 7 Try.f7 rfl rfl rfl rfl rfl rfl rfl ⟨rfl, rfl, rfl, rfl, rfl⟩ rfl rfl rfl rfl rfl (by kernel_rfl) Try.func7 (by kernel_rfl)
    (of_decide_eq_true (by kernel_rfl)) (by unfold Func.isWrapper; first | (rw [if_pos (by decide +kernel)]; kernel_rfl) | (rw [if_neg (by decide +kernel)]; exact ⟨rfl, rfl⟩))
    (fun os started H enc _ F => lifted os started H enc F)

theorem proved : Rows.WireJoinsUptoSaid := over
end Go.Proofs.Ythpaanjphpcfkaa.wireJoins
namespace Go.Proofs.Ythpaanjphpcfkaa
theorem wireJoinsUpto_holds : Rows.WireJoinsUptoSaid := wireJoins.proved
end Go.Proofs.Ythpaanjphpcfkaa
