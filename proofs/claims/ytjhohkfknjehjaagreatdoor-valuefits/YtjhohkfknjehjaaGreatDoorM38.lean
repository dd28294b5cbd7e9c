/-
  The walk over the law ValueFits.
  Declarations that came in as an argument, of a size that a machine can hold: what their reading says. Nothing is proved of the program here.
  Schemas that came in as an argument: what their reading says. Nothing is proved of the program here.
-/
import Derived.Test.YtjhohkfknjehjaaGreatDoorM32
import Derived.Test.YtjhohkfknjehjaaGreatDoorM37
import Derived.Test.YtjhohkfknjehjaaGreatDoorM0
import Derived.Test.YtjhohkfknjehjaaGreatDoorM10
import Derived.Test.YtjhohkfknjehjaaGreatDoorM1
import Derived.Test.YtjhohkfknjehjaaGreatDoorChecked
import Derived.OpenShut
import Derived.ProofKit
import Derived.Lib.SmallJoins
import Derived.Lib.ItoaMem
import Derived.Lib.SlicesS
import Derived.Deep.Cut
import Derived.Deep.DeepCutAuto
import Derived.BigQuiet
import Derived.Deep.QuietTactic
import Derived.Deep.RegionLaw
import Derived.Deep.RegionHeldLaw
import Derived.Deep.AppendLies
import Derived.Laws.AppendOwn
import Derived.OwnWalk
import Derived.Maps.AppendAt
import Derived.Lib.Hide
import Derived.Test.YtjhohkfknjehjaaGreatDoorM13
namespace Go.Proofs.YtjhohkfknjehjaaGreatDoor
set_option linter.unusedVariables false
open Go.ChangeShapes Go.WideShapes Go.ChangeAt Go.RowKit

theorem fitsB_one {s : SC} {f : Nat} {t : Int} {x : Nd} {a b : Bool} (h1 : FitsB s f t x a) (h2 : FitsB s f t x b) : a = b := by
  unfold FitsB at h1 h2
  cases a <;> cases b <;> simp_all
set_option maxHeartbeats 32000000 in
set_option maxRecDepth 20000 in
theorem valueFits_any (ma ea ta : Option Addr) (nm ne nt mc ec tc : Nat) (s : SC) (t : Int) (f : Nat) (x : Nd) (xa : Option Addr) (xl xc : Nat) (w : World) (hT : Tabs w) (hnm : s.ms.length = nm) (hne : s.es.length = ne) (hnt : s.ts.length = nt) (hbig : BigS s) (hH : HeldSc w (fun b => b < w.heap.size) (.slice ma nm mc) (.slice ea ne ec) (.slice ta nt tc) s) (hG : HeldG rawS w (fun b => b < w.heap.size) f (.slice xa xl xc) x.fields) (hfit : FitG 140737488355328 140737488355328 f x) :
    Calls Tryz.prog 3 #[.agg #[.slice ma nm mc, .slice ea ne ec, .slice ta nt tc], .int .i64 t, .agg #[.int .i64 x.kind, .int .i64 x.n, .int .u64 x.u, .bool x.b, .string (mkB x.s), .int .i64 x.type, .slice xa xl xc]] w fun e w' => e = .returned (.bool true) ∧ Below w.heap.size w w' := by
  obtain ⟨Y, hY, hC, hb, hYs⟩ := box_new w #[.slice ma nm mc, .slice ea ne ec, .slice ta nt tc] 26
  obtain ⟨V, hV, hD, hVb, hVs⟩ := box_new Y #[.int .i64 x.kind, .int .i64 x.n, .int .u64 x.u, .bool x.b, .string (mkB x.s), .int .i64 x.type, .slice xa xl xc] 30
  rw [hYs] at hD
  have HY := Lib.hid hY
  have HV := Lib.hid hV
  have hBV := hb.trans (hVb.mono hb.size)
  have HBV := Lib.hid hBV
  have hCV := (hVb.block _ (by omega)).trans hC
  have hVl : w.heap.size + 2 ≤ V.heap.size := by omega
  have HWB : Hid (∀ W, Below V.heap.size V W → Below w.heap.size w W) := fun W hW => hBV.trans (hW.mono hBV.size)
  have HH : Hid (∀ W, Below w.heap.size w W → HeldSc W (fun b => b < W.heap.size) (.slice ma nm mc) (.slice ea ne ec) (.slice ta nt tc) s) := fun W hW => ⟨(HeldN.old hH.1 fun b hb => hW.block b hb).more fun b hb => by have hb' : b < w.heap.size := hb; have := hW.size; omega, (HeldN.old hH.2.1 fun b hb => hW.block b hb).more fun b hb => by have hb' : b < w.heap.size := hb; have := hW.size; omega, (RowsIn.old hH.2.2 fun b hb => hW.block b hb).more fun b hb => by have hb' : b < w.heap.size := hb; have := hW.size; omega⟩
  have HG : Hid (∀ W, Below w.heap.size w W → HeldG rawS W (fun b => b < W.heap.size) f (.slice xa xl xc) x.fields) := fun W hW => HeldG.mv (fun b hb => hW.block b hb) (fun b hb => by have hb' : b < w.heap.size := hb; have := hW.size; omega) hG
  have HA : Hid (∀ W, Below V.heap.size V W → Calls Tryz.prog 5 #[] W fun e w' => e = .returned (.bool true) ∧ Below V.heap.size V w') := fun W hW => (awake9_any W (tabs_below hT (HWB.out W hW))).mono fun e w' ⟨h1, h2⟩ => ⟨h1, hW.trans (h2.mono hW.size)⟩
  have HFW : Hid (∀ W, Below V.heap.size V W → Calls Tryz.prog 6 #[.agg #[.slice ma nm mc, .slice ea ne ec, .slice ta nt tc], .agg #[.int .i64 x.kind, .int .i64 x.n, .int .u64 x.u, .bool x.b, .string (mkB x.s), .int .i64 x.type, .slice xa xl xc]] W fun e w' => FewAns s f x V e w') := fun W hW => (few9_any ma ea ta nm ne nt mc ec tc s f x xa xl xc W hnm hne hnt hbig (HH.out W (HWB.out W hW)) (HG.out W (HWB.out W hW)) hfit).mono fun e w' ⟨b, h1, h2, h3⟩ => ⟨b, h1, h2, hW.trans (h3.mono hW.size)⟩
  have HTH : Hid (FitG 100000 1000 f x → ∀ W, Below V.heap.size V W → Calls Tryz.prog 8 #[.agg #[.int .i64 x.kind, .int .i64 x.n, .int .u64 x.u, .bool x.b, .string (mkB x.s), .int .i64 x.type, .slice xa xl xc]] W fun e w' => TheirAns f W x e w') := fun hf W hW => theirsN_any f x (.slice xa xl xc) W hf (HG.out W (HWB.out W hW))
  have HCL : Hid (FitG 100000 1000 f x → ∀ W, Below V.heap.size V W → Calls Tryz.prog 10 #[.agg #[.int .i64 x.kind, .int .i64 x.n, .int .u64 x.u, .bool x.b, .string (mkB x.s), .int .i64 x.type, .slice xa xl xc]] W fun e w' => OurAns f W x e w') := fun hf W hW => clean_any f x xa xl xc W hf (HG.out W (HWB.out W hW))
  have HFP : Hid (SmS s → FitG 100000 1000 f x → ∀ (W : World) (v : Value), Below V.heap.size V W → HeldV W (fun b => b < W.heap.size) f v x → Calls Tryz.prog 7 #[.agg #[.slice ma nm mc, .slice ea ne ec, .slice ta nt tc], .int .i64 t, v] W fun e w' => FvAns s f t x V e w') := fun hs hf W v hW hv => (fitsPV_any ma ea ta nm ne nt mc ec tc s f t W (tabs_below hT (HWB.out W hW)) hnm hne hnt (fitS_of hs) (HH.out W (HWB.out W hW)) v x hv hf).mono fun e w' ⟨b, h1, h2, h3⟩ => ⟨b, h1, h2, hW.trans (h3.mono hW.size)⟩
  have HFR : Hid (SmS s → FitG 100000 1000 f x → ∀ (W : World) (z : Nd) (la : Option Addr) (ln lc : Nat), z = cn x → Below V.heap.size V W → (x.kind = 7 → HeldG clS W (fun b => b < W.heap.size) f (.slice la ln lc) x.fields) → Calls Tryz.prog 9 #[.agg #[.slice ma nm mc, .slice ea ne ec, .slice ta nt tc], .int .i64 t, .agg #[.int .i64 z.kind, .int .i64 z.n, .int .u64 z.u, .bool z.b, .string (mkB z.s), .int .i64 z.type, .slice la ln lc]] W fun e w' => FvAns s f t x V e w') := fun hs hf W z la ln lc hz hW hv => (fitsRV_any ma ea ta nm ne nt mc ec tc s f t W (tabs_below hT (HWB.out W hW)) hnm hne hnt (fitS_of hs) (HH.out W (HWB.out W hW)) x z la ln lc hz hv hf).mono fun e w' ⟨b, h1, h2, h3⟩ => ⟨b, h1, h2, hW.trans (h3.mono hW.size)⟩
  have s0 : ∀ W, Below V.heap.size V W → W.cell? ⟨w.heap.size, 0, none⟩ = some (.slice ma nm mc) := fun W hW => (hW.cell (by simp; omega)).trans (cell_at hCV 0 rfl)
  have s1 : ∀ W, Below V.heap.size V W → W.cell? ⟨w.heap.size, 1, none⟩ = some (.slice ea ne ec) := fun W hW => (hW.cell (by simp; omega)).trans (cell_at hCV 1 rfl)
  have s2 : ∀ W, Below V.heap.size V W → W.cell? ⟨w.heap.size, 2, none⟩ = some (.slice ta nt tc) := fun W hW => (hW.cell (by simp; omega)).trans (cell_at hCV 2 rfl)
  have n0 : ∀ W, Below V.heap.size V W → W.cell? ⟨w.heap.size + 1, 0, none⟩ = some (.int .i64 x.kind) := fun W hW => (hW.cell (by simp; omega)).trans (cell_at hD 0 rfl)
  have n1 : ∀ W, Below V.heap.size V W → W.cell? ⟨w.heap.size + 1, 1, none⟩ = some (.int .i64 x.n) := fun W hW => (hW.cell (by simp; omega)).trans (cell_at hD 1 rfl)
  have n2 : ∀ W, Below V.heap.size V W → W.cell? ⟨w.heap.size + 1, 2, none⟩ = some (.int .u64 x.u) := fun W hW => (hW.cell (by simp; omega)).trans (cell_at hD 2 rfl)
  have n3 : ∀ W, Below V.heap.size V W → W.cell? ⟨w.heap.size + 1, 3, none⟩ = some (.bool x.b) := fun W hW => (hW.cell (by simp; omega)).trans (cell_at hD 3 rfl)
  have n4 : ∀ W, Below V.heap.size V W → W.cell? ⟨w.heap.size + 1, 4, none⟩ = some (.string (mkB x.s)) := fun W hW => (hW.cell (by simp; omega)).trans (cell_at hD 4 rfl)
  have n5 : ∀ W, Below V.heap.size V W → W.cell? ⟨w.heap.size + 1, 5, none⟩ = some (.int .i64 x.type) := fun W hW => (hW.cell (by simp; omega)).trans (cell_at hD 5 rfl)
  have n6 : ∀ W, Below V.heap.size V W → W.cell? ⟨w.heap.size + 1, 6, none⟩ = some (.slice xa xl xc) := fun W hW => (hW.cell (by simp; omega)).trans (cell_at hD 6 rfl)
  have hS0 : Below V.heap.size V V := Below.refl _ _
  clear hY hC hb hYs hV hD hVb hVs hBV hCV hH hG hfit hbig hnm hne hnt hT
  go_enter Tryz.func3, Tryz.ntmps3
  go_upto_region 1 with fail
  rw [HY.out, HV.out]
  go_wp2_with fail
  refine (HA.out _ hS0).mono ?_
  rintro e W1 ⟨rfl, hS1⟩
  clear hS0
  have b0 := s0 W1 hS1
  have b1 := s1 W1 hS1
  have b2 := s2 W1 hS1
  have k0 := n0 W1 hS1
  have k1 := n1 W1 hS1
  have k2 := n2 W1 hS1
  have k3 := n3 W1 hS1
  have k4 := n4 W1 hS1
  have k5 := n5 W1 hS1
  have k6 := n6 W1 hS1
  go_wp2_with fail
  refine (HFW.out _ hS1).mono ?_
  rintro e W2 ⟨b, rfl, hsm, hS0⟩
  have HSM := Lib.hid hsm
  clear hS1 hsm b0 b1 b2 k0 k1 k2 k3 k4 k5 k6
  cases b
  case false =>
    go_wp2_with fail
    refine (HA.out _ hS0).mono ?_
    rintro e W3 ⟨rfl, hS1⟩
    have HE := Lib.hid (HWB.out _ hS1)
    go_wp2_with fail
    go_ret
    exact ⟨rfl, HE.out⟩
  obtain ⟨hss, hff⟩ := HSM.out (by simp)
  have HTH2 := Lib.hid (HTH.out hff)
  have HCL2 := Lib.hid (HCL.out hff)
  have HFP2 := Lib.hid (HFP.out hss hff)
  have HFR2 := Lib.hid (HFR.out hss hff)
  clear HTH HCL HFP HFR hss hff HSM HA HFW
  go_upto_region 3 with fail
  have hS1 : Below V.heap.size V W2.drew := hS0.drew
  clear hS0
  have hS0 := hS1
  clear hS1
  refine wp_region_held_drew (S := fun W => Below V.heap.size V W) (by kernel_rfl) hS0 (fun _ => ?_)
  refine T_on 0 (.agg #[.slice ma nm mc, .slice ea ne ec, .slice ta nt tc]) rfl (by kernel_rfl) (fun _ _ _ h => h) hS0 (fun W hW => by have c0 := s0 W hW; have c1 := s1 W hW; have c2 := s2 W hW; go_simp) ?_
  refine T_on 1 (.int .i64 t) rfl (by kernel_rfl) (fun _ _ _ h => h) hS0 (fun W hW => by go_simp) ?_
  refine T_on 2 (.agg #[.int .i64 x.kind, .int .i64 x.n, .int .u64 x.u, .bool x.b, .string (mkB x.s), .int .i64 x.type, .slice xa xl xc]) rfl (by kernel_rfl) (fun _ _ _ h => h) hS0 (fun W hW => by have c0 := n0 W hW; have c1 := n1 W hW; have c2 := n2 W hW; have c3 := n3 W hW; have c4 := n4 W hW; have c5 := n5 W hW; have c6 := n6 W hW; go_simp) ?_
  refine T_on 5 (.agg #[.slice ma nm mc, .slice ea ne ec, .slice ta nt tc]) rfl (by kernel_rfl) (fun _ _ _ h => h) hS0 (fun W hW => by have c0 := s0 W hW; have c1 := s1 W hW; have c2 := s2 W hW; go_simp) ?_
  refine T_on 6 (.int .i64 t) rfl (by kernel_rfl) (fun _ _ _ h => h) hS0 (fun W hW => by go_simp) ?_
  refine T_on 7 (.agg #[.int .i64 x.kind, .int .i64 x.n, .int .u64 x.u, .bool x.b, .string (mkB x.s), .int .i64 x.type, .slice xa xl xc]) rfl (by kernel_rfl) (fun _ _ _ h => h) hS0 (fun W hW => by have c0 := n0 W hW; have c1 := n1 W hW; have c2 := n2 W hW; have c3 := n3 W hW; have c4 := n4 W hW; have c5 := n5 W hW; have c6 := n6 W hW; go_simp) ?_
  refine T_call 3 (by kernel_rfl) rfl (fun K hK => ?_)
  go_simp
  refine (HTH2.out _ hS0).mono ?_
  rintro e U1 ⟨v1, rfl, hv1, hb1⟩
  have hS1 := hS0.trans (hb1.mono hS0.size)
  clear hS0 hb1
  have hS0 := hS1
  clear hS1
  have HV1 : Hid (HeldV U1 (fun b => b < U1.heap.size) f v1 x) := hv1.mv (fun _ _ => rfl) (fun b hb => hb.2)
  clear hv1
  dsimp only
  refine hK.out _ _ hS0 (fun _ => ?_)
  clear hK K
  refine T_call 4 (by kernel_rfl) rfl (fun K hK => ?_)
  go_simp
  refine (HFP2.out _ _ hS0 HV1.out).mono ?_
  rintro e U2 ⟨p1, rfl, hp1, hS1⟩
  clear hS0
  have hS0 := hS1
  clear hS1
  have HP1 := Lib.hid hp1
  clear hp1
  dsimp only
  refine hK.out _ _ hS0 (fun _ => ?_)
  clear hK K
  refine T_call 8 (by kernel_rfl) rfl (fun K hK => ?_)
  go_simp
  refine (HCL2.out _ hS0).mono ?_
  rintro e U3 ⟨a0, a1, a2, a3, a4, a5, sa, sl, sc, fsr, rfl, hrow, hhg, hb3⟩
  have hS1 := hS0.trans (hb3.mono hS0.size)
  clear hS0 hb3
  have hS0 := hS1
  clear hS1
  have HC2 : Hid (Calls Tryz.prog 9 #[.agg #[.slice ma nm mc, .slice ea ne ec, .slice ta nt tc], .int .i64 t, .agg #[.int .i64 a0, .int .i64 a1, .int .u64 a2, .bool a3, .string a4, .int .i64 a5, .slice sa sl sc]] U3 fun e w' => FvAns s f t x V e w') := by
    refine (?_ : Calls _ _ _ _ _)
    have hr : clS.row x fsr = [.int .i64 (cn x).kind, .int .i64 (cn x).n, .int .u64 (cn x).u, .bool (cn x).b, .string (mkB (cn x).s), .int .i64 (cn x).type, if x.kind = 7 then fsr else .slice none 0 0] := rfl
    rw [hr] at hrow
    simp only [List.cons.injEq, Value.int.injEq, Value.bool.injEq, Value.string.injEq, true_and, and_true] at hrow
    obtain ⟨rfl, rfl, rfl, rfl, rfl, rfl, h7⟩ := hrow
    refine HFR2.out U3 (cn x) sa sl sc rfl hS0 (fun hk => ?_)
    rw [if_pos hk] at h7
    rw [h7]
    exact HeldG.mv (fun _ _ => rfl) (fun b hb => hb.2) (hhg hk)
  clear hrow hhg
  dsimp only
  refine hK.out _ _ hS0 (fun _ => ?_)
  clear hK K
  refine T_call 9 (by kernel_rfl) rfl (fun K hK => ?_)
  go_simp
  refine HC2.out.mono ?_
  rintro e U4 ⟨p2, rfl, hp2, hS1⟩
  clear hS0
  have hS0 := hS1
  clear hS1
  obtain rfl := fitsB_one HP1.out hp2
  clear hp2
  dsimp only
  refine hK.out _ _ hS0 (fun _ => ?_)
  clear hK K
  refine T_on 10 (.bool true) rfl (by kernel_rfl) (fun _ _ _ h => h) hS0 (fun W hW => by go_simp) ?_
  refine T_on 11 (.bool true) rfl (by kernel_rfl) (fun _ _ _ h => h) hS0 (fun W hW => by go_simp) ?_
  refine wpAnyH_done (by kernel_rfl) ?_ _
  go_simp
  have HE := Lib.hid (HWB.out _ hS0)
  go_wp2_with fail
  go_ret
  exact ⟨rfl, HE.out⟩
end Go.Proofs.YtjhohkfknjehjaaGreatDoor
namespace Go.Proofs.YtjhohkfknjehjaaGreatDoor
set_option linter.unusedVariables false
open Go.ChangeShapes Go.WideShapes Go.ChangeAt Go.RowKit Go.Joins

/-- no text and no list of it is too long -/
def Wok2 {H : Type} (d : DataW H) (t : TypeId) : Prop := ∀ n ∈ DataW.weights Tryz.prog t d, n ≤ 140737488351232
theorem wok_all {H : Type} {e : TypeId} : ∀ {l : List (DataW H)} {d : DataW H}, d ∈ l → (∀ n ∈ DataW.weightsAll Tryz.prog e l, n ≤ 140737488351232) → Wok2 d e
  | x :: r, d, hd, h => by
    rw [DataW.weightsAll] at h
    rcases List.mem_cons.1 hd with rfl | hd
    · exact fun n hn => h n (List.mem_append_left _ hn)
    · exact wok_all hd (fun n hn => h n (List.mem_append_right _ hn))
theorem wok_slice {H : Type} {t e : TypeId} {elems spare : List (DataW H)} (ht : Tryz.prog.underlying t = some (.slice e)) (h : Wok2 (.slice elems spare) t) :
    (elems.length + spare.length) * Tryz.prog.bytesOf e ≤ 140737488351232 ∧ ∀ d ∈ elems, Wok2 d e := by
  unfold Wok2 at h
  rw [DataW.weights, ht] at h
  simp only at h
  refine ⟨h _ List.mem_cons_self, fun d hd => wok_all hd fun n hn => h n (List.mem_cons_of_mem _ (List.mem_append_left _ hn))⟩
theorem wok_string {H : Type} {t : TypeId} {l : List UInt8} (h : Wok2 (H := H) (.lit (.string l)) t) : l.length ≤ 140737488351232 := h _ (by rw [DataW.weights]; exact List.mem_singleton.2 rfl)
theorem wok_each {H : Type} : ∀ {ts : List TypeId} {l : List (DataW H)}, (∀ n ∈ DataW.weightsEach Tryz.prog ts l, n ≤ 140737488351232) → ∀ (i : Nat) (t : TypeId) (d : DataW H), ts[i]? = some t → l[i]? = some d → Wok2 d t
  | t0 :: ts, d0 :: l, h, 0, t, d, h1, h2 => by
    have e1 : t0 = t := by simpa using h1
    have e2 : d0 = d := by simpa using h2
    subst e1 e2
    rw [DataW.weightsEach] at h
    exact fun n hn => h n (List.mem_append_left _ hn)
  | t0 :: ts, d0 :: l, h, i + 1, t, d, h1, h2 => by
    rw [DataW.weightsEach] at h
    exact wok_each (ts := ts) (l := l) (fun n hn => h n (List.mem_append_right _ hn)) i t d (by simpa using h1) (by simpa using h2)
  | [], l, h, i, t, d, h1, h2 => by simp at h1
  | t0 :: ts, [], h, i, t, d, h1, h2 => by simp at h2
theorem wok_struct {H : Type} {t : TypeId} {fs : Array Field} {parts : List (DataW H)} (ht : Tryz.prog.underlying t = some (.struct fs)) (h : Wok2 (.agg parts) t) (i : Nat) (f : Field) (d : DataW H) (hf : fs[i]? = some f) (hd : parts[i]? = some d) : Wok2 d f.type := by
  unfold Wok2 at h
  rw [DataW.weights, ht] at h
  simp only at h
  refine wok_each h i f.type d ?_ hd
  rw [List.getElem?_map, Array.getElem?_toList, hf]; rfl
theorem list_choiceD {α : Type} {P : Nat → α → Prop} : ∀ n : Nat, (∀ k, k < n → ∃ f, P k f) → ∃ fs : List α, fs.length = n ∧ ∀ k f, fs[k]? = some f → P k f
  | 0, _ => ⟨[], rfl, fun k f h => by simp at h⟩
  | n + 1, h => by
    obtain ⟨fs, hl, hP⟩ := list_choiceD n (fun k hk => h k (by omega))
    obtain ⟨f, hf⟩ := h n (by omega)
    refine ⟨fs ++ [f], by simp [hl], fun k g hg => ?_⟩
    by_cases hk : k < n
    · rw [List.getElem?_append_left (by omega)] at hg
      exact hP k g hg
    · have hlt := (List.getElem?_eq_some_iff.1 hg).1
      rw [List.length_append, List.length_singleton] at hlt
      obtain rfl : k = n := by omega
      rw [List.getElem?_append_right (by omega), hl, Nat.sub_self] at hg
      simp at hg
      subst hg
      exact hf
theorem cell_ltD {w : World} {g o : Nat} {v : Value} (h : w.cell? ⟨g, o, none⟩ = some v) : g < w.heap.size := by
  by_cases hl : g < w.heap.size
  · exact hl
  · have : w.heap[g]? = none := Array.getElem?_eq_none (by omega)
    simp [World.cell?, this] at h
/-- a slice whose elements are read as rows -/
theorem slice_rows {H : Type} {enc : TypeId × Value → H} {W : World} {α : Type} (T E : TypeId) (k : Nat) (row : α → List Value) (fit : α → Prop) (hT : Tryz.prog.underlying T = some (.slice E)) (hk : Tryz.prog.cellsOf E = k) (hk1 : 1 ≤ k) (hrl : ∀ x, (row x).length = k) (hby : 1 ≤ Tryz.prog.bytesOf E)
    {fuel : Nat} {cs : List Value} {y : DataW H × List MemPlace} (helem : ∀ n, fuel = n + 1 → ∀ cs y, DataW.trod enc Tryz.prog W 0 (fun _ => true) true n E cs = some y → Wok2 y.1 E → ∃ x, cs = row x ∧ fit x)
    (h : DataW.trod enc Tryz.prog W 0 (fun _ => true) true fuel T cs = some y) (hw : Wok2 y.1 T) :
    ∃ v xs, cs = [v] ∧ RowsIn W (fun b => b < W.heap.size) k row v xs ∧ xs.length ≤ 140737488355328 ∧ ∀ x ∈ xs, fit x := by
  rcases DataW.trod_slice hT h with ⟨hcs, hd⟩ | ⟨x, l, c, elems, rest, m, hm, hcs, hd, hb, hl, hmx, hlen, hel, hsp, _⟩
  · exact ⟨_, [], hcs, RowsIn.nil _ _ _ _ _ _, by simp, fun x hx => by cases hx⟩
  · subst hd
    obtain ⟨hbytes, hparts⟩ := wok_slice hT hw
    have hcount : elems.length ≤ 140737488355328 := by
      rw [List.length_map, List.length_map] at hbytes
      have h2 : elems.length * 1 ≤ (elems.length + rest.length) * Tryz.prog.bytesOf E := Nat.mul_le_mul (by omega) hby
      omega
    rw [hk] at hel
    have hP : ∀ i, i < l → ∃ a : α, fit a ∧ ∃ cs, W.cells? 0 (x.add (i * k)) k = some cs ∧ cs = row a := fun i hi => by
      have h1 := hel i hi
      obtain ⟨yy, hy⟩ : ∃ yy, elems[i]? = some yy := ⟨_, List.getElem?_eq_getElem (by omega)⟩
      rw [hy] at h1
      obtain ⟨cs1, hcs1, htr⟩ := Option.bind_eq_some_iff.1 h1
      obtain ⟨a, ha, hf⟩ := helem m hm cs1 yy htr (hparts yy.1 (List.mem_map.2 ⟨yy, List.mem_of_getElem? hy, rfl⟩))
      exact ⟨a, hf, cs1, hcs1, ha⟩
    obtain ⟨zs, hal, hap⟩ := list_choiceD (P := fun i a => fit a ∧ ∃ cs, W.cells? 0 (x.add (i * k)) k = some cs ∧ cs = row a) l hP
    refine ⟨_, zs, hcs, ⟨some x, c, by rw [hal], by omega, ?_⟩, by omega, fun a ha => ?_⟩
    · by_cases hz : zs = []
      · exact .inl hz
      · right
        have hpos := List.length_pos_iff.2 hz
        obtain ⟨g, off, spot⟩ := x
        obtain ⟨a0, ha0⟩ : ∃ a, zs[0]? = some a := ⟨_, List.getElem?_eq_getElem (by omega)⟩
        obtain ⟨_, cs0, hcs0, hr0⟩ := hap 0 a0 ha0
        have hc0 := (World.cells?_some hcs0).2.2 0 (by omega)
        have hr1 : cs0[0]? = some (cs0[0]'(by rw [hr0, hrl]; omega)) := List.getElem?_eq_getElem _
        rw [hr1] at hc0
        have hspot : spot = none := by
          have h3 := World.cell?_spot hc0
          simpa [Addr.add] using h3
        subst hspot
        refine ⟨g, off, rfl, ?_, fun j a hj i u hu => ?_⟩
        · have e : ((Addr.mk g off none).add (0 * k)).add 0 = ⟨g, off, none⟩ := by simp [Addr.add]
          rw [e] at hc0
          exact cell_ltD hc0
        · obtain ⟨_, cs1, hcs1, hr1⟩ := hap j a hj
          have hi : i < k := by
            have := (List.getElem?_eq_some_iff.1 hu).1
            rw [hrl] at this; exact this
          have h3 := (World.cells?_some hcs1).2.2 i hi
          rw [hr1, hu] at h3
          have e : ((Addr.mk g off none).add (j * k)).add i = ⟨g, off + (j * k + i), none⟩ := by rw [Lib.add_plain, Lib.add_plain, Nat.add_assoc]
          rw [e] at h3
          exact h3
    · obtain ⟨i, hi⟩ := List.getElem?_of_mem ha
      exact (hap i a hi).1
abbrev N47 : Nat := 140737488355328
theorem str_of_trod {H : Type} {enc : TypeId × Value → H} {W : World} {fuel : Nat} {cs : List Value} {y : DataW H × List MemPlace} (h : DataW.trod enc Tryz.prog W 0 (fun _ => true) true fuel 9 cs = some y) (hw : Wok2 y.1 9) : ∃ l : List UInt8, cs = [.string (mkB l)] ∧ l.length ≤ N47 := by
  obtain ⟨s, e, rfl, _⟩ := DataW.trod_string Tryz.underlying9 h
  exact ⟨s.data.toList, by rw [e, mkB_data], by have := wok_string hw; unfold N47; omega⟩
end Go.Proofs.YtjhohkfknjehjaaGreatDoor
namespace Go.Proofs.YtjhohkfknjehjaaGreatDoor
set_option linter.unusedVariables false
open Go.ChangeShapes Go.WideShapes Go.ChangeAt Go.RowKit Go.Joins

set_option maxRecDepth 100000 in
theorem trodS2 {H : Type} {enc : TypeId × Value → H} {W : World} {t : TypeId} {f0 f1 : Field} {fuel : Nat} {cs : List Value} {y : DataW H × List MemPlace} (ht : Tryz.prog.underlying t = some (.struct #[f0, f1])) (h : DataW.trod enc Tryz.prog W 0 (fun _ => true) true fuel t cs = some y) (hw : Wok2 y.1 t) :
    ∃ (y0 y1 : DataW H × List MemPlace) (n : Nat), fuel = n + 1 ∧ cs.length = Tryz.prog.cellsOf t ∧ (DataW.trod enc Tryz.prog W 0 (fun _ => true) true n f0.type ((cs.drop f0.offset).take (Tryz.prog.cellsOf f0.type)) = some y0 ∧ Wok2 y0.1 f0.type) ∧ (DataW.trod enc Tryz.prog W 0 (fun _ => true) true n f1.type ((cs.drop f1.offset).take (Tryz.prog.cellsOf f1.type)) = some y1 ∧ Wok2 y1.1 f1.type) := by
  obtain ⟨xs, n, hn, rfl, hl, hlen, hf⟩ := DataW.trod_struct ht h
  match xs, hlen with
  | [y0, y1], _ => exact ⟨y0, y1, n, hn, hl, ⟨by simpa using hf 0 f0 rfl, wok_struct ht hw 0 f0 y0.1 rfl rfl⟩, ⟨by simpa using hf 1 f1 rfl, wok_struct ht hw 1 f1 y1.1 rfl rfl⟩⟩
theorem cI : Tryz.prog.cellsOf 3 = 1 := by kernel_rfl
theorem cB : Tryz.prog.cellsOf 4 = 1 := by kernel_rfl
theorem cS : Tryz.prog.cellsOf 9 = 1 := by kernel_rfl
end Go.Proofs.YtjhohkfknjehjaaGreatDoor
