/-
  IdentPaths (P3.1): for every text the law answers true, where the two tables of unicode/utf8 hold what the library lays into them.
-/
import Derived.Test.YtpodlakkfbjhbaaDoorCards
import Derived.Test.YtpodlakkfbjhbaaDoorTie
import Derived.WalkKit
import Derived.ProofKit
import Derived.OpenShut
import Derived.ShutString
import Derived.SizedLaws
import Derived.Below
import Derived.ChangeOld
import Derived.Lib.LaidIn
import Derived.Lib.LaidU8T
import Derived.Deep.DeepHandedRow
import Derived.Deep.DeepWitnessRowRef
import Derived.Deep.RegionWith
import Derived.Deep.RegionLaw
import Derived.Deep.DeepCutAuto
import Derived.Deep.RegionHeldLaw
import Derived.Test.YtpodlakkfbjhbaaDoorLaw
import Derived.Test.YtpodlakkfbjhbaaDoorPthR
namespace Go.Proofs.YtpodlakkfbjhbaaDoor.identPaths
open Go.Shelf
open Go.ChangeShapes Go.WideShapes Go.ChangeAt Go.RowKit
open Go.ChangeMaps (open_string shut_string)
set_option linter.unusedVariables false

theorem own : ownKnob Tryd.prog.godebug = none := by kernel_rfl
theorem laidOut : laidOutB Tryd.prog = true := by kernel_rfl

theorem jn_snoc : ∀ (l : List (List UInt8)) (x : List UInt8), jn (l ++ [x]) = if l = [] then x else jn l ++ [46] ++ x
  | [], x => by simp [jn]
  | [y], x => by simp [jn]
  | y :: z :: t, x => by
    have ih := jn_snoc (z :: t) x
    rw [List.cons_append, jn_cons _ _ (by simp), ih, if_neg (by simp), if_neg (by simp), jn_cons y (z :: t) (by simp)]
    simp
theorem take_snoc {α : Type} (l : List α) (k : Nat) (x : α) (h : l[k]? = some x) : l.take (k + 1) = l.take k ++ [x] := by
  have hlt := (List.getElem?_eq_some_iff.1 h).1
  rw [List.take_add_one, h]; rfl
theorem app_data (a b : ByteArray) : (a ++ b).data.toList = a.data.toList ++ b.data.toList := by
  rw [ByteArray.data_append]; simp
theorem eq_of_data {a b : ByteArray} (h : a.data.toList = b.data.toList) : a = b := by
  apply ByteArray.ext; apply Array.ext'; exact h
set_option maxHeartbeats 4000000 in
theorem walk (s0 : ByteArray) (w : World) (hT : Tabs w) (w0 : s0.size ≤ 9223372036854775807) :
    Calls Tryd.prog 4 #[.string s0] w fun e w' => e = .returned (.bool true) ∧ Below w.heap.size w w' := by
  have hA := fun W => awake_any W
  by_cases h3 : s0.size ≤ 3000
  · have hP := fun W => path_any s0 W (by omega)
    have hPR := fun W hT => pathR_any s0 W hT (by omega)
    have hSN := fun W => same_nil W
    have HJ : Hid (jn (pcs [] s0.data.toList) = s0.data.toList) := jn_pcs s0.data.toList []
    have HSZ : Hid (∀ x ∈ pieces s0, x.size ≤ 3000) := fun x hx => by have := piece_size hx; omega
    by_cases hcn : (pieces s0).length ≤ 8 ∧ allPlain s0 = true
    · have hP2 : ∀ W, Calls Tryd.prog 14 #[.string s0] W fun e w' => (∃ g c, e = .returned (.tuple #[.slice (some ⟨g, 0, none⟩) (pieces s0).length c, .bool true]) ∧ HeldS w' g (pieces s0) ∧ (pieces s0).length ≤ c) ∧ Below W.heap.size W w' := fun W => (hP W).mono fun e w' ⟨h, hb⟩ => ⟨by unfold PathAns at h; rwa [if_pos hcn] at h, hb⟩
      have hPR2 : ∀ W, Tabs W → Calls Tryd.prog 15 #[.string s0] W fun e w' => (∃ g c, e = .returned (.tuple #[.slice (some ⟨g, 0, none⟩) (pieces s0).length c, .bool true]) ∧ HeldS w' g (pieces s0) ∧ (pieces s0).length ≤ c) ∧ Below W.heap.size W w' := fun W hT => (hPR W hT).mono fun e w' ⟨h, hb⟩ => ⟨by unfold PathAns at h; rwa [if_pos hcn] at h, hb⟩
      have h8 := hcn.1
      have hSm := fun g1 c1 g2 c2 W h1 h2 hc1 hc2 => same_any g1 c1 g2 c2 (pieces s0) W h1 h2 h8 hc1 hc2
      clear hP hPR hSN hcn
      have HXL : Hid (pieces s0 = (pcs [] s0.data.toList).map mkB) := rfl
      generalize pieces s0 = xs at *
      generalize pcs [] s0.data.toList = L at *
      obtain ⟨n, hn⟩ : ∃ n, xs.length = n := ⟨_, rfl⟩
      have HN : Hid (xs.length = n) := hn
      rw [hn] at h8 hP2 hPR2 hSm
      clear hn
      go_enter Tryd.func4, Tryd.ntmps4
      go_wp2_with fail
      refine (hA w).mono ?_
      rintro e w1 ⟨rfl, hb1⟩
      have hF := few_any w1.heap.size 1 s0 (w1.alloc (.cells #[.string s0] 9)) (by simp) w0
      rw [decide_eq_true h3] at hF
      go_wp2_with fail
      refine hF.mono ?_
      rintro e w2 ⟨rfl, hw2⟩
      have hb2 : Below w.heap.size w w2 := by rw [hw2]; exact hb1.alloc hb1.size _
      have hT2 := tabs_below hT hb2
      clear hF hw2 hb1 hA
      go_wp2_with fail
      refine (hP2 w2).mono ?_
      rintro e w3 ⟨⟨g1, c1, rfl, hH1, hc1⟩, hb3⟩
      have hT3 := tabs_below hT2 hb3
      have hb3 := hb2.trans (hb3.mono hb2.size)
      have H1 : Hid (HeldS w3 g1 xs) := hH1
      clear hP2 hb2 hT2 hH1
      go_wp2_with fail
      refine (hPR2 w3 hT3).mono ?_
      rintro e w4 ⟨⟨g2, c2, rfl, hH2, hc2⟩, hb4⟩
      have H1b : Hid (HeldS w4 g1 xs) := heldS_old H1.out hb4
      have hb4 := hb3.trans (hb4.mono hb3.size)
      have H2 : Hid (HeldS w4 g2 xs) := hH2
      have hSm4 := hSm g1 c1 g2 c2 w4 H1b.out H2.out (by have := HN.out; omega) (by have := HN.out; omega)
      clear hPR2 hb3 hT3 hH2 H1 hSm
      go_wp2_with fail
      go_loop [7, 30] (fun al i => ∃ (k : Nat) (B : ByteArray), k ≤ n ∧ i = .int .i64 k ∧ al = .string B ∧ B.data.toList = jn (L.take k) ∧ B.size ≤ 4000 * k) (fun _ i => n - (intOf i).toNat)
      case atStart => exact ⟨0, ⟨#[]⟩, by omega, rfl, rfl, rfl, by decide⟩
      case round =>
        obtain ⟨k, B, hk, rfl, rfl, hB, hBs⟩ := hrel
        have HBd : Hid (B.data.toList = jn (L.take k)) := hB
        clear hB
        by_cases hlt : k < n
        · obtain ⟨x, hx⟩ : ∃ x, L[k]? = some x := ⟨_, List.getElem?_eq_getElem (by have := HN.out; rw [HXL.out, List.length_map] at this; omega)⟩
          have hz : xs[k]? = some (mkB x) := by rw [HXL.out, List.getElem?_map, hx]; rfl
          have hcell : w4.cell? ⟨g1, k, none⟩ = some (.string (mkB x)) := H1b.out k _ hz
          have hzs : (mkB x).size ≤ 3000 := HSZ.out _ (List.mem_of_getElem? hz)
          have hxd : (mkB x).data.toList = x := by simp [mkB]
          have HT : Hid (jn (L.take (k + 1)) = if L.take k = [] then x else jn (L.take k) ++ [46] ++ x) := by
            refine (?_ : _ = _)
            rw [take_snoc L k x hx, jn_snoc]
          have HXD : Hid ((mkB x).data.toList = x) := hxd
          have HLK : Hid (L.take k = [] ↔ k = 0) := by
            refine (?_ : _ ↔ _)
            rw [List.take_eq_nil_iff]
            constructor
            · rintro (h | h)
              · exact h
              · rw [h] at hx; simp at hx
            · exact .inl
          clear hx hz hxd
          generalize mkB x = z at *
          by_cases hk0 : k = 0
          · subst hk0
            have hnk : ¬ (0 : Int) < ((0 : Nat) : Int) := by omega
            go_wp2_with fail
            go_round
            case rel =>
              refine ⟨0 + 1, B ++ z, by omega, by go_num, rfl, ?_, by rw [ByteArray.size_append]; omega⟩
              rw [app_data, HT.out, if_pos (HLK.out.2 rfl), HBd.out, HXD.out]
              simp [jn]
            case measure => simp [intOf]; omega
          · have hnk : (0 : Int) < (k : Int) := by omega
            have h46s : (ByteArray.mk #[46]).size = 1 := rfl
            have hds : (B ++ (⟨#[46]⟩ : ByteArray)).size ≤ 4000 * k + 1 := by rw [ByteArray.size_append, h46s]; omega
            have hadd1 : ∀ W : World, (Op.stringOp .add B ⟨#[46]⟩).run Tryd.prog W = .ok (.string (B ++ ⟨#[46]⟩)) W := fun W => run_string_add_sum W _ _ (by rw [h46s]; omega)
            clear h46s
            have HD : Hid ((B ++ (⟨#[46]⟩ : ByteArray)).data.toList = B.data.toList ++ [46]) := app_data _ _
            generalize (B ++ (⟨#[46]⟩ : ByteArray)) = D at *
            go_wp2_with fail
            go_round
            case rel =>
              refine ⟨k + 1, D ++ z, by omega, by go_num, rfl, ?_, by rw [ByteArray.size_append]; omega⟩
              rw [app_data, HT.out, if_neg (fun h => hk0 (HLK.out.1 h)), HD.out, HBd.out, HXD.out]
            case measure => simp [intOf]; omega
        · have HBe : Hid (B = s0) := by
            refine (?_ : B = s0)
            apply eq_of_data
            rw [HBd.out, List.take_of_length_le (by have := HN.out; rw [HXL.out, List.length_map] at this; omega), HJ.out]
          obtain rfl : B = s0 := HBe.out
          clear HBd HBe
          go_wp2_with fail
          refine hSm4.mono ?_
          rintro e w5 ⟨rfl, hb5⟩
          go_wp2_with fail
          go_ret
          exact ⟨retB (by simp), hb4.trans (hb5.mono hb4.size)⟩
    · have hP2 : ∀ W, Calls Tryd.prog 14 #[.string s0] W fun e w' => e = .returned (.tuple #[.slice none 0 0, .bool false]) ∧ Below W.heap.size W w' := fun W => (hP W).mono fun e w' ⟨h, hb⟩ => ⟨by unfold PathAns at h; rwa [if_neg hcn] at h, hb⟩
      have hPR2 : ∀ W, Tabs W → Calls Tryd.prog 15 #[.string s0] W fun e w' => e = .returned (.tuple #[.slice none 0 0, .bool false]) ∧ Below W.heap.size W w' := fun W hT => (hPR W hT).mono fun e w' ⟨h, hb⟩ => ⟨by unfold PathAns at h; rwa [if_neg hcn] at h, hb⟩
      clear hP hPR hcn HSZ HJ
      go_enter Tryd.func4, Tryd.ntmps4
      go_wp2_with fail
      refine (hA w).mono ?_
      rintro e w1 ⟨rfl, hb1⟩
      have hF := few_any w1.heap.size 1 s0 (w1.alloc (.cells #[.string s0] 9)) (by simp) w0
      rw [decide_eq_true h3] at hF
      go_wp2_with fail
      refine hF.mono ?_
      rintro e w2 ⟨rfl, hw2⟩
      have hb2 : Below w.heap.size w w2 := by rw [hw2]; exact hb1.alloc hb1.size _
      have hT2 := tabs_below hT hb2
      clear hF hw2 hb1 hA
      go_wp2_with fail
      refine (hP2 w2).mono ?_
      rintro e w3 ⟨rfl, hb3⟩
      have hT3 := tabs_below hT2 hb3
      have hb3 := hb2.trans (hb3.mono hb2.size)
      clear hP2 hb2 hT2
      go_wp2_with fail
      refine (hPR2 w3 hT3).mono ?_
      rintro e w4 ⟨rfl, hb4⟩
      have hb4 := hb3.trans (hb4.mono hb3.size)
      clear hPR2 hb3 hT3
      go_wp2_with fail
      go_loop [7, 30] (fun al i => al = .string ⟨#[]⟩ ∧ i = .int .i64 0) (fun _ i => 1 - (intOf i).toNat)
      case atStart => exact ⟨rfl, rfl⟩
      case round =>
        obtain ⟨rfl, rfl⟩ := hrel
        go_wp2_with fail
        refine (hSN _).mono ?_
        rintro e w5 ⟨rfl, hb5⟩
        go_wp2_with fail
        go_ret
        exact ⟨rfl, hb4.trans (hb5.mono hb4.size)⟩
  · go_enter Tryd.func4, Tryd.ntmps4
    go_wp2_with fail
    refine (hA w).mono ?_
    rintro e w1 ⟨rfl, hb1⟩
    have hF := few_any w1.heap.size 1 s0 (w1.alloc (.cells #[.string s0] 9)) (by simp) w0
    rw [decide_eq_false h3] at hF
    go_wp2_with fail
    refine hF.mono ?_
    rintro e w2 ⟨rfl, hw2⟩
    have hb2 : Below w.heap.size w w2 := by rw [hw2]; exact hb1.alloc hb1.size _
    clear hF hw2
    go_wp2_with fail
    refine (hA w2).mono ?_
    rintro e w3 ⟨rfl, hb3⟩
    go_wp2_with fail
    go_ret
    exact ⟨rfl, hb2.trans (hb3.mono hb2.size)⟩

set_option maxRecDepth 100000 in
theorem contract (H : Type) (enc : TypeId × Value → H) (W : World) (base : Nat) (args : Array Value) (ds gs : List (DataW H)) (before : List MemPlace)
    (hval0 : ∀ (j : Nat) t v, Tryd.f4.params[j]? = some t → args[j]? = some v → Value.okWide Tryd.prog W .any base t v)
    (hW : DataW.Whole enc Tryd.prog Tryd.f4.params.toList Rows.identPathsSpec.vars false W args.toList ds gs before) (hL : laidMet Tryd.prog Rows.identPathsRow.laid W) :
    Calls Tryd.prog 4 args W fun e W' => ∃ v, e = .returned v ∧ Rows.identPathsSpec.post enc Tryd.prog Tryd.f4 false true false false W args v W' := by
  have hval : ∀ (j : Nat) t v, Tryd.f4.params[j]? = some t → args[j]? = some v → Value.okWide Tryd.prog W .any base t v := hval0
  have htab : Tabs W := utf8Tabs_of_readsT (U8Types.of196 lays196) ⟨by kernel_rfl, by kernel_rfl, by kernel_rfl, by kernel_rfl, by kernel_rfl, by kernel_rfl, by kernel_rfl⟩ (Lib.laidMet.reads hL (.tail _ (.head _))) (Lib.laidMet.reads hL (.head _))
  have hW' := hW
  obtain ⟨p, q, hA0, hV, rfl, hfz, hnd⟩ := hW
  have hA : DataW.TrodAll enc Tryd.prog W 0 (fun _ => true) true Tryd.f4.params.toList args.toList ds p := hA0
  rw [Tryd.params4] at hA hval
  obtain ⟨v0, vs0, d0, ds0, p0, q0, hargs, rfl, rfl, h0, r0⟩ := trodAll_cons hA
  obtain ⟨rfl, rfl, rfl⟩ := trodAll_nil r0
  obtain rfl : args = #[v0] := by cases args; simp_all
  obtain ⟨rfl, rfl⟩ := trodVars_none hV
  have k0 := h0
  have lt0 : ∀ x ∈ p0, x.block < W.heap.size := by obtain ⟨m, hm⟩ := k0; exact DataW.trod_lt m _ _ _ hm
  obtain ⟨s0, rfl, _, _, ws0⟩ := open_string Tryd.underlying9 (hval 0 9 v0 rfl rfl) h0
  have w0 : s0.size ≤ 9223372036854775807 := by unfold maxLen at ws0; omega
  clear hA0 hval0
  refine (walk s0 W htab w0).mono fun e W' ⟨he, bel⟩ => ?_
  subst he
  exact ⟨_, rfl, _, _, _, [], _, [], hW', trodAll_mk1 (shut_bool Tryd.underlying4 _), (trodAll_cons_mk (Below.trod laidOut (by kernel_rfl) (of_decide_eq_true (by kernel_rfl)) k0 bel lt0) trodAll_mk0), rfl, bel.frame _, fun h => by cases h⟩

set_option maxRecDepth 100000 in
set_option maxHeartbeats 2000000 in
theorem wit_row (os : Os) {H : Type} (enc : TypeId × Value → H) :
    (OpenSpec.ofChange Rows.identPathsSpec).preRow enc Tryd.prog Tryd.f4 Rows.identPathsRow.domain false Rows.identPathsRow.laid (({ World.holding Tryd.prog os ⟨#[], #[], []⟩ with heap := (((((World.holding Tryd.prog os ⟨#[], #[], []⟩).heap).modify 0 fun | .cells _ t frozen => .cells ((Lib.firstTab.map fun z => Value.int .u8 z).toArray) t frozen | o => o)).modify 1 fun | .cells _ t frozen => .cells (((List.range 16).flatMap fun i => [Value.int .u8 (Lib.accLo i), Value.int .u8 (Lib.accHi i)]).toArray) t frozen | o => o) } : World).forCall (fun _ _ => 0) ⟨#[], #[.string ⟨#[]⟩], []⟩).memory #[.string ⟨#[]⟩] := by
  have hl : laidMet Tryd.prog Rows.identPathsRow.laid (({ World.holding Tryd.prog os ⟨#[], #[], []⟩ with heap := (((((World.holding Tryd.prog os ⟨#[], #[], []⟩).heap).modify 0 fun | .cells _ t frozen => .cells ((Lib.firstTab.map fun z => Value.int .u8 z).toArray) t frozen | o => o)).modify 1 fun | .cells _ t frozen => .cells (((List.range 16).flatMap fun i => [Value.int .u8 (Lib.accLo i), Value.int .u8 (Lib.accHi i)]).toArray) t frozen | o => o) } : World).forCall (fun _ _ => 0) ⟨#[], #[.string ⟨#[]⟩], []⟩).memory :=
    (LaidIn.of_run (l := Rows.identPathsRow.laid) [0, 1] 8 (by kernel_rfl) (by kernel_rfl) (by kernel_rfl) (by kernel_rfl)).met
  have hw : (DataW.whole enc Tryd.prog (({ World.holding Tryd.prog os ⟨#[], #[], []⟩ with heap := (((((World.holding Tryd.prog os ⟨#[], #[], []⟩).heap).modify 0 fun | .cells _ t frozen => .cells ((Lib.firstTab.map fun z => Value.int .u8 z).toArray) t frozen | o => o)).modify 1 fun | .cells _ t frozen => .cells (((List.range 16).flatMap fun i => [Value.int .u8 (Lib.accLo i), Value.int .u8 (Lib.accHi i)]).toArray) t frozen | o => o) } : World).forCall (fun _ _ => 0) ⟨#[], #[.string ⟨#[]⟩], []⟩).memory Tryd.f4.params.toList Rows.identPathsSpec.vars false (#[.string ⟨#[]⟩] : Array Value).toList 8).map (fun x => (x.1, x.2.1)) =
      some ([.lit (.string [])], []) := by kernel_rfl
  obtain ⟨⟨x1, x2, x3⟩, hx, hx1⟩ := Option.map_eq_some_iff.1 hw
  simp only [Prod.mk.injEq] at hx1
  obtain ⟨rfl, rfl⟩ := hx1
  exact OpenSpec.preRow_of_cond 8 hx (by kernel_rfl) (fun k hk => by cases hk) (by kernel_rfl) hl

set_option maxRecDepth 100000 in
set_option maxHeartbeats 2000000 in
theorem lifted (os : Os) (started : os.Started) (H : Type) (enc : TypeId × Value → H) (F : Stop.Interp) :
    ReturnsInHanded {} Tryd.checked os 4 .any ((OpenSpec.ofChange Rows.identPathsSpec).preRow enc Tryd.prog Tryd.f4 Rows.identPathsRow.domain false Rows.identPathsRow.laid) (((OpenSpec.ofChange Rows.identPathsSpec).at F).post enc Tryd.prog Tryd.f4 false true false false) := by
  refine returnsInHanded_of_row (C := Tryd.checked) (s := OpenSpec.ofChange Rows.identPathsSpec) own started (by kernel_rfl) Tryd.func4
    (witness_row_atRef (enc := enc) (C := Tryd.checked) false ({ World.holding Tryd.prog os ⟨#[], #[], []⟩ with heap := (((((World.holding Tryd.prog os ⟨#[], #[], []⟩).heap).modify 0 fun | .cells _ t frozen => .cells ((Lib.firstTab.map fun z => Value.int .u8 z).toArray) t frozen | o => o)).modify 1 fun | .cells _ t frozen => .cells (((List.range 16).flatMap fun i => [Value.int .u8 (Lib.accLo i), Value.int .u8 (Lib.accHi i)]).toArray) t frozen | o => o) }) #[.string ⟨#[]⟩] rfl (by kernel_rfl) (by kernel_rfl) (by kernel_rfl) (wit_row os enc)) ?_
  intro W base args ds gs before hval hW _ _ _ hL _ _
  exact contract H enc W base args ds gs before hval hW hL

theorem said : Rows.IdentPathsSaid :=
  OpenClaim.holds_of_cond 4 Tryd.f4 rfl rfl rfl rfl rfl rfl rfl ⟨rfl, rfl, rfl, rfl, rfl⟩ rfl rfl rfl rfl rfl (by kernel_rfl) Tryd.func4 (by kernel_rfl)
    (of_decide_eq_true (by kernel_rfl)) (by unfold Func.isWrapper; first | (rw [if_pos (by decide +kernel)]; kernel_rfl) | (rw [if_neg (by decide +kernel)]; exact ⟨rfl, rfl⟩))
    (fun os started H enc _ F => by rw [OpenClaim.pre_eq_preRow]; exact lifted os started H enc F)

theorem plain (f : FuncId) (fn : Func) (hf : Tryd.pinned.checked.prog.funcNamed Rows.identPathsRow.func = some f) (hfn : Tryd.pinned.checked.prog.funcs[f]? = some fn) :
    false = Tryd.pinned.checked.prog.looks [] ∧ ∀ (j : Nat) t, fn.params[j]? = some t → Tryd.pinned.checked.prog.wantsStandIn t = false := by
  obtain rfl : f = 4 := Option.some.inj ((show Tryd.prog.funcNamed Rows.identPathsRow.func = some 4 by kernel_rfl).symm.trans hf) |>.symm
  obtain rfl : fn = Tryd.f4 := (Option.some.inj (Tryd.func4.symm.trans hfn)).symm
  refine ⟨by kernel_rfl, fun j t ht => ?_⟩
  rw [Tryd.params4] at ht
  have ht2 := Array.mem_of_getElem? ht
  simp only [List.mem_toArray, List.mem_cons, List.not_mem_nil, or_false] at ht2
  rcases ht2 with rfl
  · exact (show Tryd.prog.wantsStandIn 9 = false by kernel_rfl)

theorem proved : Rows.IdentPathsCardSaid :=
  Claim7.holds_tied_plain_at .later [] _ _ _ _ said (fun _ h => by cases h) (by kernel_rfl) (fun _ h => by cases h) identPaths_row_tie rfl ⟨rfl, rfl⟩ (by kernel_rfl) rfl plain (by kernel_rfl)
end Go.Proofs.YtpodlakkfbjhbaaDoor.identPaths
namespace Go.Proofs.YtpodlakkfbjhbaaDoor
theorem identPaths_holds : Rows.IdentPathsCardSaid := identPaths.proved
end Go.Proofs.YtpodlakkfbjhbaaDoor
