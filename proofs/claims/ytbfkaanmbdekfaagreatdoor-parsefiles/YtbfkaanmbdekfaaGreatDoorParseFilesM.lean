/-
  ParseFiles: any text has the declarations that the document says, or its error, and place.
-/
import Derived.Test.YtbfkaanmbdekfaaGreatDoorCards
import Derived.Test.YtbfkaanmbdekfaaGreatDoorTie
import Derived.WalkKit
import Derived.ProofKit
import Derived.OpenShut
import Derived.ShutString
import Derived.SizedLaws
import Derived.Below
import Derived.ChangeOld
import Derived.Lib.LaidIn
import Derived.Lib.LaidU8T
import Derived.Deep.DeepHandedRow
import Derived.Deep.DeepWitnessRowRef
import Derived.Deep.RegionWith
import Derived.Deep.RegionLaw
import Derived.Deep.DeepCutAuto
import Derived.Deep.RegionHeldLaw
import Derived.WalkSmall
import Derived.Stop.LaidErr
import Derived.Deep.DeepLaidRun
import Derived.Test.YtbfkaanmbdekfaaGreatDoorGf11
import Derived.Test.YtbfkaanmbdekfaaGreatDoorGf18
import Derived.Test.YtbfkaanmbdekfaaGreatDoorGf19
import Derived.Test.YtbfkaanmbdekfaaGreatDoorGf20
namespace Go.Proofs.YtbfkaanmbdekfaaGreatDoor.parseFiles
open Go.Shelf
open Go.ChangeShapes Go.WideShapes Go.ChangeAt Go.RowKit
open Go.ChangeMaps (open_string shut_string)
set_option linter.unusedVariables false

theorem own : ownKnob Tryz.prog.godebug = none := by kernel_rfl
theorem laidOut : laidOutB Tryz.prog = true := by kernel_rfl

theorem star : "*" ++ "errors.errorString" = "*errors.errorString" := by decide
theorem rowE (u : TypeId) (h : Tryz.prog.typeName? 3 u = some "*errors.errorString") : u = 156 :=
  typeName_ptr_named (nm := "errors.errorString") (by rw [star]; kernel_rfl) (by kernel_rfl) (by decide) u (by rw [star]; exact h)
theorem cellsE : Tryz.prog.cellsOf 158 = 1 := by kernel_rfl
theorem cellsS : Tryz.prog.cellsOf 9 = 1 := by kernel_rfl
theorem gE0 : Tryz.prog.globalNamed "strconv.ErrSyntax" = some 3 := by kernel_rfl
theorem gT0 : (Tryz.prog.globals[3]?).map (·.type) = some 123 := by kernel_rfl
theorem gE1 : Tryz.prog.globalNamed "strconv.ErrRange" = some 4 := by kernel_rfl
theorem gT1 : (Tryz.prog.globals[4]?).map (·.type) = some 123 := by kernel_rfl
set_option maxHeartbeats 4000000 in
set_option maxRecDepth 20000 in
theorem walk (s0 : ByteArray) (w : World) (hT : Tabs w ∧ Errs w) (w0 : s0.size ≤ 9223372036854775807) :
    Calls Tryz.prog 3 #[.string s0] w fun e w' => e = .returned (.bool true) ∧ Below w.heap.size w w' := by
  have hA := awake_any w hT.2
  have hF := fun W (hTW : Errs W) => fileD_any s0 W hTW w0
  have hG := fun W (hTW : Tabs W) => fileR_any s0 W hTW w0
  have hfit := fileL_fit s0.data.toList (words_few _) 10
  unfold GAns at hF
  unfold FAns at hG
  generalize fileL s0.data.toList = FL at *
  obtain ⟨ds, ⟨PL, PC⟩, er⟩ := FL
  have hfit' : FitD 10 ds := hfit
  have hO := fun (v : Value) (W : World) (hW : HeldD 10 W (fun b => b < W.heap.size) v ds) => ours_any 10 ds v W hfit' hW
  have hS := fun (v1 v2 : Value) (W : World) (h1 : HeldD 10 W (fun b => b < W.heap.size) v1 ds) (h2 : HeldD 10 W (fun b => b < W.heap.size) v2 ds) => same_refl 10 ds v1 v2 W hfit' h1 h2
  obtain ⟨n, hn⟩ : ∃ n, ds.length = n := ⟨_, rfl⟩
  dsimp only at hF hG
  unfold CAns at hO
  rw [hn] at hF hG hO
  clear hfit hfit' w0
  go_enter Tryz.func3, Tryz.ntmps3
  go_wp2_with fail
  refine hA.mono ?_
  rintro e w1 ⟨rfl, hb1⟩
  have hT1 : Tabs w1 ∧ Errs w1 := ⟨tabs_below hT.1 hb1, errs_below hT.2 hb1⟩
  clear hA hT
  go_wp2_with fail
  refine (hF w1 hT1.2).mono ?_
  rintro e w2 ⟨⟨ad2, c2, pl2, pc2, rfl, hH2, hp2⟩, hb2⟩
  have hb12 := hb1.trans (hb2.mono hb1.size)
  have HB2 := Lib.hid (hb12.alloc hb12.size (.cells #[.int .i64 pl2, .int .i64 pc2] 25))
  have HT2 : Hid (Tabs (w2.alloc (.cells #[.int .i64 pl2, .int .i64 pc2] 25))) := tabs_below (tabs_below hT1.1 hb2) ((Below.refl _ w2).alloc (Nat.le_refl _) _)
  have HH2 := Lib.hid (hH2.old (w' := w2.alloc (.cells #[.int .i64 pl2, .int .i64 pc2] 25)) (fun b hb => alloc_heap_old _ _ _ hb))
  have HZ2 := Lib.hid (alloc_heap_new w2 (.cells #[.int .i64 pl2, .int .i64 pc2] 25))
  have HP2 := Lib.hid hp2
  have hsV : (w2.alloc (.cells #[.int .i64 pl2, .int .i64 pc2] 25)).heap.size = w2.heap.size + 1 := by simp
  clear hF hb1 hb2 hb12 hH2 hp2 hT1
  go_upto_region 4 with fail
  generalize w2.alloc (.cells #[.int .i64 pl2, .int .i64 pc2] 25) = V2 at *
  obtain ⟨B2, hB2⟩ : ∃ B2, w2.heap.size = B2 := ⟨_, rfl⟩
  rw [hB2] at HZ2 HH2 hsV ⊢
  go_wp2_with fail
  refine (hG V2 HT2.out).mono ?_
  rintro e w3 ⟨⟨ad3, c3, pl3, pc3, rfl, hH3, hp3⟩, hb3⟩
  have HB3 := Lib.hid ((HB2.out.trans (hb3.mono HB2.out.size)).alloc (HB2.out.trans (hb3.mono HB2.out.size)).size (.cells #[.int .i64 pl3, .int .i64 pc3] 25))
  have hz3 := hb3.size
  have HH2' : Hid (HeldD 10 (w3.alloc (.cells #[.int .i64 pl3, .int .i64 pc3] 25)) (fun b => b < (w3.alloc (.cells #[.int .i64 pl3, .int .i64 pc3] 25)).heap.size) (.slice ad2 n c2) ds) := by
    refine (?_ : HeldD _ _ _ _ _)
    refine HeldD.more (S := fun b => b < B2) (fun b hb => by simp; omega) (HeldD.old (w := V2) (fun b hb => ?_) HH2.out)
    rw [alloc_heap_old _ _ _ (by omega), hb3.block b (by omega)]
  have HH3 : Hid (HeldD 10 (w3.alloc (.cells #[.int .i64 pl3, .int .i64 pc3] 25)) (fun b => b < w3.heap.size) (.slice ad3 n c3) ds) := hH3.old (fun b hb => alloc_heap_old _ _ _ hb)
  have HZ3 := Lib.hid (alloc_heap_new w3 (.cells #[.int .i64 pl3, .int .i64 pc3] 25))
  have HZ2' : Hid ((w3.alloc (.cells #[.int .i64 pl3, .int .i64 pc3] 25)).heap[B2]? = some (.cells #[.int .i64 pl2, .int .i64 pc2] 25 (0, 0))) := by
    refine (?_ : _ = _); rw [alloc_heap_old _ _ _ (by omega), hb3.block _ (by omega)]; exact HZ2.out
  have HP3 := Lib.hid hp3
  have hsW : (w3.alloc (.cells #[.int .i64 pl3, .int .i64 pc3] 25)).heap.size = w3.heap.size + 1 := by simp
  clear hG hb3 hH3 hp3 HZ2 HH2 HT2 HB2
  go_upto_region 5 with fail
  generalize w3.alloc (.cells #[.int .i64 pl3, .int .i64 pc3] 25) = V3 at *
  obtain ⟨B3, hB3⟩ : ∃ B3, w3.heap.size = B3 := ⟨_, rfl⟩
  rw [hB3] at HZ3 HH3 hsW hz3 ⊢
  go_wp2_with fail
  refine (hO _ V3 HH2'.out).mono ?_
  rintro e w4 ⟨ad4, c4, rfl, hH4, hb4⟩
  have hz4 := hb4.size
  have hbd : V3.heap.size ≤ w4.heap.size := hb4.size
  have HSM := Lib.hid (hS (.slice ad4 n c4) (.slice ad3 n c3) w4 (hH4.more fun b hb => hb.2) (HeldD.more (S := fun b => b < B3) (fun b hb => by omega) (HeldD.old (w := V3) (fun b hb => hb4.block b (by omega)) HH3.out)))
  have HB4 := Lib.hid (HB3.out.trans (hb4.mono HB3.out.size))
  have HZ4 : Hid (w4.heap[B2]? = some (.cells #[.int .i64 pl2, .int .i64 pc2] 25 (0, 0)) ∧ w4.heap[B3]? = some (.cells #[.int .i64 pl3, .int .i64 pc3] 25 (0, 0))) := by
    refine (?_ : _ ∧ _)
    exact ⟨by rw [hb4.block _ (by omega)]; exact HZ2'.out, by rw [hb4.block _ (by omega)]; exact HZ3.out⟩
  clear hO hS hH4 hb4 HH2' HH3 HZ3 HZ2' HB3
  go_wp2_with fail
  refine HSM.out.mono ?_
  rintro e w5 ⟨rfl, hb5⟩
  have HB5 := Lib.hid (HB4.out.trans (hb5.mono HB4.out.size))
  have z2 : w5.heap[B2]? = some (.cells #[.int .i64 pl2, .int .i64 pc2] 25 (0, 0)) := by rw [hb5.block _ (by omega)]; exact HZ4.out.1
  have z3 : w5.heap[B3]? = some (.cells #[.int .i64 pl3, .int .i64 pc3] 25 (0, 0)) := by rw [hb5.block _ (by omega)]; exact HZ4.out.2
  have q0 : w5.cell? ⟨B2, 0, none⟩ = some (.int .i64 pl2) := by simp [World.cell?, z2]
  have q1 : w5.cell? ⟨B2, 1, none⟩ = some (.int .i64 pc2) := by simp [World.cell?, z2]
  have q2 : w5.cell? ⟨B3, 0, none⟩ = some (.int .i64 pl3) := by simp [World.cell?, z3]
  have q3 : w5.cell? ⟨B3, 1, none⟩ = some (.int .i64 pc3) := by simp [World.cell?, z3]
  have hee : (er == er) = true := by simp
  clear HSM hb5 z2 z3 HZ4 HB4
  by_cases h0 : er = 0
  · subst h0
    go_wp2_with fail
    go_ret
    exact ⟨rfl, HB5.out⟩
  · have h0' : (er == 0) = false := by simpa using h0
    obtain ⟨rfl, rfl⟩ := HP2.out h0
    obtain ⟨rfl, rfl⟩ := HP3.out h0
    clear h0
    go_wp2_with fail
    go_ret
    exact ⟨rfl, HB5.out⟩

set_option maxRecDepth 100000 in
theorem contract (H : Type) (enc : TypeId × Value → H) (W : World) (base : Nat) (args : Array Value) (ds gs : List (DataW H)) (before : List MemPlace)
    (hval0 : ∀ (j : Nat) t v, Tryz.f3.params[j]? = some t → args[j]? = some v → Value.okWide Tryz.prog W .any base t v)
    (hW : DataW.Whole enc Tryz.prog Tryz.f3.params.toList Rows.parseFilesSpec.vars false W args.toList ds gs before) (hL : laidMet Tryz.prog Rows.parseFilesRow.laid W) :
    Calls Tryz.prog 3 args W fun e W' => ∃ v, e = .returned v ∧ Rows.parseFilesSpec.post enc Tryz.prog Tryz.f3 false true false false W args v W' := by
  have hval : ∀ (j : Nat) t v, Tryz.f3.params[j]? = some t → args[j]? = some v → Value.okWide Tryz.prog W .any base t v := hval0
  have htT : Tabs W := utf8Tabs_of_readsT (U8Types.of196 lays196) ⟨by kernel_rfl, by kernel_rfl, by kernel_rfl, by kernel_rfl, by kernel_rfl, by kernel_rfl, by kernel_rfl⟩ (Lib.laidMet.reads hL (.tail _ (.tail _ (.tail _ (.tail _ (.tail _ (.tail _ (.head _)))))))) (Lib.laidMet.reads hL (.tail _ (.tail _ (.tail _ (.head _)))))
  obtain ⟨aE0, sE0, hvE0, -, -, -⟩ := laid_sentinel (hL.tail.tail.tail.tail.tail) gE0 gT0 Tryz.underlying123 rowE Tryz.underlying156 Tryz.underlying158 rfl rfl Tryz.underlying9 cellsE cellsS
  obtain ⟨aE1, sE1, hvE1, -, -, -⟩ := laid_sentinel (hL.tail.tail.tail.tail) gE1 gT1 Tryz.underlying123 rowE Tryz.underlying156 Tryz.underlying158 rfl rfl Tryz.underlying9 cellsE cellsS
  have htE : Errs W := ⟨⟨_, (show W.cell? ⟨3, 0, none⟩ = _ by have h0 := World.var?_cell gE0 hvE0 0; simpa using h0), Or.inr ⟨_, _, rfl⟩⟩, ⟨_, (show W.cell? ⟨4, 0, none⟩ = _ by have h0 := World.var?_cell gE1 hvE1 0; simpa using h0), Or.inr ⟨_, _, rfl⟩⟩⟩
  have htab : Tabs W ∧ Errs W := ⟨htT, htE⟩
  have hW' := hW
  obtain ⟨p, q, hA0, hV, rfl, hfz, hnd⟩ := hW
  have hA : DataW.TrodAll enc Tryz.prog W 0 (fun _ => true) true Tryz.f3.params.toList args.toList ds p := hA0
  rw [Tryz.params3] at hA hval
  obtain ⟨v0, vs0, d0, ds0, p0, q0, hargs, rfl, rfl, h0, r0⟩ := trodAll_cons hA
  obtain ⟨rfl, rfl, rfl⟩ := trodAll_nil r0
  obtain rfl : args = #[v0] := by cases args; simp_all
  obtain ⟨rfl, rfl⟩ := trodVars_none hV
  have k0 := h0
  have lt0 : ∀ x ∈ p0, x.block < W.heap.size := by obtain ⟨m, hm⟩ := k0; exact DataW.trod_lt m _ _ _ hm
  obtain ⟨s0, rfl, _, _, ws0⟩ := open_string Tryz.underlying9 (hval 0 9 v0 rfl rfl) h0
  have w0 : s0.size ≤ 9223372036854775807 := by unfold maxLen at ws0; omega
  clear hA0 hval0
  refine (walk s0 W htab w0).mono fun e W' ⟨he, bel⟩ => ?_
  subst he
  exact ⟨_, rfl, _, _, _, [], _, [], hW', trodAll_mk1 (shut_bool Tryz.underlying4 _), (trodAll_cons_mk (Below.trod laidOut (by kernel_rfl) (of_decide_eq_true (by kernel_rfl)) k0 bel lt0) trodAll_mk0), rfl, bel.frame _, fun h => by cases h⟩

set_option maxRecDepth 100000 in
set_option maxHeartbeats 2000000 in
theorem wit_row (os : Os) {H : Type} (enc : TypeId × Value → H) :
    (OpenSpec.ofChange Rows.parseFilesSpec).preRow enc Tryz.prog Tryz.f3 Rows.parseFilesRow.domain false Rows.parseFilesRow.laid (({ World.holding Tryz.prog os ⟨#[.cells #[.string ⟨#[118, 97, 108, 117, 101, 32, 111, 117, 116, 32, 111, 102, 32, 114, 97, 110, 103, 101]⟩] 158, .cells #[.string ⟨#[105, 110, 118, 97, 108, 105, 100, 32, 115, 121, 110, 116, 97, 120]⟩] 158], #[], []⟩ with heap := (((((((((((((((World.holding Tryz.prog os ⟨#[.cells #[.string ⟨#[118, 97, 108, 117, 101, 32, 111, 117, 116, 32, 111, 102, 32, 114, 97, 110, 103, 101]⟩] 158, .cells #[.string ⟨#[105, 110, 118, 97, 108, 105, 100, 32, 115, 121, 110, 116, 97, 120]⟩] 158], #[], []⟩).heap).modify 6 fun | .cells _ t frozen => .cells (#[.int .u8 0, .int .u8 1, .int .u8 28, .int .u8 2, .int .u8 29, .int .u8 14, .int .u8 24, .int .u8 3, .int .u8 30, .int .u8 22, .int .u8 20, .int .u8 15, .int .u8 25, .int .u8 17, .int .u8 4, .int .u8 8, .int .u8 31, .int .u8 27, .int .u8 13, .int .u8 23, .int .u8 21, .int .u8 19, .int .u8 16, .int .u8 7, .int .u8 26, .int .u8 12, .int .u8 18, .int .u8 6, .int .u8 11, .int .u8 5, .int .u8 10, .int .u8 9]) t frozen | o => o)).modify 7 fun | .cells _ t frozen => .cells (#[.int .u8 0, .int .u8 1, .int .u8 56, .int .u8 2, .int .u8 57, .int .u8 49, .int .u8 28, .int .u8 3, .int .u8 61, .int .u8 58, .int .u8 42, .int .u8 50, .int .u8 38, .int .u8 29, .int .u8 17, .int .u8 4, .int .u8 62, .int .u8 47, .int .u8 59, .int .u8 36, .int .u8 45, .int .u8 43, .int .u8 51, .int .u8 22, .int .u8 53, .int .u8 39, .int .u8 33, .int .u8 30, .int .u8 24, .int .u8 18, .int .u8 12, .int .u8 5, .int .u8 63, .int .u8 55, .int .u8 48, .int .u8 27, .int .u8 60, .int .u8 41, .int .u8 37, .int .u8 16, .int .u8 46, .int .u8 35, .int .u8 44, .int .u8 21, .int .u8 52, .int .u8 32, .int .u8 23, .int .u8 11, .int .u8 54, .int .u8 26, .int .u8 40, .int .u8 15, .int .u8 34, .int .u8 20, .int .u8 31, .int .u8 10, .int .u8 25, .int .u8 14, .int .u8 19, .int .u8 9, .int .u8 13, .int .u8 8, .int .u8 7, .int .u8 6]) t frozen | o => o)).modify 5 fun | .cells _ t frozen => .cells (#[.int .u64 1, .int .u64 10, .int .u64 100, .int .u64 1000, .int .u64 10000, .int .u64 100000, .int .u64 1000000, .int .u64 10000000, .int .u64 100000000, .int .u64 1000000000, .int .u64 10000000000, .int .u64 100000000000, .int .u64 1000000000000, .int .u64 10000000000000, .int .u64 100000000000000, .int .u64 1000000000000000, .int .u64 10000000000000000, .int .u64 100000000000000000, .int .u64 1000000000000000000, .int .u64 10000000000000000000]) t frozen | o => o)).modify 2 fun | .cells _ t frozen => .cells (((List.range 16).flatMap fun i => [Value.int .u8 (Lib.accLo i), Value.int .u8 (Lib.accHi i)]).toArray) t frozen | o => o)).modify 4 fun | .cells _ t frozen => .cells (#[.iface 156 (.pointer (some ⟨13, 0, none⟩))]) t frozen | o => o)).modify 3 fun | .cells _ t frozen => .cells (#[.iface 156 (.pointer (some ⟨14, 0, none⟩))]) t frozen | o => o)).modify 1 fun | .cells _ t frozen => .cells ((Lib.firstTab.map fun z => Value.int .u8 z).toArray) t frozen | o => o) } : World).forCall (fun _ _ => 0) ⟨#[], #[.string ⟨#[]⟩], []⟩).memory #[.string ⟨#[]⟩] := by
  have hl : laidMet Tryz.prog Rows.parseFilesRow.laid (({ World.holding Tryz.prog os ⟨#[.cells #[.string ⟨#[118, 97, 108, 117, 101, 32, 111, 117, 116, 32, 111, 102, 32, 114, 97, 110, 103, 101]⟩] 158, .cells #[.string ⟨#[105, 110, 118, 97, 108, 105, 100, 32, 115, 121, 110, 116, 97, 120]⟩] 158], #[], []⟩ with heap := (((((((((((((((World.holding Tryz.prog os ⟨#[.cells #[.string ⟨#[118, 97, 108, 117, 101, 32, 111, 117, 116, 32, 111, 102, 32, 114, 97, 110, 103, 101]⟩] 158, .cells #[.string ⟨#[105, 110, 118, 97, 108, 105, 100, 32, 115, 121, 110, 116, 97, 120]⟩] 158], #[], []⟩).heap).modify 6 fun | .cells _ t frozen => .cells (#[.int .u8 0, .int .u8 1, .int .u8 28, .int .u8 2, .int .u8 29, .int .u8 14, .int .u8 24, .int .u8 3, .int .u8 30, .int .u8 22, .int .u8 20, .int .u8 15, .int .u8 25, .int .u8 17, .int .u8 4, .int .u8 8, .int .u8 31, .int .u8 27, .int .u8 13, .int .u8 23, .int .u8 21, .int .u8 19, .int .u8 16, .int .u8 7, .int .u8 26, .int .u8 12, .int .u8 18, .int .u8 6, .int .u8 11, .int .u8 5, .int .u8 10, .int .u8 9]) t frozen | o => o)).modify 7 fun | .cells _ t frozen => .cells (#[.int .u8 0, .int .u8 1, .int .u8 56, .int .u8 2, .int .u8 57, .int .u8 49, .int .u8 28, .int .u8 3, .int .u8 61, .int .u8 58, .int .u8 42, .int .u8 50, .int .u8 38, .int .u8 29, .int .u8 17, .int .u8 4, .int .u8 62, .int .u8 47, .int .u8 59, .int .u8 36, .int .u8 45, .int .u8 43, .int .u8 51, .int .u8 22, .int .u8 53, .int .u8 39, .int .u8 33, .int .u8 30, .int .u8 24, .int .u8 18, .int .u8 12, .int .u8 5, .int .u8 63, .int .u8 55, .int .u8 48, .int .u8 27, .int .u8 60, .int .u8 41, .int .u8 37, .int .u8 16, .int .u8 46, .int .u8 35, .int .u8 44, .int .u8 21, .int .u8 52, .int .u8 32, .int .u8 23, .int .u8 11, .int .u8 54, .int .u8 26, .int .u8 40, .int .u8 15, .int .u8 34, .int .u8 20, .int .u8 31, .int .u8 10, .int .u8 25, .int .u8 14, .int .u8 19, .int .u8 9, .int .u8 13, .int .u8 8, .int .u8 7, .int .u8 6]) t frozen | o => o)).modify 5 fun | .cells _ t frozen => .cells (#[.int .u64 1, .int .u64 10, .int .u64 100, .int .u64 1000, .int .u64 10000, .int .u64 100000, .int .u64 1000000, .int .u64 10000000, .int .u64 100000000, .int .u64 1000000000, .int .u64 10000000000, .int .u64 100000000000, .int .u64 1000000000000, .int .u64 10000000000000, .int .u64 100000000000000, .int .u64 1000000000000000, .int .u64 10000000000000000, .int .u64 100000000000000000, .int .u64 1000000000000000000, .int .u64 10000000000000000000]) t frozen | o => o)).modify 2 fun | .cells _ t frozen => .cells (((List.range 16).flatMap fun i => [Value.int .u8 (Lib.accLo i), Value.int .u8 (Lib.accHi i)]).toArray) t frozen | o => o)).modify 4 fun | .cells _ t frozen => .cells (#[.iface 156 (.pointer (some ⟨13, 0, none⟩))]) t frozen | o => o)).modify 3 fun | .cells _ t frozen => .cells (#[.iface 156 (.pointer (some ⟨14, 0, none⟩))]) t frozen | o => o)).modify 1 fun | .cells _ t frozen => .cells ((Lib.firstTab.map fun z => Value.int .u8 z).toArray) t frozen | o => o) } : World).forCall (fun _ _ => 0) ⟨#[], #[.string ⟨#[]⟩], []⟩).memory :=
    (LaidIn.of_run (l := Rows.parseFilesRow.laid) [6, 7, 5, 2, 4, 13, 3, 14, 1] 8 (by kernel_rfl) (by kernel_rfl) (by kernel_rfl) (by kernel_rfl)).met
  have hw : (DataW.whole enc Tryz.prog (({ World.holding Tryz.prog os ⟨#[.cells #[.string ⟨#[118, 97, 108, 117, 101, 32, 111, 117, 116, 32, 111, 102, 32, 114, 97, 110, 103, 101]⟩] 158, .cells #[.string ⟨#[105, 110, 118, 97, 108, 105, 100, 32, 115, 121, 110, 116, 97, 120]⟩] 158], #[], []⟩ with heap := (((((((((((((((World.holding Tryz.prog os ⟨#[.cells #[.string ⟨#[118, 97, 108, 117, 101, 32, 111, 117, 116, 32, 111, 102, 32, 114, 97, 110, 103, 101]⟩] 158, .cells #[.string ⟨#[105, 110, 118, 97, 108, 105, 100, 32, 115, 121, 110, 116, 97, 120]⟩] 158], #[], []⟩).heap).modify 6 fun | .cells _ t frozen => .cells (#[.int .u8 0, .int .u8 1, .int .u8 28, .int .u8 2, .int .u8 29, .int .u8 14, .int .u8 24, .int .u8 3, .int .u8 30, .int .u8 22, .int .u8 20, .int .u8 15, .int .u8 25, .int .u8 17, .int .u8 4, .int .u8 8, .int .u8 31, .int .u8 27, .int .u8 13, .int .u8 23, .int .u8 21, .int .u8 19, .int .u8 16, .int .u8 7, .int .u8 26, .int .u8 12, .int .u8 18, .int .u8 6, .int .u8 11, .int .u8 5, .int .u8 10, .int .u8 9]) t frozen | o => o)).modify 7 fun | .cells _ t frozen => .cells (#[.int .u8 0, .int .u8 1, .int .u8 56, .int .u8 2, .int .u8 57, .int .u8 49, .int .u8 28, .int .u8 3, .int .u8 61, .int .u8 58, .int .u8 42, .int .u8 50, .int .u8 38, .int .u8 29, .int .u8 17, .int .u8 4, .int .u8 62, .int .u8 47, .int .u8 59, .int .u8 36, .int .u8 45, .int .u8 43, .int .u8 51, .int .u8 22, .int .u8 53, .int .u8 39, .int .u8 33, .int .u8 30, .int .u8 24, .int .u8 18, .int .u8 12, .int .u8 5, .int .u8 63, .int .u8 55, .int .u8 48, .int .u8 27, .int .u8 60, .int .u8 41, .int .u8 37, .int .u8 16, .int .u8 46, .int .u8 35, .int .u8 44, .int .u8 21, .int .u8 52, .int .u8 32, .int .u8 23, .int .u8 11, .int .u8 54, .int .u8 26, .int .u8 40, .int .u8 15, .int .u8 34, .int .u8 20, .int .u8 31, .int .u8 10, .int .u8 25, .int .u8 14, .int .u8 19, .int .u8 9, .int .u8 13, .int .u8 8, .int .u8 7, .int .u8 6]) t frozen | o => o)).modify 5 fun | .cells _ t frozen => .cells (#[.int .u64 1, .int .u64 10, .int .u64 100, .int .u64 1000, .int .u64 10000, .int .u64 100000, .int .u64 1000000, .int .u64 10000000, .int .u64 100000000, .int .u64 1000000000, .int .u64 10000000000, .int .u64 100000000000, .int .u64 1000000000000, .int .u64 10000000000000, .int .u64 100000000000000, .int .u64 1000000000000000, .int .u64 10000000000000000, .int .u64 100000000000000000, .int .u64 1000000000000000000, .int .u64 10000000000000000000]) t frozen | o => o)).modify 2 fun | .cells _ t frozen => .cells (((List.range 16).flatMap fun i => [Value.int .u8 (Lib.accLo i), Value.int .u8 (Lib.accHi i)]).toArray) t frozen | o => o)).modify 4 fun | .cells _ t frozen => .cells (#[.iface 156 (.pointer (some ⟨13, 0, none⟩))]) t frozen | o => o)).modify 3 fun | .cells _ t frozen => .cells (#[.iface 156 (.pointer (some ⟨14, 0, none⟩))]) t frozen | o => o)).modify 1 fun | .cells _ t frozen => .cells ((Lib.firstTab.map fun z => Value.int .u8 z).toArray) t frozen | o => o) } : World).forCall (fun _ _ => 0) ⟨#[], #[.string ⟨#[]⟩], []⟩).memory Tryz.f3.params.toList Rows.parseFilesSpec.vars false (#[.string ⟨#[]⟩] : Array Value).toList 8).map (fun x => (x.1, x.2.1)) =
      some ([.lit (.string [])], []) := by kernel_rfl
  obtain ⟨⟨x1, x2, x3⟩, hx, hx1⟩ := Option.map_eq_some_iff.1 hw
  simp only [Prod.mk.injEq] at hx1
  obtain ⟨rfl, rfl⟩ := hx1
  exact OpenSpec.preRow_of_cond 8 hx (by kernel_rfl) (fun k hk => by cases hk) (by kernel_rfl) hl

set_option maxRecDepth 100000 in
set_option maxHeartbeats 2000000 in
theorem lifted (os : Os) (started : os.Started) (H : Type) (enc : TypeId × Value → H) (F : Stop.Interp) :
    ReturnsInHanded {} Tryz.checked os 3 .any ((OpenSpec.ofChange Rows.parseFilesSpec).preRow enc Tryz.prog Tryz.f3 Rows.parseFilesRow.domain false Rows.parseFilesRow.laid) (((OpenSpec.ofChange Rows.parseFilesSpec).at F).post enc Tryz.prog Tryz.f3 false true false false) := by
  refine returnsInHanded_of_row (C := Tryz.checked) (s := OpenSpec.ofChange Rows.parseFilesSpec) own started (by kernel_rfl) Tryz.func3
    (witness_row_atRef (enc := enc) (C := Tryz.checked) false ({ World.holding Tryz.prog os ⟨#[.cells #[.string ⟨#[118, 97, 108, 117, 101, 32, 111, 117, 116, 32, 111, 102, 32, 114, 97, 110, 103, 101]⟩] 158, .cells #[.string ⟨#[105, 110, 118, 97, 108, 105, 100, 32, 115, 121, 110, 116, 97, 120]⟩] 158], #[], []⟩ with heap := (((((((((((((((World.holding Tryz.prog os ⟨#[.cells #[.string ⟨#[118, 97, 108, 117, 101, 32, 111, 117, 116, 32, 111, 102, 32, 114, 97, 110, 103, 101]⟩] 158, .cells #[.string ⟨#[105, 110, 118, 97, 108, 105, 100, 32, 115, 121, 110, 116, 97, 120]⟩] 158], #[], []⟩).heap).modify 6 fun | .cells _ t frozen => .cells (#[.int .u8 0, .int .u8 1, .int .u8 28, .int .u8 2, .int .u8 29, .int .u8 14, .int .u8 24, .int .u8 3, .int .u8 30, .int .u8 22, .int .u8 20, .int .u8 15, .int .u8 25, .int .u8 17, .int .u8 4, .int .u8 8, .int .u8 31, .int .u8 27, .int .u8 13, .int .u8 23, .int .u8 21, .int .u8 19, .int .u8 16, .int .u8 7, .int .u8 26, .int .u8 12, .int .u8 18, .int .u8 6, .int .u8 11, .int .u8 5, .int .u8 10, .int .u8 9]) t frozen | o => o)).modify 7 fun | .cells _ t frozen => .cells (#[.int .u8 0, .int .u8 1, .int .u8 56, .int .u8 2, .int .u8 57, .int .u8 49, .int .u8 28, .int .u8 3, .int .u8 61, .int .u8 58, .int .u8 42, .int .u8 50, .int .u8 38, .int .u8 29, .int .u8 17, .int .u8 4, .int .u8 62, .int .u8 47, .int .u8 59, .int .u8 36, .int .u8 45, .int .u8 43, .int .u8 51, .int .u8 22, .int .u8 53, .int .u8 39, .int .u8 33, .int .u8 30, .int .u8 24, .int .u8 18, .int .u8 12, .int .u8 5, .int .u8 63, .int .u8 55, .int .u8 48, .int .u8 27, .int .u8 60, .int .u8 41, .int .u8 37, .int .u8 16, .int .u8 46, .int .u8 35, .int .u8 44, .int .u8 21, .int .u8 52, .int .u8 32, .int .u8 23, .int .u8 11, .int .u8 54, .int .u8 26, .int .u8 40, .int .u8 15, .int .u8 34, .int .u8 20, .int .u8 31, .int .u8 10, .int .u8 25, .int .u8 14, .int .u8 19, .int .u8 9, .int .u8 13, .int .u8 8, .int .u8 7, .int .u8 6]) t frozen | o => o)).modify 5 fun | .cells _ t frozen => .cells (#[.int .u64 1, .int .u64 10, .int .u64 100, .int .u64 1000, .int .u64 10000, .int .u64 100000, .int .u64 1000000, .int .u64 10000000, .int .u64 100000000, .int .u64 1000000000, .int .u64 10000000000, .int .u64 100000000000, .int .u64 1000000000000, .int .u64 10000000000000, .int .u64 100000000000000, .int .u64 1000000000000000, .int .u64 10000000000000000, .int .u64 100000000000000000, .int .u64 1000000000000000000, .int .u64 10000000000000000000]) t frozen | o => o)).modify 2 fun | .cells _ t frozen => .cells (((List.range 16).flatMap fun i => [Value.int .u8 (Lib.accLo i), Value.int .u8 (Lib.accHi i)]).toArray) t frozen | o => o)).modify 4 fun | .cells _ t frozen => .cells (#[.iface 156 (.pointer (some ⟨13, 0, none⟩))]) t frozen | o => o)).modify 3 fun | .cells _ t frozen => .cells (#[.iface 156 (.pointer (some ⟨14, 0, none⟩))]) t frozen | o => o)).modify 1 fun | .cells _ t frozen => .cells ((Lib.firstTab.map fun z => Value.int .u8 z).toArray) t frozen | o => o) }) #[.string ⟨#[]⟩] rfl (by kernel_rfl) (by kernel_rfl) (by kernel_rfl) (wit_row os enc)) ?_
  intro W base args ds gs before hval hW _ _ _ hL _ _
  exact contract H enc W base args ds gs before hval hW hL

theorem said : Rows.ParseFilesSaid :=
  OpenClaim.holds_of_cond 3 Tryz.f3 rfl rfl rfl rfl rfl rfl rfl ⟨rfl, rfl, rfl, rfl, rfl⟩ rfl rfl rfl rfl rfl (by kernel_rfl) Tryz.func3 (by kernel_rfl)
    (of_decide_eq_true (by kernel_rfl)) (by unfold Func.isWrapper; first | (rw [if_pos (by decide +kernel)]; kernel_rfl) | (rw [if_neg (by decide +kernel)]; exact ⟨rfl, rfl⟩))
    (fun os started H enc _ F => by rw [OpenClaim.pre_eq_preRow]; exact lifted os started H enc F)

theorem plain (f : FuncId) (fn : Func) (hf : Tryz.pinned.checked.prog.funcNamed Rows.parseFilesRow.func = some f) (hfn : Tryz.pinned.checked.prog.funcs[f]? = some fn) :
    true = Tryz.pinned.checked.prog.looks [] ∧ ∀ (j : Nat) t, fn.params[j]? = some t → Tryz.pinned.checked.prog.wantsStandIn t = false := by
  obtain rfl : f = 3 := Option.some.inj ((show Tryz.prog.funcNamed Rows.parseFilesRow.func = some 3 by kernel_rfl).symm.trans hf) |>.symm
  obtain rfl : fn = Tryz.f3 := (Option.some.inj (Tryz.func3.symm.trans hfn)).symm
  refine ⟨by kernel_rfl, fun j t ht => ?_⟩
  rw [Tryz.params3] at ht
  have ht2 := Array.mem_of_getElem? ht
  simp only [List.mem_toArray, List.mem_cons, List.not_mem_nil, or_false] at ht2
  rcases ht2 with rfl
  · exact (show Tryz.prog.wantsStandIn 9 = false by kernel_rfl)

theorem proved : Rows.ParseFilesCardSaid :=
  Claim7.holds_tied_plain_at .later [] _ _ _ _ said (fun _ h => by cases h) (by kernel_rfl) (fun _ h => by cases h) parseFiles_row_tie rfl ⟨rfl, rfl⟩ (by kernel_rfl) rfl plain (by kernel_rfl)
end Go.Proofs.YtbfkaanmbdekfaaGreatDoor.parseFiles
namespace Go.Proofs.YtbfkaanmbdekfaaGreatDoor
theorem parseFiles_holds : Rows.ParseFilesCardSaid := parseFiles.proved
end Go.Proofs.YtbfkaanmbdekfaaGreatDoor
