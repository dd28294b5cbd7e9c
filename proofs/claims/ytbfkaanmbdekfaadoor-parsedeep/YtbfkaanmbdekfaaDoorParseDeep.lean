/-
  ParseDeep: messages lie in one another just as deep as they may; one deeper is refused, at its word.
-/
import Derived.Test.YtbfkaanmbdekfaaDoorCards
import Derived.Test.YtbfkaanmbdekfaaDoorTie
import Derived.WalkKit
import Derived.ProofKit
import Derived.OpenShut
import Derived.ShutString
import Derived.SizedLaws
import Derived.Below
import Derived.ChangeOld
import Derived.Lib.LaidIn
import Derived.Lib.LaidU8T
import Derived.Deep.DeepHandedRow
import Derived.Deep.DeepWitnessRowRef
import Derived.Deep.RegionWith
import Derived.Deep.RegionLaw
import Derived.Deep.DeepCutAuto
import Derived.Deep.RegionHeldLaw
import Derived.WalkSmall
import Derived.Stop.LaidErr
import Derived.Deep.DeepLaidRun
import Derived.Test.YtbfkaanmbdekfaaDoorDeM
namespace Go.Proofs.YtbfkaanmbdekfaaDoor.parseDeep
open Go.Shelf
open Go.ChangeShapes Go.WideShapes Go.ChangeAt Go.RowKit
open Go.ChangeMaps (open_string shut_string)
set_option linter.unusedVariables false

theorem own : ownKnob Tryd.prog.godebug = none := by kernel_rfl
theorem laidOut : laidOutB Tryd.prog = true := by kernel_rfl

theorem star : "*" ++ "errors.errorString" = "*errors.errorString" := by decide
theorem rowE (u : TypeId) (h : Tryd.prog.typeName? 3 u = some "*errors.errorString") : u = 113 :=
  typeName_ptr_named (nm := "errors.errorString") (by rw [star]; kernel_rfl) (by kernel_rfl) (by decide) u (by rw [star]; exact h)
theorem cellsE : Tryd.prog.cellsOf 115 = 1 := by kernel_rfl
theorem cellsS : Tryd.prog.cellsOf 9 = 1 := by kernel_rfl
theorem gE0 : Tryd.prog.globalNamed "strconv.ErrSyntax" = some 1 := by kernel_rfl
theorem gT0 : (Tryd.prog.globals[1]?).map (·.type) = some 88 := by kernel_rfl
theorem gE1 : Tryd.prog.globalNamed "strconv.ErrRange" = some 2 := by kernel_rfl
theorem gT1 : (Tryd.prog.globals[2]?).map (·.type) = some 88 := by kernel_rfl
theorem bd_u8 {n : Int} (h : (Lit.int .u8 n).wf = true) : 0 ≤ n ∧ n ≤ 255 := by
  simpa [Lit.wf, IntKind.min, IntKind.max, IntKind.bits, IntKind.signed] using h
theorem reps_size (k : Nat) (l : List UInt8) : (reps k l).length = k * l.length := by
  induction k with
  | zero => simp [reps]
  | succ k ih => rw [reps, List.length_append, ih, Nat.succ_mul]
theorem depth_one {f : Nat} {d : Dc} : depthC (f + 1) [d] = 1 + depthC f d.inner := rfl
theorem depth_not {f : Nat} {ds : List Dc} (h : ¬ ds.length = 1) : depthC f ds = 0 := by
  cases f with
  | zero => rfl
  | succ f =>
    match ds, h with
    | [], _ => rfl
    | [d], h => exact absurd rfl h
    | a :: b :: t, _ => rfl
theorem _root_.Go.Proofs.YtbfkaanmbdekfaaDoor.HeldD.isSl {w : World} {S : Nat → Prop} : ∀ {f : Nat} {v : Value} {ds : List Dc}, HeldD f w S v ds → ∃ ad c, v = .slice ad ds.length c
  | 0, v, ds, ⟨h, ad, c, hv⟩ => by subst h; exact ⟨ad, c, hv⟩
  | f + 1, v, ds, h => by obtain ⟨ad, c, hv, _⟩ := h; exact ⟨ad, c, hv⟩
set_option maxHeartbeats 4000000 in
set_option maxRecDepth 20000 in
theorem walk (a0 : Int) (a1 : Int) (w : World) (hT : Errs w) (w0 : (Lit.int .u8 a0).wf = true) (w1 : (Lit.int .u8 a1).wf = true) :
    Calls Tryd.prog 5 #[.int .u8 a0, .int .u8 a1] w fun e w' => e = .returned (.bool true) ∧ Below w.heap.size w w' := by
  obtain ⟨n0, n1⟩ := bd_u8 w0
  obtain ⟨m0, m1⟩ := bd_u8 w1
  have hA := awake_any w hT
  obtain ⟨k, hk, hk1, hk12⟩ : ∃ k : Nat, 1 + a0 % 12 = (k : Int) ∧ 1 ≤ k ∧ k ≤ 12 := ⟨(1 + a0 % 12).toNat, by omega, by omega, by omega⟩
  obtain ⟨c, hc, hc26⟩ : ∃ c : Nat, 97 + a1 % 26 = ((97 + c : Nat) : Int) ∧ c < 26 := ⟨(a1 % 26).toNat, by omega, by omega⟩
  obtain ⟨ch, hch⟩ : ∃ ch, UInt8.ofNat (97 + c) = ch := ⟨_, rfl⟩
  have HCH := Lib.hid hch
  clear w0 w1 hch
  go_enter Tryd.func5, Tryd.ntmps5
  go_wp2_with fail
  refine hA.mono ?_
  rintro e v1 ⟨rfl, hb1⟩
  have HT1 := Lib.hid (errs_below hT hb1)
  have HB1 := Lib.hid hb1
  clear hA hT hb1
  go_wp2_with fail
  obtain ⟨M, hM⟩ : ∃ M : List UInt8, [109, 101, 115, 115, 97, 103, 101, 32] ++ [ch] ++ [32, 123, 32] = M := ⟨_, rfl⟩
  have HM := Lib.hid hM
  have hMl : M.length = 12 := by rw [← hM]; rfl
  clear hM
  go_loopw [6, 7, 19] (fun s6 s7 s19 wr => ∃ i : Nat, s6 = .string (mkB (reps i M)) ∧ s7 = .string (mkB (reps i [125])) ∧ s19 = .int .i64 (i : Int) ∧ i ≤ k ∧ Below v1.heap.size v1 wr) (fun _ _ s19 _ => k - (intOf s19).toNat)
  case atStart => exact ⟨0, rfl, rfl, rfl, by omega, Below.refl _ _⟩
  case round =>
    obtain ⟨i, rfl, rfl, rfl, hik, hbr⟩ := hrel
    have hl1 : (reps i M).length = i * 12 := by rw [reps_size, hMl]
    have hl2 : (reps i [125]).length = i := by rw [reps_size]; simp
    have z1 := mkB_len (reps i M)
    have z2 := mkB_len (reps i [125])
    by_cases hlt : i < k
    · have hltI : (i : Int) < (k : Int) := by omega
      have s1 : ∀ W : World, (Op.stringOp .add (mkB (reps i M)) ⟨#[109, 101, 115, 115, 97, 103, 101, 32]⟩).run Tryd.prog W = .ok (.string (mkB (reps i M) ++ ⟨#[109, 101, 115, 115, 97, 103, 101, 32]⟩)) W := fun W => run_string_add_sum W _ _ (by show (mkB (reps i M)).size + 8 ≤ _; omega)
      have hcv : (convert 33 9 (.slice (some ⟨wr.heap.size, 0, none⟩) 1 1)).run Tryd.prog (wr.alloc (.cells #[.int .u8 (97 + a1 % 26)] 5)) = .ok (.string ⟨#[ch]⟩) (wr.alloc (.cells #[.int .u8 (97 + a1 % 26)] 5)) := by
        have := run_convert_bytes_arg (P := Tryd.prog) (wr.alloc (.cells #[.int .u8 (97 + a1 % 26)] 5)) 33 5 Tryd.underlying33 Tryd.underlying5 wr.heap.size 0 1 1 [97 + a1 % 26] rfl (by
          intro i hi
          have : i = 0 := by omega
          subst this
          simp) 9 Tryd.underlying9
        rw [this]
        have hs1 : strOfNums [97 + a1 % 26] = ⟨#[ch]⟩ := by
          unfold strOfNums
          rw [hc, ← HCH.out]
          rfl
        rw [hs1]
      have s2 : ∀ W : World, (Op.stringOp .add (mkB (reps i M) ++ ⟨#[109, 101, 115, 115, 97, 103, 101, 32]⟩) ⟨#[ch]⟩).run Tryd.prog W = .ok (.string (mkB (reps i M) ++ ⟨#[109, 101, 115, 115, 97, 103, 101, 32]⟩ ++ ⟨#[ch]⟩)) W := fun W => run_string_add_sum W _ _ (by rw [ByteArray.size_append]; show (mkB (reps i M)).size + 8 + 1 ≤ _; omega)
      have s3 : ∀ W : World, (Op.stringOp .add (mkB (reps i M) ++ ⟨#[109, 101, 115, 115, 97, 103, 101, 32]⟩ ++ ⟨#[ch]⟩) ⟨#[32, 123, 32]⟩).run Tryd.prog W = .ok (.string (mkB (reps i M) ++ ⟨#[109, 101, 115, 115, 97, 103, 101, 32]⟩ ++ ⟨#[ch]⟩ ++ ⟨#[32, 123, 32]⟩)) W := fun W => run_string_add_sum W _ _ (by rw [ByteArray.size_append, ByteArray.size_append]; show (mkB (reps i M)).size + 8 + 1 + 3 ≤ _; omega)
      have s4 : ∀ W : World, (Op.stringOp .add (mkB (reps i [125])) ⟨#[125]⟩).run Tryd.prog W = .ok (.string (mkB (reps i [125]) ++ ⟨#[125]⟩)) W := fun W => run_string_add_sum W _ _ (by show (mkB (reps i [125])).size + 1 ≤ _; omega)
      have e1 : mkB (reps i M) ++ ⟨#[109, 101, 115, 115, 97, 103, 101, 32]⟩ ++ ⟨#[ch]⟩ ++ ⟨#[32, 123, 32]⟩ = mkB (reps (i + 1) M) := by
        rw [reps, ← HM.out, mkB_app, mkB_app, mkB_app, ← ByteArray.append_assoc, ← ByteArray.append_assoc]; rfl
      have e2 : mkB (reps i [125]) ++ ⟨#[125]⟩ = mkB (reps (i + 1) [125]) := by rw [reps, mkB_app]; rfl
      rw [e1] at s3
      rw [e2] at s4
      have wi : IntKind.i64.wrap ((i : Int) + 1) = (i : Int) + 1 := by rw [IntKind.wrap_i64]; omega
      have HBR := Lib.hid (hbr.alloc hbr.size (.cells #[.int .u8 (97 + a1 % 26)] 5))
      clear hk hc hbr e1 e2
      go_wp2_with fail
      go_roundw
      case rel => exact ⟨i + 1, rfl, rfl, by go_num, by omega, HBR.out⟩
      case measure => simp [intOf]; omega
    · have hltI : ¬ (i : Int) < (k : Int) := by omega
      obtain rfl : i = k := by omega
      have hFl := fun W hTW => fileD_any (mkB (reps i M) ++ mkB (reps i [125])) W hTW (by rw [ByteArray.size_append]; omega)
      have edt : (mkB (reps i M) ++ mkB (reps i [125])).data.toList = deepT i (ch) := by
        rw [← mkB_app]
        show reps i M ++ reps i [125] = _
        rw [← HM.out]
      rw [edt] at hFl
      have s5 : ∀ W : World, (Op.stringOp .add (mkB (reps i M)) (mkB (reps i [125]))).run Tryd.prog W = .ok (.string (mkB (reps i M) ++ mkB (reps i [125]))) W := fun W => run_string_add_sum W _ _ (by omega)
      have HTR := Lib.hid (errs_below HT1.out hbr)
      have HBR := Lib.hid (HB1.out.trans (hbr.mono HB1.out.size))
      have HDS : Hid (i ≤ 8 → (fileL (deepT i (ch))).2.2 = 0 ∧ depthC 10 (fileL (deepT i (ch))).1 = i) := fun h8 => by
        have := deep_some ⟨i - 1, by omega⟩ ⟨c, hc26⟩
        rw [HCH.out] at this
        rw [show (⟨i - 1, by omega⟩ : Fin 8).val + 1 = i by show i - 1 + 1 = i; omega] at this
        exact this
      have HDM : Hid (9 ≤ i → (fileL (deepT i (ch))).2 = ((1, 97), 8) ∧ (fileL (deepT i (ch))).1.length = 0) := fun h8 => by
        have := deep_more ⟨i - 9, by omega⟩ ⟨c, hc26⟩
        rw [HCH.out] at this
        rw [show (⟨i - 9, by omega⟩ : Fin 4).val + 9 = i by show i - 9 + 9 = i; omega] at this
        exact this
      obtain ⟨FL, hFL⟩ : ∃ FL, fileL (deepT i (ch)) = FL := ⟨_, rfl⟩
      rw [hFL] at hFl HDS HDM
      generalize mkB (reps i M) ++ mkB (reps i [125]) = tx at *
      clear hFL edt hk hc hbr HT1 HB1
      go_wp2_with fail
      refine (hFl _ HTR.out).mono ?_
      rintro e v2 ⟨⟨ad, cp, pl, pc, rfl, hH, hpp⟩, hb2⟩
      have HB2 := Lib.hid ((HBR.out.trans (hb2.mono HBR.out.size)).alloc (HBR.out.trans (hb2.mono HBR.out.size)).size (.cells #[.int .i64 pl, .int .i64 pc] 25))
      have HH := Lib.hid (hH.old (w' := v2.alloc (.cells #[.int .i64 pl, .int .i64 pc] 25)) (fun b hb => alloc_heap_old _ _ _ hb))
      have hz2 := alloc_heap_new v2 (.cells #[.int .i64 pl, .int .i64 pc] 25)
      clear hFl hb2 hH
      by_cases h8 : i ≤ 8
      · obtain ⟨f1, f2⟩ := HDS.out h8
        have h8I : (i : Int) ≤ 8 := by omega
        rw [f1]
        have HF2 := Lib.hid f2
        clear HDS HDM f1 f2 hpp hz2
        go_upto_region 11 with fail
        generalize v2.alloc (.cells #[.int .i64 pl, .int .i64 pc] 25) = V at *
        go_wp2_with fail
        go_loop [8, 11] (fun s8 s11 => ∃ (f j : Nat) (ds : List Dc) (ad : Option Addr) (c : Nat), s8 = .slice ad ds.length c ∧ s11 = .int .i64 (j : Int) ∧ HeldD f V (fun b => b < v2.heap.size) (.slice ad ds.length c) ds ∧ depthC f ds + j = i ∧ f ≤ 10) (fun s8 s11 => 100 - (intOf s11).toNat)
        case atStart => exact ⟨10, 0, FL.1, ad, cp, rfl, rfl, HH.out, by have := HF2.out; omega, by omega⟩
        case round =>
          obtain ⟨f, j, ds, ad', c', rfl, rfl, hH, hdp, hf⟩ := hrel
          by_cases h1 : ds.length = 1
          · obtain ⟨d, rfl⟩ : ∃ d, ds = [d] := by
              cases ds with
              | nil => cases h1
              | cons d t =>
                cases t with
                | nil => exact ⟨d, rfl⟩
                | cons a b => simp at h1
            obtain ⟨f', g, o, c2, fs, vs, ms, ins, rfl, hv, u1, u2, u3, u4, u5, u6, u7, k7, u8, u9, u10, hIn⟩ := held_one hH
            clear u1 u2 u3 u4 u5 u6 u7 u8 u9 u10 h1 hH
            simp only [Value.slice.injEq] at hv
            obtain ⟨rfl, v1, v2⟩ := hv
            clear v1 v2
            rw [depth_one] at hdp
            obtain ⟨ai, ci, rfl⟩ := hIn.isSl
            have HIn := Lib.hid hIn
            have wj : IntKind.i64.wrap ((j : Int) + 1) = (j : Int) + 1 := by rw [IntKind.wrap_i64]; omega
            have HDP := Lib.hid hdp
            have HFF := Lib.hid hf
            have hj100 : j ≤ 12 := by omega
            clear hIn hdp hf
            go_wp2_with fail
            go_round
            case rel => exact ⟨f', j + 1, d.inner, ai, ci, rfl, by go_num, HIn.out, by have := HDP.out; omega, by have := HFF.out; omega⟩
            case measure => simp [intOf]; omega
          · rw [depth_not h1] at hdp
            have hji : j = i := by omega
            subst hji
            have h1' : ((ds.length : Int) == 1) = false := beq_eq_false_iff_ne.2 (by omega)
            clear hH h1
            go_wp2_with fail
            go_ret
            exact ⟨rfl, HB2.out⟩
      · obtain ⟨f1, f2⟩ := HDM.out (by omega)
        have h8I : ¬ (i : Int) ≤ 8 := by omega
        obtain ⟨ds, pp, er⟩ := FL
        have f1' : (pp, er) = ((1, 97), 8) := f1
        simp only [Prod.mk.injEq] at f1'
        obtain ⟨rfl, rfl⟩ := f1'
        have f2' : ds.length = 0 := f2
        obtain ⟨p1, p2⟩ := hpp (show (8 : Int) ≠ 0 by decide)
        have p1 : pl = 1 := p1
        have p2 : pc = 97 := p2
        subst p1 p2
        have hds : ds = [] := List.eq_nil_of_length_eq_zero f2'
        subst hds
        clear HDS HDM f1 f2 hpp f2'
        go_upto_region 11 with fail
        generalize v2.alloc (.cells #[.int .i64 1, .int .i64 97] 25) = V at *
        obtain ⟨B, hB⟩ : ∃ B, v2.heap.size = B := ⟨_, rfl⟩
        rw [hB] at hz2 ⊢
        have q0 : V.cell? ⟨B, 0, none⟩ = some (.int .i64 1) := by simp [World.cell?, hz2]
        have q1 : V.cell? ⟨B, 1, none⟩ = some (.int .i64 97) := by simp [World.cell?, hz2]
        clear hz2
        go_wp2_with fail
        go_ret
        exact ⟨rfl, HB2.out⟩

set_option maxRecDepth 100000 in
theorem contract (H : Type) (enc : TypeId × Value → H) (W : World) (base : Nat) (args : Array Value) (ds gs : List (DataW H)) (before : List MemPlace)
    (hval0 : ∀ (j : Nat) t v, Tryd.f5.params[j]? = some t → args[j]? = some v → Value.okWide Tryd.prog W .any base t v)
    (hW : DataW.Whole enc Tryd.prog Tryd.f5.params.toList Rows.parseDeepSpec.vars false W args.toList ds gs before) (hL : laidMet Tryd.prog Rows.parseDeepRow.laid W) :
    Calls Tryd.prog 5 args W fun e W' => ∃ v, e = .returned v ∧ Rows.parseDeepSpec.post enc Tryd.prog Tryd.f5 false true false false W args v W' := by
  have hval : ∀ (j : Nat) t v, Tryd.f5.params[j]? = some t → args[j]? = some v → Value.okWide Tryd.prog W .any base t v := hval0
  obtain ⟨aE0, sE0, hvE0, -, -, -⟩ := laid_sentinel (hL.tail.tail.tail.tail) gE0 gT0 Tryd.underlying88 rowE Tryd.underlying113 Tryd.underlying115 rfl rfl Tryd.underlying9 cellsE cellsS
  obtain ⟨aE1, sE1, hvE1, -, -, -⟩ := laid_sentinel (hL.tail.tail.tail) gE1 gT1 Tryd.underlying88 rowE Tryd.underlying113 Tryd.underlying115 rfl rfl Tryd.underlying9 cellsE cellsS
  have htE : Errs W := ⟨⟨_, (show W.cell? ⟨1, 0, none⟩ = _ by have h0 := World.var?_cell gE0 hvE0 0; simpa using h0), Or.inr ⟨_, _, rfl⟩⟩, ⟨_, (show W.cell? ⟨2, 0, none⟩ = _ by have h0 := World.var?_cell gE1 hvE1 0; simpa using h0), Or.inr ⟨_, _, rfl⟩⟩⟩
  have htab : Errs W := htE
  have hW' := hW
  obtain ⟨p, q, hA0, hV, rfl, hfz, hnd⟩ := hW
  have hA : DataW.TrodAll enc Tryd.prog W 0 (fun _ => true) true Tryd.f5.params.toList args.toList ds p := hA0
  rw [Tryd.params5] at hA hval
  obtain ⟨v0, vs0, d0, ds0, p0, q0, hargs, rfl, rfl, h0, r0⟩ := trodAll_cons hA
  obtain ⟨v1, vs1, d1, ds1, p1, q1, rfl, rfl, rfl, h1, r1⟩ := trodAll_cons r0
  obtain ⟨rfl, rfl, rfl⟩ := trodAll_nil r1
  obtain rfl : args = #[v0, v1] := by cases args; simp_all
  obtain ⟨rfl, rfl⟩ := trodVars_none hV
  have k0 := h0
  have lt0 : ∀ x ∈ p0, x.block < W.heap.size := by obtain ⟨m, hm⟩ := k0; exact DataW.trod_lt m _ _ _ hm
  obtain ⟨a0, rfl, _, _, w0⟩ := open_int Tryd.underlying5 (hval 0 5 v0 rfl rfl) h0
  have k1 := h1
  have lt1 : ∀ x ∈ p1, x.block < W.heap.size := by obtain ⟨m, hm⟩ := k1; exact DataW.trod_lt m _ _ _ hm
  obtain ⟨a1, rfl, _, _, w1⟩ := open_int Tryd.underlying5 (hval 1 5 v1 rfl rfl) h1
  clear hA0 hval0
  refine (walk a0 a1 W htab w0 w1).mono fun e W' ⟨he, bel⟩ => ?_
  subst he
  exact ⟨_, rfl, _, _, _, [], _, [], hW', trodAll_mk1 (shut_bool Tryd.underlying4 _), (trodAll_cons_mk (Below.trod laidOut (by kernel_rfl) (of_decide_eq_true (by kernel_rfl)) k0 bel lt0) (trodAll_cons_mk (Below.trod laidOut (by kernel_rfl) (of_decide_eq_true (by kernel_rfl)) k1 bel lt1) trodAll_mk0)), rfl, bel.frame _, fun h => by cases h⟩

set_option maxRecDepth 100000 in
set_option maxHeartbeats 2000000 in
theorem wit_row (os : Os) {H : Type} (enc : TypeId × Value → H) :
    (OpenSpec.ofChange Rows.parseDeepSpec).preRow enc Tryd.prog Tryd.f5 Rows.parseDeepRow.domain false Rows.parseDeepRow.laid (({ World.holding Tryd.prog os ⟨#[.cells #[.string ⟨#[118, 97, 108, 117, 101, 32, 111, 117, 116, 32, 111, 102, 32, 114, 97, 110, 103, 101]⟩] 115, .cells #[.string ⟨#[105, 110, 118, 97, 108, 105, 100, 32, 115, 121, 110, 116, 97, 120]⟩] 115], #[], []⟩ with heap := (((((((((((World.holding Tryd.prog os ⟨#[.cells #[.string ⟨#[118, 97, 108, 117, 101, 32, 111, 117, 116, 32, 111, 102, 32, 114, 97, 110, 103, 101]⟩] 115, .cells #[.string ⟨#[105, 110, 118, 97, 108, 105, 100, 32, 115, 121, 110, 116, 97, 120]⟩] 115], #[], []⟩).heap).modify 4 fun | .cells _ t frozen => .cells (#[.int .u8 0, .int .u8 1, .int .u8 28, .int .u8 2, .int .u8 29, .int .u8 14, .int .u8 24, .int .u8 3, .int .u8 30, .int .u8 22, .int .u8 20, .int .u8 15, .int .u8 25, .int .u8 17, .int .u8 4, .int .u8 8, .int .u8 31, .int .u8 27, .int .u8 13, .int .u8 23, .int .u8 21, .int .u8 19, .int .u8 16, .int .u8 7, .int .u8 26, .int .u8 12, .int .u8 18, .int .u8 6, .int .u8 11, .int .u8 5, .int .u8 10, .int .u8 9]) t frozen | o => o)).modify 5 fun | .cells _ t frozen => .cells (#[.int .u8 0, .int .u8 1, .int .u8 56, .int .u8 2, .int .u8 57, .int .u8 49, .int .u8 28, .int .u8 3, .int .u8 61, .int .u8 58, .int .u8 42, .int .u8 50, .int .u8 38, .int .u8 29, .int .u8 17, .int .u8 4, .int .u8 62, .int .u8 47, .int .u8 59, .int .u8 36, .int .u8 45, .int .u8 43, .int .u8 51, .int .u8 22, .int .u8 53, .int .u8 39, .int .u8 33, .int .u8 30, .int .u8 24, .int .u8 18, .int .u8 12, .int .u8 5, .int .u8 63, .int .u8 55, .int .u8 48, .int .u8 27, .int .u8 60, .int .u8 41, .int .u8 37, .int .u8 16, .int .u8 46, .int .u8 35, .int .u8 44, .int .u8 21, .int .u8 52, .int .u8 32, .int .u8 23, .int .u8 11, .int .u8 54, .int .u8 26, .int .u8 40, .int .u8 15, .int .u8 34, .int .u8 20, .int .u8 31, .int .u8 10, .int .u8 25, .int .u8 14, .int .u8 19, .int .u8 9, .int .u8 13, .int .u8 8, .int .u8 7, .int .u8 6]) t frozen | o => o)).modify 3 fun | .cells _ t frozen => .cells (#[.int .u64 1, .int .u64 10, .int .u64 100, .int .u64 1000, .int .u64 10000, .int .u64 100000, .int .u64 1000000, .int .u64 10000000, .int .u64 100000000, .int .u64 1000000000, .int .u64 10000000000, .int .u64 100000000000, .int .u64 1000000000000, .int .u64 10000000000000, .int .u64 100000000000000, .int .u64 1000000000000000, .int .u64 10000000000000000, .int .u64 100000000000000000, .int .u64 1000000000000000000, .int .u64 10000000000000000000]) t frozen | o => o)).modify 2 fun | .cells _ t frozen => .cells (#[.iface 113 (.pointer (some ⟨11, 0, none⟩))]) t frozen | o => o)).modify 1 fun | .cells _ t frozen => .cells (#[.iface 113 (.pointer (some ⟨12, 0, none⟩))]) t frozen | o => o) } : World).forCall (fun _ _ => 0) ⟨#[], #[.int .u8 0, .int .u8 0], []⟩).memory #[.int .u8 0, .int .u8 0] := by
  have hl : laidMet Tryd.prog Rows.parseDeepRow.laid (({ World.holding Tryd.prog os ⟨#[.cells #[.string ⟨#[118, 97, 108, 117, 101, 32, 111, 117, 116, 32, 111, 102, 32, 114, 97, 110, 103, 101]⟩] 115, .cells #[.string ⟨#[105, 110, 118, 97, 108, 105, 100, 32, 115, 121, 110, 116, 97, 120]⟩] 115], #[], []⟩ with heap := (((((((((((World.holding Tryd.prog os ⟨#[.cells #[.string ⟨#[118, 97, 108, 117, 101, 32, 111, 117, 116, 32, 111, 102, 32, 114, 97, 110, 103, 101]⟩] 115, .cells #[.string ⟨#[105, 110, 118, 97, 108, 105, 100, 32, 115, 121, 110, 116, 97, 120]⟩] 115], #[], []⟩).heap).modify 4 fun | .cells _ t frozen => .cells (#[.int .u8 0, .int .u8 1, .int .u8 28, .int .u8 2, .int .u8 29, .int .u8 14, .int .u8 24, .int .u8 3, .int .u8 30, .int .u8 22, .int .u8 20, .int .u8 15, .int .u8 25, .int .u8 17, .int .u8 4, .int .u8 8, .int .u8 31, .int .u8 27, .int .u8 13, .int .u8 23, .int .u8 21, .int .u8 19, .int .u8 16, .int .u8 7, .int .u8 26, .int .u8 12, .int .u8 18, .int .u8 6, .int .u8 11, .int .u8 5, .int .u8 10, .int .u8 9]) t frozen | o => o)).modify 5 fun | .cells _ t frozen => .cells (#[.int .u8 0, .int .u8 1, .int .u8 56, .int .u8 2, .int .u8 57, .int .u8 49, .int .u8 28, .int .u8 3, .int .u8 61, .int .u8 58, .int .u8 42, .int .u8 50, .int .u8 38, .int .u8 29, .int .u8 17, .int .u8 4, .int .u8 62, .int .u8 47, .int .u8 59, .int .u8 36, .int .u8 45, .int .u8 43, .int .u8 51, .int .u8 22, .int .u8 53, .int .u8 39, .int .u8 33, .int .u8 30, .int .u8 24, .int .u8 18, .int .u8 12, .int .u8 5, .int .u8 63, .int .u8 55, .int .u8 48, .int .u8 27, .int .u8 60, .int .u8 41, .int .u8 37, .int .u8 16, .int .u8 46, .int .u8 35, .int .u8 44, .int .u8 21, .int .u8 52, .int .u8 32, .int .u8 23, .int .u8 11, .int .u8 54, .int .u8 26, .int .u8 40, .int .u8 15, .int .u8 34, .int .u8 20, .int .u8 31, .int .u8 10, .int .u8 25, .int .u8 14, .int .u8 19, .int .u8 9, .int .u8 13, .int .u8 8, .int .u8 7, .int .u8 6]) t frozen | o => o)).modify 3 fun | .cells _ t frozen => .cells (#[.int .u64 1, .int .u64 10, .int .u64 100, .int .u64 1000, .int .u64 10000, .int .u64 100000, .int .u64 1000000, .int .u64 10000000, .int .u64 100000000, .int .u64 1000000000, .int .u64 10000000000, .int .u64 100000000000, .int .u64 1000000000000, .int .u64 10000000000000, .int .u64 100000000000000, .int .u64 1000000000000000, .int .u64 10000000000000000, .int .u64 100000000000000000, .int .u64 1000000000000000000, .int .u64 10000000000000000000]) t frozen | o => o)).modify 2 fun | .cells _ t frozen => .cells (#[.iface 113 (.pointer (some ⟨11, 0, none⟩))]) t frozen | o => o)).modify 1 fun | .cells _ t frozen => .cells (#[.iface 113 (.pointer (some ⟨12, 0, none⟩))]) t frozen | o => o) } : World).forCall (fun _ _ => 0) ⟨#[], #[.int .u8 0, .int .u8 0], []⟩).memory :=
    (LaidIn.of_run (l := Rows.parseDeepRow.laid) [4, 5, 3, 2, 11, 1, 12] 8 (by kernel_rfl) (by kernel_rfl) (by kernel_rfl) (by kernel_rfl)).met
  have hw : (DataW.whole enc Tryd.prog (({ World.holding Tryd.prog os ⟨#[.cells #[.string ⟨#[118, 97, 108, 117, 101, 32, 111, 117, 116, 32, 111, 102, 32, 114, 97, 110, 103, 101]⟩] 115, .cells #[.string ⟨#[105, 110, 118, 97, 108, 105, 100, 32, 115, 121, 110, 116, 97, 120]⟩] 115], #[], []⟩ with heap := (((((((((((World.holding Tryd.prog os ⟨#[.cells #[.string ⟨#[118, 97, 108, 117, 101, 32, 111, 117, 116, 32, 111, 102, 32, 114, 97, 110, 103, 101]⟩] 115, .cells #[.string ⟨#[105, 110, 118, 97, 108, 105, 100, 32, 115, 121, 110, 116, 97, 120]⟩] 115], #[], []⟩).heap).modify 4 fun | .cells _ t frozen => .cells (#[.int .u8 0, .int .u8 1, .int .u8 28, .int .u8 2, .int .u8 29, .int .u8 14, .int .u8 24, .int .u8 3, .int .u8 30, .int .u8 22, .int .u8 20, .int .u8 15, .int .u8 25, .int .u8 17, .int .u8 4, .int .u8 8, .int .u8 31, .int .u8 27, .int .u8 13, .int .u8 23, .int .u8 21, .int .u8 19, .int .u8 16, .int .u8 7, .int .u8 26, .int .u8 12, .int .u8 18, .int .u8 6, .int .u8 11, .int .u8 5, .int .u8 10, .int .u8 9]) t frozen | o => o)).modify 5 fun | .cells _ t frozen => .cells (#[.int .u8 0, .int .u8 1, .int .u8 56, .int .u8 2, .int .u8 57, .int .u8 49, .int .u8 28, .int .u8 3, .int .u8 61, .int .u8 58, .int .u8 42, .int .u8 50, .int .u8 38, .int .u8 29, .int .u8 17, .int .u8 4, .int .u8 62, .int .u8 47, .int .u8 59, .int .u8 36, .int .u8 45, .int .u8 43, .int .u8 51, .int .u8 22, .int .u8 53, .int .u8 39, .int .u8 33, .int .u8 30, .int .u8 24, .int .u8 18, .int .u8 12, .int .u8 5, .int .u8 63, .int .u8 55, .int .u8 48, .int .u8 27, .int .u8 60, .int .u8 41, .int .u8 37, .int .u8 16, .int .u8 46, .int .u8 35, .int .u8 44, .int .u8 21, .int .u8 52, .int .u8 32, .int .u8 23, .int .u8 11, .int .u8 54, .int .u8 26, .int .u8 40, .int .u8 15, .int .u8 34, .int .u8 20, .int .u8 31, .int .u8 10, .int .u8 25, .int .u8 14, .int .u8 19, .int .u8 9, .int .u8 13, .int .u8 8, .int .u8 7, .int .u8 6]) t frozen | o => o)).modify 3 fun | .cells _ t frozen => .cells (#[.int .u64 1, .int .u64 10, .int .u64 100, .int .u64 1000, .int .u64 10000, .int .u64 100000, .int .u64 1000000, .int .u64 10000000, .int .u64 100000000, .int .u64 1000000000, .int .u64 10000000000, .int .u64 100000000000, .int .u64 1000000000000, .int .u64 10000000000000, .int .u64 100000000000000, .int .u64 1000000000000000, .int .u64 10000000000000000, .int .u64 100000000000000000, .int .u64 1000000000000000000, .int .u64 10000000000000000000]) t frozen | o => o)).modify 2 fun | .cells _ t frozen => .cells (#[.iface 113 (.pointer (some ⟨11, 0, none⟩))]) t frozen | o => o)).modify 1 fun | .cells _ t frozen => .cells (#[.iface 113 (.pointer (some ⟨12, 0, none⟩))]) t frozen | o => o) } : World).forCall (fun _ _ => 0) ⟨#[], #[.int .u8 0, .int .u8 0], []⟩).memory Tryd.f5.params.toList Rows.parseDeepSpec.vars false (#[.int .u8 0, .int .u8 0] : Array Value).toList 8).map (fun x => (x.1, x.2.1)) =
      some ([.lit (.int .u8 0), .lit (.int .u8 0)], []) := by kernel_rfl
  obtain ⟨⟨x1, x2, x3⟩, hx, hx1⟩ := Option.map_eq_some_iff.1 hw
  simp only [Prod.mk.injEq] at hx1
  obtain ⟨rfl, rfl⟩ := hx1
  exact OpenSpec.preRow_of_cond 8 hx (by kernel_rfl) (fun k hk => by cases hk) (by kernel_rfl) hl

set_option maxRecDepth 100000 in
set_option maxHeartbeats 2000000 in
theorem lifted (os : Os) (started : os.Started) (H : Type) (enc : TypeId × Value → H) (F : Stop.Interp) :
    ReturnsInHanded {} Tryd.checked os 5 .any ((OpenSpec.ofChange Rows.parseDeepSpec).preRow enc Tryd.prog Tryd.f5 Rows.parseDeepRow.domain false Rows.parseDeepRow.laid) (((OpenSpec.ofChange Rows.parseDeepSpec).at F).post enc Tryd.prog Tryd.f5 false true false false) := by
  refine returnsInHanded_of_row (C := Tryd.checked) (s := OpenSpec.ofChange Rows.parseDeepSpec) own started (by kernel_rfl) Tryd.func5
    (witness_row_atRef (enc := enc) (C := Tryd.checked) false ({ World.holding Tryd.prog os ⟨#[.cells #[.string ⟨#[118, 97, 108, 117, 101, 32, 111, 117, 116, 32, 111, 102, 32, 114, 97, 110, 103, 101]⟩] 115, .cells #[.string ⟨#[105, 110, 118, 97, 108, 105, 100, 32, 115, 121, 110, 116, 97, 120]⟩] 115], #[], []⟩ with heap := (((((((((((World.holding Tryd.prog os ⟨#[.cells #[.string ⟨#[118, 97, 108, 117, 101, 32, 111, 117, 116, 32, 111, 102, 32, 114, 97, 110, 103, 101]⟩] 115, .cells #[.string ⟨#[105, 110, 118, 97, 108, 105, 100, 32, 115, 121, 110, 116, 97, 120]⟩] 115], #[], []⟩).heap).modify 4 fun | .cells _ t frozen => .cells (#[.int .u8 0, .int .u8 1, .int .u8 28, .int .u8 2, .int .u8 29, .int .u8 14, .int .u8 24, .int .u8 3, .int .u8 30, .int .u8 22, .int .u8 20, .int .u8 15, .int .u8 25, .int .u8 17, .int .u8 4, .int .u8 8, .int .u8 31, .int .u8 27, .int .u8 13, .int .u8 23, .int .u8 21, .int .u8 19, .int .u8 16, .int .u8 7, .int .u8 26, .int .u8 12, .int .u8 18, .int .u8 6, .int .u8 11, .int .u8 5, .int .u8 10, .int .u8 9]) t frozen | o => o)).modify 5 fun | .cells _ t frozen => .cells (#[.int .u8 0, .int .u8 1, .int .u8 56, .int .u8 2, .int .u8 57, .int .u8 49, .int .u8 28, .int .u8 3, .int .u8 61, .int .u8 58, .int .u8 42, .int .u8 50, .int .u8 38, .int .u8 29, .int .u8 17, .int .u8 4, .int .u8 62, .int .u8 47, .int .u8 59, .int .u8 36, .int .u8 45, .int .u8 43, .int .u8 51, .int .u8 22, .int .u8 53, .int .u8 39, .int .u8 33, .int .u8 30, .int .u8 24, .int .u8 18, .int .u8 12, .int .u8 5, .int .u8 63, .int .u8 55, .int .u8 48, .int .u8 27, .int .u8 60, .int .u8 41, .int .u8 37, .int .u8 16, .int .u8 46, .int .u8 35, .int .u8 44, .int .u8 21, .int .u8 52, .int .u8 32, .int .u8 23, .int .u8 11, .int .u8 54, .int .u8 26, .int .u8 40, .int .u8 15, .int .u8 34, .int .u8 20, .int .u8 31, .int .u8 10, .int .u8 25, .int .u8 14, .int .u8 19, .int .u8 9, .int .u8 13, .int .u8 8, .int .u8 7, .int .u8 6]) t frozen | o => o)).modify 3 fun | .cells _ t frozen => .cells (#[.int .u64 1, .int .u64 10, .int .u64 100, .int .u64 1000, .int .u64 10000, .int .u64 100000, .int .u64 1000000, .int .u64 10000000, .int .u64 100000000, .int .u64 1000000000, .int .u64 10000000000, .int .u64 100000000000, .int .u64 1000000000000, .int .u64 10000000000000, .int .u64 100000000000000, .int .u64 1000000000000000, .int .u64 10000000000000000, .int .u64 100000000000000000, .int .u64 1000000000000000000, .int .u64 10000000000000000000]) t frozen | o => o)).modify 2 fun | .cells _ t frozen => .cells (#[.iface 113 (.pointer (some ⟨11, 0, none⟩))]) t frozen | o => o)).modify 1 fun | .cells _ t frozen => .cells (#[.iface 113 (.pointer (some ⟨12, 0, none⟩))]) t frozen | o => o) }) #[.int .u8 0, .int .u8 0] rfl (by kernel_rfl) (by kernel_rfl) (by kernel_rfl) (wit_row os enc)) ?_
  intro W base args ds gs before hval hW _ _ _ hL _ _
  exact contract H enc W base args ds gs before hval hW hL

theorem said : Rows.ParseDeepSaid :=
  OpenClaim.holds_of_cond 5 Tryd.f5 rfl rfl rfl rfl rfl rfl rfl ⟨rfl, rfl, rfl, rfl, rfl⟩ rfl rfl rfl rfl rfl (by kernel_rfl) Tryd.func5 (by kernel_rfl)
    (of_decide_eq_true (by kernel_rfl)) (by unfold Func.isWrapper; first | (rw [if_pos (by decide +kernel)]; kernel_rfl) | (rw [if_neg (by decide +kernel)]; exact ⟨rfl, rfl⟩))
    (fun os started H enc _ F => by rw [OpenClaim.pre_eq_preRow]; exact lifted os started H enc F)

theorem plain (f : FuncId) (fn : Func) (hf : Tryd.pinned.checked.prog.funcNamed Rows.parseDeepRow.func = some f) (hfn : Tryd.pinned.checked.prog.funcs[f]? = some fn) :
    true = Tryd.pinned.checked.prog.looks [] ∧ ∀ (j : Nat) t, fn.params[j]? = some t → Tryd.pinned.checked.prog.wantsStandIn t = false := by
  obtain rfl : f = 5 := Option.some.inj ((show Tryd.prog.funcNamed Rows.parseDeepRow.func = some 5 by kernel_rfl).symm.trans hf) |>.symm
  obtain rfl : fn = Tryd.f5 := (Option.some.inj (Tryd.func5.symm.trans hfn)).symm
  refine ⟨by kernel_rfl, fun j t ht => ?_⟩
  rw [Tryd.params5] at ht
  have ht2 := Array.mem_of_getElem? ht
  simp only [List.mem_toArray, List.mem_cons, List.not_mem_nil, or_false] at ht2
  rcases ht2 with rfl | rfl
  · exact (show Tryd.prog.wantsStandIn 5 = false by kernel_rfl)
  · exact (show Tryd.prog.wantsStandIn 5 = false by kernel_rfl)

theorem proved : Rows.ParseDeepCardSaid :=
  Claim7.holds_tied_plain_at .later [] _ _ _ _ said (fun _ h => by cases h) (by kernel_rfl) (fun _ h => by cases h) parseDeep_row_tie rfl ⟨rfl, rfl⟩ (by kernel_rfl) rfl plain (by kernel_rfl)
end Go.Proofs.YtbfkaanmbdekfaaDoor.parseDeep
namespace Go.Proofs.YtbfkaanmbdekfaaDoor
theorem parseDeep_holds : Rows.ParseDeepCardSaid := parseDeep.proved
end Go.Proofs.YtbfkaanmbdekfaaDoor
