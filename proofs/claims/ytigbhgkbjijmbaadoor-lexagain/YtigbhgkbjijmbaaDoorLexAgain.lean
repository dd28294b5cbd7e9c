/-
  LexAgain (P4.2): for every text the law answers true, where the variables of the library that the row lists hold what its text lays into them.
-/
import Derived.Test.YtigbhgkbjijmbaaDoorCards
import Derived.Test.YtigbhgkbjijmbaaDoorTie
import Derived.WalkKit
import Derived.ProofKit
import Derived.OpenShut
import Derived.ShutString
import Derived.SizedLaws
import Derived.Below
import Derived.ChangeOld
import Derived.Lib.LaidIn
import Derived.Lib.LaidU8T
import Derived.Deep.DeepHandedRow
import Derived.Deep.DeepWitnessRowRef
import Derived.Deep.RegionWith
import Derived.Deep.RegionLaw
import Derived.Deep.DeepCutAuto
import Derived.Deep.RegionHeldLaw
import Derived.WalkSmall
import Derived.Stop.LaidErr
import Derived.Deep.DeepLaidRun
import Derived.Test.YtigbhgkbjijmbaaDoorLwL
import Derived.Test.YtigbhgkbjijmbaaDoorDvW
namespace Go.Proofs.YtigbhgkbjijmbaaDoor.lexAgain
open Go.Shelf
open Go.ChangeShapes Go.WideShapes Go.ChangeAt Go.RowKit
open Go.ChangeMaps (open_string shut_string)
set_option linter.unusedVariables false

theorem own : ownKnob Tryd.prog.godebug = none := by kernel_rfl
theorem laidOut : laidOutB Tryd.prog = true := by kernel_rfl

theorem star : "*" ++ "errors.errorString" = "*errors.errorString" := by decide
theorem rowE (u : TypeId) (h : Tryd.prog.typeName? 3 u = some "*errors.errorString") : u = 79 :=
  typeName_ptr_named (nm := "errors.errorString") (by rw [star]; kernel_rfl) (by kernel_rfl) (by decide) u (by rw [star]; exact h)
theorem cellsE : Tryd.prog.cellsOf 81 = 1 := by kernel_rfl
theorem cellsS : Tryd.prog.cellsOf 9 = 1 := by kernel_rfl
theorem gE0 : Tryd.prog.globalNamed "strconv.ErrSyntax" = some 3 := by kernel_rfl
theorem gT0 : (Tryd.prog.globals[3]?).map (·.type) = some 51 := by kernel_rfl
theorem gE1 : Tryd.prog.globalNamed "strconv.ErrRange" = some 4 := by kernel_rfl
theorem gT1 : (Tryd.prog.globals[4]?).map (·.type) = some 51 := by kernel_rfl
theorem flat_take (ws : List Wd) (k : Nat) (x : Wd) (h : ws[k]? = some x) : flat (ws.take (k + 1)) = flat (ws.take k) ++ x.text ++ [32] := by
  rw [List.take_add_one, h]
  unfold flat
  rw [List.flatMap_append]; simp
theorem app_data (a b : ByteArray) : (a ++ b).data.toList = a.data.toList ++ b.data.toList := by
  rw [ByteArray.data_append]; simp
theorem kt_at {a b : List Wd} (h : kt a = kt b) {k : Nat} {x : Wd} (hx : b[k]? = some x) : ∃ y, a[k]? = some y ∧ y.kind = x.kind ∧ y.text = x.text := by
  have h1 : (kt b)[k]? = some (x.kind, x.text) := by unfold kt; rw [List.getElem?_map, hx]; rfl
  rw [← h] at h1
  unfold kt at h1
  rw [List.getElem?_map] at h1
  obtain ⟨y, hy, he⟩ := Option.map_eq_some_iff.1 h1
  simp only [Prod.mk.injEq] at he
  exact ⟨y, hy, he.1, he.2⟩
set_option maxHeartbeats 4000000 in
set_option maxRecDepth 20000 in
theorem walk (s0 : ByteArray) (w : World) (hT : Errs w) (w0 : s0.size ≤ 9223372036854775807) :
    Calls Tryd.prog 4 #[.string s0] w fun e w' => e = .returned (.bool true) ∧ Below w.heap.size w w' := by
  have D := devWords
  have hA := awakeX_any D w hT
  have hW := fun W hTW => D s0 W hTW w0
  have hct := words_count s0.data.toList
  have hle : (wordsL s0.data.toList).2.2 ≠ 0 → (wordsL s0.data.toList).1.length = 0 := fun h => by rw [words_err _ h]; rfl
  have htx := words_texts s0.data.toList
  obtain ⟨hag1, hag2⟩ := words_again s0.data.toList
  unfold LAns at hW
  generalize (wordsL s0.data.toList).1 = ws at *
  generalize (wordsL s0.data.toList).2.1.1 = PL at *
  generalize (wordsL s0.data.toList).2.1.2 = PC at *
  generalize (wordsL s0.data.toList).2.2 = er at *
  have HG1 : Hid (20000 < (flat ws).length → (wordsL (flat ws)).2.2 = 4) := hag1
  have HG2 : Hid (¬ 20000 < (flat ws).length → (wordsL (flat ws)).2.2 = 0 ∧ kt (wordsL (flat ws)).1 = kt ws) := hag2
  have HTX : Hid (∀ x ∈ ws, x.text.length ≤ 20000) := htx
  obtain ⟨n, hn⟩ : ∃ n, ws.length = n := ⟨_, rfl⟩
  have HN : Hid (ws.length = n) := hn
  rw [hn] at hW hct hle
  have HD : Hid DevWords := D
  clear hn D hag1 hag2 htx
  go_enter Tryd.func4, Tryd.ntmps4
  go_wp2_with fail
  refine hA.mono ?_
  rintro e w1 ⟨rfl, hb1⟩
  have hT1 := errs_below hT hb1
  clear hA
  go_wp2_with fail
  refine (hW w1 hT1).mono ?_
  rintro e w2 ⟨⟨ad, c, pl, pc, rfl, hH, hc, hp⟩, hb2⟩
  have hb2' := hb1.trans (hb2.mono hb1.size)
  have hs2 := hb2'.size
  have HT2 : Hid (Errs w2) := errs_below hT1 hb2
  have HH : Hid (HeldW w2 ad ws) := hH
  clear hW hH hp hb1 hb2 hT1
  by_cases h0 : er = 0
  · subst h0
    clear hle
    go_wp2_with fail
    have hbA : Below w2.heap.size w2 (w2.alloc (.cells #[.int .i64 pl, .int .i64 pc] 25)) := (Below.refl _ w2).alloc (Nat.le_refl _) _
    generalize (w2.alloc (.cells #[.int .i64 pl, .int .i64 pc] 25)) = w3 at *
    have HH3 : Hid (HeldW w3 ad ws) := heldW_old HH.out hbA
    have hT3 := errs_below HT2.out hbA
    have hb3 := hb2'.trans (hbA.mono hs2)
    have hs3 := hb3.size
    clear HH HT2 hbA hb2' hs2
    go_loop [6, 27] (fun tt i => ∃ (k : Nat) (T : ByteArray), k ≤ n ∧ i = .int .i64 k ∧ tt = .string T ∧ T.data.toList = flat (ws.take k) ∧ T.size ≤ 20001 * k) (fun _ i => n - (intOf i).toNat)
    case atStart => exact ⟨0, ⟨#[]⟩, by omega, rfl, rfl, rfl, by decide⟩
    case round =>
      obtain ⟨k, T, hk, rfl, rfl, hTd, hTs⟩ := hrel
      have HTD : Hid (T.data.toList = flat (ws.take k)) := hTd
      clear hTd
      by_cases hlt : k < n
      · obtain ⟨x, hx⟩ : ∃ x, ws[k]? = some x := ⟨_, List.getElem?_eq_getElem (by have := HN.out; omega)⟩
        obtain ⟨g1, rfl, p0, p1, p2, p3⟩ := heldW_at HH3.out hx
        have hk0 : (0 : Int) ≤ (k : Int) := by omega
        have hk1 : (k : Int) < (n : Int) := by omega
        have hxs : (mkB x.text).size ≤ 20000 := by
          have h1 := HTX.out x (List.mem_of_getElem? hx)
          have h2 : (mkB x.text).size = x.text.length := by show x.text.toArray.size = _; simp
          omega
        have HFT : Hid ((T ++ mkB x.text ++ (⟨#[32]⟩ : ByteArray)).data.toList = flat (ws.take (k + 1))) := by
          refine (?_ : _ = _)
          rw [app_data, app_data, HTD.out, flat_take ws k x hx]; rfl
        have h32 : (ByteArray.mk #[32]).size = 1 := rfl
        have hz1 : (T ++ mkB x.text).size ≤ 20001 * k + 20000 := by rw [ByteArray.size_append]; omega
        have hz2 : (T ++ mkB x.text ++ (⟨#[32]⟩ : ByteArray)).size ≤ 20001 * (k + 1) := by rw [ByteArray.size_append, h32]; omega
        have ha1 : ∀ W : World, (Op.stringOp .add T (mkB x.text)).run Tryd.prog W = .ok (.string (T ++ mkB x.text)) W := fun W => run_string_add_sum W _ _ (by omega)
        have ha2 : ∀ W : World, (Op.stringOp .add (T ++ mkB x.text) ⟨#[32]⟩).run Tryd.prog W = .ok (.string (T ++ mkB x.text ++ ⟨#[32]⟩)) W := fun W => run_string_add_sum W _ _ (by rw [h32]; omega)
        clear hx h32
        generalize T ++ mkB x.text ++ (⟨#[32]⟩ : ByteArray) = T2 at *
        generalize T ++ mkB x.text = T1 at *
        go_wp2_with fail
        go_round
        case rel => exact ⟨k + 1, T2, by omega, by go_num, rfl, HFT.out, hz2⟩
        case measure => simp [intOf]; omega
      · have HTF : Hid (T.data.toList = flat ws) := by
          refine (?_ : _ = _)
          rw [HTD.out, List.take_of_length_le (by have := HN.out; omega)]
        have hTl : (flat ws).length = T.size := by rw [← HTF.out, len_data]
        have hV := HD.out T w3 hT3 (by omega)
        rw [HTF.out] at hV
        clear HTD
        by_cases hlong : 20000 < (flat ws).length
        · have hl' : (20000 : Int) < (T.size : Int) := by omega
          have h4 := HG1.out hlong
          unfold LAns at hV
          rw [h4] at hV
          clear HG1 HG2
          generalize (wordsL (flat ws)).1 = ws2 at *
          go_wp2_with fail
          refine hV.mono ?_
          rintro e w4 ⟨⟨ad4, c4, pl4, pc4, rfl, _, _, _⟩, hb4⟩
          have hb4' := hb3.trans (hb4.mono hs3)
          clear hV hb4
          go_wp2_with fail
          go_ret
          exact ⟨rfl, hb4'.alloc hb4'.size _⟩
        · have hl' : ¬ (20000 : Int) < (T.size : Int) := by omega
          obtain ⟨h0, hkt⟩ := HG2.out hlong
          have HKT : Hid (kt (wordsL (flat ws)).1 = kt ws) := hkt
          have hlen : (wordsL (flat ws)).1.length = n := by rw [← kt_len, hkt, kt_len]; exact HN.out
          unfold LAns at hV
          rw [h0, hlen] at hV
          clear HG1 HG2 h0 hkt hlen hlong
          generalize (wordsL (flat ws)).1 = ws2 at *
          go_wp2_with fail
          refine hV.mono ?_
          rintro e w4 ⟨⟨ad4, c4, pl4, pc4, rfl, hH4, hc4, _⟩, hb4⟩
          have hb4' := hb3.trans (hb4.mono hs3)
          have HHa : Hid (HeldW w4 ad ws) := heldW_old HH3.out hb4
          have HHb : Hid (HeldW w4 ad4 ws2) := hH4
          have hnn : ((n : Int) != (n : Int)) = false := by simp
          have hs4 := hb4'.size
          clear hV hb4 hH4 HH3
          go_wp2_with fail
          go_loopw [61] (fun i wr => ∃ k : Nat, k ≤ n ∧ i = .int .i64 k ∧ Below w4.heap.size w4 wr) (fun i _ => n - (intOf i).toNat)
          case atStart => exact ⟨0, by omega, rfl, (Below.refl _ w4).alloc (Nat.le_refl _) _⟩
          case round =>
            obtain ⟨k, hk, rfl, hbr⟩ := hrel
            by_cases hlt : k < n
            · obtain ⟨x, hx⟩ : ∃ x, ws[k]? = some x := ⟨_, List.getElem?_eq_getElem (by have := HN.out; omega)⟩
              obtain ⟨y, hy, hyk, hyt⟩ := kt_at HKT.out hx
              obtain ⟨g1, rfl, p0, p1, p2, p3⟩ := heldW_at (heldW_old HHa.out hbr) hx
              obtain ⟨g2, rfl, q0, q1, q2, q3⟩ := heldW_at (heldW_old HHb.out hbr) hy
              rw [hyk] at q0
              rw [hyt] at q1
              have hk0 : (0 : Int) ≤ (k : Int) := by omega
              have hk1 : (k : Int) < (n : Int) := by omega
              clear hx hy hyk hyt
              go_wp2_with fail
              go_quiet (fail)
              go_wp2_with fail
              go_roundw
              case rel => exact ⟨k + 1, by omega, by go_num, hbr.trans ⟨rfl, rfl, rfl, Nat.le_refl _, fun _ _ => rfl⟩⟩
              case measure => simp [intOf]; omega
            · go_wp2_with fail
              go_ret
              exact ⟨rfl, hb4'.trans (hbr.mono hs4)⟩
  · have h0' : (er != 0) = true := by simpa using h0
    have hn0 := hle h0
    subst hn0
    go_wp2_with fail
    go_ret
    exact ⟨rfl, hb2'.alloc hs2 _⟩

set_option maxRecDepth 100000 in
theorem contract (H : Type) (enc : TypeId × Value → H) (W : World) (base : Nat) (args : Array Value) (ds gs : List (DataW H)) (before : List MemPlace)
    (hval0 : ∀ (j : Nat) t v, Tryd.f4.params[j]? = some t → args[j]? = some v → Value.okWide Tryd.prog W .any base t v)
    (hW : DataW.Whole enc Tryd.prog Tryd.f4.params.toList Rows.lexAgainSpec.vars false W args.toList ds gs before) (hL : laidMet Tryd.prog Rows.lexAgainRow.laid W) :
    Calls Tryd.prog 4 args W fun e W' => ∃ v, e = .returned v ∧ Rows.lexAgainSpec.post enc Tryd.prog Tryd.f4 false true false false W args v W' := by
  have hval : ∀ (j : Nat) t v, Tryd.f4.params[j]? = some t → args[j]? = some v → Value.okWide Tryd.prog W .any base t v := hval0
  obtain ⟨aE0, sE0, hvE0, -, -, -⟩ := laid_sentinel (hL.tail.tail.tail.tail) gE0 gT0 Tryd.underlying51 rowE Tryd.underlying79 Tryd.underlying81 rfl rfl Tryd.underlying9 cellsE cellsS
  obtain ⟨aE1, sE1, hvE1, -, -, -⟩ := laid_sentinel (hL.tail.tail.tail) gE1 gT1 Tryd.underlying51 rowE Tryd.underlying79 Tryd.underlying81 rfl rfl Tryd.underlying9 cellsE cellsS
  have htE : Errs W := ⟨⟨_, (show W.cell? ⟨3, 0, none⟩ = _ by have h0 := World.var?_cell gE0 hvE0 0; simpa using h0), Or.inr ⟨_, _, rfl⟩⟩, ⟨_, (show W.cell? ⟨4, 0, none⟩ = _ by have h0 := World.var?_cell gE1 hvE1 0; simpa using h0), Or.inr ⟨_, _, rfl⟩⟩⟩
  have htab : Errs W := htE
  have hW' := hW
  obtain ⟨p, q, hA0, hV, rfl, hfz, hnd⟩ := hW
  have hA : DataW.TrodAll enc Tryd.prog W 0 (fun _ => true) true Tryd.f4.params.toList args.toList ds p := hA0
  rw [Tryd.params4] at hA hval
  obtain ⟨v0, vs0, d0, ds0, p0, q0, hargs, rfl, rfl, h0, r0⟩ := trodAll_cons hA
  obtain ⟨rfl, rfl, rfl⟩ := trodAll_nil r0
  obtain rfl : args = #[v0] := by cases args; simp_all
  obtain ⟨rfl, rfl⟩ := trodVars_none hV
  have k0 := h0
  have lt0 : ∀ x ∈ p0, x.block < W.heap.size := by obtain ⟨m, hm⟩ := k0; exact DataW.trod_lt m _ _ _ hm
  obtain ⟨s0, rfl, _, _, ws0⟩ := open_string Tryd.underlying9 (hval 0 9 v0 rfl rfl) h0
  have w0 : s0.size ≤ 9223372036854775807 := by unfold maxLen at ws0; omega
  clear hA0 hval0
  refine (walk s0 W htab w0).mono fun e W' ⟨he, bel⟩ => ?_
  subst he
  exact ⟨_, rfl, _, _, _, [], _, [], hW', trodAll_mk1 (shut_bool Tryd.underlying4 _), (trodAll_cons_mk (Below.trod laidOut (by kernel_rfl) (of_decide_eq_true (by kernel_rfl)) k0 bel lt0) trodAll_mk0), rfl, bel.frame _, fun h => by cases h⟩

set_option maxRecDepth 100000 in
set_option maxHeartbeats 2000000 in
theorem wit_row (os : Os) {H : Type} (enc : TypeId × Value → H) :
    (OpenSpec.ofChange Rows.lexAgainSpec).preRow enc Tryd.prog Tryd.f4 Rows.lexAgainRow.domain false Rows.lexAgainRow.laid (({ World.holding Tryd.prog os ⟨#[.cells #[.string ⟨#[118, 97, 108, 117, 101, 32, 111, 117, 116, 32, 111, 102, 32, 114, 97, 110, 103, 101]⟩] 81, .cells #[.string ⟨#[105, 110, 118, 97, 108, 105, 100, 32, 115, 121, 110, 116, 97, 120]⟩] 81], #[], []⟩ with heap := (((((((((((World.holding Tryd.prog os ⟨#[.cells #[.string ⟨#[118, 97, 108, 117, 101, 32, 111, 117, 116, 32, 111, 102, 32, 114, 97, 110, 103, 101]⟩] 81, .cells #[.string ⟨#[105, 110, 118, 97, 108, 105, 100, 32, 115, 121, 110, 116, 97, 120]⟩] 81], #[], []⟩).heap).modify 6 fun | .cells _ t frozen => .cells (#[.int .u8 0, .int .u8 1, .int .u8 28, .int .u8 2, .int .u8 29, .int .u8 14, .int .u8 24, .int .u8 3, .int .u8 30, .int .u8 22, .int .u8 20, .int .u8 15, .int .u8 25, .int .u8 17, .int .u8 4, .int .u8 8, .int .u8 31, .int .u8 27, .int .u8 13, .int .u8 23, .int .u8 21, .int .u8 19, .int .u8 16, .int .u8 7, .int .u8 26, .int .u8 12, .int .u8 18, .int .u8 6, .int .u8 11, .int .u8 5, .int .u8 10, .int .u8 9]) t frozen | o => o)).modify 7 fun | .cells _ t frozen => .cells (#[.int .u8 0, .int .u8 1, .int .u8 56, .int .u8 2, .int .u8 57, .int .u8 49, .int .u8 28, .int .u8 3, .int .u8 61, .int .u8 58, .int .u8 42, .int .u8 50, .int .u8 38, .int .u8 29, .int .u8 17, .int .u8 4, .int .u8 62, .int .u8 47, .int .u8 59, .int .u8 36, .int .u8 45, .int .u8 43, .int .u8 51, .int .u8 22, .int .u8 53, .int .u8 39, .int .u8 33, .int .u8 30, .int .u8 24, .int .u8 18, .int .u8 12, .int .u8 5, .int .u8 63, .int .u8 55, .int .u8 48, .int .u8 27, .int .u8 60, .int .u8 41, .int .u8 37, .int .u8 16, .int .u8 46, .int .u8 35, .int .u8 44, .int .u8 21, .int .u8 52, .int .u8 32, .int .u8 23, .int .u8 11, .int .u8 54, .int .u8 26, .int .u8 40, .int .u8 15, .int .u8 34, .int .u8 20, .int .u8 31, .int .u8 10, .int .u8 25, .int .u8 14, .int .u8 19, .int .u8 9, .int .u8 13, .int .u8 8, .int .u8 7, .int .u8 6]) t frozen | o => o)).modify 5 fun | .cells _ t frozen => .cells (#[.int .u64 1, .int .u64 10, .int .u64 100, .int .u64 1000, .int .u64 10000, .int .u64 100000, .int .u64 1000000, .int .u64 10000000, .int .u64 100000000, .int .u64 1000000000, .int .u64 10000000000, .int .u64 100000000000, .int .u64 1000000000000, .int .u64 10000000000000, .int .u64 100000000000000, .int .u64 1000000000000000, .int .u64 10000000000000000, .int .u64 100000000000000000, .int .u64 1000000000000000000, .int .u64 10000000000000000000]) t frozen | o => o)).modify 4 fun | .cells _ t frozen => .cells (#[.iface 79 (.pointer (some ⟨13, 0, none⟩))]) t frozen | o => o)).modify 3 fun | .cells _ t frozen => .cells (#[.iface 79 (.pointer (some ⟨14, 0, none⟩))]) t frozen | o => o) } : World).forCall (fun _ _ => 0) ⟨#[], #[.string ⟨#[]⟩], []⟩).memory #[.string ⟨#[]⟩] := by
  have hl : laidMet Tryd.prog Rows.lexAgainRow.laid (({ World.holding Tryd.prog os ⟨#[.cells #[.string ⟨#[118, 97, 108, 117, 101, 32, 111, 117, 116, 32, 111, 102, 32, 114, 97, 110, 103, 101]⟩] 81, .cells #[.string ⟨#[105, 110, 118, 97, 108, 105, 100, 32, 115, 121, 110, 116, 97, 120]⟩] 81], #[], []⟩ with heap := (((((((((((World.holding Tryd.prog os ⟨#[.cells #[.string ⟨#[118, 97, 108, 117, 101, 32, 111, 117, 116, 32, 111, 102, 32, 114, 97, 110, 103, 101]⟩] 81, .cells #[.string ⟨#[105, 110, 118, 97, 108, 105, 100, 32, 115, 121, 110, 116, 97, 120]⟩] 81], #[], []⟩).heap).modify 6 fun | .cells _ t frozen => .cells (#[.int .u8 0, .int .u8 1, .int .u8 28, .int .u8 2, .int .u8 29, .int .u8 14, .int .u8 24, .int .u8 3, .int .u8 30, .int .u8 22, .int .u8 20, .int .u8 15, .int .u8 25, .int .u8 17, .int .u8 4, .int .u8 8, .int .u8 31, .int .u8 27, .int .u8 13, .int .u8 23, .int .u8 21, .int .u8 19, .int .u8 16, .int .u8 7, .int .u8 26, .int .u8 12, .int .u8 18, .int .u8 6, .int .u8 11, .int .u8 5, .int .u8 10, .int .u8 9]) t frozen | o => o)).modify 7 fun | .cells _ t frozen => .cells (#[.int .u8 0, .int .u8 1, .int .u8 56, .int .u8 2, .int .u8 57, .int .u8 49, .int .u8 28, .int .u8 3, .int .u8 61, .int .u8 58, .int .u8 42, .int .u8 50, .int .u8 38, .int .u8 29, .int .u8 17, .int .u8 4, .int .u8 62, .int .u8 47, .int .u8 59, .int .u8 36, .int .u8 45, .int .u8 43, .int .u8 51, .int .u8 22, .int .u8 53, .int .u8 39, .int .u8 33, .int .u8 30, .int .u8 24, .int .u8 18, .int .u8 12, .int .u8 5, .int .u8 63, .int .u8 55, .int .u8 48, .int .u8 27, .int .u8 60, .int .u8 41, .int .u8 37, .int .u8 16, .int .u8 46, .int .u8 35, .int .u8 44, .int .u8 21, .int .u8 52, .int .u8 32, .int .u8 23, .int .u8 11, .int .u8 54, .int .u8 26, .int .u8 40, .int .u8 15, .int .u8 34, .int .u8 20, .int .u8 31, .int .u8 10, .int .u8 25, .int .u8 14, .int .u8 19, .int .u8 9, .int .u8 13, .int .u8 8, .int .u8 7, .int .u8 6]) t frozen | o => o)).modify 5 fun | .cells _ t frozen => .cells (#[.int .u64 1, .int .u64 10, .int .u64 100, .int .u64 1000, .int .u64 10000, .int .u64 100000, .int .u64 1000000, .int .u64 10000000, .int .u64 100000000, .int .u64 1000000000, .int .u64 10000000000, .int .u64 100000000000, .int .u64 1000000000000, .int .u64 10000000000000, .int .u64 100000000000000, .int .u64 1000000000000000, .int .u64 10000000000000000, .int .u64 100000000000000000, .int .u64 1000000000000000000, .int .u64 10000000000000000000]) t frozen | o => o)).modify 4 fun | .cells _ t frozen => .cells (#[.iface 79 (.pointer (some ⟨13, 0, none⟩))]) t frozen | o => o)).modify 3 fun | .cells _ t frozen => .cells (#[.iface 79 (.pointer (some ⟨14, 0, none⟩))]) t frozen | o => o) } : World).forCall (fun _ _ => 0) ⟨#[], #[.string ⟨#[]⟩], []⟩).memory :=
    (LaidIn.of_run (l := Rows.lexAgainRow.laid) [6, 7, 5, 4, 13, 3, 14] 8 (by kernel_rfl) (by kernel_rfl) (by kernel_rfl) (by kernel_rfl)).met
  have hw : (DataW.whole enc Tryd.prog (({ World.holding Tryd.prog os ⟨#[.cells #[.string ⟨#[118, 97, 108, 117, 101, 32, 111, 117, 116, 32, 111, 102, 32, 114, 97, 110, 103, 101]⟩] 81, .cells #[.string ⟨#[105, 110, 118, 97, 108, 105, 100, 32, 115, 121, 110, 116, 97, 120]⟩] 81], #[], []⟩ with heap := (((((((((((World.holding Tryd.prog os ⟨#[.cells #[.string ⟨#[118, 97, 108, 117, 101, 32, 111, 117, 116, 32, 111, 102, 32, 114, 97, 110, 103, 101]⟩] 81, .cells #[.string ⟨#[105, 110, 118, 97, 108, 105, 100, 32, 115, 121, 110, 116, 97, 120]⟩] 81], #[], []⟩).heap).modify 6 fun | .cells _ t frozen => .cells (#[.int .u8 0, .int .u8 1, .int .u8 28, .int .u8 2, .int .u8 29, .int .u8 14, .int .u8 24, .int .u8 3, .int .u8 30, .int .u8 22, .int .u8 20, .int .u8 15, .int .u8 25, .int .u8 17, .int .u8 4, .int .u8 8, .int .u8 31, .int .u8 27, .int .u8 13, .int .u8 23, .int .u8 21, .int .u8 19, .int .u8 16, .int .u8 7, .int .u8 26, .int .u8 12, .int .u8 18, .int .u8 6, .int .u8 11, .int .u8 5, .int .u8 10, .int .u8 9]) t frozen | o => o)).modify 7 fun | .cells _ t frozen => .cells (#[.int .u8 0, .int .u8 1, .int .u8 56, .int .u8 2, .int .u8 57, .int .u8 49, .int .u8 28, .int .u8 3, .int .u8 61, .int .u8 58, .int .u8 42, .int .u8 50, .int .u8 38, .int .u8 29, .int .u8 17, .int .u8 4, .int .u8 62, .int .u8 47, .int .u8 59, .int .u8 36, .int .u8 45, .int .u8 43, .int .u8 51, .int .u8 22, .int .u8 53, .int .u8 39, .int .u8 33, .int .u8 30, .int .u8 24, .int .u8 18, .int .u8 12, .int .u8 5, .int .u8 63, .int .u8 55, .int .u8 48, .int .u8 27, .int .u8 60, .int .u8 41, .int .u8 37, .int .u8 16, .int .u8 46, .int .u8 35, .int .u8 44, .int .u8 21, .int .u8 52, .int .u8 32, .int .u8 23, .int .u8 11, .int .u8 54, .int .u8 26, .int .u8 40, .int .u8 15, .int .u8 34, .int .u8 20, .int .u8 31, .int .u8 10, .int .u8 25, .int .u8 14, .int .u8 19, .int .u8 9, .int .u8 13, .int .u8 8, .int .u8 7, .int .u8 6]) t frozen | o => o)).modify 5 fun | .cells _ t frozen => .cells (#[.int .u64 1, .int .u64 10, .int .u64 100, .int .u64 1000, .int .u64 10000, .int .u64 100000, .int .u64 1000000, .int .u64 10000000, .int .u64 100000000, .int .u64 1000000000, .int .u64 10000000000, .int .u64 100000000000, .int .u64 1000000000000, .int .u64 10000000000000, .int .u64 100000000000000, .int .u64 1000000000000000, .int .u64 10000000000000000, .int .u64 100000000000000000, .int .u64 1000000000000000000, .int .u64 10000000000000000000]) t frozen | o => o)).modify 4 fun | .cells _ t frozen => .cells (#[.iface 79 (.pointer (some ⟨13, 0, none⟩))]) t frozen | o => o)).modify 3 fun | .cells _ t frozen => .cells (#[.iface 79 (.pointer (some ⟨14, 0, none⟩))]) t frozen | o => o) } : World).forCall (fun _ _ => 0) ⟨#[], #[.string ⟨#[]⟩], []⟩).memory Tryd.f4.params.toList Rows.lexAgainSpec.vars false (#[.string ⟨#[]⟩] : Array Value).toList 8).map (fun x => (x.1, x.2.1)) =
      some ([.lit (.string [])], []) := by kernel_rfl
  obtain ⟨⟨x1, x2, x3⟩, hx, hx1⟩ := Option.map_eq_some_iff.1 hw
  simp only [Prod.mk.injEq] at hx1
  obtain ⟨rfl, rfl⟩ := hx1
  exact OpenSpec.preRow_of_cond 8 hx (by kernel_rfl) (fun k hk => by cases hk) (by kernel_rfl) hl

set_option maxRecDepth 100000 in
set_option maxHeartbeats 2000000 in
theorem lifted (os : Os) (started : os.Started) (H : Type) (enc : TypeId × Value → H) (F : Stop.Interp) :
    ReturnsInHanded {} Tryd.checked os 4 .any ((OpenSpec.ofChange Rows.lexAgainSpec).preRow enc Tryd.prog Tryd.f4 Rows.lexAgainRow.domain false Rows.lexAgainRow.laid) (((OpenSpec.ofChange Rows.lexAgainSpec).at F).post enc Tryd.prog Tryd.f4 false true false false) := by
  refine returnsInHanded_of_row (C := Tryd.checked) (s := OpenSpec.ofChange Rows.lexAgainSpec) own started (by kernel_rfl) Tryd.func4
    (witness_row_atRef (enc := enc) (C := Tryd.checked) false ({ World.holding Tryd.prog os ⟨#[.cells #[.string ⟨#[118, 97, 108, 117, 101, 32, 111, 117, 116, 32, 111, 102, 32, 114, 97, 110, 103, 101]⟩] 81, .cells #[.string ⟨#[105, 110, 118, 97, 108, 105, 100, 32, 115, 121, 110, 116, 97, 120]⟩] 81], #[], []⟩ with heap := (((((((((((World.holding Tryd.prog os ⟨#[.cells #[.string ⟨#[118, 97, 108, 117, 101, 32, 111, 117, 116, 32, 111, 102, 32, 114, 97, 110, 103, 101]⟩] 81, .cells #[.string ⟨#[105, 110, 118, 97, 108, 105, 100, 32, 115, 121, 110, 116, 97, 120]⟩] 81], #[], []⟩).heap).modify 6 fun | .cells _ t frozen => .cells (#[.int .u8 0, .int .u8 1, .int .u8 28, .int .u8 2, .int .u8 29, .int .u8 14, .int .u8 24, .int .u8 3, .int .u8 30, .int .u8 22, .int .u8 20, .int .u8 15, .int .u8 25, .int .u8 17, .int .u8 4, .int .u8 8, .int .u8 31, .int .u8 27, .int .u8 13, .int .u8 23, .int .u8 21, .int .u8 19, .int .u8 16, .int .u8 7, .int .u8 26, .int .u8 12, .int .u8 18, .int .u8 6, .int .u8 11, .int .u8 5, .int .u8 10, .int .u8 9]) t frozen | o => o)).modify 7 fun | .cells _ t frozen => .cells (#[.int .u8 0, .int .u8 1, .int .u8 56, .int .u8 2, .int .u8 57, .int .u8 49, .int .u8 28, .int .u8 3, .int .u8 61, .int .u8 58, .int .u8 42, .int .u8 50, .int .u8 38, .int .u8 29, .int .u8 17, .int .u8 4, .int .u8 62, .int .u8 47, .int .u8 59, .int .u8 36, .int .u8 45, .int .u8 43, .int .u8 51, .int .u8 22, .int .u8 53, .int .u8 39, .int .u8 33, .int .u8 30, .int .u8 24, .int .u8 18, .int .u8 12, .int .u8 5, .int .u8 63, .int .u8 55, .int .u8 48, .int .u8 27, .int .u8 60, .int .u8 41, .int .u8 37, .int .u8 16, .int .u8 46, .int .u8 35, .int .u8 44, .int .u8 21, .int .u8 52, .int .u8 32, .int .u8 23, .int .u8 11, .int .u8 54, .int .u8 26, .int .u8 40, .int .u8 15, .int .u8 34, .int .u8 20, .int .u8 31, .int .u8 10, .int .u8 25, .int .u8 14, .int .u8 19, .int .u8 9, .int .u8 13, .int .u8 8, .int .u8 7, .int .u8 6]) t frozen | o => o)).modify 5 fun | .cells _ t frozen => .cells (#[.int .u64 1, .int .u64 10, .int .u64 100, .int .u64 1000, .int .u64 10000, .int .u64 100000, .int .u64 1000000, .int .u64 10000000, .int .u64 100000000, .int .u64 1000000000, .int .u64 10000000000, .int .u64 100000000000, .int .u64 1000000000000, .int .u64 10000000000000, .int .u64 100000000000000, .int .u64 1000000000000000, .int .u64 10000000000000000, .int .u64 100000000000000000, .int .u64 1000000000000000000, .int .u64 10000000000000000000]) t frozen | o => o)).modify 4 fun | .cells _ t frozen => .cells (#[.iface 79 (.pointer (some ⟨13, 0, none⟩))]) t frozen | o => o)).modify 3 fun | .cells _ t frozen => .cells (#[.iface 79 (.pointer (some ⟨14, 0, none⟩))]) t frozen | o => o) }) #[.string ⟨#[]⟩] rfl (by kernel_rfl) (by kernel_rfl) (by kernel_rfl) (wit_row os enc)) ?_
  intro W base args ds gs before hval hW _ _ _ hL _ _
  exact contract H enc W base args ds gs before hval hW hL

theorem said : Rows.LexAgainSaid :=
  OpenClaim.holds_of_cond 4 Tryd.f4 rfl rfl rfl rfl rfl rfl rfl ⟨rfl, rfl, rfl, rfl, rfl⟩ rfl rfl rfl rfl rfl (by kernel_rfl) Tryd.func4 (by kernel_rfl)
    (of_decide_eq_true (by kernel_rfl)) (by unfold Func.isWrapper; first | (rw [if_pos (by decide +kernel)]; kernel_rfl) | (rw [if_neg (by decide +kernel)]; exact ⟨rfl, rfl⟩))
    (fun os started H enc _ F => by rw [OpenClaim.pre_eq_preRow]; exact lifted os started H enc F)

theorem plain (f : FuncId) (fn : Func) (hf : Tryd.pinned.checked.prog.funcNamed Rows.lexAgainRow.func = some f) (hfn : Tryd.pinned.checked.prog.funcs[f]? = some fn) :
    true = Tryd.pinned.checked.prog.looks [] ∧ ∀ (j : Nat) t, fn.params[j]? = some t → Tryd.pinned.checked.prog.wantsStandIn t = false := by
  obtain rfl : f = 4 := Option.some.inj ((show Tryd.prog.funcNamed Rows.lexAgainRow.func = some 4 by kernel_rfl).symm.trans hf) |>.symm
  obtain rfl : fn = Tryd.f4 := (Option.some.inj (Tryd.func4.symm.trans hfn)).symm
  refine ⟨by kernel_rfl, fun j t ht => ?_⟩
  rw [Tryd.params4] at ht
  have ht2 := Array.mem_of_getElem? ht
  simp only [List.mem_toArray, List.mem_cons, List.not_mem_nil, or_false] at ht2
  rcases ht2 with rfl
  · exact (show Tryd.prog.wantsStandIn 9 = false by kernel_rfl)

theorem proved : Rows.LexAgainCardSaid :=
  Claim7.holds_tied_plain_at .later [] _ _ _ _ said (fun _ h => by cases h) (by kernel_rfl) (fun _ h => by cases h) lexAgain_row_tie rfl ⟨rfl, rfl⟩ (by kernel_rfl) rfl plain (by kernel_rfl)
end Go.Proofs.YtigbhgkbjijmbaaDoor.lexAgain
namespace Go.Proofs.YtigbhgkbjijmbaaDoor
theorem lexAgain_holds : Rows.LexAgainCardSaid := lexAgain.proved
end Go.Proofs.YtigbhgkbjijmbaaDoor
