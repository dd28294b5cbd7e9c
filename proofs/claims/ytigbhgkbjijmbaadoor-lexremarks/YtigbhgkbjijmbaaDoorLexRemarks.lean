/-
  LexRemarks (P4.1): for every three texts the law answers true, where the variables of the library that the row lists hold what its text lays into them.
-/
import Derived.Test.YtigbhgkbjijmbaaDoorCards
import Derived.Test.YtigbhgkbjijmbaaDoorTie
import Derived.WalkKit
import Derived.ProofKit
import Derived.OpenShut
import Derived.ShutString
import Derived.SizedLaws
import Derived.Below
import Derived.ChangeOld
import Derived.Lib.LaidIn
import Derived.Lib.LaidU8T
import Derived.Deep.DeepHandedRow
import Derived.Deep.DeepWitnessRowRef
import Derived.Deep.RegionWith
import Derived.Deep.RegionLaw
import Derived.Deep.DeepCutAuto
import Derived.Deep.RegionHeldLaw
import Derived.WalkSmall
import Derived.Stop.LaidErr
import Derived.Deep.DeepLaidRun
import Derived.Test.YtigbhgkbjijmbaaDoorLwL
import Derived.Test.YtigbhgkbjijmbaaDoorDvW
namespace Go.Proofs.YtigbhgkbjijmbaaDoor.lexRemarks
open Go.Shelf
open Go.ChangeShapes Go.WideShapes Go.ChangeAt Go.RowKit
open Go.ChangeMaps (open_string shut_string)
set_option linter.unusedVariables false

theorem own : ownKnob Tryd.prog.godebug = none := by kernel_rfl
theorem laidOut : laidOutB Tryd.prog = true := by kernel_rfl

theorem star : "*" ++ "errors.errorString" = "*errors.errorString" := by decide
theorem rowE (u : TypeId) (h : Tryd.prog.typeName? 3 u = some "*errors.errorString") : u = 79 :=
  typeName_ptr_named (nm := "errors.errorString") (by rw [star]; kernel_rfl) (by kernel_rfl) (by decide) u (by rw [star]; exact h)
theorem cellsE : Tryd.prog.cellsOf 81 = 1 := by kernel_rfl
theorem cellsS : Tryd.prog.cellsOf 9 = 1 := by kernel_rfl
theorem gE0 : Tryd.prog.globalNamed "strconv.ErrSyntax" = some 3 := by kernel_rfl
theorem gT0 : (Tryd.prog.globals[3]?).map (·.type) = some 51 := by kernel_rfl
theorem gE1 : Tryd.prog.globalNamed "strconv.ErrRange" = some 4 := by kernel_rfl
theorem gT1 : (Tryd.prog.globals[4]?).map (·.type) = some 51 := by kernel_rfl
theorem app_data (a b : ByteArray) : (a ++ b).data.toList = a.data.toList ++ b.data.toList := by
  rw [ByteArray.data_append]; simp
theorem kt_at {a b : List Wd} (h : kt a = kt b) {k : Nat} {x : Wd} (hx : b[k]? = some x) : ∃ y, a[k]? = some y ∧ y.kind = x.kind ∧ y.text = x.text := by
  have h1 : (kt b)[k]? = some (x.kind, x.text) := by unfold kt; rw [List.getElem?_map, hx]; rfl
  rw [← h] at h1
  unfold kt at h1
  rw [List.getElem?_map] at h1
  obtain ⟨y, hy, he⟩ := Option.map_eq_some_iff.1 h1
  simp only [Prod.mk.injEq] at he
  exact ⟨y, hy, he.1, he.2⟩
set_option maxHeartbeats 4000000 in
set_option maxRecDepth 20000 in
theorem walk (s0 : ByteArray) (s1 : ByteArray) (s2 : ByteArray) (w : World) (hT : Errs w) (w0 : s0.size ≤ 9223372036854775807) (w1 : s1.size ≤ 9223372036854775807) (w2 : s2.size ≤ 9223372036854775807) :
    Calls Tryd.prog 7 #[.string s0, .string s1, .string s2] w fun e w' => e = .returned (.bool true) ∧ Below w.heap.size w w' := by
  have D := devWords
  have hA := fun W hTW => awakeX_any D W hTW
  by_cases hall : s0.size ≤ 5000 ∧ s2.size ≤ 5000 ∧ s1.size ≤ 5000
  · obtain ⟨z0, z2, z1⟩ := hall
    have z0' : ¬ (5000 : Int) < (s0.size : Int) := by omega
    have z2' : ¬ (5000 : Int) < (s2.size : Int) := by omega
    have z1' : ¬ (5000 : Int) < (s1.size : Int) := by omega
    have HWR : Hid ((∀ x ∈ s1.data.toList, x ≠ 10) → (wordsL (s0.data.toList ++ 10 :: s2.data.toList)).2.2 = (wordsL (s0.data.toList ++ 10 :: 47 :: 47 :: (s1.data.toList ++ 10 :: s2.data.toList))).2.2 ∧ kt (wordsL (s0.data.toList ++ 10 :: s2.data.toList)).1 = kt (wordsL (s0.data.toList ++ 10 :: 47 :: 47 :: (s1.data.toList ++ 10 :: s2.data.toList))).1) :=
      fun h => words_remark _ _ _ (by rw [len_data]; exact z0) (by rw [len_data]; exact z1) (by rw [len_data]; exact z2) h
    have e1 : (ByteArray.mk #[10]).size = 1 := rfl
    have e3 : (ByteArray.mk #[10, 47, 47]).size = 3 := rfl
    have hu1 : ∀ W : World, (Op.stringOp .add s0 ⟨#[10]⟩).run Tryd.prog W = .ok (.string (s0 ++ ⟨#[10]⟩)) W := fun W => run_string_add_sum W _ _ (by rw [e1]; omega)
    have hu2 : ∀ W : World, (Op.stringOp .add (s0 ++ ⟨#[10]⟩) s2).run Tryd.prog W = .ok (.string (s0 ++ ⟨#[10]⟩ ++ s2)) W := fun W => run_string_add_sum W _ _ (by rw [ByteArray.size_append, e1]; omega)
    have hv1 : ∀ W : World, (Op.stringOp .add s0 ⟨#[10, 47, 47]⟩).run Tryd.prog W = .ok (.string (s0 ++ ⟨#[10, 47, 47]⟩)) W := fun W => run_string_add_sum W _ _ (by rw [e3]; omega)
    have hv2 : ∀ W : World, (Op.stringOp .add (s0 ++ ⟨#[10, 47, 47]⟩) s1).run Tryd.prog W = .ok (.string (s0 ++ ⟨#[10, 47, 47]⟩ ++ s1)) W := fun W => run_string_add_sum W _ _ (by rw [ByteArray.size_append, e3]; omega)
    have hv3 : ∀ W : World, (Op.stringOp .add (s0 ++ ⟨#[10, 47, 47]⟩ ++ s1) ⟨#[10]⟩).run Tryd.prog W = .ok (.string (s0 ++ ⟨#[10, 47, 47]⟩ ++ s1 ++ ⟨#[10]⟩)) W := fun W => run_string_add_sum W _ _ (by rw [ByteArray.size_append, ByteArray.size_append, e3, e1]; omega)
    have hv4 : ∀ W : World, (Op.stringOp .add (s0 ++ ⟨#[10, 47, 47]⟩ ++ s1 ++ ⟨#[10]⟩) s2).run Tryd.prog W = .ok (.string (s0 ++ ⟨#[10, 47, 47]⟩ ++ s1 ++ ⟨#[10]⟩ ++ s2)) W := fun W => run_string_add_sum W _ _ (by rw [ByteArray.size_append, ByteArray.size_append, ByteArray.size_append, e3, e1]; omega)
    have hW := fun W hTW => D (s0 ++ ⟨#[10]⟩ ++ s2) W hTW (by rw [ByteArray.size_append, ByteArray.size_append, e1]; omega)
    have hV := fun W hTW => D (s0 ++ ⟨#[10, 47, 47]⟩ ++ s1 ++ ⟨#[10]⟩ ++ s2) W hTW (by rw [ByteArray.size_append, ByteArray.size_append, ByteArray.size_append, ByteArray.size_append, e3, e1]; omega)
    have dW : (s0 ++ (⟨#[10]⟩ : ByteArray) ++ s2).data.toList = s0.data.toList ++ 10 :: s2.data.toList := by rw [app_data, app_data]; simp
    have dV : (s0 ++ (⟨#[10, 47, 47]⟩ : ByteArray) ++ s1 ++ (⟨#[10]⟩ : ByteArray) ++ s2).data.toList = s0.data.toList ++ 10 :: 47 :: 47 :: (s1.data.toList ++ 10 :: s2.data.toList) := by rw [app_data, app_data, app_data, app_data]; simp
    rw [dW] at hW
    rw [dV] at hV
    have hctA := words_count (s0.data.toList ++ 10 :: s2.data.toList)
    clear e1 e3 dW dV D
    generalize s0 ++ (⟨#[10, 47, 47]⟩ : ByteArray) ++ s1 ++ (⟨#[10]⟩ : ByteArray) ++ s2 = V4 at *
    generalize s0 ++ (⟨#[10, 47, 47]⟩ : ByteArray) ++ s1 ++ (⟨#[10]⟩ : ByteArray) = V3 at *
    generalize s0 ++ (⟨#[10, 47, 47]⟩ : ByteArray) ++ s1 = V2 at *
    generalize s0 ++ (⟨#[10, 47, 47]⟩ : ByteArray) = V1 at *
    generalize s0 ++ (⟨#[10]⟩ : ByteArray) ++ s2 = U2 at *
    generalize s0 ++ (⟨#[10]⟩ : ByteArray) = U1 at *
    generalize wordsL (s0.data.toList ++ 10 :: s2.data.toList) = RA at *
    generalize wordsL (s0.data.toList ++ 10 :: 47 :: 47 :: (s1.data.toList ++ 10 :: s2.data.toList)) = RB at *
    have HL1 : Hid (s1.data.toList.length = s1.size) := len_data s1
    go_enter Tryd.func7, Tryd.ntmps7
    go_wp2_with fail
    refine (hA w hT).mono ?_
    rintro e w1 ⟨rfl, hb1⟩
    have hT1 := errs_below hT hb1
    have hs1 := hb1.size
    clear hA
    go_wp2_with fail
    go_loop [7] (fun i => ∃ k : Nat, k ≤ s1.size ∧ i = .int .i64 k ∧ ∀ x ∈ s1.data.toList.take k, x ≠ 10) (fun i => s1.size - (intOf i).toNat)
    case atStart => exact ⟨0, by omega, rfl, by simp⟩
    case round =>
      obtain ⟨k, hk, rfl, hno⟩ := hrel
      have HNO : Hid (∀ x ∈ s1.data.toList.take k, x ≠ 10) := hno
      clear hno
      by_cases hlt : k < s1.size
      · by_cases h10 : s1[k]'hlt = 10
        · have hb10 : (((s1[k]'hlt).toNat : Int) == 10) = true := by rw [h10]; rfl
          clear h10
          go_wp2_with fail
          go_ret
          exact ⟨rfl, hb1⟩
        · have hb10 : (((s1[k]'hlt).toNat : Int) == 10) = false := by
            rw [beq_eq_false_iff_ne]
            intro e; apply h10; apply UInt8.toNat_inj.1; show _ = 10; omega
          have HNX : Hid (∀ x ∈ s1.data.toList.take (k + 1), x ≠ 10) := by
            intro x hx
            rw [List.take_add_one, at_data s1 k hlt] at hx
            rcases List.mem_append.1 hx with hx | hx
            · exact HNO.out x hx
            · have : x = s1[k]'hlt := by simpa using hx
              rw [this]; exact h10
          clear h10 HNO
          go_wp2_with fail
          go_round
          case rel => exact ⟨k + 1, by omega, by go_num, HNX.out⟩
          case measure => simp [intOf]; omega
      · have hne : ∀ x ∈ s1.data.toList, x ≠ 10 := fun x hx => HNO.out x (by rw [List.take_of_length_le (by rw [HL1.out]; omega)]; exact hx)
        obtain ⟨hcode, hkt⟩ := HWR.out hne
        have HKT : Hid (kt RB.1 = kt RA.1) := hkt.symm
        have hlen : RB.1.length = RA.1.length := by rw [← kt_len, ← kt_len, hkt]
        unfold LAns at hW hV
        rw [hlen, ← hcode] at hV
        clear HWR hne hkt HNO hcode hlen
        obtain ⟨LA, PA, er⟩ := RA
        obtain ⟨LB, PB, erb⟩ := RB
        simp only at hW hV hctA HKT
        obtain ⟨n, hn⟩ : ∃ n, LA.length = n := ⟨_, rfl⟩
        have HN : Hid (LA.length = n) := hn
        rw [hn] at hW hV hctA
        clear hn
        go_wp2_with fail
        refine (hW w1 hT1).mono ?_
        rintro e w2 ⟨⟨ad, c, pl, pc, rfl, hH, hc, _⟩, hb2⟩
        have hb2' := hb1.trans (hb2.mono hs1)
        have HH : Hid (HeldW w2 ad LA) := hH
        have HT3 : Hid (∀ o, Errs (w2.alloc o)) := fun o => errs_below (errs_below hT1 hb2) ((Below.refl _ w2).alloc (Nat.le_refl _) o)
        have HBB : Hid (∀ o, Below w.heap.size w (w2.alloc o)) := fun o => hb2'.alloc hb2'.size o
        have HHO : Hid (∀ o, HeldW (w2.alloc o) ad LA) := fun o => heldW_old HH.out ((Below.refl _ w2).alloc (Nat.le_refl _) o)
        clear hW hH hb2 hT1 hb1 hs1 HH
        go_wp2_with fail
        refine (hV _ (HT3.out _)).mono ?_
        rintro e w3 ⟨⟨ad3, c3, pl3, pc3, rfl, hH3, hc3, _⟩, hb3⟩
        have hb3' := (HBB.out _).trans (hb3.mono (HBB.out _).size)
        have HHa : Hid (HeldW w3 ad LA) := heldW_old (HHO.out _) hb3
        have HHb : Hid (HeldW w3 ad3 LB) := hH3
        have hs3 := hb3'.size
        have hnn : ((n : Int) != (n : Int)) = false := by simp
        have hee : (er == er) = true := by simp
        clear hV hH3 hb3 HBB HHO HT3 hb2'
        by_cases h0 : er = 0
        · subst h0
          go_wp2_with fail
          go_loopw [80] (fun i wr => ∃ k : Nat, k ≤ n ∧ i = .int .i64 k ∧ Below w3.heap.size w3 wr) (fun i _ => n - (intOf i).toNat)
          case atStart => exact ⟨0, by omega, rfl, (Below.refl _ w3).alloc (Nat.le_refl _) _⟩
          case round =>
            obtain ⟨k, hk, rfl, hbr⟩ := hrel
            by_cases hlt : k < n
            · obtain ⟨x, hx⟩ : ∃ x, LA[k]? = some x := ⟨_, List.getElem?_eq_getElem (by have := HN.out; omega)⟩
              obtain ⟨y, hy, hyk, hyt⟩ := kt_at HKT.out hx
              obtain ⟨g1, rfl, p0, p1, p2, p3⟩ := heldW_at (heldW_old HHa.out hbr) hx
              obtain ⟨g2, rfl, q0, q1, q2, q3⟩ := heldW_at (heldW_old HHb.out hbr) hy
              rw [hyk] at q0
              rw [hyt] at q1
              have hk0 : (0 : Int) ≤ (k : Int) := by omega
              have hk1 : (k : Int) < (n : Int) := by omega
              clear hx hy hyk hyt
              go_wp2_with fail
              go_quiet (fail)
              go_wp2_with fail
              go_roundw
              case rel => exact ⟨k + 1, by omega, by go_num, hbr.trans ⟨rfl, rfl, rfl, Nat.le_refl _, fun _ _ => rfl⟩⟩
              case measure => simp [intOf]; omega
            · go_wp2_with fail
              go_ret
              exact ⟨rfl, hb3'.trans (hbr.mono hs3)⟩
        · have h0' : (er != 0) = true := by simpa using h0
          go_wp2_with fail
          go_ret
          exact ⟨retB (by simp), hb3'.alloc hs3 _⟩
  · have hway : ((5000 : Int) < (s0.size : Int)) ∨ (¬ (5000 : Int) < (s0.size : Int) ∧ (5000 : Int) < (s2.size : Int)) ∨ (¬ (5000 : Int) < (s0.size : Int) ∧ ¬ (5000 : Int) < (s2.size : Int) ∧ (5000 : Int) < (s1.size : Int)) := by omega
    clear hall
    rcases hway with c1 | ⟨c1, c2⟩ | ⟨c1, c2, c3⟩
    all_goals
      go_enter Tryd.func7, Tryd.ntmps7
      go_wp2_with fail
      refine (hA w hT).mono ?_
      rintro e w1 ⟨rfl, hb1⟩
      have hT1 := errs_below hT hb1
      go_wp2_with fail
      refine (hA w1 hT1).mono ?_
      rintro e w2 ⟨rfl, hb2⟩
      go_wp2_with fail
      go_ret
      exact ⟨rfl, hb1.trans (hb2.mono hb1.size)⟩

set_option maxRecDepth 100000 in
theorem contract (H : Type) (enc : TypeId × Value → H) (W : World) (base : Nat) (args : Array Value) (ds gs : List (DataW H)) (before : List MemPlace)
    (hval0 : ∀ (j : Nat) t v, Tryd.f7.params[j]? = some t → args[j]? = some v → Value.okWide Tryd.prog W .any base t v)
    (hW : DataW.Whole enc Tryd.prog Tryd.f7.params.toList Rows.lexRemarksSpec.vars false W args.toList ds gs before) (hL : laidMet Tryd.prog Rows.lexRemarksRow.laid W) :
    Calls Tryd.prog 7 args W fun e W' => ∃ v, e = .returned v ∧ Rows.lexRemarksSpec.post enc Tryd.prog Tryd.f7 false true false false W args v W' := by
  have hval : ∀ (j : Nat) t v, Tryd.f7.params[j]? = some t → args[j]? = some v → Value.okWide Tryd.prog W .any base t v := hval0
  obtain ⟨aE0, sE0, hvE0, -, -, -⟩ := laid_sentinel (hL.tail.tail.tail.tail) gE0 gT0 Tryd.underlying51 rowE Tryd.underlying79 Tryd.underlying81 rfl rfl Tryd.underlying9 cellsE cellsS
  obtain ⟨aE1, sE1, hvE1, -, -, -⟩ := laid_sentinel (hL.tail.tail.tail) gE1 gT1 Tryd.underlying51 rowE Tryd.underlying79 Tryd.underlying81 rfl rfl Tryd.underlying9 cellsE cellsS
  have htE : Errs W := ⟨⟨_, (show W.cell? ⟨3, 0, none⟩ = _ by have h0 := World.var?_cell gE0 hvE0 0; simpa using h0), Or.inr ⟨_, _, rfl⟩⟩, ⟨_, (show W.cell? ⟨4, 0, none⟩ = _ by have h0 := World.var?_cell gE1 hvE1 0; simpa using h0), Or.inr ⟨_, _, rfl⟩⟩⟩
  have htab : Errs W := htE
  have hW' := hW
  obtain ⟨p, q, hA0, hV, rfl, hfz, hnd⟩ := hW
  have hA : DataW.TrodAll enc Tryd.prog W 0 (fun _ => true) true Tryd.f7.params.toList args.toList ds p := hA0
  rw [Tryd.params7] at hA hval
  obtain ⟨v0, vs0, d0, ds0, p0, q0, hargs, rfl, rfl, h0, r0⟩ := trodAll_cons hA
  obtain ⟨v1, vs1, d1, ds1, p1, q1, rfl, rfl, rfl, h1, r1⟩ := trodAll_cons r0
  obtain ⟨v2, vs2, d2, ds2, p2, q2, rfl, rfl, rfl, h2, r2⟩ := trodAll_cons r1
  obtain ⟨rfl, rfl, rfl⟩ := trodAll_nil r2
  obtain rfl : args = #[v0, v1, v2] := by cases args; simp_all
  obtain ⟨rfl, rfl⟩ := trodVars_none hV
  have k0 := h0
  have lt0 : ∀ x ∈ p0, x.block < W.heap.size := by obtain ⟨m, hm⟩ := k0; exact DataW.trod_lt m _ _ _ hm
  obtain ⟨s0, rfl, _, _, ws0⟩ := open_string Tryd.underlying9 (hval 0 9 v0 rfl rfl) h0
  have w0 : s0.size ≤ 9223372036854775807 := by unfold maxLen at ws0; omega
  have k1 := h1
  have lt1 : ∀ x ∈ p1, x.block < W.heap.size := by obtain ⟨m, hm⟩ := k1; exact DataW.trod_lt m _ _ _ hm
  obtain ⟨s1, rfl, _, _, ws1⟩ := open_string Tryd.underlying9 (hval 1 9 v1 rfl rfl) h1
  have w1 : s1.size ≤ 9223372036854775807 := by unfold maxLen at ws1; omega
  have k2 := h2
  have lt2 : ∀ x ∈ p2, x.block < W.heap.size := by obtain ⟨m, hm⟩ := k2; exact DataW.trod_lt m _ _ _ hm
  obtain ⟨s2, rfl, _, _, ws2⟩ := open_string Tryd.underlying9 (hval 2 9 v2 rfl rfl) h2
  have w2 : s2.size ≤ 9223372036854775807 := by unfold maxLen at ws2; omega
  clear hA0 hval0
  refine (walk s0 s1 s2 W htab w0 w1 w2).mono fun e W' ⟨he, bel⟩ => ?_
  subst he
  exact ⟨_, rfl, _, _, _, [], _, [], hW', trodAll_mk1 (shut_bool Tryd.underlying4 _), (trodAll_cons_mk (Below.trod laidOut (by kernel_rfl) (of_decide_eq_true (by kernel_rfl)) k0 bel lt0) (trodAll_cons_mk (Below.trod laidOut (by kernel_rfl) (of_decide_eq_true (by kernel_rfl)) k1 bel lt1) (trodAll_cons_mk (Below.trod laidOut (by kernel_rfl) (of_decide_eq_true (by kernel_rfl)) k2 bel lt2) trodAll_mk0))), rfl, bel.frame _, fun h => by cases h⟩

set_option maxRecDepth 100000 in
set_option maxHeartbeats 2000000 in
theorem wit_row (os : Os) {H : Type} (enc : TypeId × Value → H) :
    (OpenSpec.ofChange Rows.lexRemarksSpec).preRow enc Tryd.prog Tryd.f7 Rows.lexRemarksRow.domain false Rows.lexRemarksRow.laid (({ World.holding Tryd.prog os ⟨#[.cells #[.string ⟨#[118, 97, 108, 117, 101, 32, 111, 117, 116, 32, 111, 102, 32, 114, 97, 110, 103, 101]⟩] 81, .cells #[.string ⟨#[105, 110, 118, 97, 108, 105, 100, 32, 115, 121, 110, 116, 97, 120]⟩] 81], #[], []⟩ with heap := (((((((((((World.holding Tryd.prog os ⟨#[.cells #[.string ⟨#[118, 97, 108, 117, 101, 32, 111, 117, 116, 32, 111, 102, 32, 114, 97, 110, 103, 101]⟩] 81, .cells #[.string ⟨#[105, 110, 118, 97, 108, 105, 100, 32, 115, 121, 110, 116, 97, 120]⟩] 81], #[], []⟩).heap).modify 6 fun | .cells _ t frozen => .cells (#[.int .u8 0, .int .u8 1, .int .u8 28, .int .u8 2, .int .u8 29, .int .u8 14, .int .u8 24, .int .u8 3, .int .u8 30, .int .u8 22, .int .u8 20, .int .u8 15, .int .u8 25, .int .u8 17, .int .u8 4, .int .u8 8, .int .u8 31, .int .u8 27, .int .u8 13, .int .u8 23, .int .u8 21, .int .u8 19, .int .u8 16, .int .u8 7, .int .u8 26, .int .u8 12, .int .u8 18, .int .u8 6, .int .u8 11, .int .u8 5, .int .u8 10, .int .u8 9]) t frozen | o => o)).modify 7 fun | .cells _ t frozen => .cells (#[.int .u8 0, .int .u8 1, .int .u8 56, .int .u8 2, .int .u8 57, .int .u8 49, .int .u8 28, .int .u8 3, .int .u8 61, .int .u8 58, .int .u8 42, .int .u8 50, .int .u8 38, .int .u8 29, .int .u8 17, .int .u8 4, .int .u8 62, .int .u8 47, .int .u8 59, .int .u8 36, .int .u8 45, .int .u8 43, .int .u8 51, .int .u8 22, .int .u8 53, .int .u8 39, .int .u8 33, .int .u8 30, .int .u8 24, .int .u8 18, .int .u8 12, .int .u8 5, .int .u8 63, .int .u8 55, .int .u8 48, .int .u8 27, .int .u8 60, .int .u8 41, .int .u8 37, .int .u8 16, .int .u8 46, .int .u8 35, .int .u8 44, .int .u8 21, .int .u8 52, .int .u8 32, .int .u8 23, .int .u8 11, .int .u8 54, .int .u8 26, .int .u8 40, .int .u8 15, .int .u8 34, .int .u8 20, .int .u8 31, .int .u8 10, .int .u8 25, .int .u8 14, .int .u8 19, .int .u8 9, .int .u8 13, .int .u8 8, .int .u8 7, .int .u8 6]) t frozen | o => o)).modify 5 fun | .cells _ t frozen => .cells (#[.int .u64 1, .int .u64 10, .int .u64 100, .int .u64 1000, .int .u64 10000, .int .u64 100000, .int .u64 1000000, .int .u64 10000000, .int .u64 100000000, .int .u64 1000000000, .int .u64 10000000000, .int .u64 100000000000, .int .u64 1000000000000, .int .u64 10000000000000, .int .u64 100000000000000, .int .u64 1000000000000000, .int .u64 10000000000000000, .int .u64 100000000000000000, .int .u64 1000000000000000000, .int .u64 10000000000000000000]) t frozen | o => o)).modify 4 fun | .cells _ t frozen => .cells (#[.iface 79 (.pointer (some ⟨13, 0, none⟩))]) t frozen | o => o)).modify 3 fun | .cells _ t frozen => .cells (#[.iface 79 (.pointer (some ⟨14, 0, none⟩))]) t frozen | o => o) } : World).forCall (fun _ _ => 0) ⟨#[], #[.string ⟨#[]⟩, .string ⟨#[]⟩, .string ⟨#[]⟩], []⟩).memory #[.string ⟨#[]⟩, .string ⟨#[]⟩, .string ⟨#[]⟩] := by
  have hl : laidMet Tryd.prog Rows.lexRemarksRow.laid (({ World.holding Tryd.prog os ⟨#[.cells #[.string ⟨#[118, 97, 108, 117, 101, 32, 111, 117, 116, 32, 111, 102, 32, 114, 97, 110, 103, 101]⟩] 81, .cells #[.string ⟨#[105, 110, 118, 97, 108, 105, 100, 32, 115, 121, 110, 116, 97, 120]⟩] 81], #[], []⟩ with heap := (((((((((((World.holding Tryd.prog os ⟨#[.cells #[.string ⟨#[118, 97, 108, 117, 101, 32, 111, 117, 116, 32, 111, 102, 32, 114, 97, 110, 103, 101]⟩] 81, .cells #[.string ⟨#[105, 110, 118, 97, 108, 105, 100, 32, 115, 121, 110, 116, 97, 120]⟩] 81], #[], []⟩).heap).modify 6 fun | .cells _ t frozen => .cells (#[.int .u8 0, .int .u8 1, .int .u8 28, .int .u8 2, .int .u8 29, .int .u8 14, .int .u8 24, .int .u8 3, .int .u8 30, .int .u8 22, .int .u8 20, .int .u8 15, .int .u8 25, .int .u8 17, .int .u8 4, .int .u8 8, .int .u8 31, .int .u8 27, .int .u8 13, .int .u8 23, .int .u8 21, .int .u8 19, .int .u8 16, .int .u8 7, .int .u8 26, .int .u8 12, .int .u8 18, .int .u8 6, .int .u8 11, .int .u8 5, .int .u8 10, .int .u8 9]) t frozen | o => o)).modify 7 fun | .cells _ t frozen => .cells (#[.int .u8 0, .int .u8 1, .int .u8 56, .int .u8 2, .int .u8 57, .int .u8 49, .int .u8 28, .int .u8 3, .int .u8 61, .int .u8 58, .int .u8 42, .int .u8 50, .int .u8 38, .int .u8 29, .int .u8 17, .int .u8 4, .int .u8 62, .int .u8 47, .int .u8 59, .int .u8 36, .int .u8 45, .int .u8 43, .int .u8 51, .int .u8 22, .int .u8 53, .int .u8 39, .int .u8 33, .int .u8 30, .int .u8 24, .int .u8 18, .int .u8 12, .int .u8 5, .int .u8 63, .int .u8 55, .int .u8 48, .int .u8 27, .int .u8 60, .int .u8 41, .int .u8 37, .int .u8 16, .int .u8 46, .int .u8 35, .int .u8 44, .int .u8 21, .int .u8 52, .int .u8 32, .int .u8 23, .int .u8 11, .int .u8 54, .int .u8 26, .int .u8 40, .int .u8 15, .int .u8 34, .int .u8 20, .int .u8 31, .int .u8 10, .int .u8 25, .int .u8 14, .int .u8 19, .int .u8 9, .int .u8 13, .int .u8 8, .int .u8 7, .int .u8 6]) t frozen | o => o)).modify 5 fun | .cells _ t frozen => .cells (#[.int .u64 1, .int .u64 10, .int .u64 100, .int .u64 1000, .int .u64 10000, .int .u64 100000, .int .u64 1000000, .int .u64 10000000, .int .u64 100000000, .int .u64 1000000000, .int .u64 10000000000, .int .u64 100000000000, .int .u64 1000000000000, .int .u64 10000000000000, .int .u64 100000000000000, .int .u64 1000000000000000, .int .u64 10000000000000000, .int .u64 100000000000000000, .int .u64 1000000000000000000, .int .u64 10000000000000000000]) t frozen | o => o)).modify 4 fun | .cells _ t frozen => .cells (#[.iface 79 (.pointer (some ⟨13, 0, none⟩))]) t frozen | o => o)).modify 3 fun | .cells _ t frozen => .cells (#[.iface 79 (.pointer (some ⟨14, 0, none⟩))]) t frozen | o => o) } : World).forCall (fun _ _ => 0) ⟨#[], #[.string ⟨#[]⟩, .string ⟨#[]⟩, .string ⟨#[]⟩], []⟩).memory :=
    (LaidIn.of_run (l := Rows.lexRemarksRow.laid) [6, 7, 5, 4, 13, 3, 14] 8 (by kernel_rfl) (by kernel_rfl) (by kernel_rfl) (by kernel_rfl)).met
  have hw : (DataW.whole enc Tryd.prog (({ World.holding Tryd.prog os ⟨#[.cells #[.string ⟨#[118, 97, 108, 117, 101, 32, 111, 117, 116, 32, 111, 102, 32, 114, 97, 110, 103, 101]⟩] 81, .cells #[.string ⟨#[105, 110, 118, 97, 108, 105, 100, 32, 115, 121, 110, 116, 97, 120]⟩] 81], #[], []⟩ with heap := (((((((((((World.holding Tryd.prog os ⟨#[.cells #[.string ⟨#[118, 97, 108, 117, 101, 32, 111, 117, 116, 32, 111, 102, 32, 114, 97, 110, 103, 101]⟩] 81, .cells #[.string ⟨#[105, 110, 118, 97, 108, 105, 100, 32, 115, 121, 110, 116, 97, 120]⟩] 81], #[], []⟩).heap).modify 6 fun | .cells _ t frozen => .cells (#[.int .u8 0, .int .u8 1, .int .u8 28, .int .u8 2, .int .u8 29, .int .u8 14, .int .u8 24, .int .u8 3, .int .u8 30, .int .u8 22, .int .u8 20, .int .u8 15, .int .u8 25, .int .u8 17, .int .u8 4, .int .u8 8, .int .u8 31, .int .u8 27, .int .u8 13, .int .u8 23, .int .u8 21, .int .u8 19, .int .u8 16, .int .u8 7, .int .u8 26, .int .u8 12, .int .u8 18, .int .u8 6, .int .u8 11, .int .u8 5, .int .u8 10, .int .u8 9]) t frozen | o => o)).modify 7 fun | .cells _ t frozen => .cells (#[.int .u8 0, .int .u8 1, .int .u8 56, .int .u8 2, .int .u8 57, .int .u8 49, .int .u8 28, .int .u8 3, .int .u8 61, .int .u8 58, .int .u8 42, .int .u8 50, .int .u8 38, .int .u8 29, .int .u8 17, .int .u8 4, .int .u8 62, .int .u8 47, .int .u8 59, .int .u8 36, .int .u8 45, .int .u8 43, .int .u8 51, .int .u8 22, .int .u8 53, .int .u8 39, .int .u8 33, .int .u8 30, .int .u8 24, .int .u8 18, .int .u8 12, .int .u8 5, .int .u8 63, .int .u8 55, .int .u8 48, .int .u8 27, .int .u8 60, .int .u8 41, .int .u8 37, .int .u8 16, .int .u8 46, .int .u8 35, .int .u8 44, .int .u8 21, .int .u8 52, .int .u8 32, .int .u8 23, .int .u8 11, .int .u8 54, .int .u8 26, .int .u8 40, .int .u8 15, .int .u8 34, .int .u8 20, .int .u8 31, .int .u8 10, .int .u8 25, .int .u8 14, .int .u8 19, .int .u8 9, .int .u8 13, .int .u8 8, .int .u8 7, .int .u8 6]) t frozen | o => o)).modify 5 fun | .cells _ t frozen => .cells (#[.int .u64 1, .int .u64 10, .int .u64 100, .int .u64 1000, .int .u64 10000, .int .u64 100000, .int .u64 1000000, .int .u64 10000000, .int .u64 100000000, .int .u64 1000000000, .int .u64 10000000000, .int .u64 100000000000, .int .u64 1000000000000, .int .u64 10000000000000, .int .u64 100000000000000, .int .u64 1000000000000000, .int .u64 10000000000000000, .int .u64 100000000000000000, .int .u64 1000000000000000000, .int .u64 10000000000000000000]) t frozen | o => o)).modify 4 fun | .cells _ t frozen => .cells (#[.iface 79 (.pointer (some ⟨13, 0, none⟩))]) t frozen | o => o)).modify 3 fun | .cells _ t frozen => .cells (#[.iface 79 (.pointer (some ⟨14, 0, none⟩))]) t frozen | o => o) } : World).forCall (fun _ _ => 0) ⟨#[], #[.string ⟨#[]⟩, .string ⟨#[]⟩, .string ⟨#[]⟩], []⟩).memory Tryd.f7.params.toList Rows.lexRemarksSpec.vars false (#[.string ⟨#[]⟩, .string ⟨#[]⟩, .string ⟨#[]⟩] : Array Value).toList 8).map (fun x => (x.1, x.2.1)) =
      some ([.lit (.string []), .lit (.string []), .lit (.string [])], []) := by kernel_rfl
  obtain ⟨⟨x1, x2, x3⟩, hx, hx1⟩ := Option.map_eq_some_iff.1 hw
  simp only [Prod.mk.injEq] at hx1
  obtain ⟨rfl, rfl⟩ := hx1
  exact OpenSpec.preRow_of_cond 8 hx (by kernel_rfl) (fun k hk => by cases hk) (by kernel_rfl) hl

set_option maxRecDepth 100000 in
set_option maxHeartbeats 2000000 in
theorem lifted (os : Os) (started : os.Started) (H : Type) (enc : TypeId × Value → H) (F : Stop.Interp) :
    ReturnsInHanded {} Tryd.checked os 7 .any ((OpenSpec.ofChange Rows.lexRemarksSpec).preRow enc Tryd.prog Tryd.f7 Rows.lexRemarksRow.domain false Rows.lexRemarksRow.laid) (((OpenSpec.ofChange Rows.lexRemarksSpec).at F).post enc Tryd.prog Tryd.f7 false true false false) := by
  refine returnsInHanded_of_row (C := Tryd.checked) (s := OpenSpec.ofChange Rows.lexRemarksSpec) own started (by kernel_rfl) Tryd.func7
    (witness_row_atRef (enc := enc) (C := Tryd.checked) false ({ World.holding Tryd.prog os ⟨#[.cells #[.string ⟨#[118, 97, 108, 117, 101, 32, 111, 117, 116, 32, 111, 102, 32, 114, 97, 110, 103, 101]⟩] 81, .cells #[.string ⟨#[105, 110, 118, 97, 108, 105, 100, 32, 115, 121, 110, 116, 97, 120]⟩] 81], #[], []⟩ with heap := (((((((((((World.holding Tryd.prog os ⟨#[.cells #[.string ⟨#[118, 97, 108, 117, 101, 32, 111, 117, 116, 32, 111, 102, 32, 114, 97, 110, 103, 101]⟩] 81, .cells #[.string ⟨#[105, 110, 118, 97, 108, 105, 100, 32, 115, 121, 110, 116, 97, 120]⟩] 81], #[], []⟩).heap).modify 6 fun | .cells _ t frozen => .cells (#[.int .u8 0, .int .u8 1, .int .u8 28, .int .u8 2, .int .u8 29, .int .u8 14, .int .u8 24, .int .u8 3, .int .u8 30, .int .u8 22, .int .u8 20, .int .u8 15, .int .u8 25, .int .u8 17, .int .u8 4, .int .u8 8, .int .u8 31, .int .u8 27, .int .u8 13, .int .u8 23, .int .u8 21, .int .u8 19, .int .u8 16, .int .u8 7, .int .u8 26, .int .u8 12, .int .u8 18, .int .u8 6, .int .u8 11, .int .u8 5, .int .u8 10, .int .u8 9]) t frozen | o => o)).modify 7 fun | .cells _ t frozen => .cells (#[.int .u8 0, .int .u8 1, .int .u8 56, .int .u8 2, .int .u8 57, .int .u8 49, .int .u8 28, .int .u8 3, .int .u8 61, .int .u8 58, .int .u8 42, .int .u8 50, .int .u8 38, .int .u8 29, .int .u8 17, .int .u8 4, .int .u8 62, .int .u8 47, .int .u8 59, .int .u8 36, .int .u8 45, .int .u8 43, .int .u8 51, .int .u8 22, .int .u8 53, .int .u8 39, .int .u8 33, .int .u8 30, .int .u8 24, .int .u8 18, .int .u8 12, .int .u8 5, .int .u8 63, .int .u8 55, .int .u8 48, .int .u8 27, .int .u8 60, .int .u8 41, .int .u8 37, .int .u8 16, .int .u8 46, .int .u8 35, .int .u8 44, .int .u8 21, .int .u8 52, .int .u8 32, .int .u8 23, .int .u8 11, .int .u8 54, .int .u8 26, .int .u8 40, .int .u8 15, .int .u8 34, .int .u8 20, .int .u8 31, .int .u8 10, .int .u8 25, .int .u8 14, .int .u8 19, .int .u8 9, .int .u8 13, .int .u8 8, .int .u8 7, .int .u8 6]) t frozen | o => o)).modify 5 fun | .cells _ t frozen => .cells (#[.int .u64 1, .int .u64 10, .int .u64 100, .int .u64 1000, .int .u64 10000, .int .u64 100000, .int .u64 1000000, .int .u64 10000000, .int .u64 100000000, .int .u64 1000000000, .int .u64 10000000000, .int .u64 100000000000, .int .u64 1000000000000, .int .u64 10000000000000, .int .u64 100000000000000, .int .u64 1000000000000000, .int .u64 10000000000000000, .int .u64 100000000000000000, .int .u64 1000000000000000000, .int .u64 10000000000000000000]) t frozen | o => o)).modify 4 fun | .cells _ t frozen => .cells (#[.iface 79 (.pointer (some ⟨13, 0, none⟩))]) t frozen | o => o)).modify 3 fun | .cells _ t frozen => .cells (#[.iface 79 (.pointer (some ⟨14, 0, none⟩))]) t frozen | o => o) }) #[.string ⟨#[]⟩, .string ⟨#[]⟩, .string ⟨#[]⟩] rfl (by kernel_rfl) (by kernel_rfl) (by kernel_rfl) (wit_row os enc)) ?_
  intro W base args ds gs before hval hW _ _ _ hL _ _
  exact contract H enc W base args ds gs before hval hW hL

theorem said : Rows.LexRemarksSaid :=
  OpenClaim.holds_of_cond 7 Tryd.f7 rfl rfl rfl rfl rfl rfl rfl ⟨rfl, rfl, rfl, rfl, rfl⟩ rfl rfl rfl rfl rfl (by kernel_rfl) Tryd.func7 (by kernel_rfl)
    (of_decide_eq_true (by kernel_rfl)) (by unfold Func.isWrapper; first | (rw [if_pos (by decide +kernel)]; kernel_rfl) | (rw [if_neg (by decide +kernel)]; exact ⟨rfl, rfl⟩))
    (fun os started H enc _ F => by rw [OpenClaim.pre_eq_preRow]; exact lifted os started H enc F)

theorem plain (f : FuncId) (fn : Func) (hf : Tryd.pinned.checked.prog.funcNamed Rows.lexRemarksRow.func = some f) (hfn : Tryd.pinned.checked.prog.funcs[f]? = some fn) :
    true = Tryd.pinned.checked.prog.looks [] ∧ ∀ (j : Nat) t, fn.params[j]? = some t → Tryd.pinned.checked.prog.wantsStandIn t = false := by
  obtain rfl : f = 7 := Option.some.inj ((show Tryd.prog.funcNamed Rows.lexRemarksRow.func = some 7 by kernel_rfl).symm.trans hf) |>.symm
  obtain rfl : fn = Tryd.f7 := (Option.some.inj (Tryd.func7.symm.trans hfn)).symm
  refine ⟨by kernel_rfl, fun j t ht => ?_⟩
  rw [Tryd.params7] at ht
  have ht2 := Array.mem_of_getElem? ht
  simp only [List.mem_toArray, List.mem_cons, List.not_mem_nil, or_false] at ht2
  rcases ht2 with rfl | rfl | rfl
  · exact (show Tryd.prog.wantsStandIn 9 = false by kernel_rfl)
  · exact (show Tryd.prog.wantsStandIn 9 = false by kernel_rfl)
  · exact (show Tryd.prog.wantsStandIn 9 = false by kernel_rfl)

theorem proved : Rows.LexRemarksCardSaid :=
  Claim7.holds_tied_plain_at .later [] _ _ _ _ said (fun _ h => by cases h) (by kernel_rfl) (fun _ h => by cases h) lexRemarks_row_tie rfl ⟨rfl, rfl⟩ (by kernel_rfl) rfl plain (by kernel_rfl)
end Go.Proofs.YtigbhgkbjijmbaaDoor.lexRemarks
namespace Go.Proofs.YtigbhgkbjijmbaaDoor
theorem lexRemarks_holds : Rows.LexRemarksCardSaid := lexRemarks.proved
end Go.Proofs.YtigbhgkbjijmbaaDoor
