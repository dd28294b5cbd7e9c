/-
  ParseBlanks: with more blanks and lines between the words the declarations are the same, but for places.
-/
import Derived.Test.YtbfkaanmbdekfaaDoorCards
import Derived.Test.YtbfkaanmbdekfaaDoorTie
import Derived.WalkKit
import Derived.ProofKit
import Derived.OpenShut
import Derived.ShutString
import Derived.SizedLaws
import Derived.Below
import Derived.ChangeOld
import Derived.Lib.LaidIn
import Derived.Lib.LaidU8T
import Derived.Deep.DeepHandedRow
import Derived.Deep.DeepWitnessRowRef
import Derived.Deep.RegionWith
import Derived.Deep.RegionLaw
import Derived.Deep.DeepCutAuto
import Derived.Deep.RegionHeldLaw
import Derived.WalkSmall
import Derived.Stop.LaidErr
import Derived.Deep.DeepLaidRun
import Derived.Test.YtbfkaanmbdekfaaDoorJnS
import Derived.Test.YtbfkaanmbdekfaaDoorBlM
namespace Go.Proofs.YtbfkaanmbdekfaaDoor.parseBlanks
open Go.Shelf
open Go.ChangeShapes Go.WideShapes Go.ChangeAt Go.RowKit
open Go.ChangeMaps (open_string shut_string)
set_option linter.unusedVariables false

theorem own : ownKnob Tryd.prog.godebug = none := by kernel_rfl
theorem laidOut : laidOutB Tryd.prog = true := by kernel_rfl

theorem star : "*" ++ "errors.errorString" = "*errors.errorString" := by decide
theorem rowE (u : TypeId) (h : Tryd.prog.typeName? 3 u = some "*errors.errorString") : u = 113 :=
  typeName_ptr_named (nm := "errors.errorString") (by rw [star]; kernel_rfl) (by kernel_rfl) (by decide) u (by rw [star]; exact h)
theorem cellsE : Tryd.prog.cellsOf 115 = 1 := by kernel_rfl
theorem cellsS : Tryd.prog.cellsOf 9 = 1 := by kernel_rfl
theorem gE0 : Tryd.prog.globalNamed "strconv.ErrSyntax" = some 1 := by kernel_rfl
theorem gT0 : (Tryd.prog.globals[1]?).map (·.type) = some 88 := by kernel_rfl
theorem gE1 : Tryd.prog.globalNamed "strconv.ErrRange" = some 2 := by kernel_rfl
theorem gT1 : (Tryd.prog.globals[2]?).map (·.type) = some 88 := by kernel_rfl
theorem wide_take (l : List UInt8) (k : Nat) (c : UInt8) (h : l[k]? = some c) : wideL (l.take (k + 1)) = wideL (l.take k) ++ wideB c := by
  rw [List.take_add_one, h]; unfold wideL; rw [List.flatMap_append]; simp
theorem ext_one (s : ByteArray) (k : Nat) (h : k < s.size) : (s.extract k (k + 1)).data.toList = [s[k]'h] := by
  rw [ByteArray.data_extract, Array.toList_extract, List.extract_eq_take_drop]
  have h1 := at_data s k h
  obtain ⟨hk, e⟩ := List.getElem?_eq_some_iff.1 h1
  rw [List.drop_eq_getElem_cons hk, e]
  simp
theorem ext_size (s : ByteArray) (k : Nat) (h : k < s.size) : (s.extract k (k + 1)).size = 1 := by
  rw [ByteArray.size_extract]; omega
theorem app_dataB (a b : ByteArray) : (a ++ b).data.toList = a.data.toList ++ b.data.toList := by
  rw [ByteArray.data_append]; simp
theorem byte_ne (c : UInt8) (n : Nat) (hn : n < 256) (h : c ≠ UInt8.ofNat n) : ((c.toNat : Int) == (n : Int)) = false := by
  rw [beq_eq_false_iff_ne]
  intro e
  apply h
  apply UInt8.toNat_inj.1
  rw [UInt8.toNat_ofNat_of_lt' hn]
  omega
set_option maxHeartbeats 4000000 in
set_option maxRecDepth 20000 in
theorem walk (s0 : ByteArray) (w : World) (hT : Errs w) (w0 : s0.size ≤ 9223372036854775807) :
    Calls Tryd.prog 3 #[.string s0] w fun e w' => e = .returned (.bool true) ∧ Below w.heap.size w w' := by
  have hA := fun W (hTW : Errs W) => awake_any W hTW
  have hS0 : 0 ≤ (s0.size : Int) := by omega
  by_cases h5 : s0.size ≤ 5000
  case neg =>
    have h5' : (5000 : Int) < (s0.size : Int) := by omega
    go_enter Tryd.func3, Tryd.ntmps3
    go_wp2_with fail
    refine (hA w hT).mono ?_
    rintro e w1 ⟨rfl, hb1⟩
    have hT1 := errs_below hT hb1
    go_wp2_with fail
    refine (hA w1 hT1).mono ?_
    rintro e w2 ⟨rfl, hb2⟩
    go_wp2_with fail
    go_ret
    exact ⟨rfl, hb1.trans (hb2.mono hb1.size)⟩
  have h5' : ¬ (5000 : Int) < (s0.size : Int) := by omega
  have HL0 := Lib.hid (len_data s0)
  go_enter Tryd.func3, Tryd.ntmps3
  go_wp2_with fail
  refine (hA w hT).mono ?_
  rintro e v1 ⟨rfl, hb1⟩
  have hT1 := errs_below hT hb1
  clear hA
  go_wp2_with fail
  go_loop [3, 4] (fun tt i => ∃ (k : Nat) (T : ByteArray), k ≤ s0.size ∧ i = .int .i64 k ∧ tt = .string T ∧ T.data.toList = wideL (s0.data.toList.take k) ∧ (∀ b ∈ s0.data.toList.take k, b ≠ 47) ∧ T.size ≤ 4 * k) (fun _ i => s0.size - (intOf i).toNat)
  case atStart => exact ⟨0, ⟨#[]⟩, by omega, rfl, rfl, rfl, by simp, by decide⟩
  case round =>
    obtain ⟨k, T, hk, rfl, rfl, hTd, hno, hTs⟩ := hrel
    have HTD := Lib.hid hTd
    have HNO := Lib.hid hno
    clear hTd hno
    by_cases hlt : k < s0.size
    · have hk0 : (0 : Int) ≤ (k : Int) := by omega
      have hk1 : (k : Int) < (s0.size : Int) := by omega
      by_cases h47 : s0[k]'hlt = 47
      · have hb47 : (((s0[k]'hlt).toNat : Int) == 47) = true := by rw [h47]; rfl
        clear h47
        go_wp2_with fail
        go_ret
        exact ⟨rfl, hb1⟩
      · have hb47 : (((s0[k]'hlt).toNat : Int) == 47) = false := byte_ne _ 47 (by decide) h47
        have HNX : Hid (∀ x ∈ s0.data.toList.take (k + 1), x ≠ 47) := by
          intro x hx
          rw [List.take_add_one, at_data s0 k hlt] at hx
          rcases List.mem_append.1 hx with hx | hx
          · exact HNO.out x hx
          · have : x = s0[k]'hlt := by simpa using hx
            rw [this]; exact h47
        have HWT := Lib.hid (wide_take s0.data.toList k _ (at_data s0 k hlt))
        have HX1 := Lib.hid (ext_one s0 k hlt)
        have hxs := ext_size s0 k hlt
        have hsl : ∀ W, (Instr.slice 9 (.string s0) (some (.int .i64 (k : Int))) (some (.int .i64 ((k : Int) + 1))) none).run Tryd.prog W = .ok (.string (s0.extract k (k + 1))) W := fun W => by
          rw [run_slice_string (P := Tryd.prog) W 9 s0 .i64 .i64 (k : Int) ((k : Int) + 1) Tryd.underlying9 (by omega) (by omega) (by omega)]
          congr 3
        clear h47 HNO
        by_cases hsp : spB (s0[k]'hlt) = true
        · have e1 : (ByteArray.mk #[32]).size = 1 := rfl
          have e2 : (ByteArray.mk #[10, 9]).size = 2 := rfl
          have hz1 : (T ++ (⟨#[32]⟩ : ByteArray)).size ≤ 4 * k + 1 := by rw [ByteArray.size_append, e1]; omega
          have hz2 : (T ++ (⟨#[32]⟩ : ByteArray) ++ s0.extract k (k + 1)).size ≤ 4 * k + 2 := by rw [ByteArray.size_append, hxs]; omega
          have hz3 : (T ++ (⟨#[32]⟩ : ByteArray) ++ s0.extract k (k + 1) ++ (⟨#[10, 9]⟩ : ByteArray)).size ≤ 4 * (k + 1) := by rw [ByteArray.size_append, e2]; omega
          have ha1 : ∀ W : World, (Op.stringOp .add T ⟨#[32]⟩).run Tryd.prog W = .ok (.string (T ++ ⟨#[32]⟩)) W := fun W => run_string_add_sum W _ _ (by rw [e1]; omega)
          have ha2 : ∀ W : World, (Op.stringOp .add (T ++ ⟨#[32]⟩) (s0.extract k (k + 1))).run Tryd.prog W = .ok (.string (T ++ ⟨#[32]⟩ ++ s0.extract k (k + 1))) W := fun W => run_string_add_sum W _ _ (by rw [hxs]; omega)
          have ha3 : ∀ W : World, (Op.stringOp .add (T ++ ⟨#[32]⟩ ++ s0.extract k (k + 1)) ⟨#[10, 9]⟩).run Tryd.prog W = .ok (.string (T ++ ⟨#[32]⟩ ++ s0.extract k (k + 1) ++ ⟨#[10, 9]⟩)) W := fun W => run_string_add_sum W _ _ (by rw [e2]; omega)
          have HFT : Hid ((T ++ (⟨#[32]⟩ : ByteArray) ++ s0.extract k (k + 1) ++ (⟨#[10, 9]⟩ : ByteArray)).data.toList = wideL (s0.data.toList.take (k + 1))) := by
            refine (?_ : _ = _)
            rw [app_dataB, app_dataB, app_dataB, HTD.out, HX1.out, HWT.out]
            unfold wideB
            rw [if_pos hsp]
            simp
          generalize T ++ (⟨#[32]⟩ : ByteArray) ++ s0.extract k (k + 1) ++ (⟨#[10, 9]⟩ : ByteArray) = T3 at *
          generalize T ++ (⟨#[32]⟩ : ByteArray) ++ s0.extract k (k + 1) = T2 at *
          generalize T ++ (⟨#[32]⟩ : ByteArray) = T1 at *
          generalize s0.extract k (k + 1) = X at *
          clear e1 e2 HWT HX1 HTD hz1 hz2 hxs
          rcases (spB_iff _).1 hsp with h | h | h | h | h
          · have b0 : (((s0[k]'hlt).toNat : Int) == 32) = true := by rw [h]; decide
            clear h hsp
            go_wp2_with fail
            go_round
            case rel => exact ⟨k + 1, T3, by omega, by go_num, rfl, HFT.out, HNX.out, hz3⟩
            case measure => simp [intOf]; omega
          · have b0 : (((s0[k]'hlt).toNat : Int) == 32) = false := by rw [h]; decide
            have b1 : (((s0[k]'hlt).toNat : Int) == 123) = true := by rw [h]; decide
            clear h hsp
            go_wp2_with fail
            go_round
            case rel => exact ⟨k + 1, T3, by omega, by go_num, rfl, HFT.out, HNX.out, hz3⟩
            case measure => simp [intOf]; omega
          · have b0 : (((s0[k]'hlt).toNat : Int) == 32) = false := by rw [h]; decide
            have b1 : (((s0[k]'hlt).toNat : Int) == 123) = false := by rw [h]; decide
            have b2 : (((s0[k]'hlt).toNat : Int) == 59) = true := by rw [h]; decide
            clear h hsp
            go_wp2_with fail
            go_round
            case rel => exact ⟨k + 1, T3, by omega, by go_num, rfl, HFT.out, HNX.out, hz3⟩
            case measure => simp [intOf]; omega
          · have b0 : (((s0[k]'hlt).toNat : Int) == 32) = false := by rw [h]; decide
            have b1 : (((s0[k]'hlt).toNat : Int) == 123) = false := by rw [h]; decide
            have b2 : (((s0[k]'hlt).toNat : Int) == 59) = false := by rw [h]; decide
            have b3 : (((s0[k]'hlt).toNat : Int) == 125) = true := by rw [h]; decide
            clear h hsp
            go_wp2_with fail
            go_round
            case rel => exact ⟨k + 1, T3, by omega, by go_num, rfl, HFT.out, HNX.out, hz3⟩
            case measure => simp [intOf]; omega
          · have b0 : (((s0[k]'hlt).toNat : Int) == 32) = false := by rw [h]; decide
            have b1 : (((s0[k]'hlt).toNat : Int) == 123) = false := by rw [h]; decide
            have b2 : (((s0[k]'hlt).toNat : Int) == 59) = false := by rw [h]; decide
            have b3 : (((s0[k]'hlt).toNat : Int) == 125) = false := by rw [h]; decide
            have b4 : (((s0[k]'hlt).toNat : Int) == 61) = true := by rw [h]; decide
            clear h hsp
            go_wp2_with fail
            go_round
            case rel => exact ⟨k + 1, T3, by omega, by go_num, rfl, HFT.out, HNX.out, hz3⟩
            case measure => simp [intOf]; omega
        · have hns : ¬ (s0[k]'hlt = 32 ∨ s0[k]'hlt = 123 ∨ s0[k]'hlt = 59 ∨ s0[k]'hlt = 125 ∨ s0[k]'hlt = 61) := fun h => hsp ((spB_iff _).2 h)
          have b0 : (((s0[k]'hlt).toNat : Int) == 32) = false := byte_ne _ 32 (by decide) (fun h => hns (.inl h))
          have b1 : (((s0[k]'hlt).toNat : Int) == 123) = false := byte_ne _ 123 (by decide) (fun h => hns (.inr (.inl h)))
          have b2 : (((s0[k]'hlt).toNat : Int) == 59) = false := byte_ne _ 59 (by decide) (fun h => hns (.inr (.inr (.inl h))))
          have b3 : (((s0[k]'hlt).toNat : Int) == 125) = false := byte_ne _ 125 (by decide) (fun h => hns (.inr (.inr (.inr (.inl h)))))
          have b4 : (((s0[k]'hlt).toNat : Int) == 61) = false := byte_ne _ 61 (by decide) (fun h => hns (.inr (.inr (.inr (.inr h)))))
          have hz1 : (T ++ s0.extract k (k + 1)).size ≤ 4 * (k + 1) := by rw [ByteArray.size_append, hxs]; omega
          have ha1 : ∀ W : World, (Op.stringOp .add T (s0.extract k (k + 1))).run Tryd.prog W = .ok (.string (T ++ s0.extract k (k + 1))) W := fun W => run_string_add_sum W _ _ (by rw [hxs]; omega)
          have HFT : Hid ((T ++ s0.extract k (k + 1)).data.toList = wideL (s0.data.toList.take (k + 1))) := by
            refine (?_ : _ = _)
            rw [app_dataB, HTD.out, HX1.out, HWT.out]
            unfold wideB
            rw [if_neg hsp]
          generalize T ++ s0.extract k (k + 1) = T1 at *
          generalize s0.extract k (k + 1) = X at *
          clear hns hsp HWT HX1 HTD hxs
          go_wp2_with fail
          go_round
          case rel => exact ⟨k + 1, T1, by omega, by go_num, rfl, HFT.out, HNX.out, hz1⟩
          case measure => simp [intOf]; omega
    · have hkn : ¬ (k : Int) < (s0.size : Int) := by omega
      have hT0 : T.data.toList = wideL s0.data.toList := by rw [HTD.out, List.take_of_length_le (by rw [HL0.out]; omega)]
      have hn47 : ∀ b ∈ s0.data.toList, b ≠ 47 := fun b hb => HNO.out b (by rw [List.take_of_length_le (by rw [HL0.out]; omega)]; exact hb)
      obtain ⟨heq, hdl⟩ := file_wide s0.data.toList (by rw [HL0.out]; exact h5) hn47
      have hF0 := fun W (hTW : Errs W) => fileD_any s0 W hTW w0
      have hF1 := fun W (hTW : Errs W) => fileD_any T W hTW (by omega)
      rw [hT0] at hF1
      have HST := Lib.hid (hdl.strip 10)
      have f0 := fileL_fit s0.data.toList (words_few _) 10
      have f1 := fileL_fit (wideL s0.data.toList) (words_few _) 10
      have t0 := fileL_txt s0.data.toList 10
      have t1 := fileL_txt (wideL s0.data.toList) 10
      unfold GAns at hF0 hF1
      rw [heq] at hF1
      clear heq hdl hn47 hT0 HTD HNO HL0
      generalize fileL (wideL s0.data.toList) = FB at *
      generalize fileL s0.data.toList = FA at *
      obtain ⟨da, ⟨PL0, PC0⟩, ea⟩ := FA
      obtain ⟨db, ⟨PL1, PC1⟩, eb⟩ := FB
      dsimp only at hF0 hF1 f0 f1 t0 t1 HST
      obtain ⟨na, hna⟩ : ∃ n, da.length = n := ⟨_, rfl⟩
      obtain ⟨nb, hnb⟩ : ∃ n, db.length = n := ⟨_, rfl⟩
      have hSA := fun (v : Value) (W : World) (hW : HeldD 10 W (fun b => b < W.heap.size) v da) => strip_any 10 da v W f0 t0 hW
      have hSB := fun (v : Value) (W : World) (hW : HeldD 10 W (fun b => b < W.heap.size) v db) => strip_any 10 db v W f1 t1 hW
      unfold StAns at hSA hSB
      have HFA := Lib.hid (strip_fit 10 da f0)
      have HFB := Lib.hid (strip_fit 10 db f1)
      rw [hna] at hF0 hSA
      rw [hnb] at hF1 hSB
      clear f0 f1 t0 t1 hna hnb
      go_wp2_with fail
      refine (hF0 v1 hT1).mono ?_
      rintro e v2 ⟨⟨ad2, c2, pl2, pc2, rfl, hH2, hp2⟩, hb2⟩
      have hb12 := hb1.trans (hb2.mono hb1.size)
      have HB2 := Lib.hid (hb12.alloc hb12.size (.cells #[.int .i64 pl2, .int .i64 pc2] 25))
      have HT2 : Hid (Errs (v2.alloc (.cells #[.int .i64 pl2, .int .i64 pc2] 25))) := errs_below (errs_below hT1 hb2) ((Below.refl _ v2).alloc (Nat.le_refl _) _)
      have HH2 := Lib.hid (HeldD.more (S' := fun b => b < (v2.alloc (.cells #[.int .i64 pl2, .int .i64 pc2] 25)).heap.size) (fun b hb => by simp; omega) (hH2.old (w' := v2.alloc (.cells #[.int .i64 pl2, .int .i64 pc2] 25)) (fun b hb => alloc_heap_old _ _ _ hb)))
      clear hF0 hb1 hb2 hb12 hH2 hp2 hT1 hT
      go_upto_region 13 with fail
      generalize v2.alloc (.cells #[.int .i64 pl2, .int .i64 pc2] 25) = V2 at *
      go_wp2_with fail
      refine (hF1 V2 HT2.out).mono ?_
      rintro e v3 ⟨⟨ad3, c3, pl3, pc3, rfl, hH3, hp3⟩, hb3⟩
      have HB3 := Lib.hid ((HB2.out.trans (hb3.mono HB2.out.size)).alloc (HB2.out.trans (hb3.mono HB2.out.size)).size (.cells #[.int .i64 pl3, .int .i64 pc3] 25))
      have hz3 := hb3.size
      have HHA : Hid (HeldD 10 (v3.alloc (.cells #[.int .i64 pl3, .int .i64 pc3] 25)) (fun b => b < (v3.alloc (.cells #[.int .i64 pl3, .int .i64 pc3] 25)).heap.size) (.slice ad2 na c2) da) := by
        refine (?_ : HeldD _ _ _ _ _)
        refine HeldD.more (S := fun b => b < V2.heap.size) (fun b hb => by simp; omega) (HeldD.old (w := V2) (fun b hb => ?_) HH2.out)
        rw [alloc_heap_old _ _ _ (by omega), hb3.block b hb]
      have HHB := Lib.hid (HeldD.more (S' := fun b => b < (v3.alloc (.cells #[.int .i64 pl3, .int .i64 pc3] 25)).heap.size) (fun b hb => by simp; omega) (hH3.old (w' := v3.alloc (.cells #[.int .i64 pl3, .int .i64 pc3] 25)) (fun b hb => alloc_heap_old _ _ _ hb)))
      clear hF1 hb3 hH3 hp3 HH2 HT2 HB2
      go_upto_region 14 with fail
      generalize v3.alloc (.cells #[.int .i64 pl3, .int .i64 pc3] 25) = V3 at *
      have hee : (ea == ea) = true := by simp
      go_wp2_with fail
      refine (hSA _ V3 HHA.out).mono ?_
      rintro e w5 ⟨a5, k5, rfl, hH5, hb5, rfl, L5, ho5, hr5⟩
      have hz5 := hb5.size
      have HH5 := Lib.hid hH5
      have HB5 := Lib.hid hb5
      have HHB5 := Lib.hid (HeldD.more (S := fun b => b < V3.heap.size) (S' := fun b => b < w5.heap.size) (fun b hb => by omega) (HeldD.old (w := V3) (w' := w5) (fun b hb => hb5.block b hb) HHB.out))
      clear hSA hH5 hb5 hr5 ho5 HHA HHB
      go_wp2_with fail
      refine (hSB _ w5 HHB5.out).mono ?_
      rintro e w6 ⟨a6, k6, rfl, hH6, hb6, rfl, L6, ho6, hr6⟩
      have hz6 := hb6.size
      have HC : Hid (Calls Tryd.prog 8 #[.slice (some ⟨V3.heap.size, 0, none⟩) na k5, .slice (some ⟨w5.heap.size, 0, none⟩) nb k6] w6 fun e w' => e = .returned (.bool true) ∧ Below w.heap.size w w') := by
        have hww := HB3.out.size
        have g5 : HeldD 10 w6 (fun b => b < w6.heap.size) (.slice (some ⟨V3.heap.size, 0, none⟩) na k5) (stripL 10 da) :=
          HeldD.more (S := fun b => V3.heap.size ≤ b ∧ b < w5.heap.size) (fun b hb => by have := hb.2; omega) (HeldD.old (w := w5) (fun b hb => hb6.block b hb.2) HH5.out)
        have g6 : HeldD 10 w6 (fun b => b < w6.heap.size) (.slice (some ⟨w5.heap.size, 0, none⟩) nb k6) (stripL 10 db) :=
          HeldD.more (S := fun b => w5.heap.size ≤ b ∧ b < w6.heap.size) (fun b hb => hb.2) hH6
        refine (sameP_any 10 _ _ _ _ w6 HFA.out HFB.out g5 g6).mono ?_
        rintro e w9 ⟨b, rfl, hbi, hbw⟩
        have hb : b = true := hbi.2 HST.out.symm
        subst hb
        have hb8 : Below w.heap.size w w6 := (HB3.out.trans (HB5.out.mono hww)).trans (hb6.mono (by omega))
        exact ⟨rfl, hb8.trans (hbw.mono hb8.size)⟩
      clear hSB hH6 hb6 hr6 ho6 HHB5 HH5 HB5 HB3
      go_wp2_with fail
      refine HC.out.mono ?_
      rintro e w9 ⟨rfl, hbw⟩
      go_wp2_with fail
      go_ret
      exact ⟨rfl, hbw⟩

set_option maxRecDepth 100000 in
theorem contract (H : Type) (enc : TypeId × Value → H) (W : World) (base : Nat) (args : Array Value) (ds gs : List (DataW H)) (before : List MemPlace)
    (hval0 : ∀ (j : Nat) t v, Tryd.f3.params[j]? = some t → args[j]? = some v → Value.okWide Tryd.prog W .any base t v)
    (hW : DataW.Whole enc Tryd.prog Tryd.f3.params.toList Rows.parseBlanksSpec.vars false W args.toList ds gs before) (hL : laidMet Tryd.prog Rows.parseBlanksRow.laid W) :
    Calls Tryd.prog 3 args W fun e W' => ∃ v, e = .returned v ∧ Rows.parseBlanksSpec.post enc Tryd.prog Tryd.f3 false true false false W args v W' := by
  have hval : ∀ (j : Nat) t v, Tryd.f3.params[j]? = some t → args[j]? = some v → Value.okWide Tryd.prog W .any base t v := hval0
  obtain ⟨aE0, sE0, hvE0, -, -, -⟩ := laid_sentinel (hL.tail.tail.tail.tail) gE0 gT0 Tryd.underlying88 rowE Tryd.underlying113 Tryd.underlying115 rfl rfl Tryd.underlying9 cellsE cellsS
  obtain ⟨aE1, sE1, hvE1, -, -, -⟩ := laid_sentinel (hL.tail.tail.tail) gE1 gT1 Tryd.underlying88 rowE Tryd.underlying113 Tryd.underlying115 rfl rfl Tryd.underlying9 cellsE cellsS
  have htE : Errs W := ⟨⟨_, (show W.cell? ⟨1, 0, none⟩ = _ by have h0 := World.var?_cell gE0 hvE0 0; simpa using h0), Or.inr ⟨_, _, rfl⟩⟩, ⟨_, (show W.cell? ⟨2, 0, none⟩ = _ by have h0 := World.var?_cell gE1 hvE1 0; simpa using h0), Or.inr ⟨_, _, rfl⟩⟩⟩
  have htab : Errs W := htE
  have hW' := hW
  obtain ⟨p, q, hA0, hV, rfl, hfz, hnd⟩ := hW
  have hA : DataW.TrodAll enc Tryd.prog W 0 (fun _ => true) true Tryd.f3.params.toList args.toList ds p := hA0
  rw [Tryd.params3] at hA hval
  obtain ⟨v0, vs0, d0, ds0, p0, q0, hargs, rfl, rfl, h0, r0⟩ := trodAll_cons hA
  obtain ⟨rfl, rfl, rfl⟩ := trodAll_nil r0
  obtain rfl : args = #[v0] := by cases args; simp_all
  obtain ⟨rfl, rfl⟩ := trodVars_none hV
  have k0 := h0
  have lt0 : ∀ x ∈ p0, x.block < W.heap.size := by obtain ⟨m, hm⟩ := k0; exact DataW.trod_lt m _ _ _ hm
  obtain ⟨s0, rfl, _, _, ws0⟩ := open_string Tryd.underlying9 (hval 0 9 v0 rfl rfl) h0
  have w0 : s0.size ≤ 9223372036854775807 := by unfold maxLen at ws0; omega
  clear hA0 hval0
  refine (walk s0 W htab w0).mono fun e W' ⟨he, bel⟩ => ?_
  subst he
  exact ⟨_, rfl, _, _, _, [], _, [], hW', trodAll_mk1 (shut_bool Tryd.underlying4 _), (trodAll_cons_mk (Below.trod laidOut (by kernel_rfl) (of_decide_eq_true (by kernel_rfl)) k0 bel lt0) trodAll_mk0), rfl, bel.frame _, fun h => by cases h⟩

set_option maxRecDepth 100000 in
set_option maxHeartbeats 2000000 in
theorem wit_row (os : Os) {H : Type} (enc : TypeId × Value → H) :
    (OpenSpec.ofChange Rows.parseBlanksSpec).preRow enc Tryd.prog Tryd.f3 Rows.parseBlanksRow.domain false Rows.parseBlanksRow.laid (({ World.holding Tryd.prog os ⟨#[.cells #[.string ⟨#[118, 97, 108, 117, 101, 32, 111, 117, 116, 32, 111, 102, 32, 114, 97, 110, 103, 101]⟩] 115, .cells #[.string ⟨#[105, 110, 118, 97, 108, 105, 100, 32, 115, 121, 110, 116, 97, 120]⟩] 115], #[], []⟩ with heap := (((((((((((World.holding Tryd.prog os ⟨#[.cells #[.string ⟨#[118, 97, 108, 117, 101, 32, 111, 117, 116, 32, 111, 102, 32, 114, 97, 110, 103, 101]⟩] 115, .cells #[.string ⟨#[105, 110, 118, 97, 108, 105, 100, 32, 115, 121, 110, 116, 97, 120]⟩] 115], #[], []⟩).heap).modify 4 fun | .cells _ t frozen => .cells (#[.int .u8 0, .int .u8 1, .int .u8 28, .int .u8 2, .int .u8 29, .int .u8 14, .int .u8 24, .int .u8 3, .int .u8 30, .int .u8 22, .int .u8 20, .int .u8 15, .int .u8 25, .int .u8 17, .int .u8 4, .int .u8 8, .int .u8 31, .int .u8 27, .int .u8 13, .int .u8 23, .int .u8 21, .int .u8 19, .int .u8 16, .int .u8 7, .int .u8 26, .int .u8 12, .int .u8 18, .int .u8 6, .int .u8 11, .int .u8 5, .int .u8 10, .int .u8 9]) t frozen | o => o)).modify 5 fun | .cells _ t frozen => .cells (#[.int .u8 0, .int .u8 1, .int .u8 56, .int .u8 2, .int .u8 57, .int .u8 49, .int .u8 28, .int .u8 3, .int .u8 61, .int .u8 58, .int .u8 42, .int .u8 50, .int .u8 38, .int .u8 29, .int .u8 17, .int .u8 4, .int .u8 62, .int .u8 47, .int .u8 59, .int .u8 36, .int .u8 45, .int .u8 43, .int .u8 51, .int .u8 22, .int .u8 53, .int .u8 39, .int .u8 33, .int .u8 30, .int .u8 24, .int .u8 18, .int .u8 12, .int .u8 5, .int .u8 63, .int .u8 55, .int .u8 48, .int .u8 27, .int .u8 60, .int .u8 41, .int .u8 37, .int .u8 16, .int .u8 46, .int .u8 35, .int .u8 44, .int .u8 21, .int .u8 52, .int .u8 32, .int .u8 23, .int .u8 11, .int .u8 54, .int .u8 26, .int .u8 40, .int .u8 15, .int .u8 34, .int .u8 20, .int .u8 31, .int .u8 10, .int .u8 25, .int .u8 14, .int .u8 19, .int .u8 9, .int .u8 13, .int .u8 8, .int .u8 7, .int .u8 6]) t frozen | o => o)).modify 3 fun | .cells _ t frozen => .cells (#[.int .u64 1, .int .u64 10, .int .u64 100, .int .u64 1000, .int .u64 10000, .int .u64 100000, .int .u64 1000000, .int .u64 10000000, .int .u64 100000000, .int .u64 1000000000, .int .u64 10000000000, .int .u64 100000000000, .int .u64 1000000000000, .int .u64 10000000000000, .int .u64 100000000000000, .int .u64 1000000000000000, .int .u64 10000000000000000, .int .u64 100000000000000000, .int .u64 1000000000000000000, .int .u64 10000000000000000000]) t frozen | o => o)).modify 2 fun | .cells _ t frozen => .cells (#[.iface 113 (.pointer (some ⟨11, 0, none⟩))]) t frozen | o => o)).modify 1 fun | .cells _ t frozen => .cells (#[.iface 113 (.pointer (some ⟨12, 0, none⟩))]) t frozen | o => o) } : World).forCall (fun _ _ => 0) ⟨#[], #[.string ⟨#[]⟩], []⟩).memory #[.string ⟨#[]⟩] := by
  have hl : laidMet Tryd.prog Rows.parseBlanksRow.laid (({ World.holding Tryd.prog os ⟨#[.cells #[.string ⟨#[118, 97, 108, 117, 101, 32, 111, 117, 116, 32, 111, 102, 32, 114, 97, 110, 103, 101]⟩] 115, .cells #[.string ⟨#[105, 110, 118, 97, 108, 105, 100, 32, 115, 121, 110, 116, 97, 120]⟩] 115], #[], []⟩ with heap := (((((((((((World.holding Tryd.prog os ⟨#[.cells #[.string ⟨#[118, 97, 108, 117, 101, 32, 111, 117, 116, 32, 111, 102, 32, 114, 97, 110, 103, 101]⟩] 115, .cells #[.string ⟨#[105, 110, 118, 97, 108, 105, 100, 32, 115, 121, 110, 116, 97, 120]⟩] 115], #[], []⟩).heap).modify 4 fun | .cells _ t frozen => .cells (#[.int .u8 0, .int .u8 1, .int .u8 28, .int .u8 2, .int .u8 29, .int .u8 14, .int .u8 24, .int .u8 3, .int .u8 30, .int .u8 22, .int .u8 20, .int .u8 15, .int .u8 25, .int .u8 17, .int .u8 4, .int .u8 8, .int .u8 31, .int .u8 27, .int .u8 13, .int .u8 23, .int .u8 21, .int .u8 19, .int .u8 16, .int .u8 7, .int .u8 26, .int .u8 12, .int .u8 18, .int .u8 6, .int .u8 11, .int .u8 5, .int .u8 10, .int .u8 9]) t frozen | o => o)).modify 5 fun | .cells _ t frozen => .cells (#[.int .u8 0, .int .u8 1, .int .u8 56, .int .u8 2, .int .u8 57, .int .u8 49, .int .u8 28, .int .u8 3, .int .u8 61, .int .u8 58, .int .u8 42, .int .u8 50, .int .u8 38, .int .u8 29, .int .u8 17, .int .u8 4, .int .u8 62, .int .u8 47, .int .u8 59, .int .u8 36, .int .u8 45, .int .u8 43, .int .u8 51, .int .u8 22, .int .u8 53, .int .u8 39, .int .u8 33, .int .u8 30, .int .u8 24, .int .u8 18, .int .u8 12, .int .u8 5, .int .u8 63, .int .u8 55, .int .u8 48, .int .u8 27, .int .u8 60, .int .u8 41, .int .u8 37, .int .u8 16, .int .u8 46, .int .u8 35, .int .u8 44, .int .u8 21, .int .u8 52, .int .u8 32, .int .u8 23, .int .u8 11, .int .u8 54, .int .u8 26, .int .u8 40, .int .u8 15, .int .u8 34, .int .u8 20, .int .u8 31, .int .u8 10, .int .u8 25, .int .u8 14, .int .u8 19, .int .u8 9, .int .u8 13, .int .u8 8, .int .u8 7, .int .u8 6]) t frozen | o => o)).modify 3 fun | .cells _ t frozen => .cells (#[.int .u64 1, .int .u64 10, .int .u64 100, .int .u64 1000, .int .u64 10000, .int .u64 100000, .int .u64 1000000, .int .u64 10000000, .int .u64 100000000, .int .u64 1000000000, .int .u64 10000000000, .int .u64 100000000000, .int .u64 1000000000000, .int .u64 10000000000000, .int .u64 100000000000000, .int .u64 1000000000000000, .int .u64 10000000000000000, .int .u64 100000000000000000, .int .u64 1000000000000000000, .int .u64 10000000000000000000]) t frozen | o => o)).modify 2 fun | .cells _ t frozen => .cells (#[.iface 113 (.pointer (some ⟨11, 0, none⟩))]) t frozen | o => o)).modify 1 fun | .cells _ t frozen => .cells (#[.iface 113 (.pointer (some ⟨12, 0, none⟩))]) t frozen | o => o) } : World).forCall (fun _ _ => 0) ⟨#[], #[.string ⟨#[]⟩], []⟩).memory :=
    (LaidIn.of_run (l := Rows.parseBlanksRow.laid) [4, 5, 3, 2, 11, 1, 12] 8 (by kernel_rfl) (by kernel_rfl) (by kernel_rfl) (by kernel_rfl)).met
  have hw : (DataW.whole enc Tryd.prog (({ World.holding Tryd.prog os ⟨#[.cells #[.string ⟨#[118, 97, 108, 117, 101, 32, 111, 117, 116, 32, 111, 102, 32, 114, 97, 110, 103, 101]⟩] 115, .cells #[.string ⟨#[105, 110, 118, 97, 108, 105, 100, 32, 115, 121, 110, 116, 97, 120]⟩] 115], #[], []⟩ with heap := (((((((((((World.holding Tryd.prog os ⟨#[.cells #[.string ⟨#[118, 97, 108, 117, 101, 32, 111, 117, 116, 32, 111, 102, 32, 114, 97, 110, 103, 101]⟩] 115, .cells #[.string ⟨#[105, 110, 118, 97, 108, 105, 100, 32, 115, 121, 110, 116, 97, 120]⟩] 115], #[], []⟩).heap).modify 4 fun | .cells _ t frozen => .cells (#[.int .u8 0, .int .u8 1, .int .u8 28, .int .u8 2, .int .u8 29, .int .u8 14, .int .u8 24, .int .u8 3, .int .u8 30, .int .u8 22, .int .u8 20, .int .u8 15, .int .u8 25, .int .u8 17, .int .u8 4, .int .u8 8, .int .u8 31, .int .u8 27, .int .u8 13, .int .u8 23, .int .u8 21, .int .u8 19, .int .u8 16, .int .u8 7, .int .u8 26, .int .u8 12, .int .u8 18, .int .u8 6, .int .u8 11, .int .u8 5, .int .u8 10, .int .u8 9]) t frozen | o => o)).modify 5 fun | .cells _ t frozen => .cells (#[.int .u8 0, .int .u8 1, .int .u8 56, .int .u8 2, .int .u8 57, .int .u8 49, .int .u8 28, .int .u8 3, .int .u8 61, .int .u8 58, .int .u8 42, .int .u8 50, .int .u8 38, .int .u8 29, .int .u8 17, .int .u8 4, .int .u8 62, .int .u8 47, .int .u8 59, .int .u8 36, .int .u8 45, .int .u8 43, .int .u8 51, .int .u8 22, .int .u8 53, .int .u8 39, .int .u8 33, .int .u8 30, .int .u8 24, .int .u8 18, .int .u8 12, .int .u8 5, .int .u8 63, .int .u8 55, .int .u8 48, .int .u8 27, .int .u8 60, .int .u8 41, .int .u8 37, .int .u8 16, .int .u8 46, .int .u8 35, .int .u8 44, .int .u8 21, .int .u8 52, .int .u8 32, .int .u8 23, .int .u8 11, .int .u8 54, .int .u8 26, .int .u8 40, .int .u8 15, .int .u8 34, .int .u8 20, .int .u8 31, .int .u8 10, .int .u8 25, .int .u8 14, .int .u8 19, .int .u8 9, .int .u8 13, .int .u8 8, .int .u8 7, .int .u8 6]) t frozen | o => o)).modify 3 fun | .cells _ t frozen => .cells (#[.int .u64 1, .int .u64 10, .int .u64 100, .int .u64 1000, .int .u64 10000, .int .u64 100000, .int .u64 1000000, .int .u64 10000000, .int .u64 100000000, .int .u64 1000000000, .int .u64 10000000000, .int .u64 100000000000, .int .u64 1000000000000, .int .u64 10000000000000, .int .u64 100000000000000, .int .u64 1000000000000000, .int .u64 10000000000000000, .int .u64 100000000000000000, .int .u64 1000000000000000000, .int .u64 10000000000000000000]) t frozen | o => o)).modify 2 fun | .cells _ t frozen => .cells (#[.iface 113 (.pointer (some ⟨11, 0, none⟩))]) t frozen | o => o)).modify 1 fun | .cells _ t frozen => .cells (#[.iface 113 (.pointer (some ⟨12, 0, none⟩))]) t frozen | o => o) } : World).forCall (fun _ _ => 0) ⟨#[], #[.string ⟨#[]⟩], []⟩).memory Tryd.f3.params.toList Rows.parseBlanksSpec.vars false (#[.string ⟨#[]⟩] : Array Value).toList 8).map (fun x => (x.1, x.2.1)) =
      some ([.lit (.string [])], []) := by kernel_rfl
  obtain ⟨⟨x1, x2, x3⟩, hx, hx1⟩ := Option.map_eq_some_iff.1 hw
  simp only [Prod.mk.injEq] at hx1
  obtain ⟨rfl, rfl⟩ := hx1
  exact OpenSpec.preRow_of_cond 8 hx (by kernel_rfl) (fun k hk => by cases hk) (by kernel_rfl) hl

set_option maxRecDepth 100000 in
set_option maxHeartbeats 2000000 in
theorem lifted (os : Os) (started : os.Started) (H : Type) (enc : TypeId × Value → H) (F : Stop.Interp) :
    ReturnsInHanded {} Tryd.checked os 3 .any ((OpenSpec.ofChange Rows.parseBlanksSpec).preRow enc Tryd.prog Tryd.f3 Rows.parseBlanksRow.domain false Rows.parseBlanksRow.laid) (((OpenSpec.ofChange Rows.parseBlanksSpec).at F).post enc Tryd.prog Tryd.f3 false true false false) := by
  refine returnsInHanded_of_row (C := Tryd.checked) (s := OpenSpec.ofChange Rows.parseBlanksSpec) own started (by kernel_rfl) Tryd.func3
    (witness_row_atRef (enc := enc) (C := Tryd.checked) false ({ World.holding Tryd.prog os ⟨#[.cells #[.string ⟨#[118, 97, 108, 117, 101, 32, 111, 117, 116, 32, 111, 102, 32, 114, 97, 110, 103, 101]⟩] 115, .cells #[.string ⟨#[105, 110, 118, 97, 108, 105, 100, 32, 115, 121, 110, 116, 97, 120]⟩] 115], #[], []⟩ with heap := (((((((((((World.holding Tryd.prog os ⟨#[.cells #[.string ⟨#[118, 97, 108, 117, 101, 32, 111, 117, 116, 32, 111, 102, 32, 114, 97, 110, 103, 101]⟩] 115, .cells #[.string ⟨#[105, 110, 118, 97, 108, 105, 100, 32, 115, 121, 110, 116, 97, 120]⟩] 115], #[], []⟩).heap).modify 4 fun | .cells _ t frozen => .cells (#[.int .u8 0, .int .u8 1, .int .u8 28, .int .u8 2, .int .u8 29, .int .u8 14, .int .u8 24, .int .u8 3, .int .u8 30, .int .u8 22, .int .u8 20, .int .u8 15, .int .u8 25, .int .u8 17, .int .u8 4, .int .u8 8, .int .u8 31, .int .u8 27, .int .u8 13, .int .u8 23, .int .u8 21, .int .u8 19, .int .u8 16, .int .u8 7, .int .u8 26, .int .u8 12, .int .u8 18, .int .u8 6, .int .u8 11, .int .u8 5, .int .u8 10, .int .u8 9]) t frozen | o => o)).modify 5 fun | .cells _ t frozen => .cells (#[.int .u8 0, .int .u8 1, .int .u8 56, .int .u8 2, .int .u8 57, .int .u8 49, .int .u8 28, .int .u8 3, .int .u8 61, .int .u8 58, .int .u8 42, .int .u8 50, .int .u8 38, .int .u8 29, .int .u8 17, .int .u8 4, .int .u8 62, .int .u8 47, .int .u8 59, .int .u8 36, .int .u8 45, .int .u8 43, .int .u8 51, .int .u8 22, .int .u8 53, .int .u8 39, .int .u8 33, .int .u8 30, .int .u8 24, .int .u8 18, .int .u8 12, .int .u8 5, .int .u8 63, .int .u8 55, .int .u8 48, .int .u8 27, .int .u8 60, .int .u8 41, .int .u8 37, .int .u8 16, .int .u8 46, .int .u8 35, .int .u8 44, .int .u8 21, .int .u8 52, .int .u8 32, .int .u8 23, .int .u8 11, .int .u8 54, .int .u8 26, .int .u8 40, .int .u8 15, .int .u8 34, .int .u8 20, .int .u8 31, .int .u8 10, .int .u8 25, .int .u8 14, .int .u8 19, .int .u8 9, .int .u8 13, .int .u8 8, .int .u8 7, .int .u8 6]) t frozen | o => o)).modify 3 fun | .cells _ t frozen => .cells (#[.int .u64 1, .int .u64 10, .int .u64 100, .int .u64 1000, .int .u64 10000, .int .u64 100000, .int .u64 1000000, .int .u64 10000000, .int .u64 100000000, .int .u64 1000000000, .int .u64 10000000000, .int .u64 100000000000, .int .u64 1000000000000, .int .u64 10000000000000, .int .u64 100000000000000, .int .u64 1000000000000000, .int .u64 10000000000000000, .int .u64 100000000000000000, .int .u64 1000000000000000000, .int .u64 10000000000000000000]) t frozen | o => o)).modify 2 fun | .cells _ t frozen => .cells (#[.iface 113 (.pointer (some ⟨11, 0, none⟩))]) t frozen | o => o)).modify 1 fun | .cells _ t frozen => .cells (#[.iface 113 (.pointer (some ⟨12, 0, none⟩))]) t frozen | o => o) }) #[.string ⟨#[]⟩] rfl (by kernel_rfl) (by kernel_rfl) (by kernel_rfl) (wit_row os enc)) ?_
  intro W base args ds gs before hval hW _ _ _ hL _ _
  exact contract H enc W base args ds gs before hval hW hL

theorem said : Rows.ParseBlanksSaid :=
  OpenClaim.holds_of_cond 3 Tryd.f3 rfl rfl rfl rfl rfl rfl rfl ⟨rfl, rfl, rfl, rfl, rfl⟩ rfl rfl rfl rfl rfl (by kernel_rfl) Tryd.func3 (by kernel_rfl)
    (of_decide_eq_true (by kernel_rfl)) (by unfold Func.isWrapper; first | (rw [if_pos (by decide +kernel)]; kernel_rfl) | (rw [if_neg (by decide +kernel)]; exact ⟨rfl, rfl⟩))
    (fun os started H enc _ F => by rw [OpenClaim.pre_eq_preRow]; exact lifted os started H enc F)

theorem plain (f : FuncId) (fn : Func) (hf : Tryd.pinned.checked.prog.funcNamed Rows.parseBlanksRow.func = some f) (hfn : Tryd.pinned.checked.prog.funcs[f]? = some fn) :
    true = Tryd.pinned.checked.prog.looks [] ∧ ∀ (j : Nat) t, fn.params[j]? = some t → Tryd.pinned.checked.prog.wantsStandIn t = false := by
  obtain rfl : f = 3 := Option.some.inj ((show Tryd.prog.funcNamed Rows.parseBlanksRow.func = some 3 by kernel_rfl).symm.trans hf) |>.symm
  obtain rfl : fn = Tryd.f3 := (Option.some.inj (Tryd.func3.symm.trans hfn)).symm
  refine ⟨by kernel_rfl, fun j t ht => ?_⟩
  rw [Tryd.params3] at ht
  have ht2 := Array.mem_of_getElem? ht
  simp only [List.mem_toArray, List.mem_cons, List.not_mem_nil, or_false] at ht2
  rcases ht2 with rfl
  · exact (show Tryd.prog.wantsStandIn 9 = false by kernel_rfl)

theorem proved : Rows.ParseBlanksCardSaid :=
  Claim7.holds_tied_plain_at .later [] _ _ _ _ said (fun _ h => by cases h) (by kernel_rfl) (fun _ h => by cases h) parseBlanks_row_tie rfl ⟨rfl, rfl⟩ (by kernel_rfl) rfl plain (by kernel_rfl)
end Go.Proofs.YtbfkaanmbdekfaaDoor.parseBlanks
namespace Go.Proofs.YtbfkaanmbdekfaaDoor
theorem parseBlanks_holds : Rows.ParseBlanksCardSaid := parseBlanks.proved
end Go.Proofs.YtbfkaanmbdekfaaDoor
