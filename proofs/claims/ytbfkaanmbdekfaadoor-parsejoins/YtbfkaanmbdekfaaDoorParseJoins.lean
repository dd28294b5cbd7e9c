/-
  ParseJoins: what two texts declare, one text with both declares, one behind the other.
-/
import Derived.Test.YtbfkaanmbdekfaaDoorCards
import Derived.Test.YtbfkaanmbdekfaaDoorTie
import Derived.WalkKit
import Derived.ProofKit
import Derived.OpenShut
import Derived.ShutString
import Derived.SizedLaws
import Derived.Below
import Derived.ChangeOld
import Derived.Lib.LaidIn
import Derived.Lib.LaidU8T
import Derived.Deep.DeepHandedRow
import Derived.Deep.DeepWitnessRowRef
import Derived.Deep.RegionWith
import Derived.Deep.RegionLaw
import Derived.Deep.DeepCutAuto
import Derived.Deep.RegionHeldLaw
import Derived.WalkSmall
import Derived.Stop.LaidErr
import Derived.Deep.DeepLaidRun
import Derived.Test.YtbfkaanmbdekfaaDoorJnS
namespace Go.Proofs.YtbfkaanmbdekfaaDoor.parseJoins
open Go.Shelf
open Go.ChangeShapes Go.WideShapes Go.ChangeAt Go.RowKit
open Go.ChangeMaps (open_string shut_string)
set_option linter.unusedVariables false

theorem own : ownKnob Tryd.prog.godebug = none := by kernel_rfl
theorem laidOut : laidOutB Tryd.prog = true := by kernel_rfl

theorem star : "*" ++ "errors.errorString" = "*errors.errorString" := by decide
theorem rowE (u : TypeId) (h : Tryd.prog.typeName? 3 u = some "*errors.errorString") : u = 113 :=
  typeName_ptr_named (nm := "errors.errorString") (by rw [star]; kernel_rfl) (by kernel_rfl) (by decide) u (by rw [star]; exact h)
theorem cellsE : Tryd.prog.cellsOf 115 = 1 := by kernel_rfl
theorem cellsS : Tryd.prog.cellsOf 9 = 1 := by kernel_rfl
theorem gE0 : Tryd.prog.globalNamed "strconv.ErrSyntax" = some 1 := by kernel_rfl
theorem gT0 : (Tryd.prog.globals[1]?).map (·.type) = some 88 := by kernel_rfl
theorem gE1 : Tryd.prog.globalNamed "strconv.ErrRange" = some 2 := by kernel_rfl
theorem gT1 : (Tryd.prog.globals[2]?).map (·.type) = some 88 := by kernel_rfl
theorem joins_ok (s t : ByteArray) (hs : s.size ≤ 5000) (ht : t.size ≤ 5000) (h1 : (fileL s.data.toList).2.2 = 0) (h2 : (fileL t.data.toList).2.2 = 0) :
    (fileL ((s ++ ⟨#[10]⟩) ++ t).data.toList).2.2 = 4 ∨ ((fileL ((s ++ ⟨#[10]⟩) ++ t).data.toList).2.2 = 0 ∧ stripL 10 (fileL ((s ++ ⟨#[10]⟩) ++ t).data.toList).1 = stripL 10 (fileL s.data.toList).1 ++ stripL 10 (fileL t.data.toList).1) := by
  have e : ((s ++ ⟨#[10]⟩) ++ t).data.toList = s.data.toList ++ 10 :: t.data.toList := by
    rw [ByteArray.data_append, ByteArray.data_append]; simp
  rw [e]
  rcases file_join s.data.toList t.data.toList (by rw [len_data]; exact hs) (by rw [len_data]; exact ht) h1 h2 with h | ⟨h, hd⟩
  · exact .inl h
  · exact .inr ⟨h, by rw [hd.strip 10, strip_append]⟩

theorem own_some {W : World} {base e size n : Nat} {v : Value} {L : List Value} (h : W.ownsRow base e size v n L) (hn : v = .slice none 0 0 → False) : ∃ g cap, v = .slice (some ⟨g, 0, none⟩) n cap := by
  rcases h.2 with ⟨hv, _⟩ | ⟨g, cap, cur, hv, _⟩
  · exact (hn hv).elim
  · exact ⟨g, cap, hv⟩
set_option maxHeartbeats 4000000 in
set_option maxRecDepth 20000 in
theorem walk (s0 : ByteArray) (s1 : ByteArray) (w : World) (hT : Errs w) (w0 : s0.size ≤ 9223372036854775807) (w1 : s1.size ≤ 9223372036854775807) :
    Calls Tryd.prog 4 #[.string s0, .string s1] w fun e w' => e = .returned (.bool true) ∧ Below w.heap.size w w' := by
  have hA := fun W (hTW : Errs W) => awake_any W hTW
  have hS0 : 0 ≤ (s0.size : Int) := by omega
  by_cases h5 : s0.size ≤ 5000
  case neg =>
    have h5' : (5000 : Int) < (s0.size : Int) := by omega
    go_enter Tryd.func4, Tryd.ntmps4
    go_wp2_with fail
    refine (hA w hT).mono ?_
    rintro e w1 ⟨rfl, hb1⟩
    have hT1 := errs_below hT hb1
    go_wp2_with fail
    refine (hA w1 hT1).mono ?_
    rintro e w2 ⟨rfl, hb2⟩
    go_wp2_with fail
    go_ret
    exact ⟨rfl, hb1.trans (hb2.mono hb1.size)⟩
  have h5' : ¬ (5000 : Int) < (s0.size : Int) := by omega
  by_cases h6 : s1.size ≤ 5000
  case neg =>
    have h6' : (5000 : Int) < (s1.size : Int) := by omega
    go_enter Tryd.func4, Tryd.ntmps4
    go_wp2_with fail
    refine (hA w hT).mono ?_
    rintro e w1 ⟨rfl, hb1⟩
    have hT1 := errs_below hT hb1
    go_wp2_with fail
    refine (hA w1 hT1).mono ?_
    rintro e w2 ⟨rfl, hb2⟩
    go_wp2_with fail
    go_ret
    exact ⟨rfl, hb1.trans (hb2.mono hb1.size)⟩
  have h6' : ¬ (5000 : Int) < (s1.size : Int) := by omega
  have hF0 := fun W (hTW : Errs W) => fileD_any s0 W hTW w0
  have hF1 := fun W (hTW : Errs W) => fileD_any s1 W hTW w1
  have hz1 : (ByteArray.mk #[10]).size = 1 := rfl
  have ha1 : ∀ W : World, (Op.stringOp .add s0 ⟨#[10]⟩).run Tryd.prog W = .ok (.string (s0 ++ ⟨#[10]⟩)) W := fun W => run_string_add_sum W _ _ (by rw [hz1]; omega)
  have ha2 : ∀ W : World, (Op.stringOp .add (s0 ++ ⟨#[10]⟩) s1).run Tryd.prog W = .ok (.string ((s0 ++ ⟨#[10]⟩) ++ s1)) W := fun W => run_string_add_sum W _ _ (by rw [ByteArray.size_append, hz1]; omega)
  have hF2 := fun W (hTW : Errs W) => fileD_any ((s0 ++ ⟨#[10]⟩) ++ s1) W hTW (by rw [ByteArray.size_append, ByteArray.size_append, hz1]; omega)
  have HJ := Lib.hid (joins_ok s0 s1 h5 h6)
  have f0 := fileL_fit s0.data.toList (words_few _) 10
  have f1 := fileL_fit s1.data.toList (words_few _) 10
  have f2 := fileL_fit ((s0 ++ ⟨#[10]⟩) ++ s1).data.toList (words_few _) 10
  have t0 := fileL_txt s0.data.toList 10
  have t1 := fileL_txt s1.data.toList 10
  have t2 := fileL_txt ((s0 ++ ⟨#[10]⟩) ++ s1).data.toList 10
  have n0 := declsL_few s0.data.toList
  have n1 := declsL_few s1.data.toList
  unfold GAns at hF0 hF1 hF2
  generalize fileL ((s0 ++ ⟨#[10]⟩) ++ s1).data.toList = FJ at *
  generalize (s0 ++ ⟨#[10]⟩) ++ s1 = sj at *
  generalize fileL s0.data.toList = FA at *
  generalize fileL s1.data.toList = FB at *
  obtain ⟨da, ⟨PL0, PC0⟩, ea⟩ := FA
  obtain ⟨db, ⟨PL1, PC1⟩, eb⟩ := FB
  obtain ⟨dj, ⟨PL2, PC2⟩, ej⟩ := FJ
  dsimp only at hF0 hF1 hF2 HJ f0 f1 f2 t0 t1 t2 n0 n1
  obtain ⟨na, hna⟩ : ∃ n, da.length = n := ⟨_, rfl⟩
  obtain ⟨nb, hnb⟩ : ∃ n, db.length = n := ⟨_, rfl⟩
  obtain ⟨nj, hnj⟩ : ∃ n, dj.length = n := ⟨_, rfl⟩
  have hSA := fun (v : Value) (W : World) (hW : HeldD 10 W (fun b => b < W.heap.size) v da) => strip_any 10 da v W f0 t0 hW
  have hSB := fun (v : Value) (W : World) (hW : HeldD 10 W (fun b => b < W.heap.size) v db) => strip_any 10 db v W f1 t1 hW
  have hSJ := fun (v : Value) (W : World) (hW : HeldD 10 W (fun b => b < W.heap.size) v dj) => strip_any 10 dj v W f2 t2 hW
  unfold StAns at hSA hSB hSJ
  have FA := strip_fit 10 da f0
  have FB := strip_fit 10 db f1
  have FJ := strip_fit 10 dj f2
  have HFA := Lib.hid FA
  have HFB := Lib.hid FB
  have HFJ := Lib.hid FJ
  have HNA := Lib.hid hna
  have HNB := Lib.hid hnb
  rw [hna] at hF0 hSA n0
  rw [hnb] at hF1 hSB n1
  rw [hnj] at hF2 hSJ
  clear f0 f1 f2 t0 t1 t2 FA FB FJ hna hnb hnj
  go_enter Tryd.func4, Tryd.ntmps4
  go_wp2_with fail
  refine (hA w hT).mono ?_
  rintro e v1 ⟨rfl, hb1⟩
  have hT1 := errs_below hT hb1
  clear hA
  go_wp2_with fail
  refine (hF0 v1 hT1).mono ?_
  rintro e v2 ⟨⟨ad2, c2, pl2, pc2, rfl, hH2, hp2⟩, hb2⟩
  have hb12 := hb1.trans (hb2.mono hb1.size)
  have HB2 := Lib.hid (hb12.alloc hb12.size (.cells #[.int .i64 pl2, .int .i64 pc2] 25))
  have HT2 : Hid (Errs (v2.alloc (.cells #[.int .i64 pl2, .int .i64 pc2] 25))) := errs_below (errs_below hT1 hb2) ((Below.refl _ v2).alloc (Nat.le_refl _) _)
  have HH2 := Lib.hid (HeldD.more (S' := fun b => b < (v2.alloc (.cells #[.int .i64 pl2, .int .i64 pc2] 25)).heap.size) (fun b hb => by simp; omega) (hH2.old (w' := v2.alloc (.cells #[.int .i64 pl2, .int .i64 pc2] 25)) (fun b hb => alloc_heap_old _ _ _ hb)))
  clear hF0 hb1 hb2 hb12 hH2 hp2 hT1 hT
  go_upto_region 4 with fail
  generalize v2.alloc (.cells #[.int .i64 pl2, .int .i64 pc2] 25) = V2 at *
  go_wp2_with fail
  refine (hF1 V2 HT2.out).mono ?_
  rintro e v3 ⟨⟨ad3, c3, pl3, pc3, rfl, hH3, hp3⟩, hb3⟩
  have HB3' := Lib.hid ((Below.refl V2.heap.size V2).trans hb3)
  have HB3 := Lib.hid ((HB2.out.trans (hb3.mono HB2.out.size)).alloc (HB2.out.trans (hb3.mono HB2.out.size)).size (.cells #[.int .i64 pl3, .int .i64 pc3] 25))
  have HT3 : Hid (Errs (v3.alloc (.cells #[.int .i64 pl3, .int .i64 pc3] 25))) := errs_below (errs_below HT2.out hb3) ((Below.refl _ v3).alloc (Nat.le_refl _) _)
  have hz3 := hb3.size
  have HH2' : Hid (HeldD 10 (v3.alloc (.cells #[.int .i64 pl3, .int .i64 pc3] 25)) (fun b => b < (v3.alloc (.cells #[.int .i64 pl3, .int .i64 pc3] 25)).heap.size) (.slice ad2 na c2) da) := by
    refine (?_ : HeldD _ _ _ _ _)
    refine HeldD.more (S := fun b => b < V2.heap.size) (fun b hb => by simp; omega) (HeldD.old (w := V2) (fun b hb => ?_) HH2.out)
    rw [alloc_heap_old _ _ _ (by omega), hb3.block b hb]
  have HH3 := Lib.hid (HeldD.more (S' := fun b => b < (v3.alloc (.cells #[.int .i64 pl3, .int .i64 pc3] 25)).heap.size) (fun b hb => by simp; omega) (hH3.old (w' := v3.alloc (.cells #[.int .i64 pl3, .int .i64 pc3] 25)) (fun b hb => alloc_heap_old _ _ _ hb)))
  clear hF1 hb3 hH3 hp3 HH2 HT2 HB2 HB3'
  go_upto_region 5 with fail
  generalize v3.alloc (.cells #[.int .i64 pl3, .int .i64 pc3] 25) = V3 at *
  by_cases h0 : ea = 0
  case neg =>
    have h0' : (ea != 0) = true := by simpa using h0
    clear h0
    go_wp2_with fail
    go_ret
    exact ⟨rfl, HB3.out⟩
  by_cases h1 : eb = 0
  case neg =>
    have h1' : (eb != 0) = true := by simpa using h1
    subst h0
    clear h1
    go_wp2_with fail
    go_ret
    exact ⟨rfl, HB3.out⟩
  subst h0 h1
  have HJJ := Lib.hid (HJ.out rfl rfl)
  clear HJ
  go_wp2_with fail
  refine (hF2 V3 HT3.out).mono ?_
  rintro e v4 ⟨⟨ad4, c4, pl4, pc4, rfl, hH4, hp4⟩, hb4⟩
  have HB4 := Lib.hid ((HB3.out.trans (hb4.mono HB3.out.size)).alloc (HB3.out.trans (hb4.mono HB3.out.size)).size (.cells #[.int .i64 pl4, .int .i64 pc4] 25))
  have hz4 := hb4.size
  have hmv : ∀ (v : Value) (ds : List Dc), HeldD 10 V3 (fun b => b < V3.heap.size) v ds → HeldD 10 (v4.alloc (.cells #[.int .i64 pl4, .int .i64 pc4] 25)) (fun b => b < (v4.alloc (.cells #[.int .i64 pl4, .int .i64 pc4] 25)).heap.size) v ds := fun v ds hh =>
    HeldD.more (S := fun b => b < V3.heap.size) (fun b hb => by simp; omega) (HeldD.old (w := V3) (fun b hb => by rw [alloc_heap_old _ _ _ (by omega), hb4.block b hb]) hh)
  have HHA := Lib.hid (hmv _ _ HH2'.out)
  have HHB := Lib.hid (hmv _ _ HH3.out)
  have HHJ := Lib.hid (HeldD.more (S' := fun b => b < (v4.alloc (.cells #[.int .i64 pl4, .int .i64 pc4] 25)).heap.size) (fun b hb => by simp; omega) (hH4.old (w' := v4.alloc (.cells #[.int .i64 pl4, .int .i64 pc4] 25)) (fun b hb => alloc_heap_old _ _ _ hb)))
  clear hF2 hb4 hH4 hp4 HH2' HH3 HT3 HB3 hmv
  go_upto_region 8 with fail
  generalize v4.alloc (.cells #[.int .i64 pl4, .int .i64 pc4] 25) = V4 at *
  rcases HJJ.out with hj4 | ⟨hj0, hst⟩
  · subst hj4
    go_wp2_with fail
    go_ret
    exact ⟨rfl, HB4.out⟩
  subst hj0
  have HST := Lib.hid hst
  clear hst HJJ
  go_wp2_with fail
  refine (hSJ _ V4 HHJ.out).mono ?_
  rintro e w5 ⟨a5, k5, rfl, hH5, hb5, rfl, L5, ho5, hr5⟩
  have hz5 := hb5.size
  have HH5 := Lib.hid hH5
  have HB5 := Lib.hid hb5
  have hmv5 : ∀ (v : Value) (ds : List Dc), HeldD 10 V4 (fun b => b < V4.heap.size) v ds → HeldD 10 w5 (fun b => b < w5.heap.size) v ds := fun v ds hh =>
    HeldD.more (S := fun b => b < V4.heap.size) (fun b hb => by omega) (HeldD.old (w := V4) (fun b hb => hb5.block b hb) hh)
  have HHA5 := Lib.hid (hmv5 _ _ HHA.out)
  have HHB5 := Lib.hid (hmv5 _ _ HHB.out)
  clear hSJ hH5 hb5 hr5 ho5 hmv5 HHA HHB HHJ
  go_wp2_with fail
  refine (hSA _ w5 HHA5.out).mono ?_
  rintro e w6 ⟨a6, k6, rfl, hH6, hb6, rfl, L6, ho6, hr6⟩
  have hz6 := hb6.size
  have HB6 := Lib.hid hb6
  have HO6 := Lib.hid ho6
  have HR6 := Lib.hid hr6
  have HHB6 := Lib.hid (HeldD.more (S := fun b => b < w5.heap.size) (S' := fun b => b < w6.heap.size) (fun b hb => by omega) (HeldD.old (w := w5) (w' := w6) (fun b hb => hb6.block b hb) HHB5.out))
  have hg6 : w5.heap.size < w6.heap.size := (own_block ho6 w5.heap.size rfl).2
  clear hSA hH6 hb6 hr6 ho6 HHA5 HHB5
  go_wp2_with fail
  refine (hSB _ w6 HHB6.out).mono ?_
  rintro e w7 ⟨a7, k7, rfl, hH7, hb7, rfl, L7, ho7, hr7⟩
  have hz7 := hb7.size
  have HB7 := Lib.hid hb7
  have HO7 := Lib.hid ho7
  have HR7 := Lib.hid hr7
  have hg7 : w6.heap.size < w7.heap.size := (own_block ho7 w6.heap.size rfl).2
  clear hSB hH7 hb7 hr7 ho7 HHB6
  have HBW : Hid (Below w.heap.size w w7) := ((HB4.out.trans (HB5.out.mono HB4.out.size)).trans (HB6.out.mono (by have := HB4.out.size; omega))).trans (HB7.out.mono (by have := HB4.out.size; omega))
  have HO67 : Hid (w7.ownsRow w5.heap.size 38 8 (.slice (some ⟨w5.heap.size, 0, none⟩) na k6) na L6) := own_grown HO6.out (HB7.out.block _ hg6)
  have hl6 : L6.length = na * 8 := HO6.out.1
  have hl7 : L7.length = nb * 8 := HO7.out.1
  have HS6 := Lib.hid (strip_rows (f := 9) HR6.out)
  have HS7 := Lib.hid (strip_rows (f := 9) HR7.out)
  have hla : (stripL 10 da).length = na := by rw [stripL_len 10 da (by intro h; cases h)]; exact HNA.out
  have hlb : (stripL 10 db).length = nb := by rw [stripL_len 10 db (by intro h; cases h)]; exact HNB.out
  have HFIT : Hid (FitD 10 (stripL 10 da ++ stripL 10 db)) := fit_append (f := 9) HFA.out HFB.out (by rw [hla, hlb]; omega)
  have HEND : Hid (∀ (g cap : Nat) (w8 : World), w8.ownsRow w5.heap.size 38 8 (.slice (some ⟨g, 0, none⟩) (na + nb) cap) (na + nb) (L6 ++ L7) → w7.grownBy w8 (some w5.heap.size) → g < w8.heap.size →
      Calls Tryd.prog 8 #[.slice (some ⟨V4.heap.size, 0, none⟩) nj k5, .slice (some ⟨g, 0, none⟩) (na + nb) cap] w8 fun e w' => e = .returned (.bool true) ∧ Below w.heap.size w w') := fun g cap w8 hown hg hlt => by
    have hs8 := hg.size
    have hww := HB4.out.size
    have h8 : HeldD 10 w8 (fun b => b < w8.heap.size) (.slice (some ⟨g, 0, none⟩) (na + nb) cap) (stripL 10 da ++ stripL 10 db) :=
      held_own (f := 9) hown (by rw [List.length_append, hla, hlb]) hlt (rows_join (by rw [hla]; exact hl6)
        (rows_move HS6.out (fun b hb => by rw [hg.block b (by have := hb.2; omega) (by intro e; have := hb.1; cases e; omega), HB7.out.block b hb.2]) (fun b hb => by have := hb.2; omega))
        (rows_move HS7.out (fun b hb => hg.block b hb.2 (by intro e; have := hb.1; cases e; omega)) (fun b hb => by have := hb.2; omega)))
    have h5 : HeldD 10 w8 (fun b => b < w8.heap.size) (.slice (some ⟨V4.heap.size, 0, none⟩) nj k5) (stripL 10 dj) :=
      HeldD.more (S := fun b => V4.heap.size ≤ b ∧ b < w5.heap.size) (fun b hb => by have := hb.2; omega) (HeldD.old (w := w5) (fun b hb => by rw [hg.block b (by have := hb.2; omega) (by intro e; have := hb.2; cases e; omega), HB7.out.block b (by have := hb.2; omega), HB6.out.block b hb.2]) HH5.out)
    refine (sameP_any 10 _ _ _ _ w8 HFJ.out HFIT.out h5 h8).mono ?_
    rintro e w9 ⟨b, rfl, hbi, hbw⟩
    have hb : b = true := hbi.2 HST.out
    subst hb
    have hb8 : Below w.heap.size w w8 := HBW.out.trans ⟨hg.os, hg.tape, hg.output, hs8, fun k hk => hg.block k (by omega) (by intro e; cases e; omega)⟩
    exact ⟨rfl, hb8.trans (hbw.mono hb8.size)⟩
  obtain ⟨i0, hi0, hz0, hz1, hz2⟩ := info_parts infoDcD
  have hone := rows_one_cell (by rw [hlb]; exact hl7) HS7.out
  have hnews : ∀ (j : Nat) (u : Value), L7[j]? = some u → w7.cell? ((⟨w6.heap.size, 0, none⟩ : Addr).add j) = some u := fun j u hu => by
    have hadd : (⟨w6.heap.size, 0, none⟩ : Addr).add j = ⟨w6.heap.size, j, none⟩ := by unfold Addr.add; split <;> simp_all
    rw [hadd]
    exact (own_at HO7.out j u hu).1
  have HONE := Lib.hid hone
  have HNEWS := Lib.hid hnews
  have hby : (na + nb) * 136 ≤ 140737488355328 := by have : (na + nb) * 136 ≤ 10000 * 136 := Nat.mul_le_mul_right 136 (by omega); omega
  clear hone hnews hla hlb
  go_wp2_with (at_builtin; refine wpList_step fun K hK => ?_; rw [if_pos (by kernel_rfl)]; refine wp_append_own _ _ _ 23 rfl w5.heap.size 38 i0 _ 8 136 Tryd.underlying23 hi0 hz0 hz1 hz2 rfl (by decide) (.slice (some ⟨w5.heap.size, 0, none⟩) na k6) na L6 rfl HO67.out ⟨w6.heap.size, 0, none⟩ nb k7 L7 rfl hl7 HNEWS.out HONE.out (by unfold maxLen; omega) hby (by omega) ?_; intro v8 w8 hown8 hg8 hat8; obtain ⟨g, cap, rfl⟩ := own_some hown8 (fun h => by have := (hat8.1 h).1; cases this); refine hK _ _ ?_; clear hK)
  have hC := HEND.out g cap w8 hown8 hg8 (own_block hown8 g rfl).2
  clear hown8 hg8 hat8 HEND
  go_wp2_with fail
  refine hC.mono ?_
  rintro e w9 ⟨rfl, hbw⟩
  go_wp2_with fail
  go_ret
  exact ⟨rfl, hbw⟩

set_option maxRecDepth 100000 in
theorem contract (H : Type) (enc : TypeId × Value → H) (W : World) (base : Nat) (args : Array Value) (ds gs : List (DataW H)) (before : List MemPlace)
    (hval0 : ∀ (j : Nat) t v, Tryd.f4.params[j]? = some t → args[j]? = some v → Value.okWide Tryd.prog W .any base t v)
    (hW : DataW.Whole enc Tryd.prog Tryd.f4.params.toList Rows.parseJoinsSpec.vars false W args.toList ds gs before) (hL : laidMet Tryd.prog Rows.parseJoinsRow.laid W) :
    Calls Tryd.prog 4 args W fun e W' => ∃ v, e = .returned v ∧ Rows.parseJoinsSpec.post enc Tryd.prog Tryd.f4 false true false false W args v W' := by
  have hval : ∀ (j : Nat) t v, Tryd.f4.params[j]? = some t → args[j]? = some v → Value.okWide Tryd.prog W .any base t v := hval0
  obtain ⟨aE0, sE0, hvE0, -, -, -⟩ := laid_sentinel (hL.tail.tail.tail.tail) gE0 gT0 Tryd.underlying88 rowE Tryd.underlying113 Tryd.underlying115 rfl rfl Tryd.underlying9 cellsE cellsS
  obtain ⟨aE1, sE1, hvE1, -, -, -⟩ := laid_sentinel (hL.tail.tail.tail) gE1 gT1 Tryd.underlying88 rowE Tryd.underlying113 Tryd.underlying115 rfl rfl Tryd.underlying9 cellsE cellsS
  have htE : Errs W := ⟨⟨_, (show W.cell? ⟨1, 0, none⟩ = _ by have h0 := World.var?_cell gE0 hvE0 0; simpa using h0), Or.inr ⟨_, _, rfl⟩⟩, ⟨_, (show W.cell? ⟨2, 0, none⟩ = _ by have h0 := World.var?_cell gE1 hvE1 0; simpa using h0), Or.inr ⟨_, _, rfl⟩⟩⟩
  have htab : Errs W := htE
  have hW' := hW
  obtain ⟨p, q, hA0, hV, rfl, hfz, hnd⟩ := hW
  have hA : DataW.TrodAll enc Tryd.prog W 0 (fun _ => true) true Tryd.f4.params.toList args.toList ds p := hA0
  rw [Tryd.params4] at hA hval
  obtain ⟨v0, vs0, d0, ds0, p0, q0, hargs, rfl, rfl, h0, r0⟩ := trodAll_cons hA
  obtain ⟨v1, vs1, d1, ds1, p1, q1, rfl, rfl, rfl, h1, r1⟩ := trodAll_cons r0
  obtain ⟨rfl, rfl, rfl⟩ := trodAll_nil r1
  obtain rfl : args = #[v0, v1] := by cases args; simp_all
  obtain ⟨rfl, rfl⟩ := trodVars_none hV
  have k0 := h0
  have lt0 : ∀ x ∈ p0, x.block < W.heap.size := by obtain ⟨m, hm⟩ := k0; exact DataW.trod_lt m _ _ _ hm
  obtain ⟨s0, rfl, _, _, ws0⟩ := open_string Tryd.underlying9 (hval 0 9 v0 rfl rfl) h0
  have w0 : s0.size ≤ 9223372036854775807 := by unfold maxLen at ws0; omega
  have k1 := h1
  have lt1 : ∀ x ∈ p1, x.block < W.heap.size := by obtain ⟨m, hm⟩ := k1; exact DataW.trod_lt m _ _ _ hm
  obtain ⟨s1, rfl, _, _, ws1⟩ := open_string Tryd.underlying9 (hval 1 9 v1 rfl rfl) h1
  have w1 : s1.size ≤ 9223372036854775807 := by unfold maxLen at ws1; omega
  clear hA0 hval0
  refine (walk s0 s1 W htab w0 w1).mono fun e W' ⟨he, bel⟩ => ?_
  subst he
  exact ⟨_, rfl, _, _, _, [], _, [], hW', trodAll_mk1 (shut_bool Tryd.underlying4 _), (trodAll_cons_mk (Below.trod laidOut (by kernel_rfl) (of_decide_eq_true (by kernel_rfl)) k0 bel lt0) (trodAll_cons_mk (Below.trod laidOut (by kernel_rfl) (of_decide_eq_true (by kernel_rfl)) k1 bel lt1) trodAll_mk0)), rfl, bel.frame _, fun h => by cases h⟩

set_option maxRecDepth 100000 in
set_option maxHeartbeats 2000000 in
theorem wit_row (os : Os) {H : Type} (enc : TypeId × Value → H) :
    (OpenSpec.ofChange Rows.parseJoinsSpec).preRow enc Tryd.prog Tryd.f4 Rows.parseJoinsRow.domain false Rows.parseJoinsRow.laid (({ World.holding Tryd.prog os ⟨#[.cells #[.string ⟨#[118, 97, 108, 117, 101, 32, 111, 117, 116, 32, 111, 102, 32, 114, 97, 110, 103, 101]⟩] 115, .cells #[.string ⟨#[105, 110, 118, 97, 108, 105, 100, 32, 115, 121, 110, 116, 97, 120]⟩] 115], #[], []⟩ with heap := (((((((((((World.holding Tryd.prog os ⟨#[.cells #[.string ⟨#[118, 97, 108, 117, 101, 32, 111, 117, 116, 32, 111, 102, 32, 114, 97, 110, 103, 101]⟩] 115, .cells #[.string ⟨#[105, 110, 118, 97, 108, 105, 100, 32, 115, 121, 110, 116, 97, 120]⟩] 115], #[], []⟩).heap).modify 4 fun | .cells _ t frozen => .cells (#[.int .u8 0, .int .u8 1, .int .u8 28, .int .u8 2, .int .u8 29, .int .u8 14, .int .u8 24, .int .u8 3, .int .u8 30, .int .u8 22, .int .u8 20, .int .u8 15, .int .u8 25, .int .u8 17, .int .u8 4, .int .u8 8, .int .u8 31, .int .u8 27, .int .u8 13, .int .u8 23, .int .u8 21, .int .u8 19, .int .u8 16, .int .u8 7, .int .u8 26, .int .u8 12, .int .u8 18, .int .u8 6, .int .u8 11, .int .u8 5, .int .u8 10, .int .u8 9]) t frozen | o => o)).modify 5 fun | .cells _ t frozen => .cells (#[.int .u8 0, .int .u8 1, .int .u8 56, .int .u8 2, .int .u8 57, .int .u8 49, .int .u8 28, .int .u8 3, .int .u8 61, .int .u8 58, .int .u8 42, .int .u8 50, .int .u8 38, .int .u8 29, .int .u8 17, .int .u8 4, .int .u8 62, .int .u8 47, .int .u8 59, .int .u8 36, .int .u8 45, .int .u8 43, .int .u8 51, .int .u8 22, .int .u8 53, .int .u8 39, .int .u8 33, .int .u8 30, .int .u8 24, .int .u8 18, .int .u8 12, .int .u8 5, .int .u8 63, .int .u8 55, .int .u8 48, .int .u8 27, .int .u8 60, .int .u8 41, .int .u8 37, .int .u8 16, .int .u8 46, .int .u8 35, .int .u8 44, .int .u8 21, .int .u8 52, .int .u8 32, .int .u8 23, .int .u8 11, .int .u8 54, .int .u8 26, .int .u8 40, .int .u8 15, .int .u8 34, .int .u8 20, .int .u8 31, .int .u8 10, .int .u8 25, .int .u8 14, .int .u8 19, .int .u8 9, .int .u8 13, .int .u8 8, .int .u8 7, .int .u8 6]) t frozen | o => o)).modify 3 fun | .cells _ t frozen => .cells (#[.int .u64 1, .int .u64 10, .int .u64 100, .int .u64 1000, .int .u64 10000, .int .u64 100000, .int .u64 1000000, .int .u64 10000000, .int .u64 100000000, .int .u64 1000000000, .int .u64 10000000000, .int .u64 100000000000, .int .u64 1000000000000, .int .u64 10000000000000, .int .u64 100000000000000, .int .u64 1000000000000000, .int .u64 10000000000000000, .int .u64 100000000000000000, .int .u64 1000000000000000000, .int .u64 10000000000000000000]) t frozen | o => o)).modify 2 fun | .cells _ t frozen => .cells (#[.iface 113 (.pointer (some ⟨11, 0, none⟩))]) t frozen | o => o)).modify 1 fun | .cells _ t frozen => .cells (#[.iface 113 (.pointer (some ⟨12, 0, none⟩))]) t frozen | o => o) } : World).forCall (fun _ _ => 0) ⟨#[], #[.string ⟨#[]⟩, .string ⟨#[]⟩], []⟩).memory #[.string ⟨#[]⟩, .string ⟨#[]⟩] := by
  have hl : laidMet Tryd.prog Rows.parseJoinsRow.laid (({ World.holding Tryd.prog os ⟨#[.cells #[.string ⟨#[118, 97, 108, 117, 101, 32, 111, 117, 116, 32, 111, 102, 32, 114, 97, 110, 103, 101]⟩] 115, .cells #[.string ⟨#[105, 110, 118, 97, 108, 105, 100, 32, 115, 121, 110, 116, 97, 120]⟩] 115], #[], []⟩ with heap := (((((((((((World.holding Tryd.prog os ⟨#[.cells #[.string ⟨#[118, 97, 108, 117, 101, 32, 111, 117, 116, 32, 111, 102, 32, 114, 97, 110, 103, 101]⟩] 115, .cells #[.string ⟨#[105, 110, 118, 97, 108, 105, 100, 32, 115, 121, 110, 116, 97, 120]⟩] 115], #[], []⟩).heap).modify 4 fun | .cells _ t frozen => .cells (#[.int .u8 0, .int .u8 1, .int .u8 28, .int .u8 2, .int .u8 29, .int .u8 14, .int .u8 24, .int .u8 3, .int .u8 30, .int .u8 22, .int .u8 20, .int .u8 15, .int .u8 25, .int .u8 17, .int .u8 4, .int .u8 8, .int .u8 31, .int .u8 27, .int .u8 13, .int .u8 23, .int .u8 21, .int .u8 19, .int .u8 16, .int .u8 7, .int .u8 26, .int .u8 12, .int .u8 18, .int .u8 6, .int .u8 11, .int .u8 5, .int .u8 10, .int .u8 9]) t frozen | o => o)).modify 5 fun | .cells _ t frozen => .cells (#[.int .u8 0, .int .u8 1, .int .u8 56, .int .u8 2, .int .u8 57, .int .u8 49, .int .u8 28, .int .u8 3, .int .u8 61, .int .u8 58, .int .u8 42, .int .u8 50, .int .u8 38, .int .u8 29, .int .u8 17, .int .u8 4, .int .u8 62, .int .u8 47, .int .u8 59, .int .u8 36, .int .u8 45, .int .u8 43, .int .u8 51, .int .u8 22, .int .u8 53, .int .u8 39, .int .u8 33, .int .u8 30, .int .u8 24, .int .u8 18, .int .u8 12, .int .u8 5, .int .u8 63, .int .u8 55, .int .u8 48, .int .u8 27, .int .u8 60, .int .u8 41, .int .u8 37, .int .u8 16, .int .u8 46, .int .u8 35, .int .u8 44, .int .u8 21, .int .u8 52, .int .u8 32, .int .u8 23, .int .u8 11, .int .u8 54, .int .u8 26, .int .u8 40, .int .u8 15, .int .u8 34, .int .u8 20, .int .u8 31, .int .u8 10, .int .u8 25, .int .u8 14, .int .u8 19, .int .u8 9, .int .u8 13, .int .u8 8, .int .u8 7, .int .u8 6]) t frozen | o => o)).modify 3 fun | .cells _ t frozen => .cells (#[.int .u64 1, .int .u64 10, .int .u64 100, .int .u64 1000, .int .u64 10000, .int .u64 100000, .int .u64 1000000, .int .u64 10000000, .int .u64 100000000, .int .u64 1000000000, .int .u64 10000000000, .int .u64 100000000000, .int .u64 1000000000000, .int .u64 10000000000000, .int .u64 100000000000000, .int .u64 1000000000000000, .int .u64 10000000000000000, .int .u64 100000000000000000, .int .u64 1000000000000000000, .int .u64 10000000000000000000]) t frozen | o => o)).modify 2 fun | .cells _ t frozen => .cells (#[.iface 113 (.pointer (some ⟨11, 0, none⟩))]) t frozen | o => o)).modify 1 fun | .cells _ t frozen => .cells (#[.iface 113 (.pointer (some ⟨12, 0, none⟩))]) t frozen | o => o) } : World).forCall (fun _ _ => 0) ⟨#[], #[.string ⟨#[]⟩, .string ⟨#[]⟩], []⟩).memory :=
    (LaidIn.of_run (l := Rows.parseJoinsRow.laid) [4, 5, 3, 2, 11, 1, 12] 8 (by kernel_rfl) (by kernel_rfl) (by kernel_rfl) (by kernel_rfl)).met
  have hw : (DataW.whole enc Tryd.prog (({ World.holding Tryd.prog os ⟨#[.cells #[.string ⟨#[118, 97, 108, 117, 101, 32, 111, 117, 116, 32, 111, 102, 32, 114, 97, 110, 103, 101]⟩] 115, .cells #[.string ⟨#[105, 110, 118, 97, 108, 105, 100, 32, 115, 121, 110, 116, 97, 120]⟩] 115], #[], []⟩ with heap := (((((((((((World.holding Tryd.prog os ⟨#[.cells #[.string ⟨#[118, 97, 108, 117, 101, 32, 111, 117, 116, 32, 111, 102, 32, 114, 97, 110, 103, 101]⟩] 115, .cells #[.string ⟨#[105, 110, 118, 97, 108, 105, 100, 32, 115, 121, 110, 116, 97, 120]⟩] 115], #[], []⟩).heap).modify 4 fun | .cells _ t frozen => .cells (#[.int .u8 0, .int .u8 1, .int .u8 28, .int .u8 2, .int .u8 29, .int .u8 14, .int .u8 24, .int .u8 3, .int .u8 30, .int .u8 22, .int .u8 20, .int .u8 15, .int .u8 25, .int .u8 17, .int .u8 4, .int .u8 8, .int .u8 31, .int .u8 27, .int .u8 13, .int .u8 23, .int .u8 21, .int .u8 19, .int .u8 16, .int .u8 7, .int .u8 26, .int .u8 12, .int .u8 18, .int .u8 6, .int .u8 11, .int .u8 5, .int .u8 10, .int .u8 9]) t frozen | o => o)).modify 5 fun | .cells _ t frozen => .cells (#[.int .u8 0, .int .u8 1, .int .u8 56, .int .u8 2, .int .u8 57, .int .u8 49, .int .u8 28, .int .u8 3, .int .u8 61, .int .u8 58, .int .u8 42, .int .u8 50, .int .u8 38, .int .u8 29, .int .u8 17, .int .u8 4, .int .u8 62, .int .u8 47, .int .u8 59, .int .u8 36, .int .u8 45, .int .u8 43, .int .u8 51, .int .u8 22, .int .u8 53, .int .u8 39, .int .u8 33, .int .u8 30, .int .u8 24, .int .u8 18, .int .u8 12, .int .u8 5, .int .u8 63, .int .u8 55, .int .u8 48, .int .u8 27, .int .u8 60, .int .u8 41, .int .u8 37, .int .u8 16, .int .u8 46, .int .u8 35, .int .u8 44, .int .u8 21, .int .u8 52, .int .u8 32, .int .u8 23, .int .u8 11, .int .u8 54, .int .u8 26, .int .u8 40, .int .u8 15, .int .u8 34, .int .u8 20, .int .u8 31, .int .u8 10, .int .u8 25, .int .u8 14, .int .u8 19, .int .u8 9, .int .u8 13, .int .u8 8, .int .u8 7, .int .u8 6]) t frozen | o => o)).modify 3 fun | .cells _ t frozen => .cells (#[.int .u64 1, .int .u64 10, .int .u64 100, .int .u64 1000, .int .u64 10000, .int .u64 100000, .int .u64 1000000, .int .u64 10000000, .int .u64 100000000, .int .u64 1000000000, .int .u64 10000000000, .int .u64 100000000000, .int .u64 1000000000000, .int .u64 10000000000000, .int .u64 100000000000000, .int .u64 1000000000000000, .int .u64 10000000000000000, .int .u64 100000000000000000, .int .u64 1000000000000000000, .int .u64 10000000000000000000]) t frozen | o => o)).modify 2 fun | .cells _ t frozen => .cells (#[.iface 113 (.pointer (some ⟨11, 0, none⟩))]) t frozen | o => o)).modify 1 fun | .cells _ t frozen => .cells (#[.iface 113 (.pointer (some ⟨12, 0, none⟩))]) t frozen | o => o) } : World).forCall (fun _ _ => 0) ⟨#[], #[.string ⟨#[]⟩, .string ⟨#[]⟩], []⟩).memory Tryd.f4.params.toList Rows.parseJoinsSpec.vars false (#[.string ⟨#[]⟩, .string ⟨#[]⟩] : Array Value).toList 8).map (fun x => (x.1, x.2.1)) =
      some ([.lit (.string []), .lit (.string [])], []) := by kernel_rfl
  obtain ⟨⟨x1, x2, x3⟩, hx, hx1⟩ := Option.map_eq_some_iff.1 hw
  simp only [Prod.mk.injEq] at hx1
  obtain ⟨rfl, rfl⟩ := hx1
  exact OpenSpec.preRow_of_cond 8 hx (by kernel_rfl) (fun k hk => by cases hk) (by kernel_rfl) hl

set_option maxRecDepth 100000 in
set_option maxHeartbeats 2000000 in
theorem lifted (os : Os) (started : os.Started) (H : Type) (enc : TypeId × Value → H) (F : Stop.Interp) :
    ReturnsInHanded {} Tryd.checked os 4 .any ((OpenSpec.ofChange Rows.parseJoinsSpec).preRow enc Tryd.prog Tryd.f4 Rows.parseJoinsRow.domain false Rows.parseJoinsRow.laid) (((OpenSpec.ofChange Rows.parseJoinsSpec).at F).post enc Tryd.prog Tryd.f4 false true false false) := by
  refine returnsInHanded_of_row (C := Tryd.checked) (s := OpenSpec.ofChange Rows.parseJoinsSpec) own started (by kernel_rfl) Tryd.func4
    (witness_row_atRef (enc := enc) (C := Tryd.checked) false ({ World.holding Tryd.prog os ⟨#[.cells #[.string ⟨#[118, 97, 108, 117, 101, 32, 111, 117, 116, 32, 111, 102, 32, 114, 97, 110, 103, 101]⟩] 115, .cells #[.string ⟨#[105, 110, 118, 97, 108, 105, 100, 32, 115, 121, 110, 116, 97, 120]⟩] 115], #[], []⟩ with heap := (((((((((((World.holding Tryd.prog os ⟨#[.cells #[.string ⟨#[118, 97, 108, 117, 101, 32, 111, 117, 116, 32, 111, 102, 32, 114, 97, 110, 103, 101]⟩] 115, .cells #[.string ⟨#[105, 110, 118, 97, 108, 105, 100, 32, 115, 121, 110, 116, 97, 120]⟩] 115], #[], []⟩).heap).modify 4 fun | .cells _ t frozen => .cells (#[.int .u8 0, .int .u8 1, .int .u8 28, .int .u8 2, .int .u8 29, .int .u8 14, .int .u8 24, .int .u8 3, .int .u8 30, .int .u8 22, .int .u8 20, .int .u8 15, .int .u8 25, .int .u8 17, .int .u8 4, .int .u8 8, .int .u8 31, .int .u8 27, .int .u8 13, .int .u8 23, .int .u8 21, .int .u8 19, .int .u8 16, .int .u8 7, .int .u8 26, .int .u8 12, .int .u8 18, .int .u8 6, .int .u8 11, .int .u8 5, .int .u8 10, .int .u8 9]) t frozen | o => o)).modify 5 fun | .cells _ t frozen => .cells (#[.int .u8 0, .int .u8 1, .int .u8 56, .int .u8 2, .int .u8 57, .int .u8 49, .int .u8 28, .int .u8 3, .int .u8 61, .int .u8 58, .int .u8 42, .int .u8 50, .int .u8 38, .int .u8 29, .int .u8 17, .int .u8 4, .int .u8 62, .int .u8 47, .int .u8 59, .int .u8 36, .int .u8 45, .int .u8 43, .int .u8 51, .int .u8 22, .int .u8 53, .int .u8 39, .int .u8 33, .int .u8 30, .int .u8 24, .int .u8 18, .int .u8 12, .int .u8 5, .int .u8 63, .int .u8 55, .int .u8 48, .int .u8 27, .int .u8 60, .int .u8 41, .int .u8 37, .int .u8 16, .int .u8 46, .int .u8 35, .int .u8 44, .int .u8 21, .int .u8 52, .int .u8 32, .int .u8 23, .int .u8 11, .int .u8 54, .int .u8 26, .int .u8 40, .int .u8 15, .int .u8 34, .int .u8 20, .int .u8 31, .int .u8 10, .int .u8 25, .int .u8 14, .int .u8 19, .int .u8 9, .int .u8 13, .int .u8 8, .int .u8 7, .int .u8 6]) t frozen | o => o)).modify 3 fun | .cells _ t frozen => .cells (#[.int .u64 1, .int .u64 10, .int .u64 100, .int .u64 1000, .int .u64 10000, .int .u64 100000, .int .u64 1000000, .int .u64 10000000, .int .u64 100000000, .int .u64 1000000000, .int .u64 10000000000, .int .u64 100000000000, .int .u64 1000000000000, .int .u64 10000000000000, .int .u64 100000000000000, .int .u64 1000000000000000, .int .u64 10000000000000000, .int .u64 100000000000000000, .int .u64 1000000000000000000, .int .u64 10000000000000000000]) t frozen | o => o)).modify 2 fun | .cells _ t frozen => .cells (#[.iface 113 (.pointer (some ⟨11, 0, none⟩))]) t frozen | o => o)).modify 1 fun | .cells _ t frozen => .cells (#[.iface 113 (.pointer (some ⟨12, 0, none⟩))]) t frozen | o => o) }) #[.string ⟨#[]⟩, .string ⟨#[]⟩] rfl (by kernel_rfl) (by kernel_rfl) (by kernel_rfl) (wit_row os enc)) ?_
  intro W base args ds gs before hval hW _ _ _ hL _ _
  exact contract H enc W base args ds gs before hval hW hL

theorem said : Rows.ParseJoinsSaid :=
  OpenClaim.holds_of_cond 4 Tryd.f4 rfl rfl rfl rfl rfl rfl rfl ⟨rfl, rfl, rfl, rfl, rfl⟩ rfl rfl rfl rfl rfl (by kernel_rfl) Tryd.func4 (by kernel_rfl)
    (of_decide_eq_true (by kernel_rfl)) (by unfold Func.isWrapper; first | (rw [if_pos (by decide +kernel)]; kernel_rfl) | (rw [if_neg (by decide +kernel)]; exact ⟨rfl, rfl⟩))
    (fun os started H enc _ F => by rw [OpenClaim.pre_eq_preRow]; exact lifted os started H enc F)

theorem plain (f : FuncId) (fn : Func) (hf : Tryd.pinned.checked.prog.funcNamed Rows.parseJoinsRow.func = some f) (hfn : Tryd.pinned.checked.prog.funcs[f]? = some fn) :
    true = Tryd.pinned.checked.prog.looks [] ∧ ∀ (j : Nat) t, fn.params[j]? = some t → Tryd.pinned.checked.prog.wantsStandIn t = false := by
  obtain rfl : f = 4 := Option.some.inj ((show Tryd.prog.funcNamed Rows.parseJoinsRow.func = some 4 by kernel_rfl).symm.trans hf) |>.symm
  obtain rfl : fn = Tryd.f4 := (Option.some.inj (Tryd.func4.symm.trans hfn)).symm
  refine ⟨by kernel_rfl, fun j t ht => ?_⟩
  rw [Tryd.params4] at ht
  have ht2 := Array.mem_of_getElem? ht
  simp only [List.mem_toArray, List.mem_cons, List.not_mem_nil, or_false] at ht2
  rcases ht2 with rfl | rfl
  · exact (show Tryd.prog.wantsStandIn 9 = false by kernel_rfl)
  · exact (show Tryd.prog.wantsStandIn 9 = false by kernel_rfl)

theorem proved : Rows.ParseJoinsCardSaid :=
  Claim7.holds_tied_plain_at .later [] _ _ _ _ said (fun _ h => by cases h) (by kernel_rfl) (fun _ h => by cases h) parseJoins_row_tie rfl ⟨rfl, rfl⟩ (by kernel_rfl) rfl plain (by kernel_rfl)
end Go.Proofs.YtbfkaanmbdekfaaDoor.parseJoins
namespace Go.Proofs.YtbfkaanmbdekfaaDoor
theorem parseJoins_holds : Rows.ParseJoinsCardSaid := parseJoins.proved
end Go.Proofs.YtbfkaanmbdekfaaDoor
