/-
  The walk over the document's own TakeField where the field has no bytes of its own (type 2, length 0) and ends where the slice's room ends.
-/
import Derived.Test.YthpaanjphpcfkaaTfR2
import Derived.Deep.DeepCutAuto
namespace Go.Proofs.Ythpaanjphpcfkaa
set_option linter.unusedVariables false
open Go.ChangeShapes Go.WideShapes Go.ChangeAt Go.RowKit
set_option maxRecDepth 20000 in
set_option maxHeartbeats 4000000 in
theorem takeFieldR_2zero (b off : Nat) (w : World) (N : Int) (k q : Nat)
    (HT : ∀ W, Below w.heap.size w W → Calls Try.prog 28 #[.slice (some ⟨b, off, none⟩) (k + q) (k + q)] W fun e w' =>
      e = .returned (.tuple #[.int .u64 N, .int .i64 k, .int .i64 0]) ∧ w' = W)
    (HT2 : ∀ W, Below w.heap.size w W → Calls Try.prog 28 #[.slice (some ⟨b, off + k, none⟩) q q] W fun e w' =>
      e = .returned (.tuple #[.int .u64 0, .int .i64 q, .int .i64 0]) ∧ w' = W)
    (hN0 : 0 ≤ N) (hN1 : N ≤ 18446744073709551615) (h1 : 1 ≤ N / 8) (h2 : N / 8 ≤ 536870911) (hty : N % 8 = 2) (hk10 : k ≤ 10) (hq10 : q ≤ 10) (hq : 1 ≤ q) :
    Calls Try.prog 15 #[.slice (some ⟨b, off, none⟩) (k + q) (k + q)] w fun e w' => TfAns w w' e ⟨N / 8, 2, 0, [], k + q, 0⟩ := by
  have HTT : Hid _ := HT
  have HTT2 : Hid _ := HT2
  clear HT HT2
  have hck : ¬ k + q = k := by omega
  go_enter Try.func15, Try.ntmps15
  go_wp2_with fail
  refine (HTT.out _ ((Below.refl _ _).alloc (Nat.le_refl _) _)).mono ?_
  rintro e w' ⟨rfl, rfl⟩
  clear HTT
  go_wp2_with fail
  refine (HTT2.out _ (((Below.refl _ _).alloc (Nat.le_refl _) _).alloc (by simp) _)).mono ?_
  rintro e w' ⟨rfl, rfl⟩
  clear HTT2
  go_wp2_with fail
  go_cut [] (fun wx => ∃ a3 c3, wx.cell? ⟨w.heap.size + 1, 0, none⟩ = some (.int .i64 (N / 8)) ∧ wx.cell? ⟨w.heap.size + 1, 1, none⟩ = some (.int .i64 2) ∧ wx.cell? ⟨w.heap.size + 1, 2, none⟩ = some (.int .u64 0) ∧ wx.cell? ⟨w.heap.size + 1, 3, none⟩ = some (.slice a3 0 c3) ∧
    (∀ o, o < 4 → ∃ v, wx.cell? ⟨w.heap.size, o, none⟩ = some v) ∧ (∀ o, wx.frozen? ⟨w.heap.size, o, none⟩ = false) ∧ Below w.heap.size w wx ∧ w.heap.size + 2 ≤ wx.heap.size ∧ (a3 = none → c3 = 0) ∧
    (∀ w', (∀ b o, w.heap.size + 2 ≤ b → w'.cell? ⟨b, o, none⟩ = wx.cell? ⟨b, o, none⟩) → IsB w' a3 0 []))
  case first =>
    have hw0 : IntKind.i64.wrap 0 = 0 := by decide
    have hw2 : IntKind.i64.wrap ((k : Int) + (q : Int)) = (k : Int) + (q : Int) := by rw [IntKind.wrap_i64]; omega
    have hA3 : 0 ≤ (k : Int) + (q : Int) := by omega
    have hmx : max ((k : Int) + (q : Int)) 0 = (k : Int) + (q : Int) := by omega
    have hT2 : ((k : Int) + (q : Int)).toNat = k + q := by omega
    have HBW : Hid (Below w.heap.size w ((w.alloc (.cells #[.int .i64 0, .int .i64 0, .int .u64 0, .slice none 0 0] 25)).alloc (.cells #[.int .i64 (N / 8), .int .i64 2, .int .u64 0, .slice none 0 0] 25)).drew) := (((Below.refl _ _).alloc (Nat.le_refl _) _).alloc (by simp) _).drew
    go_region_law (refine stepE_append rfl (.tmp 107) (.tmp 114) rfl (w.heap.size + 2) (.slice none 0 0) [] rfl (.inl (own_nil _ _)) (some ⟨b, off, none⟩) 0 0 [] rfl ⟨rfl, by simp, .inl rfl⟩ (by simp) (by simp) (by simp) ?_; intro v3 w3 hown3 hb3; simp only [List.nil_append] at hown3; obtain ⟨a3, c3, rfl, hno3, hst3⟩ := ownE_isB hown3 (by simp) (by simp); simp only [List.length_nil] at hno3 hst3 ⊢; have hb03 : Below w.heap.size w w3 := HBW.out.trans (hb3.mono (by omega)); obtain ⟨hcc, hff⟩ := below_rules hb3; have hz3 : w.heap.size + 2 ≤ w3.heap.size := (by have := hb3.size; simp at this; omega))
    all_goals
      have HCC : Hid (∀ b o, b < w.heap.size + 2 → w3.cell? ⟨b, o, none⟩ = _) := hcc
      have HFF : Hid (∀ b o, b < w.heap.size + 2 → w3.frozen? ⟨b, o, none⟩ = _) := hff
      have HST3 : Hid _ := hst3
      have HN3 : Hid _ := hno3
      clear hcc hff hst3 hno3 hw0 hw2 hA3 hmx hT2 hown3 hb3
      go_wp2_with fail
      go_meet
      have hcc := HCC.out
      have hff := HFF.out
      have hst3 := HST3.out
      have hno3 := HN3.out
      refine ⟨a3, c3, ?_, ?_, ?_, ?_, ?_, ?_, hb03.setCell (by simp) _, by simpa using hz3, fun h => (hno3 h).2, ?_⟩
      · rw [World.cell?_setCell_other _ _ _ _ (by simp), hcc _ _ (by omega)]; simp
      · rw [World.cell?_setCell_other _ _ _ _ (by simp), hcc _ _ (by omega)]; simp
      · rw [World.cell?_setCell_other _ _ _ _ (by simp), hcc _ _ (by omega)]; simp
      · refine World.cell?_setCell_same _ _ _ (u := .slice none 0 0) ?_
        rw [hcc _ _ (by omega)]; simp
      · intro o ho
        rw [World.cell?_setCell_other _ _ _ _ (by simp), hcc _ _ (by omega)]
        match o, ho with
        | 0, _ => exact ⟨_, by simp; rfl⟩
        | 1, _ => exact ⟨_, by simp; rfl⟩
        | 2, _ => exact ⟨_, by simp; rfl⟩
        | 3, _ => exact ⟨_, by simp; rfl⟩
      · intro o
        rw [World.frozen?_setCell, hff _ _ (by omega)]; simp
      · intro w' h
        exact hst3 w' (fun b o hb => (h b o hb).trans (World.cell?_setCell_other _ _ _ _ (by simp <;> omega)))
  case rest =>
    obtain ⟨a3, c3, e0, e1, e2, e3, hex, hfr, hbx, hzx, hno3, hst⟩ := hcut
    obtain ⟨v0, r0⟩ := hex 0 (by omega)
    obtain ⟨v1, r1⟩ := hex 1 (by omega)
    obtain ⟨v2, r2⟩ := hex 2 (by omega)
    obtain ⟨v3, r3⟩ := hex 3 (by omega)
    have HBX : Hid (Below w.heap.size w wc) := hbx
    have HST : Hid (∀ w', (∀ b o, w.heap.size + 2 ≤ b → w'.cell? ⟨b, o, none⟩ = wc.cell? ⟨b, o, none⟩) → IsB w' a3 0 []) := hst
    have HN3 : Hid (a3 = none → c3 = 0) := hno3
    clear hex hbx hst hno3
    go_wp2_with fail
    refine bodyPost_ret (v := .tuple #[.agg #[.int .i64 (N / 8), .int .i64 2, .int .u64 0, .slice a3 0 c3], .int .i64 (k + q), .int .i64 0]) ?_ rfl ⟨a3, 0, c3, rfl, ?_, fun h => ⟨rfl, HN3.out h⟩, ?_⟩
    · simp [results, Try.results15, go_sem, r0, r1, r2, r3]
    · refine stable_newB ?_
      intro w2 h2
      refine HST.out _ (fun b o hb => ?_)
      rw [h2 b o (by omega), World.cell?_setCell_other _ _ _ _ (by simp <;> omega), World.cell?_setCell_other _ _ _ _ (by simp <;> omega), World.cell?_setCell_other _ _ _ _ (by simp <;> omega), World.cell?_setCell_other _ _ _ _ (by simp <;> omega)]
    · exact (((HBX.out.setCell (by simp) _).setCell (by simp) _).setCell (by simp) _).setCell (by simp) _
end Go.Proofs.Ythpaanjphpcfkaa
