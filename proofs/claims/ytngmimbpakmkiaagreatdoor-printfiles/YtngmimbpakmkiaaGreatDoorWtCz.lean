/-
  The walk over the program's own writer: a declaration is written as the document says, or more than is looked at.
-/
import Derived.Test.YtngmimbpakmkiaaGreatDoorWtBz
namespace Go.Proofs.YtngmimbpakmkiaaGreatDoor
set_option linter.unusedVariables false
open Go.ChangeShapes Go.WideShapes Go.ChangeAt Go.RowKit

/-- what declaration is to write, so deep -/
def DeclTo (f : Nat) : Prop := ∀ (B b k : Nat) (l : List UInt8) (d : Dc) (fs vs ms ins : Value) (w : World), fmD f k d = true → k ≤ 8 → FitK f d → Kids f w (fun x => x < B) fs vs ms ins d → Lib.IsBuilderF 73 5 B b (Lib.byteCells l) w → B ≤ w.heap.size → Lib.TabBelow Tryz.prog B w "internal/strconv.uint64pow10" .u64 Lib.pow10Tab → l.length ≤ 40000 →
    Calls Tryz.prog 30 #[.pointer (some ⟨b, 0, none⟩), .agg #[.int .i64 d.kind, .string (mkB d.name), .int .i64 d.line, .int .i64 d.col, fs, vs, ms, ins], .int .i64 (k : Int)] w fun e w' => e = .returned (.tuple #[]) ∧ ∃ l', Tr l (dT (f + 1) k d) l' ∧ l'.length ≤ 40000 ∧ Wr B b l' w w'
set_option maxHeartbeats 32000000 in
set_option maxRecDepth 20000 in
theorem declW (f : Nat) (HIN : ∀ (B b k : Nat) (l : List UInt8) (x : Dc) (fs vs ms ins : Value) (w : World), (∃ g, f = g + 1 ∧ fmD g k x = true ∧ FitK g x ∧ Kids g w (fun x => x < B) fs vs ms ins x) → k ≤ 8 → Lib.IsBuilderF 73 5 B b (Lib.byteCells l) w → B ≤ w.heap.size → Lib.TabBelow Tryz.prog B w "internal/strconv.uint64pow10" .u64 Lib.pow10Tab → l.length ≤ 40000 →
    Calls Tryz.prog 30 #[.pointer (some ⟨b, 0, none⟩), .agg #[.int .i64 x.kind, .string (mkB x.name), .int .i64 x.line, .int .i64 x.col, fs, vs, ms, ins], .int .i64 (k : Int)] w fun e w' => e = .returned (.tuple #[]) ∧ ∃ l', Tr l (dT f k x) l' ∧ l'.length ≤ 40000 ∧ Wr B b l' w w') : DeclTo f := by
  intro B b k l d fs vs ms ins w hfm hk8 hfit kd hw hBw hP hl
  obtain ⟨r1, r2, r3, r4⟩ := kd
  obtain ⟨fa, fc, rfl⟩ := r1.isSl
  obtain ⟨va, vc, rfl⟩ := r2.isSl
  obtain ⟨ma, mc, rfl⟩ := r3.isSl
  obtain ⟨ia, ic, rfl⟩ := r4.isSlD
  have hinn := fm_inner hfm
  obtain ⟨p0, pk, pf, pv, pm, p1, p2, p3, p4⟩ := fmD_parts hfm
  have hin8 : d.inner ≠ [] → k < 8 := fun hne => by
    by_cases h1 : d.kind = 1
    · exact (p1 h1).1
    · exact absurd (p2 h1).1 hne
  rw [List.all_eq_true] at pf pv pm
  have HPF := Lib.hid pf
  have HPV := Lib.hid pv
  have HPM := Lib.hid pm
  have HR1 := Lib.hid r1
  have HR2 := Lib.hid r2
  have HR3 := Lib.hid r3
  have HR4 := Lib.hid r4
  have HIN2 := Lib.hid hinn
  have HIN8 := Lib.hid hin8
  have nl := plain_len p0
  have lf := hfit.1
  have lv := hfit.2.1
  have lm := hfit.2.2.1
  have HFI := Lib.hid hfit.2.2.2
  have li : d.inner.length ≤ 100000 := by
    cases f with
    | zero => rw [r4.1]; simp
    | succ f => exact hfit.2.2.2.1
  have hbl := wr_lt hw
  have hkl : (kindT d.kind).length ≤ 8 := by unfold kindT; split; decide; split <;> decide
  have hbV : Below w.heap.size w (w.alloc (.cells #[.int .i64 d.kind, .string (mkB d.name), .int .i64 d.line, .int .i64 d.col, .slice fa d.fields.length fc, .slice va d.values.length vc, .slice ma d.methods.length mc, .slice ia d.inner.length ic] 46)) := (Below.refl w.heap.size w).alloc (Nat.le_refl _) _
  have hV : (w.alloc (.cells #[.int .i64 d.kind, .string (mkB d.name), .int .i64 d.line, .int .i64 d.col, .slice fa d.fields.length fc, .slice va d.values.length vc, .slice ma d.methods.length mc, .slice ia d.inner.length ic] 46)).heap[w.heap.size]? = some (.cells #[.int .i64 d.kind, .string (mkB d.name), .int .i64 d.line, .int .i64 d.col, .slice fa d.fields.length fc, .slice va d.values.length vc, .slice ma d.methods.length mc, .slice ia d.inner.length ic] 46 (0, 0)) := alloc_heap_new _ _
  have hWV : Wr B b l w (w.alloc (.cells #[.int .i64 d.kind, .string (mkB d.name), .int .i64 d.line, .int .i64 d.col, .slice fa d.fields.length fc, .slice va d.values.length vc, .slice ma d.methods.length mc, .slice ia d.inner.length ic] 46)) := (Wr.refl hw).below hBw hbV
  have hPV : Lib.TabBelow Tryz.prog B (w.alloc (.cells #[.int .i64 d.kind, .string (mkB d.name), .int .i64 d.line, .int .i64 d.col, .slice fa d.fields.length fc, .slice va d.values.length vc, .slice ma d.methods.length mc, .slice ia d.inner.length ic] 46)) "internal/strconv.uint64pow10" .u64 Lib.pow10Tab := hP.on (hbV.mono hBw)
  clear pf pv pm r1 r2 r3 r4 hinn hin8 hfm hfit p0 p1 p2 p3 p4 hP hw
  go_enter Tryz.func30, Tryz.ntmps30
  go_upto_region 1 with fail
  generalize (w.alloc (.cells #[.int .i64 d.kind, .string (mkB d.name), .int .i64 d.line, .int .i64 d.col, .slice fa d.fields.length fc, .slice va d.values.length vc, .slice ma d.methods.length mc, .slice ia d.inner.length ic] 46)) = V at *
  have HWV := Lib.hid hWV
  have HV := Lib.hid hV
  have HP := Lib.hid hPV
  have hsV := hbV.size
  have HBV := Lib.hid hbV
  have hbn : w.heap.size ≠ b := by omega
  have hBV : B ≤ V.heap.size := by omega
  clear hWV hPV hbV
  have HBX : Hid (∀ (m : List UInt8) (W : World), Wr B b m V W → W.heap[w.heap.size]? = some (.cells #[.int .i64 d.kind, .string (mkB d.name), .int .i64 d.line, .int .i64 d.col, .slice fa d.fields.length fc, .slice va d.values.length vc, .slice ma d.methods.length mc, .slice ia d.inner.length ic] 46 (0, 0)) ∧ B ≤ W.heap.size) := fun m W hW => ⟨hW.block HV.out (by decide) hbn, by have := hW.bel.size; omega⟩
  have HLD : Hid (∀ (g : Nat), g < B → ∀ (m : List UInt8) (W : World), Wr B b m V W → W.heap[g]? = w.heap[g]?) := fun g hg m W hW => (hW.bel.block g hg).trans (HBV.out.block g (by omega))
  have HL1 : Hid (∀ (cs : Array Value), cs = (([kindT d.kind, [32], d.name, [32, 123]] : List (List UInt8)).map fun y => Value.string (mkB y)).toArray → Calls Tryz.prog 29 #[.pointer (some ⟨b, 0, none⟩), .int .i64 (k : Int), .slice (some ⟨V.heap.size, 0, none⟩) 4 4] (V.drew.alloc (.cells cs 9)) fun e w' => e = .returned (.tuple #[]) ∧ ∃ l', Tr l (tb k ++ (kindT d.kind ++ 32 :: (d.name ++ [32, 123, 10]))) l' ∧ l'.length ≤ 40000 ∧ Wr B b l' V w') := fun cs hcs => by
    have e : tb k ++ (kindT d.kind ++ 32 :: (d.name ++ [32, 123, 10])) = tb k ++ (([kindT d.kind, [32], d.name, [32, 123]] : List (List UInt8)).flatMap id ++ [10]) := by simp
    rw [e]
    exact lineN B b k l _ V V.drew ((Wr.refl HWV.out.isb).below hBV (Below.refl _ V).drew) (by omega) hBV 4 rfl (by omega) (by omega) cs hcs (by simp; omega) hl
  have hc0 : ∀ W : World, W.heap[w.heap.size]? = some (.cells #[.int .i64 d.kind, .string (mkB d.name), .int .i64 d.line, .int .i64 d.col, .slice fa d.fields.length fc, .slice va d.values.length vc, .slice ma d.methods.length mc, .slice ia d.inner.length ic] 46 (0, 0)) → W.cell? ⟨w.heap.size, 0, none⟩ = some (.int .i64 d.kind) := fun W h => by simp [World.cell?, h]
  have hc1 : ∀ W : World, W.heap[w.heap.size]? = some (.cells #[.int .i64 d.kind, .string (mkB d.name), .int .i64 d.line, .int .i64 d.col, .slice fa d.fields.length fc, .slice va d.values.length vc, .slice ma d.methods.length mc, .slice ia d.inner.length ic] 46 (0, 0)) → W.cell? ⟨w.heap.size, 1, none⟩ = some (.string (mkB d.name)) := fun W h => by simp [World.cell?, h]
  have hVa : ∀ o, (V.drew.alloc o).heap[w.heap.size]? = some (.cells #[.int .i64 d.kind, .string (mkB d.name), .int .i64 d.line, .int .i64 d.col, .slice fa d.fields.length fc, .slice va d.values.length vc, .slice ma d.methods.length mc, .slice ia d.inner.length ic] 46 (0, 0)) := fun o => (alloc_heap_old V o _ (blk_lt hV)).trans hV
  have hWd := fun W => wordP_any d.kind W pk
  go_region_held_law (fun W' => W'.heap[w.heap.size]? = some (.cells #[.int .i64 d.kind, .string (mkB d.name), .int .i64 d.line, .int .i64 d.col, .slice fa d.fields.length fc, .slice va d.values.length vc, .slice ma d.methods.length mc, .slice ia d.inner.length ic] 46 (0, 0))) (first | exact hV | exact hVa _ | exact hV6 | assumption) (first
      | (go_at_call 47; refine (hWd _).mono ?_; rintro e W5 ⟨rfl, rfl⟩)
      | (go_at_call 29; refine (HL1.out _ rfl).mono ?_; rintro e W6 ⟨rfl, l1, hT1, hl1, hW6⟩; have hV6 := (HBX.out _ _ hW6).1))
  all_goals
    have HW6 := Lib.hid hW6
    have HT1 := Lib.hid hT1
    have q4 : W6.cell? ⟨w.heap.size, 4, none⟩ = some (.slice fa d.fields.length fc) := by simp [World.cell?, hV6]
    clear hT1 hW6 hc0 hc1 hVa hWd HL1 hV6 hV
    go_wp2_with fail
    clear q4
    have HTX := Lib.hid HT1.out
    have HWX := Lib.hid HW6.out
    have hlX := hl1
    clear HT1 HW6
    go_loopw [26] (fun i wq => ∃ (q : Nat) (m : List UInt8), q ≤ d.fields.length ∧ i = .int .i64 (q : Int) ∧ Tr l ((tb k ++ (kindT d.kind ++ 32 :: (d.name ++ [32, 123, 10]))) ++ (d.fields.take q).flatMap (fT (k + 1))) m ∧ m.length ≤ 40000 ∧ Wr B b m V wq) (fun i _ => d.fields.length - (intOf i).toNat)
    case atStart => exact ⟨0, _, by omega, rfl, (HTX.out).ext (by rw [List.take_zero, List.flatMap_nil, List.append_nil]), hlX, HWX.out⟩
    case round =>
      obtain ⟨q, m, hq, rfl, hTq, hml, hWq⟩ := hrel
      have HTQ := Lib.hid hTq
      have HWQ := Lib.hid hWq
      have hsq := (HBX.out _ _ hWq).2
      have hboxq := (HBX.out _ _ hWq).1
      have HBOX := Lib.hid hboxq
      clear hTq hWq hboxq HTX HWX hlX
      by_cases hqn : q < d.fields.length
      · obtain ⟨x, hx⟩ : ∃ x, d.fields[q]? = some x := ⟨_, List.getElem?_eq_getElem hqn⟩
        have HNX : Hid (∀ m', Tr m (fT (k + 1) x) m' → Tr l ((tb k ++ (kindT d.kind ++ 32 :: (d.name ++ [32, 123, 10]))) ++ (d.fields.take (q + 1)).flatMap (fT (k + 1))) m') := fun m' hm => (HTQ.out.trans hm).ext (by rw [List.take_add_one, hx, List.flatMap_append, List.append_assoc]; simp)
        have hq0 : (0 : Int) ≤ (q : Int) := by omega
        have hq1 : (q : Int) < (d.fields.length : Int) := by omega
        have hwq : IntKind.i64.wrap ((q : Int) + 1) = (q : Int) + 1 := by rw [IntKind.wrap_i64]; omega
        have hwk : IntKind.i64.wrap ((k : Int) + 1) = ((k + 1 : Nat) : Int) := by rw [IntKind.wrap_i64]; omega
        obtain ⟨ad0, c0, hsl, hcc, hrows⟩ := HR1.out
        rcases hrows with h0 | ⟨g, o, had, hg, hrow⟩
        · rw [h0] at hx; simp at hx
        subst had
        have hsl : Value.slice fa d.fields.length fc = .slice (some ⟨g, o, none⟩) d.fields.length c0 := hsl
        obtain ⟨rfl, rfl⟩ : fa = some ⟨g, o, none⟩ ∧ fc = c0 := by
          injection hsl with h1 _ h3
          exact ⟨h1, h3⟩
        have b3 := HLD.out g hg _ _ HWQ.out
        have hcell := hrow q x hx
        have e0 : wr.cell? ⟨g, o + q * 6, none⟩ = some (.bool x.rep) := by
          rw [World.cell?_of_block b3]
          have := hcell 0 _ rfl
          simpa [Nat.add_assoc] using this
        have e1 : wr.cell? ⟨g, o + q * 6 + 1, none⟩ = some (.string (mkB x.type)) := by
          rw [World.cell?_of_block b3]
          have := hcell 1 _ rfl
          simpa [Nat.add_assoc] using this
        have e2 : wr.cell? ⟨g, o + q * 6 + 2, none⟩ = some (.string (mkB x.name)) := by
          rw [World.cell?_of_block b3]
          have := hcell 2 _ rfl
          simpa [Nat.add_assoc] using this
        have e3 : wr.cell? ⟨g, o + q * 6 + 3, none⟩ = some (.int .i64 x.num) := by
          rw [World.cell?_of_block b3]
          have := hcell 3 _ rfl
          simpa [Nat.add_assoc] using this
        have e4 : wr.cell? ⟨g, o + q * 6 + 4, none⟩ = some (.int .i64 x.line) := by
          rw [World.cell?_of_block b3]
          have := hcell 4 _ rfl
          simpa [Nat.add_assoc] using this
        have e5 : wr.cell? ⟨g, o + q * 6 + 5, none⟩ = some (.int .i64 x.col) := by
          rw [World.cell?_of_block b3]
          have := hcell 5 _ rfl
          simpa [Nat.add_assoc] using this
        have hbY : Below wr.heap.size wr (wr.alloc (.cells #[.bool x.rep, .string (mkB x.type), .string (mkB x.name), .int .i64 x.num, .int .i64 x.line, .int .i64 x.col] 48)) := (Below.refl _ wr).alloc (Nat.le_refl _) _
        have HWY := Lib.hid (HWQ.out.below hsq hbY)
        have hCall := fieldW B b (k + 1) m x (wr.alloc (.cells #[.bool x.rep, .string (mkB x.type), .string (mkB x.name), .int .i64 x.num, .int .i64 x.line, .int .i64 x.col] 48)) HWY.out.isb (by omega) (by have := hbY.size; omega) (HPF.out x (List.mem_of_getElem? hx)) hml (HP.out.on HWY.out.bel)
        clear hx hrow b3 hcell hbY
        go_wp2_with fail
        refine hCall.mono ?_
        rintro e W9 ⟨rfl, m', hm', hml', hW9⟩
        have HNM := Lib.hid (HNX.out m' hm')
        have HW9 := Lib.hid (HWY.out.trans hW9)
        clear hCall hm' hW9 e0 e1 e2 e3 e4 e5
        go_wp2_with fail
        go_roundw
        case rel => exact ⟨q + 1, m', by omega, by go_num, HNM.out, hml', HW9.out⟩
        case measure => simp [intOf]; omega
      · have hqn' : ¬ (q : Int) < (d.fields.length : Int) := by omega
        have hqe : d.fields.take q = d.fields := List.take_of_length_le (by omega)
        rw [hqe] at HTQ
        have HTX := Lib.hid HTQ.out
        have HWX := Lib.hid HWQ.out
        have hlX := hml
        clear hqe HTQ HWQ
        have qc : wr.cell? ⟨w.heap.size, 5, none⟩ = some (.slice va d.values.length vc) := by simp [World.cell?, HBOX.out]
        go_wp2_with fail
        clear qc hqn' hqn hq
        generalize wr = w0 at *
        go_loopw [39] (fun i wq => ∃ (q : Nat) (m : List UInt8), q ≤ d.values.length ∧ i = .int .i64 (q : Int) ∧ Tr l ((tb k ++ (kindT d.kind ++ 32 :: (d.name ++ [32, 123, 10])) ++ d.fields.flatMap (fT (k + 1))) ++ (d.values.take q).flatMap (vT (k + 1))) m ∧ m.length ≤ 40000 ∧ Wr B b m V wq) (fun i _ => d.values.length - (intOf i).toNat)
        case atStart => exact ⟨0, _, by omega, rfl, (HTX.out).ext (by rw [List.take_zero, List.flatMap_nil, List.append_nil]), hlX, HWX.out⟩
        case round =>
          obtain ⟨q, m, hq, rfl, hTq, hml, hWq⟩ := hrel
          have HTQ := Lib.hid hTq
          have HWQ := Lib.hid hWq
          have hsq := (HBX.out _ _ hWq).2
          have hboxq := (HBX.out _ _ hWq).1
          have HBOX := Lib.hid hboxq
          clear hTq hWq hboxq HTX HWX hlX
          by_cases hqn : q < d.values.length
          · obtain ⟨x, hx⟩ : ∃ x, d.values[q]? = some x := ⟨_, List.getElem?_eq_getElem hqn⟩
            have HNX : Hid (∀ m', Tr m (vT (k + 1) x) m' → Tr l ((tb k ++ (kindT d.kind ++ 32 :: (d.name ++ [32, 123, 10])) ++ d.fields.flatMap (fT (k + 1))) ++ (d.values.take (q + 1)).flatMap (vT (k + 1))) m') := fun m' hm => (HTQ.out.trans hm).ext (by rw [List.take_add_one, hx, List.flatMap_append, List.append_assoc]; simp)
            have hq0 : (0 : Int) ≤ (q : Int) := by omega
            have hq1 : (q : Int) < (d.values.length : Int) := by omega
            have hwq : IntKind.i64.wrap ((q : Int) + 1) = (q : Int) + 1 := by rw [IntKind.wrap_i64]; omega
            have hwk : IntKind.i64.wrap ((k : Int) + 1) = ((k + 1 : Nat) : Int) := by rw [IntKind.wrap_i64]; omega
            obtain ⟨ad0, c0, hsl, hcc, hrows⟩ := HR2.out
            rcases hrows with h0 | ⟨g, o, had, hg, hrow⟩
            · rw [h0] at hx; simp at hx
            subst had
            have hsl : Value.slice va d.values.length vc = .slice (some ⟨g, o, none⟩) d.values.length c0 := hsl
            obtain ⟨rfl, rfl⟩ : va = some ⟨g, o, none⟩ ∧ vc = c0 := by
              injection hsl with h1 _ h3
              exact ⟨h1, h3⟩
            have b3 := HLD.out g hg _ _ HWQ.out
            have hcell := hrow q x hx
            have e0 : wr.cell? ⟨g, o + q * 4, none⟩ = some (.string (mkB x.name)) := by
              rw [World.cell?_of_block b3]
              have := hcell 0 _ rfl
              simpa [Nat.add_assoc] using this
            have e1 : wr.cell? ⟨g, o + q * 4 + 1, none⟩ = some (.int .i64 x.num) := by
              rw [World.cell?_of_block b3]
              have := hcell 1 _ rfl
              simpa [Nat.add_assoc] using this
            have e2 : wr.cell? ⟨g, o + q * 4 + 2, none⟩ = some (.int .i64 x.line) := by
              rw [World.cell?_of_block b3]
              have := hcell 2 _ rfl
              simpa [Nat.add_assoc] using this
            have e3 : wr.cell? ⟨g, o + q * 4 + 3, none⟩ = some (.int .i64 x.col) := by
              rw [World.cell?_of_block b3]
              have := hcell 3 _ rfl
              simpa [Nat.add_assoc] using this
            have hbY : Below wr.heap.size wr (wr.alloc (.cells #[.string (mkB x.name), .int .i64 x.num, .int .i64 x.line, .int .i64 x.col] 59)) := (Below.refl _ wr).alloc (Nat.le_refl _) _
            have HWY := Lib.hid (HWQ.out.below hsq hbY)
            obtain ⟨v1, v2⟩ := vOK_parts (HPV.out x (List.mem_of_getElem? hx))
            have v3 := num_len v2
            have hY : (wr.alloc (.cells #[.string (mkB x.name), .int .i64 x.num, .int .i64 x.line, .int .i64 x.col] 59)).heap[wr.heap.size]? = some (.cells #[.string (mkB x.name), .int .i64 x.num, .int .i64 x.line, .int .i64 x.col] 59 (0, 0)) := alloc_heap_new _ _
            have hsY := hbY.size
            go_upto_region 10 with fail
            generalize (wr.alloc (.cells #[.string (mkB x.name), .int .i64 x.num, .int .i64 x.line, .int .i64 x.col] 59)) = Y at *
            have hlt := blk_lt hY
            have hI := itoaW x.num v2 Y.drew (HP.out _ (HWY.out.bel.drew))
            have hc0 : ∀ W : World, W.heap[wr.heap.size]? = some (.cells #[.string (mkB x.name), .int .i64 x.num, .int .i64 x.line, .int .i64 x.col] 59 (0, 0)) → W.cell? ⟨wr.heap.size, 0, none⟩ = some (.string (mkB x.name)) := fun W h => by simp [World.cell?, h]
            have hc1 : ∀ W : World, W.heap[wr.heap.size]? = some (.cells #[.string (mkB x.name), .int .i64 x.num, .int .i64 x.line, .int .i64 x.col] 59 (0, 0)) → W.cell? ⟨wr.heap.size, 1, none⟩ = some (.int .i64 x.num) := fun W h => by simp [World.cell?, h]
            have hbn2 : wr.heap.size ≠ b := by have := wr_lt HWQ.out.isb; omega
            have HL2 : Hid (∀ (cs : Array Value), cs = (([x.name, [32, 61, 32], Lib.itoa x.num, [59]] : List (List UInt8)).map fun y => Value.string (mkB y)).toArray → ∀ W, Below Y.heap.size Y W → Calls Tryz.prog 29 #[.pointer (some ⟨b, 0, none⟩), .int .i64 ((k + 1 : Nat) : Int), .slice (some ⟨W.heap.size, 0, none⟩) 4 4] (W.alloc (.cells cs 9)) fun e w' => e = .returned (.tuple #[]) ∧ ∃ l', Tr m (vT (k + 1) x) l' ∧ l'.length ≤ 40000 ∧ Wr B b l' Y w') := fun cs hcs W hb => by
              have e : vT (k + 1) x = tb (k + 1) ++ (([x.name, [32, 61, 32], Lib.itoa x.num, [59]] : List (List UInt8)).flatMap id ++ [10]) := by unfold vT; simp
              rw [e]
              exact lineN B b (k + 1) m _ Y W ((Wr.refl HWY.out.isb).below (by omega) hb) (by omega) (by have := hb.size; omega) 4 rfl (by omega) (by omega) cs hcs (by simp; omega) hml
            clear hx hrow b3 hcell hbY e0 e1 e2 e3
            go_region_held_law (fun W' => W'.heap[wr.heap.size]? = some (.cells #[.string (mkB x.name), .int .i64 x.num, .int .i64 x.line, .int .i64 x.col] 59 (0, 0))) (first | exact hY | exact hV5 | exact hV5a _ | exact hV6 | assumption) (first
                | (go_at_call 49; refine hI.mono ?_; rintro e W5 ⟨rfl, hw5⟩; have hb5 : Below Y.heap.size Y W5 := (Below.refl _ Y).drew.trans hw5; clear hw5; have hV5 := (hb5.block _ hlt).trans hY; have hV5a : ∀ o, (W5.alloc o).heap[wr.heap.size]? = some (.cells #[.string (mkB x.name), .int .i64 x.num, .int .i64 x.line, .int .i64 x.col] 59 (0, 0)) := fun o => (alloc_heap_old _ _ _ (blk_lt hV5)).trans hV5)
                | (go_at_call 29; refine (HL2.out _ rfl _ hb5).mono ?_; rintro e W9 ⟨rfl, m', hm', hml', hW9⟩; have hV6 := hW9.block hY (by decide) hbn2))
            all_goals
              have HNM := Lib.hid (HNX.out m' hm')
              have HW9 := Lib.hid (HWY.out.trans hW9)
              clear hm' hW9 hI hc0 hc1 HL2 hY hV6 hV5 hV5a hb5
              go_wp2_with fail
              go_roundw
              case rel => exact ⟨q + 1, m', by omega, by go_num, HNM.out, hml', HW9.out⟩
              case measure => simp [intOf]; omega
          · have hqn' : ¬ (q : Int) < (d.values.length : Int) := by omega
            have hqe : d.values.take q = d.values := List.take_of_length_le (by omega)
            rw [hqe] at HTQ
            have HTX := Lib.hid HTQ.out
            have HWX := Lib.hid HWQ.out
            have hlX := hml
            clear hqe HTQ HWQ
            have qc : wr.cell? ⟨w.heap.size, 6, none⟩ = some (.slice ma d.methods.length mc) := by simp [World.cell?, HBOX.out]
            go_wp2_with fail
            clear qc hqn' hqn hq
            generalize wr = w1 at *
            go_loopw [57] (fun i wq => ∃ (q : Nat) (m : List UInt8), q ≤ d.methods.length ∧ i = .int .i64 (q : Int) ∧ Tr l ((tb k ++ (kindT d.kind ++ 32 :: (d.name ++ [32, 123, 10])) ++ d.fields.flatMap (fT (k + 1)) ++ d.values.flatMap (vT (k + 1))) ++ (d.methods.take q).flatMap (mT (k + 1))) m ∧ m.length ≤ 40000 ∧ Wr B b m V wq) (fun i _ => d.methods.length - (intOf i).toNat)
            case atStart => exact ⟨0, _, by omega, rfl, (HTX.out).ext (by rw [List.take_zero, List.flatMap_nil, List.append_nil]), hlX, HWX.out⟩
            case round =>
              obtain ⟨q, m, hq, rfl, hTq, hml, hWq⟩ := hrel
              have HTQ := Lib.hid hTq
              have HWQ := Lib.hid hWq
              have hsq := (HBX.out _ _ hWq).2
              have hboxq := (HBX.out _ _ hWq).1
              have HBOX := Lib.hid hboxq
              clear hTq hWq hboxq HTX HWX hlX
              by_cases hqn : q < d.methods.length
              · obtain ⟨x, hx⟩ : ∃ x, d.methods[q]? = some x := ⟨_, List.getElem?_eq_getElem hqn⟩
                have HNX : Hid (∀ m', Tr m (mT (k + 1) x) m' → Tr l ((tb k ++ (kindT d.kind ++ 32 :: (d.name ++ [32, 123, 10])) ++ d.fields.flatMap (fT (k + 1)) ++ d.values.flatMap (vT (k + 1))) ++ (d.methods.take (q + 1)).flatMap (mT (k + 1))) m') := fun m' hm => (HTQ.out.trans hm).ext (by rw [List.take_add_one, hx, List.flatMap_append, List.append_assoc]; simp)
                have hq0 : (0 : Int) ≤ (q : Int) := by omega
                have hq1 : (q : Int) < (d.methods.length : Int) := by omega
                have hwq : IntKind.i64.wrap ((q : Int) + 1) = (q : Int) + 1 := by rw [IntKind.wrap_i64]; omega
                have hwk : IntKind.i64.wrap ((k : Int) + 1) = ((k + 1 : Nat) : Int) := by rw [IntKind.wrap_i64]; omega
                obtain ⟨ad0, c0, hsl, hcc, hrows⟩ := HR3.out
                rcases hrows with h0 | ⟨g, o, had, hg, hrow⟩
                · rw [h0] at hx; simp at hx
                subst had
                have hsl : Value.slice ma d.methods.length mc = .slice (some ⟨g, o, none⟩) d.methods.length c0 := hsl
                obtain ⟨rfl, rfl⟩ : ma = some ⟨g, o, none⟩ ∧ mc = c0 := by
                  injection hsl with h1 _ h3
                  exact ⟨h1, h3⟩
                have b3 := HLD.out g hg _ _ HWQ.out
                have hcell := hrow q x hx
                have e0 : wr.cell? ⟨g, o + q * 5, none⟩ = some (.string (mkB x.name)) := by
                  rw [World.cell?_of_block b3]
                  have := hcell 0 _ rfl
                  simpa [Nat.add_assoc] using this
                have e1 : wr.cell? ⟨g, o + q * 5 + 1, none⟩ = some (.string (mkB x.inp)) := by
                  rw [World.cell?_of_block b3]
                  have := hcell 1 _ rfl
                  simpa [Nat.add_assoc] using this
                have e2 : wr.cell? ⟨g, o + q * 5 + 2, none⟩ = some (.string (mkB x.out)) := by
                  rw [World.cell?_of_block b3]
                  have := hcell 2 _ rfl
                  simpa [Nat.add_assoc] using this
                have e3 : wr.cell? ⟨g, o + q * 5 + 3, none⟩ = some (.int .i64 x.line) := by
                  rw [World.cell?_of_block b3]
                  have := hcell 3 _ rfl
                  simpa [Nat.add_assoc] using this
                have e4 : wr.cell? ⟨g, o + q * 5 + 4, none⟩ = some (.int .i64 x.col) := by
                  rw [World.cell?_of_block b3]
                  have := hcell 4 _ rfl
                  simpa [Nat.add_assoc] using this
                have hbY : Below wr.heap.size wr (wr.alloc (.cells #[.string (mkB x.name), .string (mkB x.inp), .string (mkB x.out), .int .i64 x.line, .int .i64 x.col] 62)) := (Below.refl _ wr).alloc (Nat.le_refl _) _
                have HWY := Lib.hid (HWQ.out.below hsq hbY)
                obtain ⟨v1, v2, v3⟩ := mOK_parts (HPM.out x (List.mem_of_getElem? hx))
                have hY : (wr.alloc (.cells #[.string (mkB x.name), .string (mkB x.inp), .string (mkB x.out), .int .i64 x.line, .int .i64 x.col] 62)).heap[wr.heap.size]? = some (.cells #[.string (mkB x.name), .string (mkB x.inp), .string (mkB x.out), .int .i64 x.line, .int .i64 x.col] 62 (0, 0)) := alloc_heap_new _ _
                have hsY := hbY.size
                go_upto_region 15 with fail
                generalize (wr.alloc (.cells #[.string (mkB x.name), .string (mkB x.inp), .string (mkB x.out), .int .i64 x.line, .int .i64 x.col] 62)) = Y at *
                have hc0 : Y.cell? ⟨wr.heap.size, 0, none⟩ = some (.string (mkB x.name)) := by simp [World.cell?, hY]
                have hc1 : Y.cell? ⟨wr.heap.size, 1, none⟩ = some (.string (mkB x.inp)) := by simp [World.cell?, hY]
                have hc2 : Y.cell? ⟨wr.heap.size, 2, none⟩ = some (.string (mkB x.out)) := by simp [World.cell?, hY]
                have HL3 : Hid (∀ (cs : Array Value), cs = (([[114, 112, 99, 32], x.name, [40], x.inp, [41, 32, 114, 101, 116, 117, 114, 110, 115, 32, 40], x.out, [41, 59]] : List (List UInt8)).map fun y => Value.string (mkB y)).toArray → Calls Tryz.prog 29 #[.pointer (some ⟨b, 0, none⟩), .int .i64 ((k + 1 : Nat) : Int), .slice (some ⟨Y.heap.size, 0, none⟩) 7 7] (Y.alloc (.cells cs 9)) fun e w' => e = .returned (.tuple #[]) ∧ ∃ l', Tr m (mT (k + 1) x) l' ∧ l'.length ≤ 40000 ∧ Wr B b l' V w') := fun cs hcs => by
                  have e : mT (k + 1) x = tb (k + 1) ++ (([[114, 112, 99, 32], x.name, [40], x.inp, [41, 32, 114, 101, 116, 117, 114, 110, 115, 32, 40], x.out, [41, 59]] : List (List UInt8)).flatMap id ++ [10]) := by unfold mT; simp
                  rw [e]
                  exact lineN B b (k + 1) m _ V Y HWY.out (by omega) (by omega) 7 rfl (by omega) (by omega) cs hcs (by simp; omega) hml
                have hCall := HL3.out _ rfl
                clear hx hrow b3 hcell hbY hY e0 e1 e2 e3 e4
                go_wp2_with fail
                refine hCall.mono ?_
                rintro e W9 ⟨rfl, m', hm', hml', hW9⟩
                have HNM := Lib.hid (HNX.out m' hm')
                have HW9 := Lib.hid hW9
                clear hCall hm' hW9 hc0 hc1 hc2 HL3
                go_wp2_with fail
                go_roundw
                case rel => exact ⟨q + 1, m', by omega, by go_num, HNM.out, hml', HW9.out⟩
                case measure => simp [intOf]; omega
              · have hqn' : ¬ (q : Int) < (d.methods.length : Int) := by omega
                have hqe : d.methods.take q = d.methods := List.take_of_length_le (by omega)
                rw [hqe] at HTQ
                have HTX := Lib.hid HTQ.out
                have HWX := Lib.hid HWQ.out
                have hlX := hml
                clear hqe HTQ HWQ
                have qc : wr.cell? ⟨w.heap.size, 7, none⟩ = some (.slice ia d.inner.length ic) := by simp [World.cell?, HBOX.out]
                go_wp2_with fail
                clear qc hqn' hqn hq
                generalize wr = w2 at *
                go_loopw [76] (fun i wq => ∃ (q : Nat) (m : List UInt8), q ≤ d.inner.length ∧ i = .int .i64 (q : Int) ∧ Tr l ((tb k ++ (kindT d.kind ++ 32 :: (d.name ++ [32, 123, 10])) ++ d.fields.flatMap (fT (k + 1)) ++ d.values.flatMap (vT (k + 1)) ++ d.methods.flatMap (mT (k + 1))) ++ (d.inner.take q).flatMap (dT f (k + 1))) m ∧ m.length ≤ 40000 ∧ Wr B b m V wq) (fun i _ => d.inner.length - (intOf i).toNat)
                case atStart => exact ⟨0, _, by omega, rfl, (HTX.out).ext (by rw [List.take_zero, List.flatMap_nil, List.append_nil]), hlX, HWX.out⟩
                case round =>
                  obtain ⟨q, m, hq, rfl, hTq, hml, hWq⟩ := hrel
                  have HTQ := Lib.hid hTq
                  have HWQ := Lib.hid hWq
                  have hsq := (HBX.out _ _ hWq).2
                  have hboxq := (HBX.out _ _ hWq).1
                  have HBOX := Lib.hid hboxq
                  clear hTq hWq hboxq HTX HWX hlX
                  by_cases hqn : q < d.inner.length
                  · obtain ⟨x, hx⟩ : ∃ x, d.inner[q]? = some x := ⟨_, List.getElem?_eq_getElem hqn⟩
                    have HNX : Hid (∀ m', Tr m (dT f (k + 1) x) m' → Tr l ((tb k ++ (kindT d.kind ++ 32 :: (d.name ++ [32, 123, 10])) ++ d.fields.flatMap (fT (k + 1)) ++ d.values.flatMap (vT (k + 1)) ++ d.methods.flatMap (mT (k + 1))) ++ (d.inner.take (q + 1)).flatMap (dT f (k + 1))) m') := fun m' hm => (HTQ.out.trans hm).ext (by rw [List.take_add_one, hx, List.flatMap_append, List.append_assoc]; simp)
                    have hq0 : (0 : Int) ≤ (q : Int) := by omega
                    have hq1 : (q : Int) < (d.inner.length : Int) := by omega
                    have hwq : IntKind.i64.wrap ((q : Int) + 1) = (q : Int) + 1 := by rw [IntKind.wrap_i64]; omega
                    have hwk : IntKind.i64.wrap ((k : Int) + 1) = ((k + 1 : Nat) : Int) := by rw [IntKind.wrap_i64]; omega
                    have hk8' := HIN8.out (by intro e; rw [e] at hqn; simp at hqn)
                    cases f with
                    | zero =>
                      have h0 := HR4.out.1
                      rw [h0] at hqn; simp at hqn
                    | succ f =>
                      obtain ⟨ad0, c0, hsl, hcc, hrows⟩ := HR4.out
                      rcases hrows with h0 | ⟨g, o, had, hg, hrow⟩
                      · rw [h0] at hx; simp at hx
                      subst had
                      have hsl : Value.slice ia d.inner.length ic = .slice (some ⟨g, o, none⟩) d.inner.length c0 := hsl
                      obtain ⟨rfl, rfl⟩ : ia = some ⟨g, o, none⟩ ∧ ic = c0 := by
                        injection hsl with h1 _ h3
                        exact ⟨h1, h3⟩
                      have b3 := HLD.out g hg _ _ HWQ.out
                      obtain ⟨fs1, vs1, ms1, ins1, hcell, kd1⟩ := hrow q x hx
                      have kd1 : Kids f w (fun x => x < B) fs1 vs1 ms1 ins1 x := kd1
                      have kd0 := kd1
                      obtain ⟨r1, r2, r3, r4⟩ := kd0
                      obtain ⟨fa1, fc1, rfl⟩ := r1.isSl
                      obtain ⟨va1, vc1, rfl⟩ := r2.isSl
                      obtain ⟨ma1, mc1, rfl⟩ := r3.isSl
                      obtain ⟨ia1, ic1, rfl⟩ := r4.isSlD
                      have e0 : wr.cell? ⟨g, o + q * 8, none⟩ = some (.int .i64 x.kind) := by
                        rw [World.cell?_of_block b3]
                        have := hcell 0 _ rfl
                        simpa [Nat.add_assoc] using this
                      have e1 : wr.cell? ⟨g, o + q * 8 + 1, none⟩ = some (.string (mkB x.name)) := by
                        rw [World.cell?_of_block b3]
                        have := hcell 1 _ rfl
                        simpa [Nat.add_assoc] using this
                      have e2 : wr.cell? ⟨g, o + q * 8 + 2, none⟩ = some (.int .i64 x.line) := by
                        rw [World.cell?_of_block b3]
                        have := hcell 2 _ rfl
                        simpa [Nat.add_assoc] using this
                      have e3 : wr.cell? ⟨g, o + q * 8 + 3, none⟩ = some (.int .i64 x.col) := by
                        rw [World.cell?_of_block b3]
                        have := hcell 3 _ rfl
                        simpa [Nat.add_assoc] using this
                      have e4 : wr.cell? ⟨g, o + q * 8 + 4, none⟩ = some (.slice fa1 x.fields.length fc1) := by
                        rw [World.cell?_of_block b3]
                        have := hcell 4 _ rfl
                        simpa [Nat.add_assoc] using this
                      have e5 : wr.cell? ⟨g, o + q * 8 + 5, none⟩ = some (.slice va1 x.values.length vc1) := by
                        rw [World.cell?_of_block b3]
                        have := hcell 5 _ rfl
                        simpa [Nat.add_assoc] using this
                      have e6 : wr.cell? ⟨g, o + q * 8 + 6, none⟩ = some (.slice ma1 x.methods.length mc1) := by
                        rw [World.cell?_of_block b3]
                        have := hcell 6 _ rfl
                        simpa [Nat.add_assoc] using this
                      have e7 : wr.cell? ⟨g, o + q * 8 + 7, none⟩ = some (.slice ia1 x.inner.length ic1) := by
                        rw [World.cell?_of_block b3]
                        have := hcell 7 _ rfl
                        simpa [Nat.add_assoc] using this
                      have hbY : Below wr.heap.size wr (wr.alloc (.cells #[.int .i64 x.kind, .string (mkB x.name), .int .i64 x.line, .int .i64 x.col, .slice fa1 x.fields.length fc1, .slice va1 x.values.length vc1, .slice ma1 x.methods.length mc1, .slice ia1 x.inner.length ic1] 46)) := (Below.refl _ wr).alloc (Nat.le_refl _) _
                      have HWY := Lib.hid (HWQ.out.below hsq hbY)
                      have hfx : fmD f (k + 1) x = true := by
                        have := HIN2.out
                        rw [fmL_succ, List.all_eq_true] at this
                        exact this x (List.mem_of_getElem? hx)
                      have hfitx : FitK f x := HFI.out.2 x (List.mem_of_getElem? hx)
                      have hkx : Kids f (wr.alloc (.cells #[.int .i64 x.kind, .string (mkB x.name), .int .i64 x.line, .int .i64 x.col, .slice fa1 x.fields.length fc1, .slice va1 x.values.length vc1, .slice ma1 x.methods.length mc1, .slice ia1 x.inner.length ic1] 46)) (fun x => x < B) _ _ _ _ x := kd1.old fun g hg => (HLD.out g hg _ _ HWY.out)
                      have hCall := HIN B b (k + 1) m x _ _ _ _ (wr.alloc (.cells #[.int .i64 x.kind, .string (mkB x.name), .int .i64 x.line, .int .i64 x.col, .slice fa1 x.fields.length fc1, .slice va1 x.values.length vc1, .slice ma1 x.methods.length mc1, .slice ia1 x.inner.length ic1] 46)) ⟨f, rfl, hfx, hfitx, hkx⟩ (by omega) HWY.out.isb (by have := hbY.size; omega) (HP.out.on HWY.out.bel) hml
                      clear hx hrow b3 hcell hbY kd1 r1 r2 r3 r4 hfx hfitx hkx
                      go_wp2_with fail
                      refine hCall.mono ?_
                      rintro e W9 ⟨rfl, m', hm', hml', hW9⟩
                      have HNM := Lib.hid (HNX.out m' hm')
                      have HW9 := Lib.hid (HWY.out.trans hW9)
                      clear hCall hm' hW9 e0 e1 e2 e3 e4 e5 e6 e7
                      go_wp2_with fail
                      go_roundw
                      case rel => exact ⟨q + 1, m', by omega, by go_num, HNM.out, hml', HW9.out⟩
                      case measure => simp [intOf]; omega
                  · have hqn' : ¬ (q : Int) < (d.inner.length : Int) := by omega
                    have hqe : d.inner.take q = d.inner := List.take_of_length_le (by omega)
                    rw [hqe] at HTQ
                    have HTX := Lib.hid HTQ.out
                    have HWX := Lib.hid HWQ.out
                    have hlX := hml
                    clear hqe HTQ HWQ
                    have HL5 : Hid (∀ (cs : Array Value), cs = (([[125]] : List (List UInt8)).map fun y => Value.string (mkB y)).toArray → Calls Tryz.prog 29 #[.pointer (some ⟨b, 0, none⟩), .int .i64 (k : Int), .slice (some ⟨wr.heap.size, 0, none⟩) 1 1] (wr.alloc (.cells cs 9)) fun e w' => e = .returned (.tuple #[]) ∧ ∃ l', Tr m (tb k ++ [125, 10]) l' ∧ l'.length ≤ 40000 ∧ Wr B b l' V w') := fun cs hcs => by
                      have e : tb k ++ [125, 10] = tb k ++ (([[125]] : List (List UInt8)).flatMap id ++ [10]) := by simp
                      rw [e]
                      exact lineN B b k m _ V wr HWX.out (by omega) hsq 1 rfl (by omega) (by omega) cs hcs (by simp) hml
                    have hCall := HL5.out _ rfl
                    clear HL5
                    go_wp2_with fail
                    refine hCall.mono ?_
                    rintro e W9 ⟨rfl, m', hm', hml', hW9⟩
                    have HW9 := Lib.hid (HWV.out.trans hW9)
                    have HNM := Lib.hid (HTX.out.trans hm')
                    clear hCall hm' hW9
                    go_wp2_with fail
                    go_end0
                    exact ⟨rfl, m', HNM.out.ext (by rw [dT]; simp), hml', HW9.out⟩
theorem declTo : ∀ f : Nat, DeclTo f := by
  intro f
  induction f with
  | zero => exact declW 0 (fun B b k l x fs vs ms ins w h => by
      obtain ⟨g, h, _⟩ := h
      omega)
  | succ f ih => exact declW (f + 1) (fun B b k l x fs vs ms ins w h hk hw hB hP hl => by
      obtain ⟨g, h, h1, h2, h3⟩ := h
      have : g = f := by omega
      subst this
      exact ih B b k l x fs vs ms ins w h1 hk h2 h3 hw hB hP hl)
end Go.Proofs.YtngmimbpakmkiaaGreatDoor
