/-
  The walk over the program's own print.File: the text that the document says, or its error.
-/
import Derived.Test.YtngmimbpakmkiaaGreatDoorWtCz
import Derived.Test.YtngmimbpakmkiaaGreatDoorDvWz
namespace Go.Proofs.YtngmimbpakmkiaaGreatDoor
set_option linter.unusedVariables false
open Go.ChangeShapes Go.WideShapes Go.ChangeAt Go.RowKit

theorem textL_snoc (f : Nat) : ∀ (ds : List Dc) (d : Dc), ds ≠ [] → textL f (ds ++ [d]) = textL f ds ++ ([10] ++ dT f 0 d)
  | [], d, h => absurd rfl h
  | x :: t, d, _ => by
    show dT f 0 x ++ (t ++ [d]).flatMap (fun d => 10 :: dT f 0 d) = dT f 0 x ++ t.flatMap (fun d => 10 :: dT f 0 d) ++ ([10] ++ dT f 0 d)
    rw [List.flatMap_append]
    simp
theorem textL_one (f : Nat) (d : Dc) : textL f [d] = dT f 0 d := by show dT f 0 d ++ [].flatMap _ = _; simp
theorem textL_ne (f : Nat) (ds : List Dc) (h : ds ≠ []) : textL (f + 1) ds ≠ [] := by
  cases ds with
  | nil => exact absurd rfl h
  | cons d t =>
    show dT (f + 1) 0 d ++ _ ≠ []
    rw [dT]
    simp
/-- the words of what was written: an error just if there is one of the text -/
theorem words_tr {l l' : List UInt8} (h : Tr [] l l') : ((wordsL l').2.2 = 0 → (wordsL l).2.2 = 0 ∧ l' = l) ∧ ((wordsL l').2.2 ≠ 0 → (wordsL l).2.2 ≠ 0) := by
  rcases h with h | ⟨h1, h2⟩
  · rw [List.nil_append] at h
    subst h
    exact ⟨fun h => ⟨h, rfl⟩, id⟩
  · have e1 : (wordsL l').2.2 = 4 := by unfold wordsL; rw [if_pos h1]
    have e2 : (wordsL l).2.2 = 4 := by unfold wordsL; rw [if_pos (by simpa using h2)]
    rw [e1, e2]
    exact ⟨fun h => (by cases h), id⟩
set_option maxHeartbeats 32000000 in
set_option maxRecDepth 20000 in
theorem printP_any (f : Nat) (ds : List Dc) (v : Value) (w : World) (hE : Errs w) (hP : Lib.TabBelow Tryz.prog w.heap.size w "internal/strconv.uint64pow10" .u64 Lib.pow10Tab) (hf : FitD (f + 1) ds) (ht : TxtD (f + 1) ds) (h : HeldD (f + 1) w (fun b => b < w.heap.size) v ds) :
    Calls Tryz.prog 17 #[v] w fun e w' => e = .returned (.tuple #[.string (mkB (printL (f + 1) ds).1), .int .i64 (printL (f + 1) ds).2]) ∧ Below w.heap.size w w' := by
  have hFm := formedP_any (f + 1) ds v w hf ht h
  have HH := Lib.hid h
  have HFI := Lib.hid hf
  have HE := Lib.hid hE
  have HP := Lib.hid hP
  have lds := hf.1
  obtain ⟨ad, c, rfl⟩ := h.isSlD
  clear hE hP hf ht h
  unfold printL
  by_cases hfm : fmL (f + 1) 0 ds = true
  case neg =>
    have hfm' : fmL (f + 1) 0 ds = false := by simpa using hfm
    rw [hfm'] at hFm ⊢
    rw [if_neg (by decide)]
    clear hfm hfm'
    go_enter Tryz.func17, Tryz.ntmps17
    go_wp2_with fail
    refine hFm.mono ?_
    rintro e w1 ⟨rfl, hb⟩
    clear hFm
    go_wp2_with fail
    go_ret2
    exact ⟨rfl, hb⟩
  rw [if_pos hfm]
  rw [hfm] at hFm
  have HFM := Lib.hid hfm
  clear hfm
  by_cases hne : ds = []
  · subst hne
    have HT0 : Hid ((wordsL (textL (f + 1) [])).2.2 = 0 ∧ textL (f + 1) [] = []) := ⟨(by show (wordsL []).2.2 = 0; unfold wordsL; rw [if_neg (by simp)]; rfl), rfl⟩
    rw [if_pos HT0.out.1, HT0.out.2]
    have hW0 : wordsL [] = ([], (0, 0), 0) := by unfold wordsL; rw [if_neg (by simp)]; rfl
    go_enter Tryz.func17, Tryz.ntmps17
    go_wp2_with fail
    refine hFm.mono ?_
    rintro e w1 ⟨rfl, hb⟩
    have HB1 := Lib.hid hb
    clear hFm hb
    go_wp2_with fail
    have hbV : Below w1.heap.size w1 (w1.alloc (.cells #[.pointer none, .slice none 0 0] 73)) := (Below.refl _ w1).alloc (Nat.le_refl _) _
    have hV : (w1.alloc (.cells #[.pointer none, .slice none 0 0] 73)).heap[w1.heap.size]? = some (.cells #[.pointer none, .slice none 0 0] 73 (0, 0)) := alloc_heap_new _ _
    have HBV := Lib.hid (HB1.out.trans (hbV.mono HB1.out.size))
    have hSt := stringW_nil w.heap.size w1.heap.size (.pointer none) _ hV
    clear hbV hV
    go_loopw [16] (fun i wq => i = .int .i64 0 ∧ wq = w1.alloc (.cells #[.pointer none, .slice none 0 0] 73)) (fun _ _ => 0)
    case atStart => exact ⟨rfl, rfl⟩
    case round =>
      obtain ⟨rfl, rfl⟩ := hrel
      go_wp2_with fail
      refine hSt.mono ?_
      rintro e w2 ⟨rfl, hb2⟩
      have HB2 := Lib.hid (HBV.out.trans hb2)
      have hWd := wordsD_any ⟨#[]⟩ w2 (errs_below HE.out HB2.out) (by decide)
      rw [show (ByteArray.mk #[]).data.toList = [] from rfl, hW0] at hWd
      clear hSt hb2
      go_wp2_with fail
      refine hWd.mono ?_
      rintro e w3 ⟨hD, hb3⟩
      obtain ⟨ad3, c3, pl, pc, rfl, hrest⟩ := hD
      have HB3 := Lib.hid (HB2.out.trans (hb3.mono HB2.out.size))
      have HB4 := Lib.hid (HB3.out.alloc HB3.out.size (.cells #[.int .i64 pl, .int .i64 pc] 38))
      clear hWd hb3 hrest
      go_wp2_with fail
      go_ret2
      exact ⟨rfl, HB4.out⟩
  have HNE := Lib.hid hne
  clear hne
  obtain ⟨R, hR⟩ : ∃ R : List UInt8 × Int, (if (wordsL (textL (f + 1) ds)).2.2 = 0 then (textL (f + 1) ds, (0 : Int)) else ([], 4)) = R := ⟨_, rfl⟩
  rw [hR]
  have HR := Lib.hid hR
  clear hR
  go_enter Tryz.func17, Tryz.ntmps17
  go_wp2_with fail
  refine hFm.mono ?_
  rintro e w1 ⟨rfl, hb⟩
  have HB1 := Lib.hid hb
  clear hFm hb
  go_wp2_with fail
  have hbV : Below w1.heap.size w1 (w1.alloc (.cells #[.pointer none, .slice none 0 0] 73)) := (Below.refl _ w1).alloc (Nat.le_refl _) _
  have hV : (w1.alloc (.cells #[.pointer none, .slice none 0 0] 73)).heap[w1.heap.size]? = some (.cells #[.pointer none, .slice none 0 0] 73 (0, 0)) := alloc_heap_new _ _
  have hs1 := HB1.out.size
  have HBV := Lib.hid (HB1.out.trans (hbV.mono HB1.out.size))
  have HW0 : Hid (Wr w.heap.size w1.heap.size [] (w1.alloc (.cells #[.pointer none, .slice none 0 0] 73)) (w1.alloc (.cells #[.pointer none, .slice none 0 0] 73))) :=
    Wr.refl (.inl ⟨hs1, _, hV, ⟨rfl, .inl ⟨rfl, rfl⟩⟩, by simp [Value.ownBlock]⟩)
  clear hbV hV
  generalize (w1.alloc (.cells #[.pointer none, .slice none 0 0] 73)) = V at *
  have hsV := HBV.out.size
  have hbl : w1.heap.size < V.heap.size := wr_lt HW0.out.isb
  go_loopw [16] (fun i wq => ∃ (q : Nat) (m : List UInt8), q ≤ ds.length ∧ i = .int .i64 (q : Int) ∧ Tr [] (textL (f + 1) (ds.take q)) m ∧ m.length ≤ 40000 ∧ Wr w.heap.size w1.heap.size m V wq) (fun i _ => ds.length - (intOf i).toNat)
  case atStart => exact ⟨0, [], by omega, rfl, .inl (by simp [textL]), by simp, HW0.out⟩
  case round =>
    obtain ⟨q, m, hq, rfl, hTq, hml, hWq⟩ := hrel
    have HTQ := Lib.hid hTq
    have HWQ := Lib.hid hWq
    have hsq : w.heap.size ≤ wr.heap.size := by have := hWq.bel.size; omega
    have hbq := wr_lt hWq.isb
    clear hTq hWq
    by_cases hqn : q < ds.length
    · obtain ⟨x, hx⟩ : ∃ x, ds[q]? = some x := ⟨_, List.getElem?_eq_getElem hqn⟩
      obtain ⟨ad0, c0, hsl, hcc, hrows⟩ := HH.out
      rcases hrows with h0 | ⟨g, o, had, hg, hrow⟩
      · rw [h0] at hx; simp at hx
      subst had
      obtain ⟨rfl, rfl⟩ : ad = some ⟨g, o, none⟩ ∧ c = c0 := by
        injection hsl with h1 _ h3
        exact ⟨h1, h3⟩
      have b3 : wr.heap[g]? = w.heap[g]? := (HWQ.out.bel.block g hg).trans (HBV.out.block g hg)
      obtain ⟨fs1, vs1, ms1, ins1, hcell, kd1⟩ := hrow q x hx
      have kd1 : Kids f w (fun x => x < w.heap.size) fs1 vs1 ms1 ins1 x := kd1
      have kd0 := kd1
      obtain ⟨r1, r2, r3, r4⟩ := kd0
      obtain ⟨fa1, fc1, rfl⟩ := r1.isSl
      obtain ⟨va1, vc1, rfl⟩ := r2.isSl
      obtain ⟨ma1, mc1, rfl⟩ := r3.isSl
      obtain ⟨ia1, ic1, rfl⟩ := r4.isSlD
      have e0 : wr.cell? ⟨g, o + q * 8, none⟩ = some (.int .i64 x.kind) := by
        rw [World.cell?_of_block b3]
        have := hcell 0 _ rfl
        simpa [Nat.add_assoc] using this
      have e1 : wr.cell? ⟨g, o + q * 8 + 1, none⟩ = some (.string (mkB x.name)) := by
        rw [World.cell?_of_block b3]
        have := hcell 1 _ rfl
        simpa [Nat.add_assoc] using this
      have e2 : wr.cell? ⟨g, o + q * 8 + 2, none⟩ = some (.int .i64 x.line) := by
        rw [World.cell?_of_block b3]
        have := hcell 2 _ rfl
        simpa [Nat.add_assoc] using this
      have e3 : wr.cell? ⟨g, o + q * 8 + 3, none⟩ = some (.int .i64 x.col) := by
        rw [World.cell?_of_block b3]
        have := hcell 3 _ rfl
        simpa [Nat.add_assoc] using this
      have e4 : wr.cell? ⟨g, o + q * 8 + 4, none⟩ = some (.slice fa1 x.fields.length fc1) := by
        rw [World.cell?_of_block b3]
        have := hcell 4 _ rfl
        simpa [Nat.add_assoc] using this
      have e5 : wr.cell? ⟨g, o + q * 8 + 5, none⟩ = some (.slice va1 x.values.length vc1) := by
        rw [World.cell?_of_block b3]
        have := hcell 5 _ rfl
        simpa [Nat.add_assoc] using this
      have e6 : wr.cell? ⟨g, o + q * 8 + 6, none⟩ = some (.slice ma1 x.methods.length mc1) := by
        rw [World.cell?_of_block b3]
        have := hcell 6 _ rfl
        simpa [Nat.add_assoc] using this
      have e7 : wr.cell? ⟨g, o + q * 8 + 7, none⟩ = some (.slice ia1 x.inner.length ic1) := by
        rw [World.cell?_of_block b3]
        have := hcell 7 _ rfl
        simpa [Nat.add_assoc] using this
      have hfx : fmD f 0 x = true := by
        have := HFM.out
        rw [fmL_succ, List.all_eq_true] at this
        exact this x (List.mem_of_getElem? hx)
      have hfitx : FitK f x := HFI.out.2 x (List.mem_of_getElem? hx)
      have hq0 : (0 : Int) ≤ (q : Int) := by omega
      have hq1 : (q : Int) < (ds.length : Int) := by omega
      have hwq : IntKind.i64.wrap ((q : Int) + 1) = (q : Int) + 1 := by rw [IntKind.wrap_i64]; omega
      have hbY : Below wr.heap.size wr (wr.alloc (.cells #[.int .i64 x.kind, .string (mkB x.name), .int .i64 x.line, .int .i64 x.col, .slice fa1 x.fields.length fc1, .slice va1 x.values.length vc1, .slice ma1 x.methods.length mc1, .slice ia1 x.inner.length ic1] 46)) := (Below.refl _ wr).alloc (Nat.le_refl _) _
      have hY : (wr.alloc (.cells #[.int .i64 x.kind, .string (mkB x.name), .int .i64 x.line, .int .i64 x.col, .slice fa1 x.fields.length fc1, .slice va1 x.values.length vc1, .slice ma1 x.methods.length mc1, .slice ia1 x.inner.length ic1] 46)).heap[wr.heap.size]? = some (.cells #[.int .i64 x.kind, .string (mkB x.name), .int .i64 x.line, .int .i64 x.col, .slice fa1 x.fields.length fc1, .slice va1 x.values.length vc1, .slice ma1 x.methods.length mc1, .slice ia1 x.inner.length ic1] 46 (0, 0)) := alloc_heap_new _ _
      have HWY := Lib.hid (HWQ.out.below hsq hbY)
      have hsY := hbY.size
      have HKX : Hid (∀ (mm : List UInt8) (W : World), Wr w.heap.size w1.heap.size mm V W → Kids f W (fun x => x < w.heap.size) (.slice fa1 x.fields.length fc1) (.slice va1 x.values.length vc1) (.slice ma1 x.methods.length mc1) (.slice ia1 x.inner.length ic1) x) := fun mm W hW => kd1.old fun g hg => (hW.bel.block g hg).trans (HBV.out.block g hg)
      have HNX : Hid (ds.take (q + 1) = ds.take q ++ [x]) := by
        refine (?_ : _ = _)
        rw [List.take_add_one, hx]; rfl
      by_cases hz : q = 0
      · have hzn : ¬ (0 : Int) < (q : Int) := by omega
        have HZ := Lib.hid hz
        clear hz
        have hCall := declTo f w.heap.size w1.heap.size 0 m x _ _ _ _ (wr.alloc (.cells #[.int .i64 x.kind, .string (mkB x.name), .int .i64 x.line, .int .i64 x.col, .slice fa1 x.fields.length fc1, .slice va1 x.values.length vc1, .slice ma1 x.methods.length mc1, .slice ia1 x.inner.length ic1] 46)) hfx (by omega) hfitx (HKX.out _ _ HWY.out) HWY.out.isb (by omega) (HP.out.on (HBV.out.trans HWY.out.bel)) hml
        clear hx hrow b3 hcell hbY hY kd1 r1 r2 r3 r4 hfx hfitx
        go_wp2_with fail
        refine hCall.mono ?_
        rintro e W9 ⟨rfl, m', hm', hml', hW9⟩
        have HNM : Hid (Tr [] (textL (f + 1) (ds.take (q + 1))) m') := (HTQ.out.trans hm').ext (by rw [HNX.out, HZ.out, List.take_zero, List.nil_append, textL_one]; rfl)
        have HW9 := Lib.hid (HWY.out.trans hW9)
        clear hCall hm' hW9 e0 e1 e2 e3 e4 e5 e6 e7
        go_wp2_with fail
        go_roundw
        case rel => exact ⟨q + 1, m', by omega, by go_num, HNM.out, hml', HW9.out⟩
        case measure => simp [intOf]; omega
      · have hzq : (0 : Int) < (q : Int) := by omega
        have hLn := lineW w.heap.size w1.heap.size 0 m [] (.slice none 0 0) (wr.alloc (.cells #[.int .i64 x.kind, .string (mkB x.name), .int .i64 x.line, .int .i64 x.col, .slice fa1 x.fields.length fc1, .slice va1 x.values.length vc1, .slice ma1 x.methods.length mc1, .slice ia1 x.inner.length ic1] 46)) HWY.out.isb (by omega) (by omega) ⟨none, rfl, .inl rfl⟩ (by simp) (by simp) hml
        have HDC : Hid (∀ (m2 : List UInt8) (W : World), Wr w.heap.size w1.heap.size m2 V W → m2.length ≤ 40000 → Calls Tryz.prog 30 #[.pointer (some ⟨w1.heap.size, 0, none⟩), .agg #[.int .i64 x.kind, .string (mkB x.name), .int .i64 x.line, .int .i64 x.col, .slice fa1 x.fields.length fc1, .slice va1 x.values.length vc1, .slice ma1 x.methods.length mc1, .slice ia1 x.inner.length ic1], .int .i64 0] W fun e w' => e = .returned (.tuple #[]) ∧ ∃ l', Tr m2 (dT (f + 1) 0 x) l' ∧ l'.length ≤ 40000 ∧ Wr w.heap.size w1.heap.size l' V w') := fun m2 W hW hm2 =>
          (declTo f w.heap.size w1.heap.size 0 m2 x _ _ _ _ W hfx (by omega) hfitx (HKX.out _ _ hW) hW.isb (by have := hW.bel.size; omega) (HP.out.on (HBV.out.trans hW.bel)) hm2).mono fun e w' ⟨h1, l', h2, h3, h4⟩ => ⟨h1, l', h2, h3, hW.trans h4⟩
        have HTN : Hid (textL (f + 1) (ds.take (q + 1)) = textL (f + 1) (ds.take q) ++ ([10] ++ dT (f + 1) 0 x)) := by
          refine (?_ : _ = _)
          rw [HNX.out, textL_snoc]
          intro e
          have := congrArg List.length e
          rw [List.length_take, List.length_nil] at this
          omega
        have hgn : wr.heap.size ≠ w1.heap.size := by omega
        have HY := Lib.hid hY
        clear hx hrow b3 hcell hbY hY kd1 r1 r2 r3 r4 hfx hfitx
        go_wp2_with fail
        refine hLn.mono ?_
        rintro e W8 ⟨rfl, m8, hm8, hml8, hW8⟩
        have hyb := hW8.block HY.out (by decide) hgn
        have y0 : W8.cell? ⟨wr.heap.size, 0, none⟩ = some (.int .i64 x.kind) := by simp [World.cell?, hyb]
        have y1 : W8.cell? ⟨wr.heap.size, 1, none⟩ = some (.string (mkB x.name)) := by simp [World.cell?, hyb]
        have y2 : W8.cell? ⟨wr.heap.size, 2, none⟩ = some (.int .i64 x.line) := by simp [World.cell?, hyb]
        have y3 : W8.cell? ⟨wr.heap.size, 3, none⟩ = some (.int .i64 x.col) := by simp [World.cell?, hyb]
        have y4 : W8.cell? ⟨wr.heap.size, 4, none⟩ = some (.slice fa1 x.fields.length fc1) := by simp [World.cell?, hyb]
        have y5 : W8.cell? ⟨wr.heap.size, 5, none⟩ = some (.slice va1 x.values.length vc1) := by simp [World.cell?, hyb]
        have y6 : W8.cell? ⟨wr.heap.size, 6, none⟩ = some (.slice ma1 x.methods.length mc1) := by simp [World.cell?, hyb]
        have y7 : W8.cell? ⟨wr.heap.size, 7, none⟩ = some (.slice ia1 x.inner.length ic1) := by simp [World.cell?, hyb]
        have hCall := HDC.out m8 W8 (HWY.out.trans hW8) hml8
        have HM8 := Lib.hid hm8
        clear hLn hm8 hW8 hyb e0 e1 e2 e3 e4 e5 e6 e7
        go_wp2_with fail
        refine hCall.mono ?_
        rintro e W9 ⟨rfl, m', hm', hml', hW9⟩
        have HNM : Hid (Tr [] (textL (f + 1) (ds.take (q + 1))) m') := ((HTQ.out.trans HM8.out).trans hm').ext (by rw [HTN.out]; simp [tb])
        have HW9 := Lib.hid hW9
        clear hCall hm' hW9 y0 y1 y2 y3 y4 y5 y6 y7
        go_wp2_with fail
        go_roundw
        case rel => exact ⟨q + 1, m', by omega, by go_num, HNM.out, hml', HW9.out⟩
        case measure => simp [intOf]; omega
    · have hqn' : ¬ (q : Int) < (ds.length : Int) := by omega
      have hqe : ds.take q = ds := List.take_of_length_le (by omega)
      rw [hqe] at HTQ
      clear hqe
      have hmne : m ≠ [] := by
        rcases HTQ.out with h | ⟨h, _⟩
        · rw [h, List.nil_append]; exact textL_ne f ds HNE.out
        · intro e; rw [e] at h; simp at h
      have hSt := stringW w.heap.size w1.heap.size m wr HWQ.out.isb hmne
      obtain ⟨t1, t2⟩ := words_tr HTQ.out
      have T1 := Lib.hid t1
      have T2 := Lib.hid t2
      have HB5 := Lib.hid (HBV.out.trans HWQ.out.bel)
      clear t1 t2 hmne
      go_wp2_with fail
      refine hSt.mono ?_
      rintro e w2 ⟨rfl, hb2⟩
      have HB2 := Lib.hid (HB5.out.trans hb2)
      have hWd := wordsD_any ⟨m.toArray⟩ w2 (errs_below HE.out HB2.out) (by show m.toArray.size ≤ _; simp; omega)
      rw [show (ByteArray.mk m.toArray).data.toList = m from rfl] at hWd
      clear hSt hb2
      go_wp2_with fail
      refine hWd.mono ?_
      rintro e w3 ⟨hD, hb3⟩
      obtain ⟨ad3, c3, pl, pc, rfl, hrest⟩ := hD
      have HB3 := Lib.hid (HB2.out.trans (hb3.mono HB2.out.size))
      have HB4 := Lib.hid (HB3.out.alloc HB3.out.size (.cells #[.int .i64 pl, .int .i64 pc] 38))
      clear hWd hb3 hrest
      by_cases hw0 : (wordsL m).2.2 = 0
      · obtain ⟨h1, h2⟩ := T1.out hw0
        have HRR : Hid (R = (m, 0)) := by
          refine (?_ : _ = _)
          rw [← HR.out, if_pos h1, h2]
        have hw0' : ((wordsL m).2.2 != 0) = false := by rw [hw0]; rfl
        rw [hw0]
        clear h1 h2 hw0 hw0'
        go_wp2_with fail
        go_ret2
        exact ⟨by rw [HRR.out]; rfl, HB4.out⟩
      · have HRR : Hid (R = ([], 4)) := by
          refine (?_ : _ = _)
          rw [← HR.out, if_neg (T2.out hw0)]
        have hw0' : ((wordsL m).2.2 != 0) = true := by simpa using hw0
        go_wp2_with fail
        go_ret2
        exact ⟨by rw [HRR.out]; rfl, HB4.out⟩
end Go.Proofs.YtngmimbpakmkiaaGreatDoor
