/-
  The walk over the document's own text: what it writes of one declaration that is formed.
-/
import Derived.Test.YtngmimbpakmkiaaGreatDoorFnRz
import Derived.Test.YtngmimbpakmkiaaGreatDoorSlCz
import Derived.Test.YtngmimbpakmkiaaGreatDoorAw6z
import Derived.BigQuiet
namespace Go.Proofs.YtngmimbpakmkiaaGreatDoor
set_option linter.unusedVariables false
open Go.ChangeShapes Go.WideShapes Go.ChangeAt Go.RowKit

theorem sumS (a b : ByteArray) (n : Nat) (ha : a.size ≤ n) (hn : n + b.size ≤ 9223372036854775807) (W : World) : (Op.stringOp .add a b).run Tryz.prog W = .ok (.string (a ++ b)) W :=
  run_string_add_sum W _ _ (by omega)
theorem takeLen {α : Type} (g : α → List UInt8) (xs : List α) (q : Nat) : ((xs.take q).flatMap g).length ≤ (xs.flatMap g).length := by
  have := congrArg List.length (congrArg (List.flatMap g) (List.take_append_drop q xs))
  rw [List.flatMap_append, List.length_append] at this
  omega
theorem memLen {α : Type} (g : α → List UInt8) {xs : List α} {x : α} (h : x ∈ xs) : (g x).length ≤ (xs.flatMap g).length := by
  obtain ⟨a, b, rfl⟩ := List.append_of_mem h
  rw [List.flatMap_append, List.flatMap_cons]
  simp only [List.length_append]
  omega
def hdT (k : Nat) (d : Dc) : List UInt8 := tb k ++ (kindT d.kind ++ 32 :: (d.name ++ [32, 123, 10]))
/-- what text is to answer, so deep -/
def TextR (f : Nat) : Prop := ∀ (k : Nat) (d : Dc) (fs vs ms ins : Value) (w : World), k ≤ 8 → fmD f k d = true → (dT (f + 1) k d).length ≤ 4000000 → Pow w → FitK f d → Kids f w (fun b => b < w.heap.size) fs vs ms ins d →
    Calls Tryz.prog 33 #[.agg #[.int .i64 d.kind, .string (mkB d.name), .int .i64 d.line, .int .i64 d.col, fs, vs, ms, ins], .string (mkB (tb k))] w fun e w' => e = .returned (.string (mkB (dT (f + 1) k d))) ∧ Below w.heap.size w w'
set_option maxHeartbeats 32000000 in
set_option maxRecDepth 100000 in
theorem textW (f : Nat) (IH : ∀ g, f = g + 1 → TextR g) : TextR f := by
  intro k d fs vs ms ins w hk8 hfm hlen hP hfit kd
  obtain ⟨p0, pk, pf, pv, pm, p1, p2, p3, p4⟩ := fmD_parts hfm
  rw [List.all_eq_true] at pf pv pm
  have HPF := Lib.hid pf
  have HPV := Lib.hid pv
  have HPM := Lib.hid pm
  have HIN := Lib.hid (fm_inner hfm)
  have HK1 : Hid (d.inner ≠ [] → k + 1 ≤ 8) := fun h => by
    by_cases h1 : d.kind = 1
    · exact (p1 h1).1
    · exact absurd (p2 h1).1 h
  have hnm := plain_len p0
  have hkl : (kindT d.kind).length ≤ 8 := by unfold kindT; split; decide; split <;> decide
  have htb := tb_len k
  have htb1 := tb_len (k + 1)
  obtain ⟨r1, r2, r3, r4⟩ := kd
  obtain ⟨fa, fc, rfl⟩ := r1.isSl
  obtain ⟨va, vc, rfl⟩ := r2.isSl
  obtain ⟨ma, mc, rfl⟩ := r3.isSl
  obtain ⟨ia, ic, rfl⟩ := r4.isSlD
  have HR1 := Lib.hid r1
  have HR2 := Lib.hid r2
  have HR3 := Lib.hid r3
  have HR4 := Lib.hid r4
  have HP := Lib.hid hP
  have HFK := Lib.hid hfit.2.2.2
  have lf := hfit.1
  have lv := hfit.2.1
  have lm := hfit.2.2.1
  have li : d.inner.length ≤ 100000 := by
    cases f with
    | zero => rw [r4.1]; simp
    | succ f => exact hfit.2.2.2.1
  obtain ⟨R, hR⟩ : ∃ R, dT (f + 1) k d = R := ⟨_, rfl⟩
  have HR : Hid (R = hdT k d ++ (d.fields.flatMap (fT (k + 1)) ++ (d.values.flatMap (vT (k + 1)) ++ (d.methods.flatMap (mT (k + 1)) ++ (d.inner.flatMap (dT f (k + 1)) ++ (tb k ++ [125, 10])))))) := by
    refine (?_ : _ = _); rw [← hR]; rfl
  rw [hR] at hlen ⊢
  have hbV := (Below.refl w.heap.size w).alloc (Nat.le_refl _) (.cells #[.int .i64 d.kind, .string (mkB d.name), .int .i64 d.line, .int .i64 d.col, .slice fa d.fields.length fc, .slice va d.values.length vc, .slice ma d.methods.length mc, .slice ia d.inner.length ic] 56)
  have hV : (w.alloc (.cells #[.int .i64 d.kind, .string (mkB d.name), .int .i64 d.line, .int .i64 d.col, .slice fa d.fields.length fc, .slice va d.values.length vc, .slice ma d.methods.length mc, .slice ia d.inner.length ic] 56)).heap[w.heap.size]? = some (.cells #[.int .i64 d.kind, .string (mkB d.name), .int .i64 d.line, .int .i64 d.col, .slice fa d.fields.length fc, .slice va d.values.length vc, .slice ma d.methods.length mc, .slice ia d.inner.length ic] 56 (0, 0)) := alloc_heap_new _ _
  have hHD : hdT k d = tb k ++ (kindT d.kind ++ 32 :: (d.name ++ [32, 123, 10])) := rfl
  clear r1 r2 r3 r4 hP hfit hR hfm pf pv pm p0 p1 p2 p3 p4
  obtain ⟨kd, hkd⟩ : ∃ x, d.kind = x := ⟨_, rfl⟩
  rw [hkd] at hV hbV pk hHD hkl ⊢
  clear hkd
  obtain ⟨KT, hKT⟩ : ∃ x, kindT kd = x := ⟨_, rfl⟩
  have hix : ∀ W : World, (Instr.index 111 (.agg #[.string ⟨#[109, 101, 115, 115, 97, 103, 101]⟩, .string ⟨#[101, 110, 117, 109]⟩, .string ⟨#[115, 101, 114, 118, 105, 99, 101]⟩]) (.int .i64 (kd - 1))).run Tryz.prog W = .ok (.string (mkB KT)) W := fun W => by
    rw [← hKT]
    rcases pk with rfl | rfl | rfl <;> rfl
  have hwk : IntKind.i64.wrap (kd - 1) = kd - 1 := by rw [IntKind.wrap_i64]; omega
  have hkr : 0 ≤ kd - 1 := by omega
  have hkr2 : kd - 1 < 3 := by omega
  have HHD : Hid (mkB (tb k) ++ mkB KT ++ ⟨#[32]⟩ ++ mkB d.name ++ ⟨#[32, 123, 10]⟩ = mkB (hdT k d)) := by
    refine (?_ : _ = _)
    rw [hHD, hKT]
    show mkB (tb k) ++ mkB KT ++ mkB [32] ++ mkB d.name ++ mkB [32, 123, 10] = _
    simp only [← mkB_app]
    simp
  rw [hKT] at hkl
  clear hKT hHD pk
  have z1 : (⟨#[32]⟩ : ByteArray).size = 1 := rfl
  have z3 : (⟨#[32, 123, 10]⟩ : ByteArray).size = 3 := rfl
  have zt : (mkB (tb k)).size = k := by rw [mkB_len, htb]
  have zk : (mkB KT).size ≤ 8 := by rw [mkB_len]; exact hkl
  have zn : (mkB d.name).size ≤ 160 := by rw [mkB_len]; exact hnm
  have s1 := sumS (mkB (tb k)) (mkB KT) 8 (by omega) (by omega)
  have s2 := sumS (mkB (tb k) ++ mkB KT) ⟨#[32]⟩ 16 (by rw [ByteArray.size_append]; omega) (by rw [z1]; omega)
  have s3 := sumS (mkB (tb k) ++ mkB KT ++ ⟨#[32]⟩) (mkB d.name) 17 (by simp only [ByteArray.size_append]; rw [z1]; omega) (by omega)
  have s4 := sumS (mkB (tb k) ++ mkB KT ++ ⟨#[32]⟩ ++ mkB d.name) ⟨#[32, 123, 10]⟩ 200 (by simp only [ByteArray.size_append]; rw [z1]; omega) (by rw [z3]; omega)
  have s5 := sumS (mkB (tb k)) ⟨#[9]⟩ 8 (by omega) (by rw [show (⟨#[9]⟩ : ByteArray).size = 1 from rfl]; omega)
  have HTB : Hid (mkB (tb k) ++ ⟨#[9]⟩ = mkB (tb (k + 1))) := by
    refine (?_ : _ = _)
    show mkB (tb k) ++ mkB [9] = _
    rw [← mkB_app]
    unfold tb
    rw [List.replicate_succ']
  go_enter Tryz.func33, Tryz.ntmps33
  go_upto_region 1 with fail
  generalize (w.alloc (.cells #[.int .i64 kd, .string (mkB d.name), .int .i64 d.line, .int .i64 d.col, .slice fa d.fields.length fc, .slice va d.values.length vc, .slice ma d.methods.length mc, .slice ia d.inner.length ic] 56)) = V at *
  have HB := Lib.hid hbV
  have HV := Lib.hid hV
  have hlt := blk_lt hV
  have hsV := hbV.size
  have c0 : V.cell? ⟨w.heap.size, 0, none⟩ = some (.int .i64 kd) := by simp [World.cell?, hV]
  have c1 : V.cell? ⟨w.heap.size, 1, none⟩ = some (.string (mkB d.name)) := by simp [World.cell?, hV]
  have HBX : Hid (∀ W, Below V.heap.size V W → W.heap[w.heap.size]? = some (.cells #[.int .i64 kd, .string (mkB d.name), .int .i64 d.line, .int .i64 d.col, .slice fa d.fields.length fc, .slice va d.values.length vc, .slice ma d.methods.length mc, .slice ia d.inner.length ic] 56 (0, 0))) := fun W hW => (hW.block _ hlt).trans HV.out
  have HLD : Hid (∀ W, Below V.heap.size V W → ∀ g, g < w.heap.size → W.heap[g]? = w.heap[g]?) := fun W hW g hg => (hW.block g (by omega)).trans (HB.out.block g hg)
  have HBW : Hid (∀ W, Below V.heap.size V W → Below w.heap.size w W) := fun W hW => HB.out.trans (hW.mono HB.out.size)
  clear hV hbV
  go_quiet (fail)
  have hbn : Below V.heap.size V (V.drewN nq) := ⟨rfl, rfl, rfl, Nat.le_refl _, fun _ _ => rfl⟩
  generalize V.drewN nq = V1 at *
  have HB1 := Lib.hid hbn
  have hX1 := HBX.out V1 hbn
  have c4 : V1.cell? ⟨w.heap.size, 4, none⟩ = some (.slice fa d.fields.length fc) := by simp [World.cell?, hX1]
  rw [HHD.out]
  clear s1 s2 s3 s4 hix hwk hkr hkr2 c0 c1 hbn hX1 HHD z1 z3 zk zn hkl
  go_wp2_with fail
  rw [HTB.out]
  clear c4 s5 HTB zt
  have hl0 : (hdT k d).length + (d.fields.flatMap (fT (k + 1))).length + (d.values.flatMap (vT (k + 1))).length + (d.methods.flatMap (mT (k + 1))).length + (d.inner.flatMap (dT f (k + 1))).length ≤ 4000000 := by
    have h1 := HR.out
    rw [h1] at hlen
    simp only [List.length_append] at hlen
    omega
  clear hlen
  obtain ⟨H0, hH0⟩ : ∃ x, hdT k d = x := ⟨_, rfl⟩
  rw [hH0] at hl0 HR ⊢
  clear hH0
  go_loopw [5, 30] (fun s i wq => ∃ q : Nat, q ≤ d.fields.length ∧ i = .int .i64 (q : Int) ∧ s = .string (mkB (H0 ++ (d.fields.take q).flatMap (fT (k + 1)))) ∧ Below V.heap.size V wq) (fun _ i _ => d.fields.length - (intOf i).toNat)
  case atStart => exact ⟨0, by omega, rfl, by simp, HB1.out⟩
  case round =>
    obtain ⟨q, hq, rfl, rfl, hbq⟩ := hrel
    have HBQ := Lib.hid hbq
    have hX := HBX.out wr hbq
    have xb : wr.cell? ⟨w.heap.size, 4, none⟩ = some (.slice fa d.fields.length fc) := by simp [World.cell?, hX]
    have HX := Lib.hid hX
    have hltr := blk_lt hX
    have hsw := hbq.size
    clear hbq hX
    have hml : (H0 ++ (d.fields.take q).flatMap (fT (k + 1))).length ≤ 4000000 := by
      have := takeLen (fT (k + 1)) d.fields q
      rw [List.length_append]; omega
    by_cases hqn : q < d.fields.length
    · obtain ⟨x, hx⟩ : ∃ x, d.fields[q]? = some x := ⟨_, List.getElem?_eq_getElem hqn⟩
      have HNX : Hid (∀ y, H0 ++ (d.fields.take (q + 1)).flatMap (fT (k + 1)) = y ↔ H0 ++ (d.fields.take q).flatMap (fT (k + 1)) ++ fT (k + 1) x = y) := by
        refine (?_ : ∀ _, _)
        intro y
        rw [List.take_add_one, hx, List.flatMap_append, ← List.append_assoc]; simp
      have hq0 : (0 : Int) ≤ (q : Int) := by omega
      have hq1 : (q : Int) < (d.fields.length : Int) := by omega
      have hwq : IntKind.i64.wrap ((q : Int) + 1) = (q : Int) + 1 := by rw [IntKind.wrap_i64]; omega
      obtain ⟨p1, p2, p3⟩ := fOK_parts (HPF.out x (List.mem_of_getElem? hx))
      have p4 := num_len p3
      obtain ⟨m, hm⟩ : ∃ m, H0 ++ (d.fields.take q).flatMap (fT (k + 1)) = m := ⟨_, rfl⟩
      rw [hm] at hml HNX ⊢
      clear hm
      obtain ⟨ad0, c0, hsl, hcc, hrows⟩ := HR1.out
      rcases hrows with h0 | ⟨g, o, had, hg, hrow⟩
      · rw [h0] at hx; simp at hx
      subst had
      obtain ⟨rfl, rfl⟩ : fa = some ⟨g, o, none⟩ ∧ fc = c0 := by
        injection hsl with h1 _ h3
        exact ⟨h1, h3⟩
      have b3 := HLD.out wr HBQ.out g hg
      obtain ⟨RR, hRR⟩ : ∃ r, x.rep = r := ⟨_, rfl⟩
      have e0 : wr.cell? ⟨g, o + q * 6, none⟩ = some (.bool RR) := by
        rw [World.cell?_of_block b3, ← hRR]; have := hrow q x hx 0 _ rfl; simpa [Nat.add_assoc] using this
      have e1 : wr.cell? ⟨g, o + q * 6 + 1, none⟩ = some (.string (mkB x.type)) := by
        rw [World.cell?_of_block b3]; have := hrow q x hx 1 _ rfl; simpa [Nat.add_assoc] using this
      have e2 : wr.cell? ⟨g, o + q * 6 + 2, none⟩ = some (.string (mkB x.name)) := by
        rw [World.cell?_of_block b3]; have := hrow q x hx 2 _ rfl; simpa [Nat.add_assoc] using this
      have e3 : wr.cell? ⟨g, o + q * 6 + 3, none⟩ = some (.int .i64 x.num) := by
        rw [World.cell?_of_block b3]; have := hrow q x hx 3 _ rfl; simpa [Nat.add_assoc] using this
      have e4 : wr.cell? ⟨g, o + q * 6 + 4, none⟩ = some (.int .i64 x.line) := by
        rw [World.cell?_of_block b3]; have := hrow q x hx 4 _ rfl; simpa [Nat.add_assoc] using this
      have e5 : wr.cell? ⟨g, o + q * 6 + 5, none⟩ = some (.int .i64 x.col) := by
        rw [World.cell?_of_block b3]; have := hrow q x hx 5 _ rfl; simpa [Nat.add_assoc] using this
      have hbY : Below wr.heap.size wr (wr.alloc (.cells #[.bool RR, .string (mkB x.type), .string (mkB x.name), .int .i64 x.num, .int .i64 x.line, .int .i64 x.col] 57)) := (Below.refl _ wr).alloc (Nat.le_refl _) _
      have hY : (wr.alloc (.cells #[.bool RR, .string (mkB x.type), .string (mkB x.name), .int .i64 x.num, .int .i64 x.line, .int .i64 x.col] 57)).heap[wr.heap.size]? = some (.cells #[.bool RR, .string (mkB x.type), .string (mkB x.name), .int .i64 x.num, .int .i64 x.line, .int .i64 x.col] 57 (0, 0)) := alloc_heap_new _ _
      have HBY := Lib.hid (HBQ.out.trans (hbY.mono hsw))
      have z0 : (mkB m).size ≤ 4000000 := by rw [mkB_len]; exact hml
      have zt : (mkB (tb (k + 1))).size ≤ 9 := by rw [mkB_len, htb1]; omega
      have zy : (mkB x.type).size ≤ 2000 := by rw [mkB_len]; exact p1
      have zn : (mkB x.name).size ≤ 160 := by rw [mkB_len]; exact p2
      have zi : (mkB (Lib.itoa x.num)).size ≤ 21 := by rw [mkB_len]; exact p4
      have t0 := sumS (mkB m) (mkB (tb (k + 1))) 4000000 z0 (by omega)
      have tr := sumS (mkB m ++ mkB (tb (k + 1))) ⟨#[114, 101, 112, 101, 97, 116, 101, 100, 32]⟩ 4000009 (by rw [ByteArray.size_append]; omega) (by decide)
      have HEQ : Hid (mkB (m ++ fT (k + 1) x) = mkB m ++ mkB (tb (k + 1)) ++ mkB (if RR = true then tRepeated ++ [32] else []) ++ mkB x.type ++ ⟨#[32]⟩ ++ mkB x.name ++ ⟨#[32, 61, 32]⟩ ++ mkB (Lib.itoa x.num) ++ ⟨#[59, 10]⟩) := by
        refine (?_ : _ = _)
        show _ = mkB m ++ mkB (tb (k + 1)) ++ mkB (if RR = true then tRepeated ++ [32] else []) ++ mkB x.type ++ mkB [32] ++ mkB x.name ++ mkB [32, 61, 32] ++ mkB (Lib.itoa x.num) ++ mkB [59, 10]
        simp only [← mkB_app]
        unfold fT
        rw [hRR]
        simp
      clear hx hrow b3 hRR hsl hcc
      go_upto_region 8 with fail
      generalize (wr.alloc (.cells #[.bool RR, .string (mkB x.type), .string (mkB x.name), .int .i64 x.num, .int .i64 x.line, .int .i64 x.col] 57)) = Y at *
      have hlY := blk_lt hY
      have c0 : Y.cell? ⟨wr.heap.size, 0, none⟩ = some (.bool RR) := by simp [World.cell?, hY]
      have hc1 : ∀ W : World, W.heap[wr.heap.size]? = some (.cells #[.bool RR, .string (mkB x.type), .string (mkB x.name), .int .i64 x.num, .int .i64 x.line, .int .i64 x.col] 57 (0, 0)) → W.cell? ⟨wr.heap.size, 1, none⟩ = some (.string (mkB x.type)) := fun W h => by simp [World.cell?, h]
      have hc2 : ∀ W : World, W.heap[wr.heap.size]? = some (.cells #[.bool RR, .string (mkB x.type), .string (mkB x.name), .int .i64 x.num, .int .i64 x.line, .int .i64 x.col] 57 (0, 0)) → W.cell? ⟨wr.heap.size, 2, none⟩ = some (.string (mkB x.name)) := fun W h => by simp [World.cell?, h]
      have hc3 : ∀ W : World, W.heap[wr.heap.size]? = some (.cells #[.bool RR, .string (mkB x.type), .string (mkB x.name), .int .i64 x.num, .int .i64 x.line, .int .i64 x.col] 57 (0, 0)) → W.cell? ⟨wr.heap.size, 3, none⟩ = some (.int .i64 x.num) := fun W h => by simp [World.cell?, h]
      have hI := itoaW x.num p3 Y.drew (HP.out.tab _ (HBW.out _ HBY.out).drew)
      clear e0 e1 e2 e3 e4 e5 xb hbY
      obtain ⟨A, hA⟩ : ∃ A, mkB m ++ mkB (tb (k + 1)) ++ mkB (if RR = true then tRepeated ++ [32] else []) = A := ⟨_, rfl⟩
      have zA : A.size ≤ 4000020 := by
        rw [← hA, ByteArray.size_append, ByteArray.size_append]
        have : (mkB (if RR = true then tRepeated ++ [32] else [])).size ≤ 9 := by cases RR <;> decide
        omega
      have y1 : (⟨#[32]⟩ : ByteArray).size = 1 := rfl
      have y3 : (⟨#[32, 61, 32]⟩ : ByteArray).size = 3 := rfl
      have y2 : (⟨#[59, 10]⟩ : ByteArray).size = 2 := rfl
      have s1 := sumS A (mkB x.type) 4000020 zA (by omega)
      have s2 := sumS (A ++ mkB x.type) ⟨#[32]⟩ 4010000 (by rw [ByteArray.size_append]; omega) (by rw [y1]; omega)
      have s3 := sumS (A ++ mkB x.type ++ ⟨#[32]⟩) (mkB x.name) 4010001 (by simp only [ByteArray.size_append]; rw [y1]; omega) (by omega)
      have s4 := sumS (A ++ mkB x.type ++ ⟨#[32]⟩ ++ mkB x.name) ⟨#[32, 61, 32]⟩ 4020001 (by simp only [ByteArray.size_append]; rw [y1]; omega) (by rw [y3]; omega)
      have s5 := sumS (A ++ mkB x.type ++ ⟨#[32]⟩ ++ mkB x.name ++ ⟨#[32, 61, 32]⟩) (mkB (Lib.itoa x.num)) 4030001 (by simp only [ByteArray.size_append]; rw [y1, y3]; omega) (by omega)
      have s6 := sumS (A ++ mkB x.type ++ ⟨#[32]⟩ ++ mkB x.name ++ ⟨#[32, 61, 32]⟩ ++ mkB (Lib.itoa x.num)) ⟨#[59, 10]⟩ 4040001 (by simp only [ByteArray.size_append]; rw [y1, y3]; omega) (by rw [y2]; omega)
      rw [hA] at HEQ
      have HA := Lib.hid hA
      clear hA
      cases RR
      case false =>
        have hA' : mkB m ++ mkB (tb (k + 1)) = A := by
          rw [← HA.out]
          show _ = _ ++ mkB []
          simp only [← mkB_app]; simp
        clear HA tr
        go_upto_region 10 with fail
        try rw [hA']
        clear t0 hA' c0
        go_region_held_law (fun W' => W'.heap[wr.heap.size]? = some (.cells #[.bool false, .string (mkB x.type), .string (mkB x.name), .int .i64 x.num, .int .i64 x.line, .int .i64 x.col] 57 (0, 0))) (first | exact hY | exact hV5 | assumption) (first
          | (go_at_call 49; refine hI.mono ?_; rintro e W5 ⟨rfl, hw5⟩; have hb5 : Below Y.heap.size Y W5 := (Below.refl _ Y).drew.trans hw5; clear hw5; have hV5 := (hb5.block _ hlY).trans hY))
        all_goals
          have HB5 := Lib.hid (HBY.out.trans (hb5.mono HBY.out.size))
          rw [← HEQ.out]
          clear s1 s2 s3 s4 s5 s6 hc1 hc2 hc3 hI hY hV5 hb5
          go_wp2_with fail
          go_roundw
          case rel => exact ⟨q + 1, by omega, by go_num, by rw [(HNX.out _).2 rfl], HB5.out⟩
          case measure => simp [intOf]; omega
      case true =>
        have hA' : mkB m ++ mkB (tb (k + 1)) ++ ⟨#[114, 101, 112, 101, 97, 116, 101, 100, 32]⟩ = A := HA.out
        clear HA
        go_upto_region 10 with fail
        try rw [hA']
        clear t0 hA' c0
        go_region_held_law (fun W' => W'.heap[wr.heap.size]? = some (.cells #[.bool true, .string (mkB x.type), .string (mkB x.name), .int .i64 x.num, .int .i64 x.line, .int .i64 x.col] 57 (0, 0))) (first | exact hY | exact hV5 | assumption) (first
          | (go_at_call 49; refine hI.mono ?_; rintro e W5 ⟨rfl, hw5⟩; have hb5 : Below Y.heap.size Y W5 := (Below.refl _ Y).drew.trans hw5; clear hw5; have hV5 := (hb5.block _ hlY).trans hY))
        all_goals
          have HB5 := Lib.hid (HBY.out.trans (hb5.mono HBY.out.size))
          rw [← HEQ.out]
          clear s1 s2 s3 s4 s5 s6 hc1 hc2 hc3 hI hY hV5 hb5
          go_wp2_with fail
          go_roundw
          case rel => exact ⟨q + 1, by omega, by go_num, by rw [(HNX.out _).2 rfl], HB5.out⟩
          case measure => simp [intOf]; omega
    · have hqn' : ¬ (q : Int) < (d.fields.length : Int) := by omega
      have hqe : d.fields.take q = d.fields := List.take_of_length_le (by omega)
      rw [hqe]
      have xn : wr.cell? ⟨w.heap.size, 5, none⟩ = some (.slice va d.values.length vc) := by simp [World.cell?, HX.out]
      obtain ⟨H1, hH1⟩ : ∃ x, H0 ++ d.fields.flatMap (fT (k + 1)) = x := ⟨_, rfl⟩
      rw [hH1]
      have HR : Hid (R = H1 ++ (d.values.flatMap (vT (k + 1)) ++ (d.methods.flatMap (mT (k + 1)) ++ (d.inner.flatMap (dT f (k + 1)) ++ (tb k ++ [125, 10]))))) := by
        refine (?_ : _ = _)
        rw [HR.out, ← hH1]
        simp only [List.append_assoc]
      have eH1 := congrArg List.length hH1
      rw [List.length_append] at eH1
      have HBE := HBQ
      clear hH1 hqe HX hml hltr hsw
      go_wp2_with fail
      clear xn xb hqn' hqn hq
      generalize wr = wE at *
      go_loopw [5, 63] (fun s i wq => ∃ q : Nat, q ≤ d.values.length ∧ i = .int .i64 (q : Int) ∧ s = .string (mkB (H1 ++ (d.values.take q).flatMap (vT (k + 1)))) ∧ Below V.heap.size V wq) (fun _ i _ => d.values.length - (intOf i).toNat)
      case atStart => exact ⟨0, by omega, rfl, by simp, HBE.out⟩
      case round =>
        obtain ⟨q, hq, rfl, rfl, hbq⟩ := hrel
        have HBQ := Lib.hid hbq
        have hX := HBX.out wr hbq
        have xb : wr.cell? ⟨w.heap.size, 5, none⟩ = some (.slice va d.values.length vc) := by simp [World.cell?, hX]
        have HX := Lib.hid hX
        have hltr := blk_lt hX
        have hsw := hbq.size
        clear hbq hX
        have hml : (H1 ++ (d.values.take q).flatMap (vT (k + 1))).length ≤ 4000000 := by
          have := takeLen (vT (k + 1)) d.values q
          rw [List.length_append]; omega
        by_cases hqn : q < d.values.length
        · obtain ⟨x, hx⟩ : ∃ x, d.values[q]? = some x := ⟨_, List.getElem?_eq_getElem hqn⟩
          have HNX : Hid (∀ y, H1 ++ (d.values.take (q + 1)).flatMap (vT (k + 1)) = y ↔ H1 ++ (d.values.take q).flatMap (vT (k + 1)) ++ vT (k + 1) x = y) := by
            refine (?_ : ∀ _, _)
            intro y
            rw [List.take_add_one, hx, List.flatMap_append, ← List.append_assoc]; simp
          have hq0 : (0 : Int) ≤ (q : Int) := by omega
          have hq1 : (q : Int) < (d.values.length : Int) := by omega
          have hwq : IntKind.i64.wrap ((q : Int) + 1) = (q : Int) + 1 := by rw [IntKind.wrap_i64]; omega
          obtain ⟨p2, p3⟩ := vOK_parts (HPV.out x (List.mem_of_getElem? hx))
          have p4 := num_len p3
          obtain ⟨m, hm⟩ : ∃ m, H1 ++ (d.values.take q).flatMap (vT (k + 1)) = m := ⟨_, rfl⟩
          rw [hm] at hml HNX ⊢
          clear hm
          have z0 : (mkB m).size ≤ 4000000 := by rw [mkB_len]; exact hml
          have zt : (mkB (tb (k + 1))).size ≤ 9 := by rw [mkB_len, htb1]; omega
          have t0 := sumS (mkB m) (mkB (tb (k + 1))) 4000000 z0 (by omega)
          obtain ⟨ad0, c0, hsl, hcc, hrows⟩ := HR2.out
          rcases hrows with h0 | ⟨g, o, had, hg, hrow⟩
          · rw [h0] at hx; simp at hx
          subst had
          obtain ⟨rfl, rfl⟩ : va = some ⟨g, o, none⟩ ∧ vc = c0 := by
            injection hsl with h1 _ h3
            exact ⟨h1, h3⟩
          have b3 := HLD.out wr HBQ.out g hg
          have e0 : wr.cell? ⟨g, o + q * 4, none⟩ = some (.string (mkB x.name)) := by
            rw [World.cell?_of_block b3]; have := hrow q x hx 0 _ rfl; simpa [Nat.add_assoc] using this
          have e1 : wr.cell? ⟨g, o + q * 4 + 1, none⟩ = some (.int .i64 x.num) := by
            rw [World.cell?_of_block b3]; have := hrow q x hx 1 _ rfl; simpa [Nat.add_assoc] using this
          have hlg : g < wr.heap.size := by have h1 := HBQ.out.size; omega
          have hcb : ∀ W : World, Below wr.heap.size wr W → W.cell? ⟨w.heap.size, 5, none⟩ = some (.slice (some ⟨g, o, none⟩) d.values.length vc) := fun W h => by rw [h.cell hltr]; exact xb
          have hc0 : ∀ W : World, Below wr.heap.size wr W → W.cell? ⟨g, o + q * 4, none⟩ = some (.string (mkB x.name)) := fun W h => by rw [h.cell hlg]; exact e0
          have hc1 : ∀ W : World, Below wr.heap.size wr W → W.cell? ⟨g, o + q * 4 + 1, none⟩ = some (.int .i64 x.num) := fun W h => by rw [h.cell hlg]; exact e1
          have hI : ∀ W, Below wr.heap.size wr W → _ := fun W (hb : Below wr.heap.size wr W) => itoaW x.num p3 W (HP.out.tab _ (HBW.out _ (HBQ.out.trans (hb.mono hsw))))
          have zn : (mkB x.name).size ≤ 160 := by rw [mkB_len]; exact p2
          have zi : (mkB (Lib.itoa x.num)).size ≤ 21 := by rw [mkB_len]; exact p4
          have y3 : (⟨#[32, 61, 32]⟩ : ByteArray).size = 3 := rfl
          have y2 : (⟨#[59, 10]⟩ : ByteArray).size = 2 := rfl
          have HEQ : Hid (mkB (m ++ vT (k + 1) x) = mkB m ++ mkB (tb (k + 1)) ++ mkB x.name ++ ⟨#[32, 61, 32]⟩ ++ mkB (Lib.itoa x.num) ++ ⟨#[59, 10]⟩) := by
            refine (?_ : _ = _)
            show _ = mkB m ++ mkB (tb (k + 1)) ++ mkB x.name ++ mkB [32, 61, 32] ++ mkB (Lib.itoa x.num) ++ mkB [59, 10]
            simp only [← mkB_app]
            unfold vT
            simp
          obtain ⟨A, hA⟩ : ∃ A, mkB m ++ mkB (tb (k + 1)) = A := ⟨_, rfl⟩
          have zA : A.size ≤ 4000020 := by rw [← hA, ByteArray.size_append]; omega
          have s1 := sumS A (mkB x.name) 4000020 zA (by omega)
          have s2 := sumS (A ++ mkB x.name) ⟨#[32, 61, 32]⟩ 4010000 (by rw [ByteArray.size_append]; omega) (by rw [y3]; omega)
          have s3 := sumS (A ++ mkB x.name ++ ⟨#[32, 61, 32]⟩) (mkB (Lib.itoa x.num)) 4010003 (by simp only [ByteArray.size_append]; rw [y3]; omega) (by omega)
          have s4 := sumS (A ++ mkB x.name ++ ⟨#[32, 61, 32]⟩ ++ mkB (Lib.itoa x.num)) ⟨#[59, 10]⟩ 4020003 (by simp only [ByteArray.size_append]; rw [y3]; omega) (by rw [y2]; omega)
          rw [hA] at t0 HEQ
          have hbr := Below.refl wr.heap.size wr
          clear hA hx hrow b3 hsl hcc xb e0 e1
          go_upto_region 15 with fail
          go_region_held_law (fun W' => Below wr.heap.size wr W') (first | with_reducible exact hbr | with_reducible exact hb5 | with_reducible exact hbr.drew | assumption) (first
            | (go_at_call 49; refine (hI _ hbr.drew).mono ?_; rintro e W5 ⟨rfl, hw5⟩; have hb5 : Below wr.heap.size wr W5 := hbr.drew.trans hw5; clear hw5))
          all_goals
            have HB5 := Lib.hid (HBQ.out.trans (hb5.mono hsw))
            rw [← HEQ.out]
            clear s1 s2 s3 s4 hc0 hc1 hcb hI hb5 hbr t0
            go_wp2_with fail
            go_roundw
            case rel => exact ⟨q + 1, by omega, by go_num, by rw [(HNX.out _).2 rfl], HB5.out⟩
            case measure => simp [intOf]; omega
        · have hqn' : ¬ (q : Int) < (d.values.length : Int) := by omega
          have hqe : d.values.take q = d.values := List.take_of_length_le (by omega)
          rw [hqe]
          have xn : wr.cell? ⟨w.heap.size, 6, none⟩ = some (.slice ma d.methods.length mc) := by simp [World.cell?, HX.out]
          obtain ⟨H2, hH2⟩ : ∃ x, H1 ++ d.values.flatMap (vT (k + 1)) = x := ⟨_, rfl⟩
          rw [hH2]
          have HR : Hid (R = H2 ++ (d.methods.flatMap (mT (k + 1)) ++ (d.inner.flatMap (dT f (k + 1)) ++ (tb k ++ [125, 10])))) := by
            refine (?_ : _ = _)
            rw [HR.out, ← hH2]
            simp only [List.append_assoc]
          have eH2 := congrArg List.length hH2
          rw [List.length_append] at eH2
          have HBE := HBQ
          clear hH2 hqe HX hml hltr hsw
          go_wp2_with fail
          clear xn xb hqn' hqn hq
          generalize wr = wE at *
          go_loopw [5, 90] (fun s i wq => ∃ q : Nat, q ≤ d.methods.length ∧ i = .int .i64 (q : Int) ∧ s = .string (mkB (H2 ++ (d.methods.take q).flatMap (mT (k + 1)))) ∧ Below V.heap.size V wq) (fun _ i _ => d.methods.length - (intOf i).toNat)
          case atStart => exact ⟨0, by omega, rfl, by simp, HBE.out⟩
          case round =>
            obtain ⟨q, hq, rfl, rfl, hbq⟩ := hrel
            have HBQ := Lib.hid hbq
            have hX := HBX.out wr hbq
            have xb : wr.cell? ⟨w.heap.size, 6, none⟩ = some (.slice ma d.methods.length mc) := by simp [World.cell?, hX]
            have HX := Lib.hid hX
            have hltr := blk_lt hX
            have hsw := hbq.size
            clear hbq hX
            have hml : (H2 ++ (d.methods.take q).flatMap (mT (k + 1))).length ≤ 4000000 := by
              have := takeLen (mT (k + 1)) d.methods q
              rw [List.length_append]; omega
            by_cases hqn : q < d.methods.length
            · obtain ⟨x, hx⟩ : ∃ x, d.methods[q]? = some x := ⟨_, List.getElem?_eq_getElem hqn⟩
              have HNX : Hid (∀ y, H2 ++ (d.methods.take (q + 1)).flatMap (mT (k + 1)) = y ↔ H2 ++ (d.methods.take q).flatMap (mT (k + 1)) ++ mT (k + 1) x = y) := by
                refine (?_ : ∀ _, _)
                intro y
                rw [List.take_add_one, hx, List.flatMap_append, ← List.append_assoc]; simp
              have hq0 : (0 : Int) ≤ (q : Int) := by omega
              have hq1 : (q : Int) < (d.methods.length : Int) := by omega
              have hwq : IntKind.i64.wrap ((q : Int) + 1) = (q : Int) + 1 := by rw [IntKind.wrap_i64]; omega
              obtain ⟨p1, p2, p3⟩ := mOK_parts (HPM.out x (List.mem_of_getElem? hx))
              obtain ⟨m, hm⟩ : ∃ m, H2 ++ (d.methods.take q).flatMap (mT (k + 1)) = m := ⟨_, rfl⟩
              rw [hm] at hml HNX ⊢
              clear hm
              have z0 : (mkB m).size ≤ 4000000 := by rw [mkB_len]; exact hml
              have zt : (mkB (tb (k + 1))).size ≤ 9 := by rw [mkB_len, htb1]; omega
              have t0 := sumS (mkB m) (mkB (tb (k + 1))) 4000000 z0 (by omega)
              obtain ⟨ad0, c0, hsl, hcc, hrows⟩ := HR3.out
              rcases hrows with h0 | ⟨g, o, had, hg, hrow⟩
              · rw [h0] at hx; simp at hx
              subst had
              obtain ⟨rfl, rfl⟩ : ma = some ⟨g, o, none⟩ ∧ mc = c0 := by
                injection hsl with h1 _ h3
                exact ⟨h1, h3⟩
              have b3 := HLD.out wr HBQ.out g hg
              have e0 : wr.cell? ⟨g, o + q * 5, none⟩ = some (.string (mkB x.name)) := by
                rw [World.cell?_of_block b3]; have := hrow q x hx 0 _ rfl; simpa [Nat.add_assoc] using this
              have e1 : wr.cell? ⟨g, o + q * 5 + 1, none⟩ = some (.string (mkB x.inp)) := by
                rw [World.cell?_of_block b3]; have := hrow q x hx 1 _ rfl; simpa [Nat.add_assoc] using this
              have e2 : wr.cell? ⟨g, o + q * 5 + 2, none⟩ = some (.string (mkB x.out)) := by
                rw [World.cell?_of_block b3]; have := hrow q x hx 2 _ rfl; simpa [Nat.add_assoc] using this
              have e3 : wr.cell? ⟨g, o + q * 5 + 3, none⟩ = some (.int .i64 x.line) := by
                rw [World.cell?_of_block b3]; have := hrow q x hx 3 _ rfl; simpa [Nat.add_assoc] using this
              have e4 : wr.cell? ⟨g, o + q * 5 + 4, none⟩ = some (.int .i64 x.col) := by
                rw [World.cell?_of_block b3]; have := hrow q x hx 4 _ rfl; simpa [Nat.add_assoc] using this
              have hbY : Below wr.heap.size wr (wr.alloc (.cells #[.string (mkB x.name), .string (mkB x.inp), .string (mkB x.out), .int .i64 x.line, .int .i64 x.col] 63)) := (Below.refl _ wr).alloc (Nat.le_refl _) _
              have hY : (wr.alloc (.cells #[.string (mkB x.name), .string (mkB x.inp), .string (mkB x.out), .int .i64 x.line, .int .i64 x.col] 63)).heap[wr.heap.size]? = some (.cells #[.string (mkB x.name), .string (mkB x.inp), .string (mkB x.out), .int .i64 x.line, .int .i64 x.col] 63 (0, 0)) := alloc_heap_new _ _
              have HBY := Lib.hid (HBQ.out.trans (hbY.mono hsw))
              have zn : (mkB x.name).size ≤ 160 := by rw [mkB_len]; exact p1
              have zi : (mkB x.inp).size ≤ 2000 := by rw [mkB_len]; exact p2
              have zo : (mkB x.out).size ≤ 2000 := by rw [mkB_len]; exact p3
              have y4 : (⟨#[114, 112, 99, 32]⟩ : ByteArray).size = 4 := rfl
              have y1 : (⟨#[40]⟩ : ByteArray).size = 1 := rfl
              have y11 : (⟨#[41, 32, 114, 101, 116, 117, 114, 110, 115, 32, 40]⟩ : ByteArray).size = 11 := rfl
              have y3 : (⟨#[41, 59, 10]⟩ : ByteArray).size = 3 := rfl
              have HEQ : Hid (mkB (m ++ mT (k + 1) x) = mkB m ++ mkB (tb (k + 1)) ++ ⟨#[114, 112, 99, 32]⟩ ++ mkB x.name ++ ⟨#[40]⟩ ++ mkB x.inp ++ ⟨#[41, 32, 114, 101, 116, 117, 114, 110, 115, 32, 40]⟩ ++ mkB x.out ++ ⟨#[41, 59, 10]⟩) := by
                refine (?_ : _ = _)
                show _ = mkB m ++ mkB (tb (k + 1)) ++ mkB [114, 112, 99, 32] ++ mkB x.name ++ mkB [40] ++ mkB x.inp ++ mkB [41, 32, 114, 101, 116, 117, 114, 110, 115, 32, 40] ++ mkB x.out ++ mkB [41, 59, 10]
                simp only [← mkB_app]
                unfold mT
                simp [tRpc, tReturns]
              obtain ⟨A, hA⟩ : ∃ A, mkB m ++ mkB (tb (k + 1)) = A := ⟨_, rfl⟩
              have zA : A.size ≤ 4000020 := by rw [← hA, ByteArray.size_append]; omega
              have s1 := sumS A ⟨#[114, 112, 99, 32]⟩ 4000020 zA (by rw [y4]; omega)
              have s2 := sumS (A ++ ⟨#[114, 112, 99, 32]⟩) (mkB x.name) 4000024 (by rw [ByteArray.size_append, y4]; omega) (by omega)
              have s3 := sumS (A ++ ⟨#[114, 112, 99, 32]⟩ ++ mkB x.name) ⟨#[40]⟩ 4000184 (by simp only [ByteArray.size_append]; rw [y4]; omega) (by rw [y1]; omega)
              have s4 := sumS (A ++ ⟨#[114, 112, 99, 32]⟩ ++ mkB x.name ++ ⟨#[40]⟩) (mkB x.inp) 4000185 (by simp only [ByteArray.size_append]; rw [y4, y1]; omega) (by omega)
              have s5 := sumS (A ++ ⟨#[114, 112, 99, 32]⟩ ++ mkB x.name ++ ⟨#[40]⟩ ++ mkB x.inp) ⟨#[41, 32, 114, 101, 116, 117, 114, 110, 115, 32, 40]⟩ 4002185 (by simp only [ByteArray.size_append]; rw [y4, y1]; omega) (by rw [y11]; omega)
              have s6 := sumS (A ++ ⟨#[114, 112, 99, 32]⟩ ++ mkB x.name ++ ⟨#[40]⟩ ++ mkB x.inp ++ ⟨#[41, 32, 114, 101, 116, 117, 114, 110, 115, 32, 40]⟩) (mkB x.out) 4002196 (by simp only [ByteArray.size_append]; rw [y4, y1, y11]; omega) (by omega)
              have s7 := sumS (A ++ ⟨#[114, 112, 99, 32]⟩ ++ mkB x.name ++ ⟨#[40]⟩ ++ mkB x.inp ++ ⟨#[41, 32, 114, 101, 116, 117, 114, 110, 115, 32, 40]⟩ ++ mkB x.out) ⟨#[41, 59, 10]⟩ 4004196 (by simp only [ByteArray.size_append]; rw [y4, y1, y11]; omega) (by rw [y3]; omega)
              rw [hA] at t0 HEQ
              clear hA hx hrow b3 hsl hcc
              go_upto_region 21 with fail
              generalize (wr.alloc (.cells #[.string (mkB x.name), .string (mkB x.inp), .string (mkB x.out), .int .i64 x.line, .int .i64 x.col] 63)) = Y at *
              have hlY := blk_lt hY
              have c0 : Y.cell? ⟨wr.heap.size, 0, none⟩ = some (.string (mkB x.name)) := by simp [World.cell?, hY]
              have c1 : Y.cell? ⟨wr.heap.size, 1, none⟩ = some (.string (mkB x.inp)) := by simp [World.cell?, hY]
              have c2 : Y.cell? ⟨wr.heap.size, 2, none⟩ = some (.string (mkB x.out)) := by simp [World.cell?, hY]
              clear e0 e1 e2 e3 e4 xb hbY hY
              first | go_quiet (fail) | go_wp2_with fail
              all_goals
                have HB5 := Lib.hid HBY.out
                rw [← HEQ.out]
                clear s1 s2 s3 s4 s5 s6 s7 c0 c1 c2 t0
                go_wp2_with fail
                go_roundw
                case rel => exact ⟨q + 1, by omega, by go_num, by rw [(HNX.out _).2 rfl], by first | exact HB5.out | exact HB5.out.trans ⟨rfl, rfl, rfl, HB5.out.size, fun _ _ => rfl⟩⟩
                case measure => simp [intOf]; omega
            · have hqn' : ¬ (q : Int) < (d.methods.length : Int) := by omega
              have hqe : d.methods.take q = d.methods := List.take_of_length_le (by omega)
              rw [hqe]
              have xn : wr.cell? ⟨w.heap.size, 7, none⟩ = some (.slice ia d.inner.length ic) := by simp [World.cell?, HX.out]
              obtain ⟨H3, hH3⟩ : ∃ x, H2 ++ d.methods.flatMap (mT (k + 1)) = x := ⟨_, rfl⟩
              rw [hH3]
              have HR : Hid (R = H3 ++ (d.inner.flatMap (dT f (k + 1)) ++ (tb k ++ [125, 10]))) := by
                refine (?_ : _ = _)
                rw [HR.out, ← hH3]
                simp only [List.append_assoc]
              have eH3 := congrArg List.length hH3
              rw [List.length_append] at eH3
              have HBE := HBQ
              clear hH3 hqe HX hml hltr hsw
              go_wp2_with fail
              clear xn xb hqn' hqn hq
              generalize wr = wE at *
              go_loopw [5, 118] (fun s i wq => ∃ q : Nat, q ≤ d.inner.length ∧ i = .int .i64 (q : Int) ∧ s = .string (mkB (H3 ++ (d.inner.take q).flatMap (dT f (k + 1)))) ∧ Below V.heap.size V wq) (fun _ i _ => d.inner.length - (intOf i).toNat)
              case atStart => exact ⟨0, by omega, rfl, by simp, HBE.out⟩
              case round =>
                obtain ⟨q, hq, rfl, rfl, hbq⟩ := hrel
                have HBQ := Lib.hid hbq
                have hX := HBX.out wr hbq
                have xb : wr.cell? ⟨w.heap.size, 7, none⟩ = some (.slice ia d.inner.length ic) := by simp [World.cell?, hX]
                have HX := Lib.hid hX
                have hltr := blk_lt hX
                have hsw := hbq.size
                clear hbq hX
                have hml : (H3 ++ (d.inner.take q).flatMap (dT f (k + 1))).length ≤ 4000000 := by
                  have := takeLen (dT f (k + 1)) d.inner q
                  rw [List.length_append]; omega
                by_cases hqn : q < d.inner.length
                · obtain ⟨x, hx⟩ : ∃ x, d.inner[q]? = some x := ⟨_, List.getElem?_eq_getElem hqn⟩
                  have HNX : Hid (∀ y, H3 ++ (d.inner.take (q + 1)).flatMap (dT f (k + 1)) = y ↔ H3 ++ (d.inner.take q).flatMap (dT f (k + 1)) ++ dT f (k + 1) x = y) := by
                    refine (?_ : ∀ _, _)
                    intro y
                    rw [List.take_add_one, hx, List.flatMap_append, ← List.append_assoc]; simp
                  have hq0 : (0 : Int) ≤ (q : Int) := by omega
                  have hq1 : (q : Int) < (d.inner.length : Int) := by omega
                  have hwq : IntKind.i64.wrap ((q : Int) + 1) = (q : Int) + 1 := by rw [IntKind.wrap_i64]; omega
                  cases f with
                  | zero =>
                    have h0 := HR4.out.1
                    rw [h0] at hqn; simp at hqn
                  | succ f =>
                    have hmem := List.mem_of_getElem? hx
                    have hfx : fmD f (k + 1) x = true := by
                      have h1 := HIN.out
                      rw [fmL_succ, List.all_eq_true] at h1
                      exact h1 x hmem
                    have hkk := HK1.out (by intro e; rw [e] at hqn; simp at hqn)
                    have hlx := memLen (dT (f + 1) (k + 1)) hmem
                    obtain ⟨g, o, c0, fa1, fc1, va1, vc1, ma1, mc1, ia1, ic1, hsl, hg, e0, e1, e2, e3, e4, e5, e6, e7, kd1⟩ := decl_at HR4.out (W := wr) (fun b hb => HLD.out wr HBQ.out b hb) hx
                    obtain ⟨rfl, rfl⟩ : ia = some ⟨g, o, none⟩ ∧ ic = c0 := by
                      injection hsl with h1 _ h3
                      exact ⟨h1, h3⟩
                    have hCall := IH f rfl (k + 1) x _ _ _ _ wr hkk hfx (by omega) (HP.out.below (HBW.out _ HBQ.out)) (HFK.out.2 x hmem) (kd1.more fun b hb => by have := HB.out.size; omega)
                    obtain ⟨m, hm⟩ : ∃ m, H3 ++ (d.inner.take q).flatMap (dT (f + 1) (k + 1)) = m := ⟨_, rfl⟩
                    rw [hm] at hml HNX ⊢
                    obtain ⟨T, hT⟩ : ∃ T, dT (f + 1) (k + 1) x = T := ⟨_, rfl⟩
                    rw [hT] at hlx HNX hCall
                    have s1 := sumS (mkB m) (mkB T) 4000000 (by rw [mkB_len]; exact hml) (by rw [mkB_len]; omega)
                    rw [← mkB_app] at s1
                    clear hm hT hx kd1 hsl hg hfx hlx hmem
                    go_wp2_with fail
                    refine hCall.mono ?_
                    rintro e W9 ⟨rfl, hb9⟩
                    have HB9 := Lib.hid (HBQ.out.trans (hb9.mono hsw))
                    clear hCall hb9 xb e0 e1 e2 e3 e4 e5 e6 e7
                    go_wp2_with fail
                    go_roundw
                    case rel => exact ⟨q + 1, by omega, by go_num, by rw [(HNX.out _).2 rfl], HB9.out⟩
                    case measure => simp [intOf]; omega
                · have hqn' : ¬ (q : Int) < (d.inner.length : Int) := by omega
                  have hqe : d.inner.take q = d.inner := List.take_of_length_le (by omega)
                  rw [hqe]
                  rw [hqe] at hml
                  obtain ⟨H4, hH4⟩ : ∃ x, H3 ++ d.inner.flatMap (dT f (k + 1)) = x := ⟨_, rfl⟩
                  rw [hH4] at hml ⊢
                  have HR : Hid (R = H4 ++ (tb k ++ [125, 10])) := by
                    refine (?_ : _ = _)
                    rw [HR.out, ← hH4]
                    simp only [List.append_assoc]
                  have HEQ : Hid (mkB H4 ++ mkB (tb k) ++ ⟨#[125, 10]⟩ = mkB R) := by
                    refine (?_ : _ = _)
                    show mkB H4 ++ mkB (tb k) ++ mkB [125, 10] = _
                    rw [← mkB_app, ← mkB_app, HR.out, List.append_assoc]
                  have s1 := sumS (mkB H4) (mkB (tb k)) 4000000 (by rw [mkB_len]; exact hml) (by rw [mkB_len, htb]; omega)
                  have s2 := sumS (mkB H4 ++ mkB (tb k)) ⟨#[125, 10]⟩ 4000010 (by rw [ByteArray.size_append, mkB_len, mkB_len, htb]; omega) (by decide)
                  clear hH4 hqe
                  go_wp2_with fail
                  rw [HEQ.out]
                  go_ret
                  exact ⟨rfl, HBW.out _ HBQ.out⟩
theorem textR : ∀ f : Nat, TextR f := by
  intro f
  induction f with
  | zero => exact textW 0 (fun g h => by omega)
  | succ f ih => exact textW (f + 1) (fun g h => by
      have : g = f := by omega
      subst this
      exact ih)
end Go.Proofs.YtngmimbpakmkiaaGreatDoor
