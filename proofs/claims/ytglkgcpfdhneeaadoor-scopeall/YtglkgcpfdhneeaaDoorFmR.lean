/-
  The walks over the document's own formedField, formed and Formed: whether declarations are formed.
-/
import Derived.Test.YtglkgcpfdhneeaaDoorRpA
import Derived.Test.YtglkgcpfdhneeaaDoorFmB
namespace Go.Proofs.YtglkgcpfdhneeaaDoor
set_option linter.unusedVariables false
open Go.ChangeShapes Go.WideShapes Go.ChangeAt Go.RowKit

set_option maxHeartbeats 8000000 in
set_option maxRecDepth 20000 in
theorem formedField_any (x : Fd) (w : World) (hT : Tabs w) (hx : TF x) :
    Calls Tryd.prog 38 #[.agg #[.bool x.rep, .string (mkB x.type), .string (mkB x.name), .int .i64 x.num, .int .i64 x.line, .int .i64 x.col]] w fun e w' => e = .returned (.bool (fOK x)) ∧ Below w.heap.size w w' := by
  have HOK : Hid (fOK x = (plainL x.name && (decide (0 ≤ x.num) && decide (x.num ≤ 2147483647)) && (pathOK x.type || decide (0 < scalarOf x.type)))) := by
    refine (?_ : _ = _)
    unfold fOK typeOK numOK
    rw [Bool.decide_and]
    cases plainL x.name <;> cases pathOK x.type <;> cases decide (0 < scalarOf x.type) <;> simp
  have hbV := (Below.refl w.heap.size w).alloc (Nat.le_refl _) (.cells #[.bool x.rep, .string (mkB x.type), .string (mkB x.name), .int .i64 x.num, .int .i64 x.line, .int .i64 x.col] 63)
  have hV : (w.alloc (.cells #[.bool x.rep, .string (mkB x.type), .string (mkB x.name), .int .i64 x.num, .int .i64 x.line, .int .i64 x.col] 63)).heap[w.heap.size]? = some (.cells #[.bool x.rep, .string (mkB x.type), .string (mkB x.name), .int .i64 x.num, .int .i64 x.line, .int .i64 x.col] 63 (0, 0)) := alloc_heap_new _ _
  have hPa := fun W (hW : Below w.heap.size w W) => pathA_any x.type W (tabs_below hT hW) hx.1
  have hPl := fun W (hW : Below w.heap.size w W) => plainQ_any x.name W (tabs_below hT hW) hx.2
  have hSc := fun W => scalarR_any (mkB x.type) W
  rw [mkB_list] at hSc
  clear hT hx
  generalize fOK x = OK at *
  generalize plainL x.name = bN at *
  generalize pathOK x.type = bP at *
  generalize scalarOf x.type = sc at *
  go_enter Tryd.func38, Tryd.ntmps38
  go_upto_region 1 with fail
  generalize (w.alloc (.cells #[.bool x.rep, .string (mkB x.type), .string (mkB x.name), .int .i64 x.num, .int .i64 x.line, .int .i64 x.col] 63)) = V at *
  have HB := Lib.hid hbV
  have c1 : V.cell? ⟨w.heap.size, 1, none⟩ = some (.string (mkB x.type)) := by simp [World.cell?, hV]
  have HV := Lib.hid hV
  have hlt := blk_lt hV
  clear hV hbV
  go_wp2_with fail
  refine (hPa _ HB.out).mono ?_
  rintro e Y ⟨⟨ad, n, c, rfl⟩, hb⟩
  have HY := Lib.hid (HB.out.trans (hb.mono HB.out.size))
  have hVY := (hb.block _ hlt).trans HV.out
  have c2 : Y.cell? ⟨w.heap.size, 2, none⟩ = some (.string (mkB x.name)) := by simp [World.cell?, hVY]
  have HVY := Lib.hid hVY
  have hltY := blk_lt hVY
  clear hPa hb c1 hVY
  go_wp2_with fail
  refine (hPl _ HY.out).mono ?_
  rintro e Z ⟨rfl, hb⟩
  have HZ := Lib.hid (HY.out.trans (hb.mono HY.out.size))
  have hVZ := (hb.block _ hltY).trans HVY.out
  have c3 : Z.cell? ⟨w.heap.size, 3, none⟩ = some (.int .i64 x.num) := by simp [World.cell?, hVZ]
  have c1 : Z.cell? ⟨w.heap.size, 1, none⟩ = some (.string (mkB x.type)) := by simp [World.cell?, hVZ]
  clear hPl hb c2 hVZ
  cases bN
  · go_wp2_with fail
    go_ret
    exact ⟨retB (by rw [HOK.out]; simp), HZ.out⟩
  by_cases h0 : 0 ≤ x.num
  case neg =>
    go_wp2_with fail
    go_ret
    exact ⟨retB (by rw [HOK.out, decide_eq_false (show ¬ 0 ≤ x.num by omega)]; simp), HZ.out⟩
  by_cases h1 : x.num ≤ 2147483647
  case neg =>
    go_wp2_with fail
    go_ret
    exact ⟨retB (by rw [HOK.out, decide_eq_false (show ¬ x.num ≤ 2147483647 by omega)]; simp), HZ.out⟩
  cases bP
  case true =>
    go_wp2_with fail
    go_ret
    exact ⟨retB (by rw [HOK.out]; simp [h0, h1]), HZ.out⟩
  go_wp2_with fail
  refine (hSc _).mono ?_
  rintro e Z2 ⟨rfl, rfl⟩
  clear hSc
  by_cases hs : 0 < sc
  · go_wp2_with fail
    go_ret
    exact ⟨retB (by rw [HOK.out, decide_eq_true h0, decide_eq_true h1, decide_eq_true hs]; rfl), HZ.out⟩
  · go_wp2_with fail
    go_ret
    exact ⟨retB (by rw [HOK.out, decide_eq_true h0, decide_eq_true h1, decide_eq_false (show ¬ 0 < sc by omega)]; rfl), HZ.out⟩
/-- how deep the document counts -/
def depR (k : Nat) (d : Dc) : Int := if d.kind = 1 then ((k + 1 : Nat) : Int) else ((min (k + 1) 8 : Nat) : Int)
/-- what formed is to answer, so deep -/
def FormR (f : Nat) : Prop := ∀ (k : Nat) (d : Dc) (fs vs ms ins : Value) (w : World), k ≤ 8 → (k = 0 ∨ d.kind ≠ 3) → Tabs w → FitK f d → TxtK f d → Kids f w (fun b => b < w.heap.size) fs vs ms ins d →
    Calls Tryd.prog 26 #[.agg #[.int .i64 d.kind, .string (mkB d.name), .int .i64 d.line, .int .i64 d.col, fs, vs, ms, ins], .int .i64 (depR k d)] w fun e w' => e = .returned (.bool (fmD f k d)) ∧ Below w.heap.size w w'
/-- whether its kind has what it has -/
def kindOK (k : Nat) (d : Dc) : Bool :=
  if d.kind = 1 then d.values.isEmpty && d.methods.isEmpty
  else if d.kind = 2 then d.fields.isEmpty && d.methods.isEmpty && d.inner.isEmpty
  else if d.kind = 3 then d.fields.isEmpty && d.values.isEmpty && d.inner.isEmpty && decide (k = 0)
  else false
theorem fmD_kind (f k : Nat) (d : Dc) (hk : k = 0 ∨ d.kind ≠ 3) : fmD f k d = (plainL d.name && decide (depR k d ≤ 8) && kindOK k d && d.fields.all fOK && d.values.all vOK && d.methods.all mOK && fmL f (k + 1) d.inner) := by
  have e0 : ∀ j, fmL f j [] = true := fun j => by cases f <;> rfl
  unfold fmD kindOK depR
  by_cases h1 : d.kind = 1
  · rw [if_pos h1, if_pos h1, if_pos h1]
    have e : decide ((((k + 1 : Nat) : Int)) ≤ 8) = decide (k < 8) := by
      rw [Bool.eq_iff_iff]; simp; omega
    rw [e]
    cases hv : d.values with
    | cons a t => simp
    | nil =>
      cases hm : d.methods with
      | cons a t => simp
      | nil => simp [Bool.and_assoc]
  · rw [if_neg h1, if_neg h1, if_neg h1]
    have e : decide (((min (k + 1) 8 : Nat) : Int) ≤ 8) = true := by simp; omega
    rw [e]
    by_cases h2 : d.kind = 2
    · rw [if_pos h2, if_pos h2]
      cases hf : d.fields with
      | cons a t => simp
      | nil =>
        cases hm : d.methods with
        | cons a t => simp
        | nil =>
          cases hi : d.inner with
          | cons a t => simp
          | nil => simp [e0]
    · rw [if_neg h2, if_neg h2]
      by_cases h3 : d.kind = 3
      · rw [if_pos h3, if_pos h3]
        have hk0 : k = 0 := hk.resolve_right (fun h => h h3)
        subst hk0
        cases hf : d.fields with
        | cons a t => simp
        | nil =>
          cases hv : d.values with
          | cons a t => simp
          | nil =>
            cases hi : d.inner with
            | cons a t => simp
            | nil => simp [e0]
      · rw [if_neg h3, if_neg h3]; simp
/-- one declaration of a list that lies so deep -/
def fmP (f k : Nat) (d : Dc) : Bool := match f with
  | 0 => false
  | f + 1 => fmD f k d
theorem fmL_fmP (f k : Nat) (ds : List Dc) : fmL f k ds = ds.all (fmP f k) := by
  cases f with
  | zero => cases ds <;> rfl
  | succ f => rfl
set_option maxHeartbeats 32000000 in
set_option maxRecDepth 100000 in
theorem formedW (f : Nat) (IH : ∀ g, f = g + 1 → FormR g) : FormR f := by
  intro k d fs vs ms ins w hk8 hk3 hT hfit htxt kd
  obtain ⟨r1, r2, r3, r4⟩ := kd
  obtain ⟨fa, fc, rfl⟩ := r1.isSl
  obtain ⟨va, vc, rfl⟩ := r2.isSl
  obtain ⟨ma, mc, rfl⟩ := r3.isSl
  obtain ⟨ia, ic, rfl⟩ := r4.isSlD
  have HOK := Lib.hid (fmD_kind f k d hk3)
  have HR1 := Lib.hid r1
  have HR2 := Lib.hid r2
  have HR3 := Lib.hid r3
  have HR4 := Lib.hid r4
  have HT := Lib.hid hT
  have HTX := Lib.hid htxt
  have HFK := Lib.hid hfit.2.2.2
  have lf := hfit.1
  have lv := hfit.2.1
  have lm := hfit.2.2.1
  have li : d.inner.length ≤ 100000 := by
    cases f with
    | zero => rw [r4.1]; simp
    | succ f => exact hfit.2.2.2.1
  have hbV := (Below.refl w.heap.size w).alloc (Nat.le_refl _) (.cells #[.int .i64 d.kind, .string (mkB d.name), .int .i64 d.line, .int .i64 d.col, .slice fa d.fields.length fc, .slice va d.values.length vc, .slice ma d.methods.length mc, .slice ia d.inner.length ic] 51)
  have hV : (w.alloc (.cells #[.int .i64 d.kind, .string (mkB d.name), .int .i64 d.line, .int .i64 d.col, .slice fa d.fields.length fc, .slice va d.values.length vc, .slice ma d.methods.length mc, .slice ia d.inner.length ic] 51)).heap[w.heap.size]? = some (.cells #[.int .i64 d.kind, .string (mkB d.name), .int .i64 d.line, .int .i64 d.col, .slice fa d.fields.length fc, .slice va d.values.length vc, .slice ma d.methods.length mc, .slice ia d.inner.length ic] 51 (0, 0)) := alloc_heap_new _ _
  have hPl := fun W (hW : Below w.heap.size w W) => plainQ_any d.name W (tabs_below hT hW) htxt.1
  obtain ⟨dep, hdep⟩ : ∃ x, depR k d = x := ⟨_, rfl⟩
  have HDEP := Lib.hid hdep
  rw [hdep] at HOK ⊢
  clear r1 r2 r3 r4 hT htxt hfit hdep
  obtain ⟨R, hR⟩ : ∃ R, fmD f k d = R := ⟨_, rfl⟩
  rw [hR] at HOK ⊢
  clear hR
  obtain ⟨bN, hbN⟩ : ∃ x, plainL d.name = x := ⟨_, rfl⟩
  rw [hbN] at HOK hPl
  clear hbN
  obtain ⟨kd, hkd⟩ : ∃ x, d.kind = x := ⟨_, rfl⟩
  have HKD := Lib.hid hkd
  rw [hkd] at hV hbV ⊢
  clear hkd
  go_enter Tryd.func26, Tryd.ntmps26
  go_upto_region 1 with fail
  generalize (w.alloc (.cells #[.int .i64 kd, .string (mkB d.name), .int .i64 d.line, .int .i64 d.col, .slice fa d.fields.length fc, .slice va d.values.length vc, .slice ma d.methods.length mc, .slice ia d.inner.length ic] 51)) = V at *
  have HB := Lib.hid hbV
  have HV := Lib.hid hV
  have hlt := blk_lt hV
  have hsV := hbV.size
  have c1 : V.cell? ⟨w.heap.size, 1, none⟩ = some (.string (mkB d.name)) := by simp [World.cell?, hV]
  have HBX : Hid (∀ W, Below V.heap.size V W → W.heap[w.heap.size]? = some (.cells #[.int .i64 kd, .string (mkB d.name), .int .i64 d.line, .int .i64 d.col, .slice fa d.fields.length fc, .slice va d.values.length vc, .slice ma d.methods.length mc, .slice ia d.inner.length ic] 51 (0, 0))) := fun W hW => (hW.block _ hlt).trans HV.out
  have HLD : Hid (∀ W, Below V.heap.size V W → ∀ g, g < w.heap.size → W.heap[g]? = w.heap[g]?) := fun W hW g hg => (hW.block g (by omega)).trans (HB.out.block g hg)
  have HBW : Hid (∀ W, Below V.heap.size V W → Below w.heap.size w W) := fun W hW => HB.out.trans (hW.mono HB.out.size)
  clear hV hbV
  go_wp2_with fail
  refine (hPl _ HB.out).mono ?_
  rintro e V1 ⟨rfl, hb1⟩
  have HB1 := Lib.hid hb1
  have hX1 := HBX.out V1 hb1
  have x0 : V1.cell? ⟨w.heap.size, 0, none⟩ = some (.int .i64 kd) := by simp [World.cell?, hX1]
  have x4 : V1.cell? ⟨w.heap.size, 4, none⟩ = some (.slice fa d.fields.length fc) := by simp [World.cell?, hX1]
  have x5 : V1.cell? ⟨w.heap.size, 5, none⟩ = some (.slice va d.values.length vc) := by simp [World.cell?, hX1]
  have x6 : V1.cell? ⟨w.heap.size, 6, none⟩ = some (.slice ma d.methods.length mc) := by simp [World.cell?, hX1]
  have x7 : V1.cell? ⟨w.heap.size, 7, none⟩ = some (.slice ia d.inner.length ic) := by simp [World.cell?, hX1]
  clear hPl hb1 c1 hX1
  cases bN
  · go_wp2_with fail
    go_ret
    exact ⟨retB (by rw [HOK.out]; simp), HBW.out _ HB1.out⟩
  by_cases hd8 : (8 : Int) < dep
  · have h8' : decide (dep ≤ 8) = false := decide_eq_false (by omega)
    have H8 := Lib.hid h8'
    clear h8'
    go_wp2_with fail
    go_ret
    exact ⟨retB (by rw [HOK.out, H8.out]; simp), HBW.out _ HB1.out⟩
  have H8 : Hid (decide (dep ≤ 8) = true) := decide_eq_true (by omega)
  have w1 : IntKind.i64.wrap ((d.values.length : Int) + (d.methods.length : Int)) = (d.values.length : Int) + (d.methods.length : Int) := by rw [IntKind.wrap_i64]; omega
  have w2 : IntKind.i64.wrap ((d.fields.length : Int) + (d.methods.length : Int)) = (d.fields.length : Int) + (d.methods.length : Int) := by rw [IntKind.wrap_i64]; omega
  have w3 : IntKind.i64.wrap ((d.fields.length : Int) + (d.methods.length : Int) + (d.inner.length : Int)) = (d.fields.length : Int) + (d.methods.length : Int) + (d.inner.length : Int) := by rw [IntKind.wrap_i64]; omega
  have w4 : IntKind.i64.wrap ((d.fields.length : Int) + (d.values.length : Int)) = (d.fields.length : Int) + (d.values.length : Int) := by rw [IntKind.wrap_i64]; omega
  have w5 : IntKind.i64.wrap ((d.fields.length : Int) + (d.values.length : Int) + (d.inner.length : Int)) = (d.fields.length : Int) + (d.values.length : Int) + (d.inner.length : Int) := by rw [IntKind.wrap_i64]; omega
  by_cases hko : kindOK k d = true
  case neg =>
    have HKO : Hid (R = false) := by
      refine (?_ : _ = _)
      rw [HOK.out, show kindOK k d = false by simpa using hko]; simp
    have emp : ∀ {α : Type} (l : List α), l.isEmpty = decide ((l.length : Int) = 0) := fun l => by cases l with
      | nil => rfl
      | cons a t => simp; omega
    unfold kindOK at hko
    rw [HKD.out] at hko
    simp only [emp] at hko
    by_cases k1 : kd = 1
    · subst k1
      have hz : (0 : Int) < (d.values.length : Int) + (d.methods.length : Int) := Int.not_le.1 fun hle => hko (by
        rw [if_pos rfl, decide_eq_true (show (d.values.length : Int) = 0 by omega), decide_eq_true (show (d.methods.length : Int) = 0 by omega)]; rfl)
      clear hko
      go_wp2_with fail
      go_ret
      exact ⟨retB HKO.out.symm, HBW.out _ HB1.out⟩
    have k1' : (kd == 1) = false := beq_eq_false_iff_ne.2 k1
    rw [if_neg k1] at hko
    by_cases k2 : kd = 2
    · subst k2
      have hz : (0 : Int) < (d.fields.length : Int) + (d.methods.length : Int) + (d.inner.length : Int) := Int.not_le.1 fun hle => hko (by
        rw [if_pos rfl, decide_eq_true (show (d.fields.length : Int) = 0 by omega), decide_eq_true (show (d.methods.length : Int) = 0 by omega), decide_eq_true (show (d.inner.length : Int) = 0 by omega)]; rfl)
      clear hko
      go_wp2_with fail
      go_ret
      exact ⟨retB HKO.out.symm, HBW.out _ HB1.out⟩
    have k2' : (kd == 2) = false := beq_eq_false_iff_ne.2 k2
    rw [if_neg k2] at hko
    by_cases k3 : kd = 3
    · subst k3
      have hk0 : k = 0 := hk3.resolve_right (fun h => h HKD.out)
      have hz : (0 : Int) < (d.fields.length : Int) + (d.values.length : Int) + (d.inner.length : Int) := Int.not_le.1 fun hle => hko (by
        rw [if_pos rfl, decide_eq_true (show (d.fields.length : Int) = 0 by omega), decide_eq_true (show (d.values.length : Int) = 0 by omega), decide_eq_true (show (d.inner.length : Int) = 0 by omega), decide_eq_true hk0]; rfl)
      clear hko hk0
      go_wp2_with fail
      go_ret
      exact ⟨retB HKO.out.symm, HBW.out _ HB1.out⟩
    have k3' : (kd == 3) = false := beq_eq_false_iff_ne.2 k3
    clear hko
    go_wp2_with fail
    go_ret
    exact ⟨retB HKO.out.symm, HBW.out _ HB1.out⟩
  have HKO := Lib.hid hko
  have HOK2 : Hid (R = (d.fields.all fOK && d.values.all vOK && d.methods.all mOK && d.inner.all (fmP f (k + 1)))) := by
    refine (?_ : _ = _)
    rw [HOK.out, H8.out, hko, fmL_fmP]; simp
  have emp : ∀ {α : Type} (l : List α), l.isEmpty = decide ((l.length : Int) = 0) := fun l => by cases l with
    | nil => rfl
    | cons a t => simp; omega
  have key : (kd = 1 ∧ ¬ (0 : Int) < (d.values.length : Int) + (d.methods.length : Int)) ∨ (kd = 2 ∧ ¬ (0 : Int) < (d.fields.length : Int) + (d.methods.length : Int) + (d.inner.length : Int)) ∨ (kd = 3 ∧ ¬ (0 : Int) < (d.fields.length : Int) + (d.values.length : Int) + (d.inner.length : Int) ∧ ¬ (1 : Int) < dep) := by
    unfold kindOK at hko
    rw [HKD.out] at hko
    simp only [emp] at hko
    by_cases k1 : kd = 1
    · left
      rw [if_pos k1] at hko
      simp only [Bool.and_eq_true, decide_eq_true_iff] at hko
      exact ⟨k1, by omega⟩
    · rw [if_neg k1] at hko
      by_cases k2 : kd = 2
      · right; left
        rw [if_pos k2] at hko
        simp only [Bool.and_eq_true, decide_eq_true_iff] at hko
        exact ⟨k2, by omega⟩
      · rw [if_neg k2] at hko
        by_cases k3 : kd = 3
        · right; right
          rw [if_pos k3] at hko
          simp only [Bool.and_eq_true, decide_eq_true_iff] at hko
          refine ⟨k3, by omega, ?_⟩
          rw [← HDEP.out]
          unfold depR
          rw [HKD.out, if_neg k1]
          omega
        · rw [if_neg k3] at hko; cases hko
  have HIN : Hid (d.inner ≠ [] → dep = ((k + 1 : Nat) : Int) ∧ k < 8) := fun hne => by
    have hlen : 0 < d.inner.length := List.length_pos_iff.2 hne
    have h1 : d.kind = 1 := by
      rw [HKD.out]
      rcases key with h | h | h
      · exact h.1
      · have := h.2; omega
      · have := h.2.1; omega
    have h2 : dep = ((k + 1 : Nat) : Int) := by rw [← HDEP.out]; unfold depR; rw [if_pos h1]
    exact ⟨h2, by omega⟩
  clear emp HOK hko HKO H8 HDEP HKD
  rcases key with ⟨rfl, hz⟩ | ⟨rfl, hz⟩ | ⟨rfl, hz, hz1⟩
  all_goals
    have HZ := Lib.hid hz
    go_wp2_with fail
    clear x0 x4 x5 x6 x7 hz
    go_loopw [69] (fun i wq => ∃ q : Nat, q ≤ d.fields.length ∧ i = .int .i64 (q : Int) ∧ d.fields.all fOK = (d.fields.drop q).all fOK ∧ Below V.heap.size V wq) (fun i _ => d.fields.length - (intOf i).toNat)
    case atStart => exact ⟨0, by omega, rfl, rfl, HB1.out⟩
    case round =>
      obtain ⟨q, hq, rfl, hall, hbq⟩ := hrel
      have HAL := Lib.hid hall
      have HBQ := Lib.hid hbq
      have hX := HBX.out wr hbq
      have xb : wr.cell? ⟨w.heap.size, 4, none⟩ = some (.slice fa d.fields.length fc) := by simp [World.cell?, hX]
      have HX := Lib.hid hX
      have hltr := blk_lt hX
      clear hall hbq hX
      by_cases hqn : q < d.fields.length
      · (try (exfalso; have := HZ.out; omega))
        all_goals
          obtain ⟨x, hx⟩ : ∃ x, d.fields[q]? = some x := ⟨_, List.getElem?_eq_getElem hqn⟩
          have HXA : Hid (d.fields.all fOK = (fOK x && (d.fields.drop (q + 1)).all fOK)) := by
            refine (?_ : _ = _)
            rw [HAL.out, List.drop_eq_getElem_cons hqn, List.all_cons, (List.getElem?_eq_some_iff.1 hx).2]
          have hq0 : (0 : Int) ≤ (q : Int) := by omega
          have hq1 : (q : Int) < (d.fields.length : Int) := by omega
          have hwq : IntKind.i64.wrap ((q : Int) + 1) = (q : Int) + 1 := by rw [IntKind.wrap_i64]; omega
          obtain ⟨ad0, c0, hsl, hcc, hrows⟩ := HR1.out
          rcases hrows with h0 | ⟨g, o, had, hg, hrow⟩
          · rw [h0] at hx; simp at hx
          subst had
          have hsl : Value.slice fa d.fields.length fc = .slice (some ⟨g, o, none⟩) d.fields.length c0 := hsl
          obtain ⟨rfl, rfl⟩ : fa = some ⟨g, o, none⟩ ∧ fc = c0 := by
            injection hsl with h1 _ h3
            exact ⟨h1, h3⟩
          have b3 := HLD.out wr HBQ.out g hg
          have hcell := hrow q x hx
          have e0 : wr.cell? ⟨g, o + q * 6, none⟩ = some (.bool x.rep) := by
            rw [World.cell?_of_block b3]
            have := hcell 0 _ rfl
            simpa [Nat.add_assoc] using this
          have e1 : wr.cell? ⟨g, o + q * 6 + 1, none⟩ = some (.string (mkB x.type)) := by
            rw [World.cell?_of_block b3]
            have := hcell 1 _ rfl
            simpa [Nat.add_assoc] using this
          have e2 : wr.cell? ⟨g, o + q * 6 + 2, none⟩ = some (.string (mkB x.name)) := by
            rw [World.cell?_of_block b3]
            have := hcell 2 _ rfl
            simpa [Nat.add_assoc] using this
          have e3 : wr.cell? ⟨g, o + q * 6 + 3, none⟩ = some (.int .i64 x.num) := by
            rw [World.cell?_of_block b3]
            have := hcell 3 _ rfl
            simpa [Nat.add_assoc] using this
          have e4 : wr.cell? ⟨g, o + q * 6 + 4, none⟩ = some (.int .i64 x.line) := by
            rw [World.cell?_of_block b3]
            have := hcell 4 _ rfl
            simpa [Nat.add_assoc] using this
          have e5 : wr.cell? ⟨g, o + q * 6 + 5, none⟩ = some (.int .i64 x.col) := by
            rw [World.cell?_of_block b3]
            have := hcell 5 _ rfl
            simpa [Nat.add_assoc] using this
          have hCall := formedField_any x wr (tabs_below HT.out (HBW.out wr HBQ.out)) (HTX.out.2.1 x (List.mem_of_getElem? hx))
          obtain ⟨b, hb⟩ : ∃ b, fOK x = b := ⟨_, rfl⟩
          have HPX := Lib.hid hb
          rw [hb] at hCall
          clear hx hrow b3 hcell hb
          go_wp2_with fail
          refine hCall.mono ?_
          rintro e W9 ⟨rfl, hb9⟩
          have HB9 := Lib.hid (HBQ.out.trans (hb9.mono HBQ.out.size))
          clear hCall hb9 xb e0 e1 e2 e3 e4 e5
          cases b
          · go_wp2_with fail
            go_ret
            exact ⟨retB (by rw [HOK2.out, HXA.out, HPX.out]; simp), HBW.out _ HB9.out⟩
          go_wp2_with fail
          go_roundw
          case rel => exact ⟨q + 1, by omega, by go_num, by rw [HXA.out, HPX.out]; rfl, HB9.out⟩
          case measure => simp [intOf]; omega
      · have hqn' : ¬ (q : Int) < (d.fields.length : Int) := by omega
        have HA0 : Hid (d.fields.all fOK = true) := by
          refine (?_ : _ = _)
          rw [HAL.out, List.drop_eq_nil_of_le (by omega)]; rfl
        have xn : wr.cell? ⟨w.heap.size, 5, none⟩ = some (.slice va d.values.length vc) := by simp [World.cell?, HX.out]
        have HB2 := HBQ
        go_wp2_with fail
        clear xn xb hqn' hqn hq HX hltr HAL
        generalize wr = w2 at *
        go_loopw [83] (fun i wq => ∃ q : Nat, q ≤ d.values.length ∧ i = .int .i64 (q : Int) ∧ d.values.all vOK = (d.values.drop q).all vOK ∧ Below V.heap.size V wq) (fun i _ => d.values.length - (intOf i).toNat)
        case atStart => exact ⟨0, by omega, rfl, rfl, HB2.out⟩
        case round =>
          obtain ⟨q, hq, rfl, hall, hbq⟩ := hrel
          have HAL := Lib.hid hall
          have HBQ := Lib.hid hbq
          have hX := HBX.out wr hbq
          have xb : wr.cell? ⟨w.heap.size, 5, none⟩ = some (.slice va d.values.length vc) := by simp [World.cell?, hX]
          have HX := Lib.hid hX
          have hltr := blk_lt hX
          clear hall hbq hX
          by_cases hqn : q < d.values.length
          · (try (exfalso; have := HZ.out; omega))
            all_goals
              obtain ⟨x, hx⟩ : ∃ x, d.values[q]? = some x := ⟨_, List.getElem?_eq_getElem hqn⟩
              have HXA : Hid (d.values.all vOK = (vOK x && (d.values.drop (q + 1)).all vOK)) := by
                refine (?_ : _ = _)
                rw [HAL.out, List.drop_eq_getElem_cons hqn, List.all_cons, (List.getElem?_eq_some_iff.1 hx).2]
              have hq0 : (0 : Int) ≤ (q : Int) := by omega
              have hq1 : (q : Int) < (d.values.length : Int) := by omega
              have hwq : IntKind.i64.wrap ((q : Int) + 1) = (q : Int) + 1 := by rw [IntKind.wrap_i64]; omega
              obtain ⟨ad0, c0, hsl, hcc, hrows⟩ := HR2.out
              rcases hrows with h0 | ⟨g, o, had, hg, hrow⟩
              · rw [h0] at hx; simp at hx
              subst had
              have hsl : Value.slice va d.values.length vc = .slice (some ⟨g, o, none⟩) d.values.length c0 := hsl
              obtain ⟨rfl, rfl⟩ : va = some ⟨g, o, none⟩ ∧ vc = c0 := by
                injection hsl with h1 _ h3
                exact ⟨h1, h3⟩
              have b3 := HLD.out wr HBQ.out g hg
              have hcell := hrow q x hx
              have e0 : wr.cell? ⟨g, o + q * 4, none⟩ = some (.string (mkB x.name)) := by
                rw [World.cell?_of_block b3]
                have := hcell 0 _ rfl
                simpa [Nat.add_assoc] using this
              have e1 : wr.cell? ⟨g, o + q * 4 + 1, none⟩ = some (.int .i64 x.num) := by
                rw [World.cell?_of_block b3]
                have := hcell 1 _ rfl
                simpa [Nat.add_assoc] using this
              have e2 : wr.cell? ⟨g, o + q * 4 + 2, none⟩ = some (.int .i64 x.line) := by
                rw [World.cell?_of_block b3]
                have := hcell 2 _ rfl
                simpa [Nat.add_assoc] using this
              have e3 : wr.cell? ⟨g, o + q * 4 + 3, none⟩ = some (.int .i64 x.col) := by
                rw [World.cell?_of_block b3]
                have := hcell 3 _ rfl
                simpa [Nat.add_assoc] using this
              have hCall := plainQ_any x.name wr (tabs_below HT.out (HBW.out wr HBQ.out)) (HTX.out.2.2.1 x (List.mem_of_getElem? hx))
              obtain ⟨b, hb⟩ : ∃ b, plainL x.name = b := ⟨_, rfl⟩
              have HPN : Hid (vOK x = (b && numOK x.num)) := by
                refine (?_ : _ = _)
                rw [← hb]; rfl
              rw [hb] at hCall
              have HG := Lib.hid (show g < wr.heap.size by have := cell_lt e0; exact this)
              clear hx hrow b3 hcell hb
              go_wp2_with fail
              refine hCall.mono ?_
              rintro e W9 ⟨rfl, hb9⟩
              have HB9 := Lib.hid (HBQ.out.trans (hb9.mono HBQ.out.size))
              have xb9 : W9.cell? ⟨w.heap.size, 5, none⟩ = some (.slice (some ⟨g, o, none⟩) d.values.length vc) := by rw [World.cell?_of_block (hb9.block _ hltr)]; exact xb
              have n9 : W9.cell? ⟨g, o + q * 4 + 1, none⟩ = some (.int .i64 x.num) := by rw [World.cell?_of_block (hb9.block _ HG.out)]; exact e1
              clear hCall hb9 xb e0 e1 e2 e3
              cases b
              · have HPX : Hid (vOK x = false) := by refine (?_ : _ = _); rw [HPN.out]; rfl
                go_wp2_with fail
                go_ret
                exact ⟨retB (by rw [HOK2.out, HA0.out, HXA.out, HPX.out]; simp), HBW.out _ HB9.out⟩
              by_cases h0 : x.num < 0
              · have HPX : Hid (vOK x = false) := by
                  refine (?_ : _ = _)
                  rw [HPN.out]; unfold numOK; simp; omega
                go_wp2_with fail
                go_ret
                exact ⟨retB (by rw [HOK2.out, HA0.out, HXA.out, HPX.out]; simp), HBW.out _ HB9.out⟩
              by_cases h1 : 2147483647 < x.num
              · have HPX : Hid (vOK x = false) := by
                  refine (?_ : _ = _)
                  rw [HPN.out]; unfold numOK; simp; omega
                go_wp2_with fail
                go_ret
                exact ⟨retB (by rw [HOK2.out, HA0.out, HXA.out, HPX.out]; simp), HBW.out _ HB9.out⟩
              have HPX : Hid (vOK x = true) := by
                refine (?_ : _ = _)
                rw [HPN.out]; unfold numOK; simp; omega
              go_wp2_with fail
              go_roundw
              case rel => exact ⟨q + 1, by omega, by go_num, by rw [HXA.out, HPX.out]; rfl, HB9.out⟩
              case measure => simp [intOf]; omega
          · have hqn' : ¬ (q : Int) < (d.values.length : Int) := by omega
            have HA1 : Hid (d.values.all vOK = true) := by
              refine (?_ : _ = _)
              rw [HAL.out, List.drop_eq_nil_of_le (by omega)]; rfl
            have xn : wr.cell? ⟨w.heap.size, 6, none⟩ = some (.slice ma d.methods.length mc) := by simp [World.cell?, HX.out]
            have HB3 := HBQ
            go_wp2_with fail
            clear xn xb hqn' hqn hq HX hltr HAL
            generalize wr = w3 at *
            go_loopw [116] (fun i wq => ∃ q : Nat, q ≤ d.methods.length ∧ i = .int .i64 (q : Int) ∧ d.methods.all mOK = (d.methods.drop q).all mOK ∧ Below V.heap.size V wq) (fun i _ => d.methods.length - (intOf i).toNat)
            case atStart => exact ⟨0, by omega, rfl, rfl, HB3.out⟩
            case round =>
              obtain ⟨q, hq, rfl, hall, hbq⟩ := hrel
              have HAL := Lib.hid hall
              have HBQ := Lib.hid hbq
              have hX := HBX.out wr hbq
              have xb : wr.cell? ⟨w.heap.size, 6, none⟩ = some (.slice ma d.methods.length mc) := by simp [World.cell?, hX]
              have HX := Lib.hid hX
              have hltr := blk_lt hX
              clear hall hbq hX
              by_cases hqn : q < d.methods.length
              · (try (exfalso; have := HZ.out; omega))
                all_goals
                  obtain ⟨x, hx⟩ : ∃ x, d.methods[q]? = some x := ⟨_, List.getElem?_eq_getElem hqn⟩
                  have HXA : Hid (d.methods.all mOK = (mOK x && (d.methods.drop (q + 1)).all mOK)) := by
                    refine (?_ : _ = _)
                    rw [HAL.out, List.drop_eq_getElem_cons hqn, List.all_cons, (List.getElem?_eq_some_iff.1 hx).2]
                  have hq0 : (0 : Int) ≤ (q : Int) := by omega
                  have hq1 : (q : Int) < (d.methods.length : Int) := by omega
                  have hwq : IntKind.i64.wrap ((q : Int) + 1) = (q : Int) + 1 := by rw [IntKind.wrap_i64]; omega
                  obtain ⟨ad0, c0, hsl, hcc, hrows⟩ := HR3.out
                  rcases hrows with h0 | ⟨g, o, had, hg, hrow⟩
                  · rw [h0] at hx; simp at hx
                  subst had
                  have hsl : Value.slice ma d.methods.length mc = .slice (some ⟨g, o, none⟩) d.methods.length c0 := hsl
                  obtain ⟨rfl, rfl⟩ : ma = some ⟨g, o, none⟩ ∧ mc = c0 := by
                    injection hsl with h1 _ h3
                    exact ⟨h1, h3⟩
                  have b3 := HLD.out wr HBQ.out g hg
                  have hcell := hrow q x hx
                  have e0 : wr.cell? ⟨g, o + q * 5, none⟩ = some (.string (mkB x.name)) := by
                    rw [World.cell?_of_block b3]
                    have := hcell 0 _ rfl
                    simpa [Nat.add_assoc] using this
                  have e1 : wr.cell? ⟨g, o + q * 5 + 1, none⟩ = some (.string (mkB x.inp)) := by
                    rw [World.cell?_of_block b3]
                    have := hcell 1 _ rfl
                    simpa [Nat.add_assoc] using this
                  have e2 : wr.cell? ⟨g, o + q * 5 + 2, none⟩ = some (.string (mkB x.out)) := by
                    rw [World.cell?_of_block b3]
                    have := hcell 2 _ rfl
                    simpa [Nat.add_assoc] using this
                  have e3 : wr.cell? ⟨g, o + q * 5 + 3, none⟩ = some (.int .i64 x.line) := by
                    rw [World.cell?_of_block b3]
                    have := hcell 3 _ rfl
                    simpa [Nat.add_assoc] using this
                  have e4 : wr.cell? ⟨g, o + q * 5 + 4, none⟩ = some (.int .i64 x.col) := by
                    rw [World.cell?_of_block b3]
                    have := hcell 4 _ rfl
                    simpa [Nat.add_assoc] using this
                  have hTm := HTX.out.2.2.2.1 x (List.mem_of_getElem? hx)
                  have hC1 := pathA_any x.inp wr (tabs_below HT.out (HBW.out wr HBQ.out)) hTm.2.1
                  obtain ⟨b1, hb1⟩ : ∃ b, pathOK x.inp = b := ⟨_, rfl⟩
                  obtain ⟨b2, hb2⟩ : ∃ b, pathOK x.out = b := ⟨_, rfl⟩
                  obtain ⟨b0, hb0⟩ : ∃ b, plainL x.name = b := ⟨_, rfl⟩
                  have HPN : Hid (mOK x = (b0 && b1 && b2)) := by
                    refine (?_ : _ = _)
                    rw [← hb0, ← hb1, ← hb2]; rfl
                  have HC2 : Hid (∀ W, Below w.heap.size w W → Calls Tryd.prog 15 #[.string (mkB x.out)] W fun e w' => (∃ ad n c, e = .returned (.tuple #[.slice ad n c, .bool b2])) ∧ Below W.heap.size W w') := fun W hW => by
                    rw [← hb2]
                    exact pathA_any x.out W (tabs_below HT.out hW) hTm.2.2
                  have HC0 : Hid (∀ W, Below w.heap.size w W → Calls Tryd.prog 16 #[.string (mkB x.name)] W fun e w' => e = .returned (.bool b0) ∧ Below W.heap.size W w') := fun W hW => by
                    rw [← hb0]
                    exact plainQ_any x.name W (tabs_below HT.out hW) hTm.1
                  rw [hb1] at hC1
                  have HG := Lib.hid (show g < wr.heap.size by have := cell_lt e0; exact this)
                  clear hx hrow b3 hcell hb0 hb1 hb2 hTm
                  go_wp2_with fail
                  refine hC1.mono ?_
                  rintro e W7 ⟨⟨a7, n7, c7, rfl⟩, hb7⟩
                  have HB7 := Lib.hid (HBQ.out.trans (hb7.mono HBQ.out.size))
                  have xb7 : W7.cell? ⟨w.heap.size, 6, none⟩ = some (.slice (some ⟨g, o, none⟩) d.methods.length mc) := by rw [World.cell?_of_block (hb7.block _ hltr)]; exact xb
                  have n7b : W7.cell? ⟨g, o + q * 5 + 2, none⟩ = some (.string (mkB x.out)) := by rw [World.cell?_of_block (hb7.block _ HG.out)]; exact e2
                  have N7 := Lib.hid (show W7.cell? ⟨g, o + q * 5, none⟩ = some (.string (mkB x.name)) by rw [World.cell?_of_block (hb7.block _ HG.out)]; exact e0)
                  have hs7 := hb7.size
                  clear hC1 hb7 xb e0 e1 e2 e3 e4
                  go_wp2_with fail
                  refine (HC2.out W7 (HBW.out _ HB7.out)).mono ?_
                  rintro e W8 ⟨⟨a8, n8, c8, rfl⟩, hb8⟩
                  have HB8 := Lib.hid (HB7.out.trans (hb8.mono HB7.out.size))
                  have xb8 : W8.cell? ⟨w.heap.size, 6, none⟩ = some (.slice (some ⟨g, o, none⟩) d.methods.length mc) := by rw [World.cell?_of_block (hb8.block w.heap.size (by omega))]; exact xb7
                  have n8b : W8.cell? ⟨g, o + q * 5, none⟩ = some (.string (mkB x.name)) := by rw [World.cell?_of_block (hb8.block g (by have := HG.out; omega))]; exact N7.out
                  clear hb8 xb7 n7b
                  go_wp2_with fail
                  refine (HC0.out W8 (HBW.out _ HB8.out)).mono ?_
                  rintro e W9 ⟨rfl, hb9⟩
                  have HB9 := Lib.hid (HB8.out.trans (hb9.mono HB8.out.size))
                  clear hb9 xb8 n8b HC0 HC2
                  cases b0
                  · have HPX : Hid (mOK x = false) := by refine (?_ : _ = _); rw [HPN.out]; rfl
                    go_wp2_with fail
                    go_ret
                    exact ⟨retB (by rw [HOK2.out, HA0.out, HA1.out, HXA.out, HPX.out]; simp), HBW.out _ HB9.out⟩
                  cases b1
                  · have HPX : Hid (mOK x = false) := by refine (?_ : _ = _); rw [HPN.out]; rfl
                    go_wp2_with fail
                    go_ret
                    exact ⟨retB (by rw [HOK2.out, HA0.out, HA1.out, HXA.out, HPX.out]; simp), HBW.out _ HB9.out⟩
                  cases b2
                  · have HPX : Hid (mOK x = false) := by refine (?_ : _ = _); rw [HPN.out]; rfl
                    go_wp2_with fail
                    go_ret
                    exact ⟨retB (by rw [HOK2.out, HA0.out, HA1.out, HXA.out, HPX.out]; simp), HBW.out _ HB9.out⟩
                  have HPX : Hid (mOK x = true) := by refine (?_ : _ = _); rw [HPN.out]; rfl
                  go_wp2_with fail
                  go_roundw
                  case rel => exact ⟨q + 1, by omega, by go_num, by rw [HXA.out, HPX.out]; rfl, HB9.out⟩
                  case measure => simp [intOf]; omega
              · have hqn' : ¬ (q : Int) < (d.methods.length : Int) := by omega
                have HA2 : Hid (d.methods.all mOK = true) := by
                  refine (?_ : _ = _)
                  rw [HAL.out, List.drop_eq_nil_of_le (by omega)]; rfl
                have xn : wr.cell? ⟨w.heap.size, 7, none⟩ = some (.slice ia d.inner.length ic) := by simp [World.cell?, HX.out]
                have HB4 := HBQ
                go_wp2_with fail
                clear xn xb hqn' hqn hq HX hltr HAL
                generalize wr = w4 at *
                go_loopw [159] (fun i wq => ∃ q : Nat, q ≤ d.inner.length ∧ i = .int .i64 (q : Int) ∧ d.inner.all (fmP f (k + 1)) = (d.inner.drop q).all (fmP f (k + 1)) ∧ Below V.heap.size V wq) (fun i _ => d.inner.length - (intOf i).toNat)
                case atStart => exact ⟨0, by omega, rfl, rfl, HB4.out⟩
                case round =>
                  obtain ⟨q, hq, rfl, hall, hbq⟩ := hrel
                  have HAL := Lib.hid hall
                  have HBQ := Lib.hid hbq
                  have hX := HBX.out wr hbq
                  have xb : wr.cell? ⟨w.heap.size, 7, none⟩ = some (.slice ia d.inner.length ic) := by simp [World.cell?, hX]
                  have HX := Lib.hid hX
                  have hltr := blk_lt hX
                  clear hall hbq hX
                  by_cases hqn : q < d.inner.length
                  · (try (exfalso; have := HZ.out; omega))
                    all_goals
                      obtain ⟨x, hx⟩ : ∃ x, d.inner[q]? = some x := ⟨_, List.getElem?_eq_getElem hqn⟩
                      have HXA : Hid (d.inner.all (fmP f (k + 1)) = ((fmP f (k + 1)) x && (d.inner.drop (q + 1)).all (fmP f (k + 1)))) := by
                        refine (?_ : _ = _)
                        rw [HAL.out, List.drop_eq_getElem_cons hqn, List.all_cons, (List.getElem?_eq_some_iff.1 hx).2]
                      have hq0 : (0 : Int) ≤ (q : Int) := by omega
                      have hq1 : (q : Int) < (d.inner.length : Int) := by omega
                      have hwq : IntKind.i64.wrap ((q : Int) + 1) = (q : Int) + 1 := by rw [IntKind.wrap_i64]; omega
                      obtain ⟨hdk, hk8'⟩ := HIN.out (by intro e; rw [e] at hqn; simp at hqn)
                      cases f with
                      | zero =>
                        have h0 := HR4.out.1
                        rw [h0] at hqn; simp at hqn
                      | succ f =>
                        obtain ⟨ad0, c0, hsl, hcc, hrows⟩ := HR4.out
                        rcases hrows with h0 | ⟨g, o, had, hg, hrow⟩
                        · rw [h0] at hx; simp at hx
                        subst had
                        have hsl : Value.slice ia d.inner.length ic = .slice (some ⟨g, o, none⟩) d.inner.length c0 := hsl
                        obtain ⟨rfl, rfl⟩ : ia = some ⟨g, o, none⟩ ∧ ic = c0 := by
                          injection hsl with h1 _ h3
                          exact ⟨h1, h3⟩
                        have b3 := HLD.out wr HBQ.out g hg
                        obtain ⟨fs1, vs1, ms1, ins1, hcell, kd1⟩ := hrow q x hx
                        have kd1 : Kids f w (fun x => x < w.heap.size) fs1 vs1 ms1 ins1 x := kd1
                        have kd0 := kd1
                        obtain ⟨r1, r2, r3, r4⟩ := kd0
                        obtain ⟨fa1, fc1, rfl⟩ := r1.isSl
                        obtain ⟨va1, vc1, rfl⟩ := r2.isSl
                        obtain ⟨ma1, mc1, rfl⟩ := r3.isSl
                        obtain ⟨ia1, ic1, rfl⟩ := r4.isSlD
                        have e0 : wr.cell? ⟨g, o + q * 8, none⟩ = some (.int .i64 x.kind) := by
                          rw [World.cell?_of_block b3]
                          have := hcell 0 _ rfl
                          simpa [Nat.add_assoc] using this
                        have e1 : wr.cell? ⟨g, o + q * 8 + 1, none⟩ = some (.string (mkB x.name)) := by
                          rw [World.cell?_of_block b3]
                          have := hcell 1 _ rfl
                          simpa [Nat.add_assoc] using this
                        have e2 : wr.cell? ⟨g, o + q * 8 + 2, none⟩ = some (.int .i64 x.line) := by
                          rw [World.cell?_of_block b3]
                          have := hcell 2 _ rfl
                          simpa [Nat.add_assoc] using this
                        have e3 : wr.cell? ⟨g, o + q * 8 + 3, none⟩ = some (.int .i64 x.col) := by
                          rw [World.cell?_of_block b3]
                          have := hcell 3 _ rfl
                          simpa [Nat.add_assoc] using this
                        have e4 : wr.cell? ⟨g, o + q * 8 + 4, none⟩ = some (.slice fa1 x.fields.length fc1) := by
                          rw [World.cell?_of_block b3]
                          have := hcell 4 _ rfl
                          simpa [Nat.add_assoc] using this
                        have e5 : wr.cell? ⟨g, o + q * 8 + 5, none⟩ = some (.slice va1 x.values.length vc1) := by
                          rw [World.cell?_of_block b3]
                          have := hcell 5 _ rfl
                          simpa [Nat.add_assoc] using this
                        have e6 : wr.cell? ⟨g, o + q * 8 + 6, none⟩ = some (.slice ma1 x.methods.length mc1) := by
                          rw [World.cell?_of_block b3]
                          have := hcell 6 _ rfl
                          simpa [Nat.add_assoc] using this
                        have e7 : wr.cell? ⟨g, o + q * 8 + 7, none⟩ = some (.slice ia1 x.inner.length ic1) := by
                          rw [World.cell?_of_block b3]
                          have := hcell 7 _ rfl
                          simpa [Nat.add_assoc] using this
                        have hbw := HBW.out wr HBQ.out
                        have hfitx : FitK f x := HFK.out.2 x (List.mem_of_getElem? hx)
                        have htxtx : TxtK f x := HTX.out.2.2.2.2 x (List.mem_of_getElem? hx)
                        have HCL : Hid (x.kind ≠ 3 → Calls Tryd.prog 26 #[.agg #[.int .i64 x.kind, .string (mkB x.name), .int .i64 x.line, .int .i64 x.col, .slice fa1 x.fields.length fc1, .slice va1 x.values.length vc1, .slice ma1 x.methods.length mc1, .slice ia1 x.inner.length ic1], .int .i64 (depR (k + 1) x)] wr fun e w' => e = .returned (.bool (fmD f (k + 1) x)) ∧ Below wr.heap.size wr w') := fun h3 =>
                          IH f rfl (k + 1) x _ _ _ _ wr (by omega) (.inr h3) (tabs_below HT.out hbw) hfitx htxtx ((kd1.old fun b hb => hbw.block b hb).more fun b hb => by have := hbw.size; omega)
                        have hw1 : IntKind.i64.wrap (dep + 1) = dep + 1 := by rw [IntKind.wrap_i64]; omega
                        have HDK := Lib.hid hdk
                        have HF3 : Hid (x.kind = 3 → fmD f (k + 1) x = false) := fun h3 => by
                          unfold fmD
                          rw [h3]; simp
                        clear hx hrow b3 hcell kd1 r1 r2 r3 r4 hfitx htxtx hbw hdk
                        obtain ⟨xk, hxk⟩ : ∃ z, x.kind = z := ⟨_, rfl⟩
                        have HXK := Lib.hid hxk
                        rw [hxk] at e0
                        by_cases k1 : xk = 1
                        · have k1' : (xk != 1) = false := by simpa using k1
                          have k3' : (xk == 3) = false := by rw [beq_eq_false_iff_ne]; omega
                          have hdr : depR (k + 1) x = dep + 1 := by unfold depR; rw [if_pos (by rw [hxk]; exact k1), HDK.out]; omega
                          have hCall := HCL.out (by rw [hxk]; omega)
                          rw [hdr, hxk] at hCall
                          obtain ⟨b, hb⟩ : ∃ b, fmD f (k + 1) x = b := ⟨_, rfl⟩
                          have HPX : Hid (fmP (f + 1) (k + 1) x = b) := hb
                          rw [hb] at hCall
                          clear hb hxk hdr k1
                          go_wp2_with fail
                          refine hCall.mono ?_
                          rintro e W9 ⟨rfl, hb9⟩
                          have HB9 := Lib.hid (HBQ.out.trans (hb9.mono HBQ.out.size))
                          clear hCall hb9 xb e0 e1 e2 e3 e4 e5 e6 e7
                          cases b
                          · go_wp2_with fail
                            go_ret
                            exact ⟨retB (by rw [HOK2.out, HA0.out, HA1.out, HA2.out, HXA.out, HPX.out]; simp), HBW.out _ HB9.out⟩
                          go_wp2_with fail
                          go_roundw
                          case rel => exact ⟨q + 1, by omega, by go_num, by rw [HXA.out, HPX.out]; rfl, HB9.out⟩
                          case measure => simp [intOf]; omega
                        · have k1' : (xk != 1) = true := by simpa using k1
                          have hmn : ∀ W : World, (Builtin.min_ #[3, 3] 3 #[.int .i64 (dep + 1), .int .i64 8]).run Tryd.prog W = .ok (.int .i64 (if 8 < dep + 1 then 8 else dep + 1)) W := fun W => by simp [Builtin.min_, Builtin.min2]
                          obtain ⟨dd, hdd⟩ : ∃ z : Int, (if 8 < dep + 1 then 8 else dep + 1) = z := ⟨_, rfl⟩
                          rw [hdd] at hmn
                          have HDD := Lib.hid hdd
                          clear hdd
                          by_cases k3 : xk = 3
                          · have k3' : (xk == 3) = true := by simpa using k3
                            have HPX : Hid (fmP (f + 1) (k + 1) x = false) := HF3.out (by rw [hxk]; exact k3)
                            clear hxk k1 k3
                            go_wp2_with fail
                            go_ret
                            exact ⟨retB (by rw [HOK2.out, HA0.out, HA1.out, HA2.out, HXA.out, HPX.out]; simp), HBW.out _ HBQ.out⟩
                          · have k3' : (xk == 3) = false := by simpa using k3
                            have hdr : depR (k + 1) x = (if 8 < dep + 1 then 8 else dep + 1) := by
                              unfold depR
                              rw [if_neg (by rw [hxk]; exact k1), HDK.out]
                              split <;> omega
                            have hCall := HCL.out (by rw [hxk]; exact k3)
                            rw [hdr, hxk] at hCall
                            rw [HDD.out] at hCall
                            obtain ⟨b, hb⟩ : ∃ b, fmD f (k + 1) x = b := ⟨_, rfl⟩
                            have HPX : Hid (fmP (f + 1) (k + 1) x = b) := hb
                            rw [hb] at hCall
                            clear hb hxk hdr k1 k3
                            go_wp2_with fail
                            refine hCall.mono ?_
                            rintro e W9 ⟨rfl, hb9⟩
                            have HB9 := Lib.hid (HBQ.out.trans (hb9.mono HBQ.out.size))
                            clear hCall hb9 xb e0 e1 e2 e3 e4 e5 e6 e7 hmn
                            cases b
                            · go_wp2_with fail
                              go_ret
                              exact ⟨retB (by rw [HOK2.out, HA0.out, HA1.out, HA2.out, HXA.out, HPX.out]; simp), HBW.out _ HB9.out⟩
                            go_wp2_with fail
                            go_roundw
                            case rel => exact ⟨q + 1, by omega, by go_num, by rw [HXA.out, HPX.out]; rfl, HB9.out⟩
                            case measure => simp [intOf]; omega
                  · have hqn' : ¬ (q : Int) < (d.inner.length : Int) := by omega
                    have HA3 : Hid (d.inner.all (fmP f (k + 1)) = true) := by
                      refine (?_ : _ = _)
                      rw [HAL.out, List.drop_eq_nil_of_le (by omega)]; rfl
                    go_wp2_with fail
                    go_ret
                    exact ⟨retB (by rw [HOK2.out, HA0.out, HA1.out, HA2.out, HA3.out]; rfl), HBW.out _ HBQ.out⟩
theorem formR : ∀ f : Nat, FormR f := by
  intro f
  induction f with
  | zero => exact formedW 0 (fun g h => by omega)
  | succ f ih => exact formedW (f + 1) (fun g h => by
      have : g = f := by omega
      subst this
      exact ih)
end Go.Proofs.YtglkgcpfdhneeaaDoor
