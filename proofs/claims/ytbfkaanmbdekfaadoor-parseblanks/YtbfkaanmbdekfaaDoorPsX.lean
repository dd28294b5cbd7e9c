/-
  What is read of words is so short that slices of it can be made. Nothing is proved of the program here.
-/
import Derived.Test.YtbfkaanmbdekfaaDoorPsM
namespace Go.Proofs.YtbfkaanmbdekfaaDoor
set_option linter.unusedVariables false

/-- so many, and so deep, that slices of them can be made -/
def FitD : Nat → List Dc → Prop
  | 0, ds => True
  | f + 1, ds => ds.length ≤ 100000 ∧ ∀ d ∈ ds, d.fields.length ≤ 100000 ∧ d.values.length ≤ 100000 ∧ d.methods.length ≤ 100000 ∧ FitD f d.inner
/-- one that fits, however deep -/
def FitOne (d : Dc) : Prop := d.fields.length ≤ 100000 ∧ d.values.length ≤ 100000 ∧ d.methods.length ≤ 100000 ∧ ∀ f, FitD f d.inner
theorem fitD_of {ds : List Dc} (hl : ds.length ≤ 100000) (h : ∀ d ∈ ds, FitOne d) : ∀ f, FitD f ds
  | 0 => trivial
  | f + 1 => ⟨hl, fun d hd => ⟨(h d hd).1, (h d hd).2.1, (h d hd).2.2.1, (h d hd).2.2.2 f⟩⟩
theorem Rd.l_tail (r : Rd) : r.tail.l.length ≤ r.l.length := by unfold Rd.tail; simp
theorem Rd.l_fail (r : Rd) (e : Int) (p : Int × Int) : (r.fail e p).l.length ≤ r.l.length := by
  unfold Rd.fail; split <;> exact Nat.le_refl _
section
variable (en : Int × Int)
theorem Rd.l_take (r : Rd) (t : List UInt8) : (r.take en t).l.length ≤ r.l.length := by
  unfold Rd.take
  split
  · exact r.l_tail
  · exact r.l_fail _ _
theorem Rd.l_name (r : Rd) : (r.name en).l.length ≤ r.l.length := by
  unfold Rd.name
  split
  · exact r.l_tail
  · exact r.l_fail _ _
theorem Rd.l_number (r : Rd) : (r.number en).l.length ≤ r.l.length := by
  unfold Rd.number
  split
  · exact r.l_tail
  · exact r.l_fail _ _
theorem pathL_l (first : Int × Int) : ∀ (f n : Nat) (s : List UInt8) (r : Rd), (pathL en first f n s r).2.l.length ≤ r.l.length
  | 0, n, s, r => Nat.le_refl _
  | f + 1, n, s, r => by
    unfold pathL
    split
    · refine Nat.le_trans (pathL_l first f _ _ _) ?_
      have h1 := Rd.l_take en r [46]
      have h2 := Rd.l_name en (r.take en [46])
      split
      · have := Rd.l_fail ((r.take en [46]).name en) 8 first; omega
      · omega
    · exact Nat.le_refl _
theorem Rd.l_path (r : Rd) : (r.path en).2.l.length ≤ r.l.length := Nat.le_trans (pathL_l en _ _ _ _ _) (Rd.l_name en r)
theorem Rd.l_typ (r : Rd) : (r.typ en).2.l.length ≤ r.l.length := by
  unfold Rd.typ
  split
  · exact r.l_tail
  · exact Rd.l_path en r
theorem Rd.l_field (r : Rd) : (r.field en).2.l.length ≤ r.l.length := by
  unfold Rd.field
  simp only
  have a : (if r.is tRepeated = true then r.take en tRepeated else r).l.length ≤ r.l.length := by
    split
    · exact Rd.l_take en r _
    · exact Nat.le_refl _
  generalize (if r.is tRepeated = true then r.take en tRepeated else r) = r1 at *
  have b := Rd.l_typ en r1
  have c := Rd.l_name en (r1.typ en).2
  have d := Rd.l_take en ((r1.typ en).2.name en) [61]
  have e := Rd.l_number en (((r1.typ en).2.name en).take en [61])
  have f := Rd.l_take en ((((r1.typ en).2.name en).take en [61]).number en) [59]
  omega
theorem Rd.l_value (r : Rd) : (r.value en).2.l.length ≤ r.l.length := by
  unfold Rd.value
  simp only
  have c := Rd.l_name en r
  have d := Rd.l_take en (r.name en) [61]
  have e := Rd.l_number en ((r.name en).take en [61])
  have f := Rd.l_take en (((r.name en).take en [61]).number en) [59]
  omega
theorem Rd.l_method (r : Rd) : (r.method en).2.l.length ≤ r.l.length := by
  unfold Rd.method
  simp only
  have a := Rd.l_take en r tRpc
  have b := Rd.l_name en (r.take en tRpc)
  have c := Rd.l_take en ((r.take en tRpc).name en) [40]
  have d := Rd.l_path en (((r.take en tRpc).name en).take en [40])
  generalize (((r.take en tRpc).name en).take en [40]).path en = p at *
  have e := Rd.l_take en p.2 [41]
  have f := Rd.l_take en (p.2.take en [41]) tReturns
  have g := Rd.l_take en ((p.2.take en [41]).take en tReturns) [40]
  have h := Rd.l_path en (((p.2.take en [41]).take en tReturns).take en [40])
  generalize (((p.2.take en [41]).take en tReturns).take en [40]).path en = q at *
  have i := Rd.l_take en q.2 [41]
  have j := Rd.l_take en (q.2.take en [41]) [59]
  omega
theorem valuesL_l : ∀ (f : Nat) (r : Rd) (acc : List Vl), (valuesL en f r acc).2.l.length ≤ r.l.length ∧ (valuesL en f r acc).1.length ≤ acc.length + f
  | 0, r, acc => ⟨Nat.le_refl _, Nat.le_refl _⟩
  | f + 1, r, acc => by
    unfold valuesL
    split
    · have ih := valuesL_l f (r.value en).2 (acc ++ [(r.value en).1])
      have := Rd.l_value en r
      rw [List.length_append] at ih
      have e1 : [(r.value en).1].length = 1 := rfl
      omega
    · exact ⟨Nat.le_refl _, by simp⟩
theorem methodsL_l : ∀ (f : Nat) (r : Rd) (acc : List Mt), (methodsL en f r acc).2.l.length ≤ r.l.length ∧ (methodsL en f r acc).1.length ≤ acc.length + f
  | 0, r, acc => ⟨Nat.le_refl _, Nat.le_refl _⟩
  | f + 1, r, acc => by
    unfold methodsL
    split
    · have ih := methodsL_l f (r.method en).2 (acc ++ [(r.method en).1])
      have := Rd.l_method en r
      rw [List.length_append] at ih
      have e1 : [(r.method en).1].length = 1 := rfl
      omega
    · exact ⟨Nat.le_refl _, by simp⟩
theorem enum_fit (r : Rd) (h : r.l.length ≤ 4000) : FitOne (r.enum en).1 ∧ (r.enum en).2.l.length ≤ r.l.length := by
  unfold Rd.enum
  simp only
  have a := Rd.l_take en r tEnum
  have b := Rd.l_name en (r.take en tEnum)
  have c := Rd.l_take en ((r.take en tEnum).name en) [123]
  generalize ((r.take en tEnum).name en).take en [123] = r3 at *
  have d := valuesL_l en (r3.l.length + 1) r3 []
  have e := Rd.l_take en (valuesL en (r3.l.length + 1) r3 []).2 [125]
  have e0 : ([] : List Vl).length = 0 := rfl
  refine ⟨⟨by simp, ?_, by simp, fitD_of (by simp) (by simp)⟩, by omega⟩
  show (valuesL en (r3.l.length + 1) r3 []).1.length ≤ 100000
  omega
theorem service_fit (r : Rd) (h : r.l.length ≤ 4000) : FitOne (r.service en).1 ∧ (r.service en).2.l.length ≤ r.l.length := by
  unfold Rd.service
  simp only
  have a := Rd.l_take en r tService
  have b := Rd.l_name en (r.take en tService)
  have c := Rd.l_take en ((r.take en tService).name en) [123]
  generalize ((r.take en tService).name en).take en [123] = r3 at *
  have d := methodsL_l en (r3.l.length + 1) r3 []
  have e := Rd.l_take en (methodsL en (r3.l.length + 1) r3 []).2 [125]
  have e0 : ([] : List Mt).length = 0 := rfl
  refine ⟨⟨by simp, by simp, ?_, fitD_of (by simp) (by simp)⟩, by omega⟩
  show (methodsL en (r3.l.length + 1) r3 []).1.length ≤ 100000
  omega
theorem bodyL_fit (msg : Rd → Dc × Rd) (hm : ∀ r, r.l.length ≤ 4000 → FitOne (msg r).1 ∧ (msg r).2.l.length ≤ r.l.length) : ∀ (f : Nat) (r : Rd) (fs : List Fd) (ds : List Dc), r.l.length ≤ 4000 → (∀ d ∈ ds, FitOne d) →
    (∀ d ∈ (bodyL en msg f r fs ds).1.2, FitOne d) ∧ (bodyL en msg f r fs ds).1.1.length ≤ fs.length + f ∧ (bodyL en msg f r fs ds).1.2.length ≤ ds.length + f ∧ (bodyL en msg f r fs ds).2.l.length ≤ r.l.length
  | 0, r, fs, ds, hr, hd => ⟨hd, Nat.le_refl _, Nat.le_refl _, Nat.le_refl _⟩
  | f + 1, r, fs, ds, hr, hd => by
    have app : ∀ x, FitOne x → ∀ d ∈ ds ++ [x], FitOne d := fun x hx d hdd => by
      rcases List.mem_append.1 hdd with h | h
      · exact hd d h
      · rw [List.mem_singleton.1 h]; exact hx
    unfold bodyL
    split
    · split
      · obtain ⟨h1, h2⟩ := hm r hr
        have ih := bodyL_fit msg hm f (msg r).2 fs (ds ++ [(msg r).1]) (by omega) (app _ h1)
        rw [List.length_append] at ih
        have e1 : [(msg r).1].length = 1 := rfl
        exact ⟨ih.1, by omega, by omega, by omega⟩
      · split
        · obtain ⟨h1, h2⟩ := enum_fit en r hr
          have ih := bodyL_fit msg hm f (r.enum en).2 fs (ds ++ [(r.enum en).1]) (by omega) (app _ h1)
          rw [List.length_append] at ih
          have e1 : [(r.enum en).1].length = 1 := rfl
          exact ⟨ih.1, by omega, by omega, by omega⟩
        · have h2 := Rd.l_field en r
          have ih := bodyL_fit msg hm f (r.field en).2 (fs ++ [(r.field en).1]) ds (by omega) hd
          rw [List.length_append] at ih
          have e1 : [(r.field en).1].length = 1 := rfl
          exact ⟨ih.1, by omega, by omega, by omega⟩
    · exact ⟨hd, by simp only; omega, by simp only; omega, Nat.le_refl _⟩
theorem messageL_fit : ∀ (k depth : Nat) (r : Rd), r.l.length ≤ 4000 → FitOne (messageL en k depth r).1 ∧ (messageL en k depth r).2.l.length ≤ r.l.length
  | 0, depth, r, h => ⟨⟨by simp [messageL], by simp [messageL], by simp [messageL], fitD_of (by simp [messageL]) (by simp [messageL])⟩, Nat.le_refl _⟩
  | k + 1, depth, r, h => by
    unfold messageL
    simp only
    have z : (if 8 < depth then r.fail 8 (r.here en) else r).l.length ≤ r.l.length := by
      split
      · exact r.l_fail _ _
      · exact Nat.le_refl _
    generalize (if 8 < depth then r.fail 8 (r.here en) else r) = r0 at *
    have a := Rd.l_take en r0 tMessage
    have b := Rd.l_name en (r0.take en tMessage)
    have c := Rd.l_take en ((r0.take en tMessage).name en) [123]
    generalize ((r0.take en tMessage).name en).take en [123] = r3 at *
    have d := bodyL_fit en (messageL en k (depth + 1)) (fun q hq => messageL_fit k (depth + 1) q hq) (r3.l.length + 1) r3 [] [] (by omega) (by simp)
    have e := Rd.l_take en (bodyL en (messageL en k (depth + 1)) (r3.l.length + 1) r3 [] []).2 [125]
    have e0 : ([] : List Fd).length = 0 := rfl
    have e1 : ([] : List Dc).length = 0 := rfl
    obtain ⟨d1, d2, d3, d4⟩ := d
    refine ⟨⟨?_, by simp, by simp, fitD_of ?_ d1⟩, by omega⟩
    · show (bodyL en (messageL en k (depth + 1)) (r3.l.length + 1) r3 [] []).1.1.length ≤ 100000; omega
    · show (bodyL en (messageL en k (depth + 1)) (r3.l.length + 1) r3 [] []).1.2.length ≤ 100000; omega
theorem declsL_fit : ∀ (f : Nat) (r : Rd) (ds : List Dc), r.l.length ≤ 4000 → (∀ d ∈ ds, FitOne d) → (∀ d ∈ (declsL en f r ds).1, FitOne d) ∧ (declsL en f r ds).1.length ≤ ds.length + f
  | 0, r, ds, hr, hd => ⟨hd, Nat.le_refl _⟩
  | f + 1, r, ds, hr, hd => by
    have app : ∀ x, FitOne x → ∀ d ∈ ds ++ [x], FitOne d := fun x hx d hdd => by
      rcases List.mem_append.1 hdd with h | h
      · exact hd d h
      · rw [List.mem_singleton.1 h]; exact hx
    unfold declsL
    split
    · split
      · obtain ⟨h1, h2⟩ := messageL_fit en (10 - 1) 1 r hr
        have ih := declsL_fit f (r.message en 1).2 (ds ++ [(r.message en 1).1]) (Nat.le_trans h2 hr) (app _ h1)
        rw [List.length_append] at ih
        have e1 : [(r.message en 1).1].length = 1 := rfl
        exact ⟨ih.1, by omega⟩
      · split
        · obtain ⟨h1, h2⟩ := enum_fit en r hr
          have ih := declsL_fit f (r.enum en).2 (ds ++ [(r.enum en).1]) (by omega) (app _ h1)
          rw [List.length_append] at ih
          have e1 : [(r.enum en).1].length = 1 := rfl
          exact ⟨ih.1, by omega⟩
        · split
          · obtain ⟨h1, h2⟩ := service_fit en r hr
            have ih := declsL_fit f (r.service en).2 (ds ++ [(r.service en).1]) (by omega) (app _ h1)
            rw [List.length_append] at ih
            have e1 : [(r.service en).1].length = 1 := rfl
            exact ⟨ih.1, by omega⟩
          · have h2 := r.l_fail 7 (r.here en)
            have ih := declsL_fit f (r.fail 7 (r.here en)) ds (by omega) hd
            exact ⟨ih.1, by omega⟩
    · exact ⟨hd, by simp only; omega⟩
theorem fileW_fit (ws : List Wd) (h : ws.length ≤ 4000) : ∀ f, FitD f (fileW en ws).1 := by
  unfold fileW
  simp only
  have d := declsL_fit en (ws.length + 1) ⟨ws, 0, 0, 0⟩ [] h (by simp)
  have e0 : ([] : List Dc).length = 0 := rfl
  split
  · exact fitD_of (by show (declsL en (ws.length + 1) ⟨ws, 0, 0, 0⟩ []).1.length ≤ 100000; omega) d.1
  · exact fitD_of (by simp) (by simp)
end
theorem fileL_fit (l : List UInt8) (h : (wordsL l).1.length ≤ 4000) : ∀ f, FitD f (fileL l).1 := by
  unfold fileL
  split
  · exact fileW_fit _ _ h
  · exact fitD_of (by simp) (by simp)
end Go.Proofs.YtbfkaanmbdekfaaDoor
