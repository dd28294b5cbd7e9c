/-
  Two readers whose words are alike but for places, the second one's with more words behind them: enums, services, messages and whole lists of declarations. Facts of the plain functions: nothing is proved of the program here.
-/
import Derived.Test.YtbfkaanmbdekfaaDoorSmM
import Derived.Test.YtbfkaanmbdekfaaDoorPsW
namespace Go.Proofs.YtbfkaanmbdekfaaDoor
set_option linter.unusedVariables false

/-- alike but for places, however deep -/
def DE (d d' : Dc) : Prop := ∀ g, sD g d' = sD g d
def DLs (ds ds' : List Dc) : Prop := ∀ g, ds'.map (sD g) = ds.map (sD g)
theorem DLs.strip {ds ds' : List Dc} (h : DLs ds ds') (g : Nat) : stripL g ds' = stripL g ds := by
  cases g with
  | zero => rfl
  | succ g => rw [stripL_succ, stripL_succ]; exact h g
theorem DLs.snoc {ds ds' : List Dc} {d d' : Dc} (h : DLs ds ds') (h1 : DE d d') : DLs (ds ++ [d]) (ds' ++ [d']) := fun g => by
  rw [List.map_append, List.map_append, h g]; simp [h1 g]
section
variable {x : List (Int × List UInt8)} {en en' : Int × Int}
theorem Rd.value_ok {r : Rd} (h : (r.value en).2.e = 0) : r.e = 0 ∧ r.l ≠ [] := by
  unfold Rd.value at h
  have h1 := (Rd.take_ok (Rd.number_ok (Rd.take_ok h).1).1).1
  exact ⟨(Rd.name_ok h1).1, (Rd.name_ok h1).2.2⟩
theorem Rd.method_ok {r : Rd} (h : (r.method en).2.e = 0) : r.e = 0 ∧ r.l ≠ [] := by
  by_cases hz : (r.take en tRpc).e = 0
  · exact ⟨(Rd.take_ok hz).1, (Rd.take_ok hz).2.2⟩
  · exfalso
    unfold Rd.method at h
    simp only at h
    rw [Rd.name_stay en hz, Rd.take_stay en hz, Rd.path_stay en hz, Rd.take_stay en hz, Rd.take_stay en hz, Rd.take_stay en hz, Rd.path_stay en hz, Rd.take_stay en hz, Rd.take_stay en hz] at h
    exact hz h
theorem Rd.field_ok {r : Rd} (h : (r.field en).2.e = 0) : r.e = 0 ∧ r.l ≠ [] := by
  unfold Rd.field at h
  simp only at h
  have h1 := (Rd.name_ok (Rd.take_ok (Rd.number_ok (Rd.take_ok h).1).1).1).1
  by_cases hi : r.is tRepeated = true
  · exact ⟨(Rd.is_ok hi).1, (Rd.is_ok hi).2.1⟩
  · rw [if_neg hi] at h1
    have he : r.e = 0 := by
      by_cases hz : r.e = 0
      · exact hz
      · rw [Rd.typ_stay en hz] at h1; exact h1
    refine ⟨he, fun hl => ?_⟩
    have hk : ¬ r.isScal = true := fun hk => (Rd.isScal_ok hk).2 hl
    unfold Rd.typ at h1
    rw [if_neg hk] at h1
    have hne : (r.name en).e ≠ 0 := fun hz => (Rd.name_ok hz).2.2 hl
    unfold Rd.path at h1
    rw [pathL_off en _ _ _ _ _ (Rd.is_off hne _)] at h1
    exact hne h1
theorem field_nil {r : Rd} (he : r.e = 0) (hl : r.l = []) : (r.field en).1 = ⟨false, [], [], 0, 0, 0⟩ ∧ (r.field en).2.e = 7 := by
  have i1 : ∀ t, r.is t = false := fun t => by unfold Rd.is; rw [hl]; simp
  have i2 : r.isScal = false := by unfold Rd.isScal; rw [hl]; simp
  have i3 : r.isName = false := by unfold Rd.isName; rw [hl]; simp
  have n1 : r.name en = r.fail 7 (r.here en) := by unfold Rd.name; rw [i3, if_neg (by decide)]
  have e1 : (r.fail 7 (r.here en)).e = 7 := Rd.e_fail he 7 _
  have e2 : (r.fail 7 (r.here en)).e ≠ 0 := by rw [e1]; decide
  have t1 : r.typ en = ([], r.fail 7 (r.here en)) := by
    unfold Rd.typ Rd.path Rd.nameT
    rw [i2, if_neg (by decide), i3, if_neg (by decide), n1, pathL_off en _ _ _ _ _ (Rd.is_off e2 _)]
  unfold Rd.field
  simp only
  rw [i1, if_neg (by decide), t1]
  simp only
  rw [Rd.name_stay en e2, Rd.take_stay en e2, Rd.number_stay en e2, Rd.take_stay en e2]
  refine ⟨?_, e1⟩
  unfold Rd.nameT Rd.numberV Rd.nameP
  rw [Rd.isName_off e2, Rd.isNum_off e2, if_neg (by decide), if_neg (by decide), if_neg (by decide)]
theorem Sim.valuesL : ∀ (f f' : Nat) (r r' : Rd) (acc acc' : List Vl), r.m ≤ f → r'.m ≤ f' → Sim x r r' → acc'.map sV = acc.map sV → (x = [] ∨ (valuesL en f r acc).2.e = 0) →
    (valuesL en' f' r' acc').1.map sV = (valuesL en f r acc).1.map sV ∧ Sim x (valuesL en f r acc).2 (valuesL en' f' r' acc').2 := by
  intro f
  induction f with
  | zero =>
    intro f' r r' acc acc' hm hm' h ha ho
    have he : r.e ≠ 0 := by intro he; unfold Rd.m at hm; rw [if_pos he] at hm; omega
    have he' : r'.e ≠ 0 := by rw [h.1]; exact he
    rw [valuesL_stop en 0 r acc (fun hh => he hh.1), valuesL_stop en' f' r' acc' (fun hh => he' hh.1)]
    exact ⟨ha, h⟩
  | succ f ih =>
    intro f' r r' acc acc' hm hm' h ha ho
    by_cases he : r.e = 0
    · have he' : r'.e = 0 := by rw [h.1]; exact he
      have hn : x = [] ∨ r.l ≠ [] := by
        rcases ho with hx | ho
        · exact .inl hx
        · right
          intro hl
          have hi : r.is [125] = false := by unfold Rd.is; rw [hl]; simp
          rw [valuesL_go en f r acc ⟨he, hi⟩] at ho
          have hv : (r.value en).2.e ≠ 0 := fun hz => (Rd.value_ok hz).2 hl
          rw [valuesL_stop en f _ _ (fun hh => hv hh.1)] at ho
          exact hv ho
      have hi' := h.is hn [125]
      have hm1 : 1 ≤ r'.m := by unfold Rd.m; rw [if_pos he']; omega
      obtain ⟨f', rfl⟩ : ∃ g, f' = g + 1 := ⟨f' - 1, by omega⟩
      by_cases hi : r.is [125] = true
      · rw [valuesL_stop en _ r acc (fun hh => by rw [hi] at hh; exact absurd hh.2 (by decide)), valuesL_stop en' _ r' acc' (fun hh => by rw [hi', hi] at hh; exact absurd hh.2 (by decide))]
        exact ⟨ha, h⟩
      · have hi0 : r.is [125] = false := by simpa using hi
        rw [valuesL_go en f r acc ⟨he, hi0⟩] at ho ⊢
        rw [valuesL_go en' f' r' acc' ⟨he', by rw [hi']; exact hi0⟩]
        have hv := h.value (en := en) (en' := en') (by
          refine ho.imp id fun k => ?_
          by_cases hz : (r.value en).2.e = 0
          · exact hz
          · rw [valuesL_stop en f _ _ (fun hh => hz hh.1)] at k; exact absurd k hz)
        have m1 := Rd.m_value en r
        have m2 := Rd.m_value en' r'
        exact ih f' _ _ _ _ (by omega) (by omega) hv.2 (by rw [List.map_append, List.map_append, ha]; simp [hv.1]) ho
    · have he' : r'.e ≠ 0 := by rw [h.1]; exact he
      rw [valuesL_stop en _ r acc (fun hh => he hh.1), valuesL_stop en' f' r' acc' (fun hh => he' hh.1)]
      exact ⟨ha, h⟩
theorem Sim.methodsL : ∀ (f f' : Nat) (r r' : Rd) (acc acc' : List Mt), r.m ≤ f → r'.m ≤ f' → Sim x r r' → acc'.map sM = acc.map sM → (x = [] ∨ (methodsL en f r acc).2.e = 0) →
    (methodsL en' f' r' acc').1.map sM = (methodsL en f r acc).1.map sM ∧ Sim x (methodsL en f r acc).2 (methodsL en' f' r' acc').2 := by
  intro f
  induction f with
  | zero =>
    intro f' r r' acc acc' hm hm' h ha ho
    have he : r.e ≠ 0 := by intro he; unfold Rd.m at hm; rw [if_pos he] at hm; omega
    have he' : r'.e ≠ 0 := by rw [h.1]; exact he
    rw [methodsL_stop en 0 r acc (fun hh => he hh.1), methodsL_stop en' f' r' acc' (fun hh => he' hh.1)]
    exact ⟨ha, h⟩
  | succ f ih =>
    intro f' r r' acc acc' hm hm' h ha ho
    by_cases he : r.e = 0
    · have he' : r'.e = 0 := by rw [h.1]; exact he
      have hn : x = [] ∨ r.l ≠ [] := by
        rcases ho with hx | ho
        · exact .inl hx
        · right
          intro hl
          have hi : r.is [125] = false := by unfold Rd.is; rw [hl]; simp
          rw [methodsL_go en f r acc ⟨he, hi⟩] at ho
          have hv : (r.method en).2.e ≠ 0 := fun hz => (Rd.method_ok hz).2 hl
          rw [methodsL_stop en f _ _ (fun hh => hv hh.1)] at ho
          exact hv ho
      have hi' := h.is hn [125]
      have hm1 : 1 ≤ r'.m := by unfold Rd.m; rw [if_pos he']; omega
      obtain ⟨f', rfl⟩ : ∃ g, f' = g + 1 := ⟨f' - 1, by omega⟩
      by_cases hi : r.is [125] = true
      · rw [methodsL_stop en _ r acc (fun hh => by rw [hi] at hh; exact absurd hh.2 (by decide)), methodsL_stop en' _ r' acc' (fun hh => by rw [hi', hi] at hh; exact absurd hh.2 (by decide))]
        exact ⟨ha, h⟩
      · have hi0 : r.is [125] = false := by simpa using hi
        rw [methodsL_go en f r acc ⟨he, hi0⟩] at ho ⊢
        rw [methodsL_go en' f' r' acc' ⟨he', by rw [hi']; exact hi0⟩]
        have hv := h.method (en := en) (en' := en') (by
          refine ho.imp id fun k => ?_
          by_cases hz : (r.method en).2.e = 0
          · exact hz
          · rw [methodsL_stop en f _ _ (fun hh => hz hh.1)] at k; exact absurd k hz)
        have m1 := Rd.m_method en r
        have m2 := Rd.m_method en' r'
        exact ih f' _ _ _ _ (by omega) (by omega) hv.2 (by rw [List.map_append, List.map_append, ha]; simp [hv.1]) ho
    · have he' : r'.e ≠ 0 := by rw [h.1]; exact he
      rw [methodsL_stop en _ r acc (fun hh => he hh.1), methodsL_stop en' f' r' acc' (fun hh => he' hh.1)]
      exact ⟨ha, h⟩
theorem Sim.enum {r r' : Rd} (h : Sim x r r') (ho : x = [] ∨ (r.enum en).2.e = 0) : DE (r.enum en).1 (r'.enum en').1 ∧ Sim x (r.enum en).2 (r'.enum en').2 := by
  unfold Rd.enum at ho ⊢
  simp only at ho ⊢
  obtain ⟨r3, h3⟩ : ∃ r3, ((r.take en tEnum).name en).take en [123] = r3 := ⟨_, rfl⟩
  rw [h3] at ho ⊢
  have q4 := ho.imp id fun k => (Rd.take_ok k).1
  have q3 : x = [] ∨ (((r.take en tEnum).name en).take en [123]).e = 0 := by
    rw [h3]
    refine q4.imp id fun k => ?_
    by_cases hz : r3.e = 0
    · exact hz
    · rw [valuesL_stop en _ r3 [] (fun hh => hz hh.1)] at k; exact k
  have q2 := q3.imp id fun k => (Rd.take_ok k).1
  have q1 := q2.imp id fun k => (Rd.name_ok k).1
  have a1 := h.take (en := en) (en' := en') tEnum q1
  have a2 := a1.name (en := en) (en' := en') q2
  have a3 := a2.1.take (en := en) (en' := en') [123] q3
  rw [h3] at a3
  have a4 := Sim.valuesL (en := en) (en' := en') _ _ r3 _ [] [] (Rd.m_le _) (Rd.m_le _) a3 rfl q4
  have a5 := a4.2.take (en := en) (en' := en') [125] ho
  exact ⟨fun g => by unfold sD; simp only; rw [a2.2, a4.1], a5⟩
theorem Sim.service {r r' : Rd} (h : Sim x r r') (ho : x = [] ∨ (r.service en).2.e = 0) : DE (r.service en).1 (r'.service en').1 ∧ Sim x (r.service en).2 (r'.service en').2 := by
  unfold Rd.service at ho ⊢
  simp only at ho ⊢
  obtain ⟨r3, h3⟩ : ∃ r3, ((r.take en tService).name en).take en [123] = r3 := ⟨_, rfl⟩
  rw [h3] at ho ⊢
  have q4 := ho.imp id fun k => (Rd.take_ok k).1
  have q3 : x = [] ∨ (((r.take en tService).name en).take en [123]).e = 0 := by
    rw [h3]
    refine q4.imp id fun k => ?_
    by_cases hz : r3.e = 0
    · exact hz
    · rw [methodsL_stop en _ r3 [] (fun hh => hz hh.1)] at k; exact k
  have q2 := q3.imp id fun k => (Rd.take_ok k).1
  have q1 := q2.imp id fun k => (Rd.name_ok k).1
  have a1 := h.take (en := en) (en' := en') tService q1
  have a2 := a1.name (en := en) (en' := en') q2
  have a3 := a2.1.take (en := en) (en' := en') [123] q3
  rw [h3] at a3
  have a4 := Sim.methodsL (en := en) (en' := en') _ _ r3 _ [] [] (Rd.m_le _) (Rd.m_le _) a3 rfl q4
  have a5 := a4.2.take (en := en) (en' := en') [125] ho
  exact ⟨fun g => by unfold sD; simp only; rw [a2.2, a4.1], a5⟩
theorem Sim.bodyL {msg msg' : Rd → Dc × Rd} (hmm : ∀ r, (msg r).2.m ≤ r.m - 1) (hmm' : ∀ r, (msg' r).2.m ≤ r.m - 1)
    (hms : ∀ r r', Sim x r r' → (x = [] ∨ (msg r).2.e = 0) → DE (msg r).1 (msg' r').1 ∧ Sim x (msg r).2 (msg' r').2) :
    ∀ (f f' : Nat) (r r' : Rd) (fs fs' : List Fd) (ds ds' : List Dc), r.m ≤ f → r'.m ≤ f' → Sim x r r' → fs'.map sF = fs.map sF → DLs ds ds' → (x = [] ∨ (bodyL en msg f r fs ds).2.e = 0) →
    (bodyL en' msg' f' r' fs' ds').1.1.map sF = (bodyL en msg f r fs ds).1.1.map sF ∧ DLs (bodyL en msg f r fs ds).1.2 (bodyL en' msg' f' r' fs' ds').1.2 ∧ Sim x (bodyL en msg f r fs ds).2 (bodyL en' msg' f' r' fs' ds').2 := by
  intro f
  induction f with
  | zero =>
    intro f' r r' fs fs' ds ds' hm hm' h hf hd ho
    have he : r.e ≠ 0 := by intro he; unfold Rd.m at hm; rw [if_pos he] at hm; omega
    have he' : r'.e ≠ 0 := by rw [h.1]; exact he
    rw [bodyL_stop en msg 0 r fs ds (fun hh => he hh.1), bodyL_stop en' msg' f' r' fs' ds' (fun hh => he' hh.1)]
    exact ⟨hf, hd, h⟩
  | succ f ih =>
    intro f' r r' fs fs' ds ds' hm hm' h hf hd ho
    by_cases he : r.e = 0
    · have he' : r'.e = 0 := by rw [h.1]; exact he
      have hn : x = [] ∨ r.l ≠ [] := by
        rcases ho with hx | ho
        · exact .inl hx
        · right
          intro hl
          have hi : ∀ t, r.is t = false := fun t => by unfold Rd.is; rw [hl]; simp
          rw [bodyL_go en msg f r fs ds ⟨he, hi _⟩, if_neg (by rw [hi]; decide), if_neg (by rw [hi]; decide)] at ho
          have hv : (r.field en).2.e ≠ 0 := fun hz => (Rd.field_ok hz).2 hl
          rw [bodyL_stop en msg f _ _ _ (fun hh => hv hh.1)] at ho
          exact hv ho
      have hi' := h.is hn [125]
      have hm1 : 1 ≤ r'.m := by unfold Rd.m; rw [if_pos he']; omega
      obtain ⟨f', rfl⟩ : ∃ g, f' = g + 1 := ⟨f' - 1, by omega⟩
      by_cases hi : r.is [125] = true
      · rw [bodyL_stop en msg _ r fs ds (fun hh => by rw [hi] at hh; exact absurd hh.2 (by decide)), bodyL_stop en' msg' _ r' fs' ds' (fun hh => by rw [hi', hi] at hh; exact absurd hh.2 (by decide))]
        exact ⟨hf, hd, h⟩
      · have hi0 : r.is [125] = false := by simpa using hi
        rw [bodyL_go en msg f r fs ds ⟨he, hi0⟩] at ho ⊢
        rw [bodyL_go en' msg' f' r' fs' ds' ⟨he', by rw [hi']; exact hi0⟩, h.is hn tMessage, h.is hn tEnum]
        by_cases hM : r.is tMessage = true
        · rw [if_pos hM] at ho ⊢
          rw [if_pos hM]
          have hv := hms r r' h (by
            refine ho.imp id fun k => ?_
            by_cases hz : (msg r).2.e = 0
            · exact hz
            · rw [bodyL_stop en msg f _ _ _ (fun hh => hz hh.1)] at k; exact absurd k hz)
          have m1 := hmm r
          have m2 := hmm' r'
          exact ih f' _ _ _ _ _ _ (by omega) (by omega) hv.2 hf (hd.snoc hv.1) ho
        · rw [if_neg hM] at ho ⊢
          rw [if_neg hM]
          by_cases hE : r.is tEnum = true
          · rw [if_pos hE] at ho ⊢
            rw [if_pos hE]
            have hv := h.enum (en := en) (en' := en') (by
              refine ho.imp id fun k => ?_
              by_cases hz : (r.enum en).2.e = 0
              · exact hz
              · rw [bodyL_stop en msg f _ _ _ (fun hh => hz hh.1)] at k; exact absurd k hz)
            have m1 := Rd.m_enum en r
            have m2 := Rd.m_enum en' r'
            exact ih f' _ _ _ _ _ _ (by omega) (by omega) hv.2 hf (hd.snoc hv.1) ho
          · rw [if_neg hE] at ho ⊢
            rw [if_neg hE]
            by_cases hl : r.l = []
            · have hx : x = [] := by
                rcases hn with hx | hx
                · exact hx
                · exact absurd hl hx
              have hl' : r'.l = [] := by
                rcases h.head he (.inl hx) with ⟨_, _, h2⟩ | ⟨y, l, y', l', h1, _⟩
                · exact h2
                · rw [hl] at h1; cases h1
              have v1 : (r.field en).2.e ≠ 0 := fun hz => (Rd.field_ok hz).2 hl
              have v2 : (r'.field en').2.e ≠ 0 := fun hz => (Rd.field_ok hz).2 hl'
              have hfe := field_nil (en := en) he hl
              have hfe' := field_nil (en := en') he' hl'
              rw [bodyL_stop en msg f _ _ _ (fun hh => v1 hh.1), bodyL_stop en' msg' f' _ _ _ (fun hh => v2 hh.1)]
              refine ⟨?_, hd, ?_⟩
              · rw [List.map_append, List.map_append, hf, hfe.1, hfe'.1]
              · exact ⟨by rw [hfe.2, hfe'.2], fun hz => absurd hz v1⟩
            · have hv := h.field (en := en) (en' := en') hl (by
                refine ho.imp id fun k => ?_
                by_cases hz : (r.field en).2.e = 0
                · exact hz
                · rw [bodyL_stop en msg f _ _ _ (fun hh => hz hh.1)] at k; exact absurd k hz)
              have m1 := Rd.m_field en r
              have m2 := Rd.m_field en' r'
              exact ih f' _ _ _ _ _ _ (by omega) (by omega) hv.2 (by rw [List.map_append, List.map_append, hf]; simp [hv.1]) hd ho
    · have he' : r'.e ≠ 0 := by rw [h.1]; exact he
      rw [bodyL_stop en msg _ r fs ds (fun hh => he hh.1), bodyL_stop en' msg' f' r' fs' ds' (fun hh => he' hh.1)]
      exact ⟨hf, hd, h⟩
end
end Go.Proofs.YtbfkaanmbdekfaaDoor
