/-
  Two readers whose words are alike but for places, the second one's with more words behind them: what is read of both is alike but for places. Facts of the plain functions: nothing is proved of the program here.
-/
import Derived.Test.YtbfkaanmbdekfaaDoorDpM
import Derived.Test.YtbfkaanmbdekfaaDoorLxS
namespace Go.Proofs.YtbfkaanmbdekfaaDoor
set_option linter.unusedVariables false

def sF (x : Fd) : Fd := ⟨x.rep, x.type, x.name, x.num, 0, 0⟩
def sV (x : Vl) : Vl := ⟨x.name, x.num, 0, 0⟩
def sM (x : Mt) : Mt := ⟨x.name, x.inp, x.out, 0, 0⟩
/-- declarations with all places zero, so deep -/
def stripL : Nat → List Dc → List Dc
  | 0, ds => []
  | f + 1, ds => ds.map fun d => ⟨d.kind, d.name, 0, 0, d.fields.map sF, d.values.map sV, d.methods.map sM, stripL f d.inner⟩
def sD (f : Nat) (d : Dc) : Dc := ⟨d.kind, d.name, 0, 0, d.fields.map sF, d.values.map sV, d.methods.map sM, stripL f d.inner⟩
theorem stripL_succ (f : Nat) (ds : List Dc) : stripL (f + 1) ds = ds.map (sD f) := rfl
/-- alike but for places, the second one with x behind its words -/
def Sim (x : List (Int × List UInt8)) (r r' : Rd) : Prop := r'.e = r.e ∧ (r.e = 0 → kt r'.l = kt r.l ++ x)
section
variable {x : List (Int × List UInt8)} {en en' : Int × Int} {r r' : Rd}
theorem Sim.head (h : Sim x r r') (he : r.e = 0) (ho : x = [] ∨ r.l ≠ []) : (r.l = [] ∧ x = [] ∧ r'.l = []) ∨ ∃ y l y' l', r.l = y :: l ∧ r'.l = y' :: l' ∧ y'.kind = y.kind ∧ y'.text = y.text ∧ kt l' = kt l ++ x := by
  have hk := h.2 he
  cases hl : r.l with
  | nil =>
    rw [hl] at hk
    rcases ho with rfl | ho
    · refine .inl ⟨rfl, rfl, ?_⟩
      cases hl' : r'.l with
      | nil => rfl
      | cons y t => rw [hl'] at hk; simp [kt] at hk
    · exact absurd hl ho
  | cons y l =>
    rw [hl] at hk
    cases hl' : r'.l with
    | nil => rw [hl'] at hk; simp [kt] at hk
    | cons y' l' =>
      rw [hl'] at hk
      simp only [kt, List.map_cons, List.cons_append, List.cons.injEq, Prod.mk.injEq] at hk
      exact .inr ⟨y, l, y', l', rfl, rfl, hk.1.1, hk.1.2, hk.2⟩
theorem Sim.is (h : Sim x r r') (ho : x = [] ∨ r.l ≠ []) (t : List UInt8) : r'.is t = r.is t := by
  by_cases he : r.e = 0
  · rcases h.head he ho with ⟨h1, _, h2⟩ | ⟨y, l, y', l', h1, h2, _, h3, _⟩
    · unfold Rd.is; rw [h1, h2, h.1]
    · unfold Rd.is; rw [h1, h2, h.1]; simp only; rw [h3]
  · rw [Rd.is_off he, Rd.is_off (by rw [h.1]; exact he)]
theorem Sim.isName (h : Sim x r r') (ho : x = [] ∨ r.l ≠ []) : r'.isName = r.isName := by
  by_cases he : r.e = 0
  · rcases h.head he ho with ⟨h1, _, h2⟩ | ⟨y, l, y', l', h1, h2, h4, h3, _⟩
    · unfold Rd.isName; rw [h1, h2, h.1]
    · unfold Rd.isName; rw [h1, h2, h.1]; simp only; rw [h3, h4]
  · rw [Rd.isName_off he, Rd.isName_off (by rw [h.1]; exact he)]
theorem Sim.isNum (h : Sim x r r') (ho : x = [] ∨ r.l ≠ []) : r'.isNum = r.isNum := by
  by_cases he : r.e = 0
  · rcases h.head he ho with ⟨h1, _, h2⟩ | ⟨y, l, y', l', h1, h2, h4, h3, _⟩
    · unfold Rd.isNum; rw [h1, h2, h.1]
    · unfold Rd.isNum; rw [h1, h2, h.1]; simp only; rw [h4]
  · rw [Rd.isNum_off he, Rd.isNum_off (by rw [h.1]; exact he)]
theorem Sim.isScal (h : Sim x r r') (ho : x = [] ∨ r.l ≠ []) : r'.isScal = r.isScal := by
  by_cases he : r.e = 0
  · rcases h.head he ho with ⟨h1, _, h2⟩ | ⟨y, l, y', l', h1, h2, h4, h3, _⟩
    · unfold Rd.isScal; rw [h1, h2, h.1]
    · unfold Rd.isScal; rw [h1, h2, h.1]; simp only; rw [h3]
  · rw [Rd.isScal_off he, Rd.isScal_off (by rw [h.1]; exact he)]
theorem Sim.text (h : Sim x r r') (he : r.e = 0) (ho : x = [] ∨ r.l ≠ []) : r'.text = r.text := by
  rcases h.head he ho with ⟨h1, _, h2⟩ | ⟨y, l, y', l', h1, h2, h4, h3, _⟩
  · unfold Rd.text; rw [h1, h2]
  · unfold Rd.text; rw [h1, h2]; exact h3
theorem Sim.tail (h : Sim x r r') (hn : r.l ≠ []) : Sim x r.tail r'.tail := by
  refine ⟨h.1, fun he => ?_⟩
  have he' : r.e = 0 := he
  rcases h.head he' (.inr hn) with ⟨h1, _, h2⟩ | ⟨y, l, y', l', h1, h2, _, _, h5⟩
  · exact absurd h1 hn
  · unfold Rd.tail; simp only; rw [h1, h2]; exact h5
theorem Sim.fail (h : Sim x r r') (e : Int) (hz : e ≠ 0) (p p' : Int × Int) : Sim x (r.fail e p) (r'.fail e p') := by
  by_cases he : r.e = 0
  · have he' : r'.e = 0 := by rw [h.1]; exact he
    unfold Rd.fail
    rw [if_pos he, if_pos he']
    exact ⟨rfl, fun hh => absurd hh hz⟩
  · rw [Rd.fail_stay he, Rd.fail_stay (by rw [h.1]; exact he)]; exact h
theorem Rd.take_ok {t : List UInt8} (h : (r.take en t).e = 0) : r.e = 0 ∧ r.is t = true ∧ r.l ≠ [] := by
  by_cases he : r.e = 0
  · by_cases hi : r.is t = true
    · exact ⟨he, hi, (Rd.is_ok hi).2.1⟩
    · unfold Rd.take at h; rw [if_neg hi, Rd.e_fail he] at h; cases h
  · rw [Rd.take_stay en he] at h; exact absurd h he
theorem Rd.name_ok (h : (r.name en).e = 0) : r.e = 0 ∧ r.isName = true ∧ r.l ≠ [] := by
  by_cases he : r.e = 0
  · by_cases hi : r.isName = true
    · exact ⟨he, hi, (Rd.isName_ok hi).2⟩
    · unfold Rd.name at h; rw [if_neg hi, Rd.e_fail he] at h; cases h
  · rw [Rd.name_stay en he] at h; exact absurd h he
theorem Rd.number_ok (h : (r.number en).e = 0) : r.e = 0 ∧ r.isNum = true ∧ r.l ≠ [] := by
  by_cases he : r.e = 0
  · by_cases hi : r.isNum = true
    · exact ⟨he, hi, (Rd.isNum_ok hi).2⟩
    · unfold Rd.number at h; rw [if_neg hi, Rd.e_fail he] at h; cases h
  · rw [Rd.number_stay en he] at h; exact absurd h he
theorem Sim.take (h : Sim x r r') (t : List UInt8) (ho : x = [] ∨ (r.take en t).e = 0) : Sim x (r.take en t) (r'.take en' t) := by
  have hi := h.is (ho.imp id fun k => (Rd.take_ok k).2.2) t
  unfold Rd.take
  rw [hi]
  by_cases hk : r.is t = true
  · rw [if_pos hk, if_pos hk]; exact h.tail (Rd.is_ok hk).2.1
  · rw [if_neg hk, if_neg hk]; exact h.fail 7 (by decide) _ _
theorem Sim.name (h : Sim x r r') (ho : x = [] ∨ (r.name en).e = 0) : Sim x (r.name en) (r'.name en') ∧ r'.nameT = r.nameT := by
  have hn := ho.imp id fun k => (Rd.name_ok k).2.2
  have hi := h.isName hn
  unfold Rd.name Rd.nameT
  rw [hi]
  by_cases hk : r.isName = true
  · rw [if_pos hk, if_pos hk, if_pos hk, if_pos hk]; exact ⟨h.tail (Rd.isName_ok hk).2, h.text (Rd.isName_ok hk).1 hn⟩
  · rw [if_neg hk, if_neg hk, if_neg hk, if_neg hk]; exact ⟨h.fail 7 (by decide) _ _, rfl⟩
theorem Sim.number (h : Sim x r r') (ho : x = [] ∨ (r.number en).e = 0) : Sim x (r.number en) (r'.number en') ∧ r'.numberV = r.numberV := by
  have hn := ho.imp id fun k => (Rd.number_ok k).2.2
  have hi := h.isNum hn
  unfold Rd.number Rd.numberV
  rw [hi]
  by_cases hk : r.isNum = true
  · rw [if_pos hk, if_pos hk, if_pos hk, if_pos hk, h.text (Rd.isNum_ok hk).1 hn]; exact ⟨h.tail (Rd.isNum_ok hk).2, rfl⟩
  · rw [if_neg hk, if_neg hk, if_neg hk, if_neg hk]; exact ⟨h.fail 7 (by decide) _ _, rfl⟩
end
theorem pathL_on (en first : Int × Int) (f n : Nat) (s : List UInt8) (r : Rd) (h : r.is [46] = true) : pathL en first (f + 1) n s r = pathL en first f (n + 1) (s ++ [46] ++ (r.take en [46]).nameT) (if n = 8 then ((r.take en [46]).name en).fail 8 first else (r.take en [46]).name en) := by
  rw [pathL, if_pos h]
theorem Sim.pathL {x : List (Int × List UInt8)} {en en' : Int × Int} (first first' : Int × Int) : ∀ (f f' n : Nat) (s : List UInt8) (r r' : Rd), r.m ≤ f → r'.m ≤ f' → Sim x r r' → (x = [] ∨ ((pathL en first f n s r).2.e = 0 ∧ (pathL en first f n s r).2.l ≠ [])) →
    (pathL en' first' f' n s r').1 = (pathL en first f n s r).1 ∧ Sim x (pathL en first f n s r).2 (pathL en' first' f' n s r').2
  | f, f', n, s, r, r', hf, hf', h, ho => by
    by_cases hi : r.is [46] = true
    · have he := (Rd.is_ok hi).1
      have hm : 1 ≤ r.m := by unfold Rd.m; rw [if_pos he]; omega
      have hi' : r'.is [46] = true := by rw [h.is (.inr (Rd.is_ok hi).2.1)]; exact hi
      have hm' : 1 ≤ r'.m := by unfold Rd.m; rw [if_pos (Rd.is_ok hi').1]; omega
      obtain ⟨f, rfl⟩ : ∃ g, f = g + 1 := ⟨f - 1, by omega⟩
      obtain ⟨f', rfl⟩ : ∃ g, f' = g + 1 := ⟨f' - 1, by omega⟩
      rw [pathL_on en first f n s r hi] at ho ⊢
      rw [pathL_on en' first' f' n s r' hi']
      have hte : (r.take en [46]).e = 0 := by have := Rd.e_take en he [46]; rw [hi] at this; simpa using this
      have h1 := h.take (en := en) (en' := en') [46] (.inr hte)
      have m1 := Rd.m_take en r [46]
      have m2 := Rd.m_name en (r.take en [46])
      have m1' := Rd.m_take en' r' [46]
      have m2' := Rd.m_name en' (r'.take en' [46])
      by_cases h8 : n = 8
      · rw [if_pos h8] at ho ⊢
        rw [if_pos h8]
        have hx : x = [] := by
          rcases ho with hx | ⟨hx, _⟩
          · exact hx
          · have hne : (((r.take en [46]).name en).fail 8 first).e ≠ 0 := by
              by_cases hz : ((r.take en [46]).name en).e = 0
              · rw [Rd.e_fail hz]; decide
              · rw [Rd.fail_stay hz]; exact hz
            rw [pathL_off en _ _ _ _ _ (Rd.is_off hne _)] at hx
            exact absurd hx hne
        have h2 := h1.name (en := en) (en' := en') (.inl hx)
        rw [h2.2]
        exact Sim.pathL first first' f f' _ _ _ _ (by have := Rd.m_fail ((r.take en [46]).name en) 8 first (by decide); omega) (by have := Rd.m_fail ((r'.take en' [46]).name en') 8 first' (by decide); omega) (h2.1.fail 8 (by decide) _ _) ho
      · rw [if_neg h8] at ho ⊢
        rw [if_neg h8]
        have h2 := h1.name (en := en) (en' := en') (by
          refine ho.imp id fun hx => ?_
          by_cases hz : ((r.take en [46]).name en).e = 0
          · exact hz
          · rw [pathL_off en _ _ _ _ _ (Rd.is_off hz _)] at hx
            exact absurd hx.1 hz)
        rw [h2.2]
        exact Sim.pathL first first' f f' _ _ _ _ (by omega) (by omega) h2.1 ho
    · have hi0 : r.is [46] = false := by simpa using hi
      rw [pathL_off en _ _ _ _ _ hi0] at ho ⊢
      have hi' : r'.is [46] = false := by rw [h.is (ho.imp id fun k => k.2)]; exact hi0
      rw [pathL_off en' _ _ _ _ _ hi']
      exact ⟨rfl, h⟩
  termination_by f => f
section
variable {x : List (Int × List UInt8)} {en en' : Int × Int} {r r' : Rd}
theorem Sim.path (h : Sim x r r') (ho : x = [] ∨ ((r.path en).2.e = 0 ∧ (r.path en).2.l ≠ [])) : (r'.path en').1 = (r.path en).1 ∧ Sim x (r.path en).2 (r'.path en').2 := by
  have h2 := h.name (en := en) (en' := en') (by
    refine ho.imp id fun hx => ?_
    by_cases hz : (r.name en).e = 0
    · exact hz
    · unfold Rd.path at hx
      rw [pathL_off en _ _ _ _ _ (Rd.is_off hz _)] at hx
      exact absurd hx.1 hz)
  unfold Rd.path at ho ⊢
  rw [h2.2]
  have m2 := Rd.m_name en r
  have m2' := Rd.m_name en' r'
  have m3 : r.m ≤ r.l.length + 1 := by unfold Rd.m; split <;> omega
  have m3' : r'.m ≤ r'.l.length + 1 := by unfold Rd.m; split <;> omega
  exact Sim.pathL _ _ _ _ _ _ _ _ (by omega) (by omega) h2.1 ho
theorem Sim.typ (h : Sim x r r') (ho : x = [] ∨ ((r.typ en).2.e = 0 ∧ (r.typ en).2.l ≠ [])) : (r'.typ en').1 = (r.typ en).1 ∧ Sim x (r.typ en).2 (r'.typ en').2 := by
  by_cases hn : x = [] ∨ r.l ≠ []
  · have hi := h.isScal hn
    unfold Rd.typ at ho ⊢
    rw [hi]
    by_cases hk : r.isScal = true
    · rw [if_pos hk, if_pos hk]; exact ⟨h.text (Rd.isScal_ok hk).1 hn, h.tail (Rd.isScal_ok hk).2⟩
    · rw [if_neg hk] at ho ⊢; rw [if_neg hk]; exact h.path ho
  · exfalso
    have hl : r.l = [] := by
      by_cases hl : r.l = []
      · exact hl
      · exact absurd (.inr hl) hn
    rcases ho with ho | ho
    · exact hn (.inl ho)
    · have hk : ¬ r.isScal = true := fun hk => (Rd.isScal_ok hk).2 hl
      unfold Rd.typ at ho
      rw [if_neg hk] at ho
      have hnm : ¬ r.isName = true := fun hk => (Rd.isName_ok hk).2 hl
      have hne : (r.name en).e ≠ 0 := by
        intro hz; exact hnm (Rd.name_ok hz).2.1
      unfold Rd.path at ho
      rw [pathL_off en _ _ _ _ _ (Rd.is_off hne _)] at ho
      exact hne ho.1
theorem Sim.value (h : Sim x r r') (ho : x = [] ∨ (r.value en).2.e = 0) : sV (r'.value en').1 = sV (r.value en).1 ∧ Sim x (r.value en).2 (r'.value en').2 := by
  unfold Rd.value at ho ⊢
  simp only at ho ⊢
  have o3 := ho.imp id fun k => (Rd.take_ok k).1
  have o2 := o3.imp id fun k => (Rd.number_ok k).1
  have o1 := o2.imp id fun k => (Rd.take_ok k).1
  have h1 := h.name (en := en) (en' := en') o1
  have h2 := h1.1.take (en := en) (en' := en') [61] o2
  have h3 := h2.number (en := en) (en' := en') o3
  have h4 := h3.1.take (en := en) (en' := en') [59] ho
  exact ⟨by unfold sV; rw [h1.2, h3.2], h4⟩
theorem Sim.method (h : Sim x r r') (ho : x = [] ∨ (r.method en).2.e = 0) : sM (r'.method en').1 = sM (r.method en).1 ∧ Sim x (r.method en).2 (r'.method en').2 := by
  unfold Rd.method at ho ⊢
  simp only at ho ⊢
  have q9 := ho.imp id fun k => (Rd.take_ok k).1
  have q8 := q9.imp id fun k => And.intro (Rd.take_ok k).1 (Rd.take_ok k).2.2
  obtain ⟨a, ha⟩ : ∃ a, ((r.take en tRpc).name en).take en [40] = a := ⟨_, rfl⟩
  rw [ha] at ho q9 q8 ⊢
  obtain ⟨c, hc⟩ : ∃ c, ((a.path en).2.take en [41]).take en tReturns = c := ⟨_, rfl⟩
  rw [hc] at ho q9 q8 ⊢
  have q7 : x = [] ∨ (c.take en [40]).e = 0 := by
    refine q8.imp id fun k => ?_
    by_cases hz : (c.take en [40]).e = 0
    · exact hz
    · rw [Rd.path_stay en hz] at k; exact absurd k.1 hz
  have q6 : x = [] ∨ (((a.path en).2.take en [41]).take en tReturns).e = 0 := by rw [hc]; exact q7.imp id fun k => (Rd.take_ok k).1
  have q5 := q6.imp id fun k => (Rd.take_ok k).1
  have q4 := q5.imp id fun k => And.intro (Rd.take_ok k).1 (Rd.take_ok k).2.2
  have q3 : x = [] ∨ (((r.take en tRpc).name en).take en [40]).e = 0 := by
    rw [ha]
    refine q4.imp id fun k => ?_
    by_cases hz : a.e = 0
    · exact hz
    · rw [Rd.path_stay en hz] at k; exact absurd k.1 hz
  have q2 := q3.imp id fun k => (Rd.take_ok k).1
  have q1 := q2.imp id fun k => (Rd.name_ok k).1
  have h1 := h.take (en := en) (en' := en') tRpc q1
  have h2 := h1.name (en := en) (en' := en') q2
  have h3 := h2.1.take (en := en) (en' := en') [40] q3
  rw [ha] at h3
  have h4 := h3.path (en := en) (en' := en') q4
  have h5 := h4.2.take (en := en) (en' := en') [41] q5
  have h6 := h5.take (en := en) (en' := en') tReturns q6
  rw [hc] at h6
  have h7 := h6.take (en := en) (en' := en') [40] q7
  have h8 := h7.path (en := en) (en' := en') q8
  have h9 := h8.2.take (en := en) (en' := en') [41] q9
  have h10 := h9.take (en := en) (en' := en') [59] ho
  exact ⟨by unfold sM; simp only; rw [h2.2, h4.1, h8.1], h10⟩
theorem Sim.field (h : Sim x r r') (hn : r.l ≠ []) (ho : x = [] ∨ (r.field en).2.e = 0) : sF (r'.field en').1 = sF (r.field en).1 ∧ Sim x (r.field en).2 (r'.field en').2 := by
  unfold Rd.field at ho ⊢
  simp only at ho ⊢
  have hi := h.is (.inr hn) tRepeated
  rw [hi]
  have h0 : Sim x (if r.is tRepeated = true then r.take en tRepeated else r) (if r.is tRepeated = true then r'.take en' tRepeated else r') := by
    by_cases hk : r.is tRepeated = true
    · rw [if_pos hk, if_pos hk]
      refine h.take tRepeated (.inr ?_)
      have := Rd.e_take en (Rd.is_ok hk).1 tRepeated
      rw [hk] at this; simpa using this
    · rw [if_neg hk, if_neg hk]; exact h
  generalize (if r.is tRepeated = true then r.take en tRepeated else r) = a at *
  generalize (if r.is tRepeated = true then r'.take en' tRepeated else r') = a' at *
  have q5 := ho.imp id fun k => (Rd.take_ok k).1
  have q4 := q5.imp id fun k => (Rd.number_ok k).1
  have q3 := q4.imp id fun k => (Rd.take_ok k).1
  have q2 := q3.imp id fun k => And.intro (Rd.name_ok k).1 (Rd.name_ok k).2.2
  have h1 := h0.typ (en := en) (en' := en') q2
  have h2 := h1.2.name (en := en) (en' := en') q3
  have h3 := h2.1.take (en := en) (en' := en') [61] q4
  have h4 := h3.number (en := en) (en' := en') q5
  have h5 := h4.1.take (en := en) (en' := en') [59] ho
  exact ⟨by unfold sF; rw [h1.1, h2.2, h4.2], h5⟩
end
end Go.Proofs.YtbfkaanmbdekfaaDoor
