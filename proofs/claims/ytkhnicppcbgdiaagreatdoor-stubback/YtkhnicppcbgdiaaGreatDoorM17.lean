/-
  The walks over the program's round of numbers.
  Rings of messages: what a search that marks what it has seen keeps, as plain functions. Nothing is proved of the program here.
-/
import Derived.Test.YtkhnicppcbgdiaaGreatDoorM6
import Derived.Test.YtkhnicppcbgdiaaGreatDoorM5
namespace Go.Proofs.YtkhnicppcbgdiaaGreatDoor
set_option linter.unusedVariables false
open Go.ChangeShapes Go.WideShapes Go.ChangeAt Go.RowKit Go.Maps

theorem fnP_any (n : Int) (w : World) : Calls Tryz.prog 78 #[.int .i64 n] w fun e w' => e = .returned (.bool (fnOK n)) ∧ w' = w := by
  obtain ⟨R, hR⟩ : ∃ r, fnOK n = r := ⟨_, rfl⟩
  have HR := Lib.hid hR
  rw [hR]
  clear hR
  by_cases h1 : (1 : Int) ≤ n
  · by_cases h2 : n ≤ 536870911
    · by_cases h3 : n < 19000
      · have HT : Hid (R = true) := by
          refine (?_ : _ = _)
          rw [← HR.out]; unfold fnOK; simp; omega
        go_enter Tryz.func78, Tryz.ntmps78
        go_wp2_with fail
        go_ret
        exact ⟨by rw [HT.out]; rfl, rfl⟩
      · by_cases h4 : 19999 < n
        · have HT : Hid (R = true) := by
            refine (?_ : _ = _)
            rw [← HR.out]; unfold fnOK; simp; omega
          go_enter Tryz.func78, Tryz.ntmps78
          go_wp2_with fail
          go_ret
          exact ⟨by rw [HT.out]; rfl, rfl⟩
        · have HT : Hid (R = false) := by
            refine (?_ : _ = _)
            rw [← HR.out]; unfold fnOK; simp; omega
          go_enter Tryz.func78, Tryz.ntmps78
          go_wp2_with fail
          go_ret
          exact ⟨by rw [HT.out]; rfl, rfl⟩
    · have HT : Hid (R = false) := by
        refine (?_ : _ = _)
        rw [← HR.out]; unfold fnOK; simp; omega
      go_enter Tryz.func78, Tryz.ntmps78
      go_wp2_with fail
      go_ret
      exact ⟨by rw [HT.out]; rfl, rfl⟩
  · have HT : Hid (R = false) := by
      refine (?_ : _ = _)
      rw [← HR.out]; unfold fnOK; simp; omega
    go_enter Tryz.func78, Tryz.ntmps78
    go_wp2_with fail
    go_ret
    exact ⟨by rw [HT.out]; rfl, rfl⟩
theorem num_wf {n : Int} (h : numOK n = true) : (Lit.int .i64 n).wf = true := by
  unfold numOK at h
  rw [decide_eq_true_iff] at h
  exact WalkArith.wf_i64 (by omega)
end Go.Proofs.YtkhnicppcbgdiaaGreatDoor
namespace Go.Proofs.YtkhnicppcbgdiaaGreatDoor
set_option linter.unusedVariables false

def Seen (s : List Bool) (x : Nat) : Prop := s[x]? = some true
def DoneR (ms : List MD) (s : List Bool) (x : Nat) : Prop := ∀ y, Goes ms x y → Seen s y
/-- what the search keeps: t is asked, s is marked, wt waits -/
structure RInv (ms : List MD) (t : Nat) (s : List Bool) (wt : List Nat) : Prop where
  len : s.length = ms.length
  reach : ∀ x, Seen s x → Relation.TransGen (Goes ms) t x
  not : ¬ Seen s t
  wait : ∀ x ∈ wt, x < ms.length ∧ (x = t ∨ Seen s x)
  done : ∀ x, (x = t ∨ Seen s x) → x ∈ wt ∨ DoneR ms s x
/-- while the fields of the message c are gone through -/
structure RIn (ms : List MD) (t : Nat) (s : List Bool) (wt : List Nat) (c : Nat) (fs : List FD) (k : Nat) : Prop where
  len : s.length = ms.length
  reach : ∀ x, Seen s x → Relation.TransGen (Goes ms) t x
  not : ¬ Seen s t
  wait : ∀ x ∈ wt, x < ms.length ∧ (x = t ∨ Seen s x)
  done : ∀ x, (x = t ∨ Seen s x) → x ∈ wt ∨ x = c ∨ DoneR ms s x
  cur : c = t ∨ Seen s c
  fields : ∃ m, ms[c]? = some m ∧ m.fields = fs
  part : ∀ f ∈ fs.take k, f.kind = 10 → f.rep = false → ∀ y : Nat, f.type = (y : Int) → Seen s y
theorem rinv_start (ms : List MD) (t : Nat) (ht : t < ms.length) : RInv ms t (List.replicate ms.length false) [t] := by
  have hn : ∀ x, ¬ Seen (List.replicate ms.length false) x := by
    intro x h
    unfold Seen at h
    rw [List.getElem?_replicate] at h
    split at h <;> cases h
  refine ⟨by simp, fun x h => absurd h (hn x), hn t, ?_, ?_⟩
  · intro x hx
    have : x = t := by simpa using hx
    subst this
    exact ⟨ht, .inl rfl⟩
  · intro x hx
    rcases hx with rfl | h
    · exact .inl (by simp)
    · exact absurd h (hn x)
theorem RInv.pop {ms : List MD} {t : Nat} {s : List Bool} {wt : List Nat} {c : Nat} {m : MD} (h : RInv ms t s (wt ++ [c])) (hm : ms[c]? = some m) : RIn ms t s wt c m.fields 0 := by
  refine ⟨h.len, h.reach, h.not, fun x hx => h.wait x (by simp [hx]), ?_, (h.wait c (by simp)).2, ⟨m, hm, rfl⟩, by simp⟩
  intro x hx
  rcases h.done x hx with h1 | h1
  · rcases List.mem_append.1 h1 with h2 | h2
    · exact .inl h2
    · exact .inr (.inl (by simpa using h2))
  · exact .inr (.inr h1)
theorem RIn.skip {ms : List MD} {t : Nat} {s : List Bool} {wt : List Nat} {c : Nat} {fs : List FD} {k : Nat} {f : FD} (h : RIn ms t s wt c fs k) (hf : fs[k]? = some f) (hs : f.kind = 10 → f.rep = false → ∀ y : Nat, f.type = (y : Int) → Seen s y) : RIn ms t s wt c fs (k + 1) := by
  refine ⟨h.len, h.reach, h.not, h.wait, h.done, h.cur, h.fields, ?_⟩
  intro g hg
  rw [take_snoc hf] at hg
  rcases List.mem_append.1 hg with h1 | h1
  · exact h.part g h1
  · have : g = f := by simpa using h1
    subst this; exact hs
theorem seen_set {s : List Bool} {y x : Nat} (hy : y < s.length) : Seen (s.set y true) x ↔ x = y ∨ Seen s x := by
  unfold Seen
  rw [List.getElem?_set]
  by_cases h : y = x
  · subst h; simp [hy]
  · rw [if_neg h]
    constructor
    · exact .inr
    · rintro (e | e)
      · exact absurd e.symm h
      · exact e
theorem RIn.goes {ms : List MD} {t : Nat} {s : List Bool} {wt : List Nat} {c : Nat} {fs : List FD} {k : Nat} {f : FD} {y : Nat} (h : RIn ms t s wt c fs k) (hf : fs[k]? = some f) (h1 : f.kind = 10) (h2 : f.rep = false) (h3 : f.type = (y : Int)) : Relation.TransGen (Goes ms) t y := by
  obtain ⟨m, hm, rfl⟩ := h.fields
  have hg : Goes ms c y := ⟨m, hm, f, List.mem_of_getElem? hf, h1, h2, h3⟩
  rcases h.cur with rfl | hc
  · exact .single hg
  · exact .tail (h.reach c hc) hg
theorem RIn.mark {ms : List MD} {t : Nat} {s : List Bool} {wt : List Nat} {c : Nat} {fs : List FD} {k : Nat} {f : FD} {y : Nat} (h : RIn ms t s wt c fs k) (hf : fs[k]? = some f) (h1 : f.kind = 10) (h2 : f.rep = false) (h3 : f.type = (y : Int)) (hy : y < ms.length) (hyt : y ≠ t) :
    RIn ms t (s.set y true) (wt ++ [y]) c fs (k + 1) := by
  have hyl : y < s.length := by rw [h.len]; exact hy
  have up : ∀ x, Seen s x → Seen (s.set y true) x := fun x hx => (seen_set hyl).2 (.inr hx)
  refine ⟨by simp [h.len], fun x hx => ?_, fun hx => ?_, fun x hx => ?_, fun x hx => ?_, h.cur.imp id (up c), h.fields, ?_⟩
  · rcases (seen_set hyl).1 hx with rfl | hx
    · exact h.goes hf h1 h2 h3
    · exact h.reach x hx
  · rcases (seen_set hyl).1 hx with e | hx
    · exact hyt e.symm
    · exact h.not hx
  · rcases List.mem_append.1 hx with hx | hx
    · exact ⟨(h.wait x hx).1, (h.wait x hx).2.imp id (up x)⟩
    · have : x = y := by simpa using hx
      subst this
      exact ⟨hy, .inr ((seen_set hyl).2 (.inl rfl))⟩
  · have old : ∀ x, (x = t ∨ Seen s x) → x ∈ wt ++ [y] ∨ x = c ∨ DoneR ms (s.set y true) x := fun x hx => by
      rcases h.done x hx with h4 | h4 | h4
      · exact .inl (by simp [h4])
      · exact .inr (.inl h4)
      · exact .inr (.inr fun z hz => up z (h4 z hz))
    rcases hx with e | hx
    · exact old x (.inl e)
    · rcases (seen_set hyl).1 hx with e | hx
      · exact .inl (by simp [e])
      · exact old x (.inr hx)
  · intro g hg
    rw [take_snoc hf] at hg
    rcases List.mem_append.1 hg with hg | hg
    · exact fun a b z hz => up z (h.part g hg a b z hz)
    · have : g = f := by simpa using hg
      subst this
      intro _ _ z hz
      have : z = y := by rw [h3] at hz; omega
      subst this
      exact (seen_set hyl).2 (.inl rfl)
theorem RIn.fin {ms : List MD} {t : Nat} {s : List Bool} {wt : List Nat} {c : Nat} {fs : List FD} {k : Nat} (h : RIn ms t s wt c fs k) (hk : fs.length ≤ k) : RInv ms t s wt := by
  refine ⟨h.len, h.reach, h.not, h.wait, fun x hx => ?_⟩
  rcases h.done x hx with h1 | rfl | h1
  · exact .inl h1
  · right
    intro y hy
    obtain ⟨m, hm, rfl⟩ := h.fields
    obtain ⟨m', hm', f, hf, h1, h2, h3⟩ := hy
    rw [hm] at hm'
    cases hm'
    exact h.part f (by rw [List.take_of_length_le hk]; exact hf) h1 h2 y h3
  · exact .inr h1
theorem RInv.stop {ms : List MD} {t : Nat} {s : List Bool} (h : RInv ms t s []) : ¬ Ring ms t := by
  intro hr
  have key : ∀ x, Relation.TransGen (Goes ms) t x → Seen s x := by
    intro x hx
    induction hx with
    | single hg =>
      rcases h.done t (.inl rfl) with h1 | h1
      · simp at h1
      · exact h1 _ hg
    | tail _ hg ih =>
      rcases h.done _ (.inr ih) with h1 | h1
      · simp at h1
      · exact h1 _ hg
  exact h.not (key t hr)
theorem RIn.found {ms : List MD} {t : Nat} {s : List Bool} {wt : List Nat} {c : Nat} {fs : List FD} {k : Nat} {f : FD} (h : RIn ms t s wt c fs k) (hf : fs[k]? = some f) (h1 : f.kind = 10) (h2 : f.rep = false) (h3 : f.type = (t : Int)) : Ring ms t := h.goes hf h1 h2 h3
/-- how many aren't marked -/
def uns (s : List Bool) : Nat := (s.filter fun b => !b).length
theorem uns_set : ∀ (s : List Bool) (y : Nat), s[y]? = some false → uns (s.set y true) + 1 = uns s
  | [], y, h => by simp at h
  | b :: t, 0, h => by
    have : b = false := by simpa using h
    subst this
    simp [uns]
  | b :: t, y + 1, h => by
    have := uns_set t y (by simpa using h)
    unfold uns at this ⊢
    rw [List.set_cons_succ, List.filter_cons, List.filter_cons]
    cases b <;> simp <;> omega
end Go.Proofs.YtkhnicppcbgdiaaGreatDoor
