/-
  Whole names, and what a path means in a scope, as plain functions; what the laws of scope ask of them. Nothing is proved of the program here.
-/
import Derived.Test.YtglkgcpfdhneeaaDoorPrG
namespace Go.Proofs.YtglkgcpfdhneeaaDoor
set_option linter.unusedVariables false

/-- a whole name and a kind -/
abbrev Sy := List UInt8 × Int
/-- all whole names, behind what stands ahead -/
def allL : Nat → List UInt8 → List Dc → List Sy
  | 0, _, _ => []
  | f + 1, a, ds => ds.flatMap fun d => (a ++ d.name, d.kind) :: allL f (a ++ d.name ++ [46]) d.inner
theorem allL_cons (f : Nat) (a : List UInt8) (d : Dc) (t : List Dc) : allL (f + 1) a (d :: t) = (a ++ d.name, d.kind) :: (allL f (a ++ d.name ++ [46]) d.inner ++ allL (f + 1) a t) := by
  rw [allL, allL, List.flatMap_cons, List.cons_append]
theorem allL_snoc (f : Nat) (a : List UInt8) (d : Dc) (t : List Dc) : allL (f + 1) a (t ++ [d]) = allL (f + 1) a t ++ [(a ++ d.name, d.kind)] ++ allL f (a ++ d.name ++ [46]) d.inner := by
  rw [allL, allL, List.flatMap_append, List.flatMap_cons, List.flatMap_nil]; simp
/-- the whole name that is looked for -/
def wantL (sc nm : List UInt8) : List UInt8 := if sc = [] then nm else sc ++ 46 :: nm
/-- the first one of a whole name -/
def firstL (l : List Sy) (n : List UInt8) : Option Sy := l.find? fun s => decide (s.1 = n)
def meant (s : Sy) : Bool := decide (s.2 = 1 ∨ s.2 = 2)
/-- what is declared right in a scope by a name -/
def innerL (l : List Sy) (sc nm : List UInt8) : Option Sy := (firstL l (wantL sc nm)).filter meant
/-- the names behind the first one -/
def walkL (l : List Sy) : Sy → List (List UInt8) → Option Sy
  | x, [] => some x
  | x, n :: t => match innerL l x.1 n with
    | some y => walkL l y t
    | none => none
/-- the whole name of what one lies in -/
def upL (s : List UInt8) : List UInt8 := ((s.reverse.dropWhile fun b => decide (b ≠ 46)).drop 1).reverse
def climbL (l : List Sy) (n0 : List UInt8) (ns : List (List UInt8)) : Nat → List UInt8 → Option Sy
  | 0, sc => none
  | k + 1, sc => match innerL l sc n0 with
    | some x => walkL l x ns
    | none => if sc = [] then none else climbL l n0 ns k (upL sc)
def thereL (l : List Sy) (sc : List UInt8) : Bool := decide (sc = []) || ((firstL l sc).any fun s => decide (s.2 = 1))
def findN (l : List Sy) (sc : List UInt8) : List (List UInt8) → Option Sy
  | [] => none
  | n0 :: ns => climbL l n0 ns (sc.length + 1) sc
/-- what a path means in a scope -/
def findL (l : List Sy) (sc path : List UInt8) : Option Sy := if pathOK path = true then (if thereL l sc = true then findN l sc (pcs [] path) else none) else none
theorem upL_short (s : List UInt8) (h : s ≠ []) : (upL s).length < s.length := by
  unfold upL
  rw [List.length_reverse, List.length_drop]
  have h1 : (s.reverse.dropWhile fun b => decide (b ≠ 46)).length ≤ s.length := by
    have := (List.dropWhile_sublist (fun b : UInt8 => decide (b ≠ 46)) (l := s.reverse)).length_le
    simpa using this
  have : 0 < s.length := List.length_pos_iff.2 h
  omega
theorem climbL_succ (l : List Sy) (n0 : List UInt8) (ns : List (List UInt8)) (k : Nat) (sc : List UInt8) : climbL l n0 ns (k + 1) sc = match innerL l sc n0 with
    | some x => walkL l x ns
    | none => if sc = [] then none else climbL l n0 ns k (upL sc) := rfl
theorem climb_one (l : List Sy) (n0 : List UInt8) (ns : List (List UInt8)) : ∀ (k : Nat) (sc : List UInt8), sc.length < k → climbL l n0 ns (k + 1) sc = climbL l n0 ns k sc := by
  intro k
  induction k with
  | zero => intro sc h; omega
  | succ k ih =>
    intro sc h
    rw [climbL_succ l n0 ns (k + 1) sc, climbL_succ l n0 ns k sc]
    cases innerL l sc n0 with
    | some x => rfl
    | none =>
      dsimp only
      by_cases h0 : sc = []
      · rw [if_pos h0, if_pos h0]
      · rw [if_neg h0, if_neg h0]
        have hs := upL_short sc h0
        exact ih (upL sc) (by omega)
/-- once there is room enough, more changes nothing -/
theorem climb_more (l : List Sy) (n0 : List UInt8) (ns : List (List UInt8)) (sc : List UInt8) : ∀ k : Nat, sc.length < k → climbL l n0 ns k sc = climbL l n0 ns (sc.length + 1) sc := by
  intro k
  induction k with
  | zero => intro h; omega
  | succ k ih =>
    intro h
    by_cases he : k = sc.length
    · rw [he]
    · rw [climb_one l n0 ns k sc (by omega), ih (by omega)]
/-- one step of the search -/
theorem climb_step (l : List Sy) (n0 : List UInt8) (ns : List (List UInt8)) (sc : List UInt8) : climbL l n0 ns (sc.length + 1) sc = match innerL l sc n0 with
    | some x => walkL l x ns
    | none => if sc = [] then none else climbL l n0 ns ((upL sc).length + 1) (upL sc) := by
  rw [climbL]
  cases innerL l sc n0 with
  | some x => rfl
  | none =>
    dsimp only
    by_cases h0 : sc = []
    · rw [if_pos h0, if_pos h0]
    · rw [if_neg h0, if_neg h0]
      exact climb_more l n0 ns (upL sc) _ (upL_short sc h0)

/-! P7.2: a whole name means itself -/
def Apart (l : List Sy) : Prop := ∀ (i j : Nat) (x y : Sy), l[i]? = some x → l[j]? = some y → x.1 = y.1 → i = j
theorem first_apart {l : List Sy} (h : Apart l) {x : Sy} (hx : x ∈ l) : firstL l x.1 = some x := by
  obtain ⟨j, hj⟩ := List.getElem?_of_mem hx
  cases hf : firstL l x.1 with
  | none =>
    unfold firstL at hf
    rw [List.find?_eq_none] at hf
    exact absurd (by simp) (hf x hx)
  | some y =>
    have h1 : y.1 = x.1 := by
      have := List.find?_some hf
      simpa using this
    obtain ⟨i, hi⟩ := List.getElem?_of_mem (List.mem_of_find?_eq_some hf)
    have := h i j y x hi hj h1
    subst this
    rw [hi] at hj
    exact hj
theorem fmD_one {f k : Nat} {d : Dc} (h : fmD f k d = true) (hne : d.inner ≠ []) : d.kind = 1 := by
  obtain ⟨_, _, _, _, _, _, h2, _⟩ := fmD_parts h
  by_cases h1 : d.kind = 1
  · exact h1
  · exact absurd (h2 h1).1 hne
theorem whole_walk (L : List Sy) (hL : Apart L) : ∀ (f k : Nat) (S : List UInt8) (ds : List Dc), fmL f k ds = true → (∀ y ∈ allL f (if S = [] then [] else S ++ [46]) ds, y ∈ L) →
    ∀ x ∈ allL f (if S = [] then [] else S ++ [46]) ds, x.2 ≠ 3 → ∃ n0 ns y, x.1 = (if S = [] then [] else S ++ [46]) ++ jn (n0 :: ns) ∧ (∀ n ∈ n0 :: ns, plainL n = true) ∧ innerL L S n0 = some y ∧ walkL L y ns = some x := by
  intro f
  induction f with
  | zero => intro k S ds _ _ x hx; simp [allL] at hx
  | succ f ih =>
    intro k S ds hfm hin x hx hx3
    obtain ⟨A, hA⟩ : ∃ A, (if S = [] then [] else S ++ [46]) = A := ⟨_, rfl⟩
    rw [hA] at hin hx ⊢
    have hin0 := hin
    rw [allL, List.mem_flatMap] at hx
    obtain ⟨d, hd, hx⟩ := hx
    rw [fmL_succ, List.all_eq_true] at hfm
    have hf := hfm d hd
    have hself : ((A ++ d.name, d.kind) : Sy) ∈ L := hin _ (by rw [allL, List.mem_flatMap]; exact ⟨d, hd, List.mem_cons_self⟩)
    have hpl := (fmD_parts hf).1
    have hdn : d.name ≠ [] := by
      intro e
      rw [e] at hpl
      revert hpl
      decide +kernel
    have hw : wantL S d.name = A ++ d.name := by
      rw [← hA]
      unfold wantL
      split
      · simp
      · simp
    have hfi : firstL L (wantL S d.name) = some (A ++ d.name, d.kind) := by rw [hw]; exact first_apart hL hself
    rcases List.mem_cons.1 hx with rfl | hx
    · refine ⟨d.name, [], (A ++ d.name, d.kind), rfl, fun n hn => ?_, ?_, rfl⟩
      · have : n = d.name := by simpa using hn
        rw [this]; exact hpl
      · unfold innerL
        rw [hfi]
        have hk := (fmD_parts hf).2.1
        have hk3 : d.kind ≠ 3 := hx3
        have : meant (A ++ d.name, d.kind) = true := by unfold meant; rw [decide_eq_true_iff]; show d.kind = 1 ∨ d.kind = 2; omega
        simp [Option.filter, this]
    · have hne : d.inner ≠ [] := by
        intro e
        rw [e] at hx
        cases f <;> simp [allL] at hx
      have hk1 := fmD_one hf hne
      have hS' : (if A ++ d.name = [] then [] else A ++ d.name ++ [46]) = A ++ d.name ++ [46] := if_neg (by simp [hdn])
      have hsub : ∀ y ∈ allL f (A ++ d.name ++ [46]) d.inner, y ∈ L := fun y hy => hin y (by rw [allL, List.mem_flatMap]; exact ⟨d, hd, List.mem_cons_of_mem _ hy⟩)
      obtain ⟨n0, ns, y, e1, e2, e3, e4⟩ := ih (k + 1) (A ++ d.name) d.inner (fm_inner hf) (by rw [hS']; exact hsub) x (by rw [hS']; exact hx) hx3
      rw [hS'] at e1
      refine ⟨d.name, n0 :: ns, (A ++ d.name, d.kind), ?_, fun n hn => ?_, ?_, ?_⟩
      · rw [e1, jn_cons d.name (n0 :: ns) (by simp)]
        simp
      · rcases List.mem_cons.1 hn with rfl | hn
        · exact hpl
        · exact e2 n hn
      · unfold innerL
        rw [hfi]
        have : meant (A ++ d.name, d.kind) = true := by unfold meant; rw [decide_eq_true_iff]; exact .inl hk1
        simp [Option.filter, this]
      · show (match innerL L (A ++ d.name) n0 with | some y => walkL L y ns | none => none) = some x
        rw [e3]
        exact e4
/-- a whole name of a message or an enum means itself in no scope, where it is a path -/
theorem whole_self (f : Nat) (ds : List Dc) (hfm : fmL f 0 ds = true) (hL : Apart (allL f [] ds)) (x : Sy) (hx : x ∈ allL f [] ds) (h3 : x.2 ≠ 3) :
    findL (allL f [] ds) [] x.1 = if pathOK x.1 = true then some x else none := by
  obtain ⟨n0, ns, y, e1, e2, e3, e4⟩ := whole_walk _ hL f 0 [] ds hfm (fun y hy => by simpa using hy) x (by simpa using hx) h3
  have e1 : x.1 = jn (n0 :: ns) := by simpa using e1
  unfold findL
  by_cases hp : pathOK x.1 = true
  · rw [if_pos hp, if_pos hp, if_pos (by unfold thereL; simp)]
    have hpc : pcs [] x.1 = n0 :: ns := by
      rw [e1]
      exact pcs_jn _ (by simp) (fun n hn => no_dot (plainL_name (e2 n hn)).1)
    rw [hpc]
    show climbL _ n0 ns ([] : List UInt8).length.succ [] = _
    rw [climbL, e3]
    exact e4
  · rw [if_neg hp, if_neg hp]
/-- a service's whole name means nothing in no scope -/
theorem whole_service (f : Nat) (ds : List Dc) (hfm : fmL f 0 ds = true) (hL : Apart (allL f [] ds)) (x : Sy) (hx : x ∈ allL f [] ds) (h3 : x.2 = 3) :
    findL (allL f [] ds) [] x.1 = none := by
  have hnm : plainL x.1 = true := by
    cases f with
    | zero => simp [allL] at hx
    | succ f =>
      rw [fmL_succ, List.all_eq_true] at hfm
      rw [allL, List.mem_flatMap] at hx
      obtain ⟨d, hd, hx⟩ := hx
      have hf := hfm d hd
      rcases List.mem_cons.1 hx with rfl | hx
      · simpa using (fmD_parts hf).1
      · exfalso
        -- nothing that lies in a message is a service
        have key : ∀ (f k : Nat) (a : List UInt8) (ds : List Dc), fmL f (k + 1) ds = true → ∀ y ∈ allL f a ds, y.2 ≠ 3 := by
          intro f
          induction f with
          | zero => intro k a ds _ y hy; simp [allL] at hy
          | succ f ih =>
            intro k a ds h y hy
            rw [fmL_succ, List.all_eq_true] at h
            rw [allL, List.mem_flatMap] at hy
            obtain ⟨d, hd, hy⟩ := hy
            rcases List.mem_cons.1 hy with rfl | hy
            · intro e
              have := ((fmD_parts (h d hd)).2.2.2.2.2.2.2.1 e).1
              omega
            · exact ih (k + 1) _ _ (fm_inner (h d hd)) y hy
        exact key f 0 _ d.inner (fm_inner hf) x hx h3
  unfold findL
  by_cases hp : pathOK x.1 = true
  · rw [if_pos hp, if_pos (by unfold thereL; simp)]
    have hpc : pcs [] x.1 = [x.1] := by
      have := pcs_jn [x.1] (by simp) (fun n hn => by have e : n = x.1 := by simpa using hn
                                                     rw [e]; exact no_dot (plainL_name hnm).1)
      exact this
    rw [hpc]
    show climbL _ x.1 [] ([] : List UInt8).length.succ [] = _
    rw [climbL]
    have : innerL (allL f [] ds) [] x.1 = none := by
      unfold innerL
      rw [show wantL [] x.1 = x.1 from rfl, first_apart hL hx]
      have : meant x = false := by unfold meant; rw [decide_eq_false_iff_not]; omega
      simp [Option.filter, this]
    rw [this]
    rfl
  · rw [if_neg hp]
/-- P7.1: a name that is declared right in the scope is meant there -/
theorem nearest (name other : List UInt8) (t : List Sy) (h1 : plainL name = true) (h2 : plainL other = true) :
    findL ((other, 1) :: (other ++ 46 :: name, 2) :: t) other name = some (other ++ 46 :: name, 2) := by
  have hd := no_dot (plainL_name h1).1
  have hpc : pcs [] name = [name] := pcs_jn [name] (by simp) (fun n hn => by
    have e : n = name := by simpa using hn
    rw [e]; exact hd)
  have hp : pathOK name = true := by
    unfold pathOK
    rw [hpc]
    simp [h1]
  have ho : other ≠ [] := by
    intro e
    rw [e] at h2
    revert h2
    decide +kernel
  unfold findL
  rw [if_pos hp, if_pos (by unfold thereL firstL; simp), hpc]
  show climbL _ name [] (other.length + 1) other = _
  rw [climbL]
  have : innerL ((other, 1) :: (other ++ 46 :: name, 2) :: t) other name = some (other ++ 46 :: name, 2) := by
    unfold innerL firstL wantL
    rw [if_neg ho, List.find?_cons_of_neg (by simp), List.find?_cons_of_pos (by simp)]
    rfl
  rw [this]
  rfl
end Go.Proofs.YtglkgcpfdhneeaaDoor
