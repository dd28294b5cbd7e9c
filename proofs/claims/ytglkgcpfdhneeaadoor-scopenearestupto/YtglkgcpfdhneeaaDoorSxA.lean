/-
  What the program's Find answers, as plain functions; slices of whole names; the walks over the document's All and the program's All.
-/
import Derived.Test.YtglkgcpfdhneeaaDoorScM
import Derived.Test.YtglkgcpfdhneeaaDoorFnR
import Derived.Test.YtglkgcpfdhneeaaDoorSlC
import Derived.Test.YtglkgcpfdhneeaaDoorTxR
import Derived.Laws.AppendOwnNone
import Derived.Deep.RegionLaw
import Derived.Deep.RegionHeldLaw
namespace Go.Proofs.YtglkgcpfdhneeaaDoor
set_option linter.unusedVariables false

/-- a room: what stands ahead, and what lies right in it -/
abbrev Rm := List UInt8 × List Dc
/-- is a text begun by this name and a dot? -/
def headed (n t : List UInt8) : Bool := (n ++ [46]).isPrefixOf t
def goP (rec : List UInt8 → List Dc → Option (Dc × List Rm)) (a : List UInt8) (all : List Dc) (wh : List UInt8) : List Dc → Option (Dc × List Rm)
  | [] => none
  | d :: t => if d.name = wh.drop a.length then some (d, [(a, all)])
      else if headed d.name (wh.drop a.length) = true then
        match rec (wh.take (a.length + d.name.length + 1)) d.inner with
        | some (x, o) => some (x, o ++ [(a, all)])
        | none => goP rec a all wh t
      else goP rec a all wh t
/-- the first declaration of a whole name, and the rooms that it lies in -/
def firstP : Nat → List UInt8 → List Dc → List UInt8 → Option (Dc × List Rm)
  | 0, _, _, _ => none
  | f + 1, a, ds, wh => goP (fun a' ds' => firstP f a' ds' wh) a ds wh ds
/-- the message or enum that a name means right in a room -/
def meantP (f : Nat) (top : List Dc) (a : List UInt8) (ds : List Dc) (n : List UInt8) : Option Dc :=
  if ds.any (fun d => decide (d.name = n)) = true then
    match firstP f [] top (a ++ n) with
    | some (d, _) => if d.kind = 1 ∨ d.kind = 2 then some d else none
    | none => none
  else none
/-- the rooms in which a path's first name is looked for -/
def aroundP (f : Nat) (top : List Dc) (sc : List UInt8) : Option (List Rm) :=
  if sc = [] then some [([], top)] else
    match firstP f [] top sc with
    | some (d, o) => if d.kind = 1 then some ((sc ++ [46], d.inner) :: o) else none
    | none => none
def followP (f : Nat) (top : List Dc) : Dc → List UInt8 → List (List UInt8) → Option Sy
  | d, wh, [] => some (wh, d.kind)
  | d, wh, n :: t => match meantP f top (wh ++ [46]) d.inner n with
    | some x => followP f top x (wh ++ 46 :: n) t
    | none => none
def searchP (f : Nat) (top : List Dc) (n0 : List UInt8) (ns : List (List UInt8)) : List Rm → Option Sy
  | [] => none
  | r :: t => match meantP f top r.1 r.2 n0 with
    | some d => followP f top d (r.1 ++ n0) ns
    | none => searchP f top n0 ns t
def findQ (f : Nat) (top : List Dc) (rs : List Rm) : List (List UInt8) → Option Sy
  | [] => none
  | n0 :: ns => searchP f top n0 ns rs
/-- what the program's Find answers -/
def findP (f : Nat) (top : List Dc) (sc path : List UInt8) : Option Sy :=
  if pathOK path = true then
    match aroundP f top sc with
    | some rs => findQ f top rs (pcs [] path)
    | none => none
  else none
theorem goP_cons (rec : List UInt8 → List Dc → Option (Dc × List Rm)) (a : List UInt8) (all : List Dc) (wh : List UInt8) (d : Dc) (t : List Dc) : goP rec a all wh (d :: t) =
    if d.name = wh.drop a.length then some (d, [(a, all)])
      else if headed d.name (wh.drop a.length) = true then
        match rec (wh.take (a.length + d.name.length + 1)) d.inner with
        | some (x, o) => some (x, o ++ [(a, all)])
        | none => goP rec a all wh t
      else goP rec a all wh t := rfl
theorem firstP_succ (f : Nat) (a : List UInt8) (ds : List Dc) (wh : List UInt8) : firstP (f + 1) a ds wh = goP (fun a' ds' => firstP f a' ds' wh) a ds wh ds := rfl

/-! the first one, among all -/
def locL : Nat → List UInt8 → List Dc → List (List UInt8 × Dc)
  | 0, _, _ => []
  | f + 1, a, ds => ds.flatMap fun d => (a ++ d.name, d) :: locL f (a ++ d.name ++ [46]) d.inner
theorem loc_all : ∀ (f : Nat) (a : List UInt8) (ds : List Dc), allL f a ds = (locL f a ds).map fun x => (x.1, x.2.kind)
  | 0, a, ds => rfl
  | f + 1, a, ds => by
    rw [allL, locL, List.map_flatMap]
    congr 1
    funext d
    rw [List.map_cons, ← loc_all f]
theorem loc_pre : ∀ (f : Nat) (a : List UInt8) (ds : List Dc) (x : List UInt8 × Dc), x ∈ locL f a ds → a <+: x.1
  | 0, a, ds, x, h => by simp [locL] at h
  | f + 1, a, ds, x, h => by
    rw [locL, List.mem_flatMap] at h
    obtain ⟨d, hd, h⟩ := h
    rcases List.mem_cons.1 h with rfl | h
    · exact List.prefix_append _ _
    · have := loc_pre f _ _ x h
      rw [List.append_assoc] at this
      exact (List.prefix_append a _).trans this
theorem headed_iff (n t : List UInt8) : headed n t = true ↔ ∃ r, t = n ++ 46 :: r := by
  unfold headed
  rw [List.isPrefixOf_iff_prefix]
  constructor
  · rintro ⟨r, h⟩; exact ⟨r, by rw [← h]; simp⟩
  · rintro ⟨r, h⟩; exact ⟨r, by rw [h]; simp⟩
theorem first_loc : ∀ (f : Nat) (a : List UInt8) (ds : List Dc) (r : List UInt8), (firstP f a ds (a ++ r)).map (·.1) = ((locL f a ds).find? fun x => decide (x.1 = a ++ r)).map (·.2)
  | 0, a, ds, r => rfl
  | f + 1, a, ds, r => by
    have ih := first_loc f
    rw [firstP_succ, locL]
    have key : ∀ (all t : List Dc), (goP (fun a' ds' => firstP f a' ds' (a ++ r)) a all (a ++ r) t).map (·.1) = ((t.flatMap fun d => (a ++ d.name, d) :: locL f (a ++ d.name ++ [46]) d.inner).find? fun x => decide (x.1 = a ++ r)).map (·.2) := by
      intro all t
      induction t with
      | nil => rfl
      | cons d t iht =>
        rw [goP_cons, List.flatMap_cons, List.drop_left, List.cons_append, List.find?_cons]
        by_cases h0 : d.name = r
        · rw [if_pos h0]
          have : decide (((a ++ d.name, d) : List UInt8 × Dc).1 = a ++ r) = true := by simp [h0]
          rw [this]; rfl
        · rw [if_neg h0]
          have : decide (((a ++ d.name, d) : List UInt8 × Dc).1 = a ++ r) = false := by simp [h0]
          rw [this, List.find?_append]
          dsimp only
          by_cases h1 : headed d.name r = true
          · rw [if_pos h1]
            obtain ⟨r', hr'⟩ := (headed_iff _ _).1 h1
            have e1 : a ++ r = (a ++ d.name ++ [46]) ++ r' := by rw [hr']; simp
            have e2 : (a ++ r).take (a.length + d.name.length + 1) = a ++ d.name ++ [46] := by
              rw [e1, List.take_left' (by simp; omega)]
            rw [e2]
            have hi := ih (a ++ d.name ++ [46]) d.inner r'
            rw [← e1] at hi
            cases hf : firstP f (a ++ d.name ++ [46]) d.inner (a ++ r) with
            | none =>
              rw [hf] at hi
              have hn : ((locL f (a ++ d.name ++ [46]) d.inner).find? fun x => decide (x.1 = a ++ r)) = none := by
                cases hz : ((locL f (a ++ d.name ++ [46]) d.inner).find? fun x => decide (x.1 = a ++ r)) with
                | none => rfl
                | some z => rw [hz] at hi; simp at hi
              rw [hn, Option.none_or]
              exact iht
            | some z =>
              rw [hf] at hi
              obtain ⟨x, o⟩ := z
              cases hz : ((locL f (a ++ d.name ++ [46]) d.inner).find? fun x => decide (x.1 = a ++ r)) with
              | none => rw [hz] at hi; simp at hi
              | some y =>
                rw [hz] at hi
                rw [Option.some_or]
                exact hi
          · rw [if_neg h1]
            have hn : ((locL f (a ++ d.name ++ [46]) d.inner).find? fun x => decide (x.1 = a ++ r)) = none := by
              rw [List.find?_eq_none]
              intro x hx he
              have he : x.1 = a ++ r := by simpa using he
              have hp := loc_pre f _ _ x hx
              rw [he] at hp
              obtain ⟨r', hr'⟩ := hp
              apply h1
              rw [headed_iff]
              refine ⟨r', ?_⟩
              rw [List.append_assoc, List.append_assoc, List.append_cancel_left_eq] at hr'
              rw [← hr']; simp
            rw [hn, Option.none_or]
            exact iht
    exact key ds ds
/-- where no two have one whole name, the first one is the one -/
theorem first_one {f : Nat} {top : List Dc} (h : Apart (allL f [] top)) {x : List UInt8 × Dc} (hx : x ∈ locL f [] top) : ∃ o, firstP f [] top x.1 = some (x.2, o) := by
  have hl := first_loc f [] top x.1
  rw [List.nil_append] at hl
  obtain ⟨j, hj⟩ := List.getElem?_of_mem hx
  have hall := loc_all f [] top
  cases hz : (locL f [] top).find? fun y => decide (y.1 = x.1) with
  | none =>
    rw [List.find?_eq_none] at hz
    exact absurd (by simp) (hz x hx)
  | some y =>
    have h1 : y.1 = x.1 := by
      have := List.find?_some hz
      simpa using this
    obtain ⟨i, hi⟩ := List.getElem?_of_mem (List.mem_of_find?_eq_some hz)
    have hij : i = j := h i j (y.1, y.2.kind) (x.1, x.2.kind) (by rw [hall, List.getElem?_map, hi]; rfl) (by rw [hall, List.getElem?_map, hj]; rfl) h1
    subst hij
    rw [hi] at hj
    have hyx : y = x := Option.some.inj hj
    rw [hz, hyx] at hl
    cases hf : firstP f [] top x.1 with
    | none => rw [hf] at hl; simp at hl
    | some z =>
      rw [hf] at hl
      obtain ⟨z1, o⟩ := z
      have : z1 = x.2 := by simpa using hl
      exact ⟨o, by rw [this]⟩
theorem whole_walkP (F : Nat) (top : List Dc) (hL : Apart (allL F [] top)) : ∀ (f k : Nat) (a : List UInt8) (ds : List Dc), fmL f k ds = true → (∀ y ∈ locL f a ds, y ∈ locL F [] top) →
    ∀ x ∈ locL f a ds, x.2.kind ≠ 3 → ∃ n0 ns d0, x.1 = a ++ jn (n0 :: ns) ∧ (∀ n ∈ n0 :: ns, plainL n = true) ∧ meantP F top a ds n0 = some d0 ∧ followP F top d0 (a ++ n0) ns = some (x.1, x.2.kind) := by
  intro f
  induction f with
  | zero => intro k a ds _ _ x hx; simp [locL] at hx
  | succ f ih =>
    intro k a ds hfm hin x hx hx3
    rw [locL, List.mem_flatMap] at hx
    obtain ⟨d, hd, hx⟩ := hx
    rw [fmL_succ, List.all_eq_true] at hfm
    have hf := hfm d hd
    have hself : ((a ++ d.name, d) : List UInt8 × Dc) ∈ locL F [] top := hin _ (by rw [locL, List.mem_flatMap]; exact ⟨d, hd, List.mem_cons_self⟩)
    have hpl := (fmD_parts hf).1
    obtain ⟨o, ho⟩ := first_one hL hself
    have ho : firstP F [] top (a ++ d.name) = some (d, o) := ho
    have hany : ds.any (fun y => decide (y.name = d.name)) = true := by
      rw [List.any_eq_true]; exact ⟨d, hd, by simp⟩
    have hme : d.kind ≠ 3 → meantP F top a ds d.name = some d := by
      intro h3
      unfold meantP
      rw [if_pos hany, ho]
      have hk := (fmD_parts hf).2.1
      exact if_pos (by omega)
    rcases List.mem_cons.1 hx with rfl | hx
    · refine ⟨d.name, [], d, rfl, fun n hn => ?_, hme hx3, rfl⟩
      have : n = d.name := by simpa using hn
      rw [this]; exact hpl
    · have hne : d.inner ≠ [] := by
        intro e
        rw [e] at hx
        cases f <;> simp [locL] at hx
      have hk1 := fmD_one hf hne
      have hsub : ∀ y ∈ locL f (a ++ d.name ++ [46]) d.inner, y ∈ locL F [] top := fun y hy => hin y (by rw [locL, List.mem_flatMap]; exact ⟨d, hd, List.mem_cons_of_mem _ hy⟩)
      obtain ⟨n0, ns, d0, e1, e2, e3, e4⟩ := ih (k + 1) _ d.inner (fm_inner hf) hsub x hx hx3
      refine ⟨d.name, n0 :: ns, d, ?_, fun n hn => ?_, hme (by omega), ?_⟩
      · rw [e1, jn_cons d.name (n0 :: ns) (by simp)]
        simp
      · rcases List.mem_cons.1 hn with rfl | hn
        · exact hpl
        · exact e2 n hn
      · show (match meantP F top (a ++ d.name ++ [46]) d.inner n0 with | some y => followP F top y (a ++ d.name ++ 46 :: n0) ns | none => none) = _
        rw [e3]
        dsimp only
        rw [show a ++ d.name ++ 46 :: n0 = a ++ d.name ++ [46] ++ n0 by simp]
        exact e4
/-- a whole name of a message or an enum means itself in no scope, where it is a path -/
theorem whole_selfP (f : Nat) (ds : List Dc) (hfm : fmL f 0 ds = true) (hL : Apart (allL f [] ds)) (x : Sy) (hx : x ∈ allL f [] ds) (h3 : x.2 ≠ 3) :
    findP f ds [] x.1 = if pathOK x.1 = true then some x else none := by
  rw [loc_all, List.mem_map] at hx
  obtain ⟨y, hy, rfl⟩ := hx
  obtain ⟨n0, ns, d0, e1, e2, e3, e4⟩ := whole_walkP f ds hL f 0 [] ds hfm (fun z hz => hz) y hy h3
  rw [List.nil_append] at e1
  unfold findP
  by_cases hp : pathOK y.1 = true
  · rw [if_pos hp, if_pos hp]
    have hpc : pcs [] y.1 = n0 :: ns := by
      rw [e1]
      exact pcs_jn _ (by simp) (fun n hn => no_dot (plainL_name (e2 n hn)).1)
    have ha : aroundP f ds [] = some [([], ds)] := rfl
    rw [ha, hpc]
    show (match meantP f ds [] ds n0 with | some d => followP f ds d ([] ++ n0) ns | none => none) = _
    rw [e3]
    exact e4
  · rw [if_neg hp, if_neg hp]
/-- a service's whole name means nothing in no scope -/
theorem whole_serviceP (f : Nat) (ds : List Dc) (hfm : fmL f 0 ds = true) (hL : Apart (allL f [] ds)) (x : Sy) (hx : x ∈ allL f [] ds) (h3 : x.2 = 3) :
    findP f ds [] x.1 = none := by
  have hx0 := hx
  have hnm : plainL x.1 = true := by
    cases f with
    | zero => simp [allL] at hx
    | succ f =>
      rw [fmL_succ, List.all_eq_true] at hfm
      rw [allL, List.mem_flatMap] at hx
      obtain ⟨d, hd, hx⟩ := hx
      have hf := hfm d hd
      rcases List.mem_cons.1 hx with rfl | hx
      · simpa using (fmD_parts hf).1
      · exfalso
        have key : ∀ (f k : Nat) (a : List UInt8) (ds : List Dc), fmL f (k + 1) ds = true → ∀ y ∈ allL f a ds, y.2 ≠ 3 := by
          intro f
          induction f with
          | zero => intro k a ds _ y hy; simp [allL] at hy
          | succ f ih =>
            intro k a ds h y hy
            rw [fmL_succ, List.all_eq_true] at h
            rw [allL, List.mem_flatMap] at hy
            obtain ⟨d, hd, hy⟩ := hy
            rcases List.mem_cons.1 hy with rfl | hy
            · intro e
              have := ((fmD_parts (h d hd)).2.2.2.2.2.2.2.1 e).1
              omega
            · exact ih (k + 1) _ _ (fm_inner (h d hd)) y hy
        exact key f 0 _ d.inner (fm_inner hf) x hx h3
  unfold findP
  by_cases hp : pathOK x.1 = true
  · rw [if_pos hp]
    have hpc : pcs [] x.1 = [x.1] := pcs_jn [x.1] (by simp) (fun n hn => by
      have e : n = x.1 := by simpa using hn
      rw [e]; exact no_dot (plainL_name hnm).1)
    have ha : aroundP f ds [] = some [([], ds)] := rfl
    rw [ha, hpc]
    show (match meantP f ds [] ds x.1 with | some d => followP f ds d ([] ++ x.1) [] | none => none) = _
    have : meantP f ds [] ds x.1 = none := by
      unfold meantP
      rw [loc_all, List.mem_map] at hx0
      obtain ⟨y, hy, rfl⟩ := hx0
      obtain ⟨o, ho⟩ := first_one hL hy
      have ho : firstP f [] ds ([] ++ y.1) = some (y.2, o) := ho
      have h3 : y.2.kind = 3 := h3
      have hn3 : ¬ (y.2.kind = 1 ∨ y.2.kind = 2) := by omega
      dsimp only
      split
      · rw [ho]
        exact if_neg hn3
      · rfl
    rw [this]
  · rw [if_neg hp]
/-- a name that is declared right in the scope, the first of all, is meant there -/
theorem nearestP (f : Nat) (own e : Dc) (l : List Dc) (h1 : own.kind = 1) (hi : own.inner = [e]) (hk : e.kind = 1 ∨ e.kind = 2) (hn : plainL e.name = true) (ho : plainL own.name = true) :
    findP (f + 2) (own :: l) own.name e.name = some (own.name ++ 46 :: e.name, e.kind) := by
  have hpc : pcs [] e.name = [e.name] := pcs_jn [e.name] (by simp) (fun n hm => by
    have h : n = e.name := by simpa using hm
    rw [h]; exact no_dot (plainL_name hn).1)
  have hp : pathOK e.name = true := by
    unfold pathOK
    rw [hpc]
    simp [hn]
  have hne : own.name ≠ [] := by
    intro h
    rw [h] at ho
    revert ho
    decide +kernel
  have hfo : firstP (f + 2) [] (own :: l) own.name = some (own, [([], own :: l)]) := by
    rw [firstP_succ, goP_cons, if_pos (by simp)]
  have hwh : own.name ++ [46] ++ e.name = own.name ++ 46 :: e.name := by simp
  have hfi : ∃ o, firstP (f + 2) [] (own :: l) (own.name ++ [46] ++ e.name) = some (e, o) := by
    rw [firstP_succ, goP_cons, if_neg (by
      intro h
      have := congrArg List.length h
      simp at this)]
    rw [if_pos (by rw [headed_iff]; exact ⟨e.name, by simp⟩)]
    have : (own.name ++ [46] ++ e.name).take (([] : List UInt8).length + own.name.length + 1) = own.name ++ [46] := List.take_left' (by simp)
    rw [this, hi]
    have hin : firstP (f + 1) (own.name ++ [46]) [e] (own.name ++ [46] ++ e.name) = some (e, [(own.name ++ [46], [e])]) := by
      rw [firstP_succ, goP_cons, List.drop_left, if_pos rfl]
    rw [hin]
    exact ⟨_, rfl⟩
  obtain ⟨o, hfi⟩ := hfi
  unfold findP
  rw [if_pos hp]
  have ha : aroundP (f + 2) (own :: l) own.name = some [(own.name ++ [46], [e]), ([], own :: l)] := by
    unfold aroundP
    rw [if_neg hne, hfo]
    dsimp only
    rw [if_pos h1, hi]
  rw [ha, hpc]
  show (match meantP (f + 2) (own :: l) (own.name ++ [46]) [e] e.name with | some d => followP (f + 2) (own :: l) d (own.name ++ [46] ++ e.name) [] | none => searchP (f + 2) (own :: l) e.name [] [([], own :: l)]) = _
  have hm : meantP (f + 2) (own :: l) (own.name ++ [46]) [e] e.name = some e := by
    unfold meantP
    rw [if_pos (by simp), hfi]
    exact if_pos hk
  rw [hm]
  show some (own.name ++ [46] ++ e.name, e.kind) = _
  rw [hwh]
end Go.Proofs.YtglkgcpfdhneeaaDoor
namespace Go.Proofs.YtglkgcpfdhneeaaDoor
set_option linter.unusedVariables false
open Go.ChangeShapes Go.WideShapes Go.ChangeAt Go.RowKit

theorem mkB_cat (a b : List UInt8) : mkB (a ++ b) = mkB a ++ mkB b := by
  apply ByteArray.ext
  rw [ByteArray.data_append]
  apply Array.ext'
  rw [Array.toList_append]
  rfl
def srow (x : Sy) : List Value := [.string (mkB x.1), .int .i64 x.2]
theorem srow_flat (xs : List Sy) : (xs.flatMap srow).length = xs.length * 2 := by
  induction xs with
  | nil => rfl
  | cons a t ih => rw [List.flatMap_cons, List.length_append, ih]; simp [srow]; omega
theorem srow_one (xs : List Sy) : ∀ u ∈ xs.flatMap srow, u.oneCell' = true := by
  intro u hu
  obtain ⟨x, _, hu⟩ := List.mem_flatMap.1 hu
  simp only [srow, List.mem_cons, List.not_mem_nil, or_false] at hu
  rcases hu with rfl | rfl <;> rfl
theorem infoSR : (Tryd.prog.info? 32).map (fun i => (i.zero, i.size, i.bytes)) = some (some (.agg #[.string ⟨#[]⟩, .int .i64 0]), 2, 24) := by kernel_rfl
theorem infoSP : (Tryd.prog.info? 33).map (fun i => (i.zero, i.size, i.bytes)) = some (some (.agg #[.string ⟨#[]⟩, .int .i64 0]), 2, 24) := by kernel_rfl
section
variable {T t : TypeId} {base : Nat} {wx : World} {v : Value} {xs : List Sy}
/-- one more behind -/
theorem sy_pushL (ht : Tryd.prog.underlying t = some (.slice T)) (hin : (Tryd.prog.info? T).map (fun i => (i.zero, i.size, i.bytes)) = some (some (.agg #[.string ⟨#[]⟩, .int .i64 0]), 2, 24))
    (h : wx.ownsRow base T 2 v xs.length (xs.flatMap srow)) (hb0 : base ≤ wx.heap.size) (x : Sy) {ops : Array Oper} {rest : List Oper} {o : Oper} {a : Act} {Q : Exit → Act → World → Prop} (hgd : o.guard = none) (s' x' : Operand)
    (ho : o.op = .call { callee := .builtin .append, args := #[s', x'], argTypes := #[t, t] }) (crow : Array Value) (hcs : crow = (srow x).toArray)
    (hs : a.eval s' = v) (hx : a.eval x' = .slice (some ⟨wx.heap.size, 0, none⟩) 1 1) (hbd : xs.length ≤ 100000)
    (hk : ∀ g cap W, W.ownsRow base T 2 (.slice (some ⟨g, 0, none⟩) (xs.length + 1) cap) (xs ++ [x]).length ((xs ++ [x]).flatMap srow) → wx.grownBy W v.ownBlock → (v.ownBlock = some g ∨ wx.heap.size ≤ g) → wpList Tryd.prog ops Q rest (a.put o.dst (.slice (some ⟨g, 0, none⟩) (xs.length + 1) cap)) W) :
    wpList Tryd.prog ops Q (o :: rest) a (wx.alloc (.cells crow T)) := by
  subst hcs
  obtain ⟨i0, hi0, hz0, hz1, hz2⟩ := info_parts hin
  refine wpList_append_lies _ hgd s' x' t ho base T i0 _ 2 24 ht hi0 hz0 hz1 hz2 rfl (by decide) v xs.length (xs.flatMap srow) hs (World.ownsRow.alloc h _) ⟨wx.heap.size, 0, none⟩ 1 1 (srow x) hx rfl ?_ (by intro u hu; simp only [srow, List.mem_cons, List.not_mem_nil, or_false] at hu; rcases hu with rfl | rfl <;> rfl) (by decide) (by unfold maxLen; omega) (by omega) (by simp; omega) _ rfl ?_
  · exact World.news_of_block (cs := (srow x).toArray) (t := T) (fr := (0, 0)) (by show (wx.heap.push _)[wx.heap.size]? = _; simp)
  · intro g cap W hown hg hat hlt
    refine hk g cap W ?_ ((World.grownBy_alloc _ _ _).trans hg) (hat.imp id fun e => by rw [e]; simp)
    rw [List.length_append, List.flatMap_append]
    simpa using hown
theorem sy_pushS (ht : Tryd.prog.underlying t = some (.slice T)) (hin : (Tryd.prog.info? T).map (fun i => (i.zero, i.size, i.bytes)) = some (some (.agg #[.string ⟨#[]⟩, .int .i64 0]), 2, 24))
    (h : wx.ownsRow base T 2 v xs.length (xs.flatMap srow)) (hb0 : base ≤ wx.heap.size) (x : Sy) {ops : Array Oper} {o : Oper} {a : Act} {K : Act → World → Prop} {Q : Exit → Act → World → Prop} {E : Prop} (hgd : o.guard = none) (s' x' : Operand)
    (ho : o.op = .call { callee := .builtin .append, args := #[s', x'], argTypes := #[t, t] }) (crow : Array Value) (hcs : crow = (srow x).toArray)
    (hs : a.eval s' = v) (hx : a.eval x' = .slice (some ⟨wx.heap.size, 0, none⟩) 1 1) (hbd : xs.length ≤ 100000)
    (hk : ∀ g cap W, W.ownsRow base T 2 (.slice (some ⟨g, 0, none⟩) (xs.length + 1) cap) (xs ++ [x]).length ((xs ++ [x]).flatMap srow) → wx.grownBy W v.ownBlock → (v.ownBlock = some g ∨ wx.heap.size ≤ g) → K (a.put o.dst (.slice (some ⟨g, 0, none⟩) (xs.length + 1) cap)) W) :
    if Region.wanted o (yielded ops a.tmps) = true then Oper.wp Tryd.prog o a (wx.alloc (.cells crow T)) K Q else E := by
  subst hcs
  obtain ⟨i0, hi0, hz0, hz1, hz2⟩ := info_parts hin
  refine step_append_lies _ hgd s' x' t ho base T i0 _ 2 24 ht hi0 hz0 hz1 hz2 rfl (by decide) v xs.length (xs.flatMap srow) hs (World.ownsRow.alloc h _) ⟨wx.heap.size, 0, none⟩ 1 1 (srow x) hx rfl ?_ (by intro u hu; simp only [srow, List.mem_cons, List.not_mem_nil, or_false] at hu; rcases hu with rfl | rfl <;> rfl) (by decide) (by unfold maxLen; omega) (by omega) (by simp; omega) _ rfl ?_
  · exact World.news_of_block (cs := (srow x).toArray) (t := T) (fr := (0, 0)) (by show (wx.heap.push _)[wx.heap.size]? = _; simp)
  · intro g cap W hown hg hat hlt
    refine hk g cap W ?_ ((World.grownBy_alloc _ _ _).trans hg) (hat.imp id fun e => by rw [e]; simp)
    rw [List.length_append, List.flatMap_append]
    simpa using hown
/-- another slice's behind -/
theorem sy_join (ht : Tryd.prog.underlying t = some (.slice T)) (hin : (Tryd.prog.info? T).map (fun i => (i.zero, i.size, i.bytes)) = some (some (.agg #[.string ⟨#[]⟩, .int .i64 0]), 2, 24))
    (h : wx.ownsRow base T 2 v xs.length (xs.flatMap srow)) (hb0 : base ≤ wx.heap.size) {b2 : Nat} {u : Value} {ys : List Sy} (k : wx.ownsRow b2 T 2 u ys.length (ys.flatMap srow)) {ops : Array Oper} {rest : List Oper} {o : Oper} {a : Act} {Q : Exit → Act → World → Prop} (hgd : o.guard = none) (s' x' : Operand)
    (ho : o.op = .call { callee := .builtin .append, args := #[s', x'], argTypes := #[t, t] }) (hs : a.eval s' = v) (hx : a.eval x' = u) (hbd : xs.length + ys.length ≤ 100000)
    (hk : ∀ v' W, W.ownsRow base T 2 v' (xs ++ ys).length ((xs ++ ys).flatMap srow) → wx.grownBy W v.ownBlock → (v'.ownBlock = v.ownBlock ∨ v'.ownBlock = some wx.heap.size) → wpList Tryd.prog ops Q rest (a.put o.dst v') W) :
    wpList Tryd.prog ops Q (o :: rest) a wx := by
  obtain ⟨i0, hi0, hz0, hz1, hz2⟩ := info_parts hin
  obtain ⟨kl, ⟨ku, k0⟩ | ⟨g, cap, cur, ku, hg, hh, h3, h4, h5, h6⟩⟩ := k
  · refine wpList_append_own_none hgd s' x' t ho base T i0 2 ht hi0 v xs.length _ hs h (hx.trans ku) ?_
    have : ys = [] := List.eq_nil_of_length_eq_zero k0
    subst this
    refine hk v wx (by rw [List.append_nil]; exact h) (World.grownBy.refl _ _) (.inl rfl)
  · refine wpList_append_own_at _ hgd s' x' t ho base T i0 _ 2 24 ht hi0 hz0 hz1 hz2 rfl (by decide) v xs.length _ hs h ⟨g, 0, none⟩ ys.length cap (ys.flatMap srow) (hx.trans ku) kl ?_ (srow_one ys) (by unfold maxLen; omega) (by omega) hb0 ?_
    · intro j y hy
      rw [← h6] at hy
      have hadd : (⟨g, 0, none⟩ : Addr).add j = ⟨g, j, none⟩ := by unfold Addr.add; split <;> simp_all
      rw [hadd]
      rw [List.getElem?_take] at hy
      split at hy
      · simp only [World.cell?, hh]
        simpa using hy
      · cases hy
    · intro v' W hown hgr _ hat
      refine hk v' W ?_ hgr hat
      rw [List.length_append, List.flatMap_append]
      exact hown
end
/-- the cells of one of them -/
theorem sy_at {T : TypeId} {base : Nat} {w W : World} {v : Value} {xs : List Sy} (h : w.ownsRow base T 2 v xs.length (xs.flatMap srow)) (hW : ∀ b, v.ownBlock = some b → W.heap[b]? = w.heap[b]?) {q : Nat} {x : Sy} (hx : xs[q]? = some x) :
    ∃ g c, v = .slice (some ⟨g, 0, none⟩) xs.length c ∧ base ≤ g ∧ g < w.heap.size ∧ W.cell? ⟨g, q * 2, none⟩ = some (.string (mkB x.1)) ∧ W.cell? ⟨g, q * 2 + 1, none⟩ = some (.int .i64 x.2) := by
  have hq := (List.getElem?_eq_some_iff.1 hx).1
  obtain ⟨kl, ⟨ku, k0⟩ | ⟨g, cap, cur, ku, hg, hh, h3, h4, h5, h6⟩⟩ := h
  · omega
  · have hb := hW g (by rw [ku]; rfl)
    have key : ∀ i u, (srow x)[i]? = some u → i < 2 → W.cell? ⟨g, q * 2 + i, none⟩ = some u := by
      intro i u hu hi
      have e := flat_at (k := 2) (row := srow) (fun _ => rfl) xs q x i hi hx
      rw [← h6, List.getElem?_take, if_pos (by omega), hu] at e
      rw [World.cell?_of_block hb]
      simp only [World.cell?, hh]
      simpa using e
    exact ⟨g, cap, ku, hg, (Array.getElem?_eq_some_iff.1 hh).1, key 0 _ rfl (by decide), key 1 _ rfl (by decide)⟩
theorem allL_len : ∀ (f : Nat) (a : List UInt8) (ds : List Dc), (allL f a ds).length ≤ ctL f ds
  | 0, a, ds => by simp [allL]
  | f + 1, a, [] => by simp [allL]
  | f + 1, a, d :: t => by
    rw [allL_cons, ctL_cons]
    have h1 := allL_len f (a ++ d.name ++ [46]) d.inner
    have h2 := allL_len (f + 1) a t
    simp only [List.length_cons, List.length_append]
    unfold ctD
    omega
theorem ct_take (f : Nat) (ds : List Dc) {j : Nat} {d : Dc} (hd : ds[j]? = some d) : ctL (f + 1) (ds.take j) + ctD f d ≤ ctL (f + 1) ds := by
  have e : ds = ds.take j ++ d :: ds.drop (j + 1) := by
    have hj := (List.getElem?_eq_some_iff.1 hd).1
    have := (List.getElem?_eq_some_iff.1 hd).2
    rw [← this, ← List.drop_eq_getElem_cons hj, List.take_append_drop]
  have key : ∀ a b : List Dc, ctL (f + 1) (a ++ b) = ctL (f + 1) a + ctL (f + 1) b := by
    intro a b
    simp [ctL]
  rw [e, key, ctL_cons]
  rw [← e]
  omega
theorem all_take (f : Nat) (a : List UInt8) (ds : List Dc) {j : Nat} {d : Dc} (hd : ds[j]? = some d) : allL (f + 1) a (ds.take (j + 1)) = allL (f + 1) a (ds.take j) ++ [(a ++ d.name, d.kind)] ++ allL f (a ++ d.name ++ [46]) d.inner := by
  rw [List.take_add_one, hd]
  exact allL_snoc f a d (ds.take j)
set_option maxHeartbeats 16000000 in
set_option maxRecDepth 20000 in
theorem allR_any : ∀ (f : Nat) (ds : List Dc) (v : Value) (a : List UInt8) (w : World), FitD f ds → TxtD f ds → a.length + 200000001 * ctL f ds ≤ 1000000000000 → HeldD f w (fun b => b < w.heap.size) v ds →
    Calls Tryd.prog 19 #[v, .string (mkB a)] w fun e w' => ∃ rv, e = .returned rv ∧ w'.ownsRow w.heap.size 32 2 rv (allL f a ds).length ((allL f a ds).flatMap srow) ∧ Below w.heap.size w w' := by
  intro f
  induction f with
  | zero =>
    rintro ds v a w _ _ _ ⟨rfl, ad, c, rfl⟩
    go_enter Tryd.func19, Tryd.ntmps19
    go_wp2_with fail
    go_loopw [5, 10] (fun v i wr => v = .slice none 0 0 ∧ i = .int .i64 0 ∧ wr = w) (fun _ _ _ => 0)
    case atStart => exact ⟨rfl, rfl, rfl⟩
    case round =>
      obtain ⟨rfl, rfl, hwr⟩ := hrel
      subst hwr
      go_wp2_with fail
      go_ret
      exact ⟨_, rfl, World.ownsRow_nil _ _ _ _, Below.refl _ _⟩
  | succ f ih =>
    intro ds v a w hfit htxt hbd hH
    have HFT := Lib.hid hfit
    have HTX := Lib.hid htxt
    have HH := Lib.hid hH
    have hlen := hfit.1
    have HBD := Lib.hid hbd
    obtain ⟨ad, c, rfl⟩ := hH.isSlD
    obtain ⟨n, hn⟩ : ∃ n, ds.length = n := ⟨_, rfl⟩
    have HN := Lib.hid hn
    rw [hn] at hlen ⊢
    clear hfit htxt hbd hH hn
    go_enter Tryd.func19, Tryd.ntmps19
    go_wp2_with fail
    go_loopw [5, 10] (fun v i wr => ∃ j : Nat, i = .int .i64 (j : Int) ∧ j ≤ n ∧ Below w.heap.size w wr ∧ wr.ownsRow w.heap.size 32 2 v (allL (f + 1) a (ds.take j)).length ((allL (f + 1) a (ds.take j)).flatMap srow)) (fun _ i _ => n - (intOf i).toNat)
    case atStart => exact ⟨0, rfl, by omega, Below.refl _ _, by rw [List.take_zero]; exact World.ownsRow_nil _ _ _ _⟩
    case round =>
      generalize wr = w1 at *
      obtain ⟨j, rfl, hj, hbel, hown⟩ := hrel
      obtain ⟨oa, oc, hov⟩ := own_slice hown
      subst hov
      have HO := Lib.hid hown
      have HB := Lib.hid hbel
      clear hown hbel
      by_cases hjn : j < n
      · obtain ⟨d, hd⟩ : ∃ d, ds[j]? = some d := ⟨_, List.getElem?_eq_getElem (by have := HN.out; omega)⟩
        have hct := ct_take f ds hd
        have hdm := List.mem_of_getElem? hd
        have hfd := HFT.out.2 d hdm
        have htd := HTX.out d hdm
        have hn1 := htd.1
        have hal1 := allL_len (f + 1) a (ds.take j)
        have hal2 := allL_len f (a ++ d.name ++ [46]) d.inner
        have hbd := HBD.out
        have hcd : ctD f d = 1 + d.fields.length + d.values.length + d.methods.length + ctL f d.inner := rfl
        have HAT := Lib.hid (all_take f a ds hd)
        obtain ⟨X, hX⟩ : ∃ X, allL (f + 1) a (ds.take j) = X := ⟨_, rfl⟩
        obtain ⟨I, hI⟩ : ∃ I, allL f (a ++ d.name ++ [46]) d.inner = I := ⟨_, rfl⟩
        obtain ⟨g, o, c0, fa, fc, va, vc, ma, mc, ia, ic, hsl, hg, e0, e1, -, -, -, -, -, e7, kd⟩ := decl_at HH.out (W := w1) (fun b hb => HB.out.block b hb) hd
        rw [HN.out] at hsl
        obtain ⟨rfl, rfl⟩ : ad = some ⟨g, o, none⟩ ∧ c = c0 := by
          injection hsl with h1 _ h3
          exact ⟨h1, h3⟩
        have hgw : g < w.heap.size := hg
        have hsw := HB.out.size
        have HKD := Lib.hid kd.2.2.2
        have hrec := fun (W : World) (hW : Below w.heap.size w W) => ih d.inner (.slice ia d.inner.length ic) (a ++ d.name ++ [46]) W hfd.2.2.2 htd.2.2.2.2 (by simp only [List.length_append, List.length_cons, List.length_nil]; omega) ((HeldD.old (fun b hb => (hW.block b hb).trans (HB.out.block b hb).symm) HKD.out).more fun b hb => by have := hW.size; have hb' : b < w.heap.size := hb; omega)
        rw [hI] at hrec hal2 HAT
        rw [hX] at HO hal1 HAT ⊢
        have HRC := Lib.hid hrec
        have zb : (mkB a).size = a.length := mkB_size a
        have zn : (mkB d.name).size = d.name.length := mkB_size _
        have s1 := sumS (mkB a) (mkB d.name) 1000000000000 (by omega) (by omega)
        have s2 := sumS (mkB (a ++ d.name)) ⟨#[46]⟩ 2000000000000 (by rw [mkB_size, List.length_append]; omega) (by show _ + 1 ≤ _; omega)
        have HE1 : Hid (mkB a ++ mkB d.name = mkB (a ++ d.name)) := (mkB_cat _ _).symm
        have HE2 : Hid (mkB (a ++ d.name) ++ ⟨#[46]⟩ = mkB (a ++ d.name ++ [46])) := by
          refine (?_ : _ = _)
          show mkB (a ++ d.name) ++ mkB [46] = _
          rw [← mkB_cat]
        have hj0 : (0 : Int) ≤ (j : Int) := by omega
        have hj1 : (j : Int) < (n : Int) := by omega
        have hwq : IntKind.i64.wrap ((j : Int) + 1) = (j : Int) + 1 := by rw [IntKind.wrap_i64]; omega
        have hXl : X.length ≤ 5000 := by omega
        have hIl : I.length ≤ ctL f d.inner := hal2
        have hcl : ctL f d.inner ≤ 5000 := by omega
        clear hX hI hd hdm hfd htd hct hal1 hal2 hbd hcd kd hsl hrec hn1 zb zn
        go_upto_region 6 with fail
        rw [HE1.out]
        go_wp2_with (at_builtin; refine sy_pushL (T := 32) Tryd.underlying29 infoSR HO.out (by omega) (a ++ d.name, d.kind) rfl _ _ rfl _ rfl rfl rfl (by omega) ?_)
        intro g2 cap2 W2 hown2 hgr2 hat2
        have HO2 : Hid (W2.ownsRow w.heap.size 32 2 (.slice (some ⟨g2, 0, none⟩) (X.length + 1) cap2) (X ++ [(a ++ d.name, d.kind)]).length ((X ++ [(a ++ d.name, d.kind)]).flatMap srow)) := by
          refine (?_ : World.ownsRow _ _ _ _ _ _ _)
          rw [List.length_append, List.flatMap_append]
          simpa using hown2
        have hb2 : Below w.heap.size w W2 := HB.out.grown hgr2 hsw (fun b hb => (own_block HO.out b hb).1)
        have HB2 := Lib.hid hb2
        have e7' : W2.cell? ⟨g, o + j * 8 + 7, none⟩ = some (.slice ia d.inner.length ic) := by
          rw [hb2.cell hgw, ← HB.out.cell hgw]; exact e7
        have hsz2 := hb2.size
        clear hown2 hgr2 hat2 e7 e0 e1 s1 hb2
        go_wp2_with fail
        rw [HE2.out]
        refine (HRC.out W2 HB2.out).mono ?_
        rintro e W3 ⟨rv, rfl, hown3, hb3⟩
        have HO3 : Hid (W3.ownsRow w.heap.size 32 2 (.slice (some ⟨g2, 0, none⟩) (X.length + 1) cap2) (X ++ [(a ++ d.name, d.kind)]).length ((X ++ [(a ++ d.name, d.kind)]).flatMap srow)) := own_keep HO2.out (fun b hb => hb3.block b (own_block HO2.out b hb).2)
        have HR3 := Lib.hid hown3
        have HB3 := Lib.hid (HB2.out.trans (hb3.mono hsz2))
        obtain ⟨ra, rc, hrv⟩ := own_slice hown3
        subst hrv
        clear hown3 hb3 e7' s2
        have hsz3 := HB3.out.size
        have hln : (X ++ [(a ++ d.name, d.kind)]).length = X.length + 1 := by simp
        go_wp2_with (at_builtin; refine sy_join (T := 32) Tryd.underlying29 infoSR HO3.out (by omega) HR3.out rfl _ _ rfl rfl rfl (by rw [hln]; omega) ?_)
        intro v4 W4 hown4 hgr4 hat4
        have HO4 : Hid (W4.ownsRow w.heap.size 32 2 v4 (X ++ [(a ++ d.name, d.kind)] ++ I).length ((X ++ [(a ++ d.name, d.kind)] ++ I).flatMap srow)) := by
          refine (?_ : World.ownsRow _ _ _ _ _ _ _)
          first | exact hown4 | simpa using hown4
        have HB4 := Lib.hid (HB3.out.grown hgr4 hsz3 (fun b hb => (own_block HO3.out b hb).1))
        clear hown4 hgr4 hat4
        go_wp2_with fail
        go_roundw
        case rel => exact ⟨j + 1, by go_num, by omega, HB4.out, by rw [HAT.out]; exact HO4.out⟩
        case measure => simp [intOf]; omega
      · have hjn' : ¬ (j : Int) < (n : Int) := by omega
        have hje : ds.take j = ds := List.take_of_length_le (by have := HN.out; omega)
        rw [hje] at HO
        go_wp2_with fail
        go_ret
        exact ⟨_, rfl, HO.out, HB.out⟩
set_option maxHeartbeats 1000000 in
theorem AllR_any (f : Nat) (ds : List Dc) (v : Value) (w : World) (hf : FitD f ds) (ht : TxtD f ds) (hc : ctL f ds ≤ 800) (hH : HeldD f w (fun b => b < w.heap.size) v ds) :
    Calls Tryd.prog 11 #[v] w fun e w' => ∃ rv, e = .returned rv ∧ w'.ownsRow w.heap.size 32 2 rv (allL f [] ds).length ((allL f [] ds).flatMap srow) ∧ Below w.heap.size w w' := by
  have h := allR_any f ds v [] w hf ht (by simp; omega) hH
  obtain ⟨ad, c, rfl⟩ := hH.isSlD
  have H := Lib.hid h
  clear hf ht hc hH h
  go_enter Tryd.func11, Tryd.ntmps11
  go_wp2_with fail
  refine H.out.mono ?_
  rintro e w1 ⟨rv, rfl, h1, h2⟩
  have H1 := Lib.hid h1
  obtain ⟨ra, rc, hrv⟩ := own_slice h1
  subst hrv
  clear h1
  go_wp2_with fail
  go_ret
  exact ⟨_, rfl, H1.out, h2⟩
end Go.Proofs.YtglkgcpfdhneeaaDoor
namespace Go.Proofs.YtglkgcpfdhneeaaDoor
set_option linter.unusedVariables false
open Go.ChangeShapes Go.WideShapes Go.ChangeAt Go.RowKit

theorem mk_take (l : List UInt8) (k : Nat) : (mkB l).extract 0 k = mkB (l.take k) := by
  apply ByteArray.ext
  rw [ByteArray.data_extract]
  apply Array.ext'
  rw [Array.toList_extract]
  show List.extract l 0 k = l.take k
  rw [List.extract_eq_take_drop]; simp
theorem mk_drop (l : List UInt8) (k : Nat) : (mkB l).extract k (mkB l).size = mkB (l.drop k) := by
  apply ByteArray.ext
  rw [ByteArray.data_extract, mkB_size]
  apply Array.ext'
  rw [Array.toList_extract]
  show List.extract l k l.length = l.drop k
  rw [List.extract_eq_take_drop]
  exact List.take_of_length_le (by simp)
theorem sl_to (l : List UInt8) (k : Nat) (hk : k ≤ l.length) (W : World) : (Instr.slice 9 (.string (mkB l)) none (some (.int .i64 (k : Int))) none).run Tryd.prog W = .ok (.string (mkB (l.take k))) W := by
  rw [run_slice_string_to_if W 9 _ .i64 (k : Int) Tryd.underlying9, if_pos ⟨by omega, by rw [mkB_size]; omega⟩, Int.toNat_natCast, mk_take]
theorem sl_from (l : List UInt8) (k : Nat) (hk : k ≤ l.length) (W : World) : (Instr.slice 9 (.string (mkB l)) (some (.int .i64 (k : Int))) none none).run Tryd.prog W = .ok (.string (mkB (l.drop k))) W := by
  rw [run_slice_string_from_if W 9 _ .i64 (k : Int) Tryd.underlying9, if_pos ⟨by omega, by rw [mkB_size]; omega⟩, Int.toNat_natCast, mk_drop]
set_option maxHeartbeats 16000000 in
set_option maxRecDepth 20000 in
theorem appendAll_any : ∀ (f : Nat) (ds : List Dc) (v : Value) (a : List UInt8) (base : Nat) (ov : Value) (xs : List Sy) (w : World), FitD f ds → TxtD f ds → a.length + 200000001 * ctL f ds ≤ 1000000000000 → xs.length + ctL f ds ≤ 50000 → HeldD f w (fun b => b < base) v ds → base ≤ w.heap.size →
    w.ownsRow base 33 2 ov xs.length (xs.flatMap srow) →
    Calls Tryd.prog 18 #[ov, .agg #[.string (mkB a), v]] w fun e w' => ∃ rv, e = .returned rv ∧ w'.ownsRow base 33 2 rv (xs ++ allL f a ds).length ((xs ++ allL f a ds).flatMap srow) ∧ w.grownBy w' ov.ownBlock ∧ ∀ b, rv.ownBlock = some b → ov.ownBlock = some b ∨ w.heap.size ≤ b := by
  intro f
  induction f with
  | zero =>
    rintro ds v a base ov xs w _ _ _ _ ⟨rfl, ad, c, rfl⟩ hbw hown
    have HO := Lib.hid hown
    obtain ⟨oa, oc, rfl⟩ := own_slice hown
    clear hown
    go_enter Tryd.func18, Tryd.ntmps18
    go_upto_region 1 with fail
    have hV : (w.alloc (.cells #[.string (mkB a), .slice ad 0 c] 60)).heap[w.heap.size]? = some (.cells #[.string (mkB a), .slice ad 0 c] 60 (0, 0)) := alloc_heap_new _ _
    have HG := Lib.hid (World.grownBy_alloc w (.cells #[.string (mkB a), .slice ad 0 c] 60) (Value.slice oa xs.length oc).ownBlock)
    have HOV := Lib.hid (HO.out.alloc (.cells #[.string (mkB a), .slice ad 0 c] 60))
    generalize (w.alloc (.cells #[.string (mkB a), .slice ad 0 c] 60)) = V at *
    have c1 : V.cell? ⟨w.heap.size, 1, none⟩ = some (.slice ad 0 c) := by simp [World.cell?, hV]
    go_wp2_with fail
    go_loopw [0, 11] (fun v i wr => v = .slice oa xs.length oc ∧ i = .int .i64 0 ∧ wr = V) (fun _ _ _ => 0)
    case atStart => exact ⟨rfl, rfl, rfl⟩
    case round =>
      obtain ⟨rfl, rfl, hwr⟩ := hrel
      subst hwr
      go_wp2_with fail
      go_ret
      exact ⟨_, rfl, by rw [show allL 0 a [] = [] from rfl, List.append_nil]; exact HOV.out, HG.out, fun b hb => .inl hb⟩
  | succ f ih =>
    intro ds v a base ov xs w hfit htxt hbd hxc hH hbw hown
    have HFT := Lib.hid hfit
    have HTX := Lib.hid htxt
    have HH := Lib.hid hH
    have hlen := hfit.1
    have HBD := Lib.hid hbd
    have HXC := Lib.hid hxc
    have HO := Lib.hid hown
    obtain ⟨ad, c, rfl⟩ := hH.isSlD
    obtain ⟨oa, oc, rfl⟩ := own_slice hown
    obtain ⟨n, hn⟩ : ∃ n, ds.length = n := ⟨_, rfl⟩
    have HN := Lib.hid hn
    rw [hn] at hlen ⊢
    clear hfit htxt hbd hH hn hown hxc
    obtain ⟨OB, hOB⟩ : ∃ x, (Value.slice oa xs.length oc).ownBlock = x := ⟨_, rfl⟩
    have HOB : Hid (∀ b, OB = some b → base ≤ b ∧ b < w.heap.size) := fun b hb => own_block HO.out b (hOB.trans hb)
    rw [hOB]
    have HEB := Lib.hid hOB
    obtain ⟨Z, hZ⟩ : ∃ Z, xs ++ allL (f + 1) a ds = Z := ⟨_, rfl⟩
    have HZ := Lib.hid hZ
    rw [hZ]
    clear hOB hZ
    go_enter Tryd.func18, Tryd.ntmps18
    go_upto_region 1 with fail
    have hV : (w.alloc (.cells #[.string (mkB a), .slice ad n c] 60)).heap[w.heap.size]? = some (.cells #[.string (mkB a), .slice ad n c] 60 (0, 0)) := alloc_heap_new _ _
    have HG0 := Lib.hid (World.grownBy_alloc w (.cells #[.string (mkB a), .slice ad n c] 60) OB)
    have HOV := Lib.hid (HO.out.alloc (.cells #[.string (mkB a), .slice ad n c] 60))
    have hVs : (w.alloc (.cells #[.string (mkB a), .slice ad n c] 60)).heap.size = w.heap.size + 1 := by simp
    generalize (w.alloc (.cells #[.string (mkB a), .slice ad n c] 60)) = V at *
    have c1 : V.cell? ⟨w.heap.size, 1, none⟩ = some (.slice ad n c) := by simp [World.cell?, hV]
    have HVB := Lib.hid hV
    have HVS := Lib.hid hVs
    clear hV hVs
    go_wp2_with fail
    clear c1
    go_loopw [0, 11] (fun v i wr => ∃ j : Nat, i = .int .i64 (j : Int) ∧ j ≤ n ∧ V.grownBy wr OB ∧ (∀ b, v.ownBlock = some b → OB = some b ∨ w.heap.size + 1 ≤ b) ∧ wr.ownsRow base 33 2 v (xs ++ allL (f + 1) a (ds.take j)).length ((xs ++ allL (f + 1) a (ds.take j)).flatMap srow)) (fun _ i _ => n - (intOf i).toNat)
    case atStart => exact ⟨0, rfl, by omega, World.grownBy.refl _ _, fun b hb => .inl (HEB.out.symm.trans hb), by rw [List.take_zero, show allL (f + 1) a [] = [] from rfl, List.append_nil]; exact HOV.out⟩
    case round =>
      generalize wr = w1 at *
      obtain ⟨j, rfl, hj, hgr, hat, hown⟩ := hrel
      obtain ⟨pa, pc, hov⟩ := own_slice hown
      subst hov
      have HO1 := Lib.hid hown
      have HG := Lib.hid hgr
      have HAT := Lib.hid hat
      have hs1 : w.heap.size + 1 ≤ w1.heap.size := by have := hgr.size; rw [HVS.out] at this; exact this
      have HBX : Hid (w1.heap[w.heap.size]? = some (.cells #[.string (mkB a), .slice ad n c] 60 (0, 0))) := by
        refine (?_ : _ = _)
        rw [hgr.block w.heap.size (by rw [HVS.out]; omega) (fun e => by have := HOB.out w.heap.size e.symm; omega)]; exact HVB.out
      have HOLD : Hid (∀ b, b < base → w1.heap[b]? = w.heap[b]?) := fun b hb => by
        rw [HG.out.block b (by rw [HVS.out]; omega) (fun e => by have := HOB.out b e.symm; omega)]
        exact HG0.out.block b (by omega) (fun e => by have := HOB.out b e.symm; omega)
      clear hown hgr hat
      by_cases hjn : j < n
      · obtain ⟨d, hd⟩ : ∃ d, ds[j]? = some d := ⟨_, List.getElem?_eq_getElem (by have := HN.out; omega)⟩
        have hct := ct_take f ds hd
        have hdm := List.mem_of_getElem? hd
        have hfd := HFT.out.2 d hdm
        have htd := HTX.out d hdm
        have hn1 := htd.1
        have hal1 := allL_len (f + 1) a (ds.take j)
        have hal2 := allL_len f (a ++ d.name ++ [46]) d.inner
        have hbd := HBD.out
        have hxc := HXC.out
        have hcd : ctD f d = 1 + d.fields.length + d.values.length + d.methods.length + ctL f d.inner := rfl
        have HAL := Lib.hid (all_take f a ds hd)
        obtain ⟨X, hX⟩ : ∃ X, xs ++ allL (f + 1) a (ds.take j) = X := ⟨_, rfl⟩
        obtain ⟨I, hI⟩ : ∃ I, allL f (a ++ d.name ++ [46]) d.inner = I := ⟨_, rfl⟩
        have hXl : X.length + ctL f d.inner + 1 ≤ 50000 := by rw [← hX, List.length_append]; omega
        obtain ⟨g, o, c0, fa, fc, va, vc, ma, mc, ia, ic, hsl, hg, e0, e1, e2, e3, e4, e5, e6, e7, kd⟩ := decl_at HH.out (W := w1) (fun b hb => HOLD.out b hb) hd
        rw [HN.out] at hsl
        obtain ⟨rfl, rfl⟩ : ad = some ⟨g, o, none⟩ ∧ c = c0 := by
          injection hsl with h1 _ h3
          exact ⟨h1, h3⟩
        have hgw : g < base := hg
        have HKD := Lib.hid kd.2.2.2
        obtain ⟨P, hP⟩ : ∃ P, a ++ d.name = P := ⟨_, rfl⟩
        obtain ⟨M, hM⟩ : ∃ M, P ++ [46] = M := ⟨_, rfl⟩
        obtain ⟨X2, hX2⟩ : ∃ X2, X ++ [(P, d.kind)] = X2 := ⟨_, rfl⟩
        obtain ⟨X3, hX3⟩ : ∃ X3, X2 ++ I = X3 := ⟨_, rfl⟩
        rw [hP, hM] at hI hal2
        have hX2l : X2.length = X.length + 1 := by rw [← hX2]; simp
        have hMl : M.length = a.length + d.name.length + 1 := by rw [← hM, ← hP]; simp; omega
        have HAL2 : Hid (xs ++ allL (f + 1) a (ds.take (j + 1)) = X3) := by
          refine (?_ : _ = _)
          rw [HAL.out, hP, hM, ← List.append_assoc, ← List.append_assoc, hX, hI, hX2, hX3]
        rw [hX] at HO1 HAT ⊢
        have zb : (mkB a).size = a.length := mkB_size a
        have zn : (mkB d.name).size = d.name.length := mkB_size _
        have s1 := sumS (mkB a) (mkB d.name) 1000000000000 (by omega) (by omega)
        have s2 := sumS (mkB a ++ mkB d.name) ⟨#[46]⟩ 2000000000000 (by rw [ByteArray.size_append]; omega) (by show _ + 1 ≤ _; omega)
        have HE : Hid (mkB a ++ mkB d.name ++ ⟨#[46]⟩ = mkB M) := by
          refine (?_ : _ = _)
          show mkB a ++ mkB d.name ++ mkB [46] = _
          rw [← mkB_cat, ← mkB_cat, hP, hM]
        obtain ⟨N, hN⟩ : ∃ N, P.length = N := ⟨_, rfl⟩
        have hNb : N ≤ 2000000000000 := by rw [← hN, ← hP, List.length_append]; omega
        have hsl1 := sl_to M N (by rw [← hM]; simp; omega)
        have hMt : M.take N = P := by rw [← hM, List.take_left' hN]
        rw [hMt] at hsl1
        have hz : (mkB M).size = N + 1 := by rw [mkB_size, ← hM, List.length_append, hN]; rfl
        have hw1 : IntKind.i64.wrap (N : Int) = (N : Int) := by rw [IntKind.wrap_i64]; omega
        have hw2 : (0 : Int) ≤ (N : Int) := by omega
        have hex : (mkB M).extract 0 N = mkB P := by rw [mk_take, hMt]
        have hj0 : (0 : Int) ≤ (j : Int) := by omega
        have hj1 : (j : Int) < (n : Int) := by omega
        have hwq : IntKind.i64.wrap ((j : Int) + 1) = (j : Int) + 1 := by rw [IntKind.wrap_i64]; omega
        have hrec := fun (W : World) (ov' : Value) (h1 : HeldD f W (fun b => b < base) (.slice ia d.inner.length ic) d.inner) (h2 : base ≤ W.heap.size) (h3 : W.ownsRow base 33 2 ov' X2.length (X2.flatMap srow)) => ih d.inner (.slice ia d.inner.length ic) M base ov' X2 W hfd.2.2.2 htd.2.2.2.2 (by omega) (by omega) h1 h2 h3
        rw [hI, hX3] at hrec
        have HX2 := Lib.hid hX2
        have HRC := Lib.hid hrec
        have hXb : X.length ≤ 100000 := by omega
        have HN1 := Lib.hid hN
        have b0 : w1.cell? ⟨w.heap.size, 0, none⟩ = some (.string (mkB a)) := by simp [World.cell?, HBX.out]
        have hY : (w1.alloc (.cells #[.int .i64 d.kind, .string (mkB d.name), .int .i64 d.line, .int .i64 d.col, .slice fa d.fields.length fc, .slice va d.values.length vc, .slice ma d.methods.length mc, .slice ia d.inner.length ic] 56)).heap[w1.heap.size]? = some (.cells #[.int .i64 d.kind, .string (mkB d.name), .int .i64 d.line, .int .i64 d.col, .slice fa d.fields.length fc, .slice va d.values.length vc, .slice ma d.methods.length mc, .slice ia d.inner.length ic] 56 (0, 0)) := alloc_heap_new _ _
        have hbY : Below w1.heap.size w1 (w1.alloc (.cells #[.int .i64 d.kind, .string (mkB d.name), .int .i64 d.line, .int .i64 d.col, .slice fa d.fields.length fc, .slice va d.values.length vc, .slice ma d.methods.length mc, .slice ia d.inner.length ic] 56)) := (Below.refl _ w1).alloc (Nat.le_refl _) _
        have HOY := Lib.hid (HO1.out.alloc (.cells #[.int .i64 d.kind, .string (mkB d.name), .int .i64 d.line, .int .i64 d.col, .slice fa d.fields.length fc, .slice va d.values.length vc, .slice ma d.methods.length mc, .slice ia d.inner.length ic] 56))
        clear hX hI hd hdm hfd htd hct hal1 hal2 hbd hxc hcd kd hsl hrec hn1 zb zn hN HAL hP hM hX2 hX3 hX2l hMl hMt
        go_upto_region 4 with fail
        generalize (w1.alloc (.cells #[.int .i64 d.kind, .string (mkB d.name), .int .i64 d.line, .int .i64 d.col, .slice fa d.fields.length fc, .slice va d.values.length vc, .slice ma d.methods.length mc, .slice ia d.inner.length ic] 56)) = Y at *
        have hlY := blk_lt hY
        have y0 : Y.cell? ⟨w1.heap.size, 0, none⟩ = some (.int .i64 d.kind) := by simp [World.cell?, hY]
        have y1 : Y.cell? ⟨w1.heap.size, 1, none⟩ = some (.string (mkB d.name)) := by simp [World.cell?, hY]
        have yb : Y.cell? ⟨w.heap.size, 0, none⟩ = some (.string (mkB a)) := by rw [hbY.cell (show w.heap.size < w1.heap.size by omega)]; exact b0
        have HYB := Lib.hid hbY
        have HYC := Lib.hid hY
        have hsY := hbY.size
        clear e0 e1 e2 e3 e4 e5 e6 e7 b0 hY hbY
        go_upto_region 5 with fail
        rw [HE.out]
        clear s1 s2 yb
        go_region_law (first
          | (refine sy_pushS (T := 33) Tryd.underlying25 infoSP HOY.out.drew (by show base ≤ Y.heap.size; omega) (P, d.kind) rfl _ _ rfl _ rfl rfl rfl hXb ?_; intro g2 cap2 W2 hown2 hgr2 hat2))
        all_goals
          have HO2 : Hid (W2.ownsRow base 33 2 (.slice (some ⟨g2, 0, none⟩) (X.length + 1) cap2) X2.length (X2.flatMap srow)) := by
            refine (?_ : World.ownsRow _ _ _ _ _ _ _)
            rw [← HX2.out]
            first | exact hown2 | (rw [List.length_append, List.flatMap_append]; simpa using hown2)
          have hgY : Y.grownBy W2 (Value.slice pa X.length pc).ownBlock := ⟨hgr2.os, hgr2.tape, hgr2.output, hgr2.size, hgr2.block⟩
          have hY2 : W2.heap[w1.heap.size]? = some (.cells #[.int .i64 d.kind, .string (mkB d.name), .int .i64 d.line, .int .i64 d.col, .slice fa d.fields.length fc, .slice va d.values.length vc, .slice ma d.methods.length mc, .slice ia d.inner.length ic] 56 (0, 0)) := by
            rw [hgY.block _ hlY (fun e => by have := own_block HO1.out _ e.symm; omega)]; exact HYC.out
          have y7 : W2.cell? ⟨w1.heap.size, 7, none⟩ = some (.slice ia d.inner.length ic) := by simp [World.cell?, hY2]
          have hg12 : w1.grownBy W2 (Value.slice pa X.length pc).ownBlock := World.grownBy.trans ⟨HYB.out.os, HYB.out.tape, HYB.out.output, HYB.out.size, fun k hk _ => HYB.out.block k hk⟩ hgY
          have hgV2 : V.grownBy W2 OB := grow_then HG.out hg12 (fun b hb => (HAT.out b hb).symm.imp (fun h => by rw [HVS.out]; exact h) id)
          have HG2 := Lib.hid hgV2
          have HA2 : Hid (∀ b, (Value.slice (some ⟨g2, 0, none⟩) (X.length + 1) cap2).ownBlock = some b → OB = some b ∨ w.heap.size + 1 ≤ b) := fun b hb => by
            have hb' : g2 = b := Option.some.inj hb
            subst hb'
            rcases hat2 with e | e
            · exact HAT.out _ e
            · right
              have e' : Y.heap.size ≤ g2 := e
              omega
          have HH2 : Hid (HeldD f W2 (fun b => b < base) (.slice ia d.inner.length ic) d.inner) := HeldD.old (fun b hb => hg12.block b (by have hb' : b < base := hb; omega) (fun e => by have := own_block HO1.out b e.symm; have hb' : b < base := hb; omega)) HKD.out
          have hs2 : w1.heap.size ≤ W2.heap.size := hg12.size
          clear hown2 hgr2 hat2 hgY hY2 hg12 hgV2 y0 y1 hsl1 hz hw1 hw2 hex
          go_wp2_with fail
          refine (HRC.out W2 _ HH2.out (by omega) HO2.out).mono ?_
          rintro e W3 ⟨rv, rfl, hown3, hgr3, hat3⟩
          have HO3 := Lib.hid hown3
          have HG3 : Hid (V.grownBy W3 OB) := grow_then HG2.out hgr3 (fun b hb => (HA2.out b hb).symm.imp (fun h => by rw [HVS.out]; exact h) id)
          have HA3 : Hid (∀ b, rv.ownBlock = some b → OB = some b ∨ w.heap.size + 1 ≤ b) := fun b hb => by
            rcases hat3 b hb with e | e
            · exact HA2.out b e
            · right; omega
          obtain ⟨ra, rc, hrv⟩ := own_slice hown3
          subst hrv
          clear hown3 hgr3 hat3 y7
          go_wp2_with fail
          go_roundw
          case rel => exact ⟨j + 1, by go_num, by omega, HG3.out, HA3.out, by rw [HAL2.out]; exact HO3.out⟩
          case measure => simp [intOf]; omega
      · have hjn' : ¬ (j : Int) < (n : Int) := by omega
        have hje : ds.take j = ds := List.take_of_length_le (by have := HN.out; omega)
        rw [hje, HZ.out] at HO1 HAT ⊢
        have HGE : Hid (w.grownBy w1 OB) := HG0.out.trans HG.out
        go_wp2_with fail
        go_ret
        exact ⟨_, rfl, HO1.out, HGE.out, fun b hb => (HAT.out b hb).imp id fun h => by omega⟩
set_option maxHeartbeats 1000000 in
theorem AllP_any (f : Nat) (ds : List Dc) (v : Value) (w : World) (hf : FitD f ds) (ht : TxtD f ds) (hc : ctL f ds ≤ 800) (hH : HeldD f w (fun b => b < w.heap.size) v ds) :
    Calls Tryd.prog 9 #[v] w fun e w' => ∃ rv, e = .returned rv ∧ w'.ownsRow w.heap.size 33 2 rv (allL f [] ds).length ((allL f [] ds).flatMap srow) ∧ Below w.heap.size w w' := by
  have h := appendAll_any f ds v [] w.heap.size (.slice none 0 0) [] w hf ht (by simp; omega) (by simp; omega) hH (Nat.le_refl _) (World.ownsRow_nil _ _ _ _)
  obtain ⟨ad, c, rfl⟩ := hH.isSlD
  have H := Lib.hid h
  clear hf ht hc hH h
  go_enter Tryd.func9, Tryd.ntmps9
  go_wp2_with fail
  refine H.out.mono ?_
  rintro e w1 ⟨rv, rfl, h1, h2, h3⟩
  rw [List.nil_append] at h1
  have H1 := Lib.hid h1
  have H2 : Hid (Below w.heap.size w w1) := ⟨h2.os, h2.tape, h2.output, h2.size, fun k hk => h2.block k hk (by intro e; cases e)⟩
  obtain ⟨ra, rc, hrv⟩ := own_slice h1
  subst hrv
  clear h1 h2 h3
  go_wp2_with fail
  go_ret
  exact ⟨_, rfl, H1.out, H2.out⟩
end Go.Proofs.YtglkgcpfdhneeaaDoor
