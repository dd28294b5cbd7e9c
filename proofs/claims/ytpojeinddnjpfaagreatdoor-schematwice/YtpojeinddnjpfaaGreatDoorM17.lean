/-
  What the program's own Find answers, as plain functions; and what that is where no two declarations have one whole name. Nothing is proved of the program here.
  Where no two declarations have one whole name, and they are formed, what the program's Find answers is what the document's says. Plain functions: nothing is proved of the program here.
  Schemas as plain data, and what the document's rounds say of declarations. Nothing is proved of the program here.
  The walks over the program's own Same of declarations.
-/
import Derived.Test.YtpojeinddnjpfaaGreatDoorM16
import Derived.Test.YtpojeinddnjpfaaGreatDoorM2
import Derived.Test.YtpojeinddnjpfaaGreatDoorProg
import Derived.Deep.Cut
import Derived.Deep.DeepCutAuto
import Derived.Lib.SlicesS
namespace Go.Proofs.YtpojeinddnjpfaaGreatDoor
set_option linter.unusedVariables false

abbrev Rm := List UInt8 × List Dc
def headed (n t : List UInt8) : Bool := (n ++ [46]).isPrefixOf t
def goP (rec : List UInt8 → List Dc → Option (Dc × List Rm)) (a : List UInt8) (all : List Dc) (wh : List UInt8) : List Dc → Option (Dc × List Rm)
 | [] => none
 | d :: t => if d.name = wh.drop a.length then some (d, [(a, all)])
   else if headed d.name (wh.drop a.length) = true then
    match rec (wh.take (a.length + d.name.length + 1)) d.inner with
    | some (x, o) => some (x, o ++ [(a, all)])
    | none => goP rec a all wh t
   else goP rec a all wh t
def firstP : Nat → List UInt8 → List Dc → List UInt8 → Option (Dc × List Rm)
 | 0, _, _, _ => none
 | f + 1, a, ds, wh => goP (fun a' ds' => firstP f a' ds' wh) a ds wh ds
def meantP (f : Nat) (top : List Dc) (a : List UInt8) (ds : List Dc) (n : List UInt8) : Option Dc :=
 if ds.any (fun d => decide (d.name = n)) = true then
  match firstP f [] top (a ++ n) with
  | some (d, _) => if d.kind = 1 ∨ d.kind = 2 then some d else none
  | none => none
 else none
def aroundP (f : Nat) (top : List Dc) (sc : List UInt8) : Option (List Rm) :=
 if sc = [] then some [([], top)] else
  match firstP f [] top sc with
  | some (d, o) => if d.kind = 1 then some ((sc ++ [46], d.inner) :: o) else none
  | none => none
def followP (f : Nat) (top : List Dc) : Dc → List UInt8 → List (List UInt8) → Option Sy
 | d, wh, [] => some (wh, d.kind)
 | d, wh, n :: t => match meantP f top (wh ++ [46]) d.inner n with
  | some x => followP f top x (wh ++ 46 :: n) t
  | none => none
def searchP (f : Nat) (top : List Dc) (n0 : List UInt8) (ns : List (List UInt8)) : List Rm → Option Sy
 | [] => none
 | r :: t => match meantP f top r.1 r.2 n0 with
  | some d => followP f top d (r.1 ++ n0) ns
  | none => searchP f top n0 ns t
def findQ (f : Nat) (top : List Dc) (rs : List Rm) : List (List UInt8) → Option Sy
 | [] => none
 | n0 :: ns => searchP f top n0 ns rs
def findP (f : Nat) (top : List Dc) (sc path : List UInt8) : Option Sy :=
 if pathOK path = true then
  match aroundP f top sc with
  | some rs => findQ f top rs (pcs [] path)
  | none => none
 else none
theorem goP_cons (rec : List UInt8 → List Dc → Option (Dc × List Rm)) (a : List UInt8) (all : List Dc) (wh : List UInt8) (d : Dc) (t : List Dc) : goP rec a all wh (d :: t) =
  if d.name = wh.drop a.length then some (d, [(a, all)])
   else if headed d.name (wh.drop a.length) = true then
    match rec (wh.take (a.length + d.name.length + 1)) d.inner with
    | some (x, o) => some (x, o ++ [(a, all)])
    | none => goP rec a all wh t
   else goP rec a all wh t := rfl
theorem firstP_succ (f : Nat) (a : List UInt8) (ds : List Dc) (wh : List UInt8) : firstP (f + 1) a ds wh = goP (fun a' ds' => firstP f a' ds' wh) a ds wh ds := rfl

/-! the first one, among all -/
def locL : Nat → List UInt8 → List Dc → List (List UInt8 × Dc)
 | 0, _, _ => []
 | f + 1, a, ds => ds.flatMap fun d => (a ++ d.name, d) :: locL f (a ++ d.name ++ [46]) d.inner
theorem loc_all : ∀ (f : Nat) (a : List UInt8) (ds : List Dc), allL f a ds = (locL f a ds).map fun x => (x.1, x.2.kind)
 | 0, a, ds => rfl
 | f + 1, a, ds => by
  rw [allL, locL, List.map_flatMap]
  congr 1
  funext d
  rw [List.map_cons, ← loc_all f]
theorem loc_pre : ∀ (f : Nat) (a : List UInt8) (ds : List Dc) (x : List UInt8 × Dc), x ∈ locL f a ds → a <+: x.1
 | 0, a, ds, x, h => by simp [locL] at h
 | f + 1, a, ds, x, h => by
  rw [locL, List.mem_flatMap] at h
  obtain ⟨d, hd, h⟩ := h
  rcases List.mem_cons.1 h with rfl | h
  ·exact List.prefix_append _ _
  ·have := loc_pre f _ _ x h
   rw [List.append_assoc] at this
   exact (List.prefix_append a _).trans this
theorem headed_iff (n t : List UInt8) : headed n t = true ↔ ∃ r, t = n ++ 46 :: r := by
 unfold headed
 rw [List.isPrefixOf_iff_prefix]
 constructor
 ·rintro ⟨r, h⟩; exact ⟨r, by rw [← h]; simp⟩
 ·rintro ⟨r, h⟩; exact ⟨r, by rw [h]; simp⟩
theorem first_loc : ∀ (f : Nat) (a : List UInt8) (ds : List Dc) (r : List UInt8), (firstP f a ds (a ++ r)).map (·.1) = ((locL f a ds).find? fun x => decide (x.1 = a ++ r)).map (·.2)
 | 0, a, ds, r => rfl
 | f + 1, a, ds, r => by
  have ih := first_loc f
  rw [firstP_succ, locL]
  have key : ∀ (all t : List Dc), (goP (fun a' ds' => firstP f a' ds' (a ++ r)) a all (a ++ r) t).map (·.1) = ((t.flatMap fun d => (a ++ d.name, d) :: locL f (a ++ d.name ++ [46]) d.inner).find? fun x => decide (x.1 = a ++ r)).map (·.2) := by
   intro all t
   induction t with
   | nil => rfl
   | cons d t iht =>
    rw [goP_cons, List.flatMap_cons, List.drop_left, List.cons_append, List.find?_cons]
    by_cases h0 : d.name = r
    ·rw [if_pos h0]
     have : decide (((a ++ d.name, d) : List UInt8 × Dc).1 = a ++ r) = true := by simp [h0]
     rw [this]; rfl
    ·rw [if_neg h0]
     have : decide (((a ++ d.name, d) : List UInt8 × Dc).1 = a ++ r) = false := by simp [h0]
     rw [this, List.find?_append]
     dsimp only
     by_cases h1 : headed d.name r = true
     ·rw [if_pos h1]
      obtain ⟨r', hr'⟩ := (headed_iff _ _).1 h1
      have e1 : a ++ r = (a ++ d.name ++ [46]) ++ r' := by rw [hr']; simp
      have e2 : (a ++ r).take (a.length + d.name.length + 1) = a ++ d.name ++ [46] := by
       rw [e1, List.take_left' (by simp; omega)]
      rw [e2]
      have hi := ih (a ++ d.name ++ [46]) d.inner r'
      rw [← e1] at hi
      cases hf : firstP f (a ++ d.name ++ [46]) d.inner (a ++ r) with
      | none =>
       rw [hf] at hi
       have hn : ((locL f (a ++ d.name ++ [46]) d.inner).find? fun x => decide (x.1 = a ++ r)) = none := by
        cases hz : ((locL f (a ++ d.name ++ [46]) d.inner).find? fun x => decide (x.1 = a ++ r)) with
        | none => rfl
        | some z => rw [hz] at hi; simp at hi
       rw [hn, Option.none_or]
       exact iht
      | some z =>
       rw [hf] at hi
       obtain ⟨x, o⟩ := z
       cases hz : ((locL f (a ++ d.name ++ [46]) d.inner).find? fun x => decide (x.1 = a ++ r)) with
       | none => rw [hz] at hi; simp at hi
       | some y =>
        rw [hz] at hi
        rw [Option.some_or]
        exact hi
     ·rw [if_neg h1]
      have hn : ((locL f (a ++ d.name ++ [46]) d.inner).find? fun x => decide (x.1 = a ++ r)) = none := by
       rw [List.find?_eq_none]
       intro x hx he
       have he : x.1 = a ++ r := by simpa using he
       have hp := loc_pre f _ _ x hx
       rw [he] at hp
       obtain ⟨r', hr'⟩ := hp
       apply h1
       rw [headed_iff]
       refine ⟨r', ?_⟩
       rw [List.append_assoc, List.append_assoc, List.append_cancel_left_eq] at hr'
       rw [← hr']; simp
      rw [hn, Option.none_or]
      exact iht
  exact key ds ds
theorem first_one {f : Nat} {top : List Dc} (h : Apart (allL f [] top)) {x : List UInt8 × Dc} (hx : x ∈ locL f [] top) : ∃ o, firstP f [] top x.1 = some (x.2, o) := by
 have hl := first_loc f [] top x.1
 rw [List.nil_append] at hl
 obtain ⟨j, hj⟩ := List.getElem?_of_mem hx
 have hall := loc_all f [] top
 cases hz : (locL f [] top).find? fun y => decide (y.1 = x.1) with
 | none =>
  rw [List.find?_eq_none] at hz
  exact absurd (by simp) (hz x hx)
 | some y =>
  have h1 : y.1 = x.1 := by
   have := List.find?_some hz
   simpa using this
  obtain ⟨i, hi⟩ := List.getElem?_of_mem (List.mem_of_find?_eq_some hz)
  have hij : i = j := h i j (y.1, y.2.kind) (x.1, x.2.kind) (by rw [hall, List.getElem?_map, hi]; rfl) (by rw [hall, List.getElem?_map, hj]; rfl) h1
  subst hij
  rw [hi] at hj
  have hyx : y = x := Option.some.inj hj
  rw [hz, hyx] at hl
  cases hf : firstP f [] top x.1 with
  | none => rw [hf] at hl; simp at hl
  | some z =>
   rw [hf] at hl
   obtain ⟨z1, o⟩ := z
   have : z1 = x.2 := by simpa using hl
   exact ⟨o, by rw [this]⟩
end Go.Proofs.YtpojeinddnjpfaaGreatDoor
namespace Go.Proofs.YtpojeinddnjpfaaGreatDoor
set_option linter.unusedVariables false

def locR : Nat → List UInt8 → List Dc → List (List UInt8 × Dc × Rm)
 | 0, _, _ => []
 | f + 1, a, ds => ds.flatMap fun d => (a ++ d.name, d, (a, ds)) :: locR f (a ++ d.name ++ [46]) d.inner
theorem locR_loc : ∀ (f : Nat) (a : List UInt8) (ds : List Dc), locL f a ds = (locR f a ds).map fun x => (x.1, x.2.1)
 | 0, a, ds => rfl
 | f + 1, a, ds => by
  rw [locL, locR, List.map_flatMap]
  congr 1
  funext d
  rw [List.map_cons, ← locR_loc f]
theorem locR_in : ∀ (f : Nat) (a : List UInt8) (ds : List Dc) (x : List UInt8 × Dc × Rm), x ∈ locR f a ds → x.1 = x.2.2.1 ++ x.2.1.name ∧ x.2.1 ∈ x.2.2.2 ∧ (x.2.2 = (a, ds) ∨ ∃ y ∈ locR f a ds, x.2.2 = (y.1 ++ [46], y.2.1.inner))
 | 0, a, ds, x, h => by simp [locR] at h
 | f + 1, a, ds, x, h => by
  rw [locR, List.mem_flatMap] at h
  obtain ⟨d, hd, h⟩ := h
  rcases List.mem_cons.1 h with rfl | h
  ·exact ⟨rfl, hd, .inl rfl⟩
  ·obtain ⟨h1, h2, h3⟩ := locR_in f _ _ x h
   refine ⟨h1, h2, .inr ?_⟩
   rcases h3 with h3 | ⟨y, hy, h3⟩
   ·exact ⟨(a ++ d.name, d, (a, ds)), by rw [locR, List.mem_flatMap]; exact ⟨d, hd, List.mem_cons_self⟩, h3⟩
   ·exact ⟨y, by rw [locR, List.mem_flatMap]; exact ⟨d, hd, List.mem_cons_of_mem _ hy⟩, h3⟩
theorem locR_name : ∀ (f k : Nat) (a : List UInt8) (ds : List Dc), fmL f k ds = true → ∀ x ∈ locR f a ds, plainL x.2.1.name = true
 | 0, k, a, ds, _, x, h => by simp [locR] at h
 | f + 1, k, a, ds, hfm, x, h => by
  rw [fmL_succ, List.all_eq_true] at hfm
  rw [locR, List.mem_flatMap] at h
  obtain ⟨d, hd, h⟩ := h
  rcases List.mem_cons.1 h with rfl | h
  ·exact (fmD_parts (hfm d hd)).1
  ·exact locR_name f (k + 1) _ _ (fm_inner (hfm d hd)) x h
def Dotted (a : List UInt8) : Prop := a = [] ∨ ∃ b, a = b ++ [46]
theorem dot_in {b' a c : List UInt8} (hc : c ≠ []) (h : b' ++ [46] = a ++ c) : (46 : UInt8) ∈ c := by
 rcases List.eq_nil_or_concat c with rfl | ⟨c', x, rfl⟩
 ·exact absurd rfl hc
 ·rw [List.concat_eq_append, ← List.append_assoc] at h
  have := (List.append_inj' h rfl).2
  have hx : (46 : UInt8) = x := by simpa using this
  rw [hx]; simp
theorem dot_cut {a b n m : List UInt8} (ha : Dotted a) (hb : Dotted b) (hn : (46 : UInt8) ∉ n) (hm : (46 : UInt8) ∉ m) (h : a ++ n = b ++ m) : a = b ∧ n = m := by
 rcases List.append_eq_append_iff.1 h with ⟨c, h1, h2⟩ | ⟨c, h1, h2⟩
 ·by_cases hc : c = []
  ·subst hc; simp at h1 h2; exact ⟨h1.symm, h2⟩
  ·exfalso
   rcases hb with hb | ⟨b', hb⟩
   ·rw [hb] at h1
    have := congrArg List.length h1
    simp at this
    exact hc (List.eq_nil_of_length_eq_zero (by omega))
   ·rw [hb] at h1
    exact hn (by rw [h2]; exact List.mem_append_left _ (dot_in hc h1))
 ·by_cases hc : c = []
  ·subst hc; simp at h1 h2; exact ⟨h1, h2.symm⟩
  ·exfalso
   rcases ha with ha | ⟨b', ha⟩
   ·rw [ha] at h1
    have := congrArg List.length h1
    simp at this
    exact hc (List.eq_nil_of_length_eq_zero (by omega))
   ·rw [ha] at h1
    exact hm (by rw [h2]; exact List.mem_append_left _ (dot_in hc h1))
def ahead (S : List UInt8) : List UInt8 := if S = [] then [] else S ++ [46]
theorem ahead_dotted (S : List UInt8) : Dotted (ahead S) := by
 unfold ahead
 split
 ·exact .inl rfl
 ·exact .inr ⟨S, rfl⟩
theorem want_ahead (S n : List UInt8) : wantL S n = ahead S ++ n := by
 unfold wantL ahead
 split <;> simp
section
variable {F : Nat} {top : List Dc}
def Sited (F : Nat) (top : List Dc) (S : List UInt8) (r : Rm) : Prop := (S = [] ∧ r = ([], top)) ∨ ∃ x ∈ locR F [] top, S = x.1 ∧ r = (x.1 ++ [46], x.2.1.inner)
theorem locR_ne (hfm : fmL F 0 top = true) {x : List UInt8 × Dc × Rm} (hx : x ∈ locR F [] top) : x.1 ≠ [] := by
 intro e
 have h1 := (locR_in F [] top x hx).1
 have hp := locR_name F 0 [] top hfm x hx
 rw [e] at h1
 have hn : x.2.1.name = [] := (List.append_eq_nil_iff.1 h1.symm).2
 rw [hn] at hp
 revert hp
 decide +kernel
theorem Sited.ahead (hfm : fmL F 0 top = true) {S : List UInt8} {r : Rm} (h : Sited F top S r) : r.1 = ahead S := by
 rcases h with ⟨rfl, rfl⟩ | ⟨x, hx, rfl, rfl⟩
 ·rfl
 ·have := locR_ne hfm hx
  unfold Go.Proofs.YtpojeinddnjpfaaGreatDoor.ahead
  rw [if_neg this]
theorem locR_room {x : List UInt8 × Dc × Rm} (hx : x ∈ locR F [] top) : ∃ S, Sited F top S x.2.2 := by
 rcases (locR_in F [] top x hx).2.2 with h | ⟨y, hy, h⟩
 ·exact ⟨[], .inl ⟨rfl, h⟩⟩
 ·exact ⟨y.1, .inr ⟨y, hy, rfl, h⟩⟩
theorem one_loc (hL : Apart (allL F [] top)) {x y : List UInt8 × Dc × Rm} (hx : x ∈ locR F [] top) (hy : y ∈ locR F [] top) (h : x.1 = y.1) : x = y := by
 obtain ⟨i, hi⟩ := List.getElem?_of_mem hx
 obtain ⟨j, hj⟩ := List.getElem?_of_mem hy
 have hall : allL F [] top = (locR F [] top).map fun x => (x.1, x.2.1.kind) := by rw [loc_all, locR_loc, List.map_map]; rfl
 have hij := hL i j (x.1, x.2.1.kind) (y.1, y.2.1.kind) (by rw [hall, List.getElem?_map, hi]; rfl) (by rw [hall, List.getElem?_map, hj]; rfl) h
 subst hij
 rw [hi] at hj
 exact Option.some.inj hj
theorem meant_eq (hfm : fmL F 0 top = true) (hL : Apart (allL F [] top)) {S : List UInt8} {r : Rm} (hs : Sited F top S r) {n : List UInt8} (hn : (46 : UInt8) ∉ n) :
  (∃ x ∈ locR F [] top, x.1 = r.1 ++ n ∧ meantP F top r.1 r.2 n = some x.2.1 ∧ innerL (allL F [] top) S n = some (x.1, x.2.1.kind)) ∨ (meantP F top r.1 r.2 n = none ∧ innerL (allL F [] top) S n = none) := by
 have ha := hs.ahead hfm
 have hall : allL F [] top = (locR F [] top).map fun x => (x.1, x.2.1.kind) := by rw [loc_all, locR_loc, List.map_map]; rfl
 by_cases hex : ∃ x ∈ locR F [] top, x.1 = r.1 ++ n
 ·obtain ⟨x, hx, hxn⟩ := hex
  obtain ⟨h1, h2, _⟩ := locR_in F [] top x hx
  obtain ⟨S', hs'⟩ := locR_room hx
  have ha' := hs'.ahead hfm
  have hnx : (46 : UInt8) ∉ x.2.1.name := no_dot (plainL_name (locR_name F 0 [] top hfm x hx)).1
  obtain ⟨e1, e2⟩ := dot_cut (by rw [ha']; exact ahead_dotted S') (by rw [ha]; exact ahead_dotted S) hnx hn (h1.symm.trans hxn)
  -- the room is this one
  have hroom : x.2.2 = r := by
   rcases hs with ⟨rfl, rfl⟩ | ⟨y, hy, rfl, rfl⟩
   ·rcases hs' with ⟨_, h⟩ | ⟨z, hz, _, h⟩
    ·exact h
    ·rw [h] at e1; simp at e1
   ·rcases hs' with ⟨_, h⟩ | ⟨z, hz, _, h⟩
    ·rw [h] at e1; simp at e1
    ·rw [h] at e1
     have hzy : z.1 = y.1 := by simpa using e1
     have := one_loc hL hz hy hzy
     rw [h, this]
  have hany : r.2.any (fun d => decide (d.name = n)) = true := by
   rw [List.any_eq_true]
   exact ⟨x.2.1, by rw [← hroom]; exact h2, by simp [e2]⟩
  have hxl : ((x.1, x.2.1) : List UInt8 × Dc) ∈ locL F [] top := by rw [locR_loc]; exact List.mem_map.2 ⟨x, hx, rfl⟩
  obtain ⟨o, ho⟩ := first_one hL hxl
  have ho : firstP F [] top (r.1 ++ n) = some (x.2.1, o) := by rw [← hxn]; exact ho
  have hfi : firstL (allL F [] top) (wantL S n) = some (x.1, x.2.1.kind) := by
   rw [want_ahead, ← ha, ← hxn]
   exact first_apart (x := (x.1, x.2.1.kind)) hL (by rw [hall]; exact List.mem_map.2 ⟨x, hx, rfl⟩)
  by_cases hk : x.2.1.kind = 1 ∨ x.2.1.kind = 2
  ·left
   refine ⟨x, hx, hxn, ?_, ?_⟩
   ·unfold meantP
    rw [if_pos hany, ho]
    exact if_pos hk
   ·unfold innerL
    rw [hfi]
    have : meant (x.1, x.2.1.kind) = true := by unfold meant; rw [decide_eq_true_iff]; exact hk
    simp [Option.filter, this]
  ·right
   refine ⟨?_, ?_⟩
   ·unfold meantP
    rw [if_pos hany, ho]
    exact if_neg hk
   ·unfold innerL
    rw [hfi]
    have : meant (x.1, x.2.1.kind) = false := by unfold meant; rw [decide_eq_false_iff_not]; exact hk
    simp [Option.filter, this]
 ·right
  have hno : ∀ y ∈ locR F [] top, y.1 ≠ r.1 ++ n := fun y hy e => hex ⟨y, hy, e⟩
  refine ⟨?_, ?_⟩
  ·unfold meantP
   have hf : firstP F [] top (r.1 ++ n) = none := by
    have := first_loc F [] top (r.1 ++ n)
    rw [List.nil_append] at this
    cases hz : firstP F [] top (r.1 ++ n) with
    | none => rfl
    | some z =>
     exfalso
     rw [hz] at this
     cases hq : (locL F [] top).find? fun x => decide (x.1 = r.1 ++ n) with
     | none => rw [hq] at this; simp at this
     | some q =>
      have h1 := List.find?_some hq
      have h2 := List.mem_of_find?_eq_some hq
      rw [locR_loc, List.mem_map] at h2
      obtain ⟨y, hy, rfl⟩ := h2
      exact hno y hy (by simpa using h1)
   rw [hf]
   split <;> rfl
  ·unfold innerL
   have : firstL (allL F [] top) (wantL S n) = none := by
    unfold firstL
    rw [List.find?_eq_none]
    intro y hy he
    rw [hall, List.mem_map] at hy
    obtain ⟨z, hz, rfl⟩ := hy
    have he : z.1 = wantL S n := by simpa using he
    rw [want_ahead, ← ha] at he
    exact hno z hz he
   rw [this]; rfl
theorem up_dot (b n : List UInt8) (hn : (46 : UInt8) ∉ n) : upL (b ++ 46 :: n) = b := by
 unfold upL
 rw [List.reverse_append, List.reverse_cons, List.append_assoc]
 rw [List.dropWhile_append_of_pos (by
  intro x hx
  have : x ∈ n := List.mem_reverse.1 hx
  rw [decide_eq_true_iff]
  intro e
  exact hn (e ▸ this))]
 rw [show [46] ++ b.reverse = (46 : UInt8) :: b.reverse from rfl, List.dropWhile_cons_of_neg (by simp)]
 simp
theorem up_none (n : List UInt8) (hn : (46 : UInt8) ∉ n) : upL n = [] := by
 unfold upL
 have : n.reverse.dropWhile (fun b => decide (b ≠ 46)) = [] := by
  have := List.dropWhile_append_of_pos (p := fun b : UInt8 => decide (b ≠ 46)) (l₁ := n.reverse) (l₂ := []) (by
   intro x hx
   rw [decide_eq_true_iff]
   intro e
   exact hn (e ▸ List.mem_reverse.1 hx))
  rw [List.append_nil] at this
  rw [this]; rfl
 rw [this]; rfl
theorem up_ahead (S n : List UInt8) (hn : (46 : UInt8) ∉ n) : upL (ahead S ++ n) = S := by
 unfold ahead
 split
 ·rename_i h
  rw [h, List.nil_append]
  exact up_none n hn
 ·rw [List.append_assoc]
  exact up_dot S n hn
theorem follow_eq (hfm : fmL F 0 top = true) (hL : Apart (allL F [] top)) : ∀ (ns : List (List UInt8)), (∀ n ∈ ns, (46 : UInt8) ∉ n) → ∀ x ∈ locR F [] top, followP F top x.2.1 x.1 ns = walkL (allL F [] top) (x.1, x.2.1.kind) ns
 | [], _, x, hx => rfl
 | n :: t, hn, x, hx => by
  have hs : Sited F top x.1 (x.1 ++ [46], x.2.1.inner) := .inr ⟨x, hx, rfl, rfl⟩
  show (match meantP F top (x.1 ++ [46]) x.2.1.inner n with | some y => followP F top y (x.1 ++ 46 :: n) t | none => none) = (match innerL (allL F [] top) x.1 n with | some y => walkL (allL F [] top) y t | none => none)
  rcases meant_eq hfm hL hs (hn n List.mem_cons_self) with ⟨y, hy, h1, h2, h3⟩ | ⟨h2, h3⟩
  ·have h2 : meantP F top (x.1 ++ [46]) x.2.1.inner n = some y.2.1 := h2
   rw [h2, h3]
   have h1 : y.1 = x.1 ++ [46] ++ n := h1
   have e : x.1 ++ 46 :: n = y.1 := by rw [h1]; simp
   show followP F top y.2.1 (x.1 ++ 46 :: n) t = walkL (allL F [] top) (y.1, y.2.1.kind) t
   rw [e]
   exact follow_eq hfm hL t (fun m hm => hn m (List.mem_cons_of_mem _ hm)) y hy
  ·have h2 : meantP F top (x.1 ++ [46]) x.2.1.inner n = none := h2
   rw [h2, h3]
def GoodR (F : Nat) (top : List Dc) : List UInt8 → List Rm → Prop
 | S, [] => False
 | S, r :: t => Sited F top S r ∧ ((S = [] ∧ t = []) ∨ (S ≠ [] ∧ GoodR F top (upL S) t))
theorem search_eq (hfm : fmL F 0 top = true) (hL : Apart (allL F [] top)) (n0 : List UInt8) (ns : List (List UInt8)) (h0 : (46 : UInt8) ∉ n0) (hns : ∀ n ∈ ns, (46 : UInt8) ∉ n) : ∀ (rs : List Rm) (S : List UInt8), GoodR F top S rs → searchP F top n0 ns rs = climbL (allL F [] top) n0 ns (S.length + 1) S
 | [], S, h => h.elim
 | r :: t, S, h => by
  obtain ⟨hs, ht⟩ := h
  rw [climb_step]
  show (match meantP F top r.1 r.2 n0 with | some d => followP F top d (r.1 ++ n0) ns | none => searchP F top n0 ns t) = _
  rcases meant_eq hfm hL hs h0 with ⟨y, hy, h1, h2, h3⟩ | ⟨h2, h3⟩
  ·rw [h2, h3]
   show followP F top y.2.1 (r.1 ++ n0) ns = walkL (allL F [] top) (y.1, y.2.1.kind) ns
   rw [← h1]
   exact follow_eq hfm hL ns hns y hy
  ·rw [h2, h3]
   show searchP F top n0 ns t = if S = [] then none else climbL (allL F [] top) n0 ns ((upL S).length + 1) (upL S)
   rcases ht with ⟨h4, h5⟩ | ⟨h4, h5⟩
   ·rw [if_pos h4, h5]; rfl
   ·rw [if_neg h4]
    exact search_eq hfm hL n0 ns h0 hns t (upL S) h5
theorem first_good (hfm : fmL F 0 top = true) : ∀ (f k : Nat) (a : List UInt8) (ds : List Dc) (S : List UInt8) (tail : List Rm), fmL f k ds = true → (∀ x ∈ locR f a ds, x ∈ locR F [] top) → GoodR F top S ((a, ds) :: tail) →
  ∀ (r : List UInt8) (d : Dc) (o : List Rm), firstP f a ds (a ++ r) = some (d, o) → GoodR F top (a ++ r) ((a ++ r ++ [46], d.inner) :: (o ++ tail)) := by
 intro f
 induction f with
 | zero => intro k a ds S tail _ _ _ r d o h; cases h
 | succ f ih =>
  intro k a ds S tail hf hin hg r d o h
  have ha : a = ahead S := hg.1.ahead hfm
  rw [firstP_succ] at h
  rw [fmL_succ, List.all_eq_true] at hf
  have self : ∀ x ∈ ds, (a ++ x.name, x, (a, ds)) ∈ locR F [] top := fun x hx => hin _ (by rw [locR, List.mem_flatMap]; exact ⟨x, hx, List.mem_cons_self⟩)
  have step : ∀ x ∈ ds, (a ++ x.name ≠ []) ∧ upL (a ++ x.name) = S := fun x hx => by
   refine ⟨locR_ne hfm (self x hx), ?_⟩
   rw [ha]
   exact up_ahead S x.name (no_dot (plainL_name (fmD_parts (hf x hx)).1).1)
  have key : ∀ t : List Dc, (∀ x ∈ t, x ∈ ds) → ∀ (d : Dc) (o : List Rm), goP (fun a' ds' => firstP f a' ds' (a ++ r)) a ds (a ++ r) t = some (d, o) → GoodR F top (a ++ r) ((a ++ r ++ [46], d.inner) :: (o ++ tail)) := by
   intro t
   induction t with
   | nil => intro _ d o h; cases h
   | cons x t iht =>
    intro ht d o h
    have hx := ht x List.mem_cons_self
    have ht' : ∀ y ∈ t, y ∈ ds := fun y hy => ht y (List.mem_cons_of_mem _ hy)
    rw [goP_cons, List.drop_left] at h
    split at h
    ·rename_i hnm
     cases h
     rw [← hnm]
     refine ⟨.inr ⟨_, self x hx, rfl, rfl⟩, .inr ⟨(step x hx).1, ?_⟩⟩
     rw [(step x hx).2]
     exact hg
    ·split at h
     ·rename_i hh
      obtain ⟨r', hr'⟩ := (headed_iff _ _).1 hh
      have e1 : a ++ r = (a ++ x.name ++ [46]) ++ r' := by rw [hr']; simp
      have e2 : (a ++ r).take (a.length + x.name.length + 1) = a ++ x.name ++ [46] := by
       rw [e1, List.take_left' (by simp; omega)]
      rw [e2] at h
      cases hz : firstP f (a ++ x.name ++ [46]) x.inner (a ++ r) with
      | none => rw [hz] at h; exact iht ht' d o h
      | some z =>
       obtain ⟨z1, z2⟩ := z
       have hgz := ih (k + 1) (a ++ x.name ++ [46]) x.inner (a ++ x.name) ((a, ds) :: tail) (fm_inner (hf x hx)) (fun y hy => hin y (by rw [locR, List.mem_flatMap]; exact ⟨x, hx, List.mem_cons_of_mem _ hy⟩))
        ⟨.inr ⟨_, self x hx, rfl, rfl⟩, .inr ⟨(step x hx).1, by rw [(step x hx).2]; exact hg⟩⟩ r' z1 z2 (by rw [← e1]; exact hz)
       rw [hz] at h
       cases h
       rw [← e1] at hgz
       rw [List.append_assoc z2 [(a, ds)] tail]
       exact hgz
     ·exact iht ht' d o h
  exact key ds (fun _ h => h) d o h
theorem find_eq (hfm : fmL F 0 top = true) (hL : Apart (allL F [] top)) (sc path : List UInt8) : findP F top sc path = findL (allL F [] top) sc path := by
 unfold findP findL
 by_cases hp : pathOK path = true
 ·rw [if_pos hp, if_pos hp]
  have hpl : ∀ n ∈ pcs [] path, plainL n = true := by
   unfold pathOK at hp
   simp only [Bool.and_eq_true, List.all_eq_true] at hp
   exact fun n hn => hp.2 n hn
  have hnd : ∀ n ∈ pcs [] path, (46 : UInt8) ∉ n := fun n hn => no_dot (plainL_name (hpl n hn)).1
  have hcall : allL F [] top = (locR F [] top).map fun x => (x.1, x.2.1.kind) := by rw [loc_all, locR_loc, List.map_map]; rfl
  have hrun : ∀ rs, GoodR F top sc rs → findQ F top rs (pcs [] path) = findN (allL F [] top) sc (pcs [] path) := by
   intro rs hg
   cases hq : pcs [] path with
   | nil => rfl
   | cons n0 ns =>
    rw [hq] at hnd
    exact search_eq hfm hL n0 ns (hnd n0 List.mem_cons_self) (fun n hn => hnd n (List.mem_cons_of_mem _ hn)) rs sc hg
  by_cases hs : sc = []
  ·subst hs
   have ha : aroundP F top [] = some [([], top)] := rfl
   rw [ha, if_pos (by unfold thereL; simp)]
   exact hrun _ ⟨.inl ⟨rfl, rfl⟩, .inl ⟨rfl, rfl⟩⟩
  ·have hfl := first_loc F [] top sc
   rw [List.nil_append] at hfl
   have hfa : firstL (allL F [] top) sc = ((locL F [] top).find? fun x => decide (x.1 = sc)).map fun x => (x.1, x.2.kind) := by
    unfold firstL
    rw [loc_all, List.find?_map]
    rfl
   unfold aroundP
   rw [if_neg hs]
   cases hq : (locL F [] top).find? fun x => decide (x.1 = sc) with
   | none =>
    rw [hq] at hfl hfa
    cases hz : firstP F [] top sc with
    | some z => rw [hz] at hfl; simp at hfl
    | none =>
     dsimp only
     rw [if_neg (by unfold thereL; rw [hfa]; simp [hs])]
   | some q =>
    have hq1 : q.1 = sc := by have := List.find?_some hq; simpa using this
    rw [hq] at hfl hfa
    cases hz : firstP F [] top sc with
    | none => rw [hz] at hfl; simp at hfl
    | some z =>
     obtain ⟨d, o⟩ := z
     rw [hz] at hfl
     have hd : d = q.2 := by simpa using hfl
     dsimp only
     by_cases hk : d.kind = 1
     ·rw [if_pos hk, if_pos (by unfold thereL; rw [hfa]; simp [hs, ← hd, hk])]
      have hg := first_good hfm F 0 [] top [] [] hfm (fun x hx => hx) ⟨.inl ⟨rfl, rfl⟩, .inl ⟨rfl, rfl⟩⟩ sc d o (by rw [List.nil_append]; exact hz)
      rw [List.nil_append, List.append_nil] at hg
      exact hrun _ hg
     ·rw [if_neg hk, if_neg (by unfold thereL; rw [hfa]; simp [hs, ← hd, hk])]
 ·rw [if_neg hp, if_neg hp]
end
end Go.Proofs.YtpojeinddnjpfaaGreatDoor
namespace Go.Proofs.YtpojeinddnjpfaaGreatDoor
set_option linter.unusedVariables false

structure FD where
 num : Int
 name : List UInt8
 kind : Int
 rep : Bool
 type : Int
structure MD where
 name : List UInt8
 fields : List FD
structure VD where
 name : List UInt8
 num : Int
structure ED where
 name : List UInt8
 values : List VD
structure TD where
 id : Int
 service : List UInt8
 name : List UInt8
 inp : Int
 out : Int
structure SC where
 ms : List MD
 es : List ED
 ts : List TD
def firstS {α : Type} (g : Nat → Option α) : Nat → Option α
 | 0 => none
 | n + 1 => match firstS g n with
  | some x => some x
  | none => g n
theorem firstS_step {α : Type} {g : Nat → Option α} {j : Nat} (h : firstS g j = none) (hx : g j = none) : firstS g (j + 1) = none := by
 rw [firstS, h]; exact hx
theorem firstS_keep {α : Type} {g : Nat → Option α} {j : Nat} {x : α} (h : firstS g j = some x) : ∀ n : Nat, firstS g (j + n) = some x
 | 0 => h
 | n + 1 => by
  have := firstS_keep h n
  rw [← Nat.add_assoc, firstS, this]
theorem firstS_some {α : Type} {g : Nat → Option α} {j n : Nat} {x : α} (h : firstS g j = none) (hx : g j = some x) (hn : j < n) : firstS g n = some x := by
 have h1 : firstS g (j + 1) = some x := by rw [firstS, h]; exact hx
 obtain ⟨k, rfl⟩ : ∃ k, n = j + 1 + k := ⟨n - (j + 1), by omega⟩
 exact firstS_keep h1 k
theorem firstS_none {α : Type} {g : Nat → Option α} : ∀ {n : Nat}, firstS g n = none → ∀ j : Nat, j < n → g j = none
 | 0, _, j, hj => absurd hj (Nat.not_lt_zero _)
 | n + 1, h, j, hj => by
  rw [firstS] at h
  cases e : firstS g n with
  | some x => rw [e] at h; cases h
  | none =>
   rw [e] at h
   by_cases hjn : j = n
   ·subst hjn; exact h
   ·exact firstS_none e j (by omega)
theorem firstS_all {α : Type} {g : Nat → Option α} : ∀ {n : Nat}, (∀ j : Nat, j < n → g j = none) → firstS g n = none
 | 0, _ => rfl
 | n + 1, h => firstS_step (firstS_all fun j hj => h j (by omega)) (h n (by omega))

abbrev Pl := List UInt8 × Dc
def cntK (k : Int) (ps : List Pl) : Nat := (ps.filter fun x => decide (x.2.kind = k)).length
def msum : List Pl → Nat
 | [] => 0
 | x :: t => x.2.methods.length + msum t
theorem cntK_snoc (k : Int) (ps : List Pl) (x : Pl) : cntK k (ps ++ [x]) = cntK k ps + (if x.2.kind = k then 1 else 0) := by
 unfold cntK
 rw [List.filter_append, List.length_append]
 by_cases h : x.2.kind = k <;> simp [h]
theorem msum_snoc : ∀ (ps : List Pl) (x : Pl), msum (ps ++ [x]) = msum ps + x.2.methods.length
 | [], x => by simp [msum]
 | a :: t, x => by
  have := msum_snoc t x
  simp only [List.cons_append, msum]
  omega
theorem take_snoc {α : Type} {l : List α} {j : Nat} {x : α} (h : l[j]? = some x) : l.take (j + 1) = l.take j ++ [x] := by
 rw [List.take_add_one, h]; rfl

def longZ (m : Nat) (d : Dc) : Option (Int × Int) := match d.methods[64 - m]? with
 | some x => some (x.line, x.col)
 | none => none
def longY (m : Nat) (d : Dc) : Option (Int × Int) := match d.fields[32]? with
 | some f => some (f.line, f.col)
 | none => longZ m d
def longX (c1 c2 m : Nat) (d : Dc) : Option (Int × Int) := if 64 < c1 ∨ 64 < c2 then some (d.line, d.col) else longY m d
def longG (ps : List Pl) (i : Nat) : Option (Int × Int) := match ps[i]? with
 | some x => longX (cntK 1 (ps.take (i + 1))) (cntK 2 (ps.take (i + 1))) (msum (ps.take i)) x.2
 | none => none
def askL (d : Dc) : List (List UInt8 × (Int × Int)) := d.fields.map (fun f => (f.name, (f.line, f.col))) ++ (d.values.map (fun f => (f.name, (f.line, f.col))) ++ d.methods.map (fun f => (f.name, (f.line, f.col))))
def dupX (keys : List (List UInt8)) (qs : List (List UInt8 × (Int × Int))) (k : Nat) : Option (Int × Int) := match qs[k]? with
 | some a => if a.1 ∈ keys ++ (qs.take k).map (·.1) then some a.2 else none
 | none => none
def nameX (d : Dc) : Option (Int × Int) := firstS (dupX (d.inner.map (·.name)) (askL d)) (askL d).length
def nameG (ps : List Pl) (i : Nat) : Option (Int × Int) := match ps[i]? with
 | some x => if x.1 ∈ (ps.take i).map (·.1) then some (x.2.line, x.2.col) else nameX x.2
 | none => none
def fnOK (n : Int) : Bool := decide (1 ≤ n ∧ n ≤ 536870911 ∧ (n < 19000 ∨ 19999 < n))
def askN (d : Dc) : List (Int × Bool × (Int × Int)) := d.fields.map (fun f => (f.num, !fnOK f.num, (f.line, f.col))) ++ d.values.mapIdx (fun k v => (v.num, decide (k = 0 ∧ v.num ≠ 0), (v.line, v.col)))
def badX (qs : List (Int × Bool × (Int × Int))) (k : Nat) : Option (Int × Int) := match qs[k]? with
 | some a => if a.2.1 = true ∨ a.1 ∈ (qs.take k).map (·.1) then some a.2.2 else none
 | none => none
def numX (d : Dc) : Option (Int × Int) := if d.kind = 2 ∧ d.values.length = 0 then some (d.line, d.col) else firstS (badX (askN d)) (askN d).length
def numG (ps : List Pl) (i : Nat) : Option (Int × Int) := match ps[i]? with
 | some x => numX x.2
 | none => none
/-! the tables -/
def insF (l : List FD) (x : FD) : List FD := l.takeWhile (fun y => decide (y.num < x.num)) ++ x :: l.dropWhile (fun y => decide (y.num < x.num))
def sortF (xs : List FD) : List FD := xs.foldl insF []
def edOf (x : Pl) : ED := ⟨x.1, x.2.values.map fun v => ⟨v.name, v.num⟩⟩
/-! rings -/
def Goes (ms : List MD) (a b : Nat) : Prop := ∃ m, ms[a]? = some m ∧ ∃ f, f ∈ m.fields ∧ f.kind = 10 ∧ f.rep = false ∧ f.type = (b : Int)
def Ring (ms : List MD) (t : Nat) : Prop := Relation.TransGen (Goes ms) t t
def CycAt (ms : List MD) (ps : List Pl) (n : Nat) (o : Option (Int × Int)) : Prop := match o with
 | none => ∀ (i : Nat) (x : Pl), i < n → ps[i]? = some x → x.2.kind = 1 → ¬ Ring ms (cntK 1 (ps.take i))
 | some p => ∃ (i : Nat) (x : Pl), ps[i]? = some x ∧ x.2.kind = 1 ∧ Ring ms (cntK 1 (ps.take i)) ∧ p = (x.2.line, x.2.col) ∧ ∀ (j : Nat) (y : Pl), j < i → ps[j]? = some y → y.2.kind = 1 → ¬ Ring ms (cntK 1 (ps.take j))
end Go.Proofs.YtpojeinddnjpfaaGreatDoor
namespace Go.Proofs.YtpojeinddnjpfaaGreatDoor
set_option linter.unusedVariables false
open Go.ChangeShapes Go.WideShapes Go.ChangeAt Go.RowKit

theorem RowsIn.isSl {α : Type} {w : World} {S : Nat → Prop} {k : Nat} {row : α → List Value} {v : Value} {xs : List α} (h : RowsIn w S k row v xs) : ∃ ad c, v = .slice ad xs.length c := by
 obtain ⟨ad, c, hv, _⟩ := h; exact ⟨ad, c, hv⟩
theorem HeldD.isSlD {w : World} {S : Nat → Prop} : ∀ {f : Nat} {v : Value} {ds : List Dc}, HeldD f w S v ds → ∃ ad c, v = .slice ad ds.length c
 | 0, v, ds, ⟨h, ad, c, hv⟩ => by subst h; exact ⟨ad, c, hv⟩
 | f + 1, v, ds, h => by obtain ⟨ad, c, hv, _⟩ := h; exact ⟨ad, c, hv⟩
def FitK (f : Nat) (d : Dc) : Prop := d.fields.length ≤ 100000 ∧ d.values.length ≤ 100000 ∧ d.methods.length ≤ 100000 ∧ FitD f d.inner
end Go.Proofs.YtpojeinddnjpfaaGreatDoor
