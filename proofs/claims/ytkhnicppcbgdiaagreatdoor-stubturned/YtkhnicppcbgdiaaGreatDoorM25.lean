/-
  Formed schemas as plain data. Nothing is proved of the program here.
-/
import Derived.Test.YtkhnicppcbgdiaaGreatDoorM22
namespace Go.Proofs.YtkhnicppcbgdiaaGreatDoor
set_option linter.unusedVariables false

/-- all of the first ones hold -/
def allB (g : Nat → Bool) : Nat → Bool
  | 0 => true
  | n + 1 => allB g n && g n
theorem allB_step {g : Nat → Bool} {j : Nat} (h : allB g j = true) (hx : g j = true) : allB g (j + 1) = true := by rw [allB, h, hx]; rfl
theorem allB_no {g : Nat → Bool} {j n : Nat} (hx : g j = false) (hn : j < n) : allB g n = false := by
  induction n with
  | zero => omega
  | succ n ih =>
    rw [allB]
    by_cases h : j = n
    · subst h; rw [hx, Bool.and_false]
    · rw [ih (by omega), Bool.false_and]
theorem allB_iff {g : Nat → Bool} : ∀ {n : Nat}, allB g n = true ↔ ∀ j, j < n → g j = true
  | 0 => by simp [allB]
  | n + 1 => by
    rw [allB, Bool.and_eq_true, allB_iff]
    constructor
    · rintro ⟨h1, h2⟩ j hj
      by_cases h : j = n
      · subst h; exact h2
      · exact h1 j (by omega)
    · intro h
      exact ⟨fun j hj => h j (by omega), h n (by omega)⟩
/-- the list's element there, if it is there, is good -/
def atB {α : Type} (l : List α) (g : Nat → α → Bool) (k : Nat) : Bool := match l[k]? with
  | some x => g k x
  | none => true
theorem atB_some {α : Type} {l : List α} {g : Nat → α → Bool} {k : Nat} {x : α} (h : l[k]? = some x) : atB l g k = g k x := by unfold atB; rw [h]
def allA {α : Type} (l : List α) (g : Nat → α → Bool) : Bool := allB (atB l g) l.length
theorem allA_iff {α : Type} {l : List α} {g : Nat → α → Bool} : allA l g = true ↔ ∀ (k : Nat) (x : α), l[k]? = some x → g k x = true := by
  unfold allA
  rw [allB_iff]
  constructor
  · intro h k x hx
    have := h k (List.getElem?_eq_some_iff.1 hx).1
    rwa [atB_some hx] at this
  · intro h j hj
    obtain ⟨x, hx⟩ : ∃ x, l[j]? = some x := ⟨_, List.getElem?_eq_getElem hj⟩
    rw [atB_some hx]; exact h j x hx
def prevN (fs : List FD) : Nat → Int
  | 0 => 0
  | k + 1 => match fs[k]? with
    | some f => f.num
    | none => 0
def typB (ne nm : Nat) (f : FD) : Bool := if f.kind = 9 then decide (0 ≤ f.type ∧ f.type < (ne : Int)) else if f.kind = 10 then decide (0 ≤ f.type ∧ f.type < (nm : Int)) else decide (1 ≤ f.kind ∧ f.kind ≤ 8 ∧ f.type = 0)
def namesF (fs : List FD) (k : Nat) : List (List UInt8) := (fs.take k).map (·.name)
def goodF (ne nm : Nat) (fs : List FD) (k : Nat) (f : FD) : Bool := decide (prevN fs k < f.num) && (fnOK f.num && (plainL f.name && (!decide (f.name ∈ namesF fs k) && typB ne nm f)))
def formF (ne nm : Nat) (fs : List FD) : Bool := allA fs (goodF ne nm fs)
def namesV (vs : List VD) (k : Nat) : List (List UInt8) := (vs.take k).map (·.name)
def numsV (vs : List VD) (k : Nat) : List Int := (vs.take k).map (·.num)
def goodV (vs : List VD) (k : Nat) (v : VD) : Bool := numOK v.num && (!decide (v.num ∈ numsV vs k) && (plainL v.name && !decide (v.name ∈ namesV vs k)))
def formV (vs : List VD) : Bool := allA vs (goodV vs)
def zeroV (vs : List VD) : Bool := match vs[0]? with
  | some v => decide (v.num = 0)
  | none => false
def pairsT (ts : List TD) (k : Nat) : List (List UInt8 × List UInt8) := (ts.take k).map fun t => (t.service, t.name)
def inB (nm : Nat) (n : Int) : Bool := decide (0 ≤ n ∧ n < (nm : Int))
def goodT (nm : Nat) (ts : List TD) (k : Nat) (t : TD) : Bool := decide (t.id = (k : Int) + 1) && (plainL t.service && (plainL t.name && (!decide ((t.service, t.name) ∈ pairsT ts k) && (inB nm t.inp && inB nm t.out))))
def formT (nm : Nat) (ts : List TD) : Bool := allA ts (goodT nm ts)
def namesS (s : SC) : List (List UInt8) := s.ms.map (·.name) ++ s.es.map (·.name)
def goodN (ns : List (List UInt8)) (k : Nat) (x : List UInt8) : Bool := pathOK x && !decide (x ∈ ns.take k)
def formN (ns : List (List UInt8)) : Bool := allA ns (goodN ns)
def goodM (ne nm : Nat) (k : Nat) (m : MD) : Bool := decide (m.fields.length ≤ 32) && formF ne nm m.fields
def formM (ne nm : Nat) (ms : List MD) : Bool := allA ms (goodM ne nm)
def goodE (k : Nat) (e : ED) : Bool := zeroV e.values && formV e.values
def formE (es : List ED) : Bool := allA es goodE
def lenB (s : SC) : Bool := decide (s.ms.length ≤ 64 ∧ s.es.length ≤ 64 ∧ s.ts.length ≤ 64)
/-- all but rings -/
def formS (s : SC) : Bool := lenB s && (formN (namesS s) && (formM s.es.length s.ms.length s.ms && (formE s.es && formT s.ms.length s.ts)))
def FormS (s : SC) : Prop := formS s = true ∧ ∀ i, i < s.ms.length → ¬ Ring s.ms i
theorem namesF_step {fs : List FD} {k : Nat} {f : FD} (h : fs[k]? = some f) : namesF fs (k + 1) = namesF fs k ++ [f.name] := by unfold namesF; rw [take_snoc h, List.map_append]; rfl
theorem namesV_step {fs : List VD} {k : Nat} {f : VD} (h : fs[k]? = some f) : namesV fs (k + 1) = namesV fs k ++ [f.name] := by unfold namesV; rw [take_snoc h, List.map_append]; rfl
theorem numsV_step {fs : List VD} {k : Nat} {f : VD} (h : fs[k]? = some f) : numsV fs (k + 1) = numsV fs k ++ [f.num] := by unfold numsV; rw [take_snoc h, List.map_append]; rfl
theorem pairsT_step {fs : List TD} {k : Nat} {f : TD} (h : fs[k]? = some f) : pairsT fs (k + 1) = pairsT fs k ++ [(f.service, f.name)] := by unfold pairsT; rw [take_snoc h, List.map_append]; rfl
theorem prevN_step {fs : List FD} {k : Nat} {f : FD} (h : fs[k]? = some f) : prevN fs (k + 1) = f.num := by rw [prevN, h]
theorem namesF_len (fs : List FD) (k : Nat) : (namesF fs k).length ≤ k := by unfold namesF; rw [List.length_map, List.length_take]; omega
theorem namesV_len (fs : List VD) (k : Nat) : (namesV fs k).length ≤ k := by unfold namesV; rw [List.length_map, List.length_take]; omega
theorem numsV_len (fs : List VD) (k : Nat) : (numsV fs k).length ≤ k := by unfold numsV; rw [List.length_map, List.length_take]; omega
theorem pairsT_len (fs : List TD) (k : Nat) : (pairsT fs k).length ≤ k := by unfold pairsT; rw [List.length_map, List.length_take]; omega
end Go.Proofs.YtkhnicppcbgdiaaGreatDoor
