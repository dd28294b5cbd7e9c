/-
  Where no two declarations have one whole name, and they are formed, what the program's Find answers is what the document's says. Plain functions: nothing is proved of the program here.
  Schemas as plain data, and what the document's rounds say of declarations. Nothing is proved of the program here.
  Rings of messages: what a search that marks what it has seen keeps, as plain functions. Nothing is proved of the program here.
  Formed schemas as plain data. Nothing is proved of the program here.
  Plain words and facts that the walks of this seat share: a row of bytes in memory, what is taken of bytes as a varint, and bounds of the integer kinds. Nothing is proved of the program here.
  The plain arithmetic of varints: the shortest bytes of a number ('vint'), how many they are, and that the number comes back of them ('dec'), whatever stands behind; cut off, it lacks something; with more bytes than it needs it is the same.
  The walks over the program's Take and the document's Take: both answer, of any bytes, the same number, length and error ('dec'), and change nothing. No condition but that a slice has its elements in memory.
-/
import Derived.Test.YteajlfgbmefncaaGreatDoorM0
import Derived.WalkKit
import Derived.ProofKit
import Derived.Lib.VarintBits
import Derived.Below
import Derived.Lib.BitFns
import Derived.Lib.Varint
import Derived.Laws.Bits64b
import Derived.Test.YteajlfgbmefncaaGreatDoorRows
namespace Go.Proofs.YteajlfgbmefncaaGreatDoor
set_option linter.unusedVariables false

/-- what stands ahead of the names in a scope -/
def ahead (S : List UInt8) : List UInt8 := if S = [] then [] else S ++ [46]
end Go.Proofs.YteajlfgbmefncaaGreatDoor
namespace Go.Proofs.YteajlfgbmefncaaGreatDoor
set_option linter.unusedVariables false

structure FD where
  num : Int
  name : List UInt8
  kind : Int
  rep : Bool
  type : Int
structure MD where
  name : List UInt8
  fields : List FD
structure VD where
  name : List UInt8
  num : Int
structure ED where
  name : List UInt8
  values : List VD
structure TD where
  id : Int
  service : List UInt8
  name : List UInt8
  inp : Int
  out : Int
structure SC where
  ms : List MD
  es : List ED
  ts : List TD
theorem take_snoc {α : Type} {l : List α} {j : Nat} {x : α} (h : l[j]? = some x) : l.take (j + 1) = l.take j ++ [x] := by
  rw [List.take_add_one, h]; rfl

def fnOK (n : Int) : Bool := decide (1 ≤ n ∧ n ≤ 536870911 ∧ (n < 19000 ∨ 19999 < n))
/-! the tables -/
/-! rings -/
def Goes (ms : List MD) (a b : Nat) : Prop := ∃ m, ms[a]? = some m ∧ ∃ f, f ∈ m.fields ∧ f.kind = 10 ∧ f.rep = false ∧ f.type = (b : Int)
def Ring (ms : List MD) (t : Nat) : Prop := Relation.TransGen (Goes ms) t t
end Go.Proofs.YteajlfgbmefncaaGreatDoor
namespace Go.Proofs.YteajlfgbmefncaaGreatDoor
set_option linter.unusedVariables false

def Seen (s : List Bool) (x : Nat) : Prop := s[x]? = some true
def DoneR (ms : List MD) (s : List Bool) (x : Nat) : Prop := ∀ y, Goes ms x y → Seen s y
/-- what the search keeps: t is asked, s is marked, wt waits -/
structure RInv (ms : List MD) (t : Nat) (s : List Bool) (wt : List Nat) : Prop where
  len : s.length = ms.length
  reach : ∀ x, Seen s x → Relation.TransGen (Goes ms) t x
  not : ¬ Seen s t
  wait : ∀ x ∈ wt, x < ms.length ∧ (x = t ∨ Seen s x)
  done : ∀ x, (x = t ∨ Seen s x) → x ∈ wt ∨ DoneR ms s x
/-- while the fields of the message c are gone through -/
structure RIn (ms : List MD) (t : Nat) (s : List Bool) (wt : List Nat) (c : Nat) (fs : List FD) (k : Nat) : Prop where
  len : s.length = ms.length
  reach : ∀ x, Seen s x → Relation.TransGen (Goes ms) t x
  not : ¬ Seen s t
  wait : ∀ x ∈ wt, x < ms.length ∧ (x = t ∨ Seen s x)
  done : ∀ x, (x = t ∨ Seen s x) → x ∈ wt ∨ x = c ∨ DoneR ms s x
  cur : c = t ∨ Seen s c
  fields : ∃ m, ms[c]? = some m ∧ m.fields = fs
  part : ∀ f ∈ fs.take k, f.kind = 10 → f.rep = false → ∀ y : Nat, f.type = (y : Int) → Seen s y
theorem rinv_start (ms : List MD) (t : Nat) (ht : t < ms.length) : RInv ms t (List.replicate ms.length false) [t] := by
  have hn : ∀ x, ¬ Seen (List.replicate ms.length false) x := by
    intro x h
    unfold Seen at h
    rw [List.getElem?_replicate] at h
    split at h <;> cases h
  refine ⟨by simp, fun x h => absurd h (hn x), hn t, ?_, ?_⟩
  · intro x hx
    have : x = t := by simpa using hx
    subst this
    exact ⟨ht, .inl rfl⟩
  · intro x hx
    rcases hx with rfl | h
    · exact .inl (by simp)
    · exact absurd h (hn x)
theorem RInv.pop {ms : List MD} {t : Nat} {s : List Bool} {wt : List Nat} {c : Nat} {m : MD} (h : RInv ms t s (wt ++ [c])) (hm : ms[c]? = some m) : RIn ms t s wt c m.fields 0 := by
  refine ⟨h.len, h.reach, h.not, fun x hx => h.wait x (by simp [hx]), ?_, (h.wait c (by simp)).2, ⟨m, hm, rfl⟩, by simp⟩
  intro x hx
  rcases h.done x hx with h1 | h1
  · rcases List.mem_append.1 h1 with h2 | h2
    · exact .inl h2
    · exact .inr (.inl (by simpa using h2))
  · exact .inr (.inr h1)
theorem RIn.skip {ms : List MD} {t : Nat} {s : List Bool} {wt : List Nat} {c : Nat} {fs : List FD} {k : Nat} {f : FD} (h : RIn ms t s wt c fs k) (hf : fs[k]? = some f) (hs : f.kind = 10 → f.rep = false → ∀ y : Nat, f.type = (y : Int) → Seen s y) : RIn ms t s wt c fs (k + 1) := by
  refine ⟨h.len, h.reach, h.not, h.wait, h.done, h.cur, h.fields, ?_⟩
  intro g hg
  rw [take_snoc hf] at hg
  rcases List.mem_append.1 hg with h1 | h1
  · exact h.part g h1
  · have : g = f := by simpa using h1
    subst this; exact hs
theorem seen_set {s : List Bool} {y x : Nat} (hy : y < s.length) : Seen (s.set y true) x ↔ x = y ∨ Seen s x := by
  unfold Seen
  rw [List.getElem?_set]
  by_cases h : y = x
  · subst h; simp [hy]
  · rw [if_neg h]
    constructor
    · exact .inr
    · rintro (e | e)
      · exact absurd e.symm h
      · exact e
theorem RIn.goes {ms : List MD} {t : Nat} {s : List Bool} {wt : List Nat} {c : Nat} {fs : List FD} {k : Nat} {f : FD} {y : Nat} (h : RIn ms t s wt c fs k) (hf : fs[k]? = some f) (h1 : f.kind = 10) (h2 : f.rep = false) (h3 : f.type = (y : Int)) : Relation.TransGen (Goes ms) t y := by
  obtain ⟨m, hm, rfl⟩ := h.fields
  have hg : Goes ms c y := ⟨m, hm, f, List.mem_of_getElem? hf, h1, h2, h3⟩
  rcases h.cur with rfl | hc
  · exact .single hg
  · exact .tail (h.reach c hc) hg
theorem RIn.mark {ms : List MD} {t : Nat} {s : List Bool} {wt : List Nat} {c : Nat} {fs : List FD} {k : Nat} {f : FD} {y : Nat} (h : RIn ms t s wt c fs k) (hf : fs[k]? = some f) (h1 : f.kind = 10) (h2 : f.rep = false) (h3 : f.type = (y : Int)) (hy : y < ms.length) (hyt : y ≠ t) :
    RIn ms t (s.set y true) (wt ++ [y]) c fs (k + 1) := by
  have hyl : y < s.length := by rw [h.len]; exact hy
  have up : ∀ x, Seen s x → Seen (s.set y true) x := fun x hx => (seen_set hyl).2 (.inr hx)
  refine ⟨by simp [h.len], fun x hx => ?_, fun hx => ?_, fun x hx => ?_, fun x hx => ?_, h.cur.imp id (up c), h.fields, ?_⟩
  · rcases (seen_set hyl).1 hx with rfl | hx
    · exact h.goes hf h1 h2 h3
    · exact h.reach x hx
  · rcases (seen_set hyl).1 hx with e | hx
    · exact hyt e.symm
    · exact h.not hx
  · rcases List.mem_append.1 hx with hx | hx
    · exact ⟨(h.wait x hx).1, (h.wait x hx).2.imp id (up x)⟩
    · have : x = y := by simpa using hx
      subst this
      exact ⟨hy, .inr ((seen_set hyl).2 (.inl rfl))⟩
  · have old : ∀ x, (x = t ∨ Seen s x) → x ∈ wt ++ [y] ∨ x = c ∨ DoneR ms (s.set y true) x := fun x hx => by
      rcases h.done x hx with h4 | h4 | h4
      · exact .inl (by simp [h4])
      · exact .inr (.inl h4)
      · exact .inr (.inr fun z hz => up z (h4 z hz))
    rcases hx with e | hx
    · exact old x (.inl e)
    · rcases (seen_set hyl).1 hx with e | hx
      · exact .inl (by simp [e])
      · exact old x (.inr hx)
  · intro g hg
    rw [take_snoc hf] at hg
    rcases List.mem_append.1 hg with hg | hg
    · exact fun a b z hz => up z (h.part g hg a b z hz)
    · have : g = f := by simpa using hg
      subst this
      intro _ _ z hz
      have : z = y := by rw [h3] at hz; omega
      subst this
      exact (seen_set hyl).2 (.inl rfl)
theorem RIn.fin {ms : List MD} {t : Nat} {s : List Bool} {wt : List Nat} {c : Nat} {fs : List FD} {k : Nat} (h : RIn ms t s wt c fs k) (hk : fs.length ≤ k) : RInv ms t s wt := by
  refine ⟨h.len, h.reach, h.not, h.wait, fun x hx => ?_⟩
  rcases h.done x hx with h1 | rfl | h1
  · exact .inl h1
  · right
    intro y hy
    obtain ⟨m, hm, rfl⟩ := h.fields
    obtain ⟨m', hm', f, hf, h1, h2, h3⟩ := hy
    rw [hm] at hm'
    cases hm'
    exact h.part f (by rw [List.take_of_length_le hk]; exact hf) h1 h2 y h3
  · exact .inr h1
theorem RInv.stop {ms : List MD} {t : Nat} {s : List Bool} (h : RInv ms t s []) : ¬ Ring ms t := by
  intro hr
  have key : ∀ x, Relation.TransGen (Goes ms) t x → Seen s x := by
    intro x hx
    induction hx with
    | single hg =>
      rcases h.done t (.inl rfl) with h1 | h1
      · simp at h1
      · exact h1 _ hg
    | tail _ hg ih =>
      rcases h.done _ (.inr ih) with h1 | h1
      · simp at h1
      · exact h1 _ hg
  exact h.not (key t hr)
theorem RIn.found {ms : List MD} {t : Nat} {s : List Bool} {wt : List Nat} {c : Nat} {fs : List FD} {k : Nat} {f : FD} (h : RIn ms t s wt c fs k) (hf : fs[k]? = some f) (h1 : f.kind = 10) (h2 : f.rep = false) (h3 : f.type = (t : Int)) : Ring ms t := h.goes hf h1 h2 h3
/-- how many aren't marked -/
def uns (s : List Bool) : Nat := (s.filter fun b => !b).length
theorem uns_set : ∀ (s : List Bool) (y : Nat), s[y]? = some false → uns (s.set y true) + 1 = uns s
  | [], y, h => by simp at h
  | b :: t, 0, h => by
    have : b = false := by simpa using h
    subst this
    simp [uns]
  | b :: t, y + 1, h => by
    have := uns_set t y (by simpa using h)
    unfold uns at this ⊢
    rw [List.set_cons_succ, List.filter_cons, List.filter_cons]
    cases b <;> simp <;> omega
end Go.Proofs.YteajlfgbmefncaaGreatDoor
namespace Go.Proofs.YteajlfgbmefncaaGreatDoor
set_option linter.unusedVariables false

/-- all of the first ones hold -/
def allB (g : Nat → Bool) : Nat → Bool
  | 0 => true
  | n + 1 => allB g n && g n
theorem allB_step {g : Nat → Bool} {j : Nat} (h : allB g j = true) (hx : g j = true) : allB g (j + 1) = true := by rw [allB, h, hx]; rfl
theorem allB_no {g : Nat → Bool} {j n : Nat} (hx : g j = false) (hn : j < n) : allB g n = false := by
  induction n with
  | zero => omega
  | succ n ih =>
    rw [allB]
    by_cases h : j = n
    · subst h; rw [hx, Bool.and_false]
    · rw [ih (by omega), Bool.false_and]
theorem allB_iff {g : Nat → Bool} : ∀ {n : Nat}, allB g n = true ↔ ∀ j, j < n → g j = true
  | 0 => by simp [allB]
  | n + 1 => by
    rw [allB, Bool.and_eq_true, allB_iff]
    constructor
    · rintro ⟨h1, h2⟩ j hj
      by_cases h : j = n
      · subst h; exact h2
      · exact h1 j (by omega)
    · intro h
      exact ⟨fun j hj => h j (by omega), h n (by omega)⟩
/-- the list's element there, if it is there, is good -/
def atB {α : Type} (l : List α) (g : Nat → α → Bool) (k : Nat) : Bool := match l[k]? with
  | some x => g k x
  | none => true
theorem atB_some {α : Type} {l : List α} {g : Nat → α → Bool} {k : Nat} {x : α} (h : l[k]? = some x) : atB l g k = g k x := by unfold atB; rw [h]
def allA {α : Type} (l : List α) (g : Nat → α → Bool) : Bool := allB (atB l g) l.length
theorem allA_iff {α : Type} {l : List α} {g : Nat → α → Bool} : allA l g = true ↔ ∀ (k : Nat) (x : α), l[k]? = some x → g k x = true := by
  unfold allA
  rw [allB_iff]
  constructor
  · intro h k x hx
    have := h k (List.getElem?_eq_some_iff.1 hx).1
    rwa [atB_some hx] at this
  · intro h j hj
    obtain ⟨x, hx⟩ : ∃ x, l[j]? = some x := ⟨_, List.getElem?_eq_getElem hj⟩
    rw [atB_some hx]; exact h j x hx
def prevN (fs : List FD) : Nat → Int
  | 0 => 0
  | k + 1 => match fs[k]? with
    | some f => f.num
    | none => 0
def typB (ne nm : Nat) (f : FD) : Bool := if f.kind = 9 then decide (0 ≤ f.type ∧ f.type < (ne : Int)) else if f.kind = 10 then decide (0 ≤ f.type ∧ f.type < (nm : Int)) else decide (1 ≤ f.kind ∧ f.kind ≤ 8 ∧ f.type = 0)
def namesF (fs : List FD) (k : Nat) : List (List UInt8) := (fs.take k).map (·.name)
def goodF (ne nm : Nat) (fs : List FD) (k : Nat) (f : FD) : Bool := decide (prevN fs k < f.num) && (fnOK f.num && (plainL f.name && (!decide (f.name ∈ namesF fs k) && typB ne nm f)))
def formF (ne nm : Nat) (fs : List FD) : Bool := allA fs (goodF ne nm fs)
def namesV (vs : List VD) (k : Nat) : List (List UInt8) := (vs.take k).map (·.name)
def numsV (vs : List VD) (k : Nat) : List Int := (vs.take k).map (·.num)
def goodV (vs : List VD) (k : Nat) (v : VD) : Bool := numOK v.num && (!decide (v.num ∈ numsV vs k) && (plainL v.name && !decide (v.name ∈ namesV vs k)))
def formV (vs : List VD) : Bool := allA vs (goodV vs)
def zeroV (vs : List VD) : Bool := match vs[0]? with
  | some v => decide (v.num = 0)
  | none => false
def pairsT (ts : List TD) (k : Nat) : List (List UInt8 × List UInt8) := (ts.take k).map fun t => (t.service, t.name)
def inB (nm : Nat) (n : Int) : Bool := decide (0 ≤ n ∧ n < (nm : Int))
def goodT (nm : Nat) (ts : List TD) (k : Nat) (t : TD) : Bool := decide (t.id = (k : Int) + 1) && (plainL t.service && (plainL t.name && (!decide ((t.service, t.name) ∈ pairsT ts k) && (inB nm t.inp && inB nm t.out))))
def formT (nm : Nat) (ts : List TD) : Bool := allA ts (goodT nm ts)
def namesS (s : SC) : List (List UInt8) := s.ms.map (·.name) ++ s.es.map (·.name)
def goodN (ns : List (List UInt8)) (k : Nat) (x : List UInt8) : Bool := pathOK x && !decide (x ∈ ns.take k)
def formN (ns : List (List UInt8)) : Bool := allA ns (goodN ns)
def goodM (ne nm : Nat) (k : Nat) (m : MD) : Bool := decide (m.fields.length ≤ 32) && formF ne nm m.fields
def formM (ne nm : Nat) (ms : List MD) : Bool := allA ms (goodM ne nm)
def goodE (k : Nat) (e : ED) : Bool := zeroV e.values && formV e.values
def formE (es : List ED) : Bool := allA es goodE
def lenB (s : SC) : Bool := decide (s.ms.length ≤ 64 ∧ s.es.length ≤ 64 ∧ s.ts.length ≤ 64)
/-- all but rings -/
def formS (s : SC) : Bool := lenB s && (formN (namesS s) && (formM s.es.length s.ms.length s.ms && (formE s.es && formT s.ms.length s.ts)))
def FormS (s : SC) : Prop := formS s = true ∧ ∀ i, i < s.ms.length → ¬ Ring s.ms i
theorem namesF_step {fs : List FD} {k : Nat} {f : FD} (h : fs[k]? = some f) : namesF fs (k + 1) = namesF fs k ++ [f.name] := by unfold namesF; rw [take_snoc h, List.map_append]; rfl
theorem namesV_step {fs : List VD} {k : Nat} {f : VD} (h : fs[k]? = some f) : namesV fs (k + 1) = namesV fs k ++ [f.name] := by unfold namesV; rw [take_snoc h, List.map_append]; rfl
theorem numsV_step {fs : List VD} {k : Nat} {f : VD} (h : fs[k]? = some f) : numsV fs (k + 1) = numsV fs k ++ [f.num] := by unfold numsV; rw [take_snoc h, List.map_append]; rfl
theorem pairsT_step {fs : List TD} {k : Nat} {f : TD} (h : fs[k]? = some f) : pairsT fs (k + 1) = pairsT fs k ++ [(f.service, f.name)] := by unfold pairsT; rw [take_snoc h, List.map_append]; rfl
theorem prevN_step {fs : List FD} {k : Nat} {f : FD} (h : fs[k]? = some f) : prevN fs (k + 1) = f.num := by rw [prevN, h]
theorem namesF_len (fs : List FD) (k : Nat) : (namesF fs k).length ≤ k := by unfold namesF; rw [List.length_map, List.length_take]; omega
theorem namesV_len (fs : List VD) (k : Nat) : (namesV fs k).length ≤ k := by unfold namesV; rw [List.length_map, List.length_take]; omega
theorem numsV_len (fs : List VD) (k : Nat) : (numsV fs k).length ≤ k := by unfold numsV; rw [List.length_map, List.length_take]; omega
theorem pairsT_len (fs : List TD) (k : Nat) : (pairsT fs k).length ≤ k := by unfold pairsT; rw [List.length_map, List.length_take]; omega
end Go.Proofs.YteajlfgbmefncaaGreatDoor
namespace Go.Proofs.YteajlfgbmefncaaGreatDoor
set_option linter.unusedVariables false
open Go.ChangeShapes Go.WideShapes Go.ChangeAt Go.RowKit

theorem ret_int {k : IntKind} {a b : Int} (h : a = b) : Ending.returned (.int k a) = .returned (.int k b) := by rw [h]
/-- the bytes zs lie in memory from the address on -/
def Held (w : World) (b off : Nat) (zs : List Int) : Prop :=
  (∀ j z, zs[j]? = some z → w.cell? ⟨b, off + j, none⟩ = some (.int .u8 z)) ∧ ∀ z ∈ zs, 0 ≤ z ∧ z ≤ 255

/-- a slice of bytes, whose elements are zs -/
def IsB (w : World) (a : Option Addr) (len : Nat) (zs : List Int) : Prop :=
  zs.length = len ∧ len ≤ 281474976710656 ∧ (zs = [] ∨ ∃ b off, a = some ⟨b, off, none⟩ ∧ Held w b off zs)

theorem held_at {w : World} {b off : Nat} {zs : List Int} (h : Held w b off zs) {k : Nat} (hk : k < zs.length) :
    ∃ z, w.cell? ⟨b, off + k, none⟩ = some (.int .u8 z) ∧ 0 ≤ z ∧ z ≤ 255 ∧ zs.drop k = z :: zs.drop (k + 1) ∧ zs[k]? = some z := by
  refine ⟨zs[k], h.1 k _ (List.getElem?_eq_getElem hk), (h.2 _ (List.getElem_mem hk)).1, (h.2 _ (List.getElem_mem hk)).2, List.drop_eq_getElem_cons hk, List.getElem?_eq_getElem hk⟩

theorem isB_at {w : World} {a : Option Addr} {len : Nat} {zs : List Int} (h : IsB w a len zs) {k : Nat} (hk : k < len) :
    ∃ b off z, a = some ⟨b, off, none⟩ ∧ w.cell? ⟨b, off + k, none⟩ = some (.int .u8 z) ∧ 0 ≤ z ∧ z ≤ 255 ∧ zs.drop k = z :: zs.drop (k + 1) ∧ zs[k]? = some z := by
  obtain ⟨hl, _, rfl | ⟨b, off, rfl, hh⟩⟩ := h
  · simp at hl; omega
  · obtain ⟨z, h1, h2, h3, h4, h5⟩ := held_at hh (show k < zs.length by omega)
    exact ⟨b, off, z, rfl, h1, h2, h3, h4, h5⟩

/-- what is taken of bytes as a varint, from the k-th byte on: the number, how many bytes, the error's number -/
def dec (X : Int) (k : Nat) : List Int → Int × Int × Int
  | [] => (0, 0, 5)
  | z :: zs => if k = 9 ∧ 1 < z then (0, 0, 2) else
      if z < 128 then (bits .or .u64 X (IntKind.u64.wrap (z % 128 * 2 ^ (7 * k))), (k : Int) + 1, 0)
      else dec (bits .or .u64 X (IntKind.u64.wrap (z % 128 * 2 ^ (7 * k)))) (k + 1) zs

theorem dec_nil (X : Int) (k : Nat) : dec X k [] = (0, 0, 5) := rfl
theorem dec_form (X : Int) (k : Nat) (z : Int) (zs : List Int) (h : k = 9) (h1 : 1 < z) : dec X k (z :: zs) = (0, 0, 2) := by
  unfold dec; rw [if_pos ⟨h, h1⟩]
theorem dec_end (X : Int) (k : Nat) (z : Int) (zs : List Int) (h : ¬(k = 9 ∧ 1 < z)) (h1 : z < 128) :
    dec X k (z :: zs) = (bits .or .u64 X (IntKind.u64.wrap (z % 128 * 2 ^ (7 * k))), (k : Int) + 1, 0) := by
  unfold dec; rw [if_neg h, if_pos h1]
theorem dec_on (X : Int) (k : Nat) (z : Int) (zs : List Int) (h : ¬(k = 9 ∧ 1 < z)) (h1 : 128 ≤ z) :
    dec X k (z :: zs) = dec (bits .or .u64 X (IntKind.u64.wrap (z % 128 * 2 ^ (7 * k)))) (k + 1) zs := by
  rw [dec, if_neg h, if_neg (by omega)]
theorem dec_nine (X : Int) (z : Int) (zs : List Int) (h0 : 0 ≤ z) (h1 : ¬ 1 < z) :
    dec X 9 (z :: zs) = (bits .or .u64 X (z % 128 * 9223372036854775808), 10, 0) := by
  rw [dec_end _ _ _ _ (by omega) (by omega)]
  have e : IntKind.u64.wrap (z % 128 * 2 ^ (7 * 9)) = z % 128 * 9223372036854775808 := by
    rw [IntKind.wrap_u64]; omega
  rw [e]; rfl
theorem ret_dec {p : Int × Int × Int} {n k e : Int} (h : p = (n, k, e)) :
    Ending.returned (.tuple #[.int .u64 n, .int .i64 k, .int .i64 e]) = .returned (.tuple #[.int .u64 p.1, .int .i64 p.2.1, .int .i64 p.2.2]) := by subst h; rfl
end Go.Proofs.YteajlfgbmefncaaGreatDoor
namespace Go.Proofs.YteajlfgbmefncaaGreatDoor
set_option linter.unusedVariables false
open Go.RowKit

/-- the shortest varint of a number, in at most so many steps -/
def vintF : Nat → Nat → List Int
  | 0, n => [(n : Int)]
  | f + 1, n => if n < 128 then [(n : Int)] else ((n % 128 + 128 : Nat) : Int) :: vintF f (n / 128)
/-- the shortest varint of a number -/
def vint (n : Nat) : List Int := vintF n n
/-- one more byte: the number so far and seven bits more -/
theorem or_step (X : Nat) (k z : Nat) (hX : X < 2 ^ (7 * k)) (hk : k ≤ 9) (hz : z < 128) (h9 : k = 9 → z ≤ 1) :
    bits .or .u64 (X : Int) (IntKind.u64.wrap ((z : Int) % 128 * 2 ^ (7 * k))) = ((X + z * 2 ^ (7 * k) : Nat) : Int) ∧ X + z * 2 ^ (7 * k) < 2 ^ 64 := by
  have hp : 0 < 2 ^ (7 * k) := Nat.two_pow_pos _
  have hb : X + z * 2 ^ (7 * k) < 2 ^ 64 := by
    by_cases h : k = 9
    · subst h
      have := h9 rfl
      have hz01 : z = 0 ∨ z = 1 := by omega
      rcases hz01 with rfl | rfl <;> omega
    · have h1 : X + z * 2 ^ (7 * k) < 2 ^ (7 * k) * 128 := by
        have : z * 2 ^ (7 * k) ≤ 127 * 2 ^ (7 * k) := Nat.mul_le_mul_right _ (by omega)
        omega
      have h2 : 2 ^ (7 * k) * 128 ≤ 2 ^ 63 := by
        rw [show 128 = 2 ^ 7 by decide, ← Nat.pow_add]
        exact Nat.pow_le_pow_right (by decide) (by omega)
      omega
  refine ⟨?_, hb⟩
  have e : (z : Int) % 128 * 2 ^ (7 * k) = ((z * 2 ^ (7 * k) : Nat) : Int) := by
    rw [Int.emod_eq_of_lt (by omega) (by omega)]; simp
  rw [e]
  have hnn : (0 : Int) ≤ ((z * 2 ^ (7 * k) : Nat) : Int) := by omega
  have hu : ((z * 2 ^ (7 * k) : Nat) : Int) < 2 ^ 64 := by
    have : z * 2 ^ (7 * k) < 2 ^ 64 := by omega
    exact_mod_cast this
  rw [wraps_u64 _ hnn hu]
  have hX' : (X : Int) < 2 ^ (7 * k) := by exact_mod_cast hX
  have hX64 : (X : Int) < 2 ^ 64 := by
    have : X < 2 ^ 64 := by omega
    exact_mod_cast this
  rw [bits_join_low .u64 64 (by decide) wraps_u64 (7 * k) _ _ (by omega) hX' hX64 hnn (by
    have : (((z * 2 ^ (7 * k) : Nat)) : Int) = (z : Int) * 2 ^ (7 * k) := by simp
    rw [this]; exact Int.mul_emod_left _ _) hu]
  omega

/-- of a number that was taken: it is a uint64, and its bytes were there -/
theorem dec_ok : ∀ (zs : List Int) (X k : Nat) (N K : Int), (∀ z ∈ zs, 0 ≤ z ∧ z ≤ 255) → X < 2 ^ (7 * k) → k ≤ 9 → dec (X : Int) k zs = (N, K, 0) →
    0 ≤ N ∧ N ≤ 18446744073709551615 ∧ (k : Int) < K ∧ K ≤ k + zs.length ∧ K ≤ 10
  | [], X, k, N, K, _, _, _, h => by rw [dec_nil] at h; simp at h
  | z :: zs, X, k, N, K, hb, hX, hk, h => by
    have hz := hb z List.mem_cons_self
    have hp : 0 < 2 ^ (7 * k) := Nat.two_pow_pos _
    by_cases hf : k = 9 ∧ 1 < z
    · rw [dec_form _ _ _ _ hf.1 hf.2] at h; simp at h
    · obtain ⟨y, rfl⟩ := Int.eq_ofNat_of_zero_le hz.1
      by_cases h1 : (y : Int) < 128
      · have hs := or_step X k y hX hk (by omega) (by omega)
        rw [dec_end _ _ _ _ hf h1, hs.1] at h
        simp only [Prod.mk.injEq] at h
        rw [List.length_cons]
        omega
      · have hs := or_step X k (y % 128) hX hk (by omega) (by omega)
        have e : ((y : Int)) % 128 = ((y % 128 : Nat) : Int) % 128 := by omega
        rw [dec_on _ _ _ _ hf (by omega), e, hs.1] at h
        have hq : 2 ^ (7 * (k + 1)) = 2 ^ (7 * k) * 128 := by rw [show 7 * (k + 1) = 7 * k + 7 by omega, Nat.pow_add]
        have hm : y % 128 * 2 ^ (7 * k) ≤ 127 * 2 ^ (7 * k) := Nat.mul_le_mul_right _ (by omega)
        have := dec_ok zs (X + y % 128 * 2 ^ (7 * k)) (k + 1) N K (fun z hz => hb z (List.mem_cons_of_mem _ hz)) (by rw [hq]; omega) (by omega) h
        rw [List.length_cons]
        omega
end Go.Proofs.YteajlfgbmefncaaGreatDoor
namespace Go.Proofs.YteajlfgbmefncaaGreatDoor
set_option linter.unusedVariables false
open Go.ChangeShapes Go.WideShapes Go.ChangeAt Go.RowKit
set_option maxHeartbeats 1000000 in
theorem take_any (a : Option Addr) (len cap : Nat) (zs : List Int) (w : World) (hB : IsB w a len zs) :
    Calls Tryz.prog 121 #[.slice a len cap] w fun e w' =>
      e = .returned (.tuple #[.int .u64 (dec 0 0 zs).1, .int .i64 (dec 0 0 zs).2.1, .int .i64 (dec 0 0 zs).2.2]) ∧ w' = w := by
  have hmax : len ≤ 281474976710656 := hB.2.1
  have HB : Hid (IsB w a len zs) := hB
  clear hB
  go_enter Tryz.func121, Tryz.ntmps121
  go_wp2
  go_loop [5, 6] (fun x i => ∃ (k : Nat) (X : Int), k ≤ len ∧ k ≤ 9 ∧ i = .int .i64 k ∧ x = .int .u64 X ∧ dec 0 0 zs = dec X k (zs.drop k)) (fun _ i => len - (intOf i).toNat)
  case atStart => exact ⟨0, 0, by omega, by omega, rfl, rfl, rfl⟩
  case round =>
    obtain ⟨k, X, hk, hk9, rfl, rfl, hd⟩ := hrel
    have HD : Hid (dec 0 0 zs = dec X k (zs.drop k)) := hd
    clear hd
    by_cases hlt : k < len
    · obtain ⟨b, off, z, rfl, hcell, hz0, hz1, hdr, _⟩ := isB_at HB.out hlt
      have HE : Hid (dec 0 0 zs = dec X k (z :: zs.drop (k + 1))) := by rw [← hdr]; exact HD.out
      clear hdr HD HB
      have hmask := u8_and127 z hz0 (by omega)
      by_cases h9 : k = 9
      · subst h9
        by_cases h1 : 1 < z
        · have HV : Hid (dec 0 0 zs = (0, 0, 2)) := HE.out.trans (dec_form _ _ _ _ rfl h1)
          clear HE
          go_wp2
          go_ret3
          exact ⟨ret_dec HV.out, rfl⟩
        · have HV : Hid (dec 0 0 zs = (bits .or .u64 X (z % 128 * 9223372036854775808), 10, 0)) := HE.out.trans (dec_nine _ _ _ hz0 h1)
          clear HE
          go_wp2
          go_ret3
          exact ⟨ret_dec HV.out, rfl⟩
      · by_cases h1 : z < 128
        · have HV : Hid (dec 0 0 zs = (bits .or .u64 X (IntKind.u64.wrap (z % 128 * 2 ^ (7 * k))), (k : Int) + 1, 0)) := HE.out.trans (dec_end _ _ _ _ (by omega) h1)
          clear HE
          go_wp2
          go_ret3
          exact ⟨ret_dec HV.out, rfl⟩
        · have HV : Hid (dec 0 0 zs = dec (bits .or .u64 X (IntKind.u64.wrap (z % 128 * 2 ^ (7 * k)))) (k + 1) (zs.drop (k + 1))) := HE.out.trans (dec_on _ _ _ _ (by omega) (by omega))
          clear HE
          go_wp2
          go_round
          case rel => exact ⟨k + 1, _, by omega, by omega, by go_num, rfl, HV.out⟩
          case measure => simp [intOf]; omega
    · have HV : Hid (dec 0 0 zs = (0, 0, 5)) := by
        refine (?_ : dec 0 0 zs = (0, 0, 5))
        rw [HD.out, List.drop_eq_nil_of_le (by have := HB.out.1; omega)]; rfl
      clear HD HB
      go_wp2
      go_ret3
      exact ⟨ret_dec HV.out, rfl⟩
set_option maxHeartbeats 1000000 in
theorem takeRB_any (a : Option Addr) (len cap : Nat) (zs : List Int) (w : World) (hB : IsB w a len zs) :
    Calls Tryz.prog 92 #[.slice a len cap] w fun e w' =>
      e = .returned (.tuple #[.int .u64 (dec 0 0 zs).1, .int .i64 (dec 0 0 zs).2.1, .int .i64 (dec 0 0 zs).2.2]) ∧ w' = w := by
  have hmax : len ≤ 281474976710656 := hB.2.1
  have HB : Hid (IsB w a len zs) := hB
  clear hB
  go_enter Tryz.func92, Tryz.ntmps92
  go_wp2
  go_loop [5, 9] (fun x i => ∃ (k : Nat) (X : Int), k ≤ len ∧ k ≤ 9 ∧ i = .int .i64 k ∧ x = .int .u64 X ∧ dec 0 0 zs = dec X k (zs.drop k)) (fun _ i => len - (intOf i).toNat)
  case atStart => exact ⟨0, 0, by omega, by omega, rfl, rfl, rfl⟩
  case round =>
    obtain ⟨k, X, hk, hk9, rfl, rfl, hd⟩ := hrel
    have HD : Hid (dec 0 0 zs = dec X k (zs.drop k)) := hd
    clear hd
    by_cases hlt : k < len
    · obtain ⟨b, off, z, rfl, hcell, hz0, hz1, hdr, _⟩ := isB_at HB.out hlt
      have HE : Hid (dec 0 0 zs = dec X k (z :: zs.drop (k + 1))) := by rw [← hdr]; exact HD.out
      clear hdr HD HB
      have hmask := u8_and127 z hz0 (by omega)
      by_cases h9 : k = 9
      · subst h9
        by_cases h1 : 1 < z
        · have HV : Hid (dec 0 0 zs = (0, 0, 2)) := HE.out.trans (dec_form _ _ _ _ rfl h1)
          clear HE
          go_wp2
          go_ret3
          exact ⟨ret_dec HV.out, rfl⟩
        · have HV : Hid (dec 0 0 zs = (bits .or .u64 X (z % 128 * 9223372036854775808), 10, 0)) := HE.out.trans (dec_nine _ _ _ hz0 h1)
          clear HE
          go_wp2
          go_ret3
          exact ⟨ret_dec HV.out, rfl⟩
      · by_cases h1 : z < 128
        · have HV : Hid (dec 0 0 zs = (bits .or .u64 X (IntKind.u64.wrap (z % 128 * 2 ^ (7 * k))), (k : Int) + 1, 0)) := HE.out.trans (dec_end _ _ _ _ (by omega) h1)
          clear HE
          go_wp2
          go_ret3
          exact ⟨ret_dec HV.out, rfl⟩
        · have HV : Hid (dec 0 0 zs = dec (bits .or .u64 X (IntKind.u64.wrap (z % 128 * 2 ^ (7 * k)))) (k + 1) (zs.drop (k + 1))) := HE.out.trans (dec_on _ _ _ _ (by omega) (by omega))
          clear HE
          go_wp2
          go_round
          case rel => exact ⟨k + 1, _, by omega, by omega, by go_num, rfl, HV.out⟩
          case measure => simp [intOf]; omega
    · have HV : Hid (dec 0 0 zs = (0, 0, 5)) := by
        refine (?_ : dec 0 0 zs = (0, 0, 5))
        rw [HD.out, List.drop_eq_nil_of_le (by have := HB.out.1; omega)]; rfl
      clear HD HB
      go_wp2
      go_ret3
      exact ⟨ret_dec HV.out, rfl⟩
end Go.Proofs.YteajlfgbmefncaaGreatDoor
