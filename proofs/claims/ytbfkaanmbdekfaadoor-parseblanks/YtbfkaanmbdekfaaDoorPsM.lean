/-
  Declarations, and how they are read off the words of a text, as plain functions: a reader with the words that are left, the first error and its place. Nothing is proved of the program here.
-/
import Derived.Test.YtbfkaanmbdekfaaDoorLxA
import Derived.Test.YtbfkaanmbdekfaaDoorRsM
namespace Go.Proofs.YtbfkaanmbdekfaaDoor
set_option linter.unusedVariables false

structure Fd where
  rep : Bool
  type : List UInt8
  name : List UInt8
  num : Int
  line : Int
  col : Int
structure Vl where
  name : List UInt8
  num : Int
  line : Int
  col : Int
structure Mt where
  name : List UInt8
  inp : List UInt8
  out : List UInt8
  line : Int
  col : Int
structure Dc where
  kind : Int
  name : List UInt8
  line : Int
  col : Int
  fields : List Fd
  values : List Vl
  methods : List Mt
  inner : List Dc
/-- the words that are left, the first error (0: none), and its place -/
structure Rd where
  l : List Wd
  e : Int
  pl : Int
  pc : Int
abbrev tMessage : List UInt8 := [109, 101, 115, 115, 97, 103, 101]
abbrev tEnum : List UInt8 := [101, 110, 117, 109]
abbrev tService : List UInt8 := [115, 101, 114, 118, 105, 99, 101]
abbrev tRpc : List UInt8 := [114, 112, 99]
abbrev tReturns : List UInt8 := [114, 101, 116, 117, 114, 110, 115]
abbrev tRepeated : List UInt8 := [114, 101, 112, 101, 97, 116, 101, 100]
section
variable (en : Int × Int)
/-- the place of the next word, or the end -/
def Rd.here (r : Rd) : Int × Int := match r.l with
  | [] => en
  | x :: _ => ((x.line : Int), (x.col : Int))
def Rd.fail (r : Rd) (e : Int) (p : Int × Int) : Rd := if r.e = 0 then ⟨r.l, e, p.1, p.2⟩ else r
/-- is the next word this one? -/
def Rd.is (r : Rd) (t : List UInt8) : Bool := decide (r.e = 0) && (match r.l with
  | [] => false
  | x :: _ => x.text == t)
def Rd.tail (r : Rd) : Rd := ⟨r.l.tail, r.e, r.pl, r.pc⟩
def Rd.take (r : Rd) (t : List UInt8) : Rd := if r.is t = true then r.tail else r.fail 7 (r.here en)
def Rd.isName (r : Rd) : Bool := decide (r.e = 0) && (match r.l with
  | [] => false
  | x :: _ => decide (x.kind = 1) && !resOf x.text)
def Rd.isNum (r : Rd) : Bool := decide (r.e = 0) && (match r.l with
  | [] => false
  | x :: _ => decide (x.kind = 2))
def Rd.isScal (r : Rd) : Bool := decide (r.e = 0) && (match r.l with
  | [] => false
  | x :: _ => decide (0 < scalarOf x.text))
def Rd.text (r : Rd) : List UInt8 := match r.l with
  | [] => []
  | x :: _ => x.text
/-- behind a name, or at the error -/
def Rd.name (r : Rd) : Rd := if r.isName = true then r.tail else r.fail 7 (r.here en)
def Rd.nameT (r : Rd) : List UInt8 := if r.isName = true then r.text else []
def Rd.nameP (r : Rd) : Int × Int := if r.isName = true then r.here en else (0, 0)
def Rd.number (r : Rd) : Rd := if r.isNum = true then r.tail else r.fail 7 (r.here en)
def Rd.numberV (r : Rd) : Int := if r.isNum = true then numV 0 r.text else 0
/-- the rest of a path: its text so far, behind so many names -/
def pathL (first : Int × Int) : Nat → Nat → List UInt8 → Rd → List UInt8 × Rd
  | 0, _, s, r => (s, r)
  | f + 1, n, s, r => if r.is [46] = true then
      pathL first f (n + 1) (s ++ [46] ++ (r.take en [46]).nameT) (if n = 8 then ((r.take en [46]).name en).fail 8 first else (r.take en [46]).name en)
    else (s, r)
def Rd.path (r : Rd) : List UInt8 × Rd := pathL en (r.here en) (r.l.length + 1) 1 r.nameT (r.name en)
/-- the type of a field -/
def Rd.typ (r : Rd) : List UInt8 × Rd := if r.isScal = true then (r.text, r.tail) else r.path en
def Rd.field (r : Rd) : Fd × Rd :=
  let r1 := if r.is tRepeated = true then r.take en tRepeated else r
  let t := r1.typ en
  let r3 := (t.2.name en).take en [61]
  (⟨r.is tRepeated, t.1, t.2.nameT, r3.numberV, (t.2.nameP en).1, (t.2.nameP en).2⟩, (r3.number en).take en [59])
def Rd.value (r : Rd) : Vl × Rd :=
  let r3 := (r.name en).take en [61]
  (⟨r.nameT, r3.numberV, (r.nameP en).1, (r.nameP en).2⟩, (r3.number en).take en [59])
def valuesL : Nat → Rd → List Vl → List Vl × Rd
  | 0, r, acc => (acc, r)
  | f + 1, r, acc => if r.e = 0 ∧ r.is [125] = false then valuesL f (r.value en).2 (acc ++ [(r.value en).1]) else (acc, r)
def Rd.enum (r : Rd) : Dc × Rd :=
  let r1 := r.take en tEnum
  let r3 := (r1.name en).take en [123]
  let b := valuesL en (r3.l.length + 1) r3 []
  (⟨2, r1.nameT, (r1.nameP en).1, (r1.nameP en).2, [], b.1, [], []⟩, b.2.take en [125])
def Rd.method (r : Rd) : Mt × Rd :=
  let r1 := r.take en tRpc
  let a := ((r1.name en).take en [40]).path en
  let b := (((a.2.take en [41]).take en tReturns).take en [40]).path en
  (⟨r1.nameT, a.1, b.1, (r1.nameP en).1, (r1.nameP en).2⟩, (b.2.take en [41]).take en [59])
def methodsL : Nat → Rd → List Mt → List Mt × Rd
  | 0, r, acc => (acc, r)
  | f + 1, r, acc => if r.e = 0 ∧ r.is [125] = false then methodsL f (r.method en).2 (acc ++ [(r.method en).1]) else (acc, r)
def Rd.service (r : Rd) : Dc × Rd :=
  let r1 := r.take en tService
  let r3 := (r1.name en).take en [123]
  let b := methodsL en (r3.l.length + 1) r3 []
  (⟨3, r1.nameT, (r1.nameP en).1, (r1.nameP en).2, [], [], b.1, []⟩, b.2.take en [125])
/-- what lies in a message -/
def bodyL (msg : Rd → Dc × Rd) : Nat → Rd → List Fd → List Dc → (List Fd × List Dc) × Rd
  | 0, r, fs, ds => ((fs, ds), r)
  | f + 1, r, fs, ds => if r.e = 0 ∧ r.is [125] = false then
      (if r.is tMessage = true then bodyL msg f (msg r).2 fs (ds ++ [(msg r).1])
      else if r.is tEnum = true then bodyL msg f (r.enum en).2 fs (ds ++ [(r.enum en).1])
      else bodyL msg f (r.field en).2 (fs ++ [(r.field en).1]) ds)
    else ((fs, ds), r)
def messageL : Nat → Nat → Rd → Dc × Rd
  | 0, _, r => (⟨1, [], 0, 0, [], [], [], []⟩, r)
  | k + 1, depth, r =>
    let r0 := if 8 < depth then r.fail 8 (r.here en) else r
    let r1 := r0.take en tMessage
    let r3 := (r1.name en).take en [123]
    let b := bodyL en (messageL k (depth + 1)) (r3.l.length + 1) r3 [] []
    (⟨1, r1.nameT, (r1.nameP en).1, (r1.nameP en).2, b.1.1, [], [], b.1.2⟩, b.2.take en [125])
def Rd.message (r : Rd) (depth : Nat) : Dc × Rd := messageL en (10 - depth) depth r
def declsL : Nat → Rd → List Dc → List Dc × Rd
  | 0, r, acc => (acc, r)
  | f + 1, r, acc => if r.e = 0 ∧ r.l ≠ [] then
      (if r.is tMessage = true then declsL f (r.message en 1).2 (acc ++ [(r.message en 1).1])
      else if r.is tEnum = true then declsL f (r.enum en).2 (acc ++ [(r.enum en).1])
      else if r.is tService = true then declsL f (r.service en).2 (acc ++ [(r.service en).1])
      else declsL f (r.fail 7 (r.here en)) acc)
    else (acc, r)
end
/-- the place behind the last rune -/
def endL : Nat → List UInt8 → Nat → Nat → Nat × Nat
  | 0, _, line, col => (line, col)
  | f + 1, l, line, col => if l = [] then (line, col) else if (nx l).1 = 10 then endL f (l.drop (nx l).2) (line + 1) 1 else endL f (l.drop (nx l).2) line (col + 1)
def endOf (l : List UInt8) : Nat × Nat := endL l.length l 1 1
/-- what words declare -/
def fileW (en : Int × Int) (ws : List Wd) : List Dc × (Int × Int) × Int :=
  let b := declsL en (ws.length + 1) ⟨ws, 0, 0, 0⟩ []
  if b.2.e = 0 then (b.1, (0, 0), 0) else ([], (b.2.pl, b.2.pc), b.2.e)
/-- what a text declares -/
def fileL (l : List UInt8) : List Dc × (Int × Int) × Int :=
  if (wordsL l).2.2 = 0 then fileW (((endOf l).1 : Int), ((endOf l).2 : Int)) (wordsL l).1 else ([], (((wordsL l).2.1.1 : Int), ((wordsL l).2.1.2 : Int)), (wordsL l).2.2)

/-! ### each step goes on, or ends in an error -/
/-- so many words are left, if there is no error -/
def Rd.m (r : Rd) : Nat := if r.e = 0 then r.l.length + 1 else 0
theorem Rd.m_fail (r : Rd) (e : Int) (p : Int × Int) (he : e ≠ 0) : (r.fail e p).m = 0 := by
  unfold Rd.fail Rd.m
  by_cases h : r.e = 0
  · rw [if_pos h]; simp [he]
  · rw [if_neg h, if_neg h]
theorem Rd.m_tail (r : Rd) (h : r.l ≠ []) : r.tail.m ≤ r.m - 1 := by
  unfold Rd.tail Rd.m
  by_cases he : r.e = 0
  · have hp := List.length_pos_iff.2 h
    rw [if_pos he, if_pos he, List.length_tail]
    omega
  · rw [if_neg he]; omega
theorem Rd.is_ok {r : Rd} {t : List UInt8} (h : r.is t = true) : r.e = 0 ∧ r.l ≠ [] ∧ r.text = t := by
  unfold Rd.is at h
  rw [Bool.and_eq_true, decide_eq_true_iff] at h
  obtain ⟨h1, h2⟩ := h
  unfold Rd.text
  cases hl : r.l with
  | nil => rw [hl] at h2; cases h2
  | cons x t => rw [hl] at h2; exact ⟨h1, by simp, by simpa using h2⟩
theorem Rd.isName_ok {r : Rd} (h : r.isName = true) : r.e = 0 ∧ r.l ≠ [] := by
  unfold Rd.isName at h
  rw [Bool.and_eq_true, decide_eq_true_iff] at h
  refine ⟨h.1, fun e => ?_⟩
  rw [e] at h; cases h.2
theorem Rd.isNum_ok {r : Rd} (h : r.isNum = true) : r.e = 0 ∧ r.l ≠ [] := by
  unfold Rd.isNum at h
  rw [Bool.and_eq_true, decide_eq_true_iff] at h
  refine ⟨h.1, fun e => ?_⟩
  rw [e] at h; cases h.2
theorem Rd.isScal_ok {r : Rd} (h : r.isScal = true) : r.e = 0 ∧ r.l ≠ [] := by
  unfold Rd.isScal at h
  rw [Bool.and_eq_true, decide_eq_true_iff] at h
  refine ⟨h.1, fun e => ?_⟩
  rw [e] at h; cases h.2
section
variable (en : Int × Int)
theorem Rd.m_take (r : Rd) (t : List UInt8) : (r.take en t).m ≤ r.m - 1 := by
  unfold Rd.take
  by_cases h : r.is t = true
  · rw [if_pos h]; exact r.m_tail (Rd.is_ok h).2.1
  · rw [if_neg h, Rd.m_fail _ _ _ (by decide)]; omega
theorem Rd.m_name (r : Rd) : (r.name en).m ≤ r.m - 1 := by
  unfold Rd.name
  by_cases h : r.isName = true
  · rw [if_pos h]; exact r.m_tail (Rd.isName_ok h).2
  · rw [if_neg h, Rd.m_fail _ _ _ (by decide)]; omega
theorem Rd.m_number (r : Rd) : (r.number en).m ≤ r.m - 1 := by
  unfold Rd.number
  by_cases h : r.isNum = true
  · rw [if_pos h]; exact r.m_tail (Rd.isNum_ok h).2
  · rw [if_neg h, Rd.m_fail _ _ _ (by decide)]; omega
theorem Rd.m_fail_le (r : Rd) (e : Int) (p : Int × Int) (he : e ≠ 0) : (r.fail e p).m ≤ r.m := by rw [Rd.m_fail _ _ _ he]; omega
theorem pathL_m (first : Int × Int) : ∀ (f n : Nat) (s : List UInt8) (r : Rd), (pathL en first f n s r).2.m ≤ r.m
  | 0, n, s, r => Nat.le_refl _
  | f + 1, n, s, r => by
    unfold pathL
    by_cases h : r.is [46] = true
    · rw [if_pos h]
      refine Nat.le_trans (pathL_m first f _ _ _) ?_
      have h1 := Rd.m_take en r [46]
      have h2 := Rd.m_name en (r.take en [46])
      by_cases h8 : n = 8
      · rw [if_pos h8, Rd.m_fail _ _ _ (by decide)]; omega
      · rw [if_neg h8]; omega
    · rw [if_neg h]; exact Nat.le_refl _
theorem Rd.m_path (r : Rd) : (r.path en).2.m ≤ r.m - 1 := Nat.le_trans (pathL_m en _ _ _ _ _) (Rd.m_name en r)
theorem Rd.m_typ (r : Rd) : (r.typ en).2.m ≤ r.m - 1 := by
  unfold Rd.typ
  by_cases h : r.isScal = true
  · rw [if_pos h]; exact r.m_tail (Rd.isScal_ok h).2
  · rw [if_neg h]; exact Rd.m_path en r
theorem Rd.m_field (r : Rd) : (r.field en).2.m ≤ r.m - 1 := by
  unfold Rd.field
  simp only
  have a : (if r.is tRepeated = true then r.take en tRepeated else r).m ≤ r.m := by
    split
    · have := Rd.m_take en r tRepeated; omega
    · exact Nat.le_refl _
  generalize (if r.is tRepeated = true then r.take en tRepeated else r) = r1 at *
  have b := Rd.m_typ en r1
  have c := Rd.m_name en (r1.typ en).2
  have d := Rd.m_take en ((r1.typ en).2.name en) [61]
  have e := Rd.m_number en (((r1.typ en).2.name en).take en [61])
  have f := Rd.m_take en ((((r1.typ en).2.name en).take en [61]).number en) [59]
  omega
theorem Rd.m_value (r : Rd) : (r.value en).2.m ≤ r.m - 1 := by
  unfold Rd.value
  simp only
  have c := Rd.m_name en r
  have d := Rd.m_take en (r.name en) [61]
  have e := Rd.m_number en ((r.name en).take en [61])
  have f := Rd.m_take en (((r.name en).take en [61]).number en) [59]
  omega
theorem Rd.m_method (r : Rd) : (r.method en).2.m ≤ r.m - 1 := by
  unfold Rd.method
  simp only
  have a := Rd.m_take en r tRpc
  have b := Rd.m_name en (r.take en tRpc)
  have c := Rd.m_take en ((r.take en tRpc).name en) [40]
  have d := Rd.m_path en (((r.take en tRpc).name en).take en [40])
  generalize (((r.take en tRpc).name en).take en [40]).path en = p at *
  have e := Rd.m_take en p.2 [41]
  have f := Rd.m_take en (p.2.take en [41]) tReturns
  have g := Rd.m_take en ((p.2.take en [41]).take en tReturns) [40]
  have h := Rd.m_path en (((p.2.take en [41]).take en tReturns).take en [40])
  generalize (((p.2.take en [41]).take en tReturns).take en [40]).path en = q at *
  have i := Rd.m_take en q.2 [41]
  have j := Rd.m_take en (q.2.take en [41]) [59]
  omega
theorem valuesL_m : ∀ (f : Nat) (r : Rd) (acc : List Vl), (valuesL en f r acc).2.m ≤ r.m
  | 0, r, acc => Nat.le_refl _
  | f + 1, r, acc => by
    unfold valuesL
    split
    · refine Nat.le_trans (valuesL_m f _ _) ?_
      have := Rd.m_value en r; omega
    · exact Nat.le_refl _
theorem methodsL_m : ∀ (f : Nat) (r : Rd) (acc : List Mt), (methodsL en f r acc).2.m ≤ r.m
  | 0, r, acc => Nat.le_refl _
  | f + 1, r, acc => by
    unfold methodsL
    split
    · refine Nat.le_trans (methodsL_m f _ _) ?_
      have := Rd.m_method en r; omega
    · exact Nat.le_refl _
theorem Rd.m_enum (r : Rd) : (r.enum en).2.m ≤ r.m - 1 := by
  unfold Rd.enum
  simp only
  have a := Rd.m_take en r tEnum
  have b := Rd.m_name en (r.take en tEnum)
  have c := Rd.m_take en ((r.take en tEnum).name en) [123]
  have d := valuesL_m en ((((r.take en tEnum).name en).take en [123]).l.length + 1) (((r.take en tEnum).name en).take en [123]) []
  have e := Rd.m_take en (valuesL en ((((r.take en tEnum).name en).take en [123]).l.length + 1) (((r.take en tEnum).name en).take en [123]) []).2 [125]
  omega
theorem Rd.m_service (r : Rd) : (r.service en).2.m ≤ r.m - 1 := by
  unfold Rd.service
  simp only
  have a := Rd.m_take en r tService
  have b := Rd.m_name en (r.take en tService)
  have c := Rd.m_take en ((r.take en tService).name en) [123]
  have d := methodsL_m en ((((r.take en tService).name en).take en [123]).l.length + 1) (((r.take en tService).name en).take en [123]) []
  have e := Rd.m_take en (methodsL en ((((r.take en tService).name en).take en [123]).l.length + 1) (((r.take en tService).name en).take en [123]) []).2 [125]
  omega
theorem bodyL_m (msg : Rd → Dc × Rd) (hm : ∀ r, (msg r).2.m ≤ r.m) : ∀ (f : Nat) (r : Rd) (fs : List Fd) (ds : List Dc), (bodyL en msg f r fs ds).2.m ≤ r.m
  | 0, r, fs, ds => Nat.le_refl _
  | f + 1, r, fs, ds => by
    unfold bodyL
    split
    · split
      · exact Nat.le_trans (bodyL_m msg hm f _ _ _) (hm r)
      · split
        · refine Nat.le_trans (bodyL_m msg hm f _ _ _) ?_
          have := Rd.m_enum en r; omega
        · refine Nat.le_trans (bodyL_m msg hm f _ _ _) ?_
          have := Rd.m_field en r; omega
    · exact Nat.le_refl _
theorem messageL_m : ∀ (k depth : Nat) (r : Rd), (messageL en (k + 1) depth r).2.m ≤ r.m - 1
  | k, depth, r => by
    have hm : ∀ r, (messageL en k (depth + 1) r).2.m ≤ r.m := fun r => by
      cases k with
      | zero => exact Nat.le_refl _
      | succ k => have := messageL_m k (depth + 1) r; omega
    unfold messageL
    simp only
    have z : (if 8 < depth then r.fail 8 (r.here en) else r).m ≤ r.m := by
      split
      · exact Rd.m_fail_le r 8 _ (by decide)
      · exact Nat.le_refl _
    generalize (if 8 < depth then r.fail 8 (r.here en) else r) = r0 at *
    have a := Rd.m_take en r0 tMessage
    have b := Rd.m_name en (r0.take en tMessage)
    have c := Rd.m_take en ((r0.take en tMessage).name en) [123]
    have d := bodyL_m en (messageL en k (depth + 1)) hm ((((r0.take en tMessage).name en).take en [123]).l.length + 1) (((r0.take en tMessage).name en).take en [123]) [] []
    have e := Rd.m_take en (bodyL en (messageL en k (depth + 1)) ((((r0.take en tMessage).name en).take en [123]).l.length + 1) (((r0.take en tMessage).name en).take en [123]) [] []).2 [125]
    omega
end
end Go.Proofs.YtbfkaanmbdekfaaDoor
