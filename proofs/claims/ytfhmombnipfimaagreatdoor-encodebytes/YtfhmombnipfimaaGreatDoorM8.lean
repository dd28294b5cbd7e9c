/-
  A value's bytes, as plain functions, and what its normal value keeps. Nothing is proved of the program here.
  Assertions on values: what they tell. Nothing is proved of the program here.
  The walks over the program's Formed and over the statements' own turning of fields: Formed says just what the document's does; a turned field is the same field. They make new memory alone.
  What the library functions that this program calls answer, as theorems over this translation: each is one application of a theorem of the given library. Nothing is proved of the program itself here.
  The walks over Size and Append: how many bytes the shortest varint has; and it comes behind the bytes, all in one new block; nothing else changes.
-/
import Derived.Test.YtfhmombnipfimaaGreatDoorM7
import Derived.Test.YtfhmombnipfimaaGreatDoorM2
import Derived.Handy
import Derived.Shelf.Strconv.Itoa0
import Derived.Shelf.Bytes.SlClone
import Derived.Shelf.LaysM
import Derived.Ground.NamesProg
import Derived.Test.YtfhmombnipfimaaGreatDoorProg
import Derived.Test.YtfhmombnipfimaaGreatDoorM1
namespace Go.Proofs.YtfhmombnipfimaaGreatDoor
set_option linter.unusedVariables false

/-- the number that a value is written as -/
def zigI (n : Int) : Int := if n < 0 then -2 * n - 1 else 2 * n
def numP (k : Int) (y : Nd) : Int :=
  if y.kind = 1 then (if k = 3 then zigI y.n else IntKind.u64.wrap y.n) else if y.kind = 2 then y.u else if y.kind = 6 then IntKind.u64.wrap (IntKind.i32.wrap y.n) else if y.kind = 3 then (if y.b then 1 else 0) else 0
def isNum (k : Int) : Bool := decide (k ≠ 5 ∧ k ≠ 6 ∧ k ≠ 10)
def nbytes (k n : Int) : List Int := if k = 7 then lob (n % 4294967296) 4 else if k = 8 then lob n 8 else vint n.toNat
def packL (k : Int) (vs : List Nd) : List Int := vs.flatMap fun v => nbytes k (numP k v)
/-- a field of layer 2 -/
structure WF where
  num : Int
  ty : Int
  n : Int
  d : List Int
def WF.bytes (x : WF) : List Int := fbytes x.num x.ty x.n x.d
def singW (rec : Nd → List Int) (fd : FD) (v : Nd) : WF := if isNum fd.kind then ⟨fd.num, if fd.kind = 7 then 5 else if fd.kind = 8 then 1 else 0, numP fd.kind v, []⟩ else ⟨fd.num, 2, 0, rec v⟩
def wireL (rec : Nd → List Int) (fd : FD) (vs : List Nd) : List WF := if fd.rep && isNum fd.kind then [⟨fd.num, 2, 0, packL fd.kind vs⟩] else vs.map (singW rec fd)
def contB (msg : Nd → List Int) (v : Nd) : List Int := if v.kind = 4 ∨ v.kind = 5 then ints v.s else if v.kind = 7 then msg v else []
def fldB (rec : Nd → List Int) (fs : List FD) (p : Int × List Nd) : List Int := match firstF fs p.1 with
  | none => []
  | some fd => (wireL rec fd p.2).flatMap WF.bytes
def msgB (ms : List MD) : Nat → Nd → List Int
  | 0, y => ints y.s
  | f + 1, y => (y.fields.flatMap (fldB (contB (msgB ms f)) (fieldsOf ms y.type))) ++ ints y.s
theorem num_rg (k : Int) {y : Nd} (h : Rg1 y) : 0 ≤ numP k y ∧ numP k y ≤ 18446744073709551615 := by
  obtain ⟨⟨h1, h2⟩, h3, h4⟩ := h
  unfold numP zigI
  repeat' split
  all_goals first
    | omega
    | (rw [IntKind.wrap_u64]; omega)
theorem vint_le (n : Int) (h : n ≤ 18446744073709551615) : (vint n.toNat).length ≤ 10 := vint_ten (by omega)
theorem fby_len (num ty n : Int) (d : List Int) (h1 : num ≤ 536870911) (h2 : ty ≤ 5) (hn : n ≤ 18446744073709551615) (hd : d.length ≤ 140737488355328) : (fbytes num ty n d).length ≤ d.length + 20 := by
  unfold fbytes
  have h3 := vint_le (8 * num + ty) (by omega)
  rw [List.length_append]
  repeat' split
  · have := vint_le n hn; omega
  · rw [lob_length]; omega
  · rw [lob_length]; omega
  · have := vint_ten (n := d.length) (by omega)
    rw [List.length_append]; omega
/-- a value whose bytes can be made: what fits -/
def EncG (ms : List MD) : Nat → Nd → Prop
  | 0, x => x.kind = 7 ∧ 0 ≤ x.type ∧ x.type < (ms.length : Int)
  | f + 1, x => (x.kind = 7 ∧ 0 ≤ x.type ∧ x.type < (ms.length : Int)) ∧ ∀ p ∈ x.fields, ∃ fd, firstF (fieldsOf ms x.type) p.1 = some fd ∧ (1 ≤ fd.num ∧ fd.num ≤ 536870911) ∧ ∀ y ∈ p.2, (fd.kind = 7 → numP 7 y < 4294967296) ∧ (y.kind = 7 → EncG ms f y)
theorem EncG.one {ms : List MD} {f : Nat} {x : Nd} (h : EncG ms f x) : x.kind = 7 ∧ 0 ≤ x.type ∧ x.type < (ms.length : Int) := by
  cases f with
  | zero => exact h
  | succ f => exact h.1
def NumOK (ms : List MD) : Prop := ∀ m ∈ ms, ∀ x ∈ m.fields, (1 ≤ x.num ∧ x.num ≤ 536870911) ∧ (x.kind = 10 → 0 ≤ x.type ∧ x.type < (ms.length : Int))
theorem encG_of {ms : List MD} (hk : NumOK ms) : ∀ (f : Nat) (dep t : Int) (x : Nd), 0 ≤ t → t < (ms.length : Int) → fitP ms f dep t x = true → EncG ms f x := by
  intro f
  induction f with
  | zero =>
    intro dep t x h0 h1 h
    rw [fitP_eq, topP, Bool.and_eq_true, decide_eq_true_eq] at h
    obtain ⟨⟨hk7, ht, _⟩, _⟩ := h
    exact ⟨hk7, by rw [ht]; exact h0, by rw [ht]; exact h1⟩
  | succ f ih =>
    intro dep t x h0 h1 h
    rw [fitP_eq, topP, Bool.and_eq_true, decide_eq_true_eq] at h
    obtain ⟨⟨hk7, ht, _⟩, hb⟩ := h
    refine ⟨⟨hk7, by rw [ht]; exact h0, by rw [ht]; exact h1⟩, fun p hp => ?_⟩
    unfold fieldsOf
    rw [ht]
    cases hm : ms[t.toNat]? with
    | none => rw [hm] at hb; cases hb
    | some m =>
      rw [hm] at hb
      simp only at hb
      unfold bodyP at hb
      rw [Bool.and_eq_true] at hb
      obtain ⟨j, hj⟩ := List.getElem?_of_mem hp
      have h2 := allA_iff.1 hb.1 j p hj
      rw [Bool.and_eq_true] at h2
      have h3 := h2.2
      unfold fldP at h3
      cases hf : firstF m.fields p.1 with
      | none => rw [hf] at h3; cases h3
      | some fd =>
        rw [hf] at h3
        simp only [Bool.and_eq_true] at h3
        obtain ⟨h4, _, h5⟩ := h3
        obtain ⟨hnum, hty⟩ := hk m (List.mem_of_getElem? hm) fd (firstF_some hf).1
        refine ⟨fd, rfl, hnum, fun y hy => ?_⟩
        obtain ⟨a, ha⟩ := List.getElem?_of_mem hy
        have h6 := allA_iff.1 h5 a y ha
        unfold valP at h6
        split at h6
        · rename_i h10
          exact ⟨fun h => by omega, fun _ => ih (dep + 1) fd.type y (hty h10).1 (hty h10).2 h6⟩
        · refine ⟨fun h7 => ?_, fun h7 => ?_⟩
          · rw [h7] at h6
            unfold kindB at h6
            simp at h6
            unfold numP
            simp [h6.1, h6.2]
          · unfold kindB at h6
            rw [h7] at h6
            repeat' split at h6
            all_goals simp at h6
/-- how long the bytes are -/
theorem sing_len {ms : List MD} {rec : Nd → List Int} {fd : FD} {y : Nd} {B : Nat} (h0 : 1 ≤ fd.num) (h1 : fd.num ≤ 536870911) (hy : Rg1 y) (hr : (rec y).length ≤ B) (hB : B ≤ 140737488355328) : (singW rec fd y).bytes.length ≤ B + 20 := by
  unfold singW WF.bytes
  have ht : (if fd.kind = 7 then (5 : Int) else if fd.kind = 8 then 1 else 0) ≤ 5 := by
    repeat' split
    all_goals omega
  split
  · have := fby_len fd.num (if fd.kind = 7 then 5 else if fd.kind = 8 then 1 else 0) (numP fd.kind y) [] h1 ht (num_rg _ hy).2 (by simp)
    rw [List.length_nil] at this
    dsimp only
    omega
  · have := fby_len fd.num 2 0 (rec y) h1 (by omega) (by omega) (by omega)
    dsimp only
    omega
theorem nby_len (k n : Int) (hn : n ≤ 18446744073709551615) : (nbytes k n).length ≤ 10 := by
  unfold nbytes
  repeat' split
  · rw [lob_length]; omega
  · rw [lob_length]; omega
  · exact vint_le n hn
theorem pack_len (k : Int) (vs : List Nd) (h : ∀ y ∈ vs, Rg1 y) : (packL k vs).length ≤ sumL (fun _ => 10) vs := by
  unfold packL
  rw [flatLen]
  exact sumL_le fun y hy => nby_len _ _ (num_rg k (h y hy)).2
theorem wire_len {rec : Nd → List Int} {fd : FD} {vs : List Nd} {g : Nd → Nat} (h0 : 1 ≤ fd.num) (h1 : fd.num ≤ 536870911) (hy : ∀ y ∈ vs, Rg1 y) (hr : ∀ y ∈ vs, (rec y).length ≤ g y) (hB : sumL (fun y => g y + 30) vs ≤ 140737488355328) :
    ((wireL rec fd vs).flatMap WF.bytes).length ≤ 30 + sumL (fun y => g y + 30) vs := by
  unfold wireL
  split
  · have h2 := pack_len fd.kind vs hy
    have h3 : sumL (fun _ => 10) vs ≤ sumL (fun y => g y + 30) vs := sumL_le fun y _ => by omega
    have := fby_len fd.num 2 0 (packL fd.kind vs) h1 (by omega) (by omega) (by omega)
    simp only [List.flatMap_cons, List.flatMap_nil, List.append_nil, WF.bytes]
    omega
  · rw [List.flatMap_map, flatLen]
    have : sumL (fun a => (singW rec fd a).bytes.length) vs ≤ sumL (fun y => g y + 30) vs := sumL_le fun y h => by
      have h4 : g y + 30 ≤ sumL (fun y => g y + 30) vs := sumL_mem (g := fun y => g y + 30) h
      have := sing_len (ms := []) h0 h1 (hy y h) (hr y h) (by omega)
      omega
    omega
theorem cont_len {ms : List MD} {f : Nat} {y : Nd} (h : y.kind = 7 → (msgB ms f y).length ≤ bndN f y) : (contB (msgB ms f) y).length ≤ bndN f y := by
  have hs : y.s.length ≤ bndN f y := by cases f <;> unfold bndN <;> omega
  unfold contB
  repeat' split
  · rw [ints_len]; exact hs
  · exact h (by assumption)
  · exact Nat.zero_le _
theorem msg_len {ms : List MD} : ∀ (f : Nat) (x : Nd), EncG ms f x → RngG f x → bndN f x ≤ 140737488355328 → (msgB ms f x).length ≤ bndN f x
  | 0, x, he, hr, hb => by unfold msgB bndN; rw [ints_len]; exact Nat.le_refl _
  | f + 1, x, he, hr, hb => by
    unfold msgB
    unfold bndN at hb ⊢
    rw [List.length_append, ints_len, flatLen]
    have : sumL (fun a => (fldB (contB (msgB ms f)) (fieldsOf ms x.type) a).length) x.fields ≤ sumL (fun p => 30 + sumL (fun y => bndN f y + 30) p.2) x.fields := sumL_le fun p hp => by
      obtain ⟨fd, h1, ⟨h2, h3⟩, h4⟩ := he.2 p hp
      unfold fldB
      rw [h1]
      have hp2 : 30 + sumL (fun y => bndN f y + 30) p.2 ≤ sumL (fun p : Int × List Nd => 30 + sumL (fun y => bndN f y + 30) p.2) x.fields := sumL_mem (g := fun p : Int × List Nd => 30 + sumL (fun y => bndN f y + 30) p.2) hp
      refine wire_len (g := bndN f) h2 h3 (fun y hy => (hr.2 p hp y hy).one) (fun y hy => cont_len fun h7 => ?_) (by omega)
      have hy2 : bndN f y + 30 ≤ sumL (fun y => bndN f y + 30) p.2 := sumL_mem (g := fun y => bndN f y + 30) hy
      exact msg_len f y ((h4 y hy).2 h7) (hr.2 p hp y hy) (by omega)
    omega
/-- the normal value: it fits, it is its own, and it weighs no more -/
theorem norm_kind (ms : List MD) (f : Nat) (x : Nd) : (normN ms f x).kind = x.kind := by
  cases f with
  | zero => rfl
  | succ f => unfold normN; split <;> rfl
theorem norm_else (ms : List MD) (f : Nat) (x : Nd) (h : x.kind ≠ 7) : normN ms f x = x := by
  cases f with
  | zero => rfl
  | succ f => unfold normN; rw [if_neg h]
theorem norm_msg (ms : List MD) (f : Nat) (x : Nd) (h : x.kind = 7) : normN ms (f + 1) x = ⟨x.kind, x.n, x.u, x.b, x.s, x.type, keptL ms (normN ms f) x.type x.fields⟩ := by rw [normN, if_pos h]
theorem kept_mem {ms : List MD} {g : Nd → Nd} {t : Int} {l : List (Int × List Nd)} {q : Int × List Nd} (h : q ∈ keptL ms g t l) : ∃ p ∈ l, keepB (fieldsOf ms t) p = true ∧ q = (p.1, p.2.map g) := by
  unfold keptL at h
  obtain ⟨p, hp, rfl⟩ := List.mem_map.1 h
  rw [List.mem_filter] at hp
  exact ⟨p, hp.1, hp.2, rfl⟩
theorem norm_bnd (ms : List MD) : ∀ (f : Nat) (x : Nd), bndN f (normN ms f x) ≤ bndN f x
  | 0, x => Nat.le_refl _
  | f + 1, x => by
    by_cases h : x.kind = 7
    · rw [norm_msg ms f x h]
      unfold bndN keptL
      dsimp only
      rw [sumL_map]
      dsimp only
      have h2 : sumL (fun p : Int × List Nd => 30 + sumL (fun y => bndN f y + 30) (p.2.map (normN ms f))) (x.fields.filter (keepB (fieldsOf ms x.type))) ≤ sumL (fun p => 30 + sumL (fun y => bndN f y + 30) p.2) (x.fields.filter (keepB (fieldsOf ms x.type))) := sumL_le fun p _ => by
        rw [sumL_map]
        have := sumL_le (l := p.2) (g := fun a => bndN f (normN ms f a) + 30) (h := fun y => bndN f y + 30) fun y _ => by have := norm_bnd ms f y; omega
        omega
      have h3 := sumL_filter (fun p : Int × List Nd => 30 + sumL (fun y => bndN f y + 30) p.2) (keepB (fieldsOf ms x.type)) x.fields
      omega
    · rw [norm_else ms _ x h]; exact Nat.le_refl _
theorem norm_rng (ms : List MD) : ∀ (f : Nat) (x : Nd), RngG f x → RngG f (normN ms f x)
  | 0, x, h => h
  | f + 1, x, h => by
    by_cases h7 : x.kind = 7
    · rw [norm_msg ms f x h7]
      refine ⟨h.1, fun q hq y hy => ?_⟩
      obtain ⟨p, hp, _, rfl⟩ := kept_mem hq
      obtain ⟨z, hz, rfl⟩ := List.mem_map.1 hy
      exact norm_rng ms f z (h.2 p hp z hz)
    · rw [norm_else ms _ x h7]; exact h
theorem norm_fitG (ms : List MD) {bs bf : Nat} : ∀ (f : Nat) (x : Nd), FitG bs bf f x → FitG bs bf f (normN ms f x)
  | 0, x, h => h
  | f + 1, x, h => by
    by_cases h7 : x.kind = 7
    · rw [norm_msg ms f x h7]
      refine ⟨h.1, ?_, fun q hq => ?_⟩
      · refine Nat.le_trans ?_ h.2.1
        unfold keptL
        rw [List.length_map]
        exact List.length_filter_le _ _
      · obtain ⟨p, hp, _, rfl⟩ := kept_mem hq
        refine ⟨by rw [List.length_map]; exact (h.2.2 p hp).1, fun y hy => ?_⟩
        obtain ⟨z, hz, rfl⟩ := List.mem_map.1 hy
        exact norm_fitG ms f z ((h.2.2 p hp).2 z hz)
    · rw [norm_else ms _ x h7]; exact h
/-- rising numbers -/
def RiseF : Int → List (Int × List Nd) → Prop
  | _, [] => True
  | a, p :: l => a < p.1 ∧ RiseF p.1 l
theorem rise_lt {a b : Int} (h : b ≤ a) : ∀ {l : List (Int × List Nd)}, RiseF a l → RiseF b l
  | [], _ => trivial
  | p :: l, h2 => ⟨by have := h2.1; omega, h2.2⟩
theorem rise_filter {p : Int × List Nd → Bool} : ∀ {a : Int} {l : List (Int × List Nd)}, RiseF a l → RiseF a (l.filter p)
  | a, [], h => trivial
  | a, q :: l, h => by
    rw [List.filter_cons]
    split
    · exact ⟨h.1, rise_filter h.2⟩
    · exact rise_filter (rise_lt (Int.le_of_lt h.1) h.2)
theorem rise_map {g : List Nd → List Nd} : ∀ {a : Int} {l : List (Int × List Nd)}, RiseF a l → RiseF a (l.map fun p => (p.1, g p.2))
  | a, [], h => trivial
  | a, q :: l, h => ⟨h.1, rise_map h.2⟩
def prevA (a : Int) (fl : List (Int × List Nd)) : Nat → Int
  | 0 => a
  | k + 1 => match fl[k]? with
    | some f => f.1
    | none => 0
theorem rise_iff : ∀ {a : Int} {l : List (Int × List Nd)}, RiseF a l ↔ ∀ (k : Nat) (y : Int × List Nd), l[k]? = some y → prevA a l k < y.1
  | a, [] => ⟨fun _ k y h => by simp at h, fun _ => trivial⟩
  | a, q :: l => by
    refine ⟨fun h k y hk => ?_, fun h => ⟨h 0 q rfl, rise_iff.2 fun k y hk => ?_⟩⟩
    · cases k with
      | zero => have e : q = y := by simpa using hk
                rw [← e]; exact h.1
      | succ k =>
        have := rise_iff.1 h.2 k y (by simpa using hk)
        cases k with
        | zero => simpa [prevA] using this
        | succ k => simpa [prevA] using this
    · have := h (k + 1) y (by simpa using hk)
      cases k with
      | zero => simpa [prevA] using this
      | succ k => simpa [prevA] using this
theorem prev_eq (fl : List (Int × List Nd)) (k : Nat) : prevF fl k = prevA 0 fl k := by cases k <;> rfl
theorem norm_fit {ms : List MD} (hk : NumOK ms) : ∀ (f : Nat) (dep t : Int) (x : Nd), 0 ≤ t → t < (ms.length : Int) → fitP ms f dep t x = true → fitP ms f dep t (normN ms f x) = true := by
  intro f
  induction f with
  | zero => intro dep t x h0 h1 h; exact h
  | succ f ih =>
    intro dep t x h0 h1 h
    have hall := h
    rw [fitP_eq, topP, Bool.and_eq_true, decide_eq_true_eq] at h
    obtain ⟨⟨hk7, ht, hdep⟩, hb⟩ := h
    rw [norm_msg ms f x hk7, fitP_eq, topP, Bool.and_eq_true, decide_eq_true_eq]
    refine ⟨⟨hk7, ht, hdep⟩, ?_⟩
    cases hm : ms[t.toNat]? with
    | none => rw [hm] at hb; cases hb
    | some m =>
      rw [hm] at hb
      simp only at hb ⊢
      unfold bodyP at hb ⊢
      rw [Bool.and_eq_true] at hb ⊢
      refine ⟨?_, hb.2⟩
      dsimp only
      have hrise : RiseF 0 x.fields := rise_iff.2 fun k y hy => by
        have h2 := allA_iff.1 hb.1 k y hy
        rw [Bool.and_eq_true] at h2
        rw [← prev_eq]
        exact of_decide_eq_true h2.1
      have hrise2 : RiseF 0 (keptL ms (normN ms f) x.type x.fields) := rise_map (g := fun l => l.map (normN ms f)) (rise_filter hrise)
      refine allA_iff.2 fun k q hq => ?_
      rw [Bool.and_eq_true]
      refine ⟨by rw [prev_eq]; exact decide_eq_true (rise_iff.1 hrise2 k q hq), ?_⟩
      obtain ⟨p, hp, hkeep, rfl⟩ := kept_mem (List.mem_of_getElem? hq)
      obtain ⟨j, hj⟩ := List.getElem?_of_mem hp
      have h2 := allA_iff.1 hb.1 j p hj
      rw [Bool.and_eq_true] at h2
      have h3 := h2.2
      unfold fldP at h3 ⊢
      dsimp only
      cases hf : firstF m.fields p.1 with
      | none => rw [hf] at h3; cases h3
      | some fd =>
        rw [hf] at h3
        simp only [Bool.and_eq_true, List.length_map] at h3 ⊢
        refine ⟨h3.1, h3.2.1, allA_iff.2 fun a z hz => ?_⟩
        rw [List.getElem?_map] at hz
        obtain ⟨y, hy, rfl⟩ := Option.map_eq_some_iff.1 hz
        have h6 := allA_iff.1 h3.2.2 a y hy
        obtain ⟨hnum, hty⟩ := hk m (List.mem_of_getElem? hm) fd (firstF_some hf).1
        unfold valP at h6 ⊢
        split
        · rename_i h10
          rw [if_pos h10] at h6
          exact ih (dep + 1) fd.type y (hty h10).1 (hty h10).2 h6
        · rename_i h10
          rw [if_neg h10] at h6
          by_cases h7 : y.kind = 7
          · unfold kindB at h6
            rw [h7] at h6
            repeat' split at h6
            all_goals simp at h6
          · rw [norm_else ms f y h7]; exact h6
end Go.Proofs.YtfhmombnipfimaaGreatDoor
namespace Go.Proofs.YtfhmombnipfimaaGreatDoor
set_option linter.unusedVariables false
open Go.ChangeShapes Go.WideShapes Go.ChangeAt Go.RowKit

theorem ta_hit {P : Program} (T X : TypeId) (d : TypeDesc) (v : Value) (W : World) (hu : P.underlying T = some d) (hd : ∀ m, d ≠ .interface m) : (Instr.typeAssert (.iface T v) X T true).run P W = .ok (.tuple #[v, .bool true]) W := by
  cases d <;> first | (exact absurd rfl (hd _)) | simp [Instr.typeAssert, run_underlying hu]
theorem ta_miss {P : Program} (T U X : TypeId) (d : TypeDesc) (v z : Value) (W : World) (hu : P.underlying T = some d) (hd : ∀ m, d ≠ .interface m) (hU : U ≠ T) (hz : (P.info? T).map (fun i => i.zero) = some (some z)) : (Instr.typeAssert (.iface U v) X T true).run P W = .ok (.tuple #[z, .bool false]) W := by
  obtain ⟨i, hi, hz⟩ := Option.map_eq_some_iff.1 hz
  cases d <;> first | (exact absurd rfl (hd _)) | simp [Instr.typeAssert, run_underlying hu, hU, zeroValue, typeInfo, hi, hz]
theorem ta_nil {P : Program} (T X : TypeId) (d : TypeDesc) (z : Value) (W : World) (hu : P.underlying T = some d) (hd : ∀ m, d ≠ .interface m) (hz : (P.info? T).map (fun i => i.zero) = some (some z)) : (Instr.typeAssert .nilIface X T true).run P W = .ok (.tuple #[z, .bool false]) W := by
  obtain ⟨i, hi, hz⟩ := Option.map_eq_some_iff.1 hz
  cases d <;> first | (exact absurd rfl (hd _)) | simp [Instr.typeAssert, run_underlying hu, zeroValue, typeInfo, hi, hz]
/-- a value's kind is asked by its type -/
theorem ta_any (K : Int) (T : TypeId) (d : TypeDesc) (z : Value) (inn : Nd → Value → Value) (y : Nd) (fs : Value) (hu : Tryz.prog.underlying T = some d) (hd : ∀ m, d ≠ .interface m) (hz : (Tryz.prog.info? T).map (fun i => i.zero) = some (some z))
    (hit : ∀ y fs, y.kind = K → ival y fs = .iface T (inn y fs)) (miss : ∀ y fs, y.kind ≠ K → (∃ U v, ival y fs = .iface U v ∧ U ≠ T) ∨ ival y fs = .nilIface) (W : World) :
    (Instr.typeAssert (ival y fs) 34 T true).run Tryz.prog W = .ok (.tuple #[if y.kind = K then inn y fs else z, .bool (decide (y.kind = K))]) W := by
  by_cases h : y.kind = K
  · rw [if_pos h, decide_eq_true h, hit y fs h]; exact ta_hit T _ d _ W hu hd
  · rw [if_neg h, decide_eq_false h]
    rcases miss y fs h with ⟨U, v, e, hU⟩ | e
    · rw [e]; exact ta_miss T U _ d _ z W hu hd hU hz
    · rw [e]; exact ta_nil T _ d z W hu hd hz
theorem ival_cases (y : Nd) (fs : Value) : (y.kind = 1 ∧ ival y fs = .iface 74 (.int .i64 y.n)) ∨ (y.kind = 2 ∧ ival y fs = .iface 65 (.int .u64 y.u)) ∨ (y.kind = 3 ∧ ival y fs = .iface 75 (.bool y.b)) ∨ (y.kind = 4 ∧ ival y fs = .iface 76 (.string (mkB y.s))) ∨
    (y.kind = 5 ∧ ival y fs = .iface 77 (.string (mkB y.s))) ∨ (y.kind = 6 ∧ ival y fs = .iface 78 (.int .i32 (IntKind.i32.wrap y.n))) ∨ (y.kind = 7 ∧ ival y fs = .iface 64 (.agg #[.int .i64 y.type, fs, .string (mkB y.s)])) ∨ ((y.kind < 1 ∨ 7 < y.kind) ∧ ival y fs = .nilIface) := by
  unfold ival
  by_cases h1 : y.kind = 1
  · left; rw [if_pos h1]; exact ⟨h1, rfl⟩
  by_cases h2 : y.kind = 2
  · right; left; rw [if_neg h1, if_pos h2]; exact ⟨h2, rfl⟩
  by_cases h3 : y.kind = 3
  · right; right; left; rw [if_neg h1, if_neg h2, if_pos h3]; exact ⟨h3, rfl⟩
  by_cases h4 : y.kind = 4
  · right; right; right; left; rw [if_neg h1, if_neg h2, if_neg h3, if_pos h4]; exact ⟨h4, rfl⟩
  by_cases h5 : y.kind = 5
  · right; right; right; right; left; rw [if_neg h1, if_neg h2, if_neg h3, if_neg h4, if_pos h5]; exact ⟨h5, rfl⟩
  by_cases h6 : y.kind = 6
  · right; right; right; right; right; left; rw [if_neg h1, if_neg h2, if_neg h3, if_neg h4, if_neg h5, if_pos h6]; exact ⟨h6, rfl⟩
  by_cases h7 : y.kind = 7
  · right; right; right; right; right; right; left; rw [if_neg h1, if_neg h2, if_neg h3, if_neg h4, if_neg h5, if_neg h6, if_pos h7]; exact ⟨h7, rfl⟩
  · right; right; right; right; right; right; right; rw [if_neg h1, if_neg h2, if_neg h3, if_neg h4, if_neg h5, if_neg h6, if_neg h7]; exact ⟨by omega, rfl⟩
theorem taInt (y : Nd) (fs : Value) (W : World) : (Instr.typeAssert (ival y fs) 34 74 true).run Tryz.prog W = .ok (.tuple #[if y.kind = 1 then .int .i64 y.n else .int .i64 0, .bool (decide (y.kind = 1))]) W :=
  ta_any 1 74 (.int .i64) (.int .i64 0) (fun y _ => .int .i64 y.n) y fs (by kernel_rfl) (fun m h => by cases h) (by kernel_rfl)
    (fun y fs h => by rcases ival_cases y fs with ⟨k, e⟩ | ⟨k, e⟩ | ⟨k, e⟩ | ⟨k, e⟩ | ⟨k, e⟩ | ⟨k, e⟩ | ⟨k, e⟩ | ⟨k, e⟩ <;> first | exact e | omega)
    (fun y fs h => by rcases ival_cases y fs with ⟨k, e⟩ | ⟨k, e⟩ | ⟨k, e⟩ | ⟨k, e⟩ | ⟨k, e⟩ | ⟨k, e⟩ | ⟨k, e⟩ | ⟨k, e⟩ <;> first | exact absurd k h | exact .inl ⟨_, _, e, by decide⟩ | exact .inr e) W
theorem taUint (y : Nd) (fs : Value) (W : World) : (Instr.typeAssert (ival y fs) 34 65 true).run Tryz.prog W = .ok (.tuple #[if y.kind = 2 then .int .u64 y.u else .int .u64 0, .bool (decide (y.kind = 2))]) W :=
  ta_any 2 65 (.int .u64) (.int .u64 0) (fun y _ => .int .u64 y.u) y fs (by kernel_rfl) (fun m h => by cases h) (by kernel_rfl)
    (fun y fs h => by rcases ival_cases y fs with ⟨k, e⟩ | ⟨k, e⟩ | ⟨k, e⟩ | ⟨k, e⟩ | ⟨k, e⟩ | ⟨k, e⟩ | ⟨k, e⟩ | ⟨k, e⟩ <;> first | exact e | omega)
    (fun y fs h => by rcases ival_cases y fs with ⟨k, e⟩ | ⟨k, e⟩ | ⟨k, e⟩ | ⟨k, e⟩ | ⟨k, e⟩ | ⟨k, e⟩ | ⟨k, e⟩ | ⟨k, e⟩ <;> first | exact absurd k h | exact .inl ⟨_, _, e, by decide⟩ | exact .inr e) W
theorem taBool (y : Nd) (fs : Value) (W : World) : (Instr.typeAssert (ival y fs) 34 75 true).run Tryz.prog W = .ok (.tuple #[if y.kind = 3 then .bool y.b else .bool false, .bool (decide (y.kind = 3))]) W :=
  ta_any 3 75 (.bool) (.bool false) (fun y _ => .bool y.b) y fs (by kernel_rfl) (fun m h => by cases h) (by kernel_rfl)
    (fun y fs h => by rcases ival_cases y fs with ⟨k, e⟩ | ⟨k, e⟩ | ⟨k, e⟩ | ⟨k, e⟩ | ⟨k, e⟩ | ⟨k, e⟩ | ⟨k, e⟩ | ⟨k, e⟩ <;> first | exact e | omega)
    (fun y fs h => by rcases ival_cases y fs with ⟨k, e⟩ | ⟨k, e⟩ | ⟨k, e⟩ | ⟨k, e⟩ | ⟨k, e⟩ | ⟨k, e⟩ | ⟨k, e⟩ | ⟨k, e⟩ <;> first | exact absurd k h | exact .inl ⟨_, _, e, by decide⟩ | exact .inr e) W
theorem taText (y : Nd) (fs : Value) (W : World) : (Instr.typeAssert (ival y fs) 34 76 true).run Tryz.prog W = .ok (.tuple #[if y.kind = 4 then .string (mkB y.s) else .string ⟨#[]⟩, .bool (decide (y.kind = 4))]) W :=
  ta_any 4 76 (.string) (.string ⟨#[]⟩) (fun y _ => .string (mkB y.s)) y fs (by kernel_rfl) (fun m h => by cases h) (by kernel_rfl)
    (fun y fs h => by rcases ival_cases y fs with ⟨k, e⟩ | ⟨k, e⟩ | ⟨k, e⟩ | ⟨k, e⟩ | ⟨k, e⟩ | ⟨k, e⟩ | ⟨k, e⟩ | ⟨k, e⟩ <;> first | exact e | omega)
    (fun y fs h => by rcases ival_cases y fs with ⟨k, e⟩ | ⟨k, e⟩ | ⟨k, e⟩ | ⟨k, e⟩ | ⟨k, e⟩ | ⟨k, e⟩ | ⟨k, e⟩ | ⟨k, e⟩ <;> first | exact absurd k h | exact .inl ⟨_, _, e, by decide⟩ | exact .inr e) W
theorem taBytes (y : Nd) (fs : Value) (W : World) : (Instr.typeAssert (ival y fs) 34 77 true).run Tryz.prog W = .ok (.tuple #[if y.kind = 5 then .string (mkB y.s) else .string ⟨#[]⟩, .bool (decide (y.kind = 5))]) W :=
  ta_any 5 77 (.string) (.string ⟨#[]⟩) (fun y _ => .string (mkB y.s)) y fs (by kernel_rfl) (fun m h => by cases h) (by kernel_rfl)
    (fun y fs h => by rcases ival_cases y fs with ⟨k, e⟩ | ⟨k, e⟩ | ⟨k, e⟩ | ⟨k, e⟩ | ⟨k, e⟩ | ⟨k, e⟩ | ⟨k, e⟩ | ⟨k, e⟩ <;> first | exact e | omega)
    (fun y fs h => by rcases ival_cases y fs with ⟨k, e⟩ | ⟨k, e⟩ | ⟨k, e⟩ | ⟨k, e⟩ | ⟨k, e⟩ | ⟨k, e⟩ | ⟨k, e⟩ | ⟨k, e⟩ <;> first | exact absurd k h | exact .inl ⟨_, _, e, by decide⟩ | exact .inr e) W
theorem taEnum (y : Nd) (fs : Value) (W : World) : (Instr.typeAssert (ival y fs) 34 78 true).run Tryz.prog W = .ok (.tuple #[if y.kind = 6 then .int .i32 (IntKind.i32.wrap y.n) else .int .i32 0, .bool (decide (y.kind = 6))]) W :=
  ta_any 6 78 (.int .i32) (.int .i32 0) (fun y _ => .int .i32 (IntKind.i32.wrap y.n)) y fs (by kernel_rfl) (fun m h => by cases h) (by kernel_rfl)
    (fun y fs h => by rcases ival_cases y fs with ⟨k, e⟩ | ⟨k, e⟩ | ⟨k, e⟩ | ⟨k, e⟩ | ⟨k, e⟩ | ⟨k, e⟩ | ⟨k, e⟩ | ⟨k, e⟩ <;> first | exact e | omega)
    (fun y fs h => by rcases ival_cases y fs with ⟨k, e⟩ | ⟨k, e⟩ | ⟨k, e⟩ | ⟨k, e⟩ | ⟨k, e⟩ | ⟨k, e⟩ | ⟨k, e⟩ | ⟨k, e⟩ <;> first | exact absurd k h | exact .inl ⟨_, _, e, by decide⟩ | exact .inr e) W
theorem taMessage (y : Nd) (fs : Value) (W : World) : (Instr.typeAssert (ival y fs) 34 64 true).run Tryz.prog W = .ok (.tuple #[if y.kind = 7 then .agg #[.int .i64 y.type, fs, .string (mkB y.s)] else .agg #[.int .i64 0, .slice none 0 0, .string ⟨#[]⟩], .bool (decide (y.kind = 7))]) W :=
  ta_any 7 64 _ (.agg #[.int .i64 0, .slice none 0 0, .string ⟨#[]⟩]) (fun y fs => .agg #[.int .i64 y.type, fs, .string (mkB y.s)]) y fs Tryz.underlying64 (fun m h => by cases h) (by kernel_rfl)
    (fun y fs h => by rcases ival_cases y fs with ⟨k, e⟩ | ⟨k, e⟩ | ⟨k, e⟩ | ⟨k, e⟩ | ⟨k, e⟩ | ⟨k, e⟩ | ⟨k, e⟩ | ⟨k, e⟩ <;> first | exact e | omega)
    (fun y fs h => by rcases ival_cases y fs with ⟨k, e⟩ | ⟨k, e⟩ | ⟨k, e⟩ | ⟨k, e⟩ | ⟨k, e⟩ | ⟨k, e⟩ | ⟨k, e⟩ | ⟨k, e⟩ <;> first | exact absurd k h | exact .inl ⟨_, _, e, by decide⟩ | exact .inr e) W
end Go.Proofs.YtfhmombnipfimaaGreatDoor
namespace Go.Proofs.YtfhmombnipfimaaGreatDoor
set_option linter.unusedVariables false
open Go.ChangeShapes Go.WideShapes Go.ChangeAt Go.RowKit

set_option maxHeartbeats 1000000 in
theorem formedW_any (num ty n : Int) (a : Option Addr) (len cap : Nat) (w : World) :
    Calls Tryz.prog 143 #[fv num ty n a len cap] w fun e w' => e = .returned (.bool (fmd num ty n len)) ∧ Below w.heap.size w w' := by
  unfold fv
  go_enter Tryz.func143, Tryz.ntmps143
  go_wp2
  all_goals
    go_ret
    refine ⟨ret_bool ?_, (Below.refl _ _).alloc (Nat.le_refl _) _⟩
    try simp only [beq_iff_eq, beq_eq_false_iff_ne, ne_eq] at *
    unfold fmd
    rw [Bool.eq_iff_iff]
    simp
    omega
end Go.Proofs.YtfhmombnipfimaaGreatDoor
namespace Go.Proofs.YtfhmombnipfimaaGreatDoor
open Go.Shelf
def lays129_ren : Go.Shelf.Ren := ⟨fun | 129 => 169 | n => n, fun | 53 => 27 | 3 => 3 | 4 => 4 | 46 => 57 | 5 => 5 | 9 => 9 | n => n, fun | n => n⟩
theorem lays129 : Go.Proofs.Lays.n129 Tryz.prog lays129_ren := {
  mixed := by kernel_rfl
  f129 := Tryz.func169.trans (congrArg some (by kernel_rfl))
  t3 := Tryz.underlying3
  a3 := Tryz.isAgg3
  z3 := Tryz.sizeOf3
  v3 := Tryz.zeroValue3
  t4 := Tryz.underlying4
  a4 := Tryz.isAgg4
  z4 := Tryz.sizeOf4
  v4 := Tryz.zeroValue4
  t5 := Tryz.underlying5
  a5 := Tryz.isAgg5
  z5 := Tryz.sizeOf5
  v5 := Tryz.zeroValue5
  t9 := Tryz.underlying9
  a9 := Tryz.isAgg9
  z9 := Tryz.sizeOf9
  v9 := Tryz.zeroValue9
  t46 := Tryz.underlying57
  a46 := Tryz.isAgg57
  z46 := Tryz.sizeOf57
  v46 := Tryz.zeroValue57
  t53 := Tryz.underlying27
  a53 := Tryz.isAgg27
  z53 := Tryz.sizeOf27
  v53 := Tryz.zeroValue27 }
theorem bits_Len64 (x : Int) (w : World) (h0 : 0 ≤ x) (h1 : x ≤ 18446744073709551615) :
    Calls Tryz.prog 169 #[.int .u64 x] w fun e w' => e = .returned (.int .i64 (Lib.bitLen x.toNat)) ∧ w' = w := Any.bits_Len64 lays129 x w h0 h1
def laysSlK4_ren : Go.Shelf.Ren := ⟨fun | 4 => 120 | n => n, fun | 22 => 46 | 4 => 4 | 5 => 5 | n => n, fun | n => n⟩
theorem laysSlK4 : Go.Proofs.SlLaysK.n4 Tryz.prog laysSlK4_ren := {
  mixed := by kernel_rfl
  f4 := Tryz.func120.trans (congrArg some (by kernel_rfl))
  t4 := Tryz.underlying4
  a4 := Tryz.isAgg4
  z4 := Tryz.sizeOf4
  v4 := Tryz.zeroValue4
  t22 := Tryz.underlying46
  a22 := Tryz.isAgg46
  z22 := Tryz.sizeOf46
  v22 := Tryz.zeroValue46
  t5 := Tryz.underlying5
  i5 := by kernel_rfl }
open Go.RowKit Go.Lib in
theorem bytes_Clone_at (a : Addr) (n c : Nat) (xs : List Int) (w : World) (hx : xs.length = n) (hbig : n ≤ 140737488355328) (hc : ∀ i, i < n → w.cell? (a.add i) = some (.int .u8 (xs.getD i 0))) :
    Calls Tryz.prog 120 #[.slice (some a) n c] w fun e w' => ∃ v', e = .returned v' ∧ w'.ownsRow w.heap.size 5 1 v' n (xs.map (Value.int .u8)) ∧ v' ≠ .slice none 0 0 ∧ Below w.heap.size w w' := Any.bytes_Clone_at laysSlK4 a n c xs w hx hbig hc
end Go.Proofs.YtfhmombnipfimaaGreatDoor
namespace Go.Proofs.YtfhmombnipfimaaGreatDoor
set_option linter.unusedVariables false
open Go.ChangeShapes Go.WideShapes Go.ChangeAt Go.RowKit

set_option maxHeartbeats 1000000 in
theorem size_any (n : Nat) (w : World) (h : n ≤ 18446744073709551615) :
    Calls Tryz.prog 159 #[.int .u64 n] w fun e w' => e = .returned (.int .i64 ((vint n).length : Nat)) ∧ w' = w := by
  have hor : bits .or .u64 (n : Int) 1 = ((n ||| 1 : Nat) : Int) := bits_or_u64_nat n 1 (by omega) (by decide)
  have hb : (n ||| 1) ≤ 18446744073709551615 := by rw [or_one]; omega
  have HS : Hid ((Lib.bitLen (n ||| 1) + 6) / 7 = (vint n).length) := size_of n h
  have hle := vint_ten h
  generalize (n ||| 1) = m at *
  generalize (vint n).length = L at *
  have hbl : Lib.bitLen m ≤ 70 := by have := HS.out; omega
  go_enter Tryz.func159, Tryz.ntmps159
  go_wp2_with fail
  refine (bits_Len64 _ _ (by omega) (by omega)).mono ?_
  rintro e w' ⟨rfl, rfl⟩
  rw [Int.toNat_natCast]
  go_wp2_with fail
  go_ret
  exact ⟨ret_int (by have := HS.out; omega), rfl⟩
theorem app_at (zs d : List Int) (k p len : Nat) (hk : 1 ≤ k) (hp : d.length = p) (hl : zs.length = len) : (zs ++ (d ++ List.replicate k 0))[len + p]? = some 0 := by
  subst hl hp
  rw [List.getElem?_append_right (by omega), List.getElem?_append_right (by omega), show zs.length + d.length - zs.length - d.length = 0 by omega]
  obtain ⟨m, rfl⟩ : ∃ m, k = m + 1 := ⟨k - 1, by omega⟩
  simp [List.replicate_succ]
theorem app_set (w : World) (zs d : List Int) (k p len : Nat) (z : Int) (hp : d.length = p) (hl : zs.length = len) :
    (blk w 5 (zs ++ (d ++ List.replicate (k + 1) 0))).setCell ⟨w.heap.size, len + p, none⟩ (.int .u8 z) = blk w 5 (zs ++ ((d ++ [z]) ++ List.replicate k 0)) := by
  subst hl hp
  rw [blk_set]
  congr 1
  rw [List.set_append_right _ _ (by omega), List.set_append_right _ _ (by omega)]
  simp [List.replicate_succ]
theorem or128 (m : Int) (h : 0 ≤ m) : bits .or .u8 (m % 256) 128 = m % 128 + 128 := by
  rw [Lib.u8_or128_any _ (by omega) (by omega)]; omega

set_option maxHeartbeats 1000000 in
theorem append_any (a : Option Addr) (len cap : Nat) (zs : List Int) (n : Nat) (w : World) (hB : IsB w a len zs) (hn : n ≤ 18446744073709551615) (hl : len ≤ 140737488351232) :
    Calls Tryz.prog 144 #[.slice a len cap, .int .u64 n] w fun e w' =>
      e = .returned (.slice (some ⟨w.heap.size, 0, none⟩) (len + (vint n).length) (len + (vint n).length)) ∧ w' = blk w 5 (zs ++ vint n) := by
  have HB : Hid (IsB w a len zs) := hB
  have HL : Hid (zs.length = len) := hB.1
  have hle := vint_ten hn
  have hsz := fun w => size_any n w hn
  obtain ⟨L, hL⟩ : ∃ L, (vint n).length = L := ⟨_, rfl⟩
  rw [hL] at hle ⊢
  have HZ : Hid (∀ w : World, Calls Tryz.prog 159 #[.int .u64 n] w fun e w' => e = .returned (.int .i64 (L : Nat)) ∧ w' = w) := by
    rw [hL] at hsz; exact hsz
  have HLn : Hid ((vint n).length = L) := hL
  have HN : Hid (n ≤ 18446744073709551615) := hn
  have hnI : (n : Int) ≤ 18446744073709551615 := by omega
  clear hB hsz hL hn
  go_enter Tryz.func144, Tryz.ntmps144
  go_wp2_with fail
  refine (HZ.out _).mono ?_
  rintro e w' ⟨rfl, rfl⟩
  clear HZ
  go_wp2_with fail
  refine (grown_any _ _ _ zs L _ HB.out (by omega)).mono ?_
  rintro e w2 ⟨rfl, rfl⟩
  clear HB
  go_wp2_with fail
  go_loopw [1, 6] (fun x i wr => ∃ (d : List Int) (m p k : Nat) (M : Int), M = (m : Int) ∧ (vint n = d ++ vint m) ∧ (vint m).length = k ∧ p + k = L ∧ 1 ≤ k ∧ m ≤ 18446744073709551615 ∧ d.length = p ∧ p ≤ 10 ∧ x = .int .u64 M ∧ i = .int .i64 (len + p : Nat) ∧ wr = blk w' 5 (zs ++ (d ++ List.replicate k 0))) (fun x _ _ => (intOf x).toNat)
  case atStart => exact ⟨[], n, 0, L, n, rfl, rfl, HLn.out, by omega, by have := vint_pos n; rw [HLn.out] at this; exact this, HN.out, rfl, by omega, rfl, by simp, rfl⟩
  case round =>
    obtain ⟨d, m, p, k, M, hM, hv, hk, hpk, hvp, hm, hp, hp10, rfl, rfl, hwr⟩ := hrel
    have HW : Hid (wr = blk w' 5 (zs ++ (d ++ List.replicate k 0))) := hwr
    have HV : Hid (vint n = d ++ vint m) := hv
    have HP : Hid (d.length = p) := hp
    have HK : Hid ((vint m).length = k) := hk
    have hpl : p + k ≤ L := by omega
    have hmI : 0 ≤ M ∧ M ≤ 18446744073709551615 := by omega
    have HM : Hid (m ≤ 18446744073709551615) := hm
    have HMM : Hid (M = (m : Int)) := hM
    have hor : bits .or .u8 (M % 256) 128 = M % 128 + 128 := or128 M hmI.1
    clear hm hM
    have HPK : Hid (p + k = L) := hpk
    clear hwr hv hp hk hpk
    have hcell : wr.cell? ⟨w'.heap.size, len + p, none⟩ = some (.int .u8 0) := by
      rw [HW.out]; exact blk_cell w' 5 _ (app_at zs d _ p len hvp HP.out HL.out)
    have hfro : wr.frozen? ⟨w'.heap.size, len + p, none⟩ = false := by
      rw [HW.out]; exact blk_frozen w' 5 _ _
    by_cases h : 128 ≤ M
    · have HE : Hid (vint m = ((m % 128 + 128 : Nat) : Int) :: vint (m / 128)) := vint_big (by have := HMM.out; omega)
      have e2 : Hid (((m % 128 + 128 : Nat) : Int) = M % 128 + 128) := by
        refine (?_ : ((m % 128 + 128 : Nat) : Int) = M % 128 + 128)
        rw [HMM.out]; omega
      obtain ⟨k', hk'⟩ : ∃ k', k = k' + 1 := ⟨k - 1, by omega⟩
      have HKK : Hid (k = k' + 1) := hk'
      clear hk'
      go_wp2
      go_roundw
      case rel =>
        have hk' := HKK.out
        refine ⟨d ++ [M % 128 + 128], m / 128, p + 1, k', M / 128, ?_, ?_, ?_, ?_, ?_, ?_, ?_, ?_, rfl, ?_, ?_⟩
        · have := HMM.out; omega
        · rw [HV.out, HE.out, List.append_assoc, List.singleton_append, e2.out]
        · have := HK.out
          rw [HE.out, List.length_cons] at this; omega
        · have := HPK.out; omega
        · have := HK.out
          rw [HE.out, List.length_cons] at this
          have := vint_pos (m / 128); omega
        · have := HM.out; omega
        · rw [List.length_append, HP.out]; rfl
        · omega
        · go_num
        · rw [HW.out, hk']
          exact app_set w' zs d k' p len _ HP.out HL.out
      case measure => simp [intOf]; omega
    · have HE : Hid (vint m = [(m : Int)]) := vint_small (by have := HMM.out; omega)
      go_wp2
      go_ret
      refine ⟨rfl, ?_⟩
      have hk1 : k = 0 + 1 := by have := HK.out; rw [HE.out] at this; simpa using this.symm
      rw [HW.out, hk1, app_set w' zs d 0 p len _ HP.out HL.out, HV.out, HE.out, HMM.out]
      simp
end Go.Proofs.YtfhmombnipfimaaGreatDoor
