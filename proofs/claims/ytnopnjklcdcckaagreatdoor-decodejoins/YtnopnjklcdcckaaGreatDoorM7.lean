/-
  A value's bytes, as plain functions, and what its normal value keeps. Nothing is proved of the program here.
  What bytes are, read as a message, as plain functions. Nothing is proved of the program here.
-/
import Derived.Test.YtnopnjklcdcckaaGreatDoorM6
namespace Go.Proofs.YtnopnjklcdcckaaGreatDoor
set_option linter.unusedVariables false

/-- the number that a value is written as -/
def zigI (n : Int) : Int := if n < 0 then -2 * n - 1 else 2 * n
def numP (k : Int) (y : Nd) : Int :=
  if y.kind = 1 then (if k = 3 then zigI y.n else IntKind.u64.wrap y.n) else if y.kind = 2 then y.u else if y.kind = 6 then IntKind.u64.wrap (IntKind.i32.wrap y.n) else if y.kind = 3 then (if y.b then 1 else 0) else 0
def isNum (k : Int) : Bool := decide (k ≠ 5 ∧ k ≠ 6 ∧ k ≠ 10)
def nbytes (k n : Int) : List Int := if k = 7 then lob (n % 4294967296) 4 else if k = 8 then lob n 8 else vint n.toNat
def packL (k : Int) (vs : List Nd) : List Int := vs.flatMap fun v => nbytes k (numP k v)
/-- a field of layer 2 -/
structure WF where
  num : Int
  ty : Int
  n : Int
  d : List Int
def WF.bytes (x : WF) : List Int := fbytes x.num x.ty x.n x.d
def singW (rec : Nd → List Int) (fd : FD) (v : Nd) : WF := if isNum fd.kind then ⟨fd.num, if fd.kind = 7 then 5 else if fd.kind = 8 then 1 else 0, numP fd.kind v, []⟩ else ⟨fd.num, 2, 0, rec v⟩
def wireL (rec : Nd → List Int) (fd : FD) (vs : List Nd) : List WF := if fd.rep && isNum fd.kind then [⟨fd.num, 2, 0, packL fd.kind vs⟩] else vs.map (singW rec fd)
def contB (msg : Nd → List Int) (v : Nd) : List Int := if v.kind = 4 ∨ v.kind = 5 then ints v.s else if v.kind = 7 then msg v else []
def fldB (rec : Nd → List Int) (fs : List FD) (p : Int × List Nd) : List Int := match firstF fs p.1 with
  | none => []
  | some fd => (wireL rec fd p.2).flatMap WF.bytes
def msgB (ms : List MD) : Nat → Nd → List Int
  | 0, y => ints y.s
  | f + 1, y => (y.fields.flatMap (fldB (contB (msgB ms f)) (fieldsOf ms y.type))) ++ ints y.s
theorem num_rg (k : Int) {y : Nd} (h : Rg1 y) : 0 ≤ numP k y ∧ numP k y ≤ 18446744073709551615 := by
  obtain ⟨⟨h1, h2⟩, h3, h4⟩ := h
  unfold numP zigI
  repeat' split
  all_goals first
    | omega
    | (rw [IntKind.wrap_u64]; omega)
theorem vint_le (n : Int) (h : n ≤ 18446744073709551615) : (vint n.toNat).length ≤ 10 := vint_ten (by omega)
theorem fby_len (num ty n : Int) (d : List Int) (h1 : num ≤ 536870911) (h2 : ty ≤ 5) (hn : n ≤ 18446744073709551615) (hd : d.length ≤ 140737488355328) : (fbytes num ty n d).length ≤ d.length + 20 := by
  unfold fbytes
  have h3 := vint_le (8 * num + ty) (by omega)
  rw [List.length_append]
  repeat' split
  · have := vint_le n hn; omega
  · rw [lob_length]; omega
  · rw [lob_length]; omega
  · have := vint_ten (n := d.length) (by omega)
    rw [List.length_append]; omega
/-- a value whose bytes can be made: what fits -/
def EncG (ms : List MD) : Nat → Nd → Prop
  | 0, x => x.kind = 7 ∧ 0 ≤ x.type ∧ x.type < (ms.length : Int)
  | f + 1, x => (x.kind = 7 ∧ 0 ≤ x.type ∧ x.type < (ms.length : Int)) ∧ ∀ p ∈ x.fields, ∃ fd, firstF (fieldsOf ms x.type) p.1 = some fd ∧ (1 ≤ fd.num ∧ fd.num ≤ 536870911) ∧ ∀ y ∈ p.2, (fd.kind = 7 → numP 7 y < 4294967296) ∧ (y.kind = 7 → EncG ms f y)
theorem EncG.one {ms : List MD} {f : Nat} {x : Nd} (h : EncG ms f x) : x.kind = 7 ∧ 0 ≤ x.type ∧ x.type < (ms.length : Int) := by
  cases f with
  | zero => exact h
  | succ f => exact h.1
def NumOK (ms : List MD) : Prop := ∀ m ∈ ms, ∀ x ∈ m.fields, (1 ≤ x.num ∧ x.num ≤ 536870911) ∧ (x.kind = 10 → 0 ≤ x.type ∧ x.type < (ms.length : Int))
theorem encG_of {ms : List MD} (hk : NumOK ms) : ∀ (f : Nat) (dep t : Int) (x : Nd), 0 ≤ t → t < (ms.length : Int) → fitP ms f dep t x = true → EncG ms f x := by
  intro f
  induction f with
  | zero =>
    intro dep t x h0 h1 h
    rw [fitP_eq, topP, Bool.and_eq_true, decide_eq_true_eq] at h
    obtain ⟨⟨hk7, ht, _⟩, _⟩ := h
    exact ⟨hk7, by rw [ht]; exact h0, by rw [ht]; exact h1⟩
  | succ f ih =>
    intro dep t x h0 h1 h
    rw [fitP_eq, topP, Bool.and_eq_true, decide_eq_true_eq] at h
    obtain ⟨⟨hk7, ht, _⟩, hb⟩ := h
    refine ⟨⟨hk7, by rw [ht]; exact h0, by rw [ht]; exact h1⟩, fun p hp => ?_⟩
    unfold fieldsOf
    rw [ht]
    cases hm : ms[t.toNat]? with
    | none => rw [hm] at hb; cases hb
    | some m =>
      rw [hm] at hb
      simp only at hb
      unfold bodyP at hb
      rw [Bool.and_eq_true] at hb
      obtain ⟨j, hj⟩ := List.getElem?_of_mem hp
      have h2 := allA_iff.1 hb.1 j p hj
      rw [Bool.and_eq_true] at h2
      have h3 := h2.2
      unfold fldP at h3
      cases hf : firstF m.fields p.1 with
      | none => rw [hf] at h3; cases h3
      | some fd =>
        rw [hf] at h3
        simp only [Bool.and_eq_true] at h3
        obtain ⟨h4, _, h5⟩ := h3
        obtain ⟨hnum, hty⟩ := hk m (List.mem_of_getElem? hm) fd (firstF_some hf).1
        refine ⟨fd, rfl, hnum, fun y hy => ?_⟩
        obtain ⟨a, ha⟩ := List.getElem?_of_mem hy
        have h6 := allA_iff.1 h5 a y ha
        unfold valP at h6
        split at h6
        · rename_i h10
          exact ⟨fun h => by omega, fun _ => ih (dep + 1) fd.type y (hty h10).1 (hty h10).2 h6⟩
        · refine ⟨fun h7 => ?_, fun h7 => ?_⟩
          · rw [h7] at h6
            unfold kindB at h6
            simp at h6
            unfold numP
            simp [h6.1, h6.2]
          · unfold kindB at h6
            rw [h7] at h6
            repeat' split at h6
            all_goals simp at h6
/-- how long the bytes are -/
theorem sing_len {ms : List MD} {rec : Nd → List Int} {fd : FD} {y : Nd} {B : Nat} (h0 : 1 ≤ fd.num) (h1 : fd.num ≤ 536870911) (hy : Rg1 y) (hr : (rec y).length ≤ B) (hB : B ≤ 140737488355328) : (singW rec fd y).bytes.length ≤ B + 20 := by
  unfold singW WF.bytes
  have ht : (if fd.kind = 7 then (5 : Int) else if fd.kind = 8 then 1 else 0) ≤ 5 := by
    repeat' split
    all_goals omega
  split
  · have := fby_len fd.num (if fd.kind = 7 then 5 else if fd.kind = 8 then 1 else 0) (numP fd.kind y) [] h1 ht (num_rg _ hy).2 (by simp)
    rw [List.length_nil] at this
    dsimp only
    omega
  · have := fby_len fd.num 2 0 (rec y) h1 (by omega) (by omega) (by omega)
    dsimp only
    omega
theorem nby_len (k n : Int) (hn : n ≤ 18446744073709551615) : (nbytes k n).length ≤ 10 := by
  unfold nbytes
  repeat' split
  · rw [lob_length]; omega
  · rw [lob_length]; omega
  · exact vint_le n hn
theorem pack_len (k : Int) (vs : List Nd) (h : ∀ y ∈ vs, Rg1 y) : (packL k vs).length ≤ sumL (fun _ => 10) vs := by
  unfold packL
  rw [flatLen]
  exact sumL_le fun y hy => nby_len _ _ (num_rg k (h y hy)).2
theorem wire_len {rec : Nd → List Int} {fd : FD} {vs : List Nd} {g : Nd → Nat} (h0 : 1 ≤ fd.num) (h1 : fd.num ≤ 536870911) (hy : ∀ y ∈ vs, Rg1 y) (hr : ∀ y ∈ vs, (rec y).length ≤ g y) (hB : sumL (fun y => g y + 30) vs ≤ 140737488355328) :
    ((wireL rec fd vs).flatMap WF.bytes).length ≤ 30 + sumL (fun y => g y + 30) vs := by
  unfold wireL
  split
  · have h2 := pack_len fd.kind vs hy
    have h3 : sumL (fun _ => 10) vs ≤ sumL (fun y => g y + 30) vs := sumL_le fun y _ => by omega
    have := fby_len fd.num 2 0 (packL fd.kind vs) h1 (by omega) (by omega) (by omega)
    simp only [List.flatMap_cons, List.flatMap_nil, List.append_nil, WF.bytes]
    omega
  · rw [List.flatMap_map, flatLen]
    have : sumL (fun a => (singW rec fd a).bytes.length) vs ≤ sumL (fun y => g y + 30) vs := sumL_le fun y h => by
      have h4 : g y + 30 ≤ sumL (fun y => g y + 30) vs := sumL_mem (g := fun y => g y + 30) h
      have := sing_len (ms := []) h0 h1 (hy y h) (hr y h) (by omega)
      omega
    omega
theorem cont_len {ms : List MD} {f : Nat} {y : Nd} (h : y.kind = 7 → (msgB ms f y).length ≤ bndN f y) : (contB (msgB ms f) y).length ≤ bndN f y := by
  have hs : y.s.length ≤ bndN f y := by cases f <;> unfold bndN <;> omega
  unfold contB
  repeat' split
  · rw [ints_len]; exact hs
  · exact h (by assumption)
  · exact Nat.zero_le _
theorem msg_len {ms : List MD} : ∀ (f : Nat) (x : Nd), EncG ms f x → RngG f x → bndN f x ≤ 140737488355328 → (msgB ms f x).length ≤ bndN f x
  | 0, x, he, hr, hb => by unfold msgB bndN; rw [ints_len]; exact Nat.le_refl _
  | f + 1, x, he, hr, hb => by
    unfold msgB
    unfold bndN at hb ⊢
    rw [List.length_append, ints_len, flatLen]
    have : sumL (fun a => (fldB (contB (msgB ms f)) (fieldsOf ms x.type) a).length) x.fields ≤ sumL (fun p => 30 + sumL (fun y => bndN f y + 30) p.2) x.fields := sumL_le fun p hp => by
      obtain ⟨fd, h1, ⟨h2, h3⟩, h4⟩ := he.2 p hp
      unfold fldB
      rw [h1]
      have hp2 : 30 + sumL (fun y => bndN f y + 30) p.2 ≤ sumL (fun p : Int × List Nd => 30 + sumL (fun y => bndN f y + 30) p.2) x.fields := sumL_mem (g := fun p : Int × List Nd => 30 + sumL (fun y => bndN f y + 30) p.2) hp
      refine wire_len (g := bndN f) h2 h3 (fun y hy => (hr.2 p hp y hy).one) (fun y hy => cont_len fun h7 => ?_) (by omega)
      have hy2 : bndN f y + 30 ≤ sumL (fun y => bndN f y + 30) p.2 := sumL_mem (g := fun y => bndN f y + 30) hy
      exact msg_len f y ((h4 y hy).2 h7) (hr.2 p hp y hy) (by omega)
    omega
/-- the normal value: it fits, it is its own, and it weighs no more -/
theorem norm_kind (ms : List MD) (f : Nat) (x : Nd) : (normN ms f x).kind = x.kind := by
  cases f with
  | zero => rfl
  | succ f => unfold normN; split <;> rfl
theorem norm_else (ms : List MD) (f : Nat) (x : Nd) (h : x.kind ≠ 7) : normN ms f x = x := by
  cases f with
  | zero => rfl
  | succ f => unfold normN; rw [if_neg h]
theorem norm_msg (ms : List MD) (f : Nat) (x : Nd) (h : x.kind = 7) : normN ms (f + 1) x = ⟨x.kind, x.n, x.u, x.b, x.s, x.type, keptL ms (normN ms f) x.type x.fields⟩ := by rw [normN, if_pos h]
theorem norm_def (ms : List MD) (f : Nat) (x : Nd) : defP (normN ms f x) = defP x := by
  by_cases h : x.kind = 7
  · unfold defP; rw [norm_kind]; simp [h]
  · rw [norm_else ms f x h]
theorem keep_norm (ms : List MD) (fs : List FD) (f : Nat) (p : Int × List Nd) : keepB fs (p.1, p.2.map (normN ms f)) = keepB fs p := by
  unfold keepB
  dsimp only
  rw [List.getElem?_map]
  cases p.2[0]? with
  | none => rfl
  | some y => simp only [Option.map_some, norm_def]
theorem kept_mem {ms : List MD} {g : Nd → Nd} {t : Int} {l : List (Int × List Nd)} {q : Int × List Nd} (h : q ∈ keptL ms g t l) : ∃ p ∈ l, keepB (fieldsOf ms t) p = true ∧ q = (p.1, p.2.map g) := by
  unfold keptL at h
  obtain ⟨p, hp, rfl⟩ := List.mem_map.1 h
  rw [List.mem_filter] at hp
  exact ⟨p, hp.1, hp.2, rfl⟩
theorem norm_norm (ms : List MD) : ∀ (f : Nat) (x : Nd), normN ms f (normN ms f x) = normN ms f x
  | 0, x => rfl
  | f + 1, x => by
    by_cases h : x.kind = 7
    · rw [norm_msg ms f x h]
      refine (norm_msg ms f ⟨x.kind, x.n, x.u, x.b, x.s, x.type, keptL ms (normN ms f) x.type x.fields⟩ h).trans ?_
      dsimp only
      congr 1
      unfold keptL
      rw [List.filter_map, List.map_map]
      have e1 : List.filter (keepB (fieldsOf ms x.type) ∘ fun p => (p.1, p.2.map (normN ms f))) (List.filter (keepB (fieldsOf ms x.type)) x.fields) = List.filter (keepB (fieldsOf ms x.type)) x.fields := by
        rw [List.filter_eq_self]
        intro p hp
        rw [Function.comp, keep_norm]
        exact (List.mem_filter.1 hp).2
      rw [e1]
      apply List.map_congr_left
      intro p hp
      simp only [Function.comp, List.map_map, Prod.mk.injEq, true_and]
      apply List.map_congr_left
      intro y hy
      exact norm_norm ms f y
    · rw [norm_else ms _ x h]
      exact norm_else ms _ x h
theorem norm_bnd (ms : List MD) : ∀ (f : Nat) (x : Nd), bndN f (normN ms f x) ≤ bndN f x
  | 0, x => Nat.le_refl _
  | f + 1, x => by
    by_cases h : x.kind = 7
    · rw [norm_msg ms f x h]
      unfold bndN keptL
      dsimp only
      rw [sumL_map]
      dsimp only
      have h2 : sumL (fun p : Int × List Nd => 30 + sumL (fun y => bndN f y + 30) (p.2.map (normN ms f))) (x.fields.filter (keepB (fieldsOf ms x.type))) ≤ sumL (fun p => 30 + sumL (fun y => bndN f y + 30) p.2) (x.fields.filter (keepB (fieldsOf ms x.type))) := sumL_le fun p _ => by
        rw [sumL_map]
        have := sumL_le (l := p.2) (g := fun a => bndN f (normN ms f a) + 30) (h := fun y => bndN f y + 30) fun y _ => by have := norm_bnd ms f y; omega
        omega
      have h3 := sumL_filter (fun p : Int × List Nd => 30 + sumL (fun y => bndN f y + 30) p.2) (keepB (fieldsOf ms x.type)) x.fields
      omega
    · rw [norm_else ms _ x h]; exact Nat.le_refl _
theorem norm_rng (ms : List MD) : ∀ (f : Nat) (x : Nd), RngG f x → RngG f (normN ms f x)
  | 0, x, h => h
  | f + 1, x, h => by
    by_cases h7 : x.kind = 7
    · rw [norm_msg ms f x h7]
      refine ⟨h.1, fun q hq y hy => ?_⟩
      obtain ⟨p, hp, _, rfl⟩ := kept_mem hq
      obtain ⟨z, hz, rfl⟩ := List.mem_map.1 hy
      exact norm_rng ms f z (h.2 p hp z hz)
    · rw [norm_else ms _ x h7]; exact h
theorem norm_fitG (ms : List MD) {bs bf : Nat} : ∀ (f : Nat) (x : Nd), FitG bs bf f x → FitG bs bf f (normN ms f x)
  | 0, x, h => h
  | f + 1, x, h => by
    by_cases h7 : x.kind = 7
    · rw [norm_msg ms f x h7]
      refine ⟨h.1, ?_, fun q hq => ?_⟩
      · refine Nat.le_trans ?_ h.2.1
        unfold keptL
        rw [List.length_map]
        exact List.length_filter_le _ _
      · obtain ⟨p, hp, _, rfl⟩ := kept_mem hq
        refine ⟨by rw [List.length_map]; exact (h.2.2 p hp).1, fun y hy => ?_⟩
        obtain ⟨z, hz, rfl⟩ := List.mem_map.1 hy
        exact norm_fitG ms f z ((h.2.2 p hp).2 z hz)
    · rw [norm_else ms _ x h7]; exact h
/-- rising numbers -/
def RiseF : Int → List (Int × List Nd) → Prop
  | _, [] => True
  | a, p :: l => a < p.1 ∧ RiseF p.1 l
theorem rise_lt {a b : Int} (h : b ≤ a) : ∀ {l : List (Int × List Nd)}, RiseF a l → RiseF b l
  | [], _ => trivial
  | p :: l, h2 => ⟨by have := h2.1; omega, h2.2⟩
theorem rise_filter {p : Int × List Nd → Bool} : ∀ {a : Int} {l : List (Int × List Nd)}, RiseF a l → RiseF a (l.filter p)
  | a, [], h => trivial
  | a, q :: l, h => by
    rw [List.filter_cons]
    split
    · exact ⟨h.1, rise_filter h.2⟩
    · exact rise_filter (rise_lt (Int.le_of_lt h.1) h.2)
theorem rise_map {g : List Nd → List Nd} : ∀ {a : Int} {l : List (Int × List Nd)}, RiseF a l → RiseF a (l.map fun p => (p.1, g p.2))
  | a, [], h => trivial
  | a, q :: l, h => ⟨h.1, rise_map h.2⟩
def prevA (a : Int) (fl : List (Int × List Nd)) : Nat → Int
  | 0 => a
  | k + 1 => match fl[k]? with
    | some f => f.1
    | none => 0
theorem rise_iff : ∀ {a : Int} {l : List (Int × List Nd)}, RiseF a l ↔ ∀ (k : Nat) (y : Int × List Nd), l[k]? = some y → prevA a l k < y.1
  | a, [] => ⟨fun _ k y h => by simp at h, fun _ => trivial⟩
  | a, q :: l => by
    refine ⟨fun h k y hk => ?_, fun h => ⟨h 0 q rfl, rise_iff.2 fun k y hk => ?_⟩⟩
    · cases k with
      | zero => have e : q = y := by simpa using hk
                rw [← e]; exact h.1
      | succ k =>
        have := rise_iff.1 h.2 k y (by simpa using hk)
        cases k with
        | zero => simpa [prevA] using this
        | succ k => simpa [prevA] using this
    · have := h (k + 1) y (by simpa using hk)
      cases k with
      | zero => simpa [prevA] using this
      | succ k => simpa [prevA] using this
theorem prev_eq (fl : List (Int × List Nd)) (k : Nat) : prevF fl k = prevA 0 fl k := by cases k <;> rfl
theorem norm_fit {ms : List MD} (hk : NumOK ms) : ∀ (f : Nat) (dep t : Int) (x : Nd), 0 ≤ t → t < (ms.length : Int) → fitP ms f dep t x = true → fitP ms f dep t (normN ms f x) = true := by
  intro f
  induction f with
  | zero => intro dep t x h0 h1 h; exact h
  | succ f ih =>
    intro dep t x h0 h1 h
    have hall := h
    rw [fitP_eq, topP, Bool.and_eq_true, decide_eq_true_eq] at h
    obtain ⟨⟨hk7, ht, hdep⟩, hb⟩ := h
    rw [norm_msg ms f x hk7, fitP_eq, topP, Bool.and_eq_true, decide_eq_true_eq]
    refine ⟨⟨hk7, ht, hdep⟩, ?_⟩
    cases hm : ms[t.toNat]? with
    | none => rw [hm] at hb; cases hb
    | some m =>
      rw [hm] at hb
      simp only at hb ⊢
      unfold bodyP at hb ⊢
      rw [Bool.and_eq_true] at hb ⊢
      refine ⟨?_, hb.2⟩
      dsimp only
      have hrise : RiseF 0 x.fields := rise_iff.2 fun k y hy => by
        have h2 := allA_iff.1 hb.1 k y hy
        rw [Bool.and_eq_true] at h2
        rw [← prev_eq]
        exact of_decide_eq_true h2.1
      have hrise2 : RiseF 0 (keptL ms (normN ms f) x.type x.fields) := rise_map (g := fun l => l.map (normN ms f)) (rise_filter hrise)
      refine allA_iff.2 fun k q hq => ?_
      rw [Bool.and_eq_true]
      refine ⟨by rw [prev_eq]; exact decide_eq_true (rise_iff.1 hrise2 k q hq), ?_⟩
      obtain ⟨p, hp, hkeep, rfl⟩ := kept_mem (List.mem_of_getElem? hq)
      obtain ⟨j, hj⟩ := List.getElem?_of_mem hp
      have h2 := allA_iff.1 hb.1 j p hj
      rw [Bool.and_eq_true] at h2
      have h3 := h2.2
      unfold fldP at h3 ⊢
      dsimp only
      cases hf : firstF m.fields p.1 with
      | none => rw [hf] at h3; cases h3
      | some fd =>
        rw [hf] at h3
        simp only [Bool.and_eq_true, List.length_map] at h3 ⊢
        refine ⟨h3.1, h3.2.1, allA_iff.2 fun a z hz => ?_⟩
        rw [List.getElem?_map] at hz
        obtain ⟨y, hy, rfl⟩ := Option.map_eq_some_iff.1 hz
        have h6 := allA_iff.1 h3.2.2 a y hy
        obtain ⟨hnum, hty⟩ := hk m (List.mem_of_getElem? hm) fd (firstF_some hf).1
        unfold valP at h6 ⊢
        split
        · rename_i h10
          rw [if_pos h10] at h6
          exact ih (dep + 1) fd.type y (hty h10).1 (hty h10).2 h6
        · rename_i h10
          rw [if_neg h10] at h6
          by_cases h7 : y.kind = 7
          · unfold kindB at h6
            rw [h7] at h6
            repeat' split at h6
            all_goals simp at h6
          · rw [norm_else ms f y h7]; exact h6
end Go.Proofs.YtnopnjklcdcckaaGreatDoor
namespace Go.Proofs.YtnopnjklcdcckaaGreatDoor
set_option linter.unusedVariables false

def u8s (zs : List Int) : List UInt8 := zs.map fun z => UInt8.ofNat z.toNat
theorem u8s_len (zs : List Int) : (u8s zs).length = zs.length := by unfold u8s; simp
theorem ints_u8s : ∀ {zs : List Int}, (∀ z ∈ zs, 0 ≤ z ∧ z ≤ 255) → ints (u8s zs) = zs
  | [], h => rfl
  | z :: t, h => by
    have h1 := h z List.mem_cons_self
    have h2 := ints_u8s (zs := t) fun y hy => h y (List.mem_cons_of_mem _ hy)
    unfold ints u8s at h2 ⊢
    rw [List.map_cons, List.map_cons, h2]
    congr 1
    have e : z.toNat % 256 = z.toNat := Nat.mod_eq_of_lt (by omega)
    rw [UInt8.toNat_ofNat', e]
    omega
/-- one behind the other, as far as there is no error -/
def exL {α β : Type} (g : α → Except Int (List β)) : List α → Except Int (List β)
  | [] => .ok []
  | x :: t => match g x with
    | .error e => .error e
    | .ok l => match exL g t with
      | .error e => .error e
      | .ok m => .ok (l ++ m)
def andThen {β : Type} (a b : Except Int (List β)) : Except Int (List β) := match a with
  | .error e => .error e
  | .ok l => match b with
    | .error e => .error e
    | .ok m => .ok (l ++ m)
theorem andThen_assoc {β : Type} (a b c : Except Int (List β)) : andThen (andThen a b) c = andThen a (andThen b c) := by
  cases a with
  | error e => rfl
  | ok l => cases b with
    | error e => rfl
    | ok m => cases c with
      | error e => rfl
      | ok n => unfold andThen; simp
theorem exL_cons {α β : Type} (g : α → Except Int (List β)) (x : α) (t : List α) : exL g (x :: t) = andThen (g x) (exL g t) := rfl
theorem exL_append {α β : Type} (g : α → Except Int (List β)) (l m : List α) : exL g (l ++ m) = andThen (exL g l) (exL g m) := by
  induction l with
  | nil =>
    show exL g m = andThen (.ok []) (exL g m)
    cases exL g m <;> rfl
  | cons x t ih => rw [List.cons_append, exL_cons, exL_cons, ih, andThen_assoc]
theorem exL_one {α β : Type} (g : α → Except Int (List β)) (x : α) : exL g [x] = g x := by
  unfold exL
  cases g x with
  | error e => rfl
  | ok l => simp [exL]
theorem exL_step {α β : Type} {g : α → Except Int (List β)} {l : List α} {j : Nat} {x : α} {a b : List β} (hx : l[j]? = some x) (ha : exL g (l.take j) = .ok a) (hb : g x = .ok b) : exL g (l.take (j + 1)) = .ok (a ++ b) := by
  rw [take_snoc hx, exL_append, ha, exL_one, hb]; rfl
theorem exL_err {α β : Type} {g : α → Except Int (List β)} {l : List α} {j : Nat} {x : α} {a : List β} {e : Int} (hx : l[j]? = some x) (ha : exL g (l.take j) = .ok a) (hb : g x = .error e) : exL g l = .error e := by
  have h : l = l.take j ++ (x :: l.drop (j + 1)) := by
    have h1 := List.take_append_drop (j + 1) l
    rw [take_snoc hx, List.append_assoc] at h1
    exact h1.symm
  rw [h, exL_append, ha, exL_cons, hb]; rfl
theorem exL_mem {α β : Type} {g : α → Except Int (List β)} : ∀ {l : List α} {a : List β} {y : β}, exL g l = .ok a → y ∈ a → ∃ x b, x ∈ l ∧ g x = .ok b ∧ y ∈ b
  | [], a, y, h, hy => by
    have : a = [] := by injection h with h; exact h.symm
    rw [this] at hy; cases hy
  | x :: t, a, y, h, hy => by
    rw [exL_cons] at h
    cases hg : g x with
    | error e => rw [hg] at h; cases h
    | ok b =>
      cases ht : exL g t with
      | error e => rw [hg, ht] at h; cases h
      | ok m =>
        rw [hg, ht] at h
        have ha : a = b ++ m := by injection h with h; exact h.symm
        rw [ha] at hy
        rcases List.mem_append.1 hy with hy | hy
        · exact ⟨x, b, List.mem_cons_self, hg, hy⟩
        · obtain ⟨x', b', h1, h2, h3⟩ := exL_mem ht hy
          exact ⟨x', b', List.mem_cons_of_mem _ h1, h2, h3⟩
/-- a value of a number that was read -/
def zagI (n : Int) : Int := if n % 2 = 0 then n / 2 else -(n / 2) - 1
def numD (k n : Int) : Nd :=
  if k = 1 then ⟨1, IntKind.i64.wrap n, 0, false, [], 0, []⟩ else if k = 3 then ⟨1, zagI n, 0, false, [], 0, []⟩ else if k = 4 then ⟨3, 0, 0, decide (n ≠ 0), [], 0, []⟩ else if k = 9 then ⟨6, IntKind.i32.wrap n, 0, false, [], 0, []⟩ else ⟨2, 0, n, false, [], 0, []⟩
/-- the number at the beginning: it, how many bytes it has, an error -/
def takeN (k : Int) (zs : List Int) : Int × Int × Int :=
  if k = 7 then (if zs.length < 4 then (0, 4, 5) else (low (zs.take 4), 4, 0)) else if k = 8 then (if zs.length < 8 then (0, 8, 5) else (low (zs.take 8), 8, 0)) else dec 0 0 zs
/-- the values of packed bytes -/
def unpk (k : Int) : Nat → List Int → Option (List Nd)
  | _, [] => some []
  | 0, _ :: _ => none
  | f + 1, z :: zs => if (takeN k (z :: zs)).2.2 ≠ 0 then none else (unpk k f ((z :: zs).drop (takeN k (z :: zs)).2.1.toNat)).map (numD k (takeN k (z :: zs)).1 :: ·)
def unpack (k : Int) (zs : List Int) : Option (List Nd) := unpk k zs.length zs
theorem takeN_k (k : Int) (zs : List Int) (hb : ∀ z ∈ zs, 0 ≤ z ∧ z ≤ 255) (h : (takeN k zs).2.2 = 0) : 1 ≤ (takeN k zs).2.1 ∧ (takeN k zs).2.1 ≤ zs.length := by
  unfold takeN at h ⊢
  split at h
  · rename_i hk; rw [if_pos hk]
    split at h
    · simp at h
    · rename_i hl; rw [if_neg hl]; dsimp only; omega
  · rename_i hk; rw [if_neg hk]
    split at h
    · rename_i hk; rw [if_pos hk]
      split at h
      · simp at h
      · rename_i hl; rw [if_neg hl]; dsimp only; omega
    · rename_i hk; rw [if_neg hk]
      obtain ⟨N, K, E, hd⟩ := dec_triple zs
      rw [hd] at h ⊢
      dsimp only at h ⊢
      subst h
      obtain ⟨_, _, h0, h1, _⟩ := dec_ok zs 0 0 N K hb (by simp) (by omega) (by simpa using hd)
      omega
theorem unpk_more (k : Int) : ∀ (f g : Nat) (zs : List Int), (∀ z ∈ zs, 0 ≤ z ∧ z ≤ 255) → zs.length ≤ f → zs.length ≤ g → unpk k f zs = unpk k g zs
  | f, g, [], hb, h1, h2 => by cases f <;> cases g <;> rfl
  | 0, g, z :: zs, hb, h1, h2 => by simp at h1
  | f + 1, 0, z :: zs, hb, h1, h2 => by simp at h2
  | f + 1, g + 1, z :: zs, hb, h1, h2 => by
    unfold unpk
    split
    · rfl
    · rename_i he
      have hk := takeN_k k (z :: zs) hb (by omega)
      have hl : ((z :: zs).drop (takeN k (z :: zs)).2.1.toNat).length ≤ zs.length := by
        rw [List.length_drop, List.length_cons]; omega
      rw [List.length_cons] at h1 h2
      rw [unpk_more k f g _ (fun y hy => hb y (List.mem_of_mem_drop hy)) (by omega) (by omega)]
theorem unpack_nil (k : Int) : unpack k [] = some [] := rfl
theorem unpack_err {k : Int} {zs : List Int} (hne : zs ≠ []) (h : (takeN k zs).2.2 ≠ 0) : unpack k zs = none := by
  cases zs with
  | nil => exact absurd rfl hne
  | cons z zs => show unpk k (zs.length + 1) (z :: zs) = none; unfold unpk; rw [if_pos h]
theorem unpack_on {k : Int} {zs : List Int} (hb : ∀ z ∈ zs, 0 ≤ z ∧ z ≤ 255) (hne : zs ≠ []) (h : (takeN k zs).2.2 = 0) : unpack k zs = (unpack k (zs.drop (takeN k zs).2.1.toNat)).map (numD k (takeN k zs).1 :: ·) := by
  cases zs with
  | nil => exact absurd rfl hne
  | cons z zs =>
    have hk := takeN_k k (z :: zs) hb h
    show unpk k (zs.length + 1) (z :: zs) = _
    unfold unpk
    rw [if_neg (by omega)]
    unfold unpack
    rw [unpk_more k zs.length _ _ (fun y hy => hb y (List.mem_of_mem_drop hy)) (by rw [List.length_drop, List.length_cons]; omega) (Nat.le_refl _)]
/-- the fields that bytes are split into -/
def wfOf (p : TF × List Int) : WF := ⟨p.1.num, p.1.ty, p.1.n, p.1.data⟩
def isKn (fs : List FD) (p : TF × List Int) : Bool := knownP fs p.1.num p.1.ty
def knownL (fs : List FD) (D : List (TF × List Int)) : List WF := (D.filter (isKn fs)).map wfOf
def unknL (fs : List FD) (D : List (TF × List Int)) : List Int := (D.filter fun p => !isKn fs p).flatMap fun p => p.2
def ownL (fd : FD) (l : List WF) : List WF := l.filter fun x => decide (x.num = fd.num)
def toRead (fd : FD) (l : List WF) : List WF := if fd.rep = true ∨ (ownL fd l).length < 2 then ownL fd l else match (ownL fd l).getLast? with
  | none => []
  | some x => [⟨x.num, x.ty, x.n, if fd.kind = 10 then (ownL fd l).flatMap WF.d else x.d⟩]
/-- the values of a field -/
def strD (k : Int) (zs : List Int) : Nd := ⟨k, 0, 0, false, u8s zs, 0, []⟩
def decV (rec : Int → List Int → Except Int Nd) (fd : FD) (x : WF) : Except Int (List Nd) :=
  if isNum fd.kind then (if x.ty = 2 then (match unpack fd.kind x.d with
      | none => .error 2
      | some l => .ok l) else .ok [numD fd.kind x.n])
  else if fd.kind = 10 then (match rec fd.type x.d with
      | .error e => .error e
      | .ok y => .ok [y])
  else if fd.kind = 5 then (if valB (u8s x.d) then .ok [strD 4 x.d] else .error 13) else .ok [strD 5 x.d]
def decVs (rec : Int → List Int → Except Int Nd) (fd : FD) (l : List WF) : Except Int (List Nd) := exL (decV rec fd) l
def decF (rec : Int → List Int → Except Int Nd) (known : List WF) (fd : FD) : Except Int (List (Int × List Nd)) := match decVs rec fd (toRead fd known) with
  | .error e => .error e
  | .ok l => .ok (if l.length = 0 then [] else [(fd.num, l)])
/-- what bytes are, read as a message, with as many messages in one another as may be; with what is as by default -/
def decM (ms : List MD) : Nat → Int → List Int → Except Int Nd
  | 0, t, zs => .error 8
  | f + 1, t, zs => match split zs with
    | none => .error 2
    | some D => match exL (decF (decM ms f) (knownL (fieldsOf ms t) D)) (fieldsOf ms t) with
      | .error e => .error e
      | .ok fl => .ok ⟨7, 0, 0, false, u8s (unknL (fieldsOf ms t) D), t, fl⟩
end Go.Proofs.YtnopnjklcdcckaaGreatDoor
