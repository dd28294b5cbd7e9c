/-
  What bytes are split into: the fields, each with its bytes; or none. And how a call's answer says it. Nothing is proved of the program here.
  Values of messages as plain trees, and what fits, as plain functions. Nothing is proved of the program here.
  Of a schema that is formed the program's 'fits' and the document's are one. Nothing is proved of the program here.
  The walks over the program's own Same of declarations.
-/
import Derived.Test.YtknijddlacmelaaDoorM5
import Derived.Test.YtknijddlacmelaaDoorM2
import Derived.Lib.ValidLaws
import Derived.Test.YtknijddlacmelaaDoorM0
import Derived.Test.YtknijddlacmelaaDoorProg
import Derived.Deep.Cut
import Derived.Deep.DeepCutAuto
import Derived.Lib.SlicesS
namespace Go.Proofs.YtknijddlacmelaaDoor
set_option linter.unusedVariables false
open Go.ChangeShapes Go.WideShapes Go.ChangeAt Go.RowKit

theorem dec_e : ∀ (zs : List Int) (X : Int) (k : Nat), (dec X k zs).2.2 = 0 ∨ (dec X k zs).2.2 = 2 ∨ (dec X k zs).2.2 = 5
  | [], X, k => by rw [dec_nil]; simp
  | z :: zs, X, k => by
    by_cases hf : k = 9 ∧ 1 < z
    · rw [dec_form _ _ _ _ hf.1 hf.2]; simp
    · by_cases h1 : z < 128
      · rw [dec_end _ _ _ _ hf h1]; simp
      · rw [dec_on _ _ _ _ hf (by omega)]
        exact dec_e zs _ (k + 1)
theorem tf_e (zs : List Int) : (tf zs).e = 0 ∨ (tf zs).e = 2 ∨ (tf zs).e = 5 := by
  have h1 := dec_e zs 0 0
  unfold tf
  split
  · simpa [tfErr] using h1
  · generalize (zs.drop (dec 0 0 zs).2.1.toNat) = rest
    have h2 := dec_e rest 0 0
    unfold tfBody
    split
    · simp [tfErr]
    · split
      · split
        · simpa [tfErr] using h2
        · simp
      · split
        · split
          · simpa [tfErr] using h2
          · split <;> simp [tfErr]
        · split
          · split <;> simp [tfErr]
          · split <;> simp [tfErr]
theorem tf_k (zs : List Int) (hb : ∀ z ∈ zs, 0 ≤ z ∧ z ≤ 255) (h : (tf zs).e = 0) : 1 ≤ (tf zs).k ∧ (tf zs).k ≤ zs.length := by
  obtain ⟨N, K, E, hd⟩ := dec_triple zs
  unfold tf at h ⊢
  rw [hd] at h ⊢
  simp only [] at h ⊢
  by_cases hE : E = 0
  · subst hE
    rw [if_neg (by simp)] at h ⊢
    obtain ⟨hN0, hN1, hK0, hKl, hK10⟩ := dec_ok zs 0 0 N K hb (by simp) (by omega) (by simpa using hd)
    obtain ⟨k, rfl⟩ := Int.eq_ofNat_of_zero_le (show 0 ≤ K by omega)
    rw [Int.toNat_natCast] at h ⊢
    have hl : (zs.drop k).length = zs.length - k := List.length_drop
    have hbr : ∀ z ∈ zs.drop k, 0 ≤ z ∧ z ≤ 255 := fun z hz => hb z (List.mem_of_mem_drop hz)
    generalize zs.drop k = rest at *
    obtain ⟨X, Q, F, hq⟩ := dec_triple rest
    unfold tfBody at h ⊢
    rw [hq] at h ⊢
    simp only [] at h ⊢
    split at h
    · simp [tfErr] at h
    · rename_i hbad
      rw [if_neg hbad]
      split at h
      · rename_i h0
        rw [if_pos h0]
        split at h
        · rename_i hF; simp [tfErr] at h; exact absurd h hF
        · rename_i hF
          rw [if_neg hF]
          have hF0 : F = 0 := by simpa using hF
          subst hF0
          obtain ⟨_, _, hq0, hql, _⟩ := dec_ok rest 0 0 X Q hbr (by simp) (by omega) (by simpa using hq)
          simp only []
          omega
      · rename_i h0
        rw [if_neg h0]
        split at h
        · rename_i h2
          rw [if_pos h2]
          split at h
          · rename_i hF; simp [tfErr] at h; exact absurd h hF
          · rename_i hF
            rw [if_neg hF]
            have hF0 : F = 0 := by simpa using hF
            subst hF0
            obtain ⟨hX0, _, hq0, hql, _⟩ := dec_ok rest 0 0 X Q hbr (by simp) (by omega) (by simpa using hq)
            split at h
            · simp [tfErr] at h
            · rename_i hs
              rw [if_neg hs]
              simp only []
              omega
        · rename_i h2
          rw [if_neg h2]
          split at h
          · rename_i h5
            rw [if_pos h5]
            split at h
            · simp [tfErr] at h
            · rename_i h4
              rw [if_neg h4]
              simp only []
              omega
          · rename_i h5
            rw [if_neg h5]
            split at h
            · simp [tfErr] at h
            · rename_i h8
              rw [if_neg h8]
              simp only []
              omega
  · rw [if_pos (by simpa using hE)] at h
    simp [tfErr] at h
    exact absurd h hE

/-- the fields that bytes are made of, each with its bytes; fuel: at least as many as there are bytes -/
def spl : Nat → List Int → Option (List (TF × List Int))
  | _, [] => some []
  | 0, _ :: _ => none
  | n + 1, z :: zs => if (tf (z :: zs)).e ≠ 0 then none else (spl n ((z :: zs).drop (tf (z :: zs)).k.toNat)).map (((tf (z :: zs), (z :: zs).take (tf (z :: zs)).k.toNat)) :: ·)
theorem spl_nil (n : Nat) : spl n [] = some [] := by cases n <;> rfl
theorem spl_err (n : Nat) (zs : List Int) (h : zs ≠ []) (he : (tf zs).e ≠ 0) : spl n zs = none := by
  cases zs with
  | nil => exact absurd rfl h
  | cons z zs => cases n with
    | zero => rfl
    | succ n => rw [spl, if_pos he]
theorem spl_on (n : Nat) (zs : List Int) (h : zs ≠ []) (he : (tf zs).e = 0) : spl (n + 1) zs = (spl n (zs.drop (tf zs).k.toNat)).map ((tf zs, zs.take (tf zs).k.toNat) :: ·) := by
  cases zs with
  | nil => exact absurd rfl h
  | cons z zs => rw [spl, if_neg (by simpa using he)]
theorem spl_fuel : ∀ (n m : Nat) (zs : List Int), (∀ z ∈ zs, 0 ≤ z ∧ z ≤ 255) → zs.length ≤ n → zs.length ≤ m → spl n zs = spl m zs
  | 0, m, zs, hb, hn, hm => by
    have : zs = [] := List.eq_nil_of_length_eq_zero (by omega)
    subst this; rw [spl_nil, spl_nil]
  | n + 1, 0, zs, hb, hn, hm => by
    have : zs = [] := List.eq_nil_of_length_eq_zero (by omega)
    subst this; rw [spl_nil, spl_nil]
  | n + 1, m + 1, zs, hb, hn, hm => by
    by_cases h0 : zs = []
    · subst h0; rw [spl_nil, spl_nil]
    · by_cases he : (tf zs).e = 0
      · have hk := tf_k zs hb he
        rw [spl_on n zs h0 he, spl_on m zs h0 he, spl_fuel n m _ (fun z hz => hb z (List.mem_of_mem_drop hz)) (by rw [List.length_drop]; omega) (by rw [List.length_drop]; omega)]
      · rw [spl_err _ zs h0 he, spl_err _ zs h0 he]
/-- the same, with fuel enough -/
def split (zs : List Int) : Option (List (TF × List Int)) := spl zs.length zs
theorem split_nil : split [] = some [] := rfl
theorem split_err (zs : List Int) (h : zs ≠ []) (he : (tf zs).e ≠ 0) : split zs = none := spl_err _ zs h he
theorem split_on (zs : List Int) (hb : ∀ z ∈ zs, 0 ≤ z ∧ z ≤ 255) (h : zs ≠ []) (he : (tf zs).e = 0) : split zs = (split (zs.drop (tf zs).k.toNat)).map ((tf zs, zs.take (tf zs).k.toNat) :: ·) := by
  have hk := tf_k zs hb he
  unfold split
  obtain ⟨n, hn⟩ : ∃ n, zs.length = n + 1 := ⟨zs.length - 1, by omega⟩
  rw [hn, spl_on n zs h he, spl_fuel n (zs.drop (tf zs).k.toNat).length _ (fun z hz => hb z (List.mem_of_mem_drop hz)) (by rw [List.length_drop]; omega) (Nat.le_refl _)]

/-- what a field says, and what is taken of bytes -/
def FR.says (f : FR) : Int × Int × Int × List Int := (f.num, f.ty, f.n, f.d)
def TF.says (t : TF) : Int × Int × Int × List Int := (t.num, t.ty, t.n, t.data)
def FitsF (fs : List FR) (D : List (TF × List Int)) : Prop := (fs.map FR.says = D.map fun p => p.1.says) ∧ ∀ f ∈ fs, NoA f.a f.len f.cap
def FitsR (rs : List Row3) (D : List (TF × List Int)) : Prop := ((rs.map fun r => r.zs) = D.map fun p => p.2) ∧ ∀ r ∈ rs, NoA r.a r.len r.cap
/-- what a call that splits answers -/
def SpAns (e : TypeId) (w w' : World) (en : Ending) : Option (List (TF × List Int)) → Prop
  | none => en = .returned (.tuple #[.slice none 0 0, .slice none 0 0, .int .i64 2]) ∧ Below w.heap.size w w'
  | some D => ∃ vF vR fs rs, en = .returned (.tuple #[vF, vR, .int .i64 0]) ∧ SplSt w' w.heap.size e vF vR fs rs ∧ FitsF fs D ∧ FitsR rs D ∧ Below w.heap.size w w'
theorem fits_snoc {fs : List FR} {rs : List Row3} {D : List (TF × List Int)} (hF : FitsF fs D) (hR : FitsR rs D) (f : FR) (r : Row3) (p : TF × List Int) (h1 : f.says = p.1.says) (h2 : r.zs = p.2) (h3 : NoA f.a f.len f.cap) (h4 : NoA r.a r.len r.cap) : FitsF (fs ++ [f]) (D ++ [p]) ∧ FitsR (rs ++ [r]) (D ++ [p]) := by
  refine ⟨⟨?_, fun x hx => ?_⟩, ?_, fun x hx => ?_⟩
  · simp [hF.1, h1]
  · rcases List.mem_append.1 hx with hx | hx
    · exact hF.2 x hx
    · have : x = f := by simpa using hx
      rw [this]; exact h3
  · simp [hR.1, h2]
  · rcases List.mem_append.1 hx with hx | hx
    · exact hR.2 x hx
    · have : x = r := by simpa using hx
      rw [this]; exact h4
theorem FitsF.nil : FitsF [] [] := ⟨rfl, fun _ h => by cases h⟩
theorem FitsR.nil : FitsR [] [] := ⟨rfl, fun _ h => by cases h⟩
theorem FitsF.len {fs : List FR} {D : List (TF × List Int)} (h : FitsF fs D) : fs.length = D.length := by
  have := congrArg List.length h.1
  simpa using this
theorem FitsR.len {rs : List Row3} {D : List (TF × List Int)} (h : FitsR rs D) : rs.length = D.length := by
  have := congrArg List.length h.1
  simpa using this
end Go.Proofs.YtknijddlacmelaaDoor
namespace Go.Proofs.YtknijddlacmelaaDoor
set_option linter.unusedVariables false

/-- a value: what it is by its kind (1 to 7), and all that a node can hold -/
structure Nd where
  kind : Int
  n : Int
  u : Int
  b : Bool
  s : List UInt8
  type : Int
  fields : List (Int × List Nd)
def ints (s : List UInt8) : List Int := s.map fun b => (b.toNat : Int)
theorem ints_len (s : List UInt8) : (ints s).length = s.length := by unfold ints; simp
theorem ints_ok (s : List UInt8) : ∀ z ∈ ints s, 0 ≤ z ∧ z ≤ 255 := by
  intro z hz
  unfold ints at hz
  obtain ⟨b, _, rfl⟩ := List.mem_map.1 hz
  have := b.toNat_lt
  omega
/-- the type of a field's value alone: the program's, and the document's -/
def ownT (k : Int) : Int := if k = 1 ∨ k = 2 ∨ k = 3 ∨ k = 4 ∨ k = 9 then 0 else if k = 7 then 5 else if k = 8 then 1 else 2
def typeFits (f : FD) (ty : Int) : Bool := decide (ty = ownT f.kind) || (f.rep && decide (ty = 2))
def knownB (num ty : Int) (f : FD) : Bool := decide (f.num = num) && typeFits f ty
/-- known to the message: the program's -/
def knownP (fs : List FD) (num ty : Int) : Bool := !allB (atB fs fun _ f => !knownB num ty f) fs.length
/-- the first field of that number -/
def isFirst (fs : List FD) (num : Int) (i : Nat) (f : FD) : Prop := fs[i]? = some f ∧ f.num = num ∧ ∀ (j : Nat) (g : FD), j < i → fs[j]? = some g → g.num ≠ num
def NoField (fs : List FD) (num : Int) : Prop := ∀ (j : Nat) (g : FD), fs[j]? = some g → g.num ≠ num
def firstF : List FD → Int → Option FD
  | [], _ => none
  | f :: t, num => if f.num = num then some f else firstF t num
theorem firstF_is : ∀ {fs : List FD} {num : Int} {i : Nat} {f : FD}, isFirst fs num i f → firstF fs num = some f
  | [], num, i, f, h => by have := h.1; simp at this
  | x :: t, num, 0, f, h => by
    have e : x = f := by simpa using h.1
    subst e
    rw [firstF, if_pos h.2.1]
  | x :: t, num, i + 1, f, h => by
    rw [firstF, if_neg (h.2.2 0 x (by omega) rfl)]
    exact firstF_is ⟨by simpa using h.1, h.2.1, fun j g hj hg => h.2.2 (j + 1) g (by omega) (by simpa using hg)⟩
theorem firstF_no : ∀ {fs : List FD} {num : Int}, NoField fs num → firstF fs num = none
  | [], num, h => rfl
  | x :: t, num, h => by
    rw [firstF, if_neg (h 0 x rfl)]
    exact firstF_no fun j g hg => h (j + 1) g (by simpa using hg)
theorem firstF_some : ∀ {fs : List FD} {num : Int} {f : FD}, firstF fs num = some f → f ∈ fs ∧ f.num = num
  | x :: t, num, f, h => by
    rw [firstF] at h
    split at h
    · cases h; exact ⟨List.mem_cons_self, by assumption⟩
    · have := firstF_some h; exact ⟨List.mem_cons_of_mem _ this.1, this.2⟩
/-- fields' bytes of which none is known -/
def noneOf (known : Int → Int → Bool) (s : List UInt8) : Bool := match split (ints s) with
  | none => false
  | some D => allA D fun _ p => !known p.1.num p.1.ty
def valB (s : List UInt8) : Bool := Lib.validD s
def kindB (k : Int) (x : Nd) : Bool := if k = 1 ∨ k = 3 then decide (x.kind = 1) else if k = 2 ∨ k = 8 then decide (x.kind = 2) else if k = 7 then decide (x.kind = 2 ∧ x.u < 4294967296)
  else if k = 4 then decide (x.kind = 3) else if k = 5 then decide (x.kind = 4) && valB x.s else if k = 6 then decide (x.kind = 5) else if k = 9 then decide (x.kind = 6) else false
/-- a value fits a field's kind: the program's -/
def valP (rec : Int → Nd → Bool) (f : FD) (x : Nd) : Bool := if f.kind = 10 then rec f.type x else kindB f.kind x
def fldP (rec : Int → Nd → Bool) (fs : List FD) (x : Int × List Nd) : Bool := match firstF fs x.1 with
  | none => false
  | some f => !decide (x.2.length = 0) && ((decide (x.2.length ≤ 1) || f.rep) && allA x.2 fun _ y => valP rec f y)
def prevF (fl : List (Int × List Nd)) : Nat → Int
  | 0 => 0
  | k + 1 => match fl[k]? with
    | some f => f.1
    | none => 0
def bodyP (rec : Int → Nd → Bool) (fs : List FD) (x : Nd) : Bool := allA x.fields (fun k y => decide (prevF x.fields k < y.1) && fldP rec fs y) && noneOf (knownP fs) x.s
def topP (ms : List MD) (rec : Int → Nd → Bool) (dep t : Int) (x : Nd) : Bool := decide (x.kind = 7 ∧ x.type = t ∧ dep ≤ 16) && (match ms[t.toNat]? with
    | none => false
    | some m => bodyP rec m.fields x)
/-- a value fits a message, so deep: the program's -/
def fitP (ms : List MD) : Nat → Int → Int → Nd → Bool
  | 0, dep, t, x => topP ms (fun _ _ => false) dep t x
  | f + 1, dep, t, x => topP ms (fun t y => fitP ms f (dep + 1) t y) dep t x
/-- what lies in it -/
def recP (ms : List MD) (dep : Int) : Nat → Int → Nd → Bool
  | 0 => fun _ _ => false
  | f + 1 => fun t y => fitP ms f (dep + 1) t y
theorem fitP_eq (ms : List MD) (f : Nat) (dep t : Int) (x : Nd) : fitP ms f dep t x = topP ms (recP ms dep f) dep t x := by cases f <;> rfl
end Go.Proofs.YtknijddlacmelaaDoor
namespace Go.Proofs.YtknijddlacmelaaDoor
set_option linter.unusedVariables false

/-- a node as a value has it: nothing that does not belong to its kind -/
def cn (y : Nd) : Nd := ⟨if 1 ≤ y.kind ∧ y.kind ≤ 7 then y.kind else 0, if y.kind = 1 then y.n else if y.kind = 6 then IntKind.i32.wrap y.n else 0, if y.kind = 2 then y.u else 0, if y.kind = 3 then y.b else false,
  if y.kind = 4 ∨ y.kind = 5 ∨ y.kind = 7 then y.s else [], if y.kind = 7 then y.type else 0, if y.kind = 7 then y.fields else []⟩
end Go.Proofs.YtknijddlacmelaaDoor
namespace Go.Proofs.YtknijddlacmelaaDoor
set_option linter.unusedVariables false
open Go.ChangeShapes Go.WideShapes Go.ChangeAt Go.RowKit

theorem RowsIn.isSl {α : Type} {w : World} {S : Nat → Prop} {k : Nat} {row : α → List Value} {v : Value} {xs : List α} (h : RowsIn w S k row v xs) : ∃ ad c, v = .slice ad xs.length c := by
  obtain ⟨ad, c, hv, _⟩ := h; exact ⟨ad, c, hv⟩
end Go.Proofs.YtknijddlacmelaaDoor
