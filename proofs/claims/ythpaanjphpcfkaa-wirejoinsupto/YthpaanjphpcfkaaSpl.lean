/-
  What bytes are split into: the fields, each with its bytes; or none. And how a call's answer says it. Nothing is proved of the program here.
-/
import Derived.Test.YthpaanjphpcfkaaRws
import Derived.Test.YthpaanjphpcfkaaTfA
namespace Go.Proofs.Ythpaanjphpcfkaa
set_option linter.unusedVariables false
open Go.ChangeShapes Go.WideShapes Go.ChangeAt Go.RowKit

theorem dec_e : ∀ (zs : List Int) (X : Int) (k : Nat), (dec X k zs).2.2 = 0 ∨ (dec X k zs).2.2 = 2 ∨ (dec X k zs).2.2 = 5
  | [], X, k => by rw [dec_nil]; simp
  | z :: zs, X, k => by
    by_cases hf : k = 9 ∧ 1 < z
    · rw [dec_form _ _ _ _ hf.1 hf.2]; simp
    · by_cases h1 : z < 128
      · rw [dec_end _ _ _ _ hf h1]; simp
      · rw [dec_on _ _ _ _ hf (by omega)]
        exact dec_e zs _ (k + 1)
theorem tf_e (zs : List Int) : (tf zs).e = 0 ∨ (tf zs).e = 2 ∨ (tf zs).e = 5 := by
  have h1 := dec_e zs 0 0
  unfold tf
  split
  · simpa [tfErr] using h1
  · generalize (zs.drop (dec 0 0 zs).2.1.toNat) = rest
    have h2 := dec_e rest 0 0
    unfold tfBody
    split
    · simp [tfErr]
    · split
      · split
        · simpa [tfErr] using h2
        · simp
      · split
        · split
          · simpa [tfErr] using h2
          · split <;> simp [tfErr]
        · split
          · split <;> simp [tfErr]
          · split <;> simp [tfErr]
theorem tf_k (zs : List Int) (hb : ∀ z ∈ zs, 0 ≤ z ∧ z ≤ 255) (h : (tf zs).e = 0) : 1 ≤ (tf zs).k ∧ (tf zs).k ≤ zs.length := by
  obtain ⟨N, K, E, hd⟩ := dec_triple zs
  unfold tf at h ⊢
  rw [hd] at h ⊢
  simp only [] at h ⊢
  by_cases hE : E = 0
  · subst hE
    rw [if_neg (by simp)] at h ⊢
    obtain ⟨hN0, hN1, hK0, hKl, hK10⟩ := dec_ok zs 0 0 N K hb (by simp) (by omega) (by simpa using hd)
    obtain ⟨k, rfl⟩ := Int.eq_ofNat_of_zero_le (show 0 ≤ K by omega)
    rw [Int.toNat_natCast] at h ⊢
    have hl : (zs.drop k).length = zs.length - k := List.length_drop
    have hbr : ∀ z ∈ zs.drop k, 0 ≤ z ∧ z ≤ 255 := fun z hz => hb z (List.mem_of_mem_drop hz)
    generalize zs.drop k = rest at *
    obtain ⟨X, Q, F, hq⟩ := dec_triple rest
    unfold tfBody at h ⊢
    rw [hq] at h ⊢
    simp only [] at h ⊢
    split at h
    · simp [tfErr] at h
    · rename_i hbad
      rw [if_neg hbad]
      split at h
      · rename_i h0
        rw [if_pos h0]
        split at h
        · rename_i hF; simp [tfErr] at h; exact absurd h hF
        · rename_i hF
          rw [if_neg hF]
          have hF0 : F = 0 := by simpa using hF
          subst hF0
          obtain ⟨_, _, hq0, hql, _⟩ := dec_ok rest 0 0 X Q hbr (by simp) (by omega) (by simpa using hq)
          simp only []
          omega
      · rename_i h0
        rw [if_neg h0]
        split at h
        · rename_i h2
          rw [if_pos h2]
          split at h
          · rename_i hF; simp [tfErr] at h; exact absurd h hF
          · rename_i hF
            rw [if_neg hF]
            have hF0 : F = 0 := by simpa using hF
            subst hF0
            obtain ⟨hX0, _, hq0, hql, _⟩ := dec_ok rest 0 0 X Q hbr (by simp) (by omega) (by simpa using hq)
            split at h
            · simp [tfErr] at h
            · rename_i hs
              rw [if_neg hs]
              simp only []
              omega
        · rename_i h2
          rw [if_neg h2]
          split at h
          · rename_i h5
            rw [if_pos h5]
            split at h
            · simp [tfErr] at h
            · rename_i h4
              rw [if_neg h4]
              simp only []
              omega
          · rename_i h5
            rw [if_neg h5]
            split at h
            · simp [tfErr] at h
            · rename_i h8
              rw [if_neg h8]
              simp only []
              omega
  · rw [if_pos (by simpa using hE)] at h
    simp [tfErr] at h
    exact absurd h hE

/-- the fields that bytes are made of, each with its bytes; fuel: at least as many as there are bytes -/
def spl : Nat → List Int → Option (List (TF × List Int))
  | _, [] => some []
  | 0, _ :: _ => none
  | n + 1, z :: zs => if (tf (z :: zs)).e ≠ 0 then none else (spl n ((z :: zs).drop (tf (z :: zs)).k.toNat)).map (((tf (z :: zs), (z :: zs).take (tf (z :: zs)).k.toNat)) :: ·)
theorem spl_nil (n : Nat) : spl n [] = some [] := by cases n <;> rfl
theorem spl_err (n : Nat) (zs : List Int) (h : zs ≠ []) (he : (tf zs).e ≠ 0) : spl n zs = none := by
  cases zs with
  | nil => exact absurd rfl h
  | cons z zs => cases n with
    | zero => rfl
    | succ n => rw [spl, if_pos he]
theorem spl_on (n : Nat) (zs : List Int) (h : zs ≠ []) (he : (tf zs).e = 0) : spl (n + 1) zs = (spl n (zs.drop (tf zs).k.toNat)).map ((tf zs, zs.take (tf zs).k.toNat) :: ·) := by
  cases zs with
  | nil => exact absurd rfl h
  | cons z zs => rw [spl, if_neg (by simpa using he)]
theorem spl_fuel : ∀ (n m : Nat) (zs : List Int), (∀ z ∈ zs, 0 ≤ z ∧ z ≤ 255) → zs.length ≤ n → zs.length ≤ m → spl n zs = spl m zs
  | 0, m, zs, hb, hn, hm => by
    have : zs = [] := List.eq_nil_of_length_eq_zero (by omega)
    subst this; rw [spl_nil, spl_nil]
  | n + 1, 0, zs, hb, hn, hm => by
    have : zs = [] := List.eq_nil_of_length_eq_zero (by omega)
    subst this; rw [spl_nil, spl_nil]
  | n + 1, m + 1, zs, hb, hn, hm => by
    by_cases h0 : zs = []
    · subst h0; rw [spl_nil, spl_nil]
    · by_cases he : (tf zs).e = 0
      · have hk := tf_k zs hb he
        rw [spl_on n zs h0 he, spl_on m zs h0 he, spl_fuel n m _ (fun z hz => hb z (List.mem_of_mem_drop hz)) (by rw [List.length_drop]; omega) (by rw [List.length_drop]; omega)]
      · rw [spl_err _ zs h0 he, spl_err _ zs h0 he]
/-- the same, with fuel enough -/
def split (zs : List Int) : Option (List (TF × List Int)) := spl zs.length zs
theorem split_nil : split [] = some [] := rfl
theorem split_err (zs : List Int) (h : zs ≠ []) (he : (tf zs).e ≠ 0) : split zs = none := spl_err _ zs h he
theorem split_on (zs : List Int) (hb : ∀ z ∈ zs, 0 ≤ z ∧ z ≤ 255) (h : zs ≠ []) (he : (tf zs).e = 0) : split zs = (split (zs.drop (tf zs).k.toNat)).map ((tf zs, zs.take (tf zs).k.toNat) :: ·) := by
  have hk := tf_k zs hb he
  unfold split
  obtain ⟨n, hn⟩ : ∃ n, zs.length = n + 1 := ⟨zs.length - 1, by omega⟩
  rw [hn, spl_on n zs h he, spl_fuel n (zs.drop (tf zs).k.toNat).length _ (fun z hz => hb z (List.mem_of_mem_drop hz)) (by rw [List.length_drop]; omega) (Nat.le_refl _)]

/-- what a field says, and what is taken of bytes -/
def FR.says (f : FR) : Int × Int × Int × List Int := (f.num, f.ty, f.n, f.d)
def TF.says (t : TF) : Int × Int × Int × List Int := (t.num, t.ty, t.n, t.data)
def FitsF (fs : List FR) (D : List (TF × List Int)) : Prop := fs.map FR.says = D.map fun p => p.1.says
def FitsR (rs : List Row3) (D : List (TF × List Int)) : Prop := (rs.map fun r => r.zs) = D.map fun p => p.2
/-- what a call that splits answers -/
def SpAns (e : TypeId) (w w' : World) (en : Ending) : Option (List (TF × List Int)) → Prop
  | none => en = .returned (.tuple #[.slice none 0 0, .slice none 0 0, .int .i64 2]) ∧ Below w.heap.size w w'
  | some D => ∃ vF vR fs rs, en = .returned (.tuple #[vF, vR, .int .i64 0]) ∧ SplSt w' w.heap.size e vF vR fs rs ∧ FitsF fs D ∧ FitsR rs D ∧ Below w.heap.size w w'
theorem fits_snoc {fs : List FR} {rs : List Row3} {D : List (TF × List Int)} (hF : FitsF fs D) (hR : FitsR rs D) (f : FR) (r : Row3) (p : TF × List Int) (h1 : f.says = p.1.says) (h2 : r.zs = p.2) : FitsF (fs ++ [f]) (D ++ [p]) ∧ FitsR (rs ++ [r]) (D ++ [p]) := by
  unfold FitsF FitsR at *
  simp [hF, hR, h1, h2]
theorem FitsF.len {fs : List FR} {D : List (TF × List Int)} (h : FitsF fs D) : fs.length = D.length := by
  have := congrArg List.length h
  simpa using this
theorem FitsR.len {rs : List Row3} {D : List (TF × List Int)} (h : FitsR rs D) : rs.length = D.length := by
  have := congrArg List.length h
  simpa using this
end Go.Proofs.Ythpaanjphpcfkaa
