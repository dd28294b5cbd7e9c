/-
  What is read of any text is formed. Facts of the plain functions: nothing is proved of the program here.
-/
import Derived.Test.YtglkgcpfdhneeaaDoorPrM
import Derived.Test.YtglkgcpfdhneeaaDoorPsM
import Derived.Test.YtglkgcpfdhneeaaDoorLxR
import Derived.Test.YtglkgcpfdhneeaaDoorPsW
import Derived.Test.YtglkgcpfdhneeaaDoorDpK
import Derived.Test.YtglkgcpfdhneeaaDoorStD
import Derived.Deep.RegionWith
namespace Go.Proofs.YtglkgcpfdhneeaaDoor
set_option linter.unusedVariables false

section
/-! a path's names are its pieces -/
theorem no_dot {t : List UInt8} (h : nameOf (runes ⟨t.toArray⟩) = true) : (46 : UInt8) ∉ t := by
  rw [name_bytes t h]
  intro hm
  unfold encL at hm
  obtain ⟨r, hr, hb⟩ := List.mem_flatMap.1 hm
  have hn := name_all h r hr
  have htw := two_of_name hn
  unfold two at htw
  by_cases h1 : r ≤ 127
  · rw [enc_small r htw.1 h1] at hb
    have e : (46 : UInt8) = UInt8.ofNat r.toNat := by simpa using hb
    have e2 : (46 : Nat) = r.toNat % 256 := by
      have := congrArg UInt8.toNat e
      simpa using this
    have : r = 46 := by omega
    subst this
    revert hn; decide
  · rw [enc_two r (by omega) htw.2] at hb
    simp only [List.mem_cons, List.not_mem_nil, or_false] at hb
    rcases hb with e | e
    · have := congrArg UInt8.toNat e
      simp only [UInt8.toNat_ofNat'] at this
      have e3 : (46 : UInt8).toNat = 46 := rfl
      omega
    · have := congrArg UInt8.toNat e
      simp only [UInt8.toNat_ofNat'] at this
      have e3 : (46 : UInt8).toNat = 46 := rfl
      omega
theorem pcs_through : ∀ (x cur t : List UInt8), (46 : UInt8) ∉ x → pcs cur (x ++ t) = pcs (cur ++ x) t
  | [], cur, t, _ => by simp
  | b :: x, cur, t, h => by
    have hb : b ≠ 46 := fun e => h (by rw [e]; exact List.mem_cons_self)
    rw [List.cons_append, pcs_on _ _ _ hb, pcs_through x _ t (fun hm => h (List.mem_cons_of_mem _ hm))]
    simp
theorem pcs_jn : ∀ (L : List (List UInt8)), L ≠ [] → (∀ x ∈ L, (46 : UInt8) ∉ x) → pcs [] (jn L) = L
  | [], h, _ => absurd rfl h
  | [x], _, h => by
    have := pcs_through x [] [] (h x List.mem_cons_self)
    rw [List.append_nil] at this
    show pcs [] x = [x]
    rw [this, pcs_nil]; rfl
  | x :: y :: t, _, h => by
    have e : jn (x :: y :: t) = x ++ 46 :: jn (y :: t) := by rw [jn_cons _ _ (by simp)]; simp
    rw [e, pcs_through x [] _ (h x List.mem_cons_self), pcs_dot, pcs_jn (y :: t) (by simp) (fun z hz => h z (List.mem_cons_of_mem _ hz))]
    rfl
end
end Go.Proofs.YtglkgcpfdhneeaaDoor
