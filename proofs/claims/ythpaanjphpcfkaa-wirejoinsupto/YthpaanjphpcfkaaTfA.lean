/-
  The document's own TakeField, whole: of any bytes it answers what 'tf' says, and makes new memory alone.
-/
import Derived.Test.YthpaanjphpcfkaaTfR3
namespace Go.Proofs.Ythpaanjphpcfkaa
set_option linter.unusedVariables false
open Go.ChangeShapes Go.WideShapes Go.ChangeAt Go.RowKit

theorem dec_q : ∀ (zs : List Int) (X : Int) (k : Nat), k ≤ 9 → 0 ≤ (dec X k zs).2.1 ∧ (dec X k zs).2.1 ≤ 10
  | [], X, k, _ => by rw [dec_nil]; simp
  | z :: zs, X, k, hk => by
    by_cases hf : k = 9 ∧ 1 < z
    · rw [dec_form _ _ _ _ hf.1 hf.2]; simp
    · by_cases h1 : z < 128
      · rw [dec_end _ _ _ _ hf h1]; simp only []; omega
      · rw [dec_on _ _ _ _ hf (by omega)]
        exact dec_q zs _ (k + 1) (by omega)
theorem dec_triple (zs : List Int) : ∃ N K E, dec 0 0 zs = (N, K, E) := ⟨_, _, _, rfl⟩

theorem takeFieldR_any (a : Option Addr) (len cap : Nat) (zs : List Int) (w : World) (hB : IsB w a len zs) (hlc : len ≤ cap) (hcm : cap ≤ 140737488351232) :
    Calls Try.prog 15 #[.slice a len cap] w fun e w' => TfAns w w' e (tf zs) := by
  obtain ⟨N, K, E, hd⟩ := dec_triple zs
  unfold tf
  rw [hd]
  simp only []
  by_cases hE : E = 0
  · subst hE
    rw [if_neg (by simp)]
    obtain ⟨hN0, hN1, hK0, hKl, hK10⟩ := dec_ok zs 0 0 N K (isB_bytes hB) (by simp) (by omega) (by simpa using hd)
    obtain ⟨k, rfl⟩ := Int.eq_ofNat_of_zero_le (show 0 ≤ K by omega)
    have hzl := hB.1
    obtain ⟨b, off, _, rfl, _⟩ := isB_at hB (show 0 < len by omega)
    have HT : ∀ W, Below w.heap.size w W → Calls Try.prog 28 #[.slice (some ⟨b, off, none⟩) len cap] W fun e w' =>
        e = .returned (.tuple #[.int .u64 N, .int .i64 k, .int .i64 0]) ∧ w' = W := by
      intro W hW
      have := takeR_any _ len cap zs W (isB_old hB hW)
      rw [hd] at this; exact this
    rw [Int.toNat_natCast]
    unfold tfBody
    by_cases hbad : N / 8 < 1 ∨ 536870911 < N / 8 ∨ ¬(N % 8 = 0 ∨ N % 8 = 1 ∨ N % 8 = 2 ∨ N % 8 = 5)
    · rw [if_pos hbad]
      exact takeFieldR_form _ len cap zs w hB N k hd hN0 hN1 hbad
    · rw [if_neg hbad]
      have h1 : 1 ≤ N / 8 := by omega
      have h2 : N / 8 ≤ 536870911 := by omega
      obtain ⟨X, Q, F, hq⟩ := dec_triple (zs.drop k)
      have hQ := dec_q (zs.drop k) 0 0 (by omega)
      rw [hq] at hQ ⊢
      simp only [] at hQ ⊢
      have HT2 : ∀ W, Below w.heap.size w W → Calls Try.prog 28 #[.slice (some (cutAt b off cap k)) (len - k) (cap - k)] W fun e w' =>
          e = .returned (.tuple #[.int .u64 X, .int .i64 Q, .int .i64 F]) ∧ w' = W := by
        intro W hW
        have := takeR_any _ (len - k) (cap - k) (zs.drop k) W (isB_cut (isB_old hB hW) hlc k (by omega))
        rw [hq] at this; exact this
      by_cases t0 : N % 8 = 0
      · rw [if_pos t0]
        exact takeFieldR_0 b off len cap zs w N k HT X Q F HT2 hN0 hN1 h1 h2 t0 (by omega) hlc (by omega) (by omega) hQ.1 hQ.2
      · rw [if_neg t0]
        by_cases t2 : N % 8 = 2
        · rw [if_pos t2]
          by_cases hF : F = 0
          · subst hF
            rw [if_neg (by simp)]
            obtain ⟨hX0, hX1, hQ0, hQl, _⟩ := dec_ok (zs.drop k) 0 0 X Q (fun z hz => isB_bytes hB z (List.mem_of_mem_drop hz)) (by simp) (by omega) (by simpa using hq)
            obtain ⟨q, rfl⟩ := Int.eq_ofNat_of_zero_le (show 0 ≤ Q by omega)
            rw [List.length_drop] at hQl ⊢
            by_cases hs : ((zs.length - k : Nat) : Int) - (q : Int) < X
            · rw [if_pos hs]
              exact takeFieldR_2short b off len cap w N k HT X q HT2 hN0 hN1 h1 h2 t2 (by omega) hlc (by omega) (by omega) (by omega) (by omega) hX0 hX1 (by omega)
            · rw [if_neg hs]
              obtain ⟨x, rfl⟩ := Int.eq_ofNat_of_zero_le hX0
              rw [Int.toNat_natCast, Int.toNat_natCast, List.drop_drop]
              by_cases hc2 : cap = k + q
              · obtain rfl : x = 0 := by omega
                obtain rfl : len = k + q := by omega
                subst hc2
                have := takeFieldR_2zero b off w N k q HT (by
                  intro W hW
                  have h := HT2 W hW
                  rw [cutAt_in (by omega), show k + q - k = q by omega] at h
                  simpa using h) hN0 hN1 h1 h2 t2 (by omega) (by omega) (by omega)
                simpa using this
              · exact takeFieldR_2ok zs b off len cap w N k HT hB x q HT2 hN0 hN1 h1 h2 t2 (by omega) hlc hcm (by omega) (by omega) (by omega) x rfl (by omega) hc2
          · rw [if_pos (by simpa using hF)]
            exact takeFieldR_2err b off len cap w N k HT X Q F HT2 hN0 hN1 h1 h2 t2 (by omega) hlc (by omega) (by omega) hF
        · rw [if_neg t2]
          by_cases t5 : N % 8 = 5
          · rw [if_pos t5]
            exact takeFieldR_5 b off len cap zs w N k hB HT hN0 hN1 h1 h2 t5 (by omega) hlc (by omega) (by omega)
          · rw [if_neg t5]
            exact takeFieldR_1 b off len cap zs w N k hB HT hN0 hN1 h1 h2 (by omega) (by omega) hlc (by omega) (by omega)
  · rw [if_pos (by simpa using hE)]
    exact takeFieldR_err a len cap zs w hB N K E hd hE
end Go.Proofs.Ythpaanjphpcfkaa
