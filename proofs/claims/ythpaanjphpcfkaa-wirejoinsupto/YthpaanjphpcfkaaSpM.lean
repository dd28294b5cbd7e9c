/-
  What is read of the two slices of a split, and that the bytes of the parts are all bytes. Nothing is proved of the program here.
-/
import Derived.Test.YthpaanjphpcfkaaSpl
namespace Go.Proofs.Ythpaanjphpcfkaa
set_option linter.unusedVariables false
open Go.ChangeShapes Go.WideShapes Go.ChangeAt Go.RowKit

theorem cells_at : ∀ (fs : List FR) (k j : Nat) (f : FR), fs[k]? = some f → j < 4 → (fs.flatMap FR.cells)[k * 4 + j]? = f.cells[j]?
  | [], k, j, f, h, _ => by simp at h
  | f0 :: fs, 0, j, f, h, hj => by
    simp at h
    subst h
    rw [List.flatMap_cons, Nat.zero_mul, Nat.zero_add, List.getElem?_append_left (by simp [FR.cells]; omega)]
  | f0 :: fs, k + 1, j, f, h, hj => by
    have h' : fs[k]? = some f := by simpa using h
    rw [List.flatMap_cons, List.getElem?_append_right (by simp [FR.cells]; omega)]
    rw [show (k + 1) * 4 + j - f0.cells.length = k * 4 + j by simp [FR.cells]; omega]
    exact cells_at fs k j f h' hj
theorem owns_slice {w : World} {base : Nat} {e : TypeId} {size : Nat} {v : Value} {n : Nat} {xs : List Value} (h : w.ownsRow base e size v n xs) :
    ∃ a c, v = .slice a n c ∧ n ≤ c ∧ (n = 0 ∨ ∃ g, a = some ⟨g, 0, none⟩ ∧ ∀ j u, j < n * size → xs[j]? = some u → w.cell? ⟨g, j, none⟩ = some u) := by
  obtain ⟨h1, ⟨rfl, rfl⟩ | ⟨g, cap, cur, rfl, hg, hh, h3, h4, h5, h6⟩⟩ := h
  · exact ⟨none, 0, rfl, Nat.le_refl _, .inl rfl⟩
  · refine ⟨_, cap, rfl, h3, .inr ⟨g, rfl, fun j u hj hu => ?_⟩⟩
    have : cur.toList[j]? = some u := by
      have h7 : (cur.toList.take (n * size))[j]? = some u := by rw [h6]; exact hu
      rw [List.getElem?_take, if_pos hj] at h7
      exact h7
    simp only [World.cell?, hh]
    simpa using this
theorem st_shapes {w : World} {B : Nat} {e : TypeId} {vF vR : Value} {fs : List FR} {rs : List Row3} (h : SplSt w B e vF vR fs rs) :
    ∃ aF cF aR cR, vF = .slice aF fs.length cF ∧ vR = .slice aR rs.length cR ∧ fs.length ≤ cF ∧ rs.length ≤ cR ∧
      (∀ k f, fs[k]? = some f → ∃ g, aF = some ⟨g, 0, none⟩ ∧ w.cell? ⟨g, k * 4, none⟩ = some (.int .i64 f.num) ∧ w.cell? ⟨g, k * 4 + 1, none⟩ = some (.int .i64 f.ty) ∧ w.cell? ⟨g, k * 4 + 2, none⟩ = some (.int .u64 f.n) ∧ w.cell? ⟨g, k * 4 + 3, none⟩ = some (.slice f.a f.len f.cap) ∧ IsB w f.a f.len f.d ∧ g < w.heap.size) ∧
      (∀ k r, rs[k]? = some r → ∃ g, aR = some ⟨g, 0, none⟩ ∧ w.cell? ⟨g, k, none⟩ = some (.slice r.a r.len r.cap) ∧ IsB w r.a r.len r.zs ∧ g < w.heap.size) := by
  obtain ⟨aF, cF, hF, hlF, hcF⟩ := owns_slice h.ownF
  obtain ⟨aR, cR, hR, hlR, hcR⟩ := owns_slice h.ownR
  refine ⟨aF, cF, aR, cR, hF, hR, hlF, hlR, ?_, ?_⟩
  · intro k f hk
    have hlt : k < fs.length := (List.getElem?_eq_some_iff.1 hk).1
    rcases hcF with h0 | ⟨g, rfl, hc⟩
    · omega
    · have c0 := hc (k * 4 + 0) _ (by omega) ((cells_at fs k 0 f hk (by omega)).trans rfl)
      have c1 := hc (k * 4 + 1) _ (by omega) ((cells_at fs k 1 f hk (by omega)).trans rfl)
      have c2 := hc (k * 4 + 2) _ (by omega) ((cells_at fs k 2 f hk (by omega)).trans rfl)
      have c3 := hc (k * 4 + 3) _ (by omega) ((cells_at fs k 3 f hk (by omega)).trans rfl)
      exact ⟨g, rfl, c0, c1, c2, c3, (h.farF f (List.mem_of_getElem? hk)).isB, cell_lt c0⟩
  · intro k r hk
    have hlt : k < rs.length := (List.getElem?_eq_some_iff.1 hk).1
    rcases hcR with h0 | ⟨g, rfl, hc⟩
    · omega
    · have c0 := hc k (.slice r.a r.len r.cap) (by omega) (by rw [List.getElem?_map, hk]; rfl)
      exact ⟨g, rfl, c0, (h.farR r (List.mem_of_getElem? hk)).isB, cell_lt c0⟩

theorem spl_flat : ∀ (n : Nat) (zs : List Int) (D : List (TF × List Int)), spl n zs = some D → (D.flatMap fun p => p.2) = zs
  | n, [], D, h => by rw [spl_nil] at h; simp at h; subst h; rfl
  | 0, z :: zs, D, h => by simp [spl] at h
  | n + 1, z :: zs, D, h => by
    by_cases he : (tf (z :: zs)).e = 0
    · rw [spl_on n _ (by simp) he] at h
      obtain ⟨D', h1, rfl⟩ := Option.map_eq_some_iff.1 h
      rw [List.flatMap_cons, spl_flat n _ D' h1]
      exact List.take_append_drop _ _
    · rw [spl_err _ _ (by simp) he] at h; simp at h
theorem split_flat (zs : List Int) (D : List (TF × List Int)) (h : split zs = some D) : (D.flatMap fun p => p.2) = zs := spl_flat _ zs D h
theorem fits_at {fs : List FR} {D : List (TF × List Int)} (h : FitsF fs D) (k : Nat) (hk : k < D.length) : ∃ f p, fs[k]? = some f ∧ D[k]? = some p ∧ f.says = p.1.says := by
  have hl := h.len
  refine ⟨fs[k], D[k], List.getElem?_eq_getElem (by omega), List.getElem?_eq_getElem hk, ?_⟩
  have := congrArg (·[k]?) h
  simp only [List.getElem?_map, List.getElem?_eq_getElem hk, List.getElem?_eq_getElem (show k < fs.length by omega), Option.map_some] at this
  simpa using this
theorem fitsR_at {rs : List Row3} {D : List (TF × List Int)} (h : FitsR rs D) (k : Nat) (hk : k < D.length) : ∃ r p, rs[k]? = some r ∧ D[k]? = some p ∧ r.zs = p.2 := by
  have hl := h.len
  refine ⟨rs[k], D[k], List.getElem?_eq_getElem (by omega), List.getElem?_eq_getElem hk, ?_⟩
  have := congrArg (·[k]?) h
  simp only [List.getElem?_map, List.getElem?_eq_getElem hk, List.getElem?_eq_getElem (show k < rs.length by omega), Option.map_some] at this
  simpa using this
theorem flat_snoc {D : List (TF × List Int)} {k : Nat} {p : TF × List Int} (h : D[k]? = some p) : ((D.take (k + 1)).flatMap fun p => p.2) = ((D.take k).flatMap fun p => p.2) ++ p.2 := by
  rw [List.take_add_one, h]
  simp
theorem flat_le (D : List (TF × List Int)) (k : Nat) : ((D.take k).flatMap fun p => p.2).length ≤ (D.flatMap fun p => p.2).length := by
  have : (D.flatMap fun p => p.2) = ((D.take k).flatMap fun p => p.2) ++ ((D.drop k).flatMap fun p => p.2) := by
    rw [← List.flatMap_append, List.take_append_drop]
  rw [this, List.length_append]
  omega
theorem spl_len : ∀ (n : Nat) (zs : List Int) (D : List (TF × List Int)), (∀ z ∈ zs, 0 ≤ z ∧ z ≤ 255) → spl n zs = some D → D.length ≤ zs.length
  | n, [], D, hb, h => by rw [spl_nil] at h; simp at h; subst h; simp
  | 0, z :: zs, D, hb, h => by simp [spl] at h
  | n + 1, z :: zs, D, hb, h => by
    by_cases he : (tf (z :: zs)).e = 0
    · rw [spl_on n _ (by simp) he] at h
      obtain ⟨D', h1, rfl⟩ := Option.map_eq_some_iff.1 h
      have hk := tf_k (z :: zs) hb he
      have := spl_len n _ D' (fun z hz => hb z (List.mem_of_mem_drop hz)) h1
      rw [List.length_drop] at this
      simp only [List.length_cons] at *
      omega
    · rw [spl_err _ _ (by simp) he] at h; simp at h
end Go.Proofs.Ythpaanjphpcfkaa
