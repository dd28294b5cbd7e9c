/-
  Fields that are laid one behind the other are split as they were. Nothing is proved of the program here.
-/
import Derived.Test.YthpaanjphpcfkaaSpl
import Derived.Test.YthpaanjphpcfkaaWMath
namespace Go.Proofs.Ythpaanjphpcfkaa
set_option linter.unusedVariables false

theorem fbytes_len2 (num ty n : Int) (d : List Int) (h0 : 0 ≤ n) (h1 : n ≤ 18446744073709551615) (hm0 : 1 ≤ num) (hm1 : num ≤ 536870911) (ht : 0 ≤ ty ∧ ty ≤ 5) (hd : d.length ≤ 18446744073709551615) : 1 ≤ (fbytes num ty n d).length ∧ (fbytes num ty n d).length ≤ d.length + 20 := by
  unfold fbytes
  have h1 := vint_ten (n := (8 * num + ty).toNat) (by omega)
  have h2 := vint_ten (n := n.toNat) (by omega)
  have h3 := vint_ten (n := d.length) (by omega)
  have h4 := vint_pos (8 * num + ty).toNat
  rw [List.length_append]
  split
  · omega
  · split
    · rw [lob_length]; omega
    · split
      · rw [lob_length]; omega
      · rw [List.length_append]; omega
theorem fbytes_bytes2 (num ty n : Int) (d : List Int) (hd : ∀ z ∈ d, 0 ≤ z ∧ z ≤ 255) : ∀ z ∈ fbytes num ty n d, 0 ≤ z ∧ z ≤ 255 := by
  unfold fbytes
  intro z hz
  rcases List.mem_append.1 hz with h | h
  · exact vint_bytes _ z h
  · split at h
    · exact vint_bytes _ z h
    · split at h
      · exact lob_bytes _ _ z h
      · split at h
        · exact lob_bytes _ _ z h
        · rcases List.mem_append.1 h with h | h
          · exact vint_bytes _ z h
          · exact hd z h
/-- the bytes of a field -/
def FR.bytes (f : FR) : List Int := fbytes f.num f.ty f.n f.d
/-- it is a field, and its parts are what their kinds bear -/
structure FR.Good (f : FR) : Prop where
  formed : fmd f.num f.ty f.n f.d.length = true
  n0 : 0 ≤ f.n
  n1 : f.n ≤ 18446744073709551615
  dl : f.d.length ≤ 1048576
  db : ∀ z ∈ f.d, 0 ≤ z ∧ z ≤ 255
theorem FR.Good.len {f : FR} (h : f.Good) : 1 ≤ f.bytes.length ∧ f.bytes.length ≤ f.d.length + 20 := by
  obtain ⟨h1, h2, h3⟩ := fmd_spec h.formed
  exact fbytes_len2 _ _ _ _ h.n0 h.n1 h1 h2 (by omega) (by have := h.dl; omega)
theorem FR.Good.bts {f : FR} (h : f.Good) : ∀ z ∈ f.bytes, 0 ≤ z ∧ z ≤ 255 := fbytes_bytes2 _ _ _ _ h.db
theorem joined_bytes {ws : List FR} (h : ∀ f ∈ ws, f.Good) : ∀ z ∈ ws.flatMap FR.bytes, 0 ≤ z ∧ z ≤ 255 := by
  intro z hz
  obtain ⟨f, hf, hz⟩ := List.mem_flatMap.1 hz
  exact (h f hf).bts z hz
theorem split_joined : ∀ (ws : List FR), (∀ f ∈ ws, f.Good) → ∃ D, split (ws.flatMap FR.bytes) = some D ∧ (D.map fun p => p.1.says) = ws.map FR.says
  | [], _ => ⟨[], split_nil, rfl⟩
  | f :: ws, h => by
    have hg := h f List.mem_cons_self
    obtain ⟨D, hD, hs⟩ := split_joined ws (fun x hx => h x (List.mem_cons_of_mem _ hx))
    have hlen := hg.len
    have htf : tf (f.bytes ++ ws.flatMap FR.bytes) = ⟨f.num, f.ty, f.n, f.d, (f.bytes.length : Int), 0⟩ := tf_front f.num f.ty f.n f.d _ hg.formed hg.n0 hg.n1 (by have := hg.dl; omega)
    refine ⟨(tf (f.bytes ++ ws.flatMap FR.bytes), (f.bytes ++ ws.flatMap FR.bytes).take f.bytes.length) :: D, ?_, ?_⟩
    · rw [List.flatMap_cons, split_on]
      · rw [htf]
        simp only []
        rw [Int.toNat_natCast, List.drop_left, hD]
        rfl
      · intro z hz
        rcases List.mem_append.1 hz with h1 | h1
        · exact hg.bts z h1
        · exact joined_bytes (fun x hx => h x (List.mem_cons_of_mem _ hx)) z h1
      · intro h0
        have := congrArg List.length h0
        rw [List.length_append, List.length_nil] at this
        omega
      · rw [htf]
    · rw [htf, List.map_cons, List.map_cons, hs]
      rfl
end Go.Proofs.Ythpaanjphpcfkaa
