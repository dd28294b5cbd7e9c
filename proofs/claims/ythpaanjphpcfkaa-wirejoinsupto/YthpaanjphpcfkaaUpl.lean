/-
  A slice of fields that came in as an argument of small bulk: what its reading says. Nothing is proved of the program here.
-/
import Derived.Test.YthpaanjphpcfkaaUpt
import Derived.Test.YthpaanjphpcfkaaRws
namespace Go.Proofs.Ythpaanjphpcfkaa
set_option linter.unusedVariables false
open Go.ChangeShapes Go.WideShapes Go.ChangeAt Go.RowKit Go.Joins

/-- what the reading says of a field's numbers, and of its bytes -/
def FR.ok (W : World) (f : FR) : Prop :=
  (-9223372036854775808 ≤ f.num ∧ f.num ≤ 9223372036854775807) ∧ (-9223372036854775808 ≤ f.ty ∧ f.ty ≤ 9223372036854775807) ∧ (0 ≤ f.n ∧ f.n ≤ 18446744073709551615) ∧ ArgB W f.a f.len f.cap f.d
theorem field_of_trod {H : Type} {enc : TypeId × Value → H} {W : World} {fuel : Nat} {cs : List Value} {y : DataW H × List MemPlace}
    (h : DataW.trod enc Try.prog W 0 (fun _ => true) true fuel 25 cs = some y) (hu : Rows.uptoBulk y.1 ≤ 1048576) :
    ∃ f : FR, cs = f.cells ∧ f.ok W ∧ f.cap ≤ Rows.uptoBulk y.1 := by
  obtain ⟨y0, y1, y2, y3, n, rfl, hl, h0, h1, h2, h3⟩ := trod_struct4 Try.underlying25 h
  rw [show Try.prog.cellsOf 25 = 4 by kernel_rfl] at hl
  match cs, hl with
  | [c0, c1, c2, c3], _ =>
    simp only [show Try.prog.cellsOf 3 = 1 by kernel_rfl, show Try.prog.cellsOf 23 = 1 by kernel_rfl, show Try.prog.cellsOf 22 = 1 by kernel_rfl, List.drop_zero, List.drop_succ_cons, List.take_succ_cons, List.take_zero] at h0 h1 h2 h3
    obtain ⟨num, e0, _, w0⟩ := DataW.trod_int Try.underlying3 h0
    obtain ⟨ty, e1, _, w1⟩ := DataW.trod_int Try.underlying3 h1
    obtain ⟨k, e2, _, w2⟩ := DataW.trod_int Try.underlying23 h2
    simp at e0 e1 e2
    subst e0 e1 e2
    have hp := bulk_part (d := y3.1) (l := [y0.1, y1.1, y2.1, y3.1]) (by simp)
    simp only [Rows.uptoBulk] at hu ⊢
    obtain ⟨a, len, cap, zs, hcs, hA, hb⟩ := bytes_of_trod h3 (by omega)
    simp at hcs
    subst hcs
    exact ⟨⟨num, ty, k, a, len, cap, zs⟩, rfl, ⟨bd_i64 w0, bd_i64 w1, bd_u64 w2, hA⟩, by simp only []; omega⟩
theorem list_choice {α : Type} {P : Nat → α → Prop} : ∀ n : Nat, (∀ k, k < n → ∃ f, P k f) → ∃ fs : List α, fs.length = n ∧ ∀ k f, fs[k]? = some f → P k f
  | 0, _ => ⟨[], rfl, fun k f h => by simp at h⟩
  | n + 1, h => by
    obtain ⟨fs, hl, hP⟩ := list_choice n (fun k hk => h k (by omega))
    obtain ⟨f, hf⟩ := h n (by omega)
    refine ⟨fs ++ [f], by simp [hl], fun k g hg => ?_⟩
    by_cases hk : k < n
    · rw [List.getElem?_append_left (by omega)] at hg
      exact hP k g hg
    · have hlt := (List.getElem?_eq_some_iff.1 hg).1
      rw [List.length_append, List.length_singleton] at hlt
      obtain rfl : k = n := by omega
      rw [List.getElem?_append_right (by omega), hl, Nat.sub_self] at hg
      simp at hg
      subst hg
      exact hf
theorem sum_le {α β : Type} (g : α → Nat) (h : β → Nat) : ∀ (fs : List α) (es : List β), fs.length = es.length → (∀ (k : Nat) (f : α) (y : β), fs[k]? = some f → es[k]? = some y → g f ≤ h y) → (fs.map g).sum ≤ (es.map h).sum
  | [], [], _, _ => by simp
  | [], _ :: _, hl, _ => by simp at hl
  | _ :: _, [], hl, _ => by simp at hl
  | f :: fs, y :: es, hl, hp => by
    have h0 := hp 0 f y rfl rfl
    have := sum_le g h fs es (by simpa using hl) (fun k f' y' h1 h2 => hp (k + 1) f' y' (by simpa using h1) (by simpa using h2))
    simp only [List.map_cons, List.sum_cons]
    omega
theorem bulk_sum {H : Type} (l : List (DataW H)) : Rows.uptoBulkAll l = (l.map Rows.uptoBulk).sum := by
  induction l with
  | nil => simp [Rows.uptoBulkAll]
  | cons x r ih => simp [Rows.uptoBulkAll, ih]
/-- the k-th element of a slice of fields is this one -/
def FieldAt (W : World) (a : Option Addr) (k : Nat) (f : FR) : Prop :=
  (∃ g off, a = some ⟨g, off, none⟩ ∧ ∀ j u, f.cells[j]? = some u → W.cell? ⟨g, off + k * 4 + j, none⟩ = some u) ∧ f.ok W
theorem open_fieldsU {H : Type} {enc : TypeId × Value → H} {W : World} {r : Reach} {b0 : Nat} {v : Value} {d : DataW H} {p : List MemPlace}
    (hv : Value.okWide Try.prog W r b0 49 v) (h : DataW.Trod enc Try.prog W 0 (fun _ => true) true 49 v d p) (hu : Rows.uptoBulk d ≤ 1048576) :
    ∃ (a : Option Addr) (len cap : Nat) (fs : List FR), v = .slice a len cap ∧ fs.length = len ∧ len ≤ cap ∧ cap ≤ 1048576 ∧ (fs.map FR.cap).sum ≤ 1048576 ∧ (∀ k f, fs[k]? = some f → FieldAt W a k f) := by
  obtain ⟨a, len, cap, rfl⟩ := okWide_slice Try.underlying49 hv
  obtain ⟨fuel, hf⟩ := h
  rcases DataW.trod_slice Try.underlying49 hf with ⟨hcs, hd⟩ | ⟨x, l, c, elems, rest, m, _, hcs, hd, hb, hl, hm, hlen, hel, hsp, _⟩
  · simp [Value.cells] at hcs
    obtain ⟨rfl, rfl, rfl⟩ := hcs
    exact ⟨none, 0, 0, [], rfl, rfl, Nat.le_refl _, by omega, by simp, fun k f h => by simp at h⟩
  · simp [Value.cells] at hcs
    obtain ⟨rfl, rfl, rfl⟩ := hcs
    simp only [Prod.mk.injEq] at hd
    obtain ⟨rfl, _⟩ := hd
    obtain ⟨hrl, _⟩ := hsp rfl
    have hbe : Rows.uptoBulkAll (elems.map (·.1)) + Rows.uptoBulkAll (rest.map (·.1)) + 1 ≤ 1048576 := by simpa [Rows.uptoBulk] using hu
    have hcapb : cap ≤ 1048576 := by
      have h1 := bulk_length (elems.map (·.1))
      have h2 := bulk_length (rest.map (·.1))
      simp only [List.length_map] at h1 h2
      omega
    rw [show Try.prog.cellsOf 25 = 4 by kernel_rfl] at hel
    obtain ⟨fs, hfl, hfp⟩ := list_choice (P := fun k f => FieldAt W (some x) k f ∧ ∃ y, elems[k]? = some y ∧ f.cap ≤ Rows.uptoBulk y.1) len (fun k hk => by
      have h1 := hel k hk
      obtain ⟨y, hy⟩ : ∃ y, elems[k]? = some y := ⟨_, List.getElem?_eq_getElem (by omega)⟩
      rw [hy] at h1
      obtain ⟨cs, hcs, htr⟩ := Option.bind_eq_some_iff.1 h1
      have hyb : Rows.uptoBulk y.1 ≤ 1048576 := by
        have := bulk_part (d := y.1) (l := elems.map (·.1)) (List.mem_map.2 ⟨y, List.mem_of_getElem? hy, rfl⟩)
        omega
      obtain ⟨f, rfl, hok, hcap⟩ := field_of_trod htr hyb
      refine ⟨f, ⟨?_, hok⟩, y, hy, hcap⟩
      have hcell := (World.cells?_some hcs).2.2
      obtain ⟨g, off, spot⟩ := x
      have hspot : spot = none := by
        have h00 := hel 0 (by omega)
        rw [List.getElem?_eq_getElem (by omega)] at h00
        obtain ⟨cs0, hcs0, _⟩ := Option.bind_eq_some_iff.1 h00
        obtain ⟨_, hl0, hc00⟩ := World.cells?_some hcs0
        have h2 := hc00 0 (by omega)
        rw [List.getElem?_eq_getElem (by omega)] at h2
        have h3 := World.cell?_spot h2
        simpa [Addr.add] using h3
      subst hspot
      refine ⟨g, off, rfl, fun j u hj => ?_⟩
      have hj4 : j < 4 := by
        have := (List.getElem?_eq_some_iff.1 hj).1
        simpa [FR.cells] using this
      have h3 := hcell j hj4
      rw [add_off, add_off, hj] at h3
      exact h3)
    refine ⟨some x, len, cap, fs, rfl, hfl, hl, hcapb, ?_, fun k f hk => (hfp k f hk).1⟩
    have h1 := sum_le FR.cap (fun y : DataW H × List MemPlace => Rows.uptoBulk y.1) fs elems (by omega) (fun k f y h1 h2 => by
      obtain ⟨_, y', hy', hc⟩ := hfp k f h1
      rw [h2] at hy'
      cases hy'
      exact hc)
    rw [bulk_sum, List.map_map] at hbe
    have : (elems.map fun y => Rows.uptoBulk y.1).sum = (elems.map (Rows.uptoBulk ∘ fun x => x.1)).sum := rfl
    omega
end Go.Proofs.Ythpaanjphpcfkaa
