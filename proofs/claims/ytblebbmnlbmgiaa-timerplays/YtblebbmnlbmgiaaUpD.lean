/-
  Declarations that came in as an argument, of a size that a machine can hold: what their reading says. Nothing is proved of the program here.
-/
import Derived.Test.YtblebbmnlbmgiaaPsT
import Derived.Test.YtblebbmnlbmgiaaProg
import Derived.Test.YtblebbmnlbmgiaaChecked
import Derived.OpenShut
import Derived.ProofKit
import Derived.Lib.SmallJoins
import Derived.Lib.ItoaMem
import Derived.Lib.SlicesS
import Derived.Deep.Cut
import Derived.Deep.DeepCutAuto
import Derived.BigQuiet
import Derived.Deep.QuietTactic
import Derived.Deep.RegionLaw
import Derived.Deep.RegionHeldLaw
import Derived.Deep.AppendLies
import Derived.Laws.AppendOwn
import Derived.OwnWalk
import Derived.Maps.AppendAt
import Derived.Lib.Hide
import Derived.Lib.TrimUEq
import Derived.Lib.MapLaws
import Derived.Lib.TrimAscii
import Derived.Lib.RuneBytes
import Derived.Lib.RuneCount
import Derived.WalkKit
import Derived.Below
import Derived.Laws.RangeAny
import Derived.Laws.IdiomStrings
import Derived.Lib.Strings
import Derived.Deep.RegionWith
import Derived.Lib.IndexBytes
import Derived.WalkSmall
import Derived.Lib.OthersKept
import Derived.Lib.ParseIntB
import Derived.Lib.Bytealg
namespace Go.Proofs.Ytblebbmnlbmgiaa
set_option linter.unusedVariables false
open Go.ChangeShapes Go.WideShapes Go.ChangeAt Go.RowKit Go.Joins

/-- no text and no list of it is too long -/
def Wok2 {H : Type} (d : DataW H) (t : TypeId) : Prop := ∀ n ∈ DataW.weights Try.prog t d, n ≤ 140737488351232
theorem wok_all {H : Type} {e : TypeId} : ∀ {l : List (DataW H)} {d : DataW H}, d ∈ l → (∀ n ∈ DataW.weightsAll Try.prog e l, n ≤ 140737488351232) → Wok2 d e
  | x :: r, d, hd, h => by
    rw [DataW.weightsAll] at h
    rcases List.mem_cons.1 hd with rfl | hd
    · exact fun n hn => h n (List.mem_append_left _ hn)
    · exact wok_all hd (fun n hn => h n (List.mem_append_right _ hn))
theorem wok_slice {H : Type} {t e : TypeId} {elems spare : List (DataW H)} (ht : Try.prog.underlying t = some (.slice e)) (h : Wok2 (.slice elems spare) t) :
    (elems.length + spare.length) * Try.prog.bytesOf e ≤ 140737488351232 ∧ ∀ d ∈ elems, Wok2 d e := by
  unfold Wok2 at h
  rw [DataW.weights, ht] at h
  simp only at h
  refine ⟨h _ List.mem_cons_self, fun d hd => wok_all hd fun n hn => h n (List.mem_cons_of_mem _ (List.mem_append_left _ hn))⟩
theorem wok_each {H : Type} : ∀ {ts : List TypeId} {l : List (DataW H)}, (∀ n ∈ DataW.weightsEach Try.prog ts l, n ≤ 140737488351232) → ∀ (i : Nat) (t : TypeId) (d : DataW H), ts[i]? = some t → l[i]? = some d → Wok2 d t
  | t0 :: ts, d0 :: l, h, 0, t, d, h1, h2 => by
    have e1 : t0 = t := by simpa using h1
    have e2 : d0 = d := by simpa using h2
    subst e1 e2
    rw [DataW.weightsEach] at h
    exact fun n hn => h n (List.mem_append_left _ hn)
  | t0 :: ts, d0 :: l, h, i + 1, t, d, h1, h2 => by
    rw [DataW.weightsEach] at h
    exact wok_each (ts := ts) (l := l) (fun n hn => h n (List.mem_append_right _ hn)) i t d (by simpa using h1) (by simpa using h2)
  | [], l, h, i, t, d, h1, h2 => by simp at h1
  | t0 :: ts, [], h, i, t, d, h1, h2 => by simp at h2
theorem wok_struct {H : Type} {t : TypeId} {fs : Array Field} {parts : List (DataW H)} (ht : Try.prog.underlying t = some (.struct fs)) (h : Wok2 (.agg parts) t) (i : Nat) (f : Field) (d : DataW H) (hf : fs[i]? = some f) (hd : parts[i]? = some d) : Wok2 d f.type := by
  unfold Wok2 at h
  rw [DataW.weights, ht] at h
  simp only at h
  refine wok_each h i f.type d ?_ hd
  rw [List.getElem?_map, Array.getElem?_toList, hf]; rfl
theorem list_choiceD {α : Type} {P : Nat → α → Prop} : ∀ n : Nat, (∀ k, k < n → ∃ f, P k f) → ∃ fs : List α, fs.length = n ∧ ∀ k f, fs[k]? = some f → P k f
  | 0, _ => ⟨[], rfl, fun k f h => by simp at h⟩
  | n + 1, h => by
    obtain ⟨fs, hl, hP⟩ := list_choiceD n (fun k hk => h k (by omega))
    obtain ⟨f, hf⟩ := h n (by omega)
    refine ⟨fs ++ [f], by simp [hl], fun k g hg => ?_⟩
    by_cases hk : k < n
    · rw [List.getElem?_append_left (by omega)] at hg
      exact hP k g hg
    · have hlt := (List.getElem?_eq_some_iff.1 hg).1
      rw [List.length_append, List.length_singleton] at hlt
      obtain rfl : k = n := by omega
      rw [List.getElem?_append_right (by omega), hl, Nat.sub_self] at hg
      simp at hg
      subst hg
      exact hf
theorem cell_ltD {w : World} {g o : Nat} {v : Value} (h : w.cell? ⟨g, o, none⟩ = some v) : g < w.heap.size := by
  by_cases hl : g < w.heap.size
  · exact hl
  · have : w.heap[g]? = none := Array.getElem?_eq_none (by omega)
    simp [World.cell?, this] at h
/-- a slice whose elements are read as rows -/
theorem slice_rows {H : Type} {enc : TypeId × Value → H} {W : World} {α : Type} (T E : TypeId) (k : Nat) (row : α → List Value) (fit : α → Prop) (hT : Try.prog.underlying T = some (.slice E)) (hk : Try.prog.cellsOf E = k) (hk1 : 1 ≤ k) (hrl : ∀ x, (row x).length = k) (hby : 1 ≤ Try.prog.bytesOf E)
    {fuel : Nat} {cs : List Value} {y : DataW H × List MemPlace} (helem : ∀ n, fuel = n + 1 → ∀ cs y, DataW.trod enc Try.prog W 0 (fun _ => true) true n E cs = some y → Wok2 y.1 E → ∃ x, cs = row x ∧ fit x)
    (h : DataW.trod enc Try.prog W 0 (fun _ => true) true fuel T cs = some y) (hw : Wok2 y.1 T) :
    ∃ v xs, cs = [v] ∧ RowsIn W (fun b => b < W.heap.size) k row v xs ∧ xs.length ≤ 140737488355328 ∧ ∀ x ∈ xs, fit x := by
  rcases DataW.trod_slice hT h with ⟨hcs, hd⟩ | ⟨x, l, c, elems, rest, m, hm, hcs, hd, hb, hl, hmx, hlen, hel, hsp, _⟩
  · exact ⟨_, [], hcs, RowsIn.nil _ _ _ _ _ _, by simp, fun x hx => by cases hx⟩
  · subst hd
    obtain ⟨hbytes, hparts⟩ := wok_slice hT hw
    have hcount : elems.length ≤ 140737488355328 := by
      rw [List.length_map, List.length_map] at hbytes
      have h2 : elems.length * 1 ≤ (elems.length + rest.length) * Try.prog.bytesOf E := Nat.mul_le_mul (by omega) hby
      omega
    rw [hk] at hel
    have hP : ∀ i, i < l → ∃ a : α, fit a ∧ ∃ cs, W.cells? 0 (x.add (i * k)) k = some cs ∧ cs = row a := fun i hi => by
      have h1 := hel i hi
      obtain ⟨yy, hy⟩ : ∃ yy, elems[i]? = some yy := ⟨_, List.getElem?_eq_getElem (by omega)⟩
      rw [hy] at h1
      obtain ⟨cs1, hcs1, htr⟩ := Option.bind_eq_some_iff.1 h1
      obtain ⟨a, ha, hf⟩ := helem m hm cs1 yy htr (hparts yy.1 (List.mem_map.2 ⟨yy, List.mem_of_getElem? hy, rfl⟩))
      exact ⟨a, hf, cs1, hcs1, ha⟩
    obtain ⟨zs, hal, hap⟩ := list_choiceD (P := fun i a => fit a ∧ ∃ cs, W.cells? 0 (x.add (i * k)) k = some cs ∧ cs = row a) l hP
    refine ⟨_, zs, hcs, ⟨some x, c, by rw [hal], by omega, ?_⟩, by omega, fun a ha => ?_⟩
    · by_cases hz : zs = []
      · exact .inl hz
      · right
        have hpos := List.length_pos_iff.2 hz
        obtain ⟨g, off, spot⟩ := x
        obtain ⟨a0, ha0⟩ : ∃ a, zs[0]? = some a := ⟨_, List.getElem?_eq_getElem (by omega)⟩
        obtain ⟨_, cs0, hcs0, hr0⟩ := hap 0 a0 ha0
        have hc0 := (World.cells?_some hcs0).2.2 0 (by omega)
        have hr1 : cs0[0]? = some (cs0[0]'(by rw [hr0, hrl]; omega)) := List.getElem?_eq_getElem _
        rw [hr1] at hc0
        have hspot : spot = none := by
          have h3 := World.cell?_spot hc0
          simpa [Addr.add] using h3
        subst hspot
        refine ⟨g, off, rfl, ?_, fun j a hj i u hu => ?_⟩
        · have e : ((Addr.mk g off none).add (0 * k)).add 0 = ⟨g, off, none⟩ := by simp [Addr.add]
          rw [e] at hc0
          exact cell_ltD hc0
        · obtain ⟨_, cs1, hcs1, hr1⟩ := hap j a hj
          have hi : i < k := by
            have := (List.getElem?_eq_some_iff.1 hu).1
            rw [hrl] at this; exact this
          have h3 := (World.cells?_some hcs1).2.2 i hi
          rw [hr1, hu] at h3
          have e : ((Addr.mk g off none).add (j * k)).add i = ⟨g, off + (j * k + i), none⟩ := by rw [Lib.add_plain, Lib.add_plain, Nat.add_assoc]
          rw [e] at h3
          exact h3
    · obtain ⟨i, hi⟩ := List.getElem?_of_mem ha
      exact (hap i a hi).1
end Go.Proofs.Ytblebbmnlbmgiaa
