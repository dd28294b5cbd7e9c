/-
  Declarations that came in as an argument, of a size that a machine can hold: what their reading says. Nothing is proved of the program here.
  Schemas that came in as an argument: what their reading says. Nothing is proved of the program here.
-/
import Derived.Test.YtnopnjklcdcckaaGreatDoorM0
import Derived.Test.YtnopnjklcdcckaaGreatDoorProg
import Derived.Test.YtnopnjklcdcckaaGreatDoorChecked
import Derived.OpenShut
import Derived.ProofKit
import Derived.Lib.SmallJoins
import Derived.Lib.ItoaMem
import Derived.Lib.SlicesS
import Derived.Deep.Cut
import Derived.Deep.DeepCutAuto
import Derived.BigQuiet
import Derived.Deep.QuietTactic
import Derived.Deep.RegionLaw
import Derived.Deep.RegionHeldLaw
import Derived.Deep.AppendLies
import Derived.Laws.AppendOwn
import Derived.OwnWalk
import Derived.Maps.AppendAt
import Derived.Lib.Hide
import Derived.Test.YtnopnjklcdcckaaGreatDoorM10
namespace Go.Proofs.YtnopnjklcdcckaaGreatDoor
set_option linter.unusedVariables false
open Go.ChangeShapes Go.WideShapes Go.ChangeAt Go.RowKit Go.Joins

/-- no text and no list of it is too long -/
def Wok2 {H : Type} (d : DataW H) (t : TypeId) : Prop := ∀ n ∈ DataW.weights Tryz.prog t d, n ≤ 140737488351232
theorem wok_all {H : Type} {e : TypeId} : ∀ {l : List (DataW H)} {d : DataW H}, d ∈ l → (∀ n ∈ DataW.weightsAll Tryz.prog e l, n ≤ 140737488351232) → Wok2 d e
  | x :: r, d, hd, h => by
    rw [DataW.weightsAll] at h
    rcases List.mem_cons.1 hd with rfl | hd
    · exact fun n hn => h n (List.mem_append_left _ hn)
    · exact wok_all hd (fun n hn => h n (List.mem_append_right _ hn))
theorem wok_slice {H : Type} {t e : TypeId} {elems spare : List (DataW H)} (ht : Tryz.prog.underlying t = some (.slice e)) (h : Wok2 (.slice elems spare) t) :
    (elems.length + spare.length) * Tryz.prog.bytesOf e ≤ 140737488351232 ∧ ∀ d ∈ elems, Wok2 d e := by
  unfold Wok2 at h
  rw [DataW.weights, ht] at h
  simp only at h
  refine ⟨h _ List.mem_cons_self, fun d hd => wok_all hd fun n hn => h n (List.mem_cons_of_mem _ (List.mem_append_left _ hn))⟩
theorem wok_string {H : Type} {t : TypeId} {l : List UInt8} (h : Wok2 (H := H) (.lit (.string l)) t) : l.length ≤ 140737488351232 := h _ (by rw [DataW.weights]; exact List.mem_singleton.2 rfl)
theorem wok_each {H : Type} : ∀ {ts : List TypeId} {l : List (DataW H)}, (∀ n ∈ DataW.weightsEach Tryz.prog ts l, n ≤ 140737488351232) → ∀ (i : Nat) (t : TypeId) (d : DataW H), ts[i]? = some t → l[i]? = some d → Wok2 d t
  | t0 :: ts, d0 :: l, h, 0, t, d, h1, h2 => by
    have e1 : t0 = t := by simpa using h1
    have e2 : d0 = d := by simpa using h2
    subst e1 e2
    rw [DataW.weightsEach] at h
    exact fun n hn => h n (List.mem_append_left _ hn)
  | t0 :: ts, d0 :: l, h, i + 1, t, d, h1, h2 => by
    rw [DataW.weightsEach] at h
    exact wok_each (ts := ts) (l := l) (fun n hn => h n (List.mem_append_right _ hn)) i t d (by simpa using h1) (by simpa using h2)
  | [], l, h, i, t, d, h1, h2 => by simp at h1
  | t0 :: ts, [], h, i, t, d, h1, h2 => by simp at h2
theorem wok_struct {H : Type} {t : TypeId} {fs : Array Field} {parts : List (DataW H)} (ht : Tryz.prog.underlying t = some (.struct fs)) (h : Wok2 (.agg parts) t) (i : Nat) (f : Field) (d : DataW H) (hf : fs[i]? = some f) (hd : parts[i]? = some d) : Wok2 d f.type := by
  unfold Wok2 at h
  rw [DataW.weights, ht] at h
  simp only at h
  refine wok_each h i f.type d ?_ hd
  rw [List.getElem?_map, Array.getElem?_toList, hf]; rfl
theorem list_choiceD {α : Type} {P : Nat → α → Prop} : ∀ n : Nat, (∀ k, k < n → ∃ f, P k f) → ∃ fs : List α, fs.length = n ∧ ∀ k f, fs[k]? = some f → P k f
  | 0, _ => ⟨[], rfl, fun k f h => by simp at h⟩
  | n + 1, h => by
    obtain ⟨fs, hl, hP⟩ := list_choiceD n (fun k hk => h k (by omega))
    obtain ⟨f, hf⟩ := h n (by omega)
    refine ⟨fs ++ [f], by simp [hl], fun k g hg => ?_⟩
    by_cases hk : k < n
    · rw [List.getElem?_append_left (by omega)] at hg
      exact hP k g hg
    · have hlt := (List.getElem?_eq_some_iff.1 hg).1
      rw [List.length_append, List.length_singleton] at hlt
      obtain rfl : k = n := by omega
      rw [List.getElem?_append_right (by omega), hl, Nat.sub_self] at hg
      simp at hg
      subst hg
      exact hf
theorem cell_ltD {w : World} {g o : Nat} {v : Value} (h : w.cell? ⟨g, o, none⟩ = some v) : g < w.heap.size := by
  by_cases hl : g < w.heap.size
  · exact hl
  · have : w.heap[g]? = none := Array.getElem?_eq_none (by omega)
    simp [World.cell?, this] at h
/-- a slice whose elements are read as rows -/
theorem slice_rows {H : Type} {enc : TypeId × Value → H} {W : World} {α : Type} (T E : TypeId) (k : Nat) (row : α → List Value) (fit : α → Prop) (hT : Tryz.prog.underlying T = some (.slice E)) (hk : Tryz.prog.cellsOf E = k) (hk1 : 1 ≤ k) (hrl : ∀ x, (row x).length = k) (hby : 1 ≤ Tryz.prog.bytesOf E)
    {fuel : Nat} {cs : List Value} {y : DataW H × List MemPlace} (helem : ∀ n, fuel = n + 1 → ∀ cs y, DataW.trod enc Tryz.prog W 0 (fun _ => true) true n E cs = some y → Wok2 y.1 E → ∃ x, cs = row x ∧ fit x)
    (h : DataW.trod enc Tryz.prog W 0 (fun _ => true) true fuel T cs = some y) (hw : Wok2 y.1 T) :
    ∃ v xs, cs = [v] ∧ RowsIn W (fun b => b < W.heap.size) k row v xs ∧ xs.length ≤ 140737488355328 ∧ ∀ x ∈ xs, fit x := by
  rcases DataW.trod_slice hT h with ⟨hcs, hd⟩ | ⟨x, l, c, elems, rest, m, hm, hcs, hd, hb, hl, hmx, hlen, hel, hsp, _⟩
  · exact ⟨_, [], hcs, RowsIn.nil _ _ _ _ _ _, by simp, fun x hx => by cases hx⟩
  · subst hd
    obtain ⟨hbytes, hparts⟩ := wok_slice hT hw
    have hcount : elems.length ≤ 140737488355328 := by
      rw [List.length_map, List.length_map] at hbytes
      have h2 : elems.length * 1 ≤ (elems.length + rest.length) * Tryz.prog.bytesOf E := Nat.mul_le_mul (by omega) hby
      omega
    rw [hk] at hel
    have hP : ∀ i, i < l → ∃ a : α, fit a ∧ ∃ cs, W.cells? 0 (x.add (i * k)) k = some cs ∧ cs = row a := fun i hi => by
      have h1 := hel i hi
      obtain ⟨yy, hy⟩ : ∃ yy, elems[i]? = some yy := ⟨_, List.getElem?_eq_getElem (by omega)⟩
      rw [hy] at h1
      obtain ⟨cs1, hcs1, htr⟩ := Option.bind_eq_some_iff.1 h1
      obtain ⟨a, ha, hf⟩ := helem m hm cs1 yy htr (hparts yy.1 (List.mem_map.2 ⟨yy, List.mem_of_getElem? hy, rfl⟩))
      exact ⟨a, hf, cs1, hcs1, ha⟩
    obtain ⟨zs, hal, hap⟩ := list_choiceD (P := fun i a => fit a ∧ ∃ cs, W.cells? 0 (x.add (i * k)) k = some cs ∧ cs = row a) l hP
    refine ⟨_, zs, hcs, ⟨some x, c, by rw [hal], by omega, ?_⟩, by omega, fun a ha => ?_⟩
    · by_cases hz : zs = []
      · exact .inl hz
      · right
        have hpos := List.length_pos_iff.2 hz
        obtain ⟨g, off, spot⟩ := x
        obtain ⟨a0, ha0⟩ : ∃ a, zs[0]? = some a := ⟨_, List.getElem?_eq_getElem (by omega)⟩
        obtain ⟨_, cs0, hcs0, hr0⟩ := hap 0 a0 ha0
        have hc0 := (World.cells?_some hcs0).2.2 0 (by omega)
        have hr1 : cs0[0]? = some (cs0[0]'(by rw [hr0, hrl]; omega)) := List.getElem?_eq_getElem _
        rw [hr1] at hc0
        have hspot : spot = none := by
          have h3 := World.cell?_spot hc0
          simpa [Addr.add] using h3
        subst hspot
        refine ⟨g, off, rfl, ?_, fun j a hj i u hu => ?_⟩
        · have e : ((Addr.mk g off none).add (0 * k)).add 0 = ⟨g, off, none⟩ := by simp [Addr.add]
          rw [e] at hc0
          exact cell_ltD hc0
        · obtain ⟨_, cs1, hcs1, hr1⟩ := hap j a hj
          have hi : i < k := by
            have := (List.getElem?_eq_some_iff.1 hu).1
            rw [hrl] at this; exact this
          have h3 := (World.cells?_some hcs1).2.2 i hi
          rw [hr1, hu] at h3
          have e : ((Addr.mk g off none).add (j * k)).add i = ⟨g, off + (j * k + i), none⟩ := by rw [Lib.add_plain, Lib.add_plain, Nat.add_assoc]
          rw [e] at h3
          exact h3
    · obtain ⟨i, hi⟩ := List.getElem?_of_mem ha
      exact (hap i a hi).1
set_option maxRecDepth 100000 in
theorem trodS3 {H : Type} {enc : TypeId × Value → H} {W : World} {t : TypeId} {f0 f1 f2 : Field} {fuel : Nat} {cs : List Value} {y : DataW H × List MemPlace} (ht : Tryz.prog.underlying t = some (.struct #[f0, f1, f2])) (h : DataW.trod enc Tryz.prog W 0 (fun _ => true) true fuel t cs = some y) (hw : Wok2 y.1 t) :
    ∃ (y0 y1 y2 : DataW H × List MemPlace) (n : Nat), fuel = n + 1 ∧ cs.length = Tryz.prog.cellsOf t ∧ (DataW.trod enc Tryz.prog W 0 (fun _ => true) true n f0.type ((cs.drop f0.offset).take (Tryz.prog.cellsOf f0.type)) = some y0 ∧ Wok2 y0.1 f0.type) ∧ (DataW.trod enc Tryz.prog W 0 (fun _ => true) true n f1.type ((cs.drop f1.offset).take (Tryz.prog.cellsOf f1.type)) = some y1 ∧ Wok2 y1.1 f1.type) ∧ (DataW.trod enc Tryz.prog W 0 (fun _ => true) true n f2.type ((cs.drop f2.offset).take (Tryz.prog.cellsOf f2.type)) = some y2 ∧ Wok2 y2.1 f2.type) := by
  obtain ⟨xs, n, hn, rfl, hl, hlen, hf⟩ := DataW.trod_struct ht h
  match xs, hlen with
  | [y0, y1, y2], _ => exact ⟨y0, y1, y2, n, hn, hl, ⟨by simpa using hf 0 f0 rfl, wok_struct ht hw 0 f0 y0.1 rfl rfl⟩, ⟨by simpa using hf 1 f1 rfl, wok_struct ht hw 1 f1 y1.1 rfl rfl⟩, ⟨by simpa using hf 2 f2 rfl, wok_struct ht hw 2 f2 y2.1 rfl rfl⟩⟩
set_option maxRecDepth 100000 in
theorem trodS5 {H : Type} {enc : TypeId × Value → H} {W : World} {t : TypeId} {f0 f1 f2 f3 f4 : Field} {fuel : Nat} {cs : List Value} {y : DataW H × List MemPlace} (ht : Tryz.prog.underlying t = some (.struct #[f0, f1, f2, f3, f4])) (h : DataW.trod enc Tryz.prog W 0 (fun _ => true) true fuel t cs = some y) (hw : Wok2 y.1 t) :
    ∃ (y0 y1 y2 y3 y4 : DataW H × List MemPlace) (n : Nat), fuel = n + 1 ∧ cs.length = Tryz.prog.cellsOf t ∧ (DataW.trod enc Tryz.prog W 0 (fun _ => true) true n f0.type ((cs.drop f0.offset).take (Tryz.prog.cellsOf f0.type)) = some y0 ∧ Wok2 y0.1 f0.type) ∧ (DataW.trod enc Tryz.prog W 0 (fun _ => true) true n f1.type ((cs.drop f1.offset).take (Tryz.prog.cellsOf f1.type)) = some y1 ∧ Wok2 y1.1 f1.type) ∧ (DataW.trod enc Tryz.prog W 0 (fun _ => true) true n f2.type ((cs.drop f2.offset).take (Tryz.prog.cellsOf f2.type)) = some y2 ∧ Wok2 y2.1 f2.type) ∧ (DataW.trod enc Tryz.prog W 0 (fun _ => true) true n f3.type ((cs.drop f3.offset).take (Tryz.prog.cellsOf f3.type)) = some y3 ∧ Wok2 y3.1 f3.type) ∧ (DataW.trod enc Tryz.prog W 0 (fun _ => true) true n f4.type ((cs.drop f4.offset).take (Tryz.prog.cellsOf f4.type)) = some y4 ∧ Wok2 y4.1 f4.type) := by
  obtain ⟨xs, n, hn, rfl, hl, hlen, hf⟩ := DataW.trod_struct ht h
  match xs, hlen with
  | [y0, y1, y2, y3, y4], _ => exact ⟨y0, y1, y2, y3, y4, n, hn, hl, ⟨by simpa using hf 0 f0 rfl, wok_struct ht hw 0 f0 y0.1 rfl rfl⟩, ⟨by simpa using hf 1 f1 rfl, wok_struct ht hw 1 f1 y1.1 rfl rfl⟩, ⟨by simpa using hf 2 f2 rfl, wok_struct ht hw 2 f2 y2.1 rfl rfl⟩, ⟨by simpa using hf 3 f3 rfl, wok_struct ht hw 3 f3 y3.1 rfl rfl⟩, ⟨by simpa using hf 4 f4 rfl, wok_struct ht hw 4 f4 y4.1 rfl rfl⟩⟩
abbrev N47 : Nat := 140737488355328
theorem str_of_trod {H : Type} {enc : TypeId × Value → H} {W : World} {fuel : Nat} {cs : List Value} {y : DataW H × List MemPlace} (h : DataW.trod enc Tryz.prog W 0 (fun _ => true) true fuel 9 cs = some y) (hw : Wok2 y.1 9) : ∃ l : List UInt8, cs = [.string (mkB l)] ∧ l.length ≤ N47 := by
  obtain ⟨s, e, rfl, _⟩ := DataW.trod_string Tryz.underlying9 h
  exact ⟨s.data.toList, by rw [e, mkB_data], by have := wok_string hw; unfold N47; omega⟩
end Go.Proofs.YtnopnjklcdcckaaGreatDoor
namespace Go.Proofs.YtnopnjklcdcckaaGreatDoor
set_option linter.unusedVariables false
open Go.ChangeShapes Go.WideShapes Go.ChangeAt Go.RowKit Go.Joins

set_option maxRecDepth 100000 in
theorem trodS2 {H : Type} {enc : TypeId × Value → H} {W : World} {t : TypeId} {f0 f1 : Field} {fuel : Nat} {cs : List Value} {y : DataW H × List MemPlace} (ht : Tryz.prog.underlying t = some (.struct #[f0, f1])) (h : DataW.trod enc Tryz.prog W 0 (fun _ => true) true fuel t cs = some y) (hw : Wok2 y.1 t) :
    ∃ (y0 y1 : DataW H × List MemPlace) (n : Nat), fuel = n + 1 ∧ cs.length = Tryz.prog.cellsOf t ∧ (DataW.trod enc Tryz.prog W 0 (fun _ => true) true n f0.type ((cs.drop f0.offset).take (Tryz.prog.cellsOf f0.type)) = some y0 ∧ Wok2 y0.1 f0.type) ∧ (DataW.trod enc Tryz.prog W 0 (fun _ => true) true n f1.type ((cs.drop f1.offset).take (Tryz.prog.cellsOf f1.type)) = some y1 ∧ Wok2 y1.1 f1.type) := by
  obtain ⟨xs, n, hn, rfl, hl, hlen, hf⟩ := DataW.trod_struct ht h
  match xs, hlen with
  | [y0, y1], _ => exact ⟨y0, y1, n, hn, hl, ⟨by simpa using hf 0 f0 rfl, wok_struct ht hw 0 f0 y0.1 rfl rfl⟩, ⟨by simpa using hf 1 f1 rfl, wok_struct ht hw 1 f1 y1.1 rfl rfl⟩⟩
theorem cI : Tryz.prog.cellsOf 3 = 1 := by kernel_rfl
theorem cB : Tryz.prog.cellsOf 4 = 1 := by kernel_rfl
theorem cS : Tryz.prog.cellsOf 9 = 1 := by kernel_rfl
set_option maxRecDepth 100000 in
theorem fd_of_trod {H : Type} {enc : TypeId × Value → H} {W : World} {fuel : Nat} {cs : List Value} {y : DataW H × List MemPlace} (h : DataW.trod enc Tryz.prog W 0 (fun _ => true) true fuel 52 cs = some y) (hw : Wok2 y.1 52) :
    ∃ x : FD, cs = fdrow x ∧ x.name.length ≤ N47 := by
  obtain ⟨y0, y1, y2, y3, y4, n, _, hl, ⟨h0, w0⟩, ⟨h1, w1⟩, ⟨h2, w2⟩, ⟨h3, w3⟩, ⟨h4, w4⟩⟩ := trodS5 Tryz.underlying52 h hw
  rw [show Tryz.prog.cellsOf 52 = 5 by kernel_rfl] at hl
  match cs, hl with
  | [c0, c1, c2, c3, c4], _ =>
    dsimp only at h0 h1 h2 h3 h4
    simp only [cI, cB, cS, List.drop_zero, List.drop_succ_cons, List.take_succ_cons, List.take_zero] at h0 h1 h2 h3 h4
    obtain ⟨a, e0, _, _⟩ := DataW.trod_int Tryz.underlying3 h0
    obtain ⟨l1, e1, g1⟩ := str_of_trod h1 w1
    obtain ⟨b, e2, _, _⟩ := DataW.trod_int Tryz.underlying3 h2
    obtain ⟨c, e3, _⟩ := DataW.trod_bool Tryz.underlying4 h3
    obtain ⟨d, e4, _, _⟩ := DataW.trod_int Tryz.underlying3 h4
    simp only [List.cons.injEq, and_true] at e0 e1 e2 e3 e4
    subst e0 e1 e2 e3 e4
    exact ⟨⟨a, l1, b, c, d⟩, rfl, g1⟩
set_option maxRecDepth 100000 in
theorem vd_of_trod {H : Type} {enc : TypeId × Value → H} {W : World} {fuel : Nat} {cs : List Value} {y : DataW H × List MemPlace} (h : DataW.trod enc Tryz.prog W 0 (fun _ => true) true fuel 65 cs = some y) (hw : Wok2 y.1 65) :
    ∃ x : VD, cs = vdrow x ∧ x.name.length ≤ N47 := by
  obtain ⟨y0, y1, n, _, hl, ⟨h0, w0⟩, ⟨h1, w1⟩⟩ := trodS2 Tryz.underlying65 h hw
  rw [show Tryz.prog.cellsOf 65 = 2 by kernel_rfl] at hl
  match cs, hl with
  | [c0, c1], _ =>
    dsimp only at h0 h1
    simp only [cI, cS, List.drop_zero, List.drop_succ_cons, List.take_succ_cons, List.take_zero] at h0 h1
    obtain ⟨l0, e0, g0⟩ := str_of_trod h0 w0
    obtain ⟨a, e1, _, _⟩ := DataW.trod_int Tryz.underlying3 h1
    simp only [List.cons.injEq, and_true] at e0 e1
    subst e0 e1
    exact ⟨⟨l0, a⟩, rfl, g0⟩
set_option maxRecDepth 100000 in
theorem td_of_trod {H : Type} {enc : TypeId × Value → H} {W : World} {fuel : Nat} {cs : List Value} {y : DataW H × List MemPlace} (h : DataW.trod enc Tryz.prog W 0 (fun _ => true) true fuel 67 cs = some y) (hw : Wok2 y.1 67) :
    ∃ x : TD, cs = tdrow x ∧ (x.name.length ≤ N47 ∧ x.service.length ≤ N47) := by
  obtain ⟨y0, y1, y2, y3, y4, n, _, hl, ⟨h0, w0⟩, ⟨h1, w1⟩, ⟨h2, w2⟩, ⟨h3, w3⟩, ⟨h4, w4⟩⟩ := trodS5 Tryz.underlying67 h hw
  rw [show Tryz.prog.cellsOf 67 = 5 by kernel_rfl] at hl
  match cs, hl with
  | [c0, c1, c2, c3, c4], _ =>
    dsimp only at h0 h1 h2 h3 h4
    simp only [cI, cS, List.drop_zero, List.drop_succ_cons, List.take_succ_cons, List.take_zero] at h0 h1 h2 h3 h4
    obtain ⟨a, e0, _, _⟩ := DataW.trod_int Tryz.underlying3 h0
    obtain ⟨l1, e1, g1⟩ := str_of_trod h1 w1
    obtain ⟨l2, e2, g2⟩ := str_of_trod h2 w2
    obtain ⟨c, e3, _, _⟩ := DataW.trod_int Tryz.underlying3 h3
    obtain ⟨d, e4, _, _⟩ := DataW.trod_int Tryz.underlying3 h4
    simp only [List.cons.injEq, and_true] at e0 e1 e2 e3 e4
    subst e0 e1 e2 e3 e4
    exact ⟨⟨a, l1, l2, c, d⟩, rfl, g2, g1⟩
/-- rows that hold a name and a slice, as named tables -/
theorem heldN_of {α β : Type} {nm : α → List UInt8} {kids : α → List β} {k : Nat} {row : β → List Value} {W : World} {v : Value} {ps : List (α × Value)}
    (h : RowsIn W (fun b => b < W.heap.size) 2 (fun p : α × Value => [.string (mkB (nm p.1)), p.2]) v ps) (hk : ∀ p ∈ ps, RowsIn W (fun b => b < W.heap.size) k row p.2 (kids p.1)) :
    HeldN nm kids k row W (fun b => b < W.heap.size) v (ps.map Prod.fst) := by
  obtain ⟨ad, c, hv, hc, hr⟩ := h
  refine ⟨ad, c, by rw [List.length_map]; exact hv, by rw [List.length_map]; exact hc, ?_⟩
  rcases hr with hr | ⟨g, o, ha, hg, hrow⟩
  · left; rw [hr]; rfl
  · right
    refine ⟨g, o, ha, hg, fun j x hj => ?_⟩
    rw [List.getElem?_map] at hj
    obtain ⟨p, hp, rfl⟩ := Option.map_eq_some_iff.1 hj
    have hR := hk p (List.mem_of_getElem? hp)
    obtain ⟨ka, kc, hsl, hrest⟩ := hR
    refine ⟨ka, kc, ?_, ?_, ?_⟩
    · have := hrow j p hp 0 _ rfl; simpa [Nat.add_assoc] using this
    · have := hrow j p hp 1 _ rfl
      rw [← hsl]; simpa [Nat.add_assoc] using this
    · rw [← hsl]; exact ⟨ka, kc, hsl, hrest⟩
set_option maxRecDepth 100000 in
theorem ms_of_trod {H : Type} {enc : TypeId × Value → H} {W : World} {fuel : Nat} {cs : List Value} {y : DataW H × List MemPlace} (h : DataW.trod enc Tryz.prog W 0 (fun _ => true) true fuel 22 cs = some y) (hw : Wok2 y.1 22) :
    ∃ v xs, cs = [v] ∧ HeldM W (fun b => b < W.heap.size) v xs ∧ xs.length ≤ N47 ∧ ∀ m ∈ xs, m.name.length ≤ N47 ∧ m.fields.length ≤ N47 ∧ ∀ f ∈ m.fields, f.name.length ≤ N47 := by
  obtain ⟨v, ps, rfl, hR, hlen, hfit⟩ := slice_rows (α := MD × Value) 22 50 2 (fun p => [.string (mkB p.1.name), p.2]) (fun p => RowsIn W (fun b => b < W.heap.size) 5 fdrow p.2 p.1.fields ∧ p.1.name.length ≤ N47 ∧ p.1.fields.length ≤ N47 ∧ ∀ f ∈ p.1.fields, f.name.length ≤ N47)
    Tryz.underlying22 (by kernel_rfl) (by omega) (fun p => rfl) (by rw [show Tryz.prog.bytesOf 50 = 40 by kernel_rfl]; omega) (fun n hn cs y hq hwq => by
      obtain ⟨y0, y1, n2, _, hl, ⟨h0, w0⟩, ⟨h1, w1⟩⟩ := trodS2 Tryz.underlying50 hq hwq
      rw [show Tryz.prog.cellsOf 50 = 2 by kernel_rfl] at hl
      match cs, hl with
      | [c0, c1], _ =>
        dsimp only at h0 h1
        simp only [cS, show Tryz.prog.cellsOf 48 = 1 by kernel_rfl, List.drop_zero, List.drop_succ_cons, List.take_succ_cons, List.take_zero] at h0 h1
        obtain ⟨l0, e0, g0⟩ := str_of_trod h0 w0
        obtain ⟨v1, fs, e1, R1, n1, f1⟩ := slice_rows 48 52 5 fdrow _ Tryz.underlying48 (by kernel_rfl) (by omega) (fun _ => rfl) (by rw [show Tryz.prog.bytesOf 52 = 48 by kernel_rfl]; omega) (fun _ _ cs y h hw => fd_of_trod h hw) h1 w1
        simp only [List.cons.injEq, and_true] at e0 e1
        subst e0 e1
        exact ⟨(⟨l0, fs⟩, _), rfl, R1, g0, n1, f1⟩) h hw
  exact ⟨v, ps.map Prod.fst, rfl, heldN_of hR fun p hp => (hfit p hp).1, by rw [List.length_map]; exact hlen, fun m hm => by obtain ⟨p, hp, rfl⟩ := List.mem_map.1 hm; exact (hfit p hp).2⟩
set_option maxRecDepth 100000 in
theorem es_of_trod {H : Type} {enc : TypeId × Value → H} {W : World} {fuel : Nat} {cs : List Value} {y : DataW H × List MemPlace} (h : DataW.trod enc Tryz.prog W 0 (fun _ => true) true fuel 23 cs = some y) (hw : Wok2 y.1 23) :
    ∃ v xs, cs = [v] ∧ HeldE W (fun b => b < W.heap.size) v xs ∧ xs.length ≤ N47 ∧ ∀ m ∈ xs, m.name.length ≤ N47 ∧ m.values.length ≤ N47 ∧ ∀ f ∈ m.values, f.name.length ≤ N47 := by
  obtain ⟨v, ps, rfl, hR, hlen, hfit⟩ := slice_rows (α := ED × Value) 23 63 2 (fun p => [.string (mkB p.1.name), p.2]) (fun p => RowsIn W (fun b => b < W.heap.size) 2 vdrow p.2 p.1.values ∧ p.1.name.length ≤ N47 ∧ p.1.values.length ≤ N47 ∧ ∀ f ∈ p.1.values, f.name.length ≤ N47)
    Tryz.underlying23 (by kernel_rfl) (by omega) (fun p => rfl) (by rw [show Tryz.prog.bytesOf 63 = 40 by kernel_rfl]; omega) (fun n hn cs y hq hwq => by
      obtain ⟨y0, y1, n2, _, hl, ⟨h0, w0⟩, ⟨h1, w1⟩⟩ := trodS2 Tryz.underlying63 hq hwq
      rw [show Tryz.prog.cellsOf 63 = 2 by kernel_rfl] at hl
      match cs, hl with
      | [c0, c1], _ =>
        dsimp only at h0 h1
        simp only [cS, show Tryz.prog.cellsOf 61 = 1 by kernel_rfl, List.drop_zero, List.drop_succ_cons, List.take_succ_cons, List.take_zero] at h0 h1
        obtain ⟨l0, e0, g0⟩ := str_of_trod h0 w0
        obtain ⟨v1, fs, e1, R1, n1, f1⟩ := slice_rows 61 65 2 vdrow _ Tryz.underlying61 (by kernel_rfl) (by omega) (fun _ => rfl) (by rw [show Tryz.prog.bytesOf 65 = 24 by kernel_rfl]; omega) (fun _ _ cs y h hw => vd_of_trod h hw) h1 w1
        simp only [List.cons.injEq, and_true] at e0 e1
        subst e0 e1
        exact ⟨(⟨l0, fs⟩, _), rfl, R1, g0, n1, f1⟩) h hw
  exact ⟨v, ps.map Prod.fst, rfl, heldN_of hR fun p hp => (hfit p hp).1, by rw [List.length_map]; exact hlen, fun m hm => by obtain ⟨p, hp, rfl⟩ := List.mem_map.1 hm; exact (hfit p hp).2⟩
set_option maxRecDepth 100000 in
/-- a schema that was handed in -/
theorem open_schema {H : Type} {enc : TypeId × Value → H} {W : World} {r : Reach} {b0 : Nat} {v : Value} {d : DataW H} {p : List MemPlace}
    (hv : Value.okWide Tryz.prog W r b0 26 v) (h : DataW.Trod enc Tryz.prog W 0 (fun _ => true) true 26 v d p) (hw : Wok2 d 26) :
    ∃ (a b c : Value) (s : SC), v = .agg #[a, b, c] ∧ HeldSc W (fun b => b < W.heap.size) a b c s ∧ BigS s := by
  obtain ⟨xs, rfl, hsz⟩ := okWide_struct Tryz.underlying26 hv
  obtain ⟨fuel, hf⟩ := h
  obtain ⟨y0, y1, y2, n, _, hl, ⟨h0, w0⟩, ⟨h1, w1⟩, ⟨h2, w2⟩⟩ := trodS3 Tryz.underlying26 hf hw
  rw [show Tryz.prog.cellsOf 26 = 3 by kernel_rfl] at hl
  obtain ⟨l⟩ := xs
  simp only [Value.cells] at hl h0 h1 h2
  match l, hl with
  | [c0, c1, c2], _ =>
    simp only [show Tryz.prog.cellsOf 22 = 1 by kernel_rfl, show Tryz.prog.cellsOf 23 = 1 by kernel_rfl, show Tryz.prog.cellsOf 24 = 1 by kernel_rfl, List.drop_zero, List.drop_succ_cons, List.take_succ_cons, List.take_zero] at h0 h1 h2
    obtain ⟨v0, ms, e0, HM, n0, b0⟩ := ms_of_trod h0 w0
    obtain ⟨v1, es, e1, HE, n1, b1⟩ := es_of_trod h1 w1
    obtain ⟨v2, ts, e2, HT, n2, b2⟩ := slice_rows 24 67 5 tdrow _ Tryz.underlying24 (by kernel_rfl) (by omega) (fun _ => rfl) (by rw [show Tryz.prog.bytesOf 67 = 56 by kernel_rfl]; omega) (fun _ _ cs y h hw => td_of_trod h hw) h2 w2
    simp only [List.cons.injEq, and_true] at e0 e1 e2
    subst e0 e1 e2
    exact ⟨_, _, _, ⟨ms, es, ts⟩, rfl, ⟨HM, HE, HT⟩, ⟨n0, n1, n2⟩, b0, b1, b2⟩
end Go.Proofs.YtnopnjklcdcckaaGreatDoor
