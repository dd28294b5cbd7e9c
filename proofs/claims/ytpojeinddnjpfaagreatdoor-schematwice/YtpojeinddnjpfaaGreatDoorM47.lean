/-
  Declarations that came in as an argument, of a size that a machine can hold: what their reading says. Nothing is proved of the program here.
-/
import Derived.Test.YtpojeinddnjpfaaGreatDoorM23
import Derived.Test.YtpojeinddnjpfaaGreatDoorChecked
import Derived.OpenShut
import Derived.ProofKit
import Derived.Lib.SmallJoins
import Derived.Lib.ItoaMem
namespace Go.Proofs.YtpojeinddnjpfaaGreatDoor
set_option linter.unusedVariables false
open Go.ChangeShapes Go.WideShapes Go.ChangeAt Go.RowKit Go.Joins

def Wok2 {H : Type} (d : DataW H) (t : TypeId) : Prop := ∀ n ∈ DataW.weights Tryz.prog t d, n ≤ 140737488351232
theorem wok_all {H : Type} {e : TypeId} : ∀ {l : List (DataW H)} {d : DataW H}, d ∈ l → (∀ n ∈ DataW.weightsAll Tryz.prog e l, n ≤ 140737488351232) → Wok2 d e
 | x :: r, d, hd, h => by
  rw [DataW.weightsAll] at h
  rcases List.mem_cons.1 hd with rfl | hd
  ·exact fun n hn => h n (List.mem_append_left _ hn)
  ·exact wok_all hd (fun n hn => h n (List.mem_append_right _ hn))
theorem wok_slice {H : Type} {t e : TypeId} {elems spare : List (DataW H)} (ht : Tryz.prog.underlying t = some (.slice e)) (h : Wok2 (.slice elems spare) t) :
  (elems.length + spare.length) * Tryz.prog.bytesOf e ≤ 140737488351232 ∧ ∀ d ∈ elems, Wok2 d e := by
 unfold Wok2 at h
 rw [DataW.weights, ht] at h
 simp only at h
 refine ⟨h _ List.mem_cons_self, fun d hd => wok_all hd fun n hn => h n (List.mem_cons_of_mem _ (List.mem_append_left _ hn))⟩
theorem wok_string {H : Type} {t : TypeId} {l : List UInt8} (h : Wok2 (H := H) (.lit (.string l)) t) : l.length ≤ 140737488351232 := h _ (by rw [DataW.weights]; exact List.mem_singleton.2 rfl)
theorem wok_each {H : Type} : ∀ {ts : List TypeId} {l : List (DataW H)}, (∀ n ∈ DataW.weightsEach Tryz.prog ts l, n ≤ 140737488351232) → ∀ (i : Nat) (t : TypeId) (d : DataW H), ts[i]? = some t → l[i]? = some d → Wok2 d t
 | t0 :: ts, d0 :: l, h, 0, t, d, h1, h2 => by
  have e1 : t0 = t := by simpa using h1
  have e2 : d0 = d := by simpa using h2
  subst e1 e2
  rw [DataW.weightsEach] at h
  exact fun n hn => h n (List.mem_append_left _ hn)
 | t0 :: ts, d0 :: l, h, i + 1, t, d, h1, h2 => by
  rw [DataW.weightsEach] at h
  exact wok_each (ts := ts) (l := l) (fun n hn => h n (List.mem_append_right _ hn)) i t d (by simpa using h1) (by simpa using h2)
 | [], l, h, i, t, d, h1, h2 => by simp at h1
 | t0 :: ts, [], h, i, t, d, h1, h2 => by simp at h2
theorem wok_struct {H : Type} {t : TypeId} {fs : Array Field} {parts : List (DataW H)} (ht : Tryz.prog.underlying t = some (.struct fs)) (h : Wok2 (.agg parts) t) (i : Nat) (f : Field) (d : DataW H) (hf : fs[i]? = some f) (hd : parts[i]? = some d) : Wok2 d f.type := by
 unfold Wok2 at h
 rw [DataW.weights, ht] at h
 simp only at h
 refine wok_each h i f.type d ?_ hd
 rw [List.getElem?_map, Array.getElem?_toList, hf]; rfl
theorem list_choiceD {α : Type} {P : Nat → α → Prop} : ∀ n : Nat, (∀ k, k < n → ∃ f, P k f) → ∃ fs : List α, fs.length = n ∧ ∀ k f, fs[k]? = some f → P k f
 | 0, _ => ⟨[], rfl, fun k f h => by simp at h⟩
 | n + 1, h => by
  obtain ⟨fs, hl, hP⟩ := list_choiceD n (fun k hk => h k (by omega))
  obtain ⟨f, hf⟩ := h n (by omega)
  refine ⟨fs ++ [f], by simp [hl], fun k g hg => ?_⟩
  by_cases hk : k < n
  ·rw [List.getElem?_append_left (by omega)] at hg
   exact hP k g hg
  ·have hlt := (List.getElem?_eq_some_iff.1 hg).1
   rw [List.length_append, List.length_singleton] at hlt
   obtain rfl : k = n := by omega
   rw [List.getElem?_append_right (by omega), hl, Nat.sub_self] at hg
   simp at hg
   subst hg
   exact hf
theorem cell_ltD {w : World} {g o : Nat} {v : Value} (h : w.cell? ⟨g, o, none⟩ = some v) : g < w.heap.size := by
 by_cases hl : g < w.heap.size
 ·exact hl
 ·have : w.heap[g]? = none := Array.getElem?_eq_none (by omega)
  simp [World.cell?, this] at h
theorem slice_rows {H : Type} {enc : TypeId × Value → H} {W : World} {α : Type} (T E : TypeId) (k : Nat) (row : α → List Value) (fit : α → Prop) (hT : Tryz.prog.underlying T = some (.slice E)) (hk : Tryz.prog.cellsOf E = k) (hk1 : 1 ≤ k) (hrl : ∀ x, (row x).length = k) (hby : 1 ≤ Tryz.prog.bytesOf E)
  {fuel : Nat} {cs : List Value} {y : DataW H × List MemPlace} (helem : ∀ n, fuel = n + 1 → ∀ cs y, DataW.trod enc Tryz.prog W 0 (fun _ => true) true n E cs = some y → Wok2 y.1 E → ∃ x, cs = row x ∧ fit x)
  (h : DataW.trod enc Tryz.prog W 0 (fun _ => true) true fuel T cs = some y) (hw : Wok2 y.1 T) :
  ∃ v xs, cs = [v] ∧ RowsIn W (fun b => b < W.heap.size) k row v xs ∧ xs.length ≤ 140737488355328 ∧ ∀ x ∈ xs, fit x := by
 rcases DataW.trod_slice hT h with ⟨hcs, hd⟩ | ⟨x, l, c, elems, rest, m, hm, hcs, hd, hb, hl, hmx, hlen, hel, hsp, _⟩
 ·exact ⟨_, [], hcs, RowsIn.nil _ _ _ _ _ _, by simp, fun x hx => by cases hx⟩
 ·subst hd
  obtain ⟨hbytes, hparts⟩ := wok_slice hT hw
  have hcount : elems.length ≤ 140737488355328 := by
   rw [List.length_map, List.length_map] at hbytes
   have h2 : elems.length * 1 ≤ (elems.length + rest.length) * Tryz.prog.bytesOf E := Nat.mul_le_mul (by omega) hby
   omega
  rw [hk] at hel
  have hP : ∀ i, i < l → ∃ a : α, fit a ∧ ∃ cs, W.cells? 0 (x.add (i * k)) k = some cs ∧ cs = row a := fun i hi => by
   have h1 := hel i hi
   obtain ⟨yy, hy⟩ : ∃ yy, elems[i]? = some yy := ⟨_, List.getElem?_eq_getElem (by omega)⟩
   rw [hy] at h1
   obtain ⟨cs1, hcs1, htr⟩ := Option.bind_eq_some_iff.1 h1
   obtain ⟨a, ha, hf⟩ := helem m hm cs1 yy htr (hparts yy.1 (List.mem_map.2 ⟨yy, List.mem_of_getElem? hy, rfl⟩))
   exact ⟨a, hf, cs1, hcs1, ha⟩
  obtain ⟨zs, hal, hap⟩ := list_choiceD (P := fun i a => fit a ∧ ∃ cs, W.cells? 0 (x.add (i * k)) k = some cs ∧ cs = row a) l hP
  refine ⟨_, zs, hcs, ⟨some x, c, by rw [hal], by omega, ?_⟩, by omega, fun a ha => ?_⟩
  ·by_cases hz : zs = []
   ·exact .inl hz
   ·right
    have hpos := List.length_pos_iff.2 hz
    obtain ⟨g, off, spot⟩ := x
    obtain ⟨a0, ha0⟩ : ∃ a, zs[0]? = some a := ⟨_, List.getElem?_eq_getElem (by omega)⟩
    obtain ⟨_, cs0, hcs0, hr0⟩ := hap 0 a0 ha0
    have hc0 := (World.cells?_some hcs0).2.2 0 (by omega)
    have hr1 : cs0[0]? = some (cs0[0]'(by rw [hr0, hrl]; omega)) := List.getElem?_eq_getElem _
    rw [hr1] at hc0
    have hspot : spot = none := by
     have h3 := World.cell?_spot hc0
     simpa [Addr.add] using h3
    subst hspot
    refine ⟨g, off, rfl, ?_, fun j a hj i u hu => ?_⟩
    ·have e : ((Addr.mk g off none).add (0 * k)).add 0 = ⟨g, off, none⟩ := by simp [Addr.add]
     rw [e] at hc0
     exact cell_ltD hc0
    ·obtain ⟨_, cs1, hcs1, hr1⟩ := hap j a hj
     have hi : i < k := by
      have := (List.getElem?_eq_some_iff.1 hu).1
      rw [hrl] at this; exact this
     have h3 := (World.cells?_some hcs1).2.2 i hi
     rw [hr1, hu] at h3
     have e : ((Addr.mk g off none).add (j * k)).add i = ⟨g, off + (j * k + i), none⟩ := by rw [Lib.add_plain, Lib.add_plain, Nat.add_assoc]
     rw [e] at h3
     exact h3
  ·obtain ⟨i, hi⟩ := List.getElem?_of_mem ha
   exact (hap i a hi).1
set_option maxRecDepth 100000 in
theorem trodS3 {H : Type} {enc : TypeId × Value → H} {W : World} {t : TypeId} {f0 f1 f2 : Field} {fuel : Nat} {cs : List Value} {y : DataW H × List MemPlace} (ht : Tryz.prog.underlying t = some (.struct #[f0, f1, f2])) (h : DataW.trod enc Tryz.prog W 0 (fun _ => true) true fuel t cs = some y) (hw : Wok2 y.1 t) :
  ∃ (y0 y1 y2 : DataW H × List MemPlace) (n : Nat), fuel = n + 1 ∧ cs.length = Tryz.prog.cellsOf t ∧ (DataW.trod enc Tryz.prog W 0 (fun _ => true) true n f0.type ((cs.drop f0.offset).take (Tryz.prog.cellsOf f0.type)) = some y0 ∧ Wok2 y0.1 f0.type) ∧ (DataW.trod enc Tryz.prog W 0 (fun _ => true) true n f1.type ((cs.drop f1.offset).take (Tryz.prog.cellsOf f1.type)) = some y1 ∧ Wok2 y1.1 f1.type) ∧ (DataW.trod enc Tryz.prog W 0 (fun _ => true) true n f2.type ((cs.drop f2.offset).take (Tryz.prog.cellsOf f2.type)) = some y2 ∧ Wok2 y2.1 f2.type) := by
 obtain ⟨xs, n, hn, rfl, hl, hlen, hf⟩ := DataW.trod_struct ht h
 match xs, hlen with
 | [y0, y1, y2], _ => exact ⟨y0, y1, y2, n, hn, hl, ⟨by simpa using hf 0 f0 rfl, wok_struct ht hw 0 f0 y0.1 rfl rfl⟩, ⟨by simpa using hf 1 f1 rfl, wok_struct ht hw 1 f1 y1.1 rfl rfl⟩, ⟨by simpa using hf 2 f2 rfl, wok_struct ht hw 2 f2 y2.1 rfl rfl⟩⟩
set_option maxRecDepth 100000 in
theorem trodS4 {H : Type} {enc : TypeId × Value → H} {W : World} {t : TypeId} {f0 f1 f2 f3 : Field} {fuel : Nat} {cs : List Value} {y : DataW H × List MemPlace} (ht : Tryz.prog.underlying t = some (.struct #[f0, f1, f2, f3])) (h : DataW.trod enc Tryz.prog W 0 (fun _ => true) true fuel t cs = some y) (hw : Wok2 y.1 t) :
  ∃ (y0 y1 y2 y3 : DataW H × List MemPlace) (n : Nat), fuel = n + 1 ∧ cs.length = Tryz.prog.cellsOf t ∧ (DataW.trod enc Tryz.prog W 0 (fun _ => true) true n f0.type ((cs.drop f0.offset).take (Tryz.prog.cellsOf f0.type)) = some y0 ∧ Wok2 y0.1 f0.type) ∧ (DataW.trod enc Tryz.prog W 0 (fun _ => true) true n f1.type ((cs.drop f1.offset).take (Tryz.prog.cellsOf f1.type)) = some y1 ∧ Wok2 y1.1 f1.type) ∧ (DataW.trod enc Tryz.prog W 0 (fun _ => true) true n f2.type ((cs.drop f2.offset).take (Tryz.prog.cellsOf f2.type)) = some y2 ∧ Wok2 y2.1 f2.type) ∧ (DataW.trod enc Tryz.prog W 0 (fun _ => true) true n f3.type ((cs.drop f3.offset).take (Tryz.prog.cellsOf f3.type)) = some y3 ∧ Wok2 y3.1 f3.type) := by
 obtain ⟨xs, n, hn, rfl, hl, hlen, hf⟩ := DataW.trod_struct ht h
 match xs, hlen with
 | [y0, y1, y2, y3], _ => exact ⟨y0, y1, y2, y3, n, hn, hl, ⟨by simpa using hf 0 f0 rfl, wok_struct ht hw 0 f0 y0.1 rfl rfl⟩, ⟨by simpa using hf 1 f1 rfl, wok_struct ht hw 1 f1 y1.1 rfl rfl⟩, ⟨by simpa using hf 2 f2 rfl, wok_struct ht hw 2 f2 y2.1 rfl rfl⟩, ⟨by simpa using hf 3 f3 rfl, wok_struct ht hw 3 f3 y3.1 rfl rfl⟩⟩
set_option maxRecDepth 100000 in
theorem trodS5 {H : Type} {enc : TypeId × Value → H} {W : World} {t : TypeId} {f0 f1 f2 f3 f4 : Field} {fuel : Nat} {cs : List Value} {y : DataW H × List MemPlace} (ht : Tryz.prog.underlying t = some (.struct #[f0, f1, f2, f3, f4])) (h : DataW.trod enc Tryz.prog W 0 (fun _ => true) true fuel t cs = some y) (hw : Wok2 y.1 t) :
  ∃ (y0 y1 y2 y3 y4 : DataW H × List MemPlace) (n : Nat), fuel = n + 1 ∧ cs.length = Tryz.prog.cellsOf t ∧ (DataW.trod enc Tryz.prog W 0 (fun _ => true) true n f0.type ((cs.drop f0.offset).take (Tryz.prog.cellsOf f0.type)) = some y0 ∧ Wok2 y0.1 f0.type) ∧ (DataW.trod enc Tryz.prog W 0 (fun _ => true) true n f1.type ((cs.drop f1.offset).take (Tryz.prog.cellsOf f1.type)) = some y1 ∧ Wok2 y1.1 f1.type) ∧ (DataW.trod enc Tryz.prog W 0 (fun _ => true) true n f2.type ((cs.drop f2.offset).take (Tryz.prog.cellsOf f2.type)) = some y2 ∧ Wok2 y2.1 f2.type) ∧ (DataW.trod enc Tryz.prog W 0 (fun _ => true) true n f3.type ((cs.drop f3.offset).take (Tryz.prog.cellsOf f3.type)) = some y3 ∧ Wok2 y3.1 f3.type) ∧ (DataW.trod enc Tryz.prog W 0 (fun _ => true) true n f4.type ((cs.drop f4.offset).take (Tryz.prog.cellsOf f4.type)) = some y4 ∧ Wok2 y4.1 f4.type) := by
 obtain ⟨xs, n, hn, rfl, hl, hlen, hf⟩ := DataW.trod_struct ht h
 match xs, hlen with
 | [y0, y1, y2, y3, y4], _ => exact ⟨y0, y1, y2, y3, y4, n, hn, hl, ⟨by simpa using hf 0 f0 rfl, wok_struct ht hw 0 f0 y0.1 rfl rfl⟩, ⟨by simpa using hf 1 f1 rfl, wok_struct ht hw 1 f1 y1.1 rfl rfl⟩, ⟨by simpa using hf 2 f2 rfl, wok_struct ht hw 2 f2 y2.1 rfl rfl⟩, ⟨by simpa using hf 3 f3 rfl, wok_struct ht hw 3 f3 y3.1 rfl rfl⟩, ⟨by simpa using hf 4 f4 rfl, wok_struct ht hw 4 f4 y4.1 rfl rfl⟩⟩
set_option maxRecDepth 100000 in
theorem trodS7 {H : Type} {enc : TypeId × Value → H} {W : World} {t : TypeId} {f0 f1 f2 f3 f4 f5 f6 : Field} {fuel : Nat} {cs : List Value} {y : DataW H × List MemPlace} (ht : Tryz.prog.underlying t = some (.struct #[f0, f1, f2, f3, f4, f5, f6])) (h : DataW.trod enc Tryz.prog W 0 (fun _ => true) true fuel t cs = some y) (hw : Wok2 y.1 t) :
  ∃ (y0 y1 y2 y3 y4 y5 y6 : DataW H × List MemPlace) (n : Nat), fuel = n + 1 ∧ cs.length = Tryz.prog.cellsOf t ∧ (DataW.trod enc Tryz.prog W 0 (fun _ => true) true n f0.type ((cs.drop f0.offset).take (Tryz.prog.cellsOf f0.type)) = some y0 ∧ Wok2 y0.1 f0.type) ∧ (DataW.trod enc Tryz.prog W 0 (fun _ => true) true n f1.type ((cs.drop f1.offset).take (Tryz.prog.cellsOf f1.type)) = some y1 ∧ Wok2 y1.1 f1.type) ∧ (DataW.trod enc Tryz.prog W 0 (fun _ => true) true n f2.type ((cs.drop f2.offset).take (Tryz.prog.cellsOf f2.type)) = some y2 ∧ Wok2 y2.1 f2.type) ∧ (DataW.trod enc Tryz.prog W 0 (fun _ => true) true n f3.type ((cs.drop f3.offset).take (Tryz.prog.cellsOf f3.type)) = some y3 ∧ Wok2 y3.1 f3.type) ∧ (DataW.trod enc Tryz.prog W 0 (fun _ => true) true n f4.type ((cs.drop f4.offset).take (Tryz.prog.cellsOf f4.type)) = some y4 ∧ Wok2 y4.1 f4.type) ∧ (DataW.trod enc Tryz.prog W 0 (fun _ => true) true n f5.type ((cs.drop f5.offset).take (Tryz.prog.cellsOf f5.type)) = some y5 ∧ Wok2 y5.1 f5.type) ∧ (DataW.trod enc Tryz.prog W 0 (fun _ => true) true n f6.type ((cs.drop f6.offset).take (Tryz.prog.cellsOf f6.type)) = some y6 ∧ Wok2 y6.1 f6.type) := by
 obtain ⟨xs, n, hn, rfl, hl, hlen, hf⟩ := DataW.trod_struct ht h
 match xs, hlen with
 | [y0, y1, y2, y3, y4, y5, y6], _ => exact ⟨y0, y1, y2, y3, y4, y5, y6, n, hn, hl, ⟨by simpa using hf 0 f0 rfl, wok_struct ht hw 0 f0 y0.1 rfl rfl⟩, ⟨by simpa using hf 1 f1 rfl, wok_struct ht hw 1 f1 y1.1 rfl rfl⟩, ⟨by simpa using hf 2 f2 rfl, wok_struct ht hw 2 f2 y2.1 rfl rfl⟩, ⟨by simpa using hf 3 f3 rfl, wok_struct ht hw 3 f3 y3.1 rfl rfl⟩, ⟨by simpa using hf 4 f4 rfl, wok_struct ht hw 4 f4 y4.1 rfl rfl⟩, ⟨by simpa using hf 5 f5 rfl, wok_struct ht hw 5 f5 y5.1 rfl rfl⟩, ⟨by simpa using hf 6 f6 rfl, wok_struct ht hw 6 f6 y6.1 rfl rfl⟩⟩
abbrev N47 : Nat := 140737488355328
set_option maxRecDepth 100000 in
theorem pos_of_trod {H : Type} {enc : TypeId × Value → H} {W : World} {fuel : Nat} {cs : List Value} {y : DataW H × List MemPlace} (h : DataW.trod enc Tryz.prog W 0 (fun _ => true) true fuel 31 cs = some y) : ∃ a b : Int, cs = [.int .i64 a, .int .i64 b] := by
 obtain ⟨y0, y1, n, rfl, hl, h0, h1⟩ := trod_struct2 Tryz.underlying31 h
 rw [show Tryz.prog.cellsOf 31 = 2 by kernel_rfl] at hl
 match cs, hl with
 | [c0, c1], _ =>
  dsimp only at h0 h1
  simp only [show Tryz.prog.cellsOf 3 = 1 by kernel_rfl, List.drop_zero, List.drop_succ_cons, List.take_succ_cons, List.take_zero] at h0 h1
  obtain ⟨a, e0, _, _⟩ := DataW.trod_int Tryz.underlying3 h0
  obtain ⟨b, e1, _, _⟩ := DataW.trod_int Tryz.underlying3 h1
  simp at e0 e1
  subst e0 e1
  exact ⟨a, b, rfl⟩
theorem str_of_trod {H : Type} {enc : TypeId × Value → H} {W : World} {fuel : Nat} {cs : List Value} {y : DataW H × List MemPlace} (h : DataW.trod enc Tryz.prog W 0 (fun _ => true) true fuel 9 cs = some y) (hw : Wok2 y.1 9) : ∃ l : List UInt8, cs = [.string (mkB l)] ∧ l.length ≤ N47 := by
 obtain ⟨s, e, rfl, _⟩ := DataW.trod_string Tryz.underlying9 h
 exact ⟨s.data.toList, by rw [e, mkB_data], by have := wok_string hw; unfold N47; omega⟩
set_option maxRecDepth 100000 in
theorem field_of_trodD {H : Type} {enc : TypeId × Value → H} {W : World} {fuel : Nat} {cs : List Value} {y : DataW H × List MemPlace} (h : DataW.trod enc Tryz.prog W 0 (fun _ => true) true fuel 72 cs = some y) (hw : Wok2 y.1 72) :
  ∃ x : Fd, cs = frow x ∧ (x.type.length ≤ N47 ∧ x.name.length ≤ N47) := by
 obtain ⟨y0, y1, y2, y3, y4, n, _, hl, ⟨h0, w0⟩, ⟨h1, w1⟩, ⟨h2, w2⟩, ⟨h3, w3⟩, ⟨h4, w4⟩⟩ := trodS5 Tryz.underlying72 h hw
 rw [show Tryz.prog.cellsOf 72 = 6 by kernel_rfl] at hl
 match cs, hl with
 | [c0, c1, c2, c3, c4, c5], _ =>
  dsimp only at h0 h1 h2 h3 h4
  simp only [show Tryz.prog.cellsOf 3 = 1 by kernel_rfl, show Tryz.prog.cellsOf 4 = 1 by kernel_rfl, show Tryz.prog.cellsOf 9 = 1 by kernel_rfl, show Tryz.prog.cellsOf 31 = 2 by kernel_rfl, List.drop_zero, List.drop_succ_cons, List.take_succ_cons, List.take_zero] at h0 h1 h2 h3 h4
  obtain ⟨b, e0, _⟩ := DataW.trod_bool Tryz.underlying4 h0
  obtain ⟨l1, e1, g1⟩ := str_of_trod h1 w1
  obtain ⟨l2, e2, g2⟩ := str_of_trod h2 w2
  obtain ⟨k, e3, _, _⟩ := DataW.trod_int Tryz.underlying3 h3
  obtain ⟨p, q, e4⟩ := pos_of_trod h4
  simp only [List.cons.injEq, and_true] at e0 e1 e2 e3 e4
  obtain ⟨e4, e5⟩ := e4
  subst e0 e1 e2 e3 e4 e5
  exact ⟨⟨b, l1, l2, k, p, q⟩, rfl, g1, g2⟩
set_option maxRecDepth 100000 in
theorem value_of_trodD {H : Type} {enc : TypeId × Value → H} {W : World} {fuel : Nat} {cs : List Value} {y : DataW H × List MemPlace} (h : DataW.trod enc Tryz.prog W 0 (fun _ => true) true fuel 75 cs = some y) (hw : Wok2 y.1 75) :
  ∃ x : Vl, cs = vrow x ∧ x.name.length ≤ N47 := by
 obtain ⟨y0, y1, y2, n, _, hl, ⟨h0, w0⟩, ⟨h1, w1⟩, ⟨h2, w2⟩⟩ := trodS3 Tryz.underlying75 h hw
 rw [show Tryz.prog.cellsOf 75 = 4 by kernel_rfl] at hl
 match cs, hl with
 | [c0, c1, c2, c3], _ =>
  dsimp only at h0 h1 h2
  simp only [show Tryz.prog.cellsOf 3 = 1 by kernel_rfl, show Tryz.prog.cellsOf 9 = 1 by kernel_rfl, show Tryz.prog.cellsOf 31 = 2 by kernel_rfl, List.drop_zero, List.drop_succ_cons, List.take_succ_cons, List.take_zero] at h0 h1 h2
  obtain ⟨l0, e0, g0⟩ := str_of_trod h0 w0
  obtain ⟨k, e1, _, _⟩ := DataW.trod_int Tryz.underlying3 h1
  obtain ⟨p, q, e2⟩ := pos_of_trod h2
  simp only [List.cons.injEq, and_true] at e0 e1 e2
  obtain ⟨e2, e3⟩ := e2
  subst e0 e1 e2 e3
  exact ⟨⟨l0, k, p, q⟩, rfl, g0⟩
set_option maxRecDepth 100000 in
theorem method_of_trodD {H : Type} {enc : TypeId × Value → H} {W : World} {fuel : Nat} {cs : List Value} {y : DataW H × List MemPlace} (h : DataW.trod enc Tryz.prog W 0 (fun _ => true) true fuel 78 cs = some y) (hw : Wok2 y.1 78) :
  ∃ x : Mt, cs = mrow x ∧ (x.name.length ≤ N47 ∧ x.inp.length ≤ N47 ∧ x.out.length ≤ N47) := by
 obtain ⟨y0, y1, y2, y3, n, _, hl, ⟨h0, w0⟩, ⟨h1, w1⟩, ⟨h2, w2⟩, ⟨h3, w3⟩⟩ := trodS4 Tryz.underlying78 h hw
 rw [show Tryz.prog.cellsOf 78 = 5 by kernel_rfl] at hl
 match cs, hl with
 | [c0, c1, c2, c3, c4], _ =>
  dsimp only at h0 h1 h2 h3
  simp only [show Tryz.prog.cellsOf 9 = 1 by kernel_rfl, show Tryz.prog.cellsOf 31 = 2 by kernel_rfl, List.drop_zero, List.drop_succ_cons, List.take_succ_cons, List.take_zero] at h0 h1 h2 h3
  obtain ⟨l0, e0, g0⟩ := str_of_trod h0 w0
  obtain ⟨l1, e1, g1⟩ := str_of_trod h1 w1
  obtain ⟨l2, e2, g2⟩ := str_of_trod h2 w2
  obtain ⟨p, q, e3⟩ := pos_of_trod h3
  simp only [List.cons.injEq, and_true] at e0 e1 e2 e3
  obtain ⟨e3, e4⟩ := e3
  subst e0 e1 e2 e3 e4
  exact ⟨⟨l0, l1, l2, p, q⟩, rfl, g0, g1, g2⟩
theorem HeldD.upTo {w : World} {S : Nat → Prop} {f g : Nat} (hfg : f ≤ g) {v : Value} {ds : List Dc} (h : HeldD f w S v ds) : HeldD g w S v ds := by
 obtain ⟨k, rfl⟩ : ∃ k, g = f + k := ⟨g - f, by omega⟩
 clear hfg
 induction k with
 | zero => exact h
 | succ k ih => exact ih.up
def FitWO (f : Nat) (d : Dc) : Prop := d.name.length ≤ N47 ∧ d.fields.length ≤ N47 ∧ d.values.length ≤ N47 ∧ d.methods.length ≤ N47 ∧
   (∀ x ∈ d.fields, x.type.length ≤ N47 ∧ x.name.length ≤ N47) ∧ (∀ x ∈ d.values, x.name.length ≤ N47) ∧ (∀ x ∈ d.methods, x.name.length ≤ N47 ∧ x.inp.length ≤ N47 ∧ x.out.length ≤ N47) ∧ FitW f d.inner
theorem fitW_up {w : World} {S : Nat → Prop} : ∀ {f g : Nat}, f ≤ g → ∀ {ds : List Dc} {v : Value}, FitW f ds → HeldD f w S v ds → FitW g ds := by
 intro f
 induction f with
 | zero =>
  intro g hg ds v _ h
  rw [h.1]
  cases g with
  | zero => trivial
  | succ g => exact ⟨by simp, fun d hd => by cases hd⟩
 | succ f ih =>
  intro g hg ds v hf h
  obtain ⟨g, rfl⟩ : ∃ g', g = g' + 1 := ⟨g - 1, by omega⟩
  refine ⟨hf.1, fun d hd => ?_⟩
  obtain ⟨h1, h2, h3, h4, h5, h6, h7, h8⟩ := hf.2 d hd
  refine ⟨h1, h2, h3, h4, h5, h6, h7, ?_⟩
  obtain ⟨ad, c, _, _, h0 | ⟨gg, o, _, _, hk⟩⟩ := h
  ·rw [h0] at hd; cases hd
  ·obtain ⟨j, hj⟩ := List.getElem?_of_mem hd
   obtain ⟨fs, vs, ms, ins, _, _, _, _, hin⟩ := hk j d hj
   exact ih (by omega) h8 hin
set_option maxRecDepth 100000 in
theorem decl_of_trodD {H : Type} {enc : TypeId × Value → H} {W : World} (n : Nat) (ih : ∀ m, m < n → ∀ {cs : List Value} {y : DataW H × List MemPlace}, DataW.trod enc Tryz.prog W 0 (fun _ => true) true m 22 cs = some y → Wok2 y.1 22 →
   ∃ v ds, cs = [v] ∧ HeldD m W (fun b => b < W.heap.size) v ds ∧ FitW m ds) {cs : List Value} {y : DataW H × List MemPlace}
  (h : DataW.trod enc Tryz.prog W 0 (fun _ => true) true n 54 cs = some y) (hw : Wok2 y.1 54) :
  ∃ p : Dc × Value × Value × Value × Value, cs = drow p.1 p.2.1 p.2.2.1 p.2.2.2.1 p.2.2.2.2 ∧ (Kids n W (fun b => b < W.heap.size) p.2.1 p.2.2.1 p.2.2.2.1 p.2.2.2.2 p.1 ∧ FitWO n p.1) := by
 obtain ⟨y0, y1, y2, y3, y4, y5, y6, m, hm, hl, ⟨h0, w0⟩, ⟨h1, w1⟩, ⟨h2, w2⟩, ⟨h3, w3⟩, ⟨h4, w4⟩, ⟨h5, w5⟩, ⟨h6, w6⟩⟩ := trodS7 Tryz.underlying54 h hw
 rw [show Tryz.prog.cellsOf 54 = 8 by kernel_rfl] at hl
 match cs, hl with
 | [c0, c1, c2, c3, c4, c5, c6, c7], _ =>
  dsimp only at h0 h1 h2 h3 h4 h5 h6
  simp only [show Tryz.prog.cellsOf 3 = 1 by kernel_rfl, show Tryz.prog.cellsOf 9 = 1 by kernel_rfl, show Tryz.prog.cellsOf 31 = 2 by kernel_rfl, show Tryz.prog.cellsOf 50 = 1 by kernel_rfl, show Tryz.prog.cellsOf 51 = 1 by kernel_rfl, show Tryz.prog.cellsOf 52 = 1 by kernel_rfl, show Tryz.prog.cellsOf 22 = 1 by kernel_rfl, List.drop_zero, List.drop_succ_cons, List.take_succ_cons, List.take_zero] at h0 h1 h2 h3 h4 h5 h6
  obtain ⟨kd, e0, _, _⟩ := DataW.trod_int Tryz.underlying3 h0
  obtain ⟨nm, e1, g1⟩ := str_of_trod h1 w1
  obtain ⟨p, q, e2⟩ := pos_of_trod h2
  obtain ⟨v3, fs, e3, R3, n3, f3⟩ := slice_rows 50 72 6 frow _ Tryz.underlying50 (by kernel_rfl) (by omega) (fun _ => rfl) (by rw [show Tryz.prog.bytesOf 72 = 64 by kernel_rfl]; omega) (fun _ _ cs y h hw => field_of_trodD h hw) h3 w3
  obtain ⟨v4, vs, e4, R4, n4, f4⟩ := slice_rows 51 75 4 vrow _ Tryz.underlying51 (by kernel_rfl) (by omega) (fun _ => rfl) (by rw [show Tryz.prog.bytesOf 75 = 40 by kernel_rfl]; omega) (fun _ _ cs y h hw => value_of_trodD h hw) h4 w4
  obtain ⟨v5, ms, e5, R5, n5, f5⟩ := slice_rows 52 78 5 mrow _ Tryz.underlying52 (by kernel_rfl) (by omega) (fun _ => rfl) (by rw [show Tryz.prog.bytesOf 78 = 64 by kernel_rfl]; omega) (fun _ _ cs y h hw => method_of_trodD h hw) h5 w5
  obtain ⟨v6, ins, e6, R6, f6⟩ := ih m (by omega) h6 w6
  simp only [List.cons.injEq, and_true] at e0 e1 e2 e3 e4 e5 e6
  obtain ⟨e2, e2b⟩ := e2
  subst e0 e1 e2 e2b e3 e4 e5 e6
  have hfw : FitW n ins := fitW_up (by omega) f6 R6
  exact ⟨(⟨kd, nm, p, q, fs, vs, ms, ins⟩, _, _, _, _), rfl, ⟨R3, R4, R5, HeldD.upTo (by omega) R6⟩, g1, n3, n4, n5, f3, f4, f5, hfw⟩
set_option maxRecDepth 100000 in
theorem decls_of_trod {H : Type} {enc : TypeId × Value → H} {W : World} : ∀ (fuel : Nat) {cs : List Value} {y : DataW H × List MemPlace}, DataW.trod enc Tryz.prog W 0 (fun _ => true) true fuel 22 cs = some y → Wok2 y.1 22 →
  ∃ v ds, cs = [v] ∧ HeldD fuel W (fun b => b < W.heap.size) v ds ∧ FitW fuel ds := by
 intro fuel
 induction fuel using Nat.strongRecOn with
 | _ fuel ih =>
  intro cs y h hw
  cases fuel with
  | zero => simp [DataW.trod] at h
  | succ fuel =>
   obtain ⟨v, ps, rfl, hR, hlen, hfit⟩ := slice_rows (α := Dc × Value × Value × Value × Value) 22 54 8 (fun p => drow p.1 p.2.1 p.2.2.1 p.2.2.2.1 p.2.2.2.2) (fun p => Kids fuel W (fun b => b < W.heap.size) p.2.1 p.2.2.1 p.2.2.2.1 p.2.2.2.2 p.1 ∧ FitWO fuel p.1)
    Tryz.underlying22 (by kernel_rfl) (by omega) (fun p => rfl) (by rw [show Tryz.prog.bytesOf 54 = 136 by kernel_rfl]; omega) (fun n hn cs y hq hwq => by
     have hn' : n = fuel := by omega
     rw [hn'] at hq
     exact decl_of_trodD fuel (fun m hm => ih m (by omega)) hq hwq) h hw
   refine ⟨v, ps.map (·.1), rfl, ?_, by rw [List.length_map]; exact hlen, fun d hd => ?_⟩
   ·obtain ⟨ad, c, hv, hc, hr⟩ := hR
    refine ⟨ad, c, by rw [List.length_map]; exact hv, by rw [List.length_map]; exact hc, ?_⟩
    rcases hr with hr | ⟨g, o, ha, hg, hrow⟩
    ·left; rw [hr]; rfl
    ·right
     refine ⟨g, o, ha, hg, fun j d hj => ?_⟩
     rw [List.getElem?_map] at hj
     obtain ⟨p, hp, rfl⟩ := Option.map_eq_some_iff.1 hj
     exact ⟨p.2.1, p.2.2.1, p.2.2.2.1, p.2.2.2.2, fun i u hu => hrow j p hp i u hu, (hfit p (List.mem_of_getElem? hp)).1⟩
   ·obtain ⟨p, hp, rfl⟩ := List.mem_map.1 hd
    exact (hfit p hp).2
set_option maxRecDepth 100000 in
theorem open_decls {H : Type} {enc : TypeId × Value → H} {W : World} {r : Reach} {b0 : Nat} {v : Value} {d : DataW H} {p : List MemPlace}
  (hv : Value.okWide Tryz.prog W r b0 22 v) (h : DataW.Trod enc Tryz.prog W 0 (fun _ => true) true 22 v d p) (hw : Wok2 d 22) :
  ∃ (f : Nat) (ds : List Dc), HeldD (f + 1) W (fun b => b < W.heap.size) v ds ∧ FitW (f + 1) ds := by
 obtain ⟨a, len, cap, rfl⟩ := okWide_slice Tryz.underlying22 hv
 obtain ⟨fuel, hf⟩ := h
 obtain ⟨v, ds, hcs, hH, hF⟩ := decls_of_trod fuel hf hw
 simp [Value.cells] at hcs
 subst hcs
 cases fuel with
 | zero => simp [DataW.trod] at hf
 | succ n => exact ⟨n, ds, hH, hF⟩
end Go.Proofs.YtpojeinddnjpfaaGreatDoor
