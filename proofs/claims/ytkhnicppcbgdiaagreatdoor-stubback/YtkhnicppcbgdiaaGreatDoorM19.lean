/-
  Declarations that came in as an argument, of a size that a machine can hold: what their reading says. Nothing is proved of the program here.
  Formed schemas as plain data. Nothing is proved of the program here.
-/
import Derived.Test.YtkhnicppcbgdiaaGreatDoorM4
import Derived.Test.YtkhnicppcbgdiaaGreatDoorM5
import Derived.Test.YtkhnicppcbgdiaaGreatDoorM0
import Derived.Test.YtkhnicppcbgdiaaGreatDoorChecked
import Derived.OpenShut
import Derived.ProofKit
import Derived.Lib.SmallJoins
import Derived.Lib.ItoaMem
import Derived.Lib.SlicesS
import Derived.Deep.Cut
import Derived.Deep.DeepCutAuto
import Derived.BigQuiet
import Derived.Deep.QuietTactic
import Derived.Deep.RegionLaw
import Derived.Deep.RegionHeldLaw
import Derived.Deep.AppendLies
import Derived.Laws.AppendOwn
import Derived.OwnWalk
import Derived.Maps.AppendAt
import Derived.Lib.Hide
import Derived.Test.YtkhnicppcbgdiaaGreatDoorM17
namespace Go.Proofs.YtkhnicppcbgdiaaGreatDoor
set_option linter.unusedVariables false
open Go.ChangeShapes Go.WideShapes Go.ChangeAt Go.RowKit Go.Joins

/-- no text and no list of it is too long -/
def Wok2 {H : Type} (d : DataW H) (t : TypeId) : Prop := ∀ n ∈ DataW.weights Tryz.prog t d, n ≤ 140737488351232
theorem wok_all {H : Type} {e : TypeId} : ∀ {l : List (DataW H)} {d : DataW H}, d ∈ l → (∀ n ∈ DataW.weightsAll Tryz.prog e l, n ≤ 140737488351232) → Wok2 d e
  | x :: r, d, hd, h => by
    rw [DataW.weightsAll] at h
    rcases List.mem_cons.1 hd with rfl | hd
    · exact fun n hn => h n (List.mem_append_left _ hn)
    · exact wok_all hd (fun n hn => h n (List.mem_append_right _ hn))
theorem wok_slice {H : Type} {t e : TypeId} {elems spare : List (DataW H)} (ht : Tryz.prog.underlying t = some (.slice e)) (h : Wok2 (.slice elems spare) t) :
    (elems.length + spare.length) * Tryz.prog.bytesOf e ≤ 140737488351232 ∧ ∀ d ∈ elems, Wok2 d e := by
  unfold Wok2 at h
  rw [DataW.weights, ht] at h
  simp only at h
  refine ⟨h _ List.mem_cons_self, fun d hd => wok_all hd fun n hn => h n (List.mem_cons_of_mem _ (List.mem_append_left _ hn))⟩
theorem wok_string {H : Type} {t : TypeId} {l : List UInt8} (h : Wok2 (H := H) (.lit (.string l)) t) : l.length ≤ 140737488351232 := h _ (by rw [DataW.weights]; exact List.mem_singleton.2 rfl)
theorem wok_each {H : Type} : ∀ {ts : List TypeId} {l : List (DataW H)}, (∀ n ∈ DataW.weightsEach Tryz.prog ts l, n ≤ 140737488351232) → ∀ (i : Nat) (t : TypeId) (d : DataW H), ts[i]? = some t → l[i]? = some d → Wok2 d t
  | t0 :: ts, d0 :: l, h, 0, t, d, h1, h2 => by
    have e1 : t0 = t := by simpa using h1
    have e2 : d0 = d := by simpa using h2
    subst e1 e2
    rw [DataW.weightsEach] at h
    exact fun n hn => h n (List.mem_append_left _ hn)
  | t0 :: ts, d0 :: l, h, i + 1, t, d, h1, h2 => by
    rw [DataW.weightsEach] at h
    exact wok_each (ts := ts) (l := l) (fun n hn => h n (List.mem_append_right _ hn)) i t d (by simpa using h1) (by simpa using h2)
  | [], l, h, i, t, d, h1, h2 => by simp at h1
  | t0 :: ts, [], h, i, t, d, h1, h2 => by simp at h2
theorem wok_struct {H : Type} {t : TypeId} {fs : Array Field} {parts : List (DataW H)} (ht : Tryz.prog.underlying t = some (.struct fs)) (h : Wok2 (.agg parts) t) (i : Nat) (f : Field) (d : DataW H) (hf : fs[i]? = some f) (hd : parts[i]? = some d) : Wok2 d f.type := by
  unfold Wok2 at h
  rw [DataW.weights, ht] at h
  simp only at h
  refine wok_each h i f.type d ?_ hd
  rw [List.getElem?_map, Array.getElem?_toList, hf]; rfl
theorem list_choiceD {α : Type} {P : Nat → α → Prop} : ∀ n : Nat, (∀ k, k < n → ∃ f, P k f) → ∃ fs : List α, fs.length = n ∧ ∀ k f, fs[k]? = some f → P k f
  | 0, _ => ⟨[], rfl, fun k f h => by simp at h⟩
  | n + 1, h => by
    obtain ⟨fs, hl, hP⟩ := list_choiceD n (fun k hk => h k (by omega))
    obtain ⟨f, hf⟩ := h n (by omega)
    refine ⟨fs ++ [f], by simp [hl], fun k g hg => ?_⟩
    by_cases hk : k < n
    · rw [List.getElem?_append_left (by omega)] at hg
      exact hP k g hg
    · have hlt := (List.getElem?_eq_some_iff.1 hg).1
      rw [List.length_append, List.length_singleton] at hlt
      obtain rfl : k = n := by omega
      rw [List.getElem?_append_right (by omega), hl, Nat.sub_self] at hg
      simp at hg
      subst hg
      exact hf
theorem cell_ltD {w : World} {g o : Nat} {v : Value} (h : w.cell? ⟨g, o, none⟩ = some v) : g < w.heap.size := by
  by_cases hl : g < w.heap.size
  · exact hl
  · have : w.heap[g]? = none := Array.getElem?_eq_none (by omega)
    simp [World.cell?, this] at h
/-- a slice whose elements are read as rows -/
theorem slice_rows {H : Type} {enc : TypeId × Value → H} {W : World} {α : Type} (T E : TypeId) (k : Nat) (row : α → List Value) (fit : α → Prop) (hT : Tryz.prog.underlying T = some (.slice E)) (hk : Tryz.prog.cellsOf E = k) (hk1 : 1 ≤ k) (hrl : ∀ x, (row x).length = k) (hby : 1 ≤ Tryz.prog.bytesOf E)
    {fuel : Nat} {cs : List Value} {y : DataW H × List MemPlace} (helem : ∀ n, fuel = n + 1 → ∀ cs y, DataW.trod enc Tryz.prog W 0 (fun _ => true) true n E cs = some y → Wok2 y.1 E → ∃ x, cs = row x ∧ fit x)
    (h : DataW.trod enc Tryz.prog W 0 (fun _ => true) true fuel T cs = some y) (hw : Wok2 y.1 T) :
    ∃ v xs, cs = [v] ∧ RowsIn W (fun b => b < W.heap.size) k row v xs ∧ xs.length ≤ 140737488355328 ∧ ∀ x ∈ xs, fit x := by
  rcases DataW.trod_slice hT h with ⟨hcs, hd⟩ | ⟨x, l, c, elems, rest, m, hm, hcs, hd, hb, hl, hmx, hlen, hel, hsp, _⟩
  · exact ⟨_, [], hcs, RowsIn.nil _ _ _ _ _ _, by simp, fun x hx => by cases hx⟩
  · subst hd
    obtain ⟨hbytes, hparts⟩ := wok_slice hT hw
    have hcount : elems.length ≤ 140737488355328 := by
      rw [List.length_map, List.length_map] at hbytes
      have h2 : elems.length * 1 ≤ (elems.length + rest.length) * Tryz.prog.bytesOf E := Nat.mul_le_mul (by omega) hby
      omega
    rw [hk] at hel
    have hP : ∀ i, i < l → ∃ a : α, fit a ∧ ∃ cs, W.cells? 0 (x.add (i * k)) k = some cs ∧ cs = row a := fun i hi => by
      have h1 := hel i hi
      obtain ⟨yy, hy⟩ : ∃ yy, elems[i]? = some yy := ⟨_, List.getElem?_eq_getElem (by omega)⟩
      rw [hy] at h1
      obtain ⟨cs1, hcs1, htr⟩ := Option.bind_eq_some_iff.1 h1
      obtain ⟨a, ha, hf⟩ := helem m hm cs1 yy htr (hparts yy.1 (List.mem_map.2 ⟨yy, List.mem_of_getElem? hy, rfl⟩))
      exact ⟨a, hf, cs1, hcs1, ha⟩
    obtain ⟨zs, hal, hap⟩ := list_choiceD (P := fun i a => fit a ∧ ∃ cs, W.cells? 0 (x.add (i * k)) k = some cs ∧ cs = row a) l hP
    refine ⟨_, zs, hcs, ⟨some x, c, by rw [hal], by omega, ?_⟩, by omega, fun a ha => ?_⟩
    · by_cases hz : zs = []
      · exact .inl hz
      · right
        have hpos := List.length_pos_iff.2 hz
        obtain ⟨g, off, spot⟩ := x
        obtain ⟨a0, ha0⟩ : ∃ a, zs[0]? = some a := ⟨_, List.getElem?_eq_getElem (by omega)⟩
        obtain ⟨_, cs0, hcs0, hr0⟩ := hap 0 a0 ha0
        have hc0 := (World.cells?_some hcs0).2.2 0 (by omega)
        have hr1 : cs0[0]? = some (cs0[0]'(by rw [hr0, hrl]; omega)) := List.getElem?_eq_getElem _
        rw [hr1] at hc0
        have hspot : spot = none := by
          have h3 := World.cell?_spot hc0
          simpa [Addr.add] using h3
        subst hspot
        refine ⟨g, off, rfl, ?_, fun j a hj i u hu => ?_⟩
        · have e : ((Addr.mk g off none).add (0 * k)).add 0 = ⟨g, off, none⟩ := by simp [Addr.add]
          rw [e] at hc0
          exact cell_ltD hc0
        · obtain ⟨_, cs1, hcs1, hr1⟩ := hap j a hj
          have hi : i < k := by
            have := (List.getElem?_eq_some_iff.1 hu).1
            rw [hrl] at this; exact this
          have h3 := (World.cells?_some hcs1).2.2 i hi
          rw [hr1, hu] at h3
          have e : ((Addr.mk g off none).add (j * k)).add i = ⟨g, off + (j * k + i), none⟩ := by rw [Lib.add_plain, Lib.add_plain, Nat.add_assoc]
          rw [e] at h3
          exact h3
    · obtain ⟨i, hi⟩ := List.getElem?_of_mem ha
      exact (hap i a hi).1
set_option maxRecDepth 100000 in
theorem trodS3 {H : Type} {enc : TypeId × Value → H} {W : World} {t : TypeId} {f0 f1 f2 : Field} {fuel : Nat} {cs : List Value} {y : DataW H × List MemPlace} (ht : Tryz.prog.underlying t = some (.struct #[f0, f1, f2])) (h : DataW.trod enc Tryz.prog W 0 (fun _ => true) true fuel t cs = some y) (hw : Wok2 y.1 t) :
    ∃ (y0 y1 y2 : DataW H × List MemPlace) (n : Nat), fuel = n + 1 ∧ cs.length = Tryz.prog.cellsOf t ∧ (DataW.trod enc Tryz.prog W 0 (fun _ => true) true n f0.type ((cs.drop f0.offset).take (Tryz.prog.cellsOf f0.type)) = some y0 ∧ Wok2 y0.1 f0.type) ∧ (DataW.trod enc Tryz.prog W 0 (fun _ => true) true n f1.type ((cs.drop f1.offset).take (Tryz.prog.cellsOf f1.type)) = some y1 ∧ Wok2 y1.1 f1.type) ∧ (DataW.trod enc Tryz.prog W 0 (fun _ => true) true n f2.type ((cs.drop f2.offset).take (Tryz.prog.cellsOf f2.type)) = some y2 ∧ Wok2 y2.1 f2.type) := by
  obtain ⟨xs, n, hn, rfl, hl, hlen, hf⟩ := DataW.trod_struct ht h
  match xs, hlen with
  | [y0, y1, y2], _ => exact ⟨y0, y1, y2, n, hn, hl, ⟨by simpa using hf 0 f0 rfl, wok_struct ht hw 0 f0 y0.1 rfl rfl⟩, ⟨by simpa using hf 1 f1 rfl, wok_struct ht hw 1 f1 y1.1 rfl rfl⟩, ⟨by simpa using hf 2 f2 rfl, wok_struct ht hw 2 f2 y2.1 rfl rfl⟩⟩
set_option maxRecDepth 100000 in
theorem trodS5 {H : Type} {enc : TypeId × Value → H} {W : World} {t : TypeId} {f0 f1 f2 f3 f4 : Field} {fuel : Nat} {cs : List Value} {y : DataW H × List MemPlace} (ht : Tryz.prog.underlying t = some (.struct #[f0, f1, f2, f3, f4])) (h : DataW.trod enc Tryz.prog W 0 (fun _ => true) true fuel t cs = some y) (hw : Wok2 y.1 t) :
    ∃ (y0 y1 y2 y3 y4 : DataW H × List MemPlace) (n : Nat), fuel = n + 1 ∧ cs.length = Tryz.prog.cellsOf t ∧ (DataW.trod enc Tryz.prog W 0 (fun _ => true) true n f0.type ((cs.drop f0.offset).take (Tryz.prog.cellsOf f0.type)) = some y0 ∧ Wok2 y0.1 f0.type) ∧ (DataW.trod enc Tryz.prog W 0 (fun _ => true) true n f1.type ((cs.drop f1.offset).take (Tryz.prog.cellsOf f1.type)) = some y1 ∧ Wok2 y1.1 f1.type) ∧ (DataW.trod enc Tryz.prog W 0 (fun _ => true) true n f2.type ((cs.drop f2.offset).take (Tryz.prog.cellsOf f2.type)) = some y2 ∧ Wok2 y2.1 f2.type) ∧ (DataW.trod enc Tryz.prog W 0 (fun _ => true) true n f3.type ((cs.drop f3.offset).take (Tryz.prog.cellsOf f3.type)) = some y3 ∧ Wok2 y3.1 f3.type) ∧ (DataW.trod enc Tryz.prog W 0 (fun _ => true) true n f4.type ((cs.drop f4.offset).take (Tryz.prog.cellsOf f4.type)) = some y4 ∧ Wok2 y4.1 f4.type) := by
  obtain ⟨xs, n, hn, rfl, hl, hlen, hf⟩ := DataW.trod_struct ht h
  match xs, hlen with
  | [y0, y1, y2, y3, y4], _ => exact ⟨y0, y1, y2, y3, y4, n, hn, hl, ⟨by simpa using hf 0 f0 rfl, wok_struct ht hw 0 f0 y0.1 rfl rfl⟩, ⟨by simpa using hf 1 f1 rfl, wok_struct ht hw 1 f1 y1.1 rfl rfl⟩, ⟨by simpa using hf 2 f2 rfl, wok_struct ht hw 2 f2 y2.1 rfl rfl⟩, ⟨by simpa using hf 3 f3 rfl, wok_struct ht hw 3 f3 y3.1 rfl rfl⟩, ⟨by simpa using hf 4 f4 rfl, wok_struct ht hw 4 f4 y4.1 rfl rfl⟩⟩
abbrev N47 : Nat := 140737488355328
theorem str_of_trod {H : Type} {enc : TypeId × Value → H} {W : World} {fuel : Nat} {cs : List Value} {y : DataW H × List MemPlace} (h : DataW.trod enc Tryz.prog W 0 (fun _ => true) true fuel 9 cs = some y) (hw : Wok2 y.1 9) : ∃ l : List UInt8, cs = [.string (mkB l)] ∧ l.length ≤ N47 := by
  obtain ⟨s, e, rfl, _⟩ := DataW.trod_string Tryz.underlying9 h
  exact ⟨s.data.toList, by rw [e, mkB_data], by have := wok_string hw; unfold N47; omega⟩
end Go.Proofs.YtkhnicppcbgdiaaGreatDoor
namespace Go.Proofs.YtkhnicppcbgdiaaGreatDoor
set_option linter.unusedVariables false

/-- all of the first ones hold -/
def allB (g : Nat → Bool) : Nat → Bool
  | 0 => true
  | n + 1 => allB g n && g n
theorem allB_step {g : Nat → Bool} {j : Nat} (h : allB g j = true) (hx : g j = true) : allB g (j + 1) = true := by rw [allB, h, hx]; rfl
theorem allB_no {g : Nat → Bool} {j n : Nat} (hx : g j = false) (hn : j < n) : allB g n = false := by
  induction n with
  | zero => omega
  | succ n ih =>
    rw [allB]
    by_cases h : j = n
    · subst h; rw [hx, Bool.and_false]
    · rw [ih (by omega), Bool.false_and]
theorem allB_iff {g : Nat → Bool} : ∀ {n : Nat}, allB g n = true ↔ ∀ j, j < n → g j = true
  | 0 => by simp [allB]
  | n + 1 => by
    rw [allB, Bool.and_eq_true, allB_iff]
    constructor
    · rintro ⟨h1, h2⟩ j hj
      by_cases h : j = n
      · subst h; exact h2
      · exact h1 j (by omega)
    · intro h
      exact ⟨fun j hj => h j (by omega), h n (by omega)⟩
/-- the list's element there, if it is there, is good -/
def atB {α : Type} (l : List α) (g : Nat → α → Bool) (k : Nat) : Bool := match l[k]? with
  | some x => g k x
  | none => true
theorem atB_some {α : Type} {l : List α} {g : Nat → α → Bool} {k : Nat} {x : α} (h : l[k]? = some x) : atB l g k = g k x := by unfold atB; rw [h]
def allA {α : Type} (l : List α) (g : Nat → α → Bool) : Bool := allB (atB l g) l.length
theorem allA_iff {α : Type} {l : List α} {g : Nat → α → Bool} : allA l g = true ↔ ∀ (k : Nat) (x : α), l[k]? = some x → g k x = true := by
  unfold allA
  rw [allB_iff]
  constructor
  · intro h k x hx
    have := h k (List.getElem?_eq_some_iff.1 hx).1
    rwa [atB_some hx] at this
  · intro h j hj
    obtain ⟨x, hx⟩ : ∃ x, l[j]? = some x := ⟨_, List.getElem?_eq_getElem hj⟩
    rw [atB_some hx]; exact h j x hx
def prevN (fs : List FD) : Nat → Int
  | 0 => 0
  | k + 1 => match fs[k]? with
    | some f => f.num
    | none => 0
def typB (ne nm : Nat) (f : FD) : Bool := if f.kind = 9 then decide (0 ≤ f.type ∧ f.type < (ne : Int)) else if f.kind = 10 then decide (0 ≤ f.type ∧ f.type < (nm : Int)) else decide (1 ≤ f.kind ∧ f.kind ≤ 8 ∧ f.type = 0)
def namesF (fs : List FD) (k : Nat) : List (List UInt8) := (fs.take k).map (·.name)
def goodF (ne nm : Nat) (fs : List FD) (k : Nat) (f : FD) : Bool := decide (prevN fs k < f.num) && (fnOK f.num && (plainL f.name && (!decide (f.name ∈ namesF fs k) && typB ne nm f)))
def formF (ne nm : Nat) (fs : List FD) : Bool := allA fs (goodF ne nm fs)
def namesV (vs : List VD) (k : Nat) : List (List UInt8) := (vs.take k).map (·.name)
def numsV (vs : List VD) (k : Nat) : List Int := (vs.take k).map (·.num)
def goodV (vs : List VD) (k : Nat) (v : VD) : Bool := numOK v.num && (!decide (v.num ∈ numsV vs k) && (plainL v.name && !decide (v.name ∈ namesV vs k)))
def formV (vs : List VD) : Bool := allA vs (goodV vs)
def zeroV (vs : List VD) : Bool := match vs[0]? with
  | some v => decide (v.num = 0)
  | none => false
def pairsT (ts : List TD) (k : Nat) : List (List UInt8 × List UInt8) := (ts.take k).map fun t => (t.service, t.name)
def inB (nm : Nat) (n : Int) : Bool := decide (0 ≤ n ∧ n < (nm : Int))
def goodT (nm : Nat) (ts : List TD) (k : Nat) (t : TD) : Bool := decide (t.id = (k : Int) + 1) && (plainL t.service && (plainL t.name && (!decide ((t.service, t.name) ∈ pairsT ts k) && (inB nm t.inp && inB nm t.out))))
def formT (nm : Nat) (ts : List TD) : Bool := allA ts (goodT nm ts)
def namesS (s : SC) : List (List UInt8) := s.ms.map (·.name) ++ s.es.map (·.name)
def goodN (ns : List (List UInt8)) (k : Nat) (x : List UInt8) : Bool := pathOK x && !decide (x ∈ ns.take k)
def formN (ns : List (List UInt8)) : Bool := allA ns (goodN ns)
def goodM (ne nm : Nat) (k : Nat) (m : MD) : Bool := decide (m.fields.length ≤ 32) && formF ne nm m.fields
def formM (ne nm : Nat) (ms : List MD) : Bool := allA ms (goodM ne nm)
def goodE (k : Nat) (e : ED) : Bool := zeroV e.values && formV e.values
def formE (es : List ED) : Bool := allA es goodE
def lenB (s : SC) : Bool := decide (s.ms.length ≤ 64 ∧ s.es.length ≤ 64 ∧ s.ts.length ≤ 64)
/-- all but rings -/
def formS (s : SC) : Bool := lenB s && (formN (namesS s) && (formM s.es.length s.ms.length s.ms && (formE s.es && formT s.ms.length s.ts)))
def FormS (s : SC) : Prop := formS s = true ∧ ∀ i, i < s.ms.length → ¬ Ring s.ms i
theorem namesF_step {fs : List FD} {k : Nat} {f : FD} (h : fs[k]? = some f) : namesF fs (k + 1) = namesF fs k ++ [f.name] := by unfold namesF; rw [take_snoc h, List.map_append]; rfl
theorem namesV_step {fs : List VD} {k : Nat} {f : VD} (h : fs[k]? = some f) : namesV fs (k + 1) = namesV fs k ++ [f.name] := by unfold namesV; rw [take_snoc h, List.map_append]; rfl
theorem numsV_step {fs : List VD} {k : Nat} {f : VD} (h : fs[k]? = some f) : numsV fs (k + 1) = numsV fs k ++ [f.num] := by unfold numsV; rw [take_snoc h, List.map_append]; rfl
theorem pairsT_step {fs : List TD} {k : Nat} {f : TD} (h : fs[k]? = some f) : pairsT fs (k + 1) = pairsT fs k ++ [(f.service, f.name)] := by unfold pairsT; rw [take_snoc h, List.map_append]; rfl
theorem prevN_step {fs : List FD} {k : Nat} {f : FD} (h : fs[k]? = some f) : prevN fs (k + 1) = f.num := by rw [prevN, h]
theorem namesF_len (fs : List FD) (k : Nat) : (namesF fs k).length ≤ k := by unfold namesF; rw [List.length_map, List.length_take]; omega
theorem namesV_len (fs : List VD) (k : Nat) : (namesV fs k).length ≤ k := by unfold namesV; rw [List.length_map, List.length_take]; omega
theorem numsV_len (fs : List VD) (k : Nat) : (numsV fs k).length ≤ k := by unfold numsV; rw [List.length_map, List.length_take]; omega
theorem pairsT_len (fs : List TD) (k : Nat) : (pairsT fs k).length ≤ k := by unfold pairsT; rw [List.length_map, List.length_take]; omega
end Go.Proofs.YtkhnicppcbgdiaaGreatDoor
