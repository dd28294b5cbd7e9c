/-
  The tables that are being built, in memory. Nothing is proved of the program here.
  Fields that rise by their numbers: there is one such list of the same fields. Nothing is proved of the program here.
  What the library functions that this program calls answer, as theorems over this translation: each is one application of a theorem of the given library. Nothing is proved of the program itself here.
-/
import Derived.Test.YtpojeinddnjpfaaGreatDoorM28
import Derived.Test.YtpojeinddnjpfaaGreatDoorM17
import Derived.Shelf.SlGeneric
import Derived.Shelf.SlSortCmp.WholeK
import Derived.Shelf.SlSortCmp.NoneTotal
import Derived.Ground.SlsfProg
import Derived.Ground.NamesProg
import Derived.Test.YtpojeinddnjpfaaGreatDoorProg
namespace Go.Proofs.YtpojeinddnjpfaaGreatDoor
set_option linter.unusedVariables false
open Go.ChangeShapes Go.WideShapes Go.ChangeAt Go.RowKit

theorem flatN {k : Nat} : ∀ (rs : List (List Value)) (j : Nat) (r : List Value) (i : Nat), (∀ r ∈ rs, r.length = k) → i < k → rs[j]? = some r → (rs.flatMap id)[j * k + i]? = r[i]?
 | [], j, r, i, _, _, h => by simp at h
 | a :: t, 0, r, i, hk, hi, h => by
  have : a = r := by simpa using h
  subst this
  rw [List.flatMap_cons, Nat.zero_mul, Nat.zero_add, List.getElem?_append_left (by show i < a.length; rw [hk a (by simp)]; exact hi)]; rfl
 | a :: t, j + 1, r, i, hk, hi, h => by
  have ha : (id a).length = k := hk a (by simp)
  rw [List.flatMap_cons, List.getElem?_append_right (by rw [ha, Nat.succ_mul]; omega), ha, show (j + 1) * k + i - k = j * k + i by rw [Nat.succ_mul]; omega]
  exact flatN t j r i (fun r hr => hk r (by simp [hr])) hi (by simpa using h)
structure Tb {α β : Type} (nm : α → List UInt8) (kids : α → List β) (k : Nat) (row : β → List Value) (w : World) (base : Nat) (T : TypeId) (K : Nat → Prop) (v : Value) (xs : List α) (rs : List (List Value)) : Prop where
 own : w.ownsRow base T 2 v xs.length (rs.flatMap id)
 len : rs.length = xs.length
 rows : ∀ (j : Nat) (x : α), xs[j]? = some x → ∃ ka kc, rs[j]? = some [.string (mkB (nm x)), .slice ka (kids x).length kc] ∧ RowsIn w K k row (.slice ka (kids x).length kc) (kids x)
section
variable {α β : Type} {nm : α → List UInt8} {kids : α → List β} {k : Nat} {row : β → List Value} {w W : World} {base : Nat} {T : TypeId} {K K' : Nat → Prop} {v v' : Value} {xs : List α} {rs : List (List Value)}
theorem Tb.nil (w : World) (base : Nat) (T : TypeId) (K : Nat → Prop) : Tb nm kids k row w base T K (.slice none 0 0) ([] : List α) [] := ⟨World.ownsRow_nil _ _ _ _, rfl, fun j d h => by simp at h⟩
theorem Tb.keep (h : Tb nm kids k row w base T K v xs rs) (ho : ∀ b, v.ownBlock = some b → W.heap[b]? = w.heap[b]?) (hb : ∀ b, K b → W.heap[b]? = w.heap[b]?) (hK : ∀ b, K b → K' b) : Tb nm kids k row W base T K' v xs rs :=
 ⟨own_keep h.own ho, h.len, fun j d hj => by
  obtain ⟨ka, kc, h1, h2⟩ := h.rows j d hj
  exact ⟨ka, kc, h1, (h2.old hb).more hK⟩⟩
theorem Tb.held (h : Tb nm kids k row w base T K v xs rs) (hS : ∀ b, K b → K' b) (hv : ∀ b, v.ownBlock = some b → K' b) : HeldN nm kids k row w K' v xs := by
 have hr2 : ∀ r ∈ rs, r.length = 2 := by
  intro r hr
  obtain ⟨j, hj⟩ := List.getElem?_of_mem hr
  have hlt := (List.getElem?_eq_some_iff.1 hj).1
  have hlt2 : j < xs.length := by rw [← h.len]; exact hlt
  obtain ⟨ka, kc, h1, _⟩ := h.rows j (xs[j]'hlt2) (by rw [List.getElem?_eq_getElem hlt2])
  rw [hj] at h1
  rw [Option.some.inj h1]; rfl
 have hk := h.rows
 have hlen := h.len
 obtain ⟨hl, ⟨rfl, h0⟩ | ⟨g, cap, cur, rfl, hg, hh, h3, h4, h5, h6⟩⟩ := h.own
 ·exact ⟨none, 0, by rw [h0], by omega, .inl (List.eq_nil_of_length_eq_zero h0)⟩
 ·refine ⟨_, cap, rfl, h3, .inr ⟨g, 0, rfl, hv g rfl, fun j d hj => ?_⟩⟩
  obtain ⟨ka, kc, hr, hrow⟩ := hk j d hj
  have hjl := (List.getElem?_eq_some_iff.1 hj).1
  have key : ∀ i u, [Value.string (mkB (nm d)), .slice ka (kids d).length kc][i]? = some u → w.cell? ⟨g, 0 + (j * 2 + i), none⟩ = some u := by
   intro i u hu
   have hi : i < 2 := (List.getElem?_eq_some_iff.1 hu).1
   have e := flatN rs j _ i hr2 hi hr
   rw [← h6, List.getElem?_take, if_pos (by omega), hu] at e
   simp only [World.cell?, hh]
   rw [Nat.zero_add]
   simpa using e
  refine ⟨ka, kc, ?_, ?_, hrow.more hS⟩
  ·have := key 0 _ rfl; simpa using this
  ·have := key 1 _ rfl; simpa [Nat.add_assoc] using this
theorem Tb.push (h : Tb nm kids k row w base T K v xs rs) (x : α) (ka : Option Addr) (kc : Nat) (hown : W.ownsRow base T 2 v' (xs.length + 1) (rs.flatMap id ++ [.string (mkB (nm x)), .slice ka (kids x).length kc])) (hrow : RowsIn w K k row (.slice ka (kids x).length kc) (kids x)) (ho : ∀ b, K b → W.heap[b]? = w.heap[b]?) (hK : ∀ b, K b → K' b) :
  Tb nm kids k row W base T K' v' (xs ++ [x]) (rs ++ [[.string (mkB (nm x)), .slice ka (kids x).length kc]]) := by
 refine ⟨?_, by simp [h.len], ?_⟩
 ·rw [List.length_append, List.flatMap_append]
  simpa using hown
 ·intro j d hj
  by_cases hjl : j < xs.length
  ·rw [List.getElem?_append_left hjl] at hj
   obtain ⟨a, c, hr1, hk1⟩ := h.rows j d hj
   exact ⟨a, c, by rw [List.getElem?_append_left (by rw [h.len]; exact hjl)]; exact hr1, (hk1.old ho).more hK⟩
  ·have hjn := (List.getElem?_eq_some_iff.1 hj).1
   rw [List.length_append] at hjn
   have hje : j = xs.length := by simp at hjn; omega
   subst hje
   rw [List.getElem?_append_right (Nat.le_refl _), Nat.sub_self] at hj
   have e : x = d := by simpa using hj
   subst e
   exact ⟨ka, kc, by rw [← h.len, List.getElem?_append_right (Nat.le_refl _), Nat.sub_self]; rfl, (hrow.old ho).more hK⟩
end
def Far (w : World) (B : Nat) (mv ev xv : Value) (b : Nat) : Prop := b < w.heap.size ∧ b ≠ B ∧ mv.ownBlock ≠ some b ∧ ev.ownBlock ≠ some b ∧ xv.ownBlock ≠ some b
def FarB (base : Nat) (w : World) (B : Nat) (mv ev xv : Value) (b : Nat) : Prop := Far w B mv ev xv b ∧ base ≤ b
structure Bd (f base : Nat) (w : World) (B mb : Nat) (tv mv ev xv : Value) (types : List Dc) (ps : List Pl) (n : Nat) (s : SC) (mr er : List (List Value)) : Prop where
 cells : w.heap[B]? = some (.cells #[tv, .map (some mb), mv, ev, xv] 128 (0, 0))
 bb : B < base
 sz : base ≤ w.heap.size
 far : Far w B mv ev xv mb
 held : HeldD (f + 1) w (Far w B mv ev xv) tv types
 nums : NumMap w mb ps n
 ms : Tb MD.name MD.fields 5 fdrow w base 48 (FarB base w B mv ev xv) mv s.ms mr
 es : Tb ED.name ED.values 2 vdrow w base 91 (FarB base w B mv ev xv) ev s.es er
 ts : w.ownsRow base 45 5 xv s.ts.length (s.ts.flatMap tdrow)
 me : ∀ b, mv.ownBlock = some b → ev.ownBlock ≠ some b ∧ xv.ownBlock ≠ some b
 ex : ∀ b, ev.ownBlock = some b → xv.ownBlock ≠ some b
section
variable {f base : Nat} {w W : World} {B mb : Nat} {tv mv ev xv : Value} {types : List Dc} {ps : List Pl} {n : Nat} {s : SC} {mr er : List (List Value)}
theorem Bd.bl (h : Bd f base w B mb tv mv ev xv types ps n s mr er) : Bl f w B mb tv mv ev xv types ps n := ⟨h.cells, ⟨_, fun b hb => hb.1, h.held⟩, h.nums⟩
theorem Bd.lt (h : Bd f base w B mb tv mv ev xv types ps n s mr er) : B < w.heap.size := Nat.lt_of_lt_of_le h.bb h.sz
theorem Bd.grow (h : Bd f base w B mb tv mv ev xv types ps n s mr er) (hs : w.heap.size ≤ W.heap.size) (hb : ∀ b, b < w.heap.size → W.heap[b]? = w.heap[b]?) : Bd f base W B mb tv mv ev xv types ps n s mr er := by
 have hf : ∀ b, Far w B mv ev xv b → Far W B mv ev xv b := fun b h => ⟨by have := h.1; omega, h.2⟩
 have ho : ∀ b, Far w B mv ev xv b → W.heap[b]? = w.heap[b]? := fun b h => hb b h.1
 exact ⟨(hb B h.lt).trans h.cells, h.bb, by have := h.sz; omega, hf mb h.far, (HeldD.old ho h.held).more hf, h.nums.old (ho mb h.far), h.ms.keep (fun b hb' => hb b (own_block h.ms.own b hb').2) (fun b h => ho b h.1) (fun b h => ⟨hf b h.1, h.2⟩), h.es.keep (fun b hb' => hb b (own_block h.es.own b hb').2) (fun b h => ho b h.1) (fun b h => ⟨hf b h.1, h.2⟩), own_keep h.ts (fun b hb' => hb b (own_block h.ts b hb').2), h.me, h.ex⟩
theorem Bd.below (h : Bd f base w B mb tv mv ev xv types ps n s mr er) (hb : Below w.heap.size w W) : Bd f base W B mb tv mv ev xv types ps n s mr er := h.grow hb.size hb.block
theorem Bd.pushM (h : Bd f base w B mb tv mv ev xv types ps n s mr er) (x : MD) (ka : Option Addr) (kc : Nat) (hrow : RowsIn w (FarB base w B mv ev xv) 5 fdrow (.slice ka x.fields.length kc) x.fields) (g cap : Nat) (hown : W.ownsRow base 48 2 (.slice (some ⟨g, 0, none⟩) (s.ms.length + 1) cap) (s.ms.length + 1) (mr.flatMap id ++ [.string (mkB x.name), .slice ka x.fields.length kc])) (hgr : w.grownBy W mv.ownBlock) (hat : mv.ownBlock = some g ∨ w.heap.size ≤ g) :
  Bd f base (W.setCell ⟨B, 2, none⟩ (.slice (some ⟨g, 0, none⟩) (s.ms.length + 1) cap)) B mb tv (.slice (some ⟨g, 0, none⟩) (s.ms.length + 1) cap) ev xv types ps n ⟨s.ms ++ [x], s.es, s.ts⟩ (mr ++ [[.string (mkB x.name), .slice ka x.fields.length kc]]) er := by
 have hs := hgr.size
 have hob := own_block h.ms.own
 have hBb := h.bb
 have hlt := h.lt
 have hgb : base ≤ g ∧ g < W.heap.size := own_block hown g rfl
 have hsz : (W.setCell ⟨B, 2, none⟩ (.slice (some ⟨g, 0, none⟩) (s.ms.length + 1) cap)).heap.size = W.heap.size := by simp
 have hne : ∀ b, b < w.heap.size → mv.ownBlock ≠ some b → b ≠ g := fun b hb hn e => by
  subst e
  rcases hat with e | e
  ·exact hn e
  ·omega
 have hf : ∀ b, Far w B mv ev xv b → Far (W.setCell ⟨B, 2, none⟩ (.slice (some ⟨g, 0, none⟩) (s.ms.length + 1) cap)) B (.slice (some ⟨g, 0, none⟩) (s.ms.length + 1) cap) ev xv b := fun b hb => by
  have hgn : (Value.slice (some ⟨g, 0, none⟩) (s.ms.length + 1) cap).ownBlock ≠ some b := fun e => hne b hb.1 hb.2.2.1 (Option.some.inj e).symm
  exact ⟨by rw [hsz]; have := hb.1; omega, hb.2.1, hgn, hb.2.2.2.1, hb.2.2.2.2⟩
 have hW : ∀ b, b < w.heap.size → b ≠ B → mv.ownBlock ≠ some b → (W.setCell ⟨B, 2, none⟩ (.slice (some ⟨g, 0, none⟩) (s.ms.length + 1) cap)).heap[b]? = w.heap[b]? := fun b h1 h2 h3 => by
  rw [Below.heap_setCell _ _ _ _ h2]
  exact hgr.block b h1 (fun e => h3 e.symm)
 have ho : ∀ b, Far w B mv ev xv b → (W.setCell ⟨B, 2, none⟩ (.slice (some ⟨g, 0, none⟩) (s.ms.length + 1) cap)).heap[b]? = w.heap[b]? := fun b hb => hW b hb.1 hb.2.1 hb.2.2.1
 have hBW : W.heap[B]? = _ := (hgr.block B hlt (fun e => by have := (hob B e.symm).1; omega)).trans h.cells
 have hown' : (W.setCell ⟨B, 2, none⟩ (.slice (some ⟨g, 0, none⟩) (s.ms.length + 1) cap)).ownsRow base 48 2 (.slice (some ⟨g, 0, none⟩) (s.ms.length + 1) cap) (s.ms.length + 1) (mr.flatMap id ++ [.string (mkB x.name), .slice ka x.fields.length kc]) := own_keep hown fun b hb => Below.heap_setCell _ _ _ _ (by have := (own_block hown b hb).1; show b ≠ B; omega)
 refine ⟨by rw [setCell_heap hBW]; rfl, hBb, by rw [hsz]; have := h.sz; omega, hf mb h.far, (HeldD.old ho h.held).more hf, h.nums.old (ho mb h.far), ?_, ?_, ?_, ?_, ?_⟩
 ·exact h.ms.push x ka kc hown' hrow (fun b h => ho b h.1) (fun b h => ⟨hf b h.1, h.2⟩)
 ·exact h.es.keep (fun b hb => hW b (own_block h.es.own b hb).2 (by have := (own_block h.es.own b hb).1; omega) (fun e => (h.me b e).1 hb)) (fun b h => ho b h.1) (fun b h => ⟨hf b h.1, h.2⟩)
 ·exact own_keep h.ts (fun b hb => hW b (own_block h.ts b hb).2 (by have := (own_block h.ts b hb).1; omega) (fun e => (h.me b e).2 hb))
 ·intro b hb
  have hb' : g = b := Option.some.inj hb
  subst hb'
  exact ⟨fun e => hne g (own_block h.es.own g e).2 (fun e' => (h.me g e').1 e) rfl, fun e => hne g (own_block h.ts g e).2 (fun e' => (h.me g e').2 e) rfl⟩
 ·exact h.ex
theorem Bd.pushE (h : Bd f base w B mb tv mv ev xv types ps n s mr er) (x : ED) (ka : Option Addr) (kc : Nat) (hrow : RowsIn w (FarB base w B mv ev xv) 2 vdrow (.slice ka x.values.length kc) x.values) (g cap : Nat) (hown : W.ownsRow base 91 2 (.slice (some ⟨g, 0, none⟩) (s.es.length + 1) cap) (s.es.length + 1) (er.flatMap id ++ [.string (mkB x.name), .slice ka x.values.length kc])) (hgr : w.grownBy W ev.ownBlock) (hat : ev.ownBlock = some g ∨ w.heap.size ≤ g) :
  Bd f base (W.setCell ⟨B, 3, none⟩ (.slice (some ⟨g, 0, none⟩) (s.es.length + 1) cap)) B mb tv mv (.slice (some ⟨g, 0, none⟩) (s.es.length + 1) cap) xv types ps n ⟨s.ms, s.es ++ [x], s.ts⟩ mr (er ++ [[.string (mkB x.name), .slice ka x.values.length kc]]) := by
 have hs := hgr.size
 have hob := own_block h.es.own
 have hBb := h.bb
 have hlt := h.lt
 have hgb : base ≤ g ∧ g < W.heap.size := own_block hown g rfl
 have hsz : (W.setCell ⟨B, 3, none⟩ (.slice (some ⟨g, 0, none⟩) (s.es.length + 1) cap)).heap.size = W.heap.size := by simp
 have hne : ∀ b, b < w.heap.size → ev.ownBlock ≠ some b → b ≠ g := fun b hb hn e => by
  subst e
  rcases hat with e | e
  ·exact hn e
  ·omega
 have hf : ∀ b, Far w B mv ev xv b → Far (W.setCell ⟨B, 3, none⟩ (.slice (some ⟨g, 0, none⟩) (s.es.length + 1) cap)) B mv (.slice (some ⟨g, 0, none⟩) (s.es.length + 1) cap) xv b := fun b hb => by
  have hgn : (Value.slice (some ⟨g, 0, none⟩) (s.es.length + 1) cap).ownBlock ≠ some b := fun e => hne b hb.1 hb.2.2.2.1 (Option.some.inj e).symm
  exact ⟨by rw [hsz]; have := hb.1; omega, hb.2.1, hb.2.2.1, hgn, hb.2.2.2.2⟩
 have hW : ∀ b, b < w.heap.size → b ≠ B → ev.ownBlock ≠ some b → (W.setCell ⟨B, 3, none⟩ (.slice (some ⟨g, 0, none⟩) (s.es.length + 1) cap)).heap[b]? = w.heap[b]? := fun b h1 h2 h3 => by
  rw [Below.heap_setCell _ _ _ _ h2]
  exact hgr.block b h1 (fun e => h3 e.symm)
 have ho : ∀ b, Far w B mv ev xv b → (W.setCell ⟨B, 3, none⟩ (.slice (some ⟨g, 0, none⟩) (s.es.length + 1) cap)).heap[b]? = w.heap[b]? := fun b hb => hW b hb.1 hb.2.1 hb.2.2.2.1
 have hBW : W.heap[B]? = _ := (hgr.block B hlt (fun e => by have := (hob B e.symm).1; omega)).trans h.cells
 have hown' : (W.setCell ⟨B, 3, none⟩ (.slice (some ⟨g, 0, none⟩) (s.es.length + 1) cap)).ownsRow base 91 2 (.slice (some ⟨g, 0, none⟩) (s.es.length + 1) cap) (s.es.length + 1) (er.flatMap id ++ [.string (mkB x.name), .slice ka x.values.length kc]) := own_keep hown fun b hb => Below.heap_setCell _ _ _ _ (by have := (own_block hown b hb).1; show b ≠ B; omega)
 refine ⟨by rw [setCell_heap hBW]; rfl, hBb, by rw [hsz]; have := h.sz; omega, hf mb h.far, (HeldD.old ho h.held).more hf, h.nums.old (ho mb h.far), ?_, ?_, ?_, ?_, ?_⟩
 ·exact h.ms.keep (fun b hb => hW b (own_block h.ms.own b hb).2 (by have := (own_block h.ms.own b hb).1; omega) (fun e => (h.me b hb).1 e)) (fun b h => ho b h.1) (fun b h => ⟨hf b h.1, h.2⟩)
 ·exact h.es.push x ka kc hown' hrow (fun b h => ho b h.1) (fun b h => ⟨hf b h.1, h.2⟩)
 ·exact own_keep h.ts (fun b hb => hW b (own_block h.ts b hb).2 (by have := (own_block h.ts b hb).1; omega) (fun e => h.ex b e hb))
 ·intro b hb
  refine ⟨fun e => ?_, (h.me b hb).2⟩
  have e' : g = b := Option.some.inj e
  subst e'
  exact hne g (own_block h.ms.own g hb).2 (fun e' => (h.me g hb).1 e') rfl
 ·intro b hb
  have hb' : g = b := Option.some.inj hb
  subst hb'
  exact fun e => hne g (own_block h.ts g e).2 (fun e' => h.ex g e' e) rfl
theorem Bd.pushT (h : Bd f base w B mb tv mv ev xv types ps n s mr er) (x : TD) (g cap : Nat) (hown : W.ownsRow base 45 5 (.slice (some ⟨g, 0, none⟩) (s.ts.length + 1) cap) (s.ts.length + 1) (s.ts.flatMap tdrow ++ tdrow x)) (hgr : w.grownBy W xv.ownBlock) (hat : xv.ownBlock = some g ∨ w.heap.size ≤ g) :
  Bd f base (W.setCell ⟨B, 4, none⟩ (.slice (some ⟨g, 0, none⟩) (s.ts.length + 1) cap)) B mb tv mv ev (.slice (some ⟨g, 0, none⟩) (s.ts.length + 1) cap) types ps n ⟨s.ms, s.es, s.ts ++ [x]⟩ mr er := by
 have hs := hgr.size
 have hob := own_block h.ts
 have hBb := h.bb
 have hlt := h.lt
 have hgb : base ≤ g ∧ g < W.heap.size := own_block hown g rfl
 have hsz : (W.setCell ⟨B, 4, none⟩ (.slice (some ⟨g, 0, none⟩) (s.ts.length + 1) cap)).heap.size = W.heap.size := by simp
 have hne : ∀ b, b < w.heap.size → xv.ownBlock ≠ some b → b ≠ g := fun b hb hn e => by
  subst e
  rcases hat with e | e
  ·exact hn e
  ·omega
 have hf : ∀ b, Far w B mv ev xv b → Far (W.setCell ⟨B, 4, none⟩ (.slice (some ⟨g, 0, none⟩) (s.ts.length + 1) cap)) B mv ev (.slice (some ⟨g, 0, none⟩) (s.ts.length + 1) cap) b := fun b hb => by
  have hgn : (Value.slice (some ⟨g, 0, none⟩) (s.ts.length + 1) cap).ownBlock ≠ some b := fun e => hne b hb.1 hb.2.2.2.2 (Option.some.inj e).symm
  exact ⟨by rw [hsz]; have := hb.1; omega, hb.2.1, hb.2.2.1, hb.2.2.2.1, hgn⟩
 have hW : ∀ b, b < w.heap.size → b ≠ B → xv.ownBlock ≠ some b → (W.setCell ⟨B, 4, none⟩ (.slice (some ⟨g, 0, none⟩) (s.ts.length + 1) cap)).heap[b]? = w.heap[b]? := fun b h1 h2 h3 => by
  rw [Below.heap_setCell _ _ _ _ h2]
  exact hgr.block b h1 (fun e => h3 e.symm)
 have ho : ∀ b, Far w B mv ev xv b → (W.setCell ⟨B, 4, none⟩ (.slice (some ⟨g, 0, none⟩) (s.ts.length + 1) cap)).heap[b]? = w.heap[b]? := fun b hb => hW b hb.1 hb.2.1 hb.2.2.2.2
 have hBW : W.heap[B]? = _ := (hgr.block B hlt (fun e => by have := (hob B e.symm).1; omega)).trans h.cells
 have hown' : (W.setCell ⟨B, 4, none⟩ (.slice (some ⟨g, 0, none⟩) (s.ts.length + 1) cap)).ownsRow base 45 5 (.slice (some ⟨g, 0, none⟩) (s.ts.length + 1) cap) (s.ts.length + 1) (s.ts.flatMap tdrow ++ tdrow x) := own_keep hown fun b hb => Below.heap_setCell _ _ _ _ (by have := (own_block hown b hb).1; show b ≠ B; omega)
 refine ⟨by rw [setCell_heap hBW]; rfl, hBb, by rw [hsz]; have := h.sz; omega, hf mb h.far, (HeldD.old ho h.held).more hf, h.nums.old (ho mb h.far), ?_, ?_, ?_, ?_, ?_⟩
 ·exact h.ms.keep (fun b hb => hW b (own_block h.ms.own b hb).2 (by have := (own_block h.ms.own b hb).1; omega) (fun e => (h.me b hb).2 e)) (fun b h => ho b h.1) (fun b h => ⟨hf b h.1, h.2⟩)
 ·exact h.es.keep (fun b hb => hW b (own_block h.es.own b hb).2 (by have := (own_block h.es.own b hb).1; omega) (fun e => h.ex b hb e)) (fun b h => ho b h.1) (fun b h => ⟨hf b h.1, h.2⟩)
 ·show World.ownsRow _ _ _ _ _ (s.ts ++ [x]).length ((s.ts ++ [x]).flatMap tdrow)
  rw [List.length_append, List.flatMap_append]
  simpa using hown'
 ·intro b hb
  refine ⟨(h.me b hb).1, fun e => ?_⟩
  have e' : g = b := Option.some.inj e
  subst e'
  exact hne g (own_block h.ms.own g hb).2 (fun e' => (h.me g hb).2 e') rfl
 ·intro b hb e
  have e' : g = b := Option.some.inj e
  subst e'
  exact hne g (own_block h.es.own g hb).2 (fun e' => h.ex g hb e') rfl
end
end Go.Proofs.YtpojeinddnjpfaaGreatDoor
namespace Go.Proofs.YtpojeinddnjpfaaGreatDoor
set_option linter.unusedVariables false

abbrev RiseF (l : List FD) : Prop := l.Pairwise fun x y => x.num < y.num
theorem rise_one : ∀ (a b : List FD), a.Perm b → RiseF a → RiseF b → a = b
 | [], b, h, _, _ => by
  have := h.length_eq
  cases b with
  | nil => rfl
  | cons _ _ => simp at this
 | x :: a, b, h, ha, hb => by
  cases b with
  | nil => have := h.length_eq; simp at this
  | cons y b =>
   have ha' := List.pairwise_cons.1 ha
   have hb' := List.pairwise_cons.1 hb
   have hxy : x = y := by
    have h1 : x ∈ y :: b := h.mem_iff.1 (by simp)
    have h2 : y ∈ x :: a := h.mem_iff.2 (by simp)
    rcases List.mem_cons.1 h1 with e | h1
    ·exact e
    ·rcases List.mem_cons.1 h2 with e | h2
     ·exact e.symm
     ·have := ha'.1 y h2
      have := hb'.1 x h1
      omega
   subst hxy
   rw [rise_one a b ((List.perm_cons x).1 h) ha'.2 hb'.2]
theorem insF_perm (l : List FD) (x : FD) : (insF l x).Perm (x :: l) := by
 unfold insF
 have h := List.perm_middle (a := x) (l₁ := l.takeWhile fun y => decide (y.num < x.num)) (l₂ := l.dropWhile fun y => decide (y.num < x.num))
 rw [List.takeWhile_append_dropWhile] at h
 exact h
theorem take_lt : ∀ (l : List FD) (n : Int), ∀ y ∈ l.takeWhile (fun y => decide (y.num < n)), y.num < n
 | [], n, y, h => by simp at h
 | a :: t, n, y, h => by
  rw [List.takeWhile_cons] at h
  by_cases ha : a.num < n
  ·rw [if_pos (by simpa using ha)] at h
   rcases List.mem_cons.1 h with rfl | h
   ·exact ha
   ·exact take_lt t n y h
  ·rw [if_neg (by simpa using ha)] at h
   simp at h
theorem drop_ge : ∀ (l : List FD) (n : Int), RiseF l → ∀ y ∈ l.dropWhile (fun y => decide (y.num < n)), n ≤ y.num
 | [], n, _, y, h => by simp at h
 | a :: t, n, hr, y, h => by
  have hr' := List.pairwise_cons.1 hr
  rw [List.dropWhile_cons] at h
  by_cases ha : a.num < n
  ·rw [if_pos (by simpa using ha)] at h
   exact drop_ge t n hr'.2 y h
  ·rw [if_neg (by simpa using ha)] at h
   rcases List.mem_cons.1 h with rfl | h
   ·omega
   ·have := hr'.1 y h; omega
theorem insF_rise (l : List FD) (x : FD) (hl : RiseF l) (hx : ∀ y ∈ l, y.num ≠ x.num) : RiseF (insF l x) := by
 unfold insF
 refine List.pairwise_append.2 ⟨hl.sublist (List.takeWhile_sublist _), List.pairwise_cons.2 ⟨?_, hl.sublist (List.dropWhile_sublist _)⟩, ?_⟩
 ·intro y hy
  have h1 := drop_ge l x.num hl y hy
  have h2 := hx y ((List.dropWhile_sublist _).subset hy)
  omega
 ·intro a ha b hb
  have h1 := take_lt l x.num a ha
  rcases List.mem_cons.1 hb with rfl | hb
  ·exact h1
  ·have h2 := drop_ge l x.num hl b hb
   omega
theorem sortF_all : ∀ (xs acc : List FD), RiseF acc → ((acc ++ xs).map (·.num)).Nodup → (xs.foldl insF acc).Perm (acc ++ xs) ∧ RiseF (xs.foldl insF acc)
 | [], acc, h, _ => ⟨by simp, h⟩
 | x :: t, acc, h, hn => by
  have hn' : ((insF acc x ++ t).map (·.num)).Nodup := by
   have hp : (insF acc x ++ t).Perm (acc ++ x :: t) := ((insF_perm acc x).append_right t).trans List.perm_middle.symm
   exact ((hp.map (·.num)).nodup_iff).2 hn
  have hx : ∀ y ∈ acc, y.num ≠ x.num := by
   intro y hy e
   rw [List.map_append, List.nodup_append] at hn
   exact hn.2.2 y.num (List.mem_map_of_mem hy) x.num (by simp) e
  obtain ⟨h1, h2⟩ := sortF_all t (insF acc x) (insF_rise acc x h hx) hn'
  exact ⟨h1.trans (((insF_perm acc x).append_right t).trans List.perm_middle.symm), h2⟩
theorem sortF_one {xs ys : List FD} (hn : (xs.map (·.num)).Nodup) (hp : ys.Perm xs) (hs : ys.Pairwise fun x y => x.num ≤ y.num) : ys = sortF xs := by
 obtain ⟨h1, h2⟩ := sortF_all xs [] List.Pairwise.nil hn
 refine rise_one ys _ (hp.trans h1.symm) ?_ h2
 have hny : (ys.map (·.num)).Nodup := ((hp.map (·.num)).nodup_iff).2 hn
 have hny' : ys.Pairwise fun x y => x.num ≠ y.num := List.pairwise_map.1 hny
 exact (hs.and hny').imp fun ⟨a, b⟩ => by omega
end Go.Proofs.YtpojeinddnjpfaaGreatDoor
namespace Go.Proofs.YtpojeinddnjpfaaGreatDoor
open Go.Shelf
def laysSort_ren : Go.Shelf.Ren := ⟨fun | 6 => 102 | 15 => 145 | 14 => 144 | 28 => 184 | 29 => 185 | 20 => 176 | 21 => 177 | 22 => 178 | 23 => 179 | 24 => 180 | 25 => 181 | 26 => 182 | 27 => 183 | 46 => 203 | 47 => 204 | 48 => 205 | 49 => 206 | 50 => 207 | 57 => 219 | n => n, fun | 22 => 46 | 24 => 88 | 25 => 181 | 3 => 3 | 39 => 223 | 0 => 0 | 53 => 252 | 55 => 254 | 4 => 4 | 46 => 246 | 45 => 245 | 50 => 182 | 5 => 5 | 9 => 9 | 66 => 272 | 70 => 233 | 76 => 281 | 77 => 42 | n => n, fun | n => n⟩
theorem laysSort : Go.Proofs.SlLaysF0.n6 Tryz.prog laysSort_ren := {
  mixed := by kernel_rfl
  f6 := ⟨Tryz.f102.name, by decide, Tryz.func102.trans (congrArg some (by kernel_rfl))⟩
  f14 := ⟨Tryz.f144.name, by decide, Tryz.func144.trans (congrArg some (by kernel_rfl))⟩
  f15 := Tryz.func145.trans (congrArg some (by kernel_rfl))
  f20 := ⟨Tryz.f176.name, by decide, Tryz.func176.trans (congrArg some (by kernel_rfl))⟩
  f21 := ⟨Tryz.f177.name, by decide, Tryz.func177.trans (congrArg some (by kernel_rfl))⟩
  f22 := ⟨Tryz.f178.name, by decide, Tryz.func178.trans (congrArg some (by kernel_rfl))⟩
  f23 := ⟨Tryz.f179.name, by decide, Tryz.func179.trans (congrArg some (by kernel_rfl))⟩
  f24 := ⟨Tryz.f180.name, by decide, Tryz.func180.trans (congrArg some (by kernel_rfl))⟩
  f25 := ⟨Tryz.f181.name, by decide, Tryz.func181.trans (congrArg some (by kernel_rfl))⟩
  f26 := ⟨Tryz.f182.name, by decide, Tryz.func182.trans (congrArg some (by kernel_rfl))⟩
  f27 := ⟨Tryz.f183.name, by decide, Tryz.func183.trans (congrArg some (by kernel_rfl))⟩
  f28 := Tryz.func184.trans (congrArg some (by kernel_rfl))
  f29 := Tryz.func185.trans (congrArg some (by kernel_rfl))
  f46 := ⟨Tryz.f203.name, by decide, Tryz.func203.trans (congrArg some (by kernel_rfl))⟩
  f47 := Tryz.func204.trans (congrArg some (by kernel_rfl))
  f48 := Tryz.func205.trans (congrArg some (by kernel_rfl))
  f49 := ⟨Tryz.f206.name, by decide, Tryz.func206.trans (congrArg some (by kernel_rfl))⟩
  f50 := ⟨Tryz.f207.name, by decide, Tryz.func207.trans (congrArg some (by kernel_rfl))⟩
  f57 := ⟨Tryz.f219.name, by decide, Tryz.func219.trans (congrArg some (by kernel_rfl))⟩
  t0 := Tryz.underlying0
  a0 := Tryz.isAgg0
  z0 := Tryz.sizeOf0
  v0 := Tryz.zeroValue0
  t3 := Tryz.underlying3
  a3 := Tryz.isAgg3
  z3 := Tryz.sizeOf3
  v3 := Tryz.zeroValue3
  t4 := Tryz.underlying4
  a4 := Tryz.isAgg4
  z4 := Tryz.sizeOf4
  v4 := Tryz.zeroValue4
  t5 := Tryz.underlying5
  a5 := Tryz.isAgg5
  z5 := Tryz.sizeOf5
  v5 := Tryz.zeroValue5
  t9 := Tryz.underlying9
  a9 := Tryz.isAgg9
  z9 := Tryz.sizeOf9
  v9 := Tryz.zeroValue9
  t22 := Tryz.underlying46
  a22 := Tryz.isAgg46
  z22 := Tryz.sizeOf46
  v22 := Tryz.zeroValue46
  t25 := Tryz.underlying181
  a25 := Tryz.isAgg181
  z25 := Tryz.sizeOf181
  v25 := Tryz.zeroValue181
  t39 := Tryz.underlying223
  a39 := Tryz.isAgg223
  z39 := Tryz.sizeOf223
  v39 := Tryz.zeroValue223
  t45 := Tryz.underlying245
  a45 := Tryz.isAgg245
  z45 := Tryz.sizeOf245
  v45 := Tryz.zeroValue245
  t46 := Tryz.underlying246
  a46 := Tryz.isAgg246
  z46 := Tryz.sizeOf246
  v46 := Tryz.zeroValue246
  t50 := Tryz.underlying182
  a50 := Tryz.isAgg182
  z50 := Tryz.sizeOf182
  v50 := Tryz.zeroValue182
  t53 := Tryz.underlying252
  a53 := Tryz.isAgg252
  z53 := Tryz.sizeOf252
  v53 := Tryz.zeroValue252
  t55 := Tryz.underlying254
  a55 := Tryz.isAgg254
  z55 := Tryz.sizeOf254
  v55 := Tryz.zeroValue254
  t66 := Tryz.underlying272
  a66 := Tryz.isAgg272
  z66 := Tryz.sizeOf272
  v66 := Tryz.zeroValue272
  t70 := Tryz.underlying233
  a70 := Tryz.isAgg233
  z70 := Tryz.sizeOf233
  v70 := Tryz.zeroValue233
  t76 := Tryz.underlying281
  a76 := Tryz.isAgg281
  z76 := Tryz.sizeOf281
  v76 := Tryz.zeroValue281
  t77 := Tryz.underlying42
  a77 := Tryz.isAgg42
  z77 := Tryz.sizeOf42
  v77 := Tryz.zeroValue42 }
end Go.Proofs.YtpojeinddnjpfaaGreatDoor
