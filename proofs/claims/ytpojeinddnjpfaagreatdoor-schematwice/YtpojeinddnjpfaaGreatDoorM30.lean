/-
  The library's sort of fields, by their numbers.
  Statements whose order of evaluation is open, of which the last operation stores: what holds of the memory may be said up to that store. Nothing is proved of the program here.
-/
import Derived.Test.YtpojeinddnjpfaaGreatDoorM19
import Derived.Test.YtpojeinddnjpfaaGreatDoorM29
import Derived.Sort.OwnSorted
import Derived.Test.YtpojeinddnjpfaaGreatDoorProg
import Derived.OrdersHeld
import Derived.Deep.RegionHeld
namespace Go.Proofs.YtpojeinddnjpfaaGreatDoor
set_option linter.unusedVariables false
open Go.ChangeShapes Go.WideShapes Go.ChangeAt Go.RowKit Go.Shelf Go.Lib Go.Sort
instance : Inhabited FD := ⟨⟨0, [], 0, false, 0⟩⟩

def cmpF (x y : FD) : Int := if x.num < y.num then -1 else if y.num < x.num then 1 else 0
theorem ltF (x y : FD) : ltOf cmpF x y = decide (x.num < y.num) := by
 unfold ltOf cmpF
 by_cases h1 : x.num < y.num
 ·simp [h1]
 ·by_cases h2 : y.num < x.num <;> simp [h1, h2]
theorem swoF : SWO (ltOf cmpF) where
 irrefl x := by rw [ltF]; simp
 trans x y z h1 h2 := by rw [ltF] at *; simp at *; omega
 ntrans x y z h1 h2 := by rw [ltF] at *; simp at *; omega
theorem cmpInt_any (a b : Int) (w : World) : Calls Tryz.prog 104 #[.int .i64 a, .int .i64 b] w fun e w' => e = .returned (.int .i64 (if a < b then -1 else if b < a then 1 else 0)) ∧ w' = w := by
 by_cases h1 : a < b
 ·rw [if_pos h1]
  go_enter Tryz.func104, Tryz.ntmps104
  go_wp2
  go_ret
  exact ⟨rfl, rfl⟩
 ·rw [if_neg h1]
  by_cases h2 : b < a
  ·rw [if_pos h2]
   go_enter Tryz.func104, Tryz.ntmps104
   go_wp2
   go_ret
   exact ⟨rfl, rfl⟩
  ·rw [if_neg h2]
   go_enter Tryz.func104, Tryz.ntmps104
   go_wp2
   go_ret
   exact ⟨rfl, rfl⟩
set_option maxHeartbeats 1000000 in
theorem cmpFd_any (x y : FD) (W : World) : Calls Tryz.prog 103 #[.agg (fdrow x).toArray, .agg (fdrow y).toArray] W fun e w' => e = .returned (.int .i64 (cmpF x y)) ∧ ∃ q os', w' = grow (W.drewN q) os' := by
 have hcon := fun W' => cmpInt_any x.num y.num W'
 have hr : cmpF x y = if x.num < y.num then -1 else if y.num < x.num then 1 else 0 := rfl
 rw [← hr] at hcon
 generalize cmpF x y = r at hcon ⊢
 show Calls Tryz.prog 103 #[.agg #[.int .i64 x.num, .string (mkB x.name), .int .i64 x.kind, .bool x.rep, .int .i64 x.type], .agg #[.int .i64 y.num, .string (mkB y.name), .int .i64 y.kind, .bool y.rep, .int .i64 y.type]] W _
 clear hr
 go_enter Tryz.func103, Tryz.ntmps103
 go_wp2_with (go_at_call 104; refine (hcon _).mono ?_; rintro e w' ⟨rfl, rfl⟩)
 go_ret
 exact ⟨rfl, 0, _, by rw [alloc_eq_grow, alloc_eq_grow, grow_grow]; rfl⟩
theorem flatK_fd (xs : List FD) : (flatK fdrow 5 xs.toArray).toList = xs.flatMap fdrow := by
 have hl : (xs.flatMap fdrow).length = xs.length * 5 := by
  induction xs with
  | nil => rfl
  | cons a t ih => rw [List.flatMap_cons, List.length_append, ih]; simp [fdrow]; omega
 apply List.ext_getElem?
 intro t
 by_cases ht : t < xs.length * 5
 ·have h1 : (flatK fdrow 5 xs.toArray).toList[t]? = some ((flatK fdrow 5 xs.toArray)[t]!) := by
   rw [Array.getElem?_toList, getElem!_pos _ t (by simpa using ht), Array.getElem?_eq_getElem (by simpa using ht)]
  rw [h1, get_flatK _ _ _ _ (by simpa using ht)]
  have hq : t / 5 < xs.length := by omega
  have hx : xs[t / 5]? = some xs.toArray[t / 5]! := by
   rw [getElem!_pos _ _ (by simpa using hq), List.getElem?_eq_getElem hq]
   simp
  have e := flat_at (k := 5) (row := fdrow) (fun _ => rfl) xs (t / 5) _ (t % 5) (by omega) hx
  rw [show t / 5 * 5 + t % 5 = t by omega] at e
  rw [e, getElem!_pos _ _ (by show t % 5 < 5; omega)]
  rw [List.getElem?_eq_getElem (by show t % 5 < 5; omega)]
 ·rw [List.getElem?_eq_none (by simp; omega), List.getElem?_eq_none (by omega)]
def SortAns (base : Nat) (v : Value) (xs : List FD) (w : World) (e : Ending) (w' : World) : Prop := e = .returned (.tuple #[]) ∧ ∃ ys : List FD, ys.Perm xs ∧ (ys.Pairwise fun x y => x.num ≤ y.num) ∧ w'.ownsRow base 88 5 v xs.length (ys.flatMap fdrow) ∧ w.grownBy w' v.ownBlock
theorem isAggF (w : World) : (isAgg 88).run Tryz.prog w = .ok true w := by
 first
  | exact Tryz.isAgg88 w
  | kernel_rfl
theorem sizeOfF (w : World) : (Go.sizeOf 88).run Tryz.prog w = .ok 5 w := by
 first
  | exact Tryz.sizeOf88 w
  | kernel_rfl
set_option maxHeartbeats 2000000 in
theorem sortFd_any (base : Nat) (v : Value) (xs : List FD) (w : World) (h : w.ownsRow base 88 5 v xs.length (xs.flatMap fdrow)) (hl : xs.length ≤ 1000000) :
  Calls Tryz.prog 102 #[v, .func (.func 103) #[] #[]] w fun e w' => SortAns base v xs w e w' := by
 by_cases h0 : xs.length = 0
 ·have hx : xs = [] := List.eq_nil_of_length_eq_zero h0
  subst hx
  obtain ⟨ad, c, rfl⟩ : ∃ ad c, v = .slice ad 0 c := by
   obtain ⟨_, ⟨rfl, _⟩ | ⟨g, cap, cur, rfl, _⟩⟩ := h
   ·exact ⟨_, _, rfl⟩
   ·exact ⟨_, _, rfl⟩
  have hc := AnyF.slices_SortFunc_none laysSort ad c (.func (.func 103) #[] #[]) w
  change Calls Tryz.prog 102 _ _ _ at hc
  refine hc.mono ?_
  rintro e w' ⟨rfl, rfl⟩
  exact ⟨rfl, [], List.Perm.refl _, List.Pairwise.nil, h, World.grownBy.refl _ _⟩
 ·obtain ⟨hfl, ⟨rfl, hz⟩ | ⟨g, cap, cur, rfl, hg, hh, h3, h4, h5, h6⟩⟩ := h
  ·exact absurd hz h0
  have eg : ∀ args w, (callFunc 103 args).run Tryz.prog w = .ok (.enter 103 args) w := enters_of Tryz.func103 (by kernel_rfl) rfl
  have hlt : g < w.heap.size := (Array.getElem?_eq_some_iff.1 hh).1
  have hH : HoldsK fdrow 5 w g 0 xs.toArray := by
   intro j hj
   have hj' : j < xs.length * 5 := by simpa using hj
   refine ⟨?_, by simp [World.frozen?, hh]⟩
   have e1 : (cur.toList.take (xs.length * 5))[j]? = (flatK fdrow 5 xs.toArray).toList[j]? := by rw [flatK_fd, h6]
   rw [List.getElem?_take_of_lt hj', Array.getElem?_toList, Array.getElem?_toList, Array.getElem?_eq_getElem (xs := flatK fdrow 5 xs.toArray) (by simpa using hj')] at e1
   simp only [World.cell?, hh, Nat.zero_add]
   simp only [Option.isSome_none, Bool.false_eq_true, if_false]
   rw [e1, getElem!_pos _ j (by simpa using hj')]
   rfl
  have hc := AnyQ.slices_SortFunc laysSort 5 isAggF sizeOfF fdrow (fun _ => rfl) (fun x v hv => by simp [fdrow] at hv; rcases hv with rfl | rfl | rfl | rfl | rfl <;> rfl) cmpF swoF 103 #[] g 0 cap xs.toArray w eg (fun _ _ _ _ x y => cmpFd_any x y _) hH hlt (by simp; omega)
  change Calls Tryz.prog 102 _ _ _ at hc
  rw [show xs.toArray.size = xs.length by simp] at hc
  refine hc.mono ?_
  rintro e w' ⟨rfl, d', n, os, ⟨hps, hpo, hpp⟩, hsrt, rfl⟩
  obtain ⟨ys, rfl⟩ : ∃ ys : List FD, d' = ys.toArray := ⟨d'.toList, by simp⟩
  have hys : ys.length = xs.length := by simpa using hps
  refine ⟨rfl, ys, ?_, ?_, ?_, ?_⟩
  ·have := hpp
   rw [show (0 : Nat) = 0 from rfl] at this
   have e1 : (ys.toArray.extract 0 xs.length).toList = ys := by
    rw [← hys]; simp
   have e2 : (xs.toArray.extract 0 xs.length).toList = xs := by simp
   rw [e1, e2] at this
   exact this
  ·rw [List.pairwise_iff_getElem]
   intro i j hi hj hij
   have := hsrt i j (Nat.zero_le _) hij (by omega)
   rw [ltF] at this
   rw [getElem!_pos _ i (by simpa using hi), getElem!_pos _ j (by simpa using hj)] at this
   simp at this
   omega
  ·have hb2 : (sortWorldK fdrow 5 w g 0 n ys.toArray os).heap[g]? = some (.cells (putCells id 0 (flatK fdrow 5 ys.toArray) cur) 88 (0, 0)) := by
    unfold sortWorldK putRowK
    rw [heap_grow_old _ _ (by simpa using hlt)]
    simp [putRow, mapBlock, Sort.ahead, Array.getElem?_modify, hh, onCells]
   have hfl2 : (ys.flatMap fdrow).length = xs.length * 5 := by
    rw [← flatK_fd, Array.length_toList, size_flatK, ← hys]; simp
   refine ⟨hfl2, .inr ⟨g, cap, _, rfl, hg, hb2, h3, h4, by simp [putCells, h5], ?_⟩⟩
   rw [← flatK_fd]
   apply List.ext_getElem?
   intro j
   by_cases hj : j < xs.length * 5
   ·have hjc : j < cur.size := by rw [h5]; have := Nat.mul_le_mul_right 5 h3; omega
    have hjf : j < (flatK fdrow 5 ys.toArray).size := by rw [size_flatK]; simpa [hys] using hj
    rw [List.getElem?_take_of_lt hj, Array.getElem?_toList, Array.getElem?_toList, Array.getElem?_eq_getElem hjf]
    simp only [putCells]
    simp [hjc]
    rw [if_pos (by omega), getElem!_pos _ j hjf]
   ·rw [List.getElem?_take_eq_none (by omega), List.getElem?_eq_none (by rw [Array.length_toList, size_flatK]; simp; omega)]
  ·refine ⟨rfl, rfl, rfl, by unfold sortWorldK putRowK; simp, fun k hk hne => ?_⟩
   unfold sortWorldK putRowK
   rw [heap_grow_old _ _ (by simpa using hk)]
   have : g ≠ k := fun e => hne (by rw [e]; rfl)
   simp [putRow, mapBlock, Sort.ahead, Array.getElem?_modify, this]
end Go.Proofs.YtpojeinddnjpfaaGreatDoor
namespace Go.Proofs.YtpojeinddnjpfaaGreatDoor
set_option linter.unusedVariables false

section
variable {P : Program} {ops : Array Oper} {Q : Exit → Act → World → Prop} {md : Region.Mode}
def CloL (md : Region.Mode) (ops : Array Oper) (l : Array Bool) : Prop := ∀ (j : Nat) (oj : Oper), ops[j]? = some oj → l.getD j false = true → ∀ e ∈ oj.after, Region.binds md e = true → l.getD e.on false = true
def cloB (md : Region.Mode) (ops : Array Oper) (l : Array Bool) : Bool := (List.range ops.size).all fun j => match ops[j]? with
 | some oj => !l.getD j false || oj.after.all fun e => !Region.binds md e || l.getD e.on false
 | none => true
theorem clo_of {l : Array Bool} (h : cloB md ops l = true) : CloL md ops l := by
 intro j oj hj hl e he hb
 have hjs := (Array.getElem?_eq_some_iff.1 hj).1
 have h1 := List.all_eq_true.1 h j (List.mem_range.2 hjs)
 simp only [hj, hl, Bool.not_true, Bool.false_or] at h1
 have h2 := Array.all_eq_true_iff_forall_mem.1 h1 e he
 simpa [hb] using h2
theorem clo_set {l : Array Bool} {j : Nat} (h : CloL md ops l) (hj : j ∈ Region.ready md ops l) : CloL md ops (l.setIfInBounds j true) := by
 intro k ok hk hl e he hb
 by_cases hjk : j = k
 ·subst hjk
  obtain ⟨_, oj, hoj, hall⟩ := mem_ready.1 hj
  rw [hk] at hoj
  cases hoj
  exact getD_set_true (hall e he hb)
 ·rw [getD_set_ne false hjk] at hl
  exact getD_set_true (h k ok hk hl e he hb)
def chainB (md : Region.Mode) (ops : Array Oper) : Nat → List Nat → Bool
 | _, [] => true
 | s, t :: p => (match ops[s]? with
  | some o => o.after.toList.any fun e => Region.binds md e && (e.on == t)
  | none => false) && chainB md ops t p
theorem clo_chain {l : Array Bool} (h : CloL md ops l) : ∀ (p : List Nat) (s : Nat), chainB md ops s p = true → l.getD s false = true → ∀ t ∈ p, l.getD t false = true
 | [], s, _, _, t, ht => by simp at ht
 | b :: p, s, hc, hs, t, ht => by
  rw [chainB, Bool.and_eq_true] at hc
  obtain ⟨h1, h2⟩ := hc
  have hb : l.getD b false = true := by
   cases ho : ops[s]? with
   | none => rw [ho] at h1; cases h1
   | some o =>
    rw [ho] at h1
    obtain ⟨e, he, h3⟩ := List.any_eq_true.1 h1
    rw [Bool.and_eq_true] at h3
    have := h s o ho hs e (by simpa using he) h3.1
    have e2 : e.on = b := by simpa using h3.2
    rw [e2] at this; exact this
  rcases List.mem_cons.1 ht with rfl | ht
  ·exact hb
  ·exact clo_chain h p b h2 hb t ht
def Ph (st : Nat) (Sy Sp : World → Prop) (l : Array Bool) (w : World) : Prop := Sy w ∧ (l.getD st false = false → Sp w)
def wpAnyG (P : Program) (md : Region.Mode) (ops : Array Oper) (Q : Exit → Act → World → Prop) (st : Nat) (Sy Sp : World → Prop) : Nat → Array Bool → Act → World → Prop
 | 0, l, a, w => Region.ready md ops l = [] ∧ Q .normal a w
 | fuel + 1, l, a, w =>
  (Region.ready md ops l = [] → Q .normal a w) ∧
  ∀ i ∈ Region.ready md ops l, wpOp P ops Q i (fun a' w' => Ph st Sy Sp (l.setIfInBounds i true) w' ∧ wpAnyG P md ops Q st Sy Sp fuel (l.setIfInBounds i true) a' w') a w
variable {st : Nat} {Sy Sp : World → Prop}
theorem any_of_G : ∀ (fuel : Nat) (l : Array Bool) (a : Act) (w : World), wpAnyG P md ops Q st Sy Sp fuel l a w → wpAny P md ops Q fuel l a w
 | 0, _, _, _, h => h
 | fuel + 1, _, _, _, h => ⟨h.1, fun i hi => wpOp_mono (fun a' w' h' => any_of_G fuel _ a' w' h'.2) (h.2 i hi)⟩
theorem G_first {i : Nat} {oi : Oper} {v : Value} {p : List Nat} (hch : chainB md ops st p = true) (hpi : i ∈ p) (hist : i ≠ st) (hi : ops[i]? = some oi) (hsel : ∀ (j : Nat) (o : Oper) cs b, ops[j]? = some o → o.op ≠ .select cs b)
  (hQ : ∀ c a w, Q (.panic c) (a.put oi.dst v) w → Q (.panic c) a w) :
  ∀ (fuel : Nat) (l : Array Bool) (a : Act) (w : World), CloL md ops l →
   (∀ j oj, ops[j]? = some oj → j ≠ i → l.getD j true = false → (∀ e ∈ oj.after, Region.binds md e = true → e.on ≠ i) → oi.apart ops oj = true) →
   i ∈ Region.ready md ops l → YieldsIf P ops (fun W => Sy W ∧ Sp W) oi v a → Ph st Sy Sp l w →
   wpAnyG P md ops Q st Sy Sp fuel (l.setIfInBounds i true) (a.put oi.dst v) w → wpAnyG P md ops Q st Sy Sp (fuel + 1) l a w := by
 have both : ∀ (l : Array Bool) (w : World), CloL md ops l → l.getD i true = false → Ph st Sy Sp l w → Sy w ∧ Sp w := fun l w hc hl hS => by
  refine ⟨hS.1, hS.2 ?_⟩
  cases hs : l.getD st false with
  | false => rfl
  | true =>
   have h1 := clo_chain hc p st hch hs i hpi
   rcases Nat.lt_or_ge i l.size with h' | h'
   ·simp [h'] at hl h1; rw [hl] at h1; cases h1
   ·simp [Array.getElem?_eq_none h'] at hl
 have same : ∀ (l : Array Bool) (w : World), Ph st Sy Sp (l.setIfInBounds i true) w ↔ Ph st Sy Sp l w := fun l w => by
  unfold Ph
  rw [getD_set_ne false hist]
 intro fuel
 induction fuel with
 | zero =>
  intro l a w hc _ hr hy hS H
  have h0 := (mem_ready.1 hr).1
  refine ⟨fun h => (by rw [h] at hr; cases hr), fun j hj => ?_⟩
  by_cases hji : j = i
  ·subst hji; exact hy.wpOp hi (both l w hc h0 hS) ⟨(same l w).2 hS, H⟩
  ·have := ready_mono hj hji
   rw [H.1] at this
   cases this
 | succ fuel ih =>
  intro l a w hc hfree hr hy hS H
  have h0 := (mem_ready.1 hr).1
  refine ⟨fun h => (by rw [h] at hr; cases hr), fun j hj => ?_⟩
  by_cases hji : j = i
  ·subst hji; exact hy.wpOp hi (both l w hc h0 hS) ⟨(same l w).2 hS, H⟩
  ·have h1 := H.2 j (ready_mono hj hji)
   obtain ⟨hjun, oj, hoj, hall⟩ := mem_ready.1 hj
   have hnot : ∀ e ∈ oj.after, Region.binds md e = true → e.on ≠ i := fun e he hb heq => by
    have h1 := hall e he hb
    rw [heq] at h1
    rcases Nat.lt_or_ge i l.size with h' | h'
    ·simp [h'] at h0 h1; rw [h0] at h1; cases h1
    ·simp [Array.getElem?_eq_none h'] at h1
   have h2 := wpOp_putIf hoj (hfree j oj hoj hji hjun hnot) (fun cs b => hsel i oi cs b hi) (fun cs b => hsel j oj cs b hoj) hQ hy h1
   refine wpOp_mono (fun a' w' h3 => ?_) h2
   obtain ⟨h3, h4, h5⟩ := h3
   rw [Array.setIfInBounds_comm _ _ (Ne.symm hji)] at h4 h5
   have h6 := (same (l.setIfInBounds j true) w').1 h4
   refine ⟨h6, ih (l.setIfInBounds j true) a' w' (clo_set hc hj) ?_ (ready_mono hr (Ne.symm hji)) h3 h6 h5⟩
   intro k ok hk hki hun hno
   refine hfree k ok hk hki ?_ hno
   by_cases hjk : j = k
   ·subst hjk; exact hjun
   ·rw [getD_set_ne true hjk] at hun; exact hun
theorem G_take {i : Nat} {oi : Oper} {v : Value} {fuel : Nat} {l : Array Bool} {a : Act} {w : World} (p : List Nat) (hi : ops[i]? = some oi) (hch : (chainB md ops st p && p.contains i && !(i == st) && Region.noSelect ops && Region.free md ops l i && (Region.ready md ops l).contains i && cloB md ops l) = true)
  (hQ : ∀ c a w, Q (.panic c) (a.put oi.dst v) w → Q (.panic c) a w) (hy : YieldsIf P ops (fun W => Sy W ∧ Sp W) oi v a) (hS : Ph st Sy Sp l w)
  (h : wpAnyG P md ops Q st Sy Sp fuel (l.setIfInBounds i true) (a.put oi.dst v) w) : wpAnyG P md ops Q st Sy Sp (fuel + 1) l a w := by
 simp only [Bool.and_eq_true] at hch
 obtain ⟨⟨⟨⟨⟨⟨h1, h2⟩, h3⟩, h4⟩, h5⟩, h6⟩, h7⟩ := hch
 exact G_first h1 (by simpa using h2) (by simpa using h3) hi (Region.noSelect_spec h4) hQ fuel l a w (clo_of h7) (Region.free_spec hi h5) (by simpa using h6) hy hS h
theorem G_one {i : Nat} {o : Oper} {fuel : Nat} {l : Array Bool} {a : Act} {w : World} (hr : Region.ready md ops l = [i]) (ho : ops[i]? = some o)
  (h : ∀ K' : Act → World → Prop, Shut (∀ a w, Ph st Sy Sp (l.setIfInBounds i true) w → wpAnyG P md ops Q st Sy Sp fuel (l.setIfInBounds i true) a w → K' a w) → if Region.wanted o (yielded ops a.tmps) = true then Oper.wp P o a w K' Q else K' (a.put o.dst undef) w) : wpAnyG P md ops Q st Sy Sp (fuel + 1) l a w := by
 refine ⟨fun h0 => (by rw [hr] at h0; cases h0), fun j hj => ?_⟩
 rw [hr] at hj
 have : j = i := by simpa using hj
 subst this
 exact wpOp_step ho (fun K' hK => h K' (fun a w hS hW => hK a w ⟨hS, hW⟩))
theorem G_done {l : Array Bool} {a : Act} {w : World} (hr : Region.ready md ops l = []) (h : Q .normal a w) : ∀ fuel, wpAnyG P md ops Q st Sy Sp fuel l a w
 | 0 => ⟨hr, h⟩
 | _ + 1 => ⟨fun _ => h, by rw [hr]; simp⟩
theorem region_G {id : Nat} {a : Act} {w : World} (st : Nat) (Sy Sp : World → Prop) (hm : P.follows .mixedOrders = true)
  (h : wpAnyG P .any ops Q st Sy Sp ops.size (Array.replicate ops.size false) a w.drew) : (Code.region id ops true).wp P Q a w :=
 wp_region_any hm (any_of_G _ _ _ _ h)
end
end Go.Proofs.YtpojeinddnjpfaaGreatDoor
