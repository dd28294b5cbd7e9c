/-
  The walks over the program's own writer: line and word; what writing leaves.
-/
import Derived.Test.YtngmimbpakmkiaaGreatDoorGmB
import Derived.Test.YtngmimbpakmkiaaGreatDoorGmA
import Derived.Test.YtngmimbpakmkiaaGreatDoorDpBz
import Derived.Test.YtngmimbpakmkiaaGreatDoorDvTz
import Derived.Deep.RegionHeldLaw
namespace Go.Proofs.YtngmimbpakmkiaaGreatDoor
set_option linter.unusedVariables false
open Go.ChangeShapes Go.WideShapes Go.ChangeAt Go.RowKit

/-- what writing u behind t leaves: both, or more than is looked at -/
def Tr (t u t' : List UInt8) : Prop := t' = t ++ u ∨ (20000 < t'.length ∧ 20000 < (t ++ u).length)
theorem Tr.nil (t : List UInt8) : Tr t [] t := .inl (by simp)
theorem Tr.trans {t u t' v t'' : List UInt8} (h : Tr t u t') (k : Tr t' v t'') : Tr t (u ++ v) t'' := by
  rcases h with rfl | ⟨h1, h2⟩
  · rcases k with rfl | ⟨k1, k2⟩
    · exact .inl (by simp)
    · exact .inr ⟨k1, by rw [← List.append_assoc]; exact k2⟩
  · right
    rw [← List.append_assoc, List.length_append]
    refine ⟨?_, by omega⟩
    rcases k with rfl | ⟨k1, k2⟩
    · rw [List.length_append]; omega
    · exact k1
theorem Tr.ext {t u u' t' : List UInt8} (h : Tr t u t') (e : u = u') : Tr t u' t' := e ▸ h
abbrev TW : Nat := 73
theorem isb_below {B b : Nat} {bs : List Value} {w w' : World} (h : Lib.IsBuilderF 73 5 B b bs w) (hb : Below w.heap.size w w') : Lib.IsBuilderF 73 5 B b bs w' := by
  have one : ∀ p, Lib.BuilderAtF 73 5 B b p bs w → Lib.BuilderAtF 73 5 B b p bs w' := by
    intro p h
    have hlt := h.lt
    obtain ⟨hB, v, hh, hown, hne⟩ := h
    refine ⟨hB, v, (hb.block b hlt).trans hh, ?_, hne⟩
    exact hown.kept (grownBy_below hb none) (by cases hv : v.ownBlock <;> simp)
  exact h.imp (one _) (one _)
section
variable {B b : Nat} {l l' : List UInt8} {w w1 w2 : World}
theorem Wr.trans (h : Wr B b l w w1) (k : Wr B b l' w1 w2) : Wr B b l' w w2 := ⟨k.isb, h.bel.trans k.bel, h.oth.trans k.oth⟩
theorem Wr.below (h : Wr B b l w w1) (hB : B ≤ w1.heap.size) (hb : Below w1.heap.size w1 w2) : Wr B b l w w2 := ⟨isb_below h.isb hb, h.bel.trans (hb.mono hB), h.oth.below hb⟩
theorem Wr.refl (h : Lib.IsBuilderF 73 5 B b (Lib.byteCells l) w) : Wr B b l w w := ⟨h, Below.refl _ _, Lib.OthersKept.refl _ _ _⟩
theorem Wr.block (h : Wr B b l w w1) {g : Nat} {cs : Array Value} {T : TypeId} {fz : Nat × Nat} (hg : w.heap[g]? = some (.cells cs T fz)) (hT : T ≠ 5) (hgb : g ≠ b) : w1.heap[g]? = some (.cells cs T fz) :=
  h.oth g _ hg (by intro e; exact hgb (Option.some.inj e)) (by intro c f e; cases e; exact hT rfl)
end
/-- the parts of a line, as they lie -/
def PartsIn (w : World) (b : Nat) (v : Value) (xs : List (List UInt8)) : Prop :=
  ∃ ad, v = .slice ad xs.length xs.length ∧ (xs = [] ∨ ∃ g, ad = some ⟨g, 0, none⟩ ∧ g ≠ b ∧ w.heap[g]? = some (.cells (xs.map fun x => Value.string (mkB x)).toArray 9 (0, 0)))
theorem repeat_tab (k : Nat) : Lib.repeatL [9] k = tb k := by
  induction k with
  | zero => rfl
  | succ k ih =>
    have : Lib.repeatL [9] (k + 1) = [9] ++ Lib.repeatL [9] k := by first | rfl | simp [Lib.repeatL, List.replicate_succ]
    rw [this, ih]
    unfold tb
    rw [List.replicate_succ]; rfl
theorem tb_len (k : Nat) : (tb k).length = k := by unfold tb; simp
theorem flat_size (xs : List (List UInt8)) : (xs.flatMap id).length = (xs.map List.length).sum := by
  induction xs with
  | nil => rfl
  | cons a t ih => rw [List.flatMap_cons, List.length_append, ih]; simp
set_option maxHeartbeats 8000000 in
set_option maxRecDepth 20000 in
theorem lineW (B b k : Nat) (l : List UInt8) (xs : List (List UInt8)) (v : Value) (w : World) (hw : Lib.IsBuilderF 73 5 B b (Lib.byteCells l) w) (hk : k ≤ 100) (hBw : B ≤ w.heap.size)
    (hx : PartsIn w b v xs) (hn : xs.length ≤ 100) (hlen : (xs.flatMap id).length ≤ 10000) (hl : l.length ≤ 40000) :
    Calls Tryz.prog 29 #[.pointer (some ⟨b, 0, none⟩), .int .i64 (k : Int), v] w fun e w' => e = .returned (.tuple #[]) ∧ ∃ l', Tr l (tb k ++ (xs.flatMap id ++ [10])) l' ∧ l'.length ≤ 40000 ∧ Wr B b l' w w' := by
  obtain ⟨ad, rfl, hx⟩ := hx
  have HX := Lib.hid hx
  clear hx
  have hLen := lenW B b (Lib.byteCells l) w hw
  rw [Lib.byteCells_length] at hLen
  by_cases h2 : 20000 < l.length
  · have h2i : (20000 : Int) < (l.length : Int) := by omega
    have HT : Hid (Tr l (tb k ++ (xs.flatMap id ++ [10])) l) := .inr ⟨h2, by rw [List.length_append]; omega⟩
    have HW := Lib.hid (Wr.refl hw)
    clear hw hlen
    go_enter Tryz.func29, Tryz.ntmps29
    go_wp2_with fail
    refine hLen.mono ?_
    rintro e w1 ⟨rfl, rfl⟩
    clear hLen
    go_wp2_with fail
    (try simp only [Exit.inBlock, Exit.then])
    refine bodyPost_ret (results_none rfl _ _ _) rfl ?_
    exact ⟨rfl, l, HT.out, hl, HW.out⟩
  have h2i : ¬ (20000 : Int) < (l.length : Int) := by omega
  have hRep := fun W => strings_Repeat ⟨#[9]⟩ k W (by omega) (by show 1 * k ≤ _; omega)
  have HRe : Hid (ByteArray.mk (Lib.repeatL (ByteArray.mk #[9]).data.toList k).toArray = mkB (tb k)) := by
    refine (?_ : _ = _)
    show ByteArray.mk (Lib.repeatL [9] k).toArray = _
    rw [repeat_tab]; rfl
  rw [HRe.out] at hRep
  have htl := tb_len k
  have HWS : Hid (∀ (m : List UInt8) (s : List UInt8) (W : World), Wr B b m w W → m.length + s.length ≤ 100000 → Calls Tryz.prog 44 #[.pointer (some ⟨b, 0, none⟩), .string (mkB s)] W fun e w' => e = .returned (.tuple #[.int .i64 s.length, .nilIface]) ∧ Wr B b (m ++ s) w w') := by
    intro m s W hW hm
    have hsz : (mkB s).size = s.length := mkB_size s
    have := writeStringW B b m (mkB s) W hW.isb (by rw [hsz]; omega) (by have := hW.bel.size; omega)
    rw [hsz] at this
    exact this.mono fun e w' ⟨h1, h2⟩ => ⟨h1, hW.trans h2⟩
  have hW0 : Wr B b l w w := Wr.refl hw
  clear hw HRe
  go_enter Tryz.func29, Tryz.ntmps29
  go_wp2_with fail
  refine hLen.mono ?_
  rintro e w1 ⟨rfl, h⟩
  have h := h.symm
  subst h
  clear hLen
  go_upto_region 1 with fail
  have hW1 : Wr B b l w w.drew := hW0.below hBw (Below.drew (Below.refl _ _))
  go_region_held_law (fun W' => True) (exact trivial) (first
    | (go_at_call 45; refine (hRep _).mono ?_; rintro e W2 ⟨rfl, hb2⟩; have hW2 : Wr B b l w W2 := hW1.below (by show B ≤ w.heap.size; exact hBw) hb2)
    | (go_at_call 44; refine (HWS.out l (tb k) _ hW2 (by omega)).mono ?_; rintro e W3 ⟨rfl, hW3⟩))
  all_goals
    have HW3 := Lib.hid hW3
    clear hW0 hW1 hW2 hW3 hRep hb2
    have HWB : Hid (∀ (m : List UInt8) (W : World), Wr B b m w W → m.length ≤ 100000 → Calls Tryz.prog 46 #[.pointer (some ⟨b, 0, none⟩), .int .u8 10] W fun e w' => e = .returned .nilIface ∧ Wr B b (m ++ [10]) w w') := fun m W hW hm =>
      (writeByteW B b m 10 10 rfl W hW.isb (by omega) (by have := hW.bel.size; omega)).mono fun e w' ⟨h1, h2⟩ => ⟨h1, hW.trans h2⟩
    have HFL : Hid (∀ q, ((xs.take q).flatMap id).length ≤ 10000) := fun q => by
      have e : xs.flatMap id = (xs.take q).flatMap id ++ (xs.drop q).flatMap id := by rw [← List.flatMap_append, List.take_append_drop]
      rw [e, List.length_append] at hlen
      omega
    have HXL : Hid (∀ (q : Nat) (x : List UInt8), xs[q]? = some x → x.length ≤ 10000) := fun q x hq => by
      have h1 := List.mem_of_getElem? hq
      have h2 : x.length ≤ (xs.flatMap id).length := by
        obtain ⟨a, c, rfl⟩ := List.append_of_mem h1
        rw [List.flatMap_append, List.flatMap_cons, List.length_append, List.length_append]
        show x.length ≤ _ + ((id x).length + _)
        have : (id x).length = x.length := rfl
        omega
      omega
    clear hlen
    go_wp2_with fail
    go_loopw [21] (fun i wq => ∃ q : Nat, q ≤ xs.length ∧ i = .int .i64 (q : Int) ∧ Wr B b (l ++ tb k ++ (xs.take q).flatMap id) w wq) (fun i _ => xs.length - (intOf i).toNat)
    case atStart => exact ⟨0, by omega, rfl, by simpa using HW3.out⟩
    case round =>
      obtain ⟨q, hq, rfl, hWq⟩ := hrel
      have HWQ := Lib.hid hWq
      have hml := HFL.out q
      clear hWq
      by_cases hqn : q < xs.length
      · obtain ⟨x, hx⟩ : ∃ x, xs[q]? = some x := ⟨_, List.getElem?_eq_getElem hqn⟩
        rcases HX.out with h0 | ⟨g, rfl, hgb, hgh⟩
        · rw [h0] at hx; simp at hx
        have hgr := HWQ.out.block hgh (by decide) hgb
        have hc : wr.cell? ⟨g, q, none⟩ = some (.string (mkB x)) := by
          simp only [World.cell?, hgr]
          simp [hx]
        have hxl := HXL.out q x hx
        have hq0 : (0 : Int) ≤ (q : Int) := by omega
        have hq1 : (q : Int) < (xs.length : Int) := by omega
        have hwq : IntKind.i64.wrap ((q : Int) + 1) = (q : Int) + 1 := by rw [IntKind.wrap_i64]; omega
        have hCall := HWS.out (l ++ tb k ++ (xs.take q).flatMap id) x wr HWQ.out (by rw [List.length_append, List.length_append, htl]; omega)
        have HN : Hid (l ++ tb k ++ (xs.take q).flatMap id ++ x = l ++ tb k ++ (xs.take (q + 1)).flatMap id) := by
          refine (?_ : _ = _)
          rw [List.take_add_one, hx, List.flatMap_append]
          simp
        rw [HN.out] at hCall
        clear hgr hgh hgb hx
        go_wp2_with fail
        refine hCall.mono ?_
        rintro e W5 ⟨rfl, hW5⟩
        have HW5 := Lib.hid hW5
        clear hW5 hCall hc
        go_wp2_with fail
        go_roundw
        case rel => exact ⟨q + 1, by omega, by go_num, HW5.out⟩
        case measure => simp [intOf]; omega
      · have hqn' : ¬ (q : Int) < (xs.length : Int) := by omega
        have hqe : xs.take q = xs := List.take_of_length_le (by omega)
        rw [hqe] at HWQ hml
        have hCall := HWB.out (l ++ tb k ++ xs.flatMap id) wr HWQ.out (by rw [List.length_append, List.length_append, htl]; omega)
        clear hqe
        go_wp2_with fail
        refine hCall.mono ?_
        rintro e W5 ⟨rfl, hW5⟩
        have HW5 := Lib.hid hW5
        clear hW5 hCall
        go_wp2_with fail
        go_end0
        exact ⟨rfl, _, .inl (by simp), by rw [List.length_append, List.length_append, List.length_append, htl]; have : ([10] : List UInt8).length = 1 := rfl; omega, HW5.out⟩
/-- the same, of parts that have just been laid -/
theorem lineN (B b k : Nat) (l : List UInt8) (xs : List (List UInt8)) (w W : World) (hW : Wr B b l w W) (hk : k ≤ 100) (hBw : B ≤ W.heap.size) (n : Nat) (hn : xs.length = n) (hn0 : 1 ≤ n) (hn1 : n ≤ 100) (cs : Array Value) (hcs : cs = (xs.map fun x => Value.string (mkB x)).toArray)
    (hlen : (xs.flatMap id).length ≤ 10000) (hl : l.length ≤ 40000) :
    Calls Tryz.prog 29 #[.pointer (some ⟨b, 0, none⟩), .int .i64 (k : Int), .slice (some ⟨W.heap.size, 0, none⟩) n n] (W.alloc (.cells cs 9)) fun e w' => e = .returned (.tuple #[]) ∧ ∃ l', Tr l (tb k ++ (xs.flatMap id ++ [10])) l' ∧ l'.length ≤ 40000 ∧ Wr B b l' w w' := by
  subst hn hcs
  have hb : Below W.heap.size W (W.alloc (.cells (xs.map fun x => Value.string (mkB x)).toArray 9)) := (Below.refl _ W).alloc (Nat.le_refl _) _
  have hW2 := hW.below hBw hb
  have hbl : b < W.heap.size := by
    rcases hW.isb with h | h
    · exact h.lt
    · exact h.lt
  refine (lineW B b k l xs _ _ hW2.isb hk (by have := hb.size; omega) ⟨_, rfl, .inr ⟨_, rfl, by omega, ?_⟩⟩ hn1 hlen hl).mono fun e w' ⟨h1, l', h2, h3, h4⟩ => ⟨h1, l', h2, h3, hW2.trans h4⟩
  exact alloc_heap_new _ _
/-! formed texts are short -/
theorem width_le (s : ByteArray) (pos : Nat) : (Utf8.decode s pos).2 ≤ 4 := by
  simp only [Utf8.decode]
  repeat' split
  all_goals simp
theorem size_runes (s : ByteArray) : ∀ (b pos : Nat), s.size ≤ pos + b → s.size ≤ pos + 4 * (rns s b pos).length
  | 0, pos, h => by omega
  | b + 1, pos, h => by
    by_cases hp : pos < s.size
    · have hw := width_le s pos
      have hw1 := width_pos s pos hp
      have ih := size_runes s b (pos + (Utf8.decode s pos).2) (by omega)
      rw [rns_step s b pos hp, List.length_cons]
      omega
    · omega
theorem name_size (s : ByteArray) (h : nameOf (runes s) = true) : s.size ≤ 160 := by
  have h1 := size_runes s s.size 0 (by omega)
  unfold nameOf at h
  simp only [Bool.and_eq_true, decide_eq_true_iff] at h
  have h2 : (rns s s.size 0).length ≤ 40 := h.1.1.2
  omega
theorem jn_size : ∀ (L : List (List UInt8)), (∀ x ∈ L, x.length ≤ 160) → (jn L).length ≤ 161 * L.length
  | [], _ => by simp [jn]
  | x :: t, h => by
    have hx := h x List.mem_cons_self
    have ih := jn_size t (fun y hy => h y (List.mem_cons_of_mem _ hy))
    by_cases ht : t = []
    · subst ht; simp [jn]; omega
    · rw [jn_cons x t ht]; simp; omega
theorem name_len {l : List UInt8} (h : nameOf (runes ⟨l.toArray⟩) = true) : l.length ≤ 160 := by
  have := name_size _ h
  have e : (ByteArray.mk l.toArray).size = l.length := by show l.toArray.size = _; simp
  omega
theorem plain_len {l : List UInt8} (h : plainL l = true) : l.length ≤ 160 := name_len (plainL_name h).1
theorem path_len {l : List UInt8} (h : pathOK l = true) : l.length ≤ 2000 := by
  obtain ⟨h8, hp⟩ := path_names h
  have h1 := jn_size (pcs [] l) (fun x hx => plain_len (hp x hx))
  rw [jn_pcs, List.nil_append] at h1
  omega
theorem type_len {l : List UInt8} (h : typeOK l = true) : l.length ≤ 2000 := by
  unfold typeOK at h
  rw [Bool.or_eq_true] at h
  rcases h with h | h
  · have := name_len (scalar_one (of_decide_eq_true h)).2.1; omega
  · exact path_len h
theorem num_len {n : Int} (h : numOK n = true) : (Lib.itoa n).length ≤ 21 := by
  unfold numOK at h
  rw [decide_eq_true_iff] at h
  exact Lib.itoa_length_le n (by omega) (by omega)
set_option maxHeartbeats 1000000 in
theorem wordP_any (k : Int) (w : World) (hk : k = 1 ∨ k = 2 ∨ k = 3) :
    Calls Tryz.prog 47 #[.int .i64 k] w fun e w' => e = .returned (.string (mkB (kindT k))) ∧ w' = w := by
  rcases hk with rfl | rfl | rfl
  all_goals
    go_enter Tryz.func47, Tryz.ntmps47
    go_wp2
    go_ret
    exact ⟨rfl, rfl⟩
end Go.Proofs.YtngmimbpakmkiaaGreatDoor
