/-
  The walk over the program's own Path: the names of a path; none, if it is none.
  What the library functions that this program calls answer, as theorems over this translation: each is one application of a theorem of the given library. Nothing is proved of the program itself here.
  The two tables of the library that the row lists, as the word of this seat. Nothing is proved of the program here.
  The walks over the document's own formedEnum and formedMessage.
  The walks over the small functions of package value, and of the document: types of fields, and which field is meant.
  The walk over the document's own Small of schemas.
-/
import Derived.Test.YtknijddlacmelaaDoorM7
import Derived.Shelf.Unicode.ValidAny
import Derived.Ground.NamesProg
import Derived.Shelf.LaysM
import Derived.Test.YtknijddlacmelaaDoorProg
import Derived.Below
import Derived.Test.YtknijddlacmelaaDoorM2
import Derived.Test.YtknijddlacmelaaDoorM9
import Derived.Test.YtknijddlacmelaaDoorM0
import Derived.Test.YtknijddlacmelaaDoorM1
import Derived.BigQuiet
import Derived.OrdersHeld
import Derived.Deep.RegionHeld
import Derived.Deep.RegionHeldLaw
import Derived.Deep.Cut
import Derived.Deep.DeepCutAuto
import Derived.Lib.SlicesS
import Derived.Deep.RegionWith
import Derived.Deep.RegionLaw
import Derived.Laws.AppendOwn
import Derived.OwnWalk
import Derived.Lib.ValidLaws
import Derived.Lib.TrimUEq
import Derived.WalkKit
import Derived.ProofKit
import Derived.Laws.IdiomStrings
import Derived.Laws.Externs
import Derived.Lib.BufferKept
import Derived.Lib.FrozenHead2
import Derived.Lib.AppendIntMem
import Derived.Shelf.RegionOpenPlain
import Derived.Lib.ItoaMem
import Derived.Lib.ItoaLen
import Derived.Test.YtknijddlacmelaaDoorM10
namespace Go.Proofs.YtknijddlacmelaaDoor
set_option linter.unusedVariables false
open Go.Shelf Go.RowKit

/-- what Path answers: the pieces, if there are at most 8 and each is a name that isn't reserved -/
def PathAns (s : ByteArray) (e : Ending) (w' : World) : Prop :=
  if (pieces s).length ≤ 8 ∧ allPlain s = true then ∃ g c, e = .returned (.tuple #[.slice (some ⟨g, 0, none⟩) (pieces s).length c, .bool true]) ∧ HeldS w' g (pieces s) ∧ (pieces s).length ≤ c
  else e = .returned (.tuple #[.slice none 0 0, .bool false])
theorem pathAns_no {s : ByteArray} {e : Ending} {w' : World} (h : ¬ ((pieces s).length ≤ 8 ∧ allPlain s = true)) (he : e = .returned (.tuple #[.slice none 0 0, .bool false])) : PathAns s e w' := by
  unfold PathAns; rw [if_neg h]; exact he

set_option maxHeartbeats 4000000 in
theorem path_any (s : ByteArray) (w : World) (hs : s.size ≤ 200000000) :
    Calls Tryd.prog 44 #[.string s] w fun e w' => PathAns s e w' ∧ Below w.heap.size w w' := by
  have hSp := splitN_any s w (by omega)
  have hpl := pieces_len s
  by_cases h8 : (pieces s).length ≤ 8
  · rw [splitB_few s h8] at hSp
    have hN : (pieces s).length ≤ min 9 (s.size + 1) := by omega
    have hN2 : min 9 (s.size + 1) ≤ 9 := by omega
    have HAns : Hid (∀ e w', (allPlain s = true → ∃ g c, e = .returned (.tuple #[.slice (some ⟨g, 0, none⟩) (pieces s).length c, .bool true]) ∧ HeldS w' g (pieces s) ∧ (pieces s).length ≤ c) → (allPlain s = false → e = .returned (.tuple #[.slice none 0 0, .bool false])) → PathAns s e w') := by
      intro e w' h1 h2
      unfold PathAns
      by_cases hp : allPlain s = true
      · rw [if_pos ⟨h8, hp⟩]; exact h1 hp
      · rw [if_neg (fun h => hp h.2)]; exact h2 (by simpa using hp)
    have HAP : Hid (allPlain s = (pieces s).all isPlain) := rfl
    have HSZ : Hid (∀ x ∈ pieces s, x.size ≤ 200000000) := fun x hx => by have := piece_size hx; omega
    generalize min 9 (s.size + 1) = N at *
    generalize pieces s = xs at *
    generalize allPlain s = AP at *
    generalize PathAns s = PA at *
    obtain ⟨n, hn⟩ : ∃ n, xs.length = n := ⟨_, rfl⟩
    have HN : Hid (xs.length = n) := hn
    rw [hn] at hSp h8 hN hpl HAns
    clear hn
    go_enter Tryd.func44, Tryd.ntmps44
    go_wp2_with fail
    refine hSp.mono ?_
    rintro e w1 ⟨rfl, hw1⟩
    have hg1 : w1.heap[w.heap.size]? = some (.cells (Lib.cellsOf xs N) 9 (0, 0)) := by rw [hw1]; exact alloc_heap _ _
    have hb1 : Below w.heap.size w w1 := by rw [hw1]; exact (Below.refl _ w).alloc (Nat.le_refl _) _
    clear hw1 hSp
    have h8' : ¬ (8 : Int) < (n : Int) := by omega
    go_wp2_with fail
    go_loopw [14] (fun i wr => ∃ k : Nat, k ≤ n ∧ i = .int .i64 k ∧ wr.heap[w.heap.size]? = some (.cells (Lib.cellsOf xs N) 9 (0, 0)) ∧ Below w.heap.size w wr ∧ xs.all isPlain = (xs.drop k).all isPlain) (fun i _ => n - (intOf i).toNat)
    case atStart => exact ⟨0, by omega, rfl, hg1, hb1, rfl⟩
    case round =>
      clear hg1 hb1
      obtain ⟨k, hk, rfl, hg, hbw, hall⟩ := hrel
      have HA : Hid (xs.all isPlain = (xs.drop k).all isPlain) := hall
      clear hall
      by_cases hlt : k < n
      · obtain ⟨z, hz⟩ : ∃ z, xs[k]? = some z := ⟨_, List.getElem?_eq_getElem (by have := HN.out; omega)⟩
        have hcell : wr.cell? ⟨w.heap.size, k, none⟩ = some (.string z) := by
          simp only [World.cell?, hg]; exact cellsOf_get hz
        have hzs : z.size ≤ 200000000 := HSZ.out z (List.mem_of_getElem? hz)
        have HAP2 : Hid (xs.all isPlain = ((nameOf (runes z) && !resOf z.toList) && (xs.drop (k + 1)).all isPlain)) := by
          refine (?_ : _ = _)
          rw [HA.out, all_dropS hz, plain_of]
        have HZ : Hid ((Lib.cellsOf xs N)[k]? = some (.string z)) := cellsOf_get hz
        have hNm := fun W => name_any z W (by omega)
        have hRs := fun W => reservedD_any z W
        have hCl := fun W => cloneB_any z W (by omega)
        clear HA hz
        generalize nameOf (runes z) = NZ at *
        generalize resOf z.toList = RZ at *
        have HG : Hid (wr.heap[w.heap.size]? = some (.cells (Lib.cellsOf xs N) 9 (0, 0))) := hg
        have hglt : w.heap.size < wr.heap.size := blk_lt hg
        clear hg
        cases NZ with
        | false =>
          have HX : Hid (AP = false) := by
            refine (?_ : AP = false)
            rw [HAP.out, HAP2.out]; simp
          go_wp2_with fail
          refine (hNm _).mono ?_
          rintro e w2 ⟨rfl, hb2⟩
          clear hNm hRs hCl
          go_wp2_with fail
          go_ret2
          refine ⟨HAns.out _ _ (fun h => by rw [HX.out] at h; simp at h) (fun _ => rfl), hbw.trans (hb2.mono hbw.size)⟩
        | true =>
          cases RZ with
          | true =>
            have HX : Hid (AP = false) := by
              refine (?_ : AP = false)
              rw [HAP.out, HAP2.out]; simp
            go_wp2_with fail
            refine (hNm _).mono ?_
            rintro e w2 ⟨rfl, hb2⟩
            go_wp2_with fail
            refine (hRs _).mono ?_
            rintro e w3 ⟨rfl, rfl⟩
            clear hNm hRs hCl
            go_wp2_with fail
            go_ret2
            refine ⟨HAns.out _ _ (fun h => by rw [HX.out] at h; simp at h) (fun _ => rfl), hbw.trans (hb2.mono hbw.size)⟩
          | false =>
            have HX : Hid (xs.all isPlain = (xs.drop (k + 1)).all isPlain) := by
              refine (?_ : _ = _)
              rw [HAP2.out]; simp
            go_wp2_with fail
            refine (hNm _).mono ?_
            rintro e w2 ⟨rfl, hb2⟩
            have hb2' := hbw.trans (hb2.mono hbw.size)
            have hg2 : w2.heap[w.heap.size]? = some (.cells (Lib.cellsOf xs N) 9 (0, 0)) := by rw [hb2.block _ hglt]; exact HG.out
            clear hb2
            go_wp2_with fail
            refine (hRs _).mono ?_
            rintro e w3 ⟨rfl, rfl⟩
            go_wp2_with fail
            refine (hCl _).mono ?_
            rintro e w4 ⟨rfl, hb4⟩
            have hg4 : w4.heap[w.heap.size]? = some (.cells (Lib.cellsOf xs N) 9 (0, 0)) := by rw [hb4.block _ (blk_lt hg2)]; exact hg2
            have hb4' := hb2'.trans (hb4.mono hb2'.size)
            have hc4 : w4.cell? ⟨w.heap.size, k, none⟩ = some (.string z) := by simp only [World.cell?, hg4]; exact HZ.out
            have hf4 : w4.frozen? ⟨w.heap.size, k, none⟩ = false := Lib.frozen_of_heap hg4 k
            have hg5 := setSame w4 w.heap.size k _ _ _ hg4 HZ.out
            have hb5 := hb4'.setCell (p := ⟨w.heap.size, k, none⟩) (Nat.le_refl _) (.string z)
            have HG5 : Hid ((w4.setCell ⟨w.heap.size, k, none⟩ (.string z)).heap[w.heap.size]? = some (.cells (Lib.cellsOf xs N) 9 (0, 0))) := hg5
            clear hNm hRs hCl hb4 hg4 hg2 hg5 hb4' hb2'
            go_wp2_with fail
            go_roundw
            case rel => exact ⟨k + 1, by omega, by go_num, HG5.out, hb5, HX.out⟩
            case measure => simp [intOf]; omega
      · have HX : Hid (AP = true) := by
          refine (?_ : AP = true)
          rw [HAP.out, HA.out, List.drop_eq_nil_of_le (by have := HN.out; omega)]; rfl
        have HH : Hid (HeldS wr w.heap.size xs) := by
          intro j x hj
          simp only [World.cell?, hg]; exact cellsOf_get hj
        clear HA
        go_wp2_with fail
        go_ret2
        refine ⟨HAns.out _ _ (fun _ => ⟨_, _, rfl, HH.out, hN⟩) (fun h => by rw [HX.out] at h; simp at h), hbw⟩
  · have hm := splitB_many s (by omega)
    generalize (Lib.splitB ⟨#[46]⟩ 0 (min 9 (s.size + 1) - 1) s) = ys at *
    have hm' : (8 : Int) < (ys.length : Int) := by omega
    have HP : Hid (∀ e w', e = .returned (.tuple #[.slice none 0 0, .bool false]) → PathAns s e w') := fun e w' he => pathAns_no (fun h => h8 h.1) he
    clear hpl
    go_enter Tryd.func44, Tryd.ntmps44
    go_wp2_with fail
    refine hSp.mono ?_
    rintro e w1 ⟨rfl, hw1⟩
    have hb1 : Below w.heap.size w w1 := by rw [hw1]; exact (Below.refl _ w).alloc (Nat.le_refl _) _
    clear hw1 hSp
    go_wp2_with fail
    go_ret2
    exact ⟨HP.out _ _ rfl, hb1⟩
theorem pathOK_pieces (s : ByteArray) : pathOK s.data.toList = (decide ((pieces s).length ≤ 8) && allPlain s) := by
  unfold pathOK allPlain pieces
  rw [List.length_map, List.all_map]
  congr 1
  congr 1
  funext x
  show plainL x = isPlain ⟨x.toArray⟩
  unfold plainL isPlain
  rw [ByteArray.toList_eq]
end Go.Proofs.YtknijddlacmelaaDoor
namespace Go.Proofs.YtknijddlacmelaaDoor
open Go.Shelf
def lays196_ren : Go.Shelf.Ren := ⟨fun | 196 => 50 | 259 => 57 | n => n, fun | 9 => 9 | 4 => 4 | 3 => 3 | 5 => 5 | 12 => 12 | 119 => 132 | 0 => 0 | 46 => 136 | 139 => 135 | 138 => 134 | 53 => 22 | n => n, fun | 3 => 0 | 4 => 1 | n => n⟩
theorem lays196 : Go.Proofs.Lays.n196 Tryd.prog lays196_ren := {
  mixed := by kernel_rfl
  f196 := Tryd.func50.trans (congrArg some (by kernel_rfl))
  f259 := Tryd.func57.trans (congrArg some (by kernel_rfl))
  t0 := Tryd.underlying0
  a0 := Tryd.isAgg0
  z0 := Tryd.sizeOf0
  v0 := Tryd.zeroValue0
  t3 := Tryd.underlying3
  a3 := Tryd.isAgg3
  z3 := Tryd.sizeOf3
  v3 := Tryd.zeroValue3
  t4 := Tryd.underlying4
  a4 := Tryd.isAgg4
  z4 := Tryd.sizeOf4
  v4 := Tryd.zeroValue4
  t5 := Tryd.underlying5
  a5 := Tryd.isAgg5
  z5 := Tryd.sizeOf5
  v5 := Tryd.zeroValue5
  t9 := Tryd.underlying9
  a9 := Tryd.isAgg9
  z9 := Tryd.sizeOf9
  v9 := Tryd.zeroValue9
  t12 := Tryd.underlying12
  a12 := Tryd.isAgg12
  z12 := Tryd.sizeOf12
  v12 := Tryd.zeroValue12
  t46 := Tryd.underlying136
  a46 := Tryd.isAgg136
  z46 := Tryd.sizeOf136
  v46 := Tryd.zeroValue136
  t53 := Tryd.underlying22
  a53 := Tryd.isAgg22
  z53 := Tryd.sizeOf22
  v53 := Tryd.zeroValue22
  t119 := Tryd.underlying132
  a119 := Tryd.isAgg132
  z119 := Tryd.sizeOf132
  t138 := Tryd.underlying134
  a138 := Tryd.isAgg134
  z138 := Tryd.sizeOf134
  v138 := Tryd.zeroValue134
  t139 := Tryd.underlying135
  a139 := Tryd.isAgg135
  z139 := Tryd.sizeOf135
  v139 := Tryd.zeroValue135
  g3 := by kernel_rfl
  g4 := by kernel_rfl }
open Go.RowKit Go.Lib in
theorem utf8_ValidString (s : ByteArray) (w : World) (hs : s.size ≤ 9223372036854775807) (hT : Lib.Utf8Tabs (lays196_ren.g 3) (lays196_ren.g 4) w) :
    Calls Tryd.prog 50 #[.string s] w fun e w' => e = .returned (.bool (Lib.validD s.data.toList)) ∧ Below w.heap.size w w' := Any.utf8_ValidString lays196 s w hs hT
end Go.Proofs.YtknijddlacmelaaDoor
namespace Go.Proofs.YtknijddlacmelaaDoor
/-- the library's two tables lie in the world -/
def Tabs (w : World) : Prop := Lib.Utf8Tabs (lays196_ren.g 3) (lays196_ren.g 4) w
theorem tabs_below {w w' : World} (h : Tabs w) (hb : RowKit.Below w.heap.size w w') : Tabs w' := Utf8Tabs_below h hb
end Go.Proofs.YtknijddlacmelaaDoor
namespace Go.Proofs.YtknijddlacmelaaDoor
set_option linter.unusedVariables false
open Go.ChangeShapes Go.WideShapes Go.ChangeAt Go.RowKit

section
variable {P : Program} {ops : Array Oper} {Q : Exit → Act → World → Prop} {md : Region.Mode} {S : World → Prop}
theorem T_on (i : Nat) (v : Value) {oi : Oper} {fuel : Nat} {l : Array Bool} {a : Act} {w : World} (hi : ops[i]? = some oi) (hb : (Region.noSelect ops && Region.free md ops l i && (Region.ready md ops l).contains i && Region.wanted oi (yielded ops a.tmps)) = true)
    (hQ : ∀ c a w, Q (.panic c) (a.put oi.dst v) w → Q (.panic c) a w) (hS : S w) (hy : ∀ w, S w → (execOp a.eval oi).run P w = .ok (.value v) w)
    (h : wpAnyH P md ops Q S fuel (l.setIfInBounds i true) (a.put oi.dst v) w) : wpAnyH P md ops Q S (fuel + 1) l a w := by
  simp only [Bool.and_eq_true] at hb
  exact wpAnyH_take hi hb.1.1.1 hb.1.1.2 hb.1.2 hQ (.inl ⟨hb.2, hy⟩) hS h
theorem T_off (i : Nat) {oi : Oper} {fuel : Nat} {l : Array Bool} {a : Act} {w : World} (hi : ops[i]? = some oi) (hb : (Region.noSelect ops && Region.free md ops l i && (Region.ready md ops l).contains i && !Region.wanted oi (yielded ops a.tmps)) = true)
    (hQ : ∀ c a w, Q (.panic c) (a.put oi.dst undef) w → Q (.panic c) a w) (hS : S w)
    (h : wpAnyH P md ops Q S fuel (l.setIfInBounds i true) (a.put oi.dst undef) w) : wpAnyH P md ops Q S (fuel + 1) l a w := by
  simp only [Bool.and_eq_true] at hb
  exact wpAnyH_take hi hb.1.1.1 hb.1.1.2 hb.1.2 hQ (.inr ⟨by simpa using hb.2, rfl⟩) hS h
theorem T_call (i : Nat) {oi : Oper} {fuel : Nat} {l : Array Bool} {a : Act} {w : World} (hr : Region.ready md ops l = [i]) (hi : ops[i]? = some oi)
    (h : ∀ K' : Act → World → Prop, Shut (∀ a w, S w → (S w → wpAnyH P md ops Q S fuel (l.setIfInBounds i true) a w) → K' a w) → if Region.wanted oi (yielded ops a.tmps) = true then Oper.wp P oi a w K' Q else K' (a.put oi.dst undef) w) : wpAnyH P md ops Q S (fuel + 1) l a w :=
  wpAnyH_ready hr (by simp) (AllReadyH.cons hi h AllReadyH.nil)
end
end Go.Proofs.YtknijddlacmelaaDoor
namespace Go.Proofs.YtknijddlacmelaaDoor
set_option linter.unusedVariables false
open Go.ChangeShapes Go.WideShapes Go.ChangeAt Go.RowKit

set_option maxHeartbeats 4000000 in
theorem ownT_any (k : Int) (w : World) : Calls Tryd.prog 60 #[.int .i64 k] w fun e w' => e = .returned (.int .i64 (ownT k)) ∧ w' = w := by
  unfold ownT
  by_cases h1 : k = 1
  · subst h1; go_enter Tryd.func60, Tryd.ntmps60
    go_wp2_with fail
    go_ret
    exact ⟨rfl, rfl⟩
  by_cases h2 : k = 2
  · subst h2; go_enter Tryd.func60, Tryd.ntmps60
    go_wp2_with fail
    go_ret
    exact ⟨rfl, rfl⟩
  by_cases h3 : k = 3
  · subst h3; go_enter Tryd.func60, Tryd.ntmps60
    go_wp2_with fail
    go_ret
    exact ⟨rfl, rfl⟩
  by_cases h4 : k = 4
  · subst h4; go_enter Tryd.func60, Tryd.ntmps60
    go_wp2_with fail
    go_ret
    exact ⟨rfl, rfl⟩
  by_cases h9 : k = 9
  · subst h9; go_enter Tryd.func60, Tryd.ntmps60
    go_wp2_with fail
    go_ret
    exact ⟨rfl, rfl⟩
  by_cases h7 : k = 7
  · subst h7; go_enter Tryd.func60, Tryd.ntmps60
    go_wp2_with fail
    go_ret
    exact ⟨rfl, rfl⟩
  by_cases h8 : k = 8
  · subst h8; go_enter Tryd.func60, Tryd.ntmps60
    go_wp2_with fail
    go_ret
    exact ⟨rfl, rfl⟩
  go_enter Tryd.func60, Tryd.ntmps60
  go_wp2_with fail
  go_ret
  exact ⟨rfl, rfl⟩
end Go.Proofs.YtknijddlacmelaaDoor
namespace Go.Proofs.YtknijddlacmelaaDoor
set_option linter.unusedVariables false
open Go.ChangeShapes Go.WideShapes Go.ChangeAt Go.RowKit

/-- a schema of a size that is looked at -/
def SmM (m : MD) : Prop := m.name.length ≤ 3000 ∧ m.fields.length ≤ 2000 ∧ ∀ f ∈ m.fields, f.name.length ≤ 3000
def SmE (m : ED) : Prop := m.name.length ≤ 3000 ∧ m.values.length ≤ 2000 ∧ ∀ f ∈ m.values, f.name.length ≤ 3000
def SmT (t : TD) : Prop := t.name.length ≤ 3000 ∧ t.service.length ≤ 3000
def SmS (s : SC) : Prop := s.ms.length + s.es.length + s.ts.length ≤ 2000 ∧ (∀ m ∈ s.ms, SmM m) ∧ (∀ m ∈ s.es, SmE m) ∧ ∀ t ∈ s.ts, SmT t
theorem all_next {α : Type} {P : α → Prop} {l : List α} {k : Nat} {y : α} (h : ∀ (j : Nat) (x : α), j < k → l[j]? = some x → P x) (hy : l[k]? = some y) (hp : P y) : ∀ (j : Nat) (x : α), j < k + 1 → l[j]? = some x → P x := fun j x hj hx => by
  by_cases hjk : j = k
  · subst hjk; rw [hy] at hx; cases hx; exact hp
  · exact h j x (by omega) hx
end Go.Proofs.YtknijddlacmelaaDoor
