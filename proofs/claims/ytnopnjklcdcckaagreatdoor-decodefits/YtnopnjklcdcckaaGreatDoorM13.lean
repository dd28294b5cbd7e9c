/-
  The walk over the program's own Path: the names of a path; none, if it is none.
  What the library functions that this program calls answer, as theorems over this translation: each is one application of a theorem of the given library. Nothing is proved of the program itself here.
  The two tables of the library that the row lists, as the word of this seat. Nothing is proved of the program here.
  The walks over the document's own formedEnum and formedMessage.
-/
import Derived.Test.YtnopnjklcdcckaaGreatDoorM5
import Derived.Shelf.Unicode.ValidAny
import Derived.Ground.NamesProg
import Derived.Shelf.LaysM
import Derived.Test.YtnopnjklcdcckaaGreatDoorProg
import Derived.Below
import Derived.Test.YtnopnjklcdcckaaGreatDoorM1
import Derived.Test.YtnopnjklcdcckaaGreatDoorM6
import Derived.Test.YtnopnjklcdcckaaGreatDoorM0
import Derived.BigQuiet
import Derived.OrdersHeld
import Derived.Deep.RegionHeld
import Derived.Deep.RegionHeldLaw
import Derived.Deep.Cut
import Derived.Deep.DeepCutAuto
import Derived.Lib.SlicesS
import Derived.Deep.RegionWith
import Derived.Deep.RegionLaw
import Derived.Laws.AppendOwn
import Derived.OwnWalk
import Derived.Lib.ValidLaws
import Derived.Lib.TrimUEq
import Derived.WalkKit
import Derived.ProofKit
import Derived.Laws.IdiomStrings
import Derived.Laws.Externs
import Derived.Lib.BufferKept
import Derived.Lib.FrozenHead2
import Derived.Lib.AppendIntMem
import Derived.Shelf.RegionOpenPlain
import Derived.Lib.ItoaMem
import Derived.Lib.ItoaLen
namespace Go.Proofs.YtnopnjklcdcckaaGreatDoor
set_option linter.unusedVariables false
open Go.Shelf Go.RowKit

/-- what Path answers: the pieces, if there are at most 8 and each is a name that isn't reserved -/
def PathAns (s : ByteArray) (e : Ending) (w' : World) : Prop :=
  if (pieces s).length ≤ 8 ∧ allPlain s = true then ∃ g c, e = .returned (.tuple #[.slice (some ⟨g, 0, none⟩) (pieces s).length c, .bool true]) ∧ HeldS w' g (pieces s) ∧ (pieces s).length ≤ c
  else e = .returned (.tuple #[.slice none 0 0, .bool false])
theorem pathAns_no {s : ByteArray} {e : Ending} {w' : World} (h : ¬ ((pieces s).length ≤ 8 ∧ allPlain s = true)) (he : e = .returned (.tuple #[.slice none 0 0, .bool false])) : PathAns s e w' := by
  unfold PathAns; rw [if_neg h]; exact he

set_option maxHeartbeats 4000000 in
theorem path_any (s : ByteArray) (w : World) (hs : s.size ≤ 200000000) :
    Calls Tryz.prog 67 #[.string s] w fun e w' => PathAns s e w' ∧ Below w.heap.size w w' := by
  have hSp := splitN_any s w (by omega)
  have hpl := pieces_len s
  by_cases h8 : (pieces s).length ≤ 8
  · rw [splitB_few s h8] at hSp
    have hN : (pieces s).length ≤ min 9 (s.size + 1) := by omega
    have hN2 : min 9 (s.size + 1) ≤ 9 := by omega
    have HAns : Hid (∀ e w', (allPlain s = true → ∃ g c, e = .returned (.tuple #[.slice (some ⟨g, 0, none⟩) (pieces s).length c, .bool true]) ∧ HeldS w' g (pieces s) ∧ (pieces s).length ≤ c) → (allPlain s = false → e = .returned (.tuple #[.slice none 0 0, .bool false])) → PathAns s e w') := by
      intro e w' h1 h2
      unfold PathAns
      by_cases hp : allPlain s = true
      · rw [if_pos ⟨h8, hp⟩]; exact h1 hp
      · rw [if_neg (fun h => hp h.2)]; exact h2 (by simpa using hp)
    have HAP : Hid (allPlain s = (pieces s).all isPlain) := rfl
    have HSZ : Hid (∀ x ∈ pieces s, x.size ≤ 200000000) := fun x hx => by have := piece_size hx; omega
    generalize min 9 (s.size + 1) = N at *
    generalize pieces s = xs at *
    generalize allPlain s = AP at *
    generalize PathAns s = PA at *
    obtain ⟨n, hn⟩ : ∃ n, xs.length = n := ⟨_, rfl⟩
    have HN : Hid (xs.length = n) := hn
    rw [hn] at hSp h8 hN hpl HAns
    clear hn
    go_enter Tryz.func67, Tryz.ntmps67
    go_wp2_with fail
    refine hSp.mono ?_
    rintro e w1 ⟨rfl, hw1⟩
    have hg1 : w1.heap[w.heap.size]? = some (.cells (Lib.cellsOf xs N) 9 (0, 0)) := by rw [hw1]; exact alloc_heap _ _
    have hb1 : Below w.heap.size w w1 := by rw [hw1]; exact (Below.refl _ w).alloc (Nat.le_refl _) _
    clear hw1 hSp
    have h8' : ¬ (8 : Int) < (n : Int) := by omega
    go_wp2_with fail
    go_loopw [14] (fun i wr => ∃ k : Nat, k ≤ n ∧ i = .int .i64 k ∧ wr.heap[w.heap.size]? = some (.cells (Lib.cellsOf xs N) 9 (0, 0)) ∧ Below w.heap.size w wr ∧ xs.all isPlain = (xs.drop k).all isPlain) (fun i _ => n - (intOf i).toNat)
    case atStart => exact ⟨0, by omega, rfl, hg1, hb1, rfl⟩
    case round =>
      clear hg1 hb1
      obtain ⟨k, hk, rfl, hg, hbw, hall⟩ := hrel
      have HA : Hid (xs.all isPlain = (xs.drop k).all isPlain) := hall
      clear hall
      by_cases hlt : k < n
      · obtain ⟨z, hz⟩ : ∃ z, xs[k]? = some z := ⟨_, List.getElem?_eq_getElem (by have := HN.out; omega)⟩
        have hcell : wr.cell? ⟨w.heap.size, k, none⟩ = some (.string z) := by
          simp only [World.cell?, hg]; exact cellsOf_get hz
        have hzs : z.size ≤ 200000000 := HSZ.out z (List.mem_of_getElem? hz)
        have HAP2 : Hid (xs.all isPlain = ((nameOf (runes z) && !resOf z.toList) && (xs.drop (k + 1)).all isPlain)) := by
          refine (?_ : _ = _)
          rw [HA.out, all_dropS hz, plain_of]
        have HZ : Hid ((Lib.cellsOf xs N)[k]? = some (.string z)) := cellsOf_get hz
        have hNm := fun W => name_any z W (by omega)
        have hRs := fun W => reservedD_any z W
        have hCl := fun W => cloneB_any z W (by omega)
        clear HA hz
        generalize nameOf (runes z) = NZ at *
        generalize resOf z.toList = RZ at *
        have HG : Hid (wr.heap[w.heap.size]? = some (.cells (Lib.cellsOf xs N) 9 (0, 0))) := hg
        have hglt : w.heap.size < wr.heap.size := blk_lt hg
        clear hg
        cases NZ with
        | false =>
          have HX : Hid (AP = false) := by
            refine (?_ : AP = false)
            rw [HAP.out, HAP2.out]; simp
          go_wp2_with fail
          refine (hNm _).mono ?_
          rintro e w2 ⟨rfl, hb2⟩
          clear hNm hRs hCl
          go_wp2_with fail
          go_ret2
          refine ⟨HAns.out _ _ (fun h => by rw [HX.out] at h; simp at h) (fun _ => rfl), hbw.trans (hb2.mono hbw.size)⟩
        | true =>
          cases RZ with
          | true =>
            have HX : Hid (AP = false) := by
              refine (?_ : AP = false)
              rw [HAP.out, HAP2.out]; simp
            go_wp2_with fail
            refine (hNm _).mono ?_
            rintro e w2 ⟨rfl, hb2⟩
            go_wp2_with fail
            refine (hRs _).mono ?_
            rintro e w3 ⟨rfl, rfl⟩
            clear hNm hRs hCl
            go_wp2_with fail
            go_ret2
            refine ⟨HAns.out _ _ (fun h => by rw [HX.out] at h; simp at h) (fun _ => rfl), hbw.trans (hb2.mono hbw.size)⟩
          | false =>
            have HX : Hid (xs.all isPlain = (xs.drop (k + 1)).all isPlain) := by
              refine (?_ : _ = _)
              rw [HAP2.out]; simp
            go_wp2_with fail
            refine (hNm _).mono ?_
            rintro e w2 ⟨rfl, hb2⟩
            have hb2' := hbw.trans (hb2.mono hbw.size)
            have hg2 : w2.heap[w.heap.size]? = some (.cells (Lib.cellsOf xs N) 9 (0, 0)) := by rw [hb2.block _ hglt]; exact HG.out
            clear hb2
            go_wp2_with fail
            refine (hRs _).mono ?_
            rintro e w3 ⟨rfl, rfl⟩
            go_wp2_with fail
            refine (hCl _).mono ?_
            rintro e w4 ⟨rfl, hb4⟩
            have hg4 : w4.heap[w.heap.size]? = some (.cells (Lib.cellsOf xs N) 9 (0, 0)) := by rw [hb4.block _ (blk_lt hg2)]; exact hg2
            have hb4' := hb2'.trans (hb4.mono hb2'.size)
            have hc4 : w4.cell? ⟨w.heap.size, k, none⟩ = some (.string z) := by simp only [World.cell?, hg4]; exact HZ.out
            have hf4 : w4.frozen? ⟨w.heap.size, k, none⟩ = false := Lib.frozen_of_heap hg4 k
            have hg5 := setSame w4 w.heap.size k _ _ _ hg4 HZ.out
            have hb5 := hb4'.setCell (p := ⟨w.heap.size, k, none⟩) (Nat.le_refl _) (.string z)
            have HG5 : Hid ((w4.setCell ⟨w.heap.size, k, none⟩ (.string z)).heap[w.heap.size]? = some (.cells (Lib.cellsOf xs N) 9 (0, 0))) := hg5
            clear hNm hRs hCl hb4 hg4 hg2 hg5 hb4' hb2'
            go_wp2_with fail
            go_roundw
            case rel => exact ⟨k + 1, by omega, by go_num, HG5.out, hb5, HX.out⟩
            case measure => simp [intOf]; omega
      · have HX : Hid (AP = true) := by
          refine (?_ : AP = true)
          rw [HAP.out, HA.out, List.drop_eq_nil_of_le (by have := HN.out; omega)]; rfl
        have HH : Hid (HeldS wr w.heap.size xs) := by
          intro j x hj
          simp only [World.cell?, hg]; exact cellsOf_get hj
        clear HA
        go_wp2_with fail
        go_ret2
        refine ⟨HAns.out _ _ (fun _ => ⟨_, _, rfl, HH.out, hN⟩) (fun h => by rw [HX.out] at h; simp at h), hbw⟩
  · have hm := splitB_many s (by omega)
    generalize (Lib.splitB ⟨#[46]⟩ 0 (min 9 (s.size + 1) - 1) s) = ys at *
    have hm' : (8 : Int) < (ys.length : Int) := by omega
    have HP : Hid (∀ e w', e = .returned (.tuple #[.slice none 0 0, .bool false]) → PathAns s e w') := fun e w' he => pathAns_no (fun h => h8 h.1) he
    clear hpl
    go_enter Tryz.func67, Tryz.ntmps67
    go_wp2_with fail
    refine hSp.mono ?_
    rintro e w1 ⟨rfl, hw1⟩
    have hb1 : Below w.heap.size w w1 := by rw [hw1]; exact (Below.refl _ w).alloc (Nat.le_refl _) _
    clear hw1 hSp
    go_wp2_with fail
    go_ret2
    exact ⟨HP.out _ _ rfl, hb1⟩
theorem pathOK_pieces (s : ByteArray) : pathOK s.data.toList = (decide ((pieces s).length ≤ 8) && allPlain s) := by
  unfold pathOK allPlain pieces
  rw [List.length_map, List.all_map]
  congr 1
  congr 1
  funext x
  show plainL x = isPlain ⟨x.toArray⟩
  unfold plainL isPlain
  rw [ByteArray.toList_eq]
end Go.Proofs.YtnopnjklcdcckaaGreatDoor
namespace Go.Proofs.YtnopnjklcdcckaaGreatDoor
open Go.Shelf
def lays196_ren : Go.Shelf.Ren := ⟨fun | 196 => 80 | 259 => 92 | n => n, fun | 9 => 9 | 4 => 4 | 3 => 3 | 5 => 5 | 12 => 12 | 119 => 168 | 0 => 0 | 46 => 172 | 139 => 171 | 138 => 170 | 53 => 41 | n => n, fun | 3 => 0 | 4 => 1 | n => n⟩
theorem lays196 : Go.Proofs.Lays.n196 Tryz.prog lays196_ren := {
  mixed := by kernel_rfl
  f196 := Tryz.func80.trans (congrArg some (by kernel_rfl))
  f259 := Tryz.func92.trans (congrArg some (by kernel_rfl))
  t0 := Tryz.underlying0
  a0 := Tryz.isAgg0
  z0 := Tryz.sizeOf0
  v0 := Tryz.zeroValue0
  t3 := Tryz.underlying3
  a3 := Tryz.isAgg3
  z3 := Tryz.sizeOf3
  v3 := Tryz.zeroValue3
  t4 := Tryz.underlying4
  a4 := Tryz.isAgg4
  z4 := Tryz.sizeOf4
  v4 := Tryz.zeroValue4
  t5 := Tryz.underlying5
  a5 := Tryz.isAgg5
  z5 := Tryz.sizeOf5
  v5 := Tryz.zeroValue5
  t9 := Tryz.underlying9
  a9 := Tryz.isAgg9
  z9 := Tryz.sizeOf9
  v9 := Tryz.zeroValue9
  t12 := Tryz.underlying12
  a12 := Tryz.isAgg12
  z12 := Tryz.sizeOf12
  v12 := Tryz.zeroValue12
  t46 := Tryz.underlying172
  a46 := Tryz.isAgg172
  z46 := Tryz.sizeOf172
  v46 := Tryz.zeroValue172
  t53 := Tryz.underlying41
  a53 := Tryz.isAgg41
  z53 := Tryz.sizeOf41
  v53 := Tryz.zeroValue41
  t119 := Tryz.underlying168
  a119 := Tryz.isAgg168
  z119 := Tryz.sizeOf168
  t138 := Tryz.underlying170
  a138 := Tryz.isAgg170
  z138 := Tryz.sizeOf170
  v138 := Tryz.zeroValue170
  t139 := Tryz.underlying171
  a139 := Tryz.isAgg171
  z139 := Tryz.sizeOf171
  v139 := Tryz.zeroValue171
  g3 := by kernel_rfl
  g4 := by kernel_rfl }
open Go.RowKit Go.Lib in
theorem utf8_ValidString (s : ByteArray) (w : World) (hs : s.size ≤ 9223372036854775807) (hT : Lib.Utf8Tabs (lays196_ren.g 3) (lays196_ren.g 4) w) :
    Calls Tryz.prog 80 #[.string s] w fun e w' => e = .returned (.bool (Lib.validD s.data.toList)) ∧ Below w.heap.size w w' := Any.utf8_ValidString lays196 s w hs hT
end Go.Proofs.YtnopnjklcdcckaaGreatDoor
namespace Go.Proofs.YtnopnjklcdcckaaGreatDoor
/-- the library's two tables lie in the world -/
def Tabs (w : World) : Prop := Lib.Utf8Tabs (lays196_ren.g 3) (lays196_ren.g 4) w
theorem tabs_below {w w' : World} (h : Tabs w) (hb : RowKit.Below w.heap.size w w') : Tabs w' := Utf8Tabs_below h hb
end Go.Proofs.YtnopnjklcdcckaaGreatDoor
namespace Go.Proofs.YtnopnjklcdcckaaGreatDoor
set_option linter.unusedVariables false
open Go.ChangeShapes Go.WideShapes Go.ChangeAt Go.RowKit

section
variable {P : Program} {ops : Array Oper} {Q : Exit → Act → World → Prop} {md : Region.Mode} {S : World → Prop}
theorem T_on (i : Nat) (v : Value) {oi : Oper} {fuel : Nat} {l : Array Bool} {a : Act} {w : World} (hi : ops[i]? = some oi) (hb : (Region.noSelect ops && Region.free md ops l i && (Region.ready md ops l).contains i && Region.wanted oi (yielded ops a.tmps)) = true)
    (hQ : ∀ c a w, Q (.panic c) (a.put oi.dst v) w → Q (.panic c) a w) (hS : S w) (hy : ∀ w, S w → (execOp a.eval oi).run P w = .ok (.value v) w)
    (h : wpAnyH P md ops Q S fuel (l.setIfInBounds i true) (a.put oi.dst v) w) : wpAnyH P md ops Q S (fuel + 1) l a w := by
  simp only [Bool.and_eq_true] at hb
  exact wpAnyH_take hi hb.1.1.1 hb.1.1.2 hb.1.2 hQ (.inl ⟨hb.2, hy⟩) hS h
theorem T_call (i : Nat) {oi : Oper} {fuel : Nat} {l : Array Bool} {a : Act} {w : World} (hr : Region.ready md ops l = [i]) (hi : ops[i]? = some oi)
    (h : ∀ K' : Act → World → Prop, Shut (∀ a w, S w → (S w → wpAnyH P md ops Q S fuel (l.setIfInBounds i true) a w) → K' a w) → if Region.wanted oi (yielded ops a.tmps) = true then Oper.wp P oi a w K' Q else K' (a.put oi.dst undef) w) : wpAnyH P md ops Q S (fuel + 1) l a w :=
  wpAnyH_ready hr (by simp) (AllReadyH.cons hi h AllReadyH.nil)
end
end Go.Proofs.YtnopnjklcdcckaaGreatDoor
