/-
  The walk over the program's own Path: the names of a path; none, if it is none.
  What the library functions that this program calls answer, as theorems over this translation: each is one application of a theorem of the given library. Nothing is proved of the program itself here.
  The walk over the document's own Name: whether a text is a name.
  The walks over the program's own writer: line and word; what writing leaves.
  What is read of words has texts that are short enough to be copied. Facts of the plain functions: nothing is proved of the program here.
-/
import Derived.Test.YtpojeinddnjpfaaGreatDoorM18
import Derived.Shelf.Unicode.DecodeAny
import Derived.Shelf.Unicode.ValidAny
import Derived.Ground.NamesProg
import Derived.Shelf.LaysM
import Derived.Test.YtpojeinddnjpfaaGreatDoorProg
import Derived.Test.YtpojeinddnjpfaaGreatDoorM0
import Derived.WalkKit
import Derived.ProofKit
import Derived.Laws.IdiomStrings
import Derived.Below
import Derived.Test.YtpojeinddnjpfaaGreatDoorM2
import Derived.Test.YtpojeinddnjpfaaGreatDoorM4
import Derived.Test.YtpojeinddnjpfaaGreatDoorM15
import Derived.Deep.RegionHeldLaw
import Derived.Laws.Externs
import Derived.Lib.BufferKept
import Derived.Lib.FrozenHead2
import Derived.Lib.AppendIntMem
import Derived.Shelf.RegionOpenPlain
import Derived.Test.YtpojeinddnjpfaaGreatDoorM16
import Derived.Test.YtpojeinddnjpfaaGreatDoorM1
namespace Go.Proofs.YtpojeinddnjpfaaGreatDoor
set_option linter.unusedVariables false
open Go.Shelf Go.RowKit

def PathAns (s : ByteArray) (e : Ending) (w' : World) : Prop :=
 if (pieces s).length ≤ 8 ∧ allPlain s = true then ∃ g c, e = .returned (.tuple #[.slice (some ⟨g, 0, none⟩) (pieces s).length c, .bool true]) ∧ HeldS w' g (pieces s) ∧ (pieces s).length ≤ c
 else e = .returned (.tuple #[.slice none 0 0, .bool false])
theorem pathAns_no {s : ByteArray} {e : Ending} {w' : World} (h : ¬ ((pieces s).length ≤ 8 ∧ allPlain s = true)) (he : e = .returned (.tuple #[.slice none 0 0, .bool false])) : PathAns s e w' := by
 unfold PathAns; rw [if_neg h]; exact he

set_option maxHeartbeats 4000000 in
theorem path_any (s : ByteArray) (w : World) (hs : s.size ≤ 200000000) :
  Calls Tryz.prog 130 #[.string s] w fun e w' => PathAns s e w' ∧ Below w.heap.size w w' := by
 have hSp := splitN_any s w (by omega)
 have hpl := pieces_len s
 by_cases h8 : (pieces s).length ≤ 8
 ·rw [splitB_few s h8] at hSp
  have hN : (pieces s).length ≤ min 9 (s.size + 1) := by omega
  have hN2 : min 9 (s.size + 1) ≤ 9 := by omega
  have HAns : Hid (∀ e w', (allPlain s = true → ∃ g c, e = .returned (.tuple #[.slice (some ⟨g, 0, none⟩) (pieces s).length c, .bool true]) ∧ HeldS w' g (pieces s) ∧ (pieces s).length ≤ c) → (allPlain s = false → e = .returned (.tuple #[.slice none 0 0, .bool false])) → PathAns s e w') := by
   intro e w' h1 h2
   unfold PathAns
   by_cases hp : allPlain s = true
   ·rw [if_pos ⟨h8, hp⟩]; exact h1 hp
   ·rw [if_neg (fun h => hp h.2)]; exact h2 (by simpa using hp)
  have HAP : Hid (allPlain s = (pieces s).all isPlain) := rfl
  have HSZ : Hid (∀ x ∈ pieces s, x.size ≤ 200000000) := fun x hx => by have := piece_size hx; omega
  generalize min 9 (s.size + 1) = N at *
  generalize pieces s = xs at *
  generalize allPlain s = AP at *
  generalize PathAns s = PA at *
  obtain ⟨n, hn⟩ : ∃ n, xs.length = n := ⟨_, rfl⟩
  have HN : Hid (xs.length = n) := hn
  rw [hn] at hSp h8 hN hpl HAns
  clear hn
  go_enter Tryz.func130, Tryz.ntmps130
  go_wp2_with fail
  refine hSp.mono ?_
  rintro e w1 ⟨rfl, hw1⟩
  have hg1 : w1.heap[w.heap.size]? = some (.cells (Lib.cellsOf xs N) 9 (0, 0)) := by rw [hw1]; exact alloc_heap _ _
  have hb1 : Below w.heap.size w w1 := by rw [hw1]; exact (Below.refl _ w).alloc (Nat.le_refl _) _
  clear hw1 hSp
  have h8' : ¬ (8 : Int) < (n : Int) := by omega
  go_wp2_with fail
  go_loopw [14] (fun i wr => ∃ k : Nat, k ≤ n ∧ i = .int .i64 k ∧ wr.heap[w.heap.size]? = some (.cells (Lib.cellsOf xs N) 9 (0, 0)) ∧ Below w.heap.size w wr ∧ xs.all isPlain = (xs.drop k).all isPlain) (fun i _ => n - (intOf i).toNat)
  case atStart => exact ⟨0, by omega, rfl, hg1, hb1, rfl⟩
  case round =>
   clear hg1 hb1
   obtain ⟨k, hk, rfl, hg, hbw, hall⟩ := hrel
   have HA : Hid (xs.all isPlain = (xs.drop k).all isPlain) := hall
   clear hall
   by_cases hlt : k < n
   ·obtain ⟨z, hz⟩ : ∃ z, xs[k]? = some z := ⟨_, List.getElem?_eq_getElem (by have := HN.out; omega)⟩
    have hcell : wr.cell? ⟨w.heap.size, k, none⟩ = some (.string z) := by
     simp only [World.cell?, hg]; exact cellsOf_get hz
    have hzs : z.size ≤ 200000000 := HSZ.out z (List.mem_of_getElem? hz)
    have HAP2 : Hid (xs.all isPlain = ((nameOf (runes z) && !resOf z.toList) && (xs.drop (k + 1)).all isPlain)) := by
     refine (?_ : _ = _)
     rw [HA.out, all_dropS hz, plain_of]
    have HZ : Hid ((Lib.cellsOf xs N)[k]? = some (.string z)) := cellsOf_get hz
    have hNm := fun W => name_any z W (by omega)
    have hRs := fun W => reservedD_any z W
    have hCl := fun W => cloneB_any z W (by omega)
    clear HA hz
    generalize nameOf (runes z) = NZ at *
    generalize resOf z.toList = RZ at *
    have HG : Hid (wr.heap[w.heap.size]? = some (.cells (Lib.cellsOf xs N) 9 (0, 0))) := hg
    have hglt : w.heap.size < wr.heap.size := blk_lt hg
    clear hg
    cases NZ with
    | false =>
     have HX : Hid (AP = false) := by
      refine (?_ : AP = false)
      rw [HAP.out, HAP2.out]; simp
     go_wp2_with fail
     refine (hNm _).mono ?_
     rintro e w2 ⟨rfl, hb2⟩
     clear hNm hRs hCl
     go_wp2_with fail
     go_ret2
     refine ⟨HAns.out _ _ (fun h => by rw [HX.out] at h; simp at h) (fun _ => rfl), hbw.trans (hb2.mono hbw.size)⟩
    | true =>
     cases RZ with
     | true =>
      have HX : Hid (AP = false) := by
       refine (?_ : AP = false)
       rw [HAP.out, HAP2.out]; simp
      go_wp2_with fail
      refine (hNm _).mono ?_
      rintro e w2 ⟨rfl, hb2⟩
      go_wp2_with fail
      refine (hRs _).mono ?_
      rintro e w3 ⟨rfl, rfl⟩
      clear hNm hRs hCl
      go_wp2_with fail
      go_ret2
      refine ⟨HAns.out _ _ (fun h => by rw [HX.out] at h; simp at h) (fun _ => rfl), hbw.trans (hb2.mono hbw.size)⟩
     | false =>
      have HX : Hid (xs.all isPlain = (xs.drop (k + 1)).all isPlain) := by
       refine (?_ : _ = _)
       rw [HAP2.out]; simp
      go_wp2_with fail
      refine (hNm _).mono ?_
      rintro e w2 ⟨rfl, hb2⟩
      have hb2' := hbw.trans (hb2.mono hbw.size)
      have hg2 : w2.heap[w.heap.size]? = some (.cells (Lib.cellsOf xs N) 9 (0, 0)) := by rw [hb2.block _ hglt]; exact HG.out
      clear hb2
      go_wp2_with fail
      refine (hRs _).mono ?_
      rintro e w3 ⟨rfl, rfl⟩
      go_wp2_with fail
      refine (hCl _).mono ?_
      rintro e w4 ⟨rfl, hb4⟩
      have hg4 : w4.heap[w.heap.size]? = some (.cells (Lib.cellsOf xs N) 9 (0, 0)) := by rw [hb4.block _ (blk_lt hg2)]; exact hg2
      have hb4' := hb2'.trans (hb4.mono hb2'.size)
      have hc4 : w4.cell? ⟨w.heap.size, k, none⟩ = some (.string z) := by simp only [World.cell?, hg4]; exact HZ.out
      have hf4 : w4.frozen? ⟨w.heap.size, k, none⟩ = false := Lib.frozen_of_heap hg4 k
      have hg5 := setSame w4 w.heap.size k _ _ _ hg4 HZ.out
      have hb5 := hb4'.setCell (p := ⟨w.heap.size, k, none⟩) (Nat.le_refl _) (.string z)
      have HG5 : Hid ((w4.setCell ⟨w.heap.size, k, none⟩ (.string z)).heap[w.heap.size]? = some (.cells (Lib.cellsOf xs N) 9 (0, 0))) := hg5
      clear hNm hRs hCl hb4 hg4 hg2 hg5 hb4' hb2'
      go_wp2_with fail
      go_roundw
      case rel => exact ⟨k + 1, by omega, by go_num, HG5.out, hb5, HX.out⟩
      case measure => simp [intOf]; omega
   ·have HX : Hid (AP = true) := by
     refine (?_ : AP = true)
     rw [HAP.out, HA.out, List.drop_eq_nil_of_le (by have := HN.out; omega)]; rfl
    have HH : Hid (HeldS wr w.heap.size xs) := by
     intro j x hj
     simp only [World.cell?, hg]; exact cellsOf_get hj
    clear HA
    go_wp2_with fail
    go_ret2
    refine ⟨HAns.out _ _ (fun _ => ⟨_, _, rfl, HH.out, hN⟩) (fun h => by rw [HX.out] at h; simp at h), hbw⟩
 ·have hm := splitB_many s (by omega)
  generalize (Lib.splitB ⟨#[46]⟩ 0 (min 9 (s.size + 1) - 1) s) = ys at *
  have hm' : (8 : Int) < (ys.length : Int) := by omega
  have HP : Hid (∀ e w', e = .returned (.tuple #[.slice none 0 0, .bool false]) → PathAns s e w') := fun e w' he => pathAns_no (fun h => h8 h.1) he
  clear hpl
  go_enter Tryz.func130, Tryz.ntmps130
  go_wp2_with fail
  refine hSp.mono ?_
  rintro e w1 ⟨rfl, hw1⟩
  have hb1 : Below w.heap.size w w1 := by rw [hw1]; exact (Below.refl _ w).alloc (Nat.le_refl _) _
  clear hw1 hSp
  go_wp2_with fail
  go_ret2
  exact ⟨HP.out _ _ rfl, hb1⟩
theorem pathOK_pieces (s : ByteArray) : pathOK s.data.toList = (decide ((pieces s).length ≤ 8) && allPlain s) := by
 unfold pathOK allPlain pieces
 rw [List.length_map, List.all_map]
 congr 1
 congr 1
 funext x
 show plainL x = isPlain ⟨x.toArray⟩
 unfold plainL isPlain
 rw [ByteArray.toList_eq]
set_option maxHeartbeats 1000000 in
theorem pathP_any (s : ByteArray) (w : World) (hs : s.size ≤ 200000000) :
  Calls Tryz.prog 172 #[.string s] w fun e w' => e = .returned (.bool (pathOK s.data.toList)) ∧ Below w.heap.size w w' := by
 have hP := path_any s w hs
 have hq := pathOK_pieces s
 obtain ⟨R, hR⟩ : ∃ R, pathOK s.data.toList = R := ⟨_, rfl⟩
 rw [hR] at hq ⊢
 have HQ : Hid (∀ e w', PathAns s e w' → ∃ ad n c, e = .returned (.tuple #[.slice ad n c, .bool R])) := by
  intro e w' h
  unfold PathAns at h
  split at h
  ·rename_i hc
   obtain ⟨g, c, he, _⟩ := h
   have : R = true := by rw [hq, hc.2, decide_eq_true hc.1]; rfl
   rw [this]
   exact ⟨_, _, _, he⟩
  ·rename_i hc
   have : R = false := by
    rw [hq]
    by_cases h8 : (pieces s).length ≤ 8
    ·have : allPlain s = false := by
      cases hz : allPlain s with
      | false => rfl
      | true => exact absurd ⟨h8, hz⟩ hc
     rw [this]; simp
    ·rw [decide_eq_false h8]; rfl
   rw [this]
   exact ⟨_, _, _, h⟩
 clear hq hR
 go_enter Tryz.func172, Tryz.ntmps172
 go_wp2_with fail
 refine hP.mono ?_
 rintro e w1 ⟨hA, hb⟩
 obtain ⟨ad, n, c, rfl⟩ := HQ.out e w1 hA
 clear hP hA HQ
 go_wp2_with fail
 go_ret
 exact ⟨rfl, hb⟩
end Go.Proofs.YtpojeinddnjpfaaGreatDoor
namespace Go.Proofs.YtpojeinddnjpfaaGreatDoor
open Go.Shelf
def lays197_ren : Go.Shelf.Ren := ⟨fun | 197 => 165 | 260 => 196 | n => n, fun | 9 => 9 | 21 => 21 | 3 => 3 | 4 => 4 | 5 => 5 | 105 => 198 | 119 => 265 | 0 => 0 | 46 => 223 | 139 => 268 | 138 => 267 | n => n, fun | 3 => 1 | 4 => 2 | n => n⟩
theorem lays197 : Go.Proofs.Lays.n197 Tryz.prog lays197_ren := {
  mixed := by kernel_rfl
  f197 := Tryz.func165.trans (congrArg some (by kernel_rfl))
  f260 := Tryz.func196.trans (congrArg some (by kernel_rfl))
  t0 := Tryz.underlying0
  a0 := Tryz.isAgg0
  z0 := Tryz.sizeOf0
  v0 := Tryz.zeroValue0
  t3 := Tryz.underlying3
  a3 := Tryz.isAgg3
  z3 := Tryz.sizeOf3
  v3 := Tryz.zeroValue3
  t4 := Tryz.underlying4
  a4 := Tryz.isAgg4
  z4 := Tryz.sizeOf4
  v4 := Tryz.zeroValue4
  t5 := Tryz.underlying5
  a5 := Tryz.isAgg5
  z5 := Tryz.sizeOf5
  v5 := Tryz.zeroValue5
  t9 := Tryz.underlying9
  a9 := Tryz.isAgg9
  z9 := Tryz.sizeOf9
  v9 := Tryz.zeroValue9
  t21 := Tryz.underlying21
  a21 := Tryz.isAgg21
  z21 := Tryz.sizeOf21
  v21 := Tryz.zeroValue21
  t46 := Tryz.underlying223
  a46 := Tryz.isAgg223
  z46 := Tryz.sizeOf223
  v46 := Tryz.zeroValue223
  t105 := Tryz.underlying198
  a105 := Tryz.isAgg198
  z105 := Tryz.sizeOf198
  v105 := Tryz.zeroValue198
  t119 := Tryz.underlying265
  a119 := Tryz.isAgg265
  z119 := Tryz.sizeOf265
  t138 := Tryz.underlying267
  a138 := Tryz.isAgg267
  z138 := Tryz.sizeOf267
  v138 := Tryz.zeroValue267
  t139 := Tryz.underlying268
  a139 := Tryz.isAgg268
  z139 := Tryz.sizeOf268
  v139 := Tryz.zeroValue268
  g3 := by kernel_rfl
  g4 := by kernel_rfl }
open Go.RowKit Go.Lib in
theorem utf8_DecodeRuneInString (s : ByteArray) (w : World) (hT : Lib.Utf8Tabs 1 2 w) :
    Calls Tryz.prog 165 #[.string s] w fun e w' => e = .returned (.tuple #[.int .i32 (Lib.decodeGo s).1, .int .i64 (Lib.decodeGo s).2]) ∧ Below w.heap.size w w' := Any.utf8_DecodeRuneInString lays197 s w hT
def lays196_ren : Go.Shelf.Ren := ⟨fun | 196 => 169 | 259 => 198 | n => n, fun | 9 => 9 | 4 => 4 | 3 => 3 | 5 => 5 | 12 => 12 | 119 => 265 | 0 => 0 | 46 => 223 | 139 => 268 | 138 => 267 | 53 => 254 | n => n, fun | 3 => 1 | 4 => 2 | n => n⟩
theorem lays196 : Go.Proofs.Lays.n196 Tryz.prog lays196_ren := {
  mixed := by kernel_rfl
  f196 := Tryz.func169.trans (congrArg some (by kernel_rfl))
  f259 := Tryz.func198.trans (congrArg some (by kernel_rfl))
  t0 := Tryz.underlying0
  a0 := Tryz.isAgg0
  z0 := Tryz.sizeOf0
  v0 := Tryz.zeroValue0
  t3 := Tryz.underlying3
  a3 := Tryz.isAgg3
  z3 := Tryz.sizeOf3
  v3 := Tryz.zeroValue3
  t4 := Tryz.underlying4
  a4 := Tryz.isAgg4
  z4 := Tryz.sizeOf4
  v4 := Tryz.zeroValue4
  t5 := Tryz.underlying5
  a5 := Tryz.isAgg5
  z5 := Tryz.sizeOf5
  v5 := Tryz.zeroValue5
  t9 := Tryz.underlying9
  a9 := Tryz.isAgg9
  z9 := Tryz.sizeOf9
  v9 := Tryz.zeroValue9
  t12 := Tryz.underlying12
  a12 := Tryz.isAgg12
  z12 := Tryz.sizeOf12
  v12 := Tryz.zeroValue12
  t46 := Tryz.underlying223
  a46 := Tryz.isAgg223
  z46 := Tryz.sizeOf223
  v46 := Tryz.zeroValue223
  t53 := Tryz.underlying254
  a53 := Tryz.isAgg254
  z53 := Tryz.sizeOf254
  v53 := Tryz.zeroValue254
  t119 := Tryz.underlying265
  a119 := Tryz.isAgg265
  z119 := Tryz.sizeOf265
  t138 := Tryz.underlying267
  a138 := Tryz.isAgg267
  z138 := Tryz.sizeOf267
  v138 := Tryz.zeroValue267
  t139 := Tryz.underlying268
  a139 := Tryz.isAgg268
  z139 := Tryz.sizeOf268
  v139 := Tryz.zeroValue268
  g3 := by kernel_rfl
  g4 := by kernel_rfl }
open Go.RowKit Go.Lib in
theorem utf8_ValidString (s : ByteArray) (w : World) (hs : s.size ≤ 9223372036854775807) (hT : Lib.Utf8Tabs (lays196_ren.g 3) (lays196_ren.g 4) w) :
    Calls Tryz.prog 169 #[.string s] w fun e w' => e = .returned (.bool (Lib.validD s.data.toList)) ∧ Below w.heap.size w w' := Any.utf8_ValidString lays196 s w hs hT
end Go.Proofs.YtpojeinddnjpfaaGreatDoor
namespace Go.Proofs.YtpojeinddnjpfaaGreatDoor
set_option linter.unusedVariables false
open Go.ChangeShapes Go.WideShapes Go.ChangeAt Go.RowKit

def isName (s : ByteArray) : Bool := Lib.validD s.data.toList && nameOf (runes s)
end Go.Proofs.YtpojeinddnjpfaaGreatDoor
namespace Go.Proofs.YtpojeinddnjpfaaGreatDoor
set_option linter.unusedVariables false
open Go.ChangeShapes Go.WideShapes Go.ChangeAt Go.RowKit

/-! formed texts are short -/
theorem width_le (s : ByteArray) (pos : Nat) : (Utf8.decode s pos).2 ≤ 4 := by
 simp only [Utf8.decode]
 repeat' split
 all_goals simp
theorem size_runes (s : ByteArray) : ∀ (b pos : Nat), s.size ≤ pos + b → s.size ≤ pos + 4 * (rns s b pos).length
 | 0, pos, h => by omega
 | b + 1, pos, h => by
  by_cases hp : pos < s.size
  ·have hw := width_le s pos
   have hw1 := width_pos s pos hp
   have ih := size_runes s b (pos + (Utf8.decode s pos).2) (by omega)
   rw [rns_step s b pos hp, List.length_cons]
   omega
  ·omega
theorem name_size (s : ByteArray) (h : nameOf (runes s) = true) : s.size ≤ 160 := by
 have h1 := size_runes s s.size 0 (by omega)
 unfold nameOf at h
 simp only [Bool.and_eq_true, decide_eq_true_iff] at h
 have h2 : (rns s s.size 0).length ≤ 40 := h.1.1.2
 omega
end Go.Proofs.YtpojeinddnjpfaaGreatDoor
namespace Go.Proofs.YtpojeinddnjpfaaGreatDoor
set_option linter.unusedVariables false

def TF (x : Fd) : Prop := x.type.length ≤ 200000000 ∧ x.name.length ≤ 200000000
def TV (x : Vl) : Prop := x.name.length ≤ 200000000
def TM (x : Mt) : Prop := x.name.length ≤ 200000000 ∧ x.inp.length ≤ 200000000 ∧ x.out.length ≤ 200000000
end Go.Proofs.YtpojeinddnjpfaaGreatDoor
