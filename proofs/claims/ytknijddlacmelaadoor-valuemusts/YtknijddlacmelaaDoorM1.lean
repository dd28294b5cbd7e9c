/-
  The walks over the program's own small, great, Letter, fits and Name: a text is a name just if its runes are.
  What the library functions that this program calls answer, as theorems over this translation: each is one application of a theorem of the given library. Nothing is proved of the program itself here.
  The walks over the program's own reader: want, name and number.
  How the program goes along a text, rune by rune, held against the words of the text: plain words over bytes. Nothing is proved of the program here.
  The walks over the program's own remarkSize, nameSize, numberSize, take and behind.
  The walks over the program's own stripFields, stripValues and stripMethods.
  Whole names, and what a path means in a scope, as plain functions; what the laws of scope ask of them. Nothing is proved of the program here.
  Where no two declarations have one whole name, and they are formed, what the program's Find answers is what the document's says. Plain functions: nothing is proved of the program here.
  Schemas as plain data, and what the document's rounds say of declarations. Nothing is proved of the program here.
-/
import Derived.Test.YtknijddlacmelaaDoorM0
import Derived.Test.YtknijddlacmelaaDoorProg
import Derived.Shelf.Strconv.Clone
import Derived.Shelf.Strings.Count
import Derived.Shelf.LaysM
import Derived.Ground.NamesProg
import Derived.Deep.Cut
import Derived.Deep.DeepCutAuto
import Derived.Lib.ParseIntB
import Derived.Lib.Bytealg
import Derived.Deep.RegionHeldLaw
import Derived.Deep.RegionLaw
import Derived.Deep.RegionWith
import Derived.Lib.IndexBytes
import Derived.Laws.AppendOwn
import Derived.OwnWalk
import Derived.Deep.AppendLies
import Derived.WalkSmall
import Derived.Lib.OthersKept
import Derived.Deep.QuietTactic
import Derived.BigQuiet
import Derived.Lib.ItoaMem
import Derived.Lib.ItoaLen
namespace Go.Proofs.YtknijddlacmelaaDoor
set_option linter.unusedVariables false
open Go.ChangeShapes Go.WideShapes Go.ChangeAt Go.RowKit

set_option maxHeartbeats 1000000 in
theorem small_any (r : Int) (w : World) :
    Calls Tryd.prog 71 #[.int .i32 r] w fun e w' => e = .returned (.bool (isSmall r)) ∧ w' = w := by
  go_enter Tryd.func71, Tryd.ntmps71
  go_wp2
  all_goals
    go_ret
    refine ⟨retB ?_, rfl⟩
    unfold isSmall
    rw [Bool.eq_iff_iff]
    simp
    omega
set_option maxHeartbeats 1000000 in
theorem great_any (r : Int) (w : World) :
    Calls Tryd.prog 72 #[.int .i32 r] w fun e w' => e = .returned (.bool (isGreat r)) ∧ w' = w := by
  go_enter Tryd.func72, Tryd.ntmps72
  go_wp2
  all_goals
    go_ret
    refine ⟨retB ?_, rfl⟩
    unfold isGreat
    rw [Bool.eq_iff_iff]
    simp
    omega
theorem letter_eq (r : Int) : isLetter r = (isSmall r || isGreat r || decide (913 ≤ r ∧ r ≤ 969)) := by
  unfold isLetter isSmall isGreat
  rw [Bool.eq_iff_iff]; simp [or_assoc]
set_option maxHeartbeats 1000000 in
theorem letter_any (r : Int) (w : World) :
    Calls Tryd.prog 62 #[.int .i32 r] w fun e w' => e = .returned (.bool (isLetter r)) ∧ w' = w := by
  have hs := fun W => small_any r W
  have hg := fun W => great_any r W
  rw [letter_eq]
  generalize isSmall r = S at *
  generalize isGreat r = G at *
  cases S <;> cases G
  all_goals
    go_enter Tryd.func62, Tryd.ntmps62
    go_wp2_with (first
      | (go_at_call 71; refine (hs _).mono ?_; rintro e w' ⟨rfl, rfl⟩)
      | (go_at_call 72; refine (hg _).mono ?_; rintro e w' ⟨rfl, rfl⟩))
    all_goals
      go_ret
      refine ⟨retB ?_, rfl⟩
      clear hs hg
      first
        | rfl
        | (rw [Bool.eq_iff_iff]; simp; omega)
        | (simp; omega)
set_option maxHeartbeats 1000000 in
theorem fits_any (r : Int) (f : Bool) (w : World) :
    Calls Tryd.prog 56 #[.int .i32 r, .bool f] w fun e w' => e = .returned (.bool (fitsAt f r)) ∧ w' = w := by
  have hl := fun W => letter_any r W
  unfold fitsAt
  generalize isLetter r = L at *
  cases L <;> cases f
  all_goals
    go_enter Tryd.func56, Tryd.ntmps56
    go_wp2_with (go_at_call 62; refine (hl _).mono ?_; rintro e w' ⟨rfl, rfl⟩)
    all_goals
      go_ret
      refine ⟨retB ?_, rfl⟩
      clear hl
      unfold isDigit
      first
        | rfl
        | (rw [Bool.eq_iff_iff]; simp; omega)
        | (simp_all; done)
        | (simp_all; omega)
set_option maxHeartbeats 2000000 in
theorem name_any (s : ByteArray) (w : World) (hs : s.size < 9223372036854775807) :
    Calls Tryd.prog 48 #[.string s] w fun e w' => e = .returned (.bool (nameOf (runes s))) ∧ Below w.heap.size w w' := by
  have hF := fun r f W => fits_any r f W
  have HN : Hid (nameOf (runes s) = okFrom 0 (rns s s.size 0)) := (okFrom_name (runes s)).symm
  go_enter Tryd.func48, Tryd.ntmps48
  go_wp2
  go_loopw [3] (fun n w' => ∃ (pos b acc : Nat), w' = w.iter s pos ∧ n = .int .i64 acc ∧ okFrom 0 (rns s s.size 0) = okFrom acc (rns s b pos) ∧ s.size ≤ pos + b ∧ acc ≤ 40) (fun _ w' => s.size - w'.iterPos w.heap.size)
  case atStart => exact ⟨0, s.size, 0, rfl, rfl, rfl, by omega, by omega⟩
  case round =>
    obtain ⟨pos, b, acc, rfl, rfl, hc, hb, ha⟩ := hrel
    have HB : ∀ p, Below w.heap.size w (w.iter s p) := fun p => (Below.refl _ w).alloc (Nat.le_refl _) _
    by_cases hp : pos < s.size
    · have hnx : ∀ ty, (Instr.next (.pointer (some ⟨w.heap.size, 0, none⟩)) true ty).run Tryd.prog (w.iter s pos) = _ := fun ty => run_next_any w s pos ty hp
      have hwd := width_pos s pos hp
      obtain ⟨b, rfl⟩ : ∃ b', b = b' + 1 := ⟨b - 1, by omega⟩
      rw [rns_step s b pos hp, okFrom] at hc
      have HC : Hid (nameOf (runes s) = (decide (acc < 40) && fitsAt (acc == 0) ((Utf8.decode s pos).1 : Int) && okFrom (acc + 1) (rns s b (pos + (Utf8.decode s pos).2)))) := by
        refine (?_ : nameOf (runes s) = _)
        rw [HN.out, hc]
      have HC2 : Hid (okFrom 0 (rns s s.size 0) = (decide (acc < 40) && fitsAt (acc == 0) ((Utf8.decode s pos).1 : Int) && okFrom (acc + 1) (rns s b (pos + (Utf8.decode s pos).2)))) := hc
      clear hc
      by_cases h40 : acc = 40
      · subst h40
        have HX : Hid (nameOf (runes s) = false) := by
          refine (?_ : nameOf (runes s) = false)
          rw [HC.out]; simp
        clear HC HC2 HN
        go_wp2
        go_ret
        exact ⟨retB HX.out.symm, HB _⟩
      · have hlt : acc < 40 := by omega
        have h40' : ((acc : Int) == 40) = false := by simp; omega
        have hd : (decide (acc < 40)) = true := by simp [hlt]
        rw [hd] at HC HC2
        obtain ⟨F, hFF⟩ : ∃ F, fitsAt (acc == 0) ((Utf8.decode s pos).1 : Int) = F := ⟨_, rfl⟩
        have hf : ∀ W, Calls Tryd.prog 56 #[.int .i32 ((Utf8.decode s pos).1 : Int), .bool ((acc : Int) == 0)] W fun e w' => e = .returned (.bool F) ∧ w' = W := by
          intro W
          have := hF ((Utf8.decode s pos).1 : Int) (acc == 0) W
          rw [hFF] at this
          have e : ((acc : Int) == 0) = (acc == 0) := by rw [Bool.eq_iff_iff]; simp
          rw [e]; exact this
        rw [hFF] at HC HC2
        clear hF hFF hd
        cases F with
        | false =>
          have HX : Hid (nameOf (runes s) = false) := by
            refine (?_ : nameOf (runes s) = false)
            rw [HC.out]; simp
          clear HC HC2 HN
          go_wp2_with (go_at_call 56; refine (hf _).mono ?_; rintro e w' ⟨rfl, rfl⟩)
          go_ret
          exact ⟨retB HX.out.symm, HB _⟩
        | true =>
          have HX : Hid (okFrom 0 (rns s s.size 0) = okFrom (acc + 1) (rns s b (pos + (Utf8.decode s pos).2))) := by
            refine (?_ : okFrom 0 (rns s s.size 0) = _)
            rw [HC2.out]; simp
          clear HC HC2 HN
          go_wp2_with (go_at_call 56; refine (hf _).mono ?_; rintro e w' ⟨rfl, rfl⟩)
          go_roundw
          case rel => exact ⟨pos + (Utf8.decode s pos).2, b, acc + 1, rfl, by go_num, HX.out, by omega, by omega⟩
          case measure =>
            simp
            omega
    · have hnx : ∀ ty, (Instr.next (.pointer (some ⟨w.heap.size, 0, none⟩)) true ty).run Tryd.prog (w.iter s pos) = _ := fun ty => run_next_end w s pos ty hp
      have HX : Hid (nameOf (runes s) = decide (0 < acc)) := by
        refine (?_ : nameOf (runes s) = _)
        rw [HN.out, hc, rns_end s b pos hp, okFrom]
      clear hc HN hF
      by_cases h0 : acc = 0
      · subst h0
        go_wp2
        go_ret
        exact ⟨retB (by rw [HX.out]; simp), HB _⟩
      · go_wp2
        go_ret
        exact ⟨retB (by first | (rw [HX.out]; done) | (rw [HX.out]; simp; done) | (rw [HX.out]; simp; omega)), HB _⟩
end Go.Proofs.YtknijddlacmelaaDoor
namespace Go.Proofs.YtknijddlacmelaaDoor
open Go.Shelf
def laysM316_ren : Go.Shelf.Ren := ⟨fun | 316 => 54 | n => n, fun | 9 => 9 | 3 => 3 | 4 => 4 | 37 => 104 | 0 => 0 | 127 => 141 | 5 => 5 | n => n, fun | n => n⟩
theorem laysM316 : Go.Proofs.LaysM.n316 Tryd.prog laysM316_ren := {
  mixed := by kernel_rfl
  f316 := Tryd.func54.trans (congrArg some (by kernel_rfl))
  t0 := Tryd.underlying0
  a0 := Tryd.isAgg0
  z0 := Tryd.sizeOf0
  v0 := Tryd.zeroValue0
  t3 := Tryd.underlying3
  a3 := Tryd.isAgg3
  z3 := Tryd.sizeOf3
  v3 := Tryd.zeroValue3
  t4 := Tryd.underlying4
  a4 := Tryd.isAgg4
  z4 := Tryd.sizeOf4
  v4 := Tryd.zeroValue4
  t9 := Tryd.underlying9
  a9 := Tryd.isAgg9
  z9 := Tryd.sizeOf9
  v9 := Tryd.zeroValue9
  t37 := Tryd.underlying104
  a37 := Tryd.isAgg104
  z37 := Tryd.sizeOf104
  v37 := Tryd.zeroValue104
  t127 := Tryd.underlying141
  a127 := Tryd.isAgg141
  z127 := Tryd.sizeOf141
  v127 := Tryd.zeroValue141
  t5 := Tryd.underlying5
  a5 := Tryd.isAgg5
  z5 := Tryd.sizeOf5
  v5 := Tryd.zeroValue5
  i0 := by kernel_rfl
  i3 := by kernel_rfl
  i4 := by kernel_rfl
  i5 := by kernel_rfl
  i9 := by kernel_rfl
  i37 := by kernel_rfl
  i127 := by kernel_rfl }
open Go.RowKit in
theorem stringslite_Clone (s : ByteArray) (w : World) (hlim : s.size ≤ 281474976710656) :
    Calls Tryd.prog 54 #[.string s] w fun e w' => e = .returned (.string s) ∧ Below w.heap.size w w' := Any.stringslite_Clone laysM316 s w hlim
def lays138_ren : Go.Shelf.Ren := ⟨fun | 138 => 69 | 195 => 74 | 218 => 76 | 143 => 70 | 219 => 77 | 217 => 79 | 225 => 80 | 224 => 81 | 267 => 82 | 266 => 83 | 314 => 84 | n => n, fun | 9 => 9 | 3 => 3 | 4 => 4 | 5 => 5 | 0 => 0 | 46 => 136 | 146 => 161 | 51 => 149 | n => n, fun | 1 => 2 | n => n⟩
theorem lays138 : Go.Proofs.Lays.n138 Tryd.prog lays138_ren := {
  mixed := by kernel_rfl
  f138 := Tryd.func69.trans (congrArg some (by kernel_rfl))
  f143 := Tryd.func70.trans (congrArg some (by kernel_rfl))
  f195 := Tryd.func74.trans (congrArg some (by kernel_rfl))
  f217 := Tryd.func79.trans (congrArg some (by kernel_rfl))
  f218 := Tryd.func76.trans (congrArg some (by kernel_rfl))
  f219 := Tryd.func77.trans (congrArg some (by kernel_rfl))
  f224 := Tryd.func81.trans (congrArg some (by kernel_rfl))
  f225 := Tryd.func80.trans (congrArg some (by kernel_rfl))
  f266 := Tryd.func83.trans (congrArg some (by kernel_rfl))
  f267 := Tryd.func82.trans (congrArg some (by kernel_rfl))
  f314 := Tryd.func84.trans (congrArg some (by kernel_rfl))
  t0 := Tryd.underlying0
  a0 := Tryd.isAgg0
  z0 := Tryd.sizeOf0
  v0 := Tryd.zeroValue0
  t3 := Tryd.underlying3
  a3 := Tryd.isAgg3
  z3 := Tryd.sizeOf3
  v3 := Tryd.zeroValue3
  t4 := Tryd.underlying4
  a4 := Tryd.isAgg4
  z4 := Tryd.sizeOf4
  v4 := Tryd.zeroValue4
  t5 := Tryd.underlying5
  a5 := Tryd.isAgg5
  z5 := Tryd.sizeOf5
  v5 := Tryd.zeroValue5
  t9 := Tryd.underlying9
  a9 := Tryd.isAgg9
  z9 := Tryd.sizeOf9
  v9 := Tryd.zeroValue9
  t46 := Tryd.underlying136
  a46 := Tryd.isAgg136
  z46 := Tryd.sizeOf136
  v46 := Tryd.zeroValue136
  t51 := Tryd.underlying149
  a51 := Tryd.isAgg149
  z51 := Tryd.sizeOf149
  v51 := Tryd.zeroValue149
  t146 := Tryd.underlying161
  a146 := Tryd.isAgg161
  z146 := Tryd.sizeOf161
  v146 := Tryd.zeroValue161
  g1 := by kernel_rfl }
open Go.RowKit Go.Lib in
theorem strings_Count_one (s : ByteArray) (c : UInt8) (w : World) :
    Calls Tryd.prog 69 #[.string s, .string ⟨#[c]⟩] w fun e w' => e = .returned (.int .i64 (Lib.countByte s.data.toList c)) ∧ w' = w := Any.strings_Count_one lays138 s c w
end Go.Proofs.YtknijddlacmelaaDoor
namespace Go.Proofs.YtknijddlacmelaaDoor
set_option linter.unusedVariables false
open Go.ChangeShapes Go.WideShapes Go.ChangeAt Go.RowKit

set_option maxHeartbeats 2000000 in
theorem reservedD_any (s : ByteArray) (w : World) :
    Calls Tryd.prog 49 #[.string s] w fun e w' => e = .returned (.bool (resOf s.toList)) ∧ w' = w := by
  go_enter Tryd.func49, Tryd.ntmps49
  go_wp2
  all_goals
    go_ret
    refine ⟨retB ?_, rfl⟩
    unfold resOf scalarOf
    first
      | (simp [*]; done)
      | simp_all
end Go.Proofs.YtknijddlacmelaaDoor
namespace Go.Proofs.YtknijddlacmelaaDoor
set_option linter.unusedVariables false

/-- the rune at the head, as a range over the text has it -/
def rn (l : List UInt8) : Int := ((Lib.decodeL l).1 : Int)
end Go.Proofs.YtknijddlacmelaaDoor
namespace Go.Proofs.YtknijddlacmelaaDoor
set_option linter.unusedVariables false
open Go.ChangeShapes Go.WideShapes Go.ChangeAt Go.RowKit

theorem mkB_size (l : List UInt8) : (mkB l).size = l.length := by
  have := len_data (mkB l)
  rw [← this]; rfl
end Go.Proofs.YtknijddlacmelaaDoor
namespace Go.Proofs.YtknijddlacmelaaDoor
set_option linter.unusedVariables false
open Go.ChangeShapes Go.WideShapes Go.ChangeAt Go.RowKit

theorem cloneB_any (s : ByteArray) (w : World) (hs : s.size ≤ 281474976710656) :
    Calls Tryd.prog 43 #[.string s] w fun e w' => e = .returned (.string s) ∧ Below w.heap.size w w' := by
  have h := stringslite_Clone s w hs
  go_enter Tryd.func43, Tryd.ntmps43
  go_wp2_with fail
  refine h.mono ?_
  rintro e w1 ⟨rfl, hb⟩
  go_wp2_with fail
  go_ret
  exact ⟨rfl, hb⟩
end Go.Proofs.YtknijddlacmelaaDoor
namespace Go.Proofs.YtknijddlacmelaaDoor
set_option linter.unusedVariables false

/-- a whole name and a kind -/
abbrev Sy := List UInt8 × Int
/-! P7.2: a whole name means itself -/
end Go.Proofs.YtknijddlacmelaaDoor
namespace Go.Proofs.YtknijddlacmelaaDoor
set_option linter.unusedVariables false

/-- what stands ahead of the names in a scope -/
def ahead (S : List UInt8) : List UInt8 := if S = [] then [] else S ++ [46]
end Go.Proofs.YtknijddlacmelaaDoor
namespace Go.Proofs.YtknijddlacmelaaDoor
set_option linter.unusedVariables false

structure FD where
  num : Int
  name : List UInt8
  kind : Int
  rep : Bool
  type : Int
structure MD where
  name : List UInt8
  fields : List FD
structure VD where
  name : List UInt8
  num : Int
structure ED where
  name : List UInt8
  values : List VD
structure TD where
  id : Int
  service : List UInt8
  name : List UInt8
  inp : Int
  out : Int
structure SC where
  ms : List MD
  es : List ED
  ts : List TD
theorem take_snoc {α : Type} {l : List α} {j : Nat} {x : α} (h : l[j]? = some x) : l.take (j + 1) = l.take j ++ [x] := by
  rw [List.take_add_one, h]; rfl

def fnOK (n : Int) : Bool := decide (1 ≤ n ∧ n ≤ 536870911 ∧ (n < 19000 ∨ 19999 < n))
/-! the tables -/
/-! rings -/
def Goes (ms : List MD) (a b : Nat) : Prop := ∃ m, ms[a]? = some m ∧ ∃ f, f ∈ m.fields ∧ f.kind = 10 ∧ f.rep = false ∧ f.type = (b : Int)
def Ring (ms : List MD) (t : Nat) : Prop := Relation.TransGen (Goes ms) t t
end Go.Proofs.YtknijddlacmelaaDoor
