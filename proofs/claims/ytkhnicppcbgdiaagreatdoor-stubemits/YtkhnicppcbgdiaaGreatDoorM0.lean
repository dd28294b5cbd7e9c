/-
  The runes of a text, and which of them make a name: plain words of this seat. Nothing is proved of the program here.
  The other forms of a name, as lists of runes, and their bytes: plain words and facts of this seat. Nothing is proved of the program here.
  The words of a text, as plain functions over its bytes: what stands at its head, how far a name or a number goes, how far a remark; and the words with their places. Nothing is proved of the program here.
  Rows of stubs and their text, as plain functions; that the rows are found in their text, by the program's way and by the document's. Nothing is proved of the program here.
  The walks over the program's own small, great, Letter, fits and Name: a text is a name just if its runes are.
-/
import Derived.WalkKit
import Derived.ProofKit
import Derived.Below
import Derived.Laws.RangeAny
import Derived.Laws.IdiomStrings
import Derived.Lib.Strings
import Derived.Lib.RuneBytes
import Derived.Lib.RuneCount
import Derived.Lib.TrimUEq
import Derived.Lib.MapLaws
import Derived.Lib.TrimAscii
import Derived.Lib.IndexMore
import Derived.Lib.ItoaMem
import Derived.Lib.ItoaLen
import Derived.Test.YtkhnicppcbgdiaaGreatDoorProg
namespace Go.Proofs.YtkhnicppcbgdiaaGreatDoor
set_option linter.unusedVariables false
open Go.ChangeShapes Go.WideShapes Go.ChangeAt Go.RowKit

theorem len_data (s : ByteArray) : s.data.toList.length = s.size := by first | exact Lib.size_eq s | exact (Lib.size_eq s).symm
theorem at_data (s : ByteArray) (k : Nat) (h : k < s.size) : s.data.toList[k]? = some (s[k]'h) := by
  rw [List.getElem?_eq_getElem (by rw [len_data]; exact h)]; rfl
/-- the runes from a place on -/
def rns (s : ByteArray) : Nat → Nat → List Int
  | 0, _ => []
  | f + 1, i => if i < s.size then ((Utf8.decode s i).1 : Int) :: rns s f (i + (Utf8.decode s i).2) else []
/-- the runes of a text -/
def runes (s : ByteArray) : List Int := rns s s.size 0
theorem runesFrom_rns (s : ByteArray) : ∀ (b i : Nat) (acc : Array Value), Conv.runesFrom s b i acc = acc ++ ((rns s b i).map (Value.int .i32)).toArray
  | 0, i, acc => by simp [Conv.runesFrom, rns]
  | b + 1, i, acc => by
    unfold Conv.runesFrom rns
    split
    · show Conv.runesFrom s b (i + (Utf8.decode s i).2) (acc.push (.int .i32 (Int.ofNat (Utf8.decode s i).1))) = _
      rw [runesFrom_rns s b]
      simp
    · simp
theorem runes_eq (s : ByteArray) : Conv.runesFrom s s.size 0 #[] = ((runes s).map (Value.int .i32)).toArray := by
  rw [runesFrom_rns]; simp [runes]
theorem rns_len (s : ByteArray) : ∀ b i, (rns s b i).length ≤ b
  | 0, i => by simp [rns]
  | b + 1, i => by
    unfold rns
    split
    · have := rns_len s b (i + (Utf8.decode s i).2); simp; omega
    · simp
theorem runes_len (s : ByteArray) : (runes s).length ≤ s.size := rns_len s _ _
theorem rns_step (s : ByteArray) (b i : Nat) (h : i < s.size) : rns s (b + 1) i = ((Utf8.decode s i).1 : Int) :: rns s b (i + (Utf8.decode s i).2) := by
  rw [rns, if_pos h]
theorem rns_end (s : ByteArray) (b i : Nat) (h : ¬ i < s.size) : rns s b i = [] := by
  cases b with
  | zero => rfl
  | succ b => rw [rns, if_neg h]
theorem width_pos (s : ByteArray) (pos : Nat) (h : pos < s.size) : 1 ≤ (Utf8.decode s pos).2 := by
  by_cases ha : (s[pos]'h).toNat < 128
  · rw [decode_ascii s pos h ha]
    exact Nat.le_refl _
  · exact (decode_high s pos h (by omega)).2

/-- whether a rune is a letter -/
def isLetter (r : Int) : Bool := decide ((97 ≤ r ∧ r ≤ 122) ∨ (65 ≤ r ∧ r ≤ 90) ∨ (913 ≤ r ∧ r ≤ 969))
def isDigit (r : Int) : Bool := decide (48 ≤ r ∧ r ≤ 57)
theorem retB {a b : Bool} (h : a = b) : Ending.returned (.bool a) = .returned (.bool b) := by rw [h]
/-- whether a rune may stand in a name -/
def nameRune (r : Int) : Bool := isLetter r || isDigit r || decide (r = 95)
/-- whether runes are a name -/
def nameOf (l : List Int) : Bool := decide (1 ≤ l.length ∧ l.length ≤ 40) && isLetter (l.headD 0) && l.all nameRune
theorem all_drop {l : List Int} {k : Nat} {z : Int} (h : l[k]? = some z) (p : Int → Bool) : (l.drop k).all p = (p z && (l.drop (k + 1)).all p) := by
  have hlt := (List.getElem?_eq_some_iff.1 h).1
  rw [List.drop_eq_getElem_cons hlt, List.all_cons]
  rw [(List.getElem?_eq_some_iff.1 h).2]

/-- whether a rune may stand in a name, at its first place or behind it -/
def fitsAt (first : Bool) (r : Int) : Bool := isLetter r || (!first && (decide (r = 95) || isDigit r))
/-- whether runes go on as a name behind so many -/
def okFrom : Nat → List Int → Bool
  | acc, [] => decide (0 < acc)
  | acc, r :: t => decide (acc < 40) && fitsAt (acc == 0) r && okFrom (acc + 1) t
theorem nameRune_fits (r : Int) : nameRune r = fitsAt false r := by
  unfold nameRune fitsAt
  generalize isLetter r = a; generalize isDigit r = b; generalize decide (r = 95) = c
  cases a <;> cases b <;> cases c <;> rfl
theorem okFrom_pos : ∀ (l : List Int) (acc : Nat), 0 < acc → okFrom acc l = (decide (acc + l.length ≤ 40 ∨ l = []) && l.all nameRune)
  | [], acc, h => by simp [okFrom, h]
  | r :: t, acc, h => by
    have h0 : (acc == 0) = false := by simp; omega
    rw [okFrom, okFrom_pos t (acc + 1) (by omega), h0, ← nameRune_fits, List.all_cons]
    have e : (decide (acc < 40) && decide (acc + 1 + t.length ≤ 40 ∨ t = [])) = decide (acc + (r :: t).length ≤ 40 ∨ r :: t = []) := by
      rw [Bool.eq_iff_iff]
      simp only [Bool.and_eq_true, decide_eq_true_iff, List.length_cons, reduceCtorEq, or_false]
      constructor
      · rintro ⟨a, b | b⟩
        · omega
        · subst b; simp; omega
      · intro a; exact ⟨by omega, .inl (by omega)⟩
    rw [← e]
    generalize decide (acc < 40) = a; generalize decide (acc + 1 + t.length ≤ 40 ∨ t = []) = b; generalize nameRune r = c; generalize t.all nameRune = d
    cases a <;> cases b <;> cases c <;> cases d <;> rfl
theorem okFrom_name (l : List Int) : okFrom 0 l = nameOf l := by
  cases l with
  | nil => simp [okFrom, nameOf]
  | cons r t =>
    rw [okFrom, okFrom_pos t 1 (by omega)]
    unfold nameOf
    have e1 : fitsAt (0 == 0) r = isLetter r := by unfold fitsAt; simp
    rw [e1]
    have e2 : decide (1 ≤ (r :: t).length ∧ (r :: t).length ≤ 40) = decide (1 + t.length ≤ 40 ∨ t = []) := by
      rw [Bool.eq_iff_iff]
      simp only [decide_eq_true_iff, List.length_cons]
      constructor
      · intro a; exact .inl (by omega)
      · rintro (a | a)
        · omega
        · subst a; simp
    rw [e2, List.all_cons]
    have e3 : isLetter r = true → nameRune r = true := fun h => by unfold nameRune; rw [h]; rfl
    simp only [List.headD_cons]
    revert e3
    generalize isLetter r = a; generalize decide (1 + t.length ≤ 40 ∨ t = []) = b; generalize nameRune r = c; generalize t.all nameRune = d
    cases a <;> cases b <;> cases c <;> cases d <;> simp
end Go.Proofs.YtkhnicppcbgdiaaGreatDoor
namespace Go.Proofs.YtkhnicppcbgdiaaGreatDoor
set_option linter.unusedVariables false

def isSmall (r : Int) : Bool := decide (97 ≤ r ∧ r ≤ 122)
def isGreat (r : Int) : Bool := decide (65 ≤ r ∧ r ≤ 90)
/-- without the _, each part begun with a great letter; b: a part begins here -/
def camelL : Bool → List Int → List Int
  | _, [] => []
  | b, r :: t => if r = 95 then camelL true t else (if (b && isSmall r) = true then r - 32 else r) :: camelL false t
/-- the bytes of runes -/
def encL (l : List Int) : List UInt8 := l.flatMap Lib.encodeRune
theorem encL_nil : encL [] = [] := rfl
theorem encL_cons (r : Int) (t : List Int) : encL (r :: t) = Lib.encodeRune r ++ encL t := by simp [encL]
theorem enc_len (r : Int) : 1 ≤ (Lib.encodeRune r).length ∧ (Lib.encodeRune r).length ≤ 4 := by
  have := Lib.runeCells_le r; rw [Lib.runeCells_length] at this; exact this
/-- a rune of one or two bytes -/
def two (r : Int) : Prop := 0 ≤ r ∧ r ≤ 2047
/-! the runes of a name are of one or two bytes, and its other forms' -/
theorem two_of_name {r : Int} (h : nameRune r = true) : two r := by
  unfold nameRune isLetter isDigit at h
  simp only [Bool.or_eq_true, decide_eq_true_iff] at h
  unfold two; omega
theorem name_all {l : List Int} (h : nameOf l = true) : ∀ r ∈ l, nameRune r = true := by
  unfold nameOf at h
  simp only [Bool.and_eq_true, List.all_eq_true] at h
  exact h.2
end Go.Proofs.YtkhnicppcbgdiaaGreatDoor
namespace Go.Proofs.YtkhnicppcbgdiaaGreatDoor
set_option linter.unusedVariables false

/-- the rune at the head, and its bytes; -1: it is none -/
def nx (l : List UInt8) : Int × Nat :=
  if l = [] then (-1, 0) else if (Lib.decodeL l).1 = 65533 ∧ (Lib.decodeL l).2 ≤ 1 then (-1, (Lib.decodeL l).2) else ((Lib.decodeL l).1, (Lib.decodeL l).2)
def mkB (l : List UInt8) : ByteArray := ⟨l.toArray⟩
theorem mkB_data (x : ByteArray) : mkB x.data.toList = x := rfl
theorem mkB_list (l : List UInt8) : (mkB l).toList = l := by rw [ByteArray.toList_eq]; rfl
/-- where a word should begin -/
def begins (l : List UInt8) : Prop := l ≠ [] ∧ (nx l).1 ≠ 10 ∧ (nx l).1 ≠ 32 ∧ (nx l).1 ≠ 9 ∧ ¬ ((nx l).1 = 47 ∧ l[1]? = some 47)
end Go.Proofs.YtkhnicppcbgdiaaGreatDoor
namespace Go.Proofs.YtkhnicppcbgdiaaGreatDoor
set_option linter.unusedVariables false

def wFunc : List UInt8 := [102, 117, 110, 99, 32, 40, 99, 32]
def wClient : List UInt8 := [67, 108, 105, 101, 110, 116, 41, 32]
def wIn : List UInt8 := [40, 105, 110, 32]
def wMid : List UInt8 := [41, 32, 40]
def wStat : List UInt8 := [44, 32, 83, 116, 97, 116, 117, 115, 41]
def wCall : List UInt8 := [32, 123, 32, 114, 101, 116, 117, 114, 110, 32, 99, 97, 108, 108, 91]
def wCaller : List UInt8 := [93, 40, 99, 46, 67, 97, 108, 108, 101, 114, 44, 32]
def wEnd : List UInt8 := [44, 32, 105, 110, 41, 32, 125]
def wType : List UInt8 := [116, 121, 112, 101, 32]
def wStruct : List UInt8 := [67, 108, 105, 101, 110, 116, 32, 115, 116, 114, 117, 99, 116, 123, 32, 67, 97, 108, 108, 101, 114, 32, 125]
def wPack : List UInt8 := [112, 97, 99, 107, 97, 103, 101, 32, 115, 116, 117, 98, 115]
def wDisp : List UInt8 := [102, 117, 110, 99, 32, 68, 105, 115, 112, 97, 116, 99, 104, 40, 104, 32, 72, 97, 110, 100, 108, 101, 114, 115, 44, 32, 105, 100, 32, 105, 110, 116, 44, 32, 105, 110, 32, 97, 110, 121, 41, 32, 40, 97, 110, 121, 44, 32, 83, 116, 97, 116, 117, 115, 41, 32, 123]
def wSwitch : List UInt8 := [9, 115, 119, 105, 116, 99, 104, 32, 105, 100, 32, 123]
def wCase : List UInt8 := [9, 99, 97, 115, 101, 32]
def wColon : List UInt8 := [58]
def wRet : List UInt8 := [9, 9, 114, 101, 116, 117, 114, 110, 32, 104, 46]
def wUnder : List UInt8 := [95]
def wInDot : List UInt8 := [40, 105, 110, 46, 40]
def wClose : List UInt8 := [41, 41]
def wE1 : List UInt8 := [9, 125]
def wE2 : List UInt8 := [9, 114, 101, 116, 117, 114, 110, 32, 110, 105, 108, 44, 32, 85, 110, 105, 109, 112, 108, 101, 109, 101, 110, 116, 101, 100]
def wE3 : List UInt8 := [125]

structure Rw where
  id : Int
  sv : List UInt8
  mt : List UInt8
  inn : List UInt8
  out : List UInt8
  deriving DecidableEq
/-- a method's line -/
def mlL (r : Rw) : List UInt8 := wFunc ++ r.sv ++ wClient ++ r.mt ++ wIn ++ r.inn ++ wMid ++ r.out ++ wStat ++ wCall ++ r.out ++ wCaller ++ Lib.itoa r.id ++ wEnd
def tyL (s : List UInt8) : List UInt8 := wType ++ s ++ wStruct
def c1L (r : Rw) : List UInt8 := wCase ++ Lib.itoa r.id ++ wColon
def c2L (r : Rw) : List UInt8 := wRet ++ r.sv ++ wUnder ++ r.mt ++ wInDot ++ r.inn ++ wClose
/-- the lines of the clients; p: the service of the row ahead -/
def headL : Option (List UInt8) → List Rw → List (List UInt8)
  | _, [] => []
  | p, r :: t => (if p = some r.sv then [] else [tyL r.sv, []]) ++ ([mlL r, []] ++ headL (some r.sv) t)
def caseL (l : List Rw) : List (List UInt8) := l.flatMap fun r => [c1L r, c2L r]
def linesT (p : Option (List UInt8)) (l : List Rw) : List (List UInt8) := [wPack, []] ++ headL p l ++ [wDisp, wSwitch] ++ caseL l ++ [wE1, wE2, wE3]
def flatT (l : List (List UInt8)) : List UInt8 := l.flatMap fun x => x ++ [10]
def textT (p : Option (List UInt8)) (l : List Rw) : List UInt8 := flatT (linesT p l)
theorem headL_first (l : List Rw) (h : ∀ r ∈ l, r.sv ≠ []) : headL none l = headL (some []) l := by
  cases l with
  | nil => rfl
  | cons r t =>
    have := h r List.mem_cons_self
    unfold headL
    rw [if_neg (by simp), if_neg (by simpa using Ne.symm this)]
theorem textT_first (l : List Rw) (h : ∀ r ∈ l, r.sv ≠ []) : textT none l = textT (some []) l := by unfold textT linesT; rw [headL_first l h]

end Go.Proofs.YtkhnicppcbgdiaaGreatDoor
namespace Go.Proofs.YtkhnicppcbgdiaaGreatDoor
set_option linter.unusedVariables false
open Go.ChangeShapes Go.WideShapes Go.ChangeAt Go.RowKit

set_option maxHeartbeats 1000000 in
theorem small_any (r : Int) (w : World) :
    Calls Tryz.prog 59 #[.int .i32 r] w fun e w' => e = .returned (.bool (isSmall r)) ∧ w' = w := by
  go_enter Tryz.func59, Tryz.ntmps59
  go_wp2
  all_goals
    go_ret
    refine ⟨retB ?_, rfl⟩
    unfold isSmall
    rw [Bool.eq_iff_iff]
    simp
    omega
set_option maxHeartbeats 1000000 in
theorem great_any (r : Int) (w : World) :
    Calls Tryz.prog 110 #[.int .i32 r] w fun e w' => e = .returned (.bool (isGreat r)) ∧ w' = w := by
  go_enter Tryz.func110, Tryz.ntmps110
  go_wp2
  all_goals
    go_ret
    refine ⟨retB ?_, rfl⟩
    unfold isGreat
    rw [Bool.eq_iff_iff]
    simp
    omega
theorem letter_eq (r : Int) : isLetter r = (isSmall r || isGreat r || decide (913 ≤ r ∧ r ≤ 969)) := by
  unfold isLetter isSmall isGreat
  rw [Bool.eq_iff_iff]; simp [or_assoc]
set_option maxHeartbeats 1000000 in
theorem letter_any (r : Int) (w : World) :
    Calls Tryz.prog 93 #[.int .i32 r] w fun e w' => e = .returned (.bool (isLetter r)) ∧ w' = w := by
  have hs := fun W => small_any r W
  have hg := fun W => great_any r W
  rw [letter_eq]
  generalize isSmall r = S at *
  generalize isGreat r = G at *
  cases S <;> cases G
  all_goals
    go_enter Tryz.func93, Tryz.ntmps93
    go_wp2_with (first
      | (go_at_call 59; refine (hs _).mono ?_; rintro e w' ⟨rfl, rfl⟩)
      | (go_at_call 110; refine (hg _).mono ?_; rintro e w' ⟨rfl, rfl⟩))
    all_goals
      go_ret
      refine ⟨retB ?_, rfl⟩
      clear hs hg
      first
        | rfl
        | (rw [Bool.eq_iff_iff]; simp; omega)
        | (simp; omega)
set_option maxHeartbeats 1000000 in
theorem fits_any (r : Int) (f : Bool) (w : World) :
    Calls Tryz.prog 82 #[.int .i32 r, .bool f] w fun e w' => e = .returned (.bool (fitsAt f r)) ∧ w' = w := by
  have hl := fun W => letter_any r W
  unfold fitsAt
  generalize isLetter r = L at *
  cases L <;> cases f
  all_goals
    go_enter Tryz.func82, Tryz.ntmps82
    go_wp2_with (go_at_call 93; refine (hl _).mono ?_; rintro e w' ⟨rfl, rfl⟩)
    all_goals
      go_ret
      refine ⟨retB ?_, rfl⟩
      clear hl
      unfold isDigit
      first
        | rfl
        | (rw [Bool.eq_iff_iff]; simp; omega)
        | (simp_all; done)
        | (simp_all; omega)
set_option maxHeartbeats 2000000 in
theorem name_any (s : ByteArray) (w : World) (hs : s.size < 9223372036854775807) :
    Calls Tryz.prog 58 #[.string s] w fun e w' => e = .returned (.bool (nameOf (runes s))) ∧ Below w.heap.size w w' := by
  have hF := fun r f W => fits_any r f W
  have HN : Hid (nameOf (runes s) = okFrom 0 (rns s s.size 0)) := (okFrom_name (runes s)).symm
  go_enter Tryz.func58, Tryz.ntmps58
  go_wp2
  go_loopw [3] (fun n w' => ∃ (pos b acc : Nat), w' = w.iter s pos ∧ n = .int .i64 acc ∧ okFrom 0 (rns s s.size 0) = okFrom acc (rns s b pos) ∧ s.size ≤ pos + b ∧ acc ≤ 40) (fun _ w' => s.size - w'.iterPos w.heap.size)
  case atStart => exact ⟨0, s.size, 0, rfl, rfl, rfl, by omega, by omega⟩
  case round =>
    obtain ⟨pos, b, acc, rfl, rfl, hc, hb, ha⟩ := hrel
    have HB : ∀ p, Below w.heap.size w (w.iter s p) := fun p => (Below.refl _ w).alloc (Nat.le_refl _) _
    by_cases hp : pos < s.size
    · have hnx : ∀ ty, (Instr.next (.pointer (some ⟨w.heap.size, 0, none⟩)) true ty).run Tryz.prog (w.iter s pos) = _ := fun ty => run_next_any w s pos ty hp
      have hwd := width_pos s pos hp
      obtain ⟨b, rfl⟩ : ∃ b', b = b' + 1 := ⟨b - 1, by omega⟩
      rw [rns_step s b pos hp, okFrom] at hc
      have HC : Hid (nameOf (runes s) = (decide (acc < 40) && fitsAt (acc == 0) ((Utf8.decode s pos).1 : Int) && okFrom (acc + 1) (rns s b (pos + (Utf8.decode s pos).2)))) := by
        refine (?_ : nameOf (runes s) = _)
        rw [HN.out, hc]
      have HC2 : Hid (okFrom 0 (rns s s.size 0) = (decide (acc < 40) && fitsAt (acc == 0) ((Utf8.decode s pos).1 : Int) && okFrom (acc + 1) (rns s b (pos + (Utf8.decode s pos).2)))) := hc
      clear hc
      by_cases h40 : acc = 40
      · subst h40
        have HX : Hid (nameOf (runes s) = false) := by
          refine (?_ : nameOf (runes s) = false)
          rw [HC.out]; simp
        clear HC HC2 HN
        go_wp2
        go_ret
        exact ⟨retB HX.out.symm, HB _⟩
      · have hlt : acc < 40 := by omega
        have h40' : ((acc : Int) == 40) = false := by simp; omega
        have hd : (decide (acc < 40)) = true := by simp [hlt]
        rw [hd] at HC HC2
        obtain ⟨F, hFF⟩ : ∃ F, fitsAt (acc == 0) ((Utf8.decode s pos).1 : Int) = F := ⟨_, rfl⟩
        have hf : ∀ W, Calls Tryz.prog 82 #[.int .i32 ((Utf8.decode s pos).1 : Int), .bool ((acc : Int) == 0)] W fun e w' => e = .returned (.bool F) ∧ w' = W := by
          intro W
          have := hF ((Utf8.decode s pos).1 : Int) (acc == 0) W
          rw [hFF] at this
          have e : ((acc : Int) == 0) = (acc == 0) := by rw [Bool.eq_iff_iff]; simp
          rw [e]; exact this
        rw [hFF] at HC HC2
        clear hF hFF hd
        cases F with
        | false =>
          have HX : Hid (nameOf (runes s) = false) := by
            refine (?_ : nameOf (runes s) = false)
            rw [HC.out]; simp
          clear HC HC2 HN
          go_wp2_with (go_at_call 82; refine (hf _).mono ?_; rintro e w' ⟨rfl, rfl⟩)
          go_ret
          exact ⟨retB HX.out.symm, HB _⟩
        | true =>
          have HX : Hid (okFrom 0 (rns s s.size 0) = okFrom (acc + 1) (rns s b (pos + (Utf8.decode s pos).2))) := by
            refine (?_ : okFrom 0 (rns s s.size 0) = _)
            rw [HC2.out]; simp
          clear HC HC2 HN
          go_wp2_with (go_at_call 82; refine (hf _).mono ?_; rintro e w' ⟨rfl, rfl⟩)
          go_roundw
          case rel => exact ⟨pos + (Utf8.decode s pos).2, b, acc + 1, rfl, by go_num, HX.out, by omega, by omega⟩
          case measure =>
            simp
            omega
    · have hnx : ∀ ty, (Instr.next (.pointer (some ⟨w.heap.size, 0, none⟩)) true ty).run Tryz.prog (w.iter s pos) = _ := fun ty => run_next_end w s pos ty hp
      have HX : Hid (nameOf (runes s) = decide (0 < acc)) := by
        refine (?_ : nameOf (runes s) = _)
        rw [HN.out, hc, rns_end s b pos hp, okFrom]
      clear hc HN hF
      by_cases h0 : acc = 0
      · subst h0
        go_wp2
        go_ret
        exact ⟨retB (by rw [HX.out]; simp), HB _⟩
      · go_wp2
        go_ret
        exact ⟨retB (by first | (rw [HX.out]; done) | (rw [HX.out]; simp; done) | (rw [HX.out]; simp; omega)), HB _⟩
end Go.Proofs.YtkhnicppcbgdiaaGreatDoor
