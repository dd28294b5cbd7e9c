/-
  The walks over the program's small functions on names of stubs.
  What the library functions that this program calls answer, as theorems over this translation: each is one application of a theorem of the given library. Nothing is proved of the program itself here.
  What the library functions that this program calls answer, as theorems over this translation: each is one application of a theorem of the given library. Nothing is proved of the program itself here.
-/
import Derived.Test.YtkhnicppcbgdiaaGreatDoorM1
import Derived.Test.YtkhnicppcbgdiaaGreatDoorM2
import Derived.Shelf.Strings.Shaped
import Derived.Shelf.LaysM
import Derived.Ground.NamesProg
import Derived.Test.YtkhnicppcbgdiaaGreatDoorProg
import Derived.Shelf.Strconv.Clone
import Derived.Shelf.Strings.Count
namespace Go.Proofs.YtkhnicppcbgdiaaGreatDoor
set_option linter.unusedVariables false
open Go.RowKit

set_option maxHeartbeats 1000000 in
theorem digitOrLine_any (r : Int) (w : World) :
    Calls Tryz.prog 94 #[.int .i32 r] w fun e w' => e = .returned (.bool (isDigit r || decide (r = 95))) ∧ w' = w := by
  have e : (isDigit r || decide (r = 95)) = decide (r = 95 ∨ (48 ≤ r ∧ r ≤ 57)) := by
    unfold isDigit; rw [Bool.eq_iff_iff]; simp; omega
  rw [e]
  clear e
  by_cases h1 : r = 95
  · subst h1
    go_enter Tryz.func94, Tryz.ntmps94
    go_wp2
    go_ret
    exact ⟨rfl, rfl⟩
  · have h1b : (r == 95) = false := by simpa using h1
    by_cases h2 : 48 ≤ r
    · by_cases h3 : r ≤ 57
      · go_enter Tryz.func94, Tryz.ntmps94
        go_wp2
        go_ret
        exact ⟨retB (by rw [eq_comm, decide_eq_true_iff]; exact .inr ⟨h2, h3⟩), rfl⟩
      · go_enter Tryz.func94, Tryz.ntmps94
        go_wp2
        go_ret
        exact ⟨retB (by simp; omega), rfl⟩
    · go_enter Tryz.func94, Tryz.ntmps94
      go_wp2
      go_ret
      exact ⟨retB (by simp; omega), rfl⟩
/-- whether runes go on as a name behind so many -/
def mokFrom : Nat → List Int → Bool
  | acc, [] => decide (0 < acc)
  | acc, r :: t => decide (acc < 400) && fitsAt (acc == 0) r && mokFrom (acc + 1) t
theorem mokFrom_pos : ∀ (l : List Int) (acc : Nat), 0 < acc → mokFrom acc l = (decide (acc + l.length ≤ 400 ∨ l = []) && l.all nameRune)
  | [], acc, h => by simp [mokFrom, h]
  | r :: t, acc, h => by
    have h0 : (acc == 0) = false := by simp; omega
    rw [mokFrom, mokFrom_pos t (acc + 1) (by omega), h0, ← nameRune_fits, List.all_cons]
    have e : (decide (acc < 400) && decide (acc + 1 + t.length ≤ 400 ∨ t = [])) = decide (acc + (r :: t).length ≤ 400 ∨ r :: t = []) := by
      rw [Bool.eq_iff_iff]
      simp only [Bool.and_eq_true, decide_eq_true_iff, List.length_cons, reduceCtorEq, or_false]
      constructor
      · rintro ⟨a, b | b⟩
        · omega
        · subst b; simp; omega
      · intro a; exact ⟨by omega, .inl (by omega)⟩
    rw [← e]
    generalize decide (acc < 400) = a; generalize decide (acc + 1 + t.length ≤ 400 ∨ t = []) = b; generalize nameRune r = c; generalize t.all nameRune = d
    cases a <;> cases b <;> cases c <;> cases d <;> rfl
theorem mokFrom_msg (l : List Int) : mokFrom 0 l = msgN l := by
  cases l with
  | nil => simp [mokFrom, msgN]
  | cons r t =>
    rw [mokFrom, mokFrom_pos t 1 (by omega)]
    unfold msgN
    have e1 : fitsAt (0 == 0) r = isLetter r := by unfold fitsAt; simp
    rw [e1]
    have e2 : decide (1 ≤ (r :: t).length ∧ (r :: t).length ≤ 400) = decide (1 + t.length ≤ 400 ∨ t = []) := by
      rw [Bool.eq_iff_iff]
      simp only [decide_eq_true_iff, List.length_cons]
      constructor
      · intro a; exact .inl (by omega)
      · rintro (a | a)
        · omega
        · subst a; simp
    rw [e2, List.all_cons]
    have e3 : isLetter r = true → nameRune r = true := fun h => by unfold nameRune; rw [h]; rfl
    simp only [List.headD_cons]
    revert e3
    generalize isLetter r = a; generalize decide (1 + t.length ≤ 400 ∨ t = []) = b; generalize nameRune r = c; generalize t.all nameRune = d
    cases a <;> cases b <;> cases c <;> cases d <;> simp
set_option maxHeartbeats 2000000 in
theorem messageName_any (s : ByteArray) (w : World) (hs : s.size < 9223372036854775807) :
    Calls Tryz.prog 74 #[.string s] w fun e w' => e = .returned (.bool (msgN (runes s))) ∧ Below w.heap.size w w' := by
  have hF := fun r W => letter_any r W
  have hG := fun r W => digitOrLine_any r W
  have HN : Hid (msgN (runes s) = mokFrom 0 (rns s s.size 0)) := (mokFrom_msg (runes s)).symm
  go_enter Tryz.func74, Tryz.ntmps74
  go_wp2
  go_loopw [3] (fun n w' => ∃ (pos b acc : Nat), w' = w.iter s pos ∧ n = .int .i64 acc ∧ mokFrom 0 (rns s s.size 0) = mokFrom acc (rns s b pos) ∧ s.size ≤ pos + b ∧ acc ≤ 400) (fun _ w' => s.size - w'.iterPos w.heap.size)
  case atStart => exact ⟨0, s.size, 0, rfl, rfl, rfl, by omega, by omega⟩
  case round =>
    obtain ⟨pos, b, acc, rfl, rfl, hc, hb, ha⟩ := hrel
    have HB : ∀ p, Below w.heap.size w (w.iter s p) := fun p => (Below.refl _ w).alloc (Nat.le_refl _) _
    by_cases hp : pos < s.size
    · have hnx : ∀ ty, (Instr.next (.pointer (some ⟨w.heap.size, 0, none⟩)) true ty).run Tryz.prog (w.iter s pos) = _ := fun ty => run_next_any w s pos ty hp
      have hwd := width_pos s pos hp
      obtain ⟨b, rfl⟩ : ∃ b', b = b' + 1 := ⟨b - 1, by omega⟩
      rw [rns_step s b pos hp, mokFrom] at hc
      have HC : Hid (msgN (runes s) = (decide (acc < 400) && fitsAt (acc == 0) ((Utf8.decode s pos).1 : Int) && mokFrom (acc + 1) (rns s b (pos + (Utf8.decode s pos).2)))) := by
        refine (?_ : msgN (runes s) = _)
        rw [HN.out, hc]
      have HC2 : Hid (mokFrom 0 (rns s s.size 0) = (decide (acc < 400) && fitsAt (acc == 0) ((Utf8.decode s pos).1 : Int) && mokFrom (acc + 1) (rns s b (pos + (Utf8.decode s pos).2)))) := hc
      clear hc
      by_cases h400 : acc = 400
      · subst h400
        have HX : Hid (msgN (runes s) = false) := by
          refine (?_ : msgN (runes s) = false)
          rw [HC.out]; simp
        clear HC HC2 HN
        go_wp2
        go_ret
        exact ⟨retB HX.out.symm, HB _⟩
      · have hlt : acc < 400 := by omega
        have h400' : ((acc : Int) == 400) = false := by simp; omega
        have hd : (decide (acc < 400)) = true := by simp [hlt]
        rw [hd] at HC HC2
        have hfit : fitsAt (acc == 0) ((Utf8.decode s pos).1 : Int) = (isLetter ((Utf8.decode s pos).1 : Int) || (!(acc == 0) && (isDigit ((Utf8.decode s pos).1 : Int) || decide (((Utf8.decode s pos).1 : Int) = 95)))) := by
          unfold fitsAt
          generalize isLetter ((Utf8.decode s pos).1 : Int) = a; generalize isDigit ((Utf8.decode s pos).1 : Int) = b; generalize decide (((Utf8.decode s pos).1 : Int) = 95) = c; generalize (acc == 0) = d
          cases a <;> cases b <;> cases c <;> cases d <;> rfl
        have hf := fun W => hF ((Utf8.decode s pos).1 : Int) W
        have hg := fun W => hG ((Utf8.decode s pos).1 : Int) W
        rw [hfit] at HC HC2
        clear hF hG hfit hd
        generalize isLetter ((Utf8.decode s pos).1 : Int) = L at *
        generalize (isDigit ((Utf8.decode s pos).1 : Int) || decide (((Utf8.decode s pos).1 : Int) = 95)) = D at *
        by_cases h00 : acc = 0
        · subst h00
          cases L with
          | false =>
            have HX : Hid (msgN (runes s) = false) := by
              refine (?_ : msgN (runes s) = false)
              rw [HC.out]; simp
            clear HC HC2 HN hg
            go_wp2_with (go_at_call 93; refine (hf _).mono ?_; rintro e w' ⟨rfl, rfl⟩)
            go_ret
            exact ⟨retB HX.out.symm, HB _⟩
          | true =>
            have HX : Hid (mokFrom 0 (rns s s.size 0) = mokFrom (0 + 1) (rns s b (pos + (Utf8.decode s pos).2))) := by
              refine (?_ : mokFrom 0 (rns s s.size 0) = _)
              rw [HC2.out]; simp
            clear HC HC2 HN hg
            go_wp2_with (go_at_call 93; refine (hf _).mono ?_; rintro e w' ⟨rfl, rfl⟩)
            go_roundw
            case rel => exact ⟨pos + (Utf8.decode s pos).2, b, 0 + 1, rfl, by go_num, HX.out, by omega, by omega⟩
            case measure =>
              simp
              omega
        · have h0b : ((acc : Int) == 0) = false := by simp; omega
          have h0c : (acc == 0) = false := by simp; omega
          rw [h0c] at HC HC2
          cases L with
          | true =>
            have HX : Hid (mokFrom 0 (rns s s.size 0) = mokFrom (acc + 1) (rns s b (pos + (Utf8.decode s pos).2))) := by
              refine (?_ : mokFrom 0 (rns s s.size 0) = _)
              rw [HC2.out]; simp
            clear HC HC2 HN hg
            go_wp2_with (go_at_call 93; refine (hf _).mono ?_; rintro e w' ⟨rfl, rfl⟩)
            go_roundw
            case rel => exact ⟨pos + (Utf8.decode s pos).2, b, acc + 1, rfl, by go_num, HX.out, by omega, by omega⟩
            case measure =>
              simp
              omega
          | false =>
            cases D with
            | false =>
              have HX : Hid (msgN (runes s) = false) := by
                refine (?_ : msgN (runes s) = false)
                rw [HC.out]; simp
              clear HC HC2 HN
              go_wp2_with (first
                | (go_at_call 93; refine (hf _).mono ?_; rintro e w' ⟨rfl, rfl⟩)
                | (go_at_call 94; refine (hg _).mono ?_; rintro e w' ⟨rfl, rfl⟩))
              go_ret
              exact ⟨retB HX.out.symm, HB _⟩
            | true =>
              have HX : Hid (mokFrom 0 (rns s s.size 0) = mokFrom (acc + 1) (rns s b (pos + (Utf8.decode s pos).2))) := by
                refine (?_ : mokFrom 0 (rns s s.size 0) = _)
                rw [HC2.out]; simp
              clear HC HC2 HN
              go_wp2_with (first
                | (go_at_call 93; refine (hf _).mono ?_; rintro e w' ⟨rfl, rfl⟩)
                | (go_at_call 94; refine (hg _).mono ?_; rintro e w' ⟨rfl, rfl⟩))
              go_roundw
              case rel => exact ⟨pos + (Utf8.decode s pos).2, b, acc + 1, rfl, by go_num, HX.out, by omega, by omega⟩
              case measure =>
                simp
                omega
    · have hnx : ∀ ty, (Instr.next (.pointer (some ⟨w.heap.size, 0, none⟩)) true ty).run Tryz.prog (w.iter s pos) = _ := fun ty => run_next_end w s pos ty hp
      have HX : Hid (msgN (runes s) = decide (0 < acc)) := by
        refine (?_ : msgN (runes s) = _)
        rw [HN.out, hc, rns_end s b pos hp, mokFrom]
      clear hc HN hF hG
      by_cases h0 : acc = 0
      · subst h0
        go_wp2
        go_ret
        exact ⟨retB (by rw [HX.out]; simp), HB _⟩
      · go_wp2
        go_ret
        exact ⟨retB (by first | (rw [HX.out]; done) | (rw [HX.out]; simp; done) | (rw [HX.out]; simp; omega)), HB _⟩

theorem mkB_sz (l : List UInt8) : (mkB l).size = l.length := by show l.toArray.size = _; simp
theorem index_contains : ∀ (l : List UInt8) (c : UInt8), decide (0 ≤ Lib.indexByte l c) = l.contains c
  | [], c => rfl
  | b :: l, c => by
    have ih := index_contains l c
    have hge : -1 ≤ Lib.indexByte l c := Lib.indexByte_ge l c
    unfold Lib.indexByte
    rw [List.contains_cons, ← ih]
    by_cases h : b = c
    · subst h; simp
    · have h1 : (b == c) = false := by simpa using h
      have h2 : (c == b) = false := by simpa using Ne.symm h
      rw [h1, h2]
      by_cases h3 : Lib.indexByte l c = -1
      · simp [h3]
      · have h4 : (Lib.indexByte l c == -1) = false := by simpa using h3
        rw [h4]
        simp only [Bool.false_eq_true, if_false, Bool.false_or]
        rw [Bool.eq_iff_iff]; simp only [decide_eq_true_iff]; omega
set_option maxHeartbeats 1000000 in
theorem camelName_any (l : List UInt8) (w : World) (hs : l.length ≤ 1000000000) :
    Calls Tryz.prog 73 #[.string (mkB l)] w fun e w' => e = .returned (.bool (camB l)) ∧ Below w.heap.size w w' := by
  have h := name_any (mkB l) w (by rw [mkB_sz]; omega)
  have hc := fun W => strings_Contains_one (mkB l) 95 W
  have e1 : (mkB l).data.toList = l := by simp [mkB]
  rw [e1, index_contains] at hc
  have HE : Hid (camB l = (nameOf (runes (mkB l)) && !l.contains 95)) := rfl
  generalize nameOf (runes (mkB l)) = N at *
  generalize l.contains 95 = C at *
  cases N
  · go_enter Tryz.func73, Tryz.ntmps73
    go_wp2_with fail
    refine h.mono ?_
    rintro e w1 ⟨rfl, hb⟩
    go_wp2_with fail
    go_ret
    exact ⟨retB (by rw [HE.out]; rfl), hb⟩
  · go_enter Tryz.func73, Tryz.ntmps73
    go_wp2_with fail
    refine h.mono ?_
    rintro e w1 ⟨rfl, hb⟩
    go_wp2_with fail
    refine (hc _).mono ?_
    rintro e w' ⟨rfl, rfl⟩
    go_wp2_with fail
    go_ret
    exact ⟨retB (by rw [HE.out]; rfl), hb⟩
end Go.Proofs.YtkhnicppcbgdiaaGreatDoor
namespace Go.Proofs.YtkhnicppcbgdiaaGreatDoor
open Go.Shelf
def laysM145_ren : Go.Shelf.Ren := ⟨fun | 145 => 44 | 220 => 71 | 219 => 90 | 217 => 106 | 225 => 107 | 224 => 108 | 267 => 109 | 266 => 121 | 314 => 122 | n => n, fun | 9 => 9 | 4 => 4 | 59 => 93 | 3 => 3 | 5 => 5 | 46 => 40 | 146 => 155 | 51 => 133 | n => n, fun | 1 => 2 | n => n⟩
theorem laysM145 : Go.Proofs.LaysM.n145 Tryz.prog laysM145_ren := {
  mixed := by kernel_rfl
  f145 := Tryz.func44.trans (congrArg some (by kernel_rfl))
  f217 := Tryz.func106.trans (congrArg some (by kernel_rfl))
  f219 := Tryz.func90.trans (congrArg some (by kernel_rfl))
  f220 := Tryz.func71.trans (congrArg some (by kernel_rfl))
  f224 := Tryz.func108.trans (congrArg some (by kernel_rfl))
  f225 := Tryz.func107.trans (congrArg some (by kernel_rfl))
  f266 := Tryz.func121.trans (congrArg some (by kernel_rfl))
  f267 := Tryz.func109.trans (congrArg some (by kernel_rfl))
  f314 := Tryz.func122.trans (congrArg some (by kernel_rfl))
  t3 := Tryz.underlying3
  a3 := Tryz.isAgg3
  z3 := Tryz.sizeOf3
  v3 := Tryz.zeroValue3
  t4 := Tryz.underlying4
  a4 := Tryz.isAgg4
  z4 := Tryz.sizeOf4
  v4 := Tryz.zeroValue4
  t5 := Tryz.underlying5
  a5 := Tryz.isAgg5
  z5 := Tryz.sizeOf5
  v5 := Tryz.zeroValue5
  t9 := Tryz.underlying9
  a9 := Tryz.isAgg9
  z9 := Tryz.sizeOf9
  v9 := Tryz.zeroValue9
  t46 := Tryz.underlying40
  a46 := Tryz.isAgg40
  z46 := Tryz.sizeOf40
  v46 := Tryz.zeroValue40
  t51 := Tryz.underlying133
  a51 := Tryz.isAgg133
  z51 := Tryz.sizeOf133
  v51 := Tryz.zeroValue133
  t59 := Tryz.underlying93
  a59 := Tryz.isAgg93
  z59 := Tryz.sizeOf93
  v59 := Tryz.zeroValue93
  t146 := Tryz.underlying155
  a146 := Tryz.isAgg155
  z146 := Tryz.sizeOf155
  v146 := Tryz.zeroValue155
  g1 := by kernel_rfl
  i3 := by kernel_rfl
  i4 := by kernel_rfl
  i5 := by kernel_rfl
  i9 := by kernel_rfl
  i46 := by kernel_rfl
  i51 := by kernel_rfl
  i59 := by kernel_rfl
  i146 := by kernel_rfl
  m1 := by kernel_rfl
  s1_3 := fun w h => Go.Proofs.cell_of_shapedOpen_int (zero := #[.int .i64 0]) (t := 3) h (of_decide_eq_true (by kernel_rfl)) (by kernel_rfl) rfl (by kernel_rfl) (by kernel_rfl) Tryz.underlying3 }
open Go.RowKit Go.Lib in
theorem strings_Cut_shaped (s sep : ByteArray) (w : World) (h : w.ShapedOpen Tryz.prog) (hs : s.size < 4294967281) :
    Calls Tryz.prog 44 #[.string s, .string sep] w fun e w' => e = .returned (.tuple #[.string ⟨(Lib.cut s.data.toList sep.data.toList).1.toArray⟩, .string ⟨(Lib.cut s.data.toList sep.data.toList).2.1.toArray⟩, .bool (Lib.cut s.data.toList sep.data.toList).2.2]) ∧ ∃ n, w' = w.drewN n := Any.strings_Cut_shaped laysM145 s sep w h hs
end Go.Proofs.YtkhnicppcbgdiaaGreatDoor
namespace Go.Proofs.YtkhnicppcbgdiaaGreatDoor
open Go.Shelf
def laysM316_ren : Go.Shelf.Ren := ⟨fun | 316 => 84 | n => n, fun | 9 => 9 | 3 => 3 | 4 => 4 | 37 => 41 | 0 => 0 | 127 => 113 | 5 => 5 | n => n, fun | n => n⟩
theorem laysM316 : Go.Proofs.LaysM.n316 Tryz.prog laysM316_ren := {
  mixed := by kernel_rfl
  f316 := Tryz.func84.trans (congrArg some (by kernel_rfl))
  t0 := Tryz.underlying0
  a0 := Tryz.isAgg0
  z0 := Tryz.sizeOf0
  v0 := Tryz.zeroValue0
  t3 := Tryz.underlying3
  a3 := Tryz.isAgg3
  z3 := Tryz.sizeOf3
  v3 := Tryz.zeroValue3
  t4 := Tryz.underlying4
  a4 := Tryz.isAgg4
  z4 := Tryz.sizeOf4
  v4 := Tryz.zeroValue4
  t9 := Tryz.underlying9
  a9 := Tryz.isAgg9
  z9 := Tryz.sizeOf9
  v9 := Tryz.zeroValue9
  t37 := Tryz.underlying41
  a37 := Tryz.isAgg41
  z37 := Tryz.sizeOf41
  v37 := Tryz.zeroValue41
  t127 := Tryz.underlying113
  a127 := Tryz.isAgg113
  z127 := Tryz.sizeOf113
  v127 := Tryz.zeroValue113
  t5 := Tryz.underlying5
  a5 := Tryz.isAgg5
  z5 := Tryz.sizeOf5
  v5 := Tryz.zeroValue5
  i0 := by kernel_rfl
  i3 := by kernel_rfl
  i4 := by kernel_rfl
  i5 := by kernel_rfl
  i9 := by kernel_rfl
  i37 := by kernel_rfl
  i127 := by kernel_rfl }
open Go.RowKit in
theorem stringslite_Clone (s : ByteArray) (w : World) (hlim : s.size ≤ 281474976710656) :
    Calls Tryz.prog 84 #[.string s] w fun e w' => e = .returned (.string s) ∧ Below w.heap.size w w' := Any.stringslite_Clone laysM316 s w hlim
def lays138_ren : Go.Shelf.Ren := ⟨fun | 138 => 97 | 195 => 112 | 218 => 113 | 143 => 99 | 219 => 90 | 217 => 106 | 225 => 107 | 224 => 108 | 267 => 109 | 266 => 121 | 314 => 122 | n => n, fun | 9 => 9 | 3 => 3 | 4 => 4 | 5 => 5 | 0 => 0 | 46 => 40 | 146 => 155 | 51 => 133 | n => n, fun | 1 => 2 | n => n⟩
theorem lays138 : Go.Proofs.Lays.n138 Tryz.prog lays138_ren := {
  mixed := by kernel_rfl
  f138 := Tryz.func97.trans (congrArg some (by kernel_rfl))
  f143 := Tryz.func99.trans (congrArg some (by kernel_rfl))
  f195 := Tryz.func112.trans (congrArg some (by kernel_rfl))
  f217 := Tryz.func106.trans (congrArg some (by kernel_rfl))
  f218 := Tryz.func113.trans (congrArg some (by kernel_rfl))
  f219 := Tryz.func90.trans (congrArg some (by kernel_rfl))
  f224 := Tryz.func108.trans (congrArg some (by kernel_rfl))
  f225 := Tryz.func107.trans (congrArg some (by kernel_rfl))
  f266 := Tryz.func121.trans (congrArg some (by kernel_rfl))
  f267 := Tryz.func109.trans (congrArg some (by kernel_rfl))
  f314 := Tryz.func122.trans (congrArg some (by kernel_rfl))
  t0 := Tryz.underlying0
  a0 := Tryz.isAgg0
  z0 := Tryz.sizeOf0
  v0 := Tryz.zeroValue0
  t3 := Tryz.underlying3
  a3 := Tryz.isAgg3
  z3 := Tryz.sizeOf3
  v3 := Tryz.zeroValue3
  t4 := Tryz.underlying4
  a4 := Tryz.isAgg4
  z4 := Tryz.sizeOf4
  v4 := Tryz.zeroValue4
  t5 := Tryz.underlying5
  a5 := Tryz.isAgg5
  z5 := Tryz.sizeOf5
  v5 := Tryz.zeroValue5
  t9 := Tryz.underlying9
  a9 := Tryz.isAgg9
  z9 := Tryz.sizeOf9
  v9 := Tryz.zeroValue9
  t46 := Tryz.underlying40
  a46 := Tryz.isAgg40
  z46 := Tryz.sizeOf40
  v46 := Tryz.zeroValue40
  t51 := Tryz.underlying133
  a51 := Tryz.isAgg133
  z51 := Tryz.sizeOf133
  v51 := Tryz.zeroValue133
  t146 := Tryz.underlying155
  a146 := Tryz.isAgg155
  z146 := Tryz.sizeOf155
  v146 := Tryz.zeroValue155
  g1 := by kernel_rfl }
open Go.RowKit Go.Lib in
theorem strings_Count_one (s : ByteArray) (c : UInt8) (w : World) :
    Calls Tryz.prog 97 #[.string s, .string ⟨#[c]⟩] w fun e w' => e = .returned (.int .i64 (Lib.countByte s.data.toList c)) ∧ w' = w := Any.strings_Count_one lays138 s c w
end Go.Proofs.YtkhnicppcbgdiaaGreatDoor
