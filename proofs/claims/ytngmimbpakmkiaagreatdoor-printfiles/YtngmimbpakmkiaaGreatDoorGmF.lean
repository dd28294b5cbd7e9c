/-
  What the library functions that this program calls answer, as theorems over this translation: each is one application of a theorem of the given library. Nothing is proved of the program itself here.
  The two tables of the library that the row lists, as the word of this seat. Nothing is proved of the program here.
  The runes of a text, and the walks over the document's own Letter, digit and Runes: of a valid text its runes come, in new memory; else none.
  The walk over the document's own Name: whether a text is a name.
  A name's text is valid; the library's tables stand behind calls. Nothing is proved of the program here.
  The walks over the document's own Scalar and Reserved.
  The walks over the document's own next, run, number and right.
  The walks over the document's own number and right.
  A slice of words that grows, and what the document's own Words keeps in memory while it goes along a text. Nothing is proved of the program here.
-/
import Derived.Shelf.Unicode.DecodeAny
import Derived.Shelf.Unicode.ValidAny
import Derived.Ground.NamesProg
import Derived.Shelf.LaysM
import Derived.Shelf.LaysC
import Derived.Test.YtngmimbpakmkiaaGreatDoorProg
import Derived.Below
import Derived.Test.YtngmimbpakmkiaaGreatDoorGmA
import Derived.WalkKit
import Derived.ProofKit
import Derived.Laws.IdiomStrings
import Derived.Lib.ValidLaws
import Derived.Lib.TrimUEq
import Derived.Laws.AppendOwn
import Derived.OwnWalk
namespace Go.Proofs.YtngmimbpakmkiaaGreatDoor
open Go.Shelf
def lays197_ren : Go.Shelf.Ren := ⟨fun | 197 => 82 | 260 => 119 | n => n, fun | 9 => 9 | 21 => 21 | 3 => 3 | 4 => 4 | 5 => 5 | 105 => 112 | 119 => 176 | 0 => 0 | 46 => 129 | 139 => 179 | 138 => 178 | n => n, fun | 3 => 1 | 4 => 2 | n => n⟩
theorem lays197 : Go.Proofs.Lays.n197 Tryz.prog lays197_ren := {
  mixed := by kernel_rfl
  f197 := Tryz.func82.trans (congrArg some (by kernel_rfl))
  f260 := Tryz.func119.trans (congrArg some (by kernel_rfl))
  t0 := Tryz.underlying0
  a0 := Tryz.isAgg0
  z0 := Tryz.sizeOf0
  v0 := Tryz.zeroValue0
  t3 := Tryz.underlying3
  a3 := Tryz.isAgg3
  z3 := Tryz.sizeOf3
  v3 := Tryz.zeroValue3
  t4 := Tryz.underlying4
  a4 := Tryz.isAgg4
  z4 := Tryz.sizeOf4
  v4 := Tryz.zeroValue4
  t5 := Tryz.underlying5
  a5 := Tryz.isAgg5
  z5 := Tryz.sizeOf5
  v5 := Tryz.zeroValue5
  t9 := Tryz.underlying9
  a9 := Tryz.isAgg9
  z9 := Tryz.sizeOf9
  v9 := Tryz.zeroValue9
  t21 := Tryz.underlying21
  a21 := Tryz.isAgg21
  z21 := Tryz.sizeOf21
  v21 := Tryz.zeroValue21
  t46 := Tryz.underlying129
  a46 := Tryz.isAgg129
  z46 := Tryz.sizeOf129
  v46 := Tryz.zeroValue129
  t105 := Tryz.underlying112
  a105 := Tryz.isAgg112
  z105 := Tryz.sizeOf112
  v105 := Tryz.zeroValue112
  t119 := Tryz.underlying176
  a119 := Tryz.isAgg176
  z119 := Tryz.sizeOf176
  t138 := Tryz.underlying178
  a138 := Tryz.isAgg178
  z138 := Tryz.sizeOf178
  v138 := Tryz.zeroValue178
  t139 := Tryz.underlying179
  a139 := Tryz.isAgg179
  z139 := Tryz.sizeOf179
  v139 := Tryz.zeroValue179
  g3 := by kernel_rfl
  g4 := by kernel_rfl }
open Go.RowKit Go.Lib in
theorem utf8_DecodeRuneInString (s : ByteArray) (w : World) (hT : Lib.Utf8Tabs 1 2 w) :
    Calls Tryz.prog 82 #[.string s] w fun e w' => e = .returned (.tuple #[.int .i32 (Lib.decodeGo s).1, .int .i64 (Lib.decodeGo s).2]) ∧ Below w.heap.size w w' := Any.utf8_DecodeRuneInString lays197 s w hT
def lays196_ren : Go.Shelf.Ren := ⟨fun | 196 => 137 | 259 => 155 | n => n, fun | 9 => 9 | 4 => 4 | 3 => 3 | 5 => 5 | 12 => 12 | 119 => 176 | 0 => 0 | 46 => 129 | 139 => 179 | 138 => 178 | 53 => 157 | n => n, fun | 3 => 1 | 4 => 2 | n => n⟩
theorem lays196 : Go.Proofs.Lays.n196 Tryz.prog lays196_ren := {
  mixed := by kernel_rfl
  f196 := Tryz.func137.trans (congrArg some (by kernel_rfl))
  f259 := Tryz.func155.trans (congrArg some (by kernel_rfl))
  t0 := Tryz.underlying0
  a0 := Tryz.isAgg0
  z0 := Tryz.sizeOf0
  v0 := Tryz.zeroValue0
  t3 := Tryz.underlying3
  a3 := Tryz.isAgg3
  z3 := Tryz.sizeOf3
  v3 := Tryz.zeroValue3
  t4 := Tryz.underlying4
  a4 := Tryz.isAgg4
  z4 := Tryz.sizeOf4
  v4 := Tryz.zeroValue4
  t5 := Tryz.underlying5
  a5 := Tryz.isAgg5
  z5 := Tryz.sizeOf5
  v5 := Tryz.zeroValue5
  t9 := Tryz.underlying9
  a9 := Tryz.isAgg9
  z9 := Tryz.sizeOf9
  v9 := Tryz.zeroValue9
  t12 := Tryz.underlying12
  a12 := Tryz.isAgg12
  z12 := Tryz.sizeOf12
  v12 := Tryz.zeroValue12
  t46 := Tryz.underlying129
  a46 := Tryz.isAgg129
  z46 := Tryz.sizeOf129
  v46 := Tryz.zeroValue129
  t53 := Tryz.underlying157
  a53 := Tryz.isAgg157
  z53 := Tryz.sizeOf157
  v53 := Tryz.zeroValue157
  t119 := Tryz.underlying176
  a119 := Tryz.isAgg176
  z119 := Tryz.sizeOf176
  t138 := Tryz.underlying178
  a138 := Tryz.isAgg178
  z138 := Tryz.sizeOf178
  v138 := Tryz.zeroValue178
  t139 := Tryz.underlying179
  a139 := Tryz.isAgg179
  z139 := Tryz.sizeOf179
  v139 := Tryz.zeroValue179
  g3 := by kernel_rfl
  g4 := by kernel_rfl }
open Go.RowKit Go.Lib in
theorem utf8_ValidString (s : ByteArray) (w : World) (hs : s.size ≤ 9223372036854775807) (hT : Lib.Utf8Tabs (lays196_ren.g 3) (lays196_ren.g 4) w) :
    Calls Tryz.prog 137 #[.string s] w fun e w' => e = .returned (.bool (Lib.validD s.data.toList)) ∧ Below w.heap.size w w' := Any.utf8_ValidString lays196 s w hs hT
end Go.Proofs.YtngmimbpakmkiaaGreatDoor
namespace Go.Proofs.YtngmimbpakmkiaaGreatDoor
/-- the library's two tables lie in the world -/
def Tabs (w : World) : Prop := Lib.Utf8Tabs (lays196_ren.g 3) (lays196_ren.g 4) w
theorem tabs_below {w w' : World} (h : Tabs w) (hb : RowKit.Below w.heap.size w w') : Tabs w' := Utf8Tabs_below h hb
end Go.Proofs.YtngmimbpakmkiaaGreatDoor
namespace Go.Proofs.YtngmimbpakmkiaaGreatDoor
set_option linter.unusedVariables false
open Go.ChangeShapes Go.WideShapes Go.ChangeAt Go.RowKit

/-- runes lie in memory, from a block's first place on -/
def HeldR (w : World) (g : Nat) (rs : List Int) : Prop := ∀ j z, rs[j]? = some z → w.cell? ⟨g, j, none⟩ = some (.int .i32 z)
theorem heldR_old {w w' : World} {g : Nat} {rs : List Int} (h : HeldR w g rs) (hb : Below w.heap.size w w') : HeldR w' g rs := by
  intro j z hj
  have hc := h j z hj
  have hlt : g < w.heap.size := by
    by_cases hg : g < w.heap.size
    · exact hg
    · simp [World.cell?, Array.getElem?_eq_none (Nat.le_of_not_lt hg)] at hc
  rw [hb.cell hlt]; exact hc

set_option maxHeartbeats 1000000 in
theorem letterR_any (r : Int) (w : World) :
    Calls Tryz.prog 53 #[.int .i32 r] w fun e w' => e = .returned (.bool (isLetter r)) ∧ w' = w := by
  go_enter Tryz.func53, Tryz.ntmps53
  go_wp2
  all_goals
    go_ret
    refine ⟨retB ?_, rfl⟩
    unfold isLetter
    rw [Bool.eq_iff_iff]
    simp
    omega
set_option maxHeartbeats 1000000 in
theorem digitR_any (r : Int) (w : World) :
    Calls Tryz.prog 55 #[.int .i32 r] w fun e w' => e = .returned (.bool (isDigit r)) ∧ w' = w := by
  go_enter Tryz.func55, Tryz.ntmps55
  go_wp2
  all_goals
    go_ret
    refine ⟨retB ?_, rfl⟩
    unfold isDigit
    rw [Bool.eq_iff_iff]
    simp
    omega
/-- []rune(s) -/
theorem run_runes (s : ByteArray) (w : World) (h : s.size ≤ 70368744177664) :
    ∃ c w', (convert 9 163 (.string s)).run Tryz.prog w = .ok (.slice (some ⟨w.heap.size, 0, none⟩) (runes s).length c) w' ∧ HeldR w' w.heap.size (runes s) ∧ (runes s).length ≤ c ∧ Below w.heap.size w w' := by
  have hl := runes_len s
  have hr := run_runes_of_string (P := Tryz.prog) w 9 163 21 s Tryz.underlying9 Tryz.underlying163 Tryz.underlying21 (by rw [runes_eq]; simp; omega)
  rw [runes_eq] at hr
  simp only [List.size_toArray, List.length_map] at hr
  refine ⟨_, _, hr, ?_, grownCap_ge _ _ _ _, ((Below.refl _ _).drew).alloc (by simp) _⟩
  intro j z hj
  have hlt := (List.getElem?_eq_some_iff.1 hj).1
  have e : (w.drew.alloc (.cells (((runes s).map (Value.int .i32)).toArray ++ Array.replicate (grownCap w (runes s).length 0 21 - (runes s).length) (.int .i32 0)) 21)).cell? ⟨w.drew.heap.size, j, none⟩ = (((runes s).map (Value.int .i32)).toArray ++ Array.replicate (grownCap w (runes s).length 0 21 - (runes s).length) (.int .i32 0))[j]? := World.cell?_alloc_new _ _ _ _
  have e2 : w.drew.heap.size = w.heap.size := rfl
  rw [e2] at e
  rw [e, Array.getElem?_append_left (by simpa using hlt)]
  simp [hj]
set_option maxHeartbeats 2000000 in
set_option maxRecDepth 20000 in
theorem runesR_any (s : ByteArray) (w : World) (hT : Tabs w) (h : s.size ≤ 70368744177664) :
    Calls Tryz.prog 120 #[.string s] w fun e w' =>
      (if Lib.validD s.data.toList = true then ∃ g c, e = .returned (.tuple #[.slice (some ⟨g, 0, none⟩) (runes s).length c, .bool true]) ∧ HeldR w' g (runes s) ∧ (runes s).length ≤ c
        else e = .returned (.tuple #[.slice none 0 0, .bool false])) ∧ Below w.heap.size w w' := by
  have hv := utf8_ValidString s w (by omega) hT
  obtain ⟨V, hV⟩ : ∃ V, Lib.validD s.data.toList = V := ⟨_, rfl⟩
  rw [hV] at hv ⊢
  cases V with
  | false =>
    go_enter Tryz.func120, Tryz.ntmps120
    go_wp2_with fail
    refine hv.mono ?_
    rintro e w1 ⟨rfl, hb⟩
    go_wp2_with fail
    go_ret2
    exact ⟨rfl, hb⟩
  | true =>
    go_enter Tryz.func120, Tryz.ntmps120
    go_wp2_with fail
    refine hv.mono ?_
    rintro e w1 ⟨rfl, hb⟩
    obtain ⟨c, w2, hr, hH, hc, hb2⟩ := run_runes s w1 h
    go_wp2_with fail
    go_ret2
    exact ⟨⟨_, c, rfl, hH, hc⟩, hb.trans (hb2.mono hb.size)⟩
end Go.Proofs.YtngmimbpakmkiaaGreatDoor
namespace Go.Proofs.YtngmimbpakmkiaaGreatDoor
set_option linter.unusedVariables false
open Go.ChangeShapes Go.WideShapes Go.ChangeAt Go.RowKit

/-- whether a text is a name -/
def isName (s : ByteArray) : Bool := Lib.validD s.data.toList && nameOf (runes s)
set_option maxHeartbeats 2000000 in
theorem nameR_any (s : ByteArray) (w : World) (hT : Tabs w) (h : s.size ≤ 70368744177664) :
    Calls Tryz.prog 83 #[.string s] w fun e w' => e = .returned (.bool (isName s)) ∧ Below w.heap.size w w' := by
  have hR := runesR_any s w hT h
  have hrl := runes_len s
  unfold isName
  obtain ⟨V, hV⟩ : ∃ V, Lib.validD s.data.toList = V := ⟨_, rfl⟩
  rw [hV] at hR ⊢
  cases V with
  | false =>
    simp only [Bool.false_eq_true, if_false] at hR
    rw [Bool.false_and]
    go_enter Tryz.func83, Tryz.ntmps83
    go_wp2_with fail
    refine hR.mono ?_
    rintro e w1 ⟨rfl, hb⟩
    go_wp2_with fail
    go_ret
    exact ⟨rfl, hb⟩
  | true =>
    simp only [if_true] at hR
    rw [Bool.true_and]
    generalize runes s = l at *
    have HR : Hid (Calls Tryz.prog 120 #[.string s] w fun e w' => (∃ g c, e = .returned (.tuple #[.slice (some ⟨g, 0, none⟩) l.length c, .bool true]) ∧ HeldR w' g l ∧ l.length ≤ c) ∧ Below w.heap.size w w') := hR
    clear hR hV
    obtain ⟨n, hn⟩ : ∃ n, l.length = n := ⟨_, rfl⟩
    have HN : Hid (l.length = n) := hn
    rw [hn] at hrl
    clear hn
    have HNO : Hid (nameOf l = (decide (1 ≤ n ∧ n ≤ 40) && isLetter (l.headD 0) && l.all nameRune)) := by
      refine (?_ : nameOf l = _)
      unfold nameOf; rw [HN.out]
    by_cases h0 : n = 0
    · have HV : Hid (nameOf l = false) := by
        refine (?_ : nameOf l = false)
        rw [HNO.out, decide_eq_false (by omega)]; simp
      clear HNO
      go_enter Tryz.func83, Tryz.ntmps83
      go_wp2_with fail
      refine HR.out.mono ?_
      rintro e w1 ⟨⟨g, c, rfl, hH, hc⟩, hb⟩
      rw [HN.out, h0]
      clear hH
      go_wp2_with fail
      go_ret
      exact ⟨retB HV.out.symm, hb⟩
    · by_cases h40 : 40 < n
      · have HV : Hid (nameOf l = false) := by
          refine (?_ : nameOf l = false)
          rw [HNO.out, decide_eq_false (by omega)]; simp
        clear HNO
        go_enter Tryz.func83, Tryz.ntmps83
        go_wp2_with fail
        refine HR.out.mono ?_
        rintro e w1 ⟨⟨g, c, rfl, hH, hc⟩, hb⟩
        rw [HN.out]
        clear hH hc
        go_wp2_with fail
        go_ret
        exact ⟨retB HV.out.symm, hb⟩
      · obtain ⟨z0, hz0⟩ : ∃ z, l[0]? = some z := ⟨_, List.getElem?_eq_getElem (by have := HN.out; omega)⟩
        have hhd : l.headD 0 = z0 := by
          cases l with
          | nil => simp at hz0
          | cons a t => simpa using hz0
        obtain ⟨L0, hL0⟩ : ∃ L0, isLetter z0 = L0 := ⟨_, rfl⟩
        have HNV : Hid (nameOf l = (L0 && l.all nameRune)) := by
          refine (?_ : nameOf l = _)
          rw [HNO.out, decide_eq_true (by omega), hhd, hL0]; simp
        have HLe := fun W => letterR_any z0 W
        rw [hL0] at HLe
        clear HNO hhd hL0
        cases L0 with
        | false =>
          have HV : Hid (nameOf l = false) := by
            refine (?_ : nameOf l = false)
            rw [HNV.out]; simp
          go_enter Tryz.func83, Tryz.ntmps83
          go_wp2_with fail
          refine HR.out.mono ?_
          rintro e w1 ⟨⟨g, c, rfl, hH, hc⟩, hb⟩
          have hc0 := hH 0 z0 hz0
          rw [HN.out]
          rw [HN.out] at hc
          clear hH
          go_wp2_with fail
          refine (HLe _).mono ?_
          rintro e w2 ⟨rfl, rfl⟩
          go_wp2_with fail
          go_ret
          exact ⟨retB HV.out.symm, hb⟩
        | true =>
          have HV : Hid (nameOf l = l.all nameRune) := by
            refine (?_ : nameOf l = l.all nameRune)
            rw [HNV.out]; simp
          clear HNV
          go_enter Tryz.func83, Tryz.ntmps83
          go_wp2_with fail
          refine HR.out.mono ?_
          rintro e w1 ⟨⟨g, c, rfl, hH, hc⟩, hb⟩
          have hc0 := hH 0 z0 hz0
          rw [HN.out]
          rw [HN.out] at hc
          have HH : Hid (HeldR w1 g l) := hH
          have HB : Hid (Below w.heap.size w w1) := hb
          clear hH hb hz0
          go_wp2_with fail
          refine (HLe _).mono ?_
          rintro e w2 ⟨rfl, rfl⟩
          clear hc0 HLe
          go_wp2_with fail
          go_loop [32] (fun i => ∃ k : Nat, k ≤ n ∧ i = .int .i64 k ∧ l.all nameRune = (l.drop k).all nameRune) (fun i => n - (intOf i).toNat)
          case atStart => exact ⟨0, by omega, rfl, rfl⟩
          case round =>
            obtain ⟨k, hk, rfl, hall⟩ := hrel
            have HA : Hid (l.all nameRune = (l.drop k).all nameRune) := hall
            clear hall
            by_cases hlt : k < n
            · obtain ⟨z, hz⟩ : ∃ z, l[k]? = some z := ⟨_, List.getElem?_eq_getElem (by have := HN.out; omega)⟩
              have hcell := HH.out k z hz
              have HS : Hid (l.all nameRune = (nameRune z && (l.drop (k + 1)).all nameRune)) := by
                refine (?_ : l.all nameRune = _)
                rw [HA.out, all_drop hz]
              clear hz HA
              obtain ⟨Lz, hLz⟩ : ∃ Lz, isLetter z = Lz := ⟨_, rfl⟩
              obtain ⟨Dz, hDz⟩ : ∃ Dz, isDigit z = Dz := ⟨_, rfl⟩
              have hle := fun W => letterR_any z W
              have hdi := fun W => digitR_any z W
              rw [hLz] at hle
              rw [hDz] at hdi
              have HNR : Hid (nameRune z = (Lz || Dz || decide (z = 95))) := by
                refine (?_ : nameRune z = _)
                unfold nameRune; rw [hLz, hDz]
              clear hLz hDz
              cases Lz with
              | true =>
                have HX : Hid (l.all nameRune = (l.drop (k + 1)).all nameRune) := by
                  refine (?_ : l.all nameRune = _)
                  rw [HS.out, HNR.out]; simp
                clear HS HNR
                go_wp2_with fail
                refine (hle _).mono ?_
                rintro e w2 ⟨rfl, rfl⟩
                go_wp2_with fail
                go_round
                case rel => exact ⟨k + 1, by omega, by go_num, HX.out⟩
                case measure => simp [intOf]; omega
              | false =>
                cases Dz with
                | true =>
                  have HX : Hid (l.all nameRune = (l.drop (k + 1)).all nameRune) := by
                    refine (?_ : l.all nameRune = _)
                    rw [HS.out, HNR.out]; simp
                  clear HS HNR
                  go_wp2_with fail
                  refine (hle _).mono ?_
                  rintro e w2 ⟨rfl, rfl⟩
                  go_wp2_with fail
                  refine (hdi _).mono ?_
                  rintro e w2 ⟨rfl, rfl⟩
                  go_wp2_with fail
                  go_round
                  case rel => exact ⟨k + 1, by omega, by go_num, HX.out⟩
                  case measure => simp [intOf]; omega
                | false =>
                  by_cases hz95 : z = 95
                  · subst hz95
                    have HX : Hid (l.all nameRune = (l.drop (k + 1)).all nameRune) := by
                      refine (?_ : l.all nameRune = _)
                      rw [HS.out, HNR.out]; simp
                    clear HS HNR
                    go_wp2_with fail
                    refine (hle _).mono ?_
                    rintro e w2 ⟨rfl, rfl⟩
                    go_wp2_with fail
                    refine (hdi _).mono ?_
                    rintro e w2 ⟨rfl, rfl⟩
                    go_wp2_with fail
                    go_round
                    case rel => exact ⟨k + 1, by omega, by go_num, HX.out⟩
                    case measure => simp [intOf]; omega
                  · have HX : Hid (nameOf l = false) := by
                      refine (?_ : nameOf l = false)
                      rw [HV.out, HS.out, HNR.out]; simp [hz95]
                    have h95 : (z == 95) = false := by simpa using hz95
                    clear HS HNR
                    go_wp2_with fail
                    refine (hle _).mono ?_
                    rintro e w2 ⟨rfl, rfl⟩
                    go_wp2_with fail
                    refine (hdi _).mono ?_
                    rintro e w2 ⟨rfl, rfl⟩
                    go_wp2_with fail
                    go_ret
                    exact ⟨retB HX.out.symm, HB.out⟩
            · have HX : Hid (nameOf l = true) := by
                refine (?_ : nameOf l = true)
                rw [HV.out, HA.out, List.drop_eq_nil_of_le (by have := HN.out; omega)]; rfl
              clear HA
              go_wp2_with fail
              go_ret
              exact ⟨retB HX.out.symm, HB.out⟩
end Go.Proofs.YtngmimbpakmkiaaGreatDoor
namespace Go.Proofs.YtngmimbpakmkiaaGreatDoor
set_option linter.unusedVariables false
open Go.ChangeShapes Go.WideShapes Go.ChangeAt Go.RowKit

theorem valid_of_runes (s : ByteArray) : ∀ (b pos : Nat), s.size ≤ pos + b → (∀ r ∈ rns s b pos, r ≠ 65533) → Lib.validD (s.data.toList.drop pos) = true
  | b, pos, hb, h => by
    by_cases hp : pos < s.size
    · cases b with
      | zero => omega
      | succ b =>
        have hne : s.data.toList.drop pos ≠ [] := by
          intro e
          have := congrArg List.length e
          rw [List.length_drop, List.length_nil] at this
          have := len_data s
          omega
        rw [rns_step s b pos hp] at h
        have hw := width_pos s pos hp
        rw [Lib.validD_step _ hne, Lib.decodeL_drop, if_neg, List.drop_drop]
        · exact valid_of_runes s b (pos + (Utf8.decode s pos).2) (by omega) (fun r hr => h r (List.mem_cons_of_mem _ hr))
        · rintro ⟨h1, _⟩
          have := h _ List.mem_cons_self
          omega
    · have e : s.data.toList.drop pos = [] := List.drop_eq_nil_of_le (by rw [len_data]; omega)
      rw [e]; rfl
theorem valid_of_name (s : ByteArray) (h : nameOf (runes s) = true) : Lib.validD s.data.toList = true := by
  have := valid_of_runes s s.size 0 (by omega) (fun r hr => by
    have := two_of_name (name_all h r hr)
    unfold two at this; omega)
  simpa using this
theorem isName_eq (s : ByteArray) : isName s = nameOf (runes s) := by
  unfold isName
  by_cases h : nameOf (runes s) = true
  · rw [h, valid_of_name s h]; rfl
  · rw [Bool.not_eq_true] at h
    rw [h, Bool.and_false]
end Go.Proofs.YtngmimbpakmkiaaGreatDoor
namespace Go.Proofs.YtngmimbpakmkiaaGreatDoor
set_option linter.unusedVariables false
open Go.ChangeShapes Go.WideShapes Go.ChangeAt Go.RowKit

theorem retI {a b : Int} (h : a = b) : Ending.returned (.int .i64 a) = .returned (.int .i64 b) := by rw [h]
set_option maxHeartbeats 1000000 in
theorem scalarR_any (s : ByteArray) (w : World) :
    Calls Tryz.prog 94 #[.string s] w fun e w' => e = .returned (.int .i64 (scalarOf s.toList)) ∧ w' = w := by
  go_enter Tryz.func94, Tryz.ntmps94
  go_wp2
  all_goals
    go_ret
    refine ⟨retI ?_, rfl⟩
    unfold scalarOf
    simp [*]
set_option maxHeartbeats 1000000 in
theorem reservedR_any (s : ByteArray) (w : World) :
    Calls Tryz.prog 93 #[.string s] w fun e w' => e = .returned (.bool (resOf s.toList)) ∧ w' = w := by
  have hS := fun W => scalarR_any s W
  unfold resOf
  generalize scalarOf s.toList = k at *
  go_enter Tryz.func93, Tryz.ntmps93
  go_wp2_with (go_at_call 94; refine (hS _).mono ?_; rintro e w' ⟨rfl, rfl⟩)
  all_goals
    go_ret
    refine ⟨retB ?_, rfl⟩
    clear hS
    first
      | (simp [*]; done)
      | simp_all
end Go.Proofs.YtngmimbpakmkiaaGreatDoor
namespace Go.Proofs.YtngmimbpakmkiaaGreatDoor
set_option linter.unusedVariables false
open Go.ChangeShapes Go.WideShapes Go.ChangeAt Go.RowKit

theorem decodeL_data (s : ByteArray) : Lib.decodeL s.data.toList = Utf8.decode s 0 := by
  have := Lib.decodeL_drop s 0
  simpa using this
set_option maxHeartbeats 1000000 in
theorem nextR_any (s : ByteArray) (w : World) (hT : Tabs w) :
    Calls Tryz.prog 52 #[.string s] w fun e w' => e = .returned (.tuple #[.int .i32 (nx s.data.toList).1, .int .i64 ((nx s.data.toList).2 : Int)]) ∧ Below w.heap.size w w' := by
  have hD := utf8_DecodeRuneInString s w hT
  have hnx : nx s.data.toList = if (Lib.decodeGo s).1 = 65533 ∧ (Lib.decodeGo s).2 ≤ 1 then (-1, (Lib.decodeGo s).2) else (((Lib.decodeGo s).1 : Int), (Lib.decodeGo s).2) := by
    unfold nx Lib.decodeGo
    rw [decodeL_data]
    by_cases h0 : s.size = 0
    · have e : s.data.toList = [] := List.eq_nil_of_length_eq_zero (by rw [len_data]; exact h0)
      simp [e, h0]
    · have e : s.data.toList ≠ [] := by intro e; have := len_data s; rw [e] at this; simp at this; omega
      rw [if_neg e, if_neg h0]
  rw [hnx]
  clear hnx
  generalize (Lib.decodeGo s).1 = r at *
  generalize (Lib.decodeGo s).2 = n at *
  by_cases h : r = 65533 ∧ n ≤ 1
  · rw [if_pos h]
    obtain ⟨rfl, h1⟩ := h
    have h1' : (n : Int) ≤ 1 := by omega
    go_enter Tryz.func52, Tryz.ntmps52
    go_wp2_with fail
    refine hD.mono ?_
    rintro e w1 ⟨rfl, hb⟩
    go_wp2_with fail
    go_ret2
    exact ⟨rfl, hb⟩
  · rw [if_neg h]
    by_cases hr : r = 65533
    · subst hr
      have h1' : ¬ (n : Int) ≤ 1 := by omega
      clear h
      go_enter Tryz.func52, Tryz.ntmps52
      go_wp2_with fail
      refine hD.mono ?_
      rintro e w1 ⟨rfl, hb⟩
      go_wp2_with fail
      go_ret2
      exact ⟨rfl, hb⟩
    · have hr' : ((r : Int) == 65533) = false := beq_eq_false_iff_ne.2 (by omega)
      clear h
      go_enter Tryz.func52, Tryz.ntmps52
      go_wp2_with fail
      refine hD.mono ?_
      rintro e w1 ⟨rfl, hb⟩
      go_wp2_with fail
      go_ret2
      exact ⟨rfl, hb⟩

theorem runL_step (f : Nat) (l : List UInt8) (h : l ≠ []) (hr : nameRune (nx l).1 = true) : runL (f + 1) l = ((nx l).2 + (runL f (l.drop (nx l).2)).1, (runL f (l.drop (nx l).2)).2 + 1) := by rw [runL, if_pos ⟨h, hr⟩]
theorem runL_stop (f : Nat) (l : List UInt8) (h : l = [] ∨ nameRune (nx l).1 = false) : runL f l = (0, 0) := by
  cases f with
  | zero => rfl
  | succ f =>
    rw [runL, if_neg]
    rintro ⟨h1, h2⟩
    rcases h with h | h
    · exact h1 h
    · rw [h] at h2; simp at h2
theorem drop_ne {l : List UInt8} {k : Nat} (h : k < l.length) : l.drop k ≠ [] := by
  intro e; have := congrArg List.length e; rw [List.length_drop, List.length_nil] at this; omega
theorem retII {a b c d : Int} (h1 : a = c) (h2 : b = d) : Ending.returned (.tuple #[.int .i64 a, .int .i64 b]) = .returned (.tuple #[.int .i64 c, .int .i64 d]) := by rw [h1, h2]
set_option maxHeartbeats 2000000 in
theorem runR_any (s : ByteArray) (w : World) (hT : Tabs w) (hs : s.size ≤ 1048576) :
    Calls Tryz.prog 54 #[.string s] w fun e w' => e = .returned (.tuple #[.int .i64 ((runL s.size s.data.toList).1 : Int), .int .i64 ((runL s.size s.data.toList).2 : Int)]) ∧ Below w.heap.size w w' := by
  have HL : Hid (s.data.toList.length = s.size) := len_data s
  have hN := fun (k : Nat) W hTW => nextR_any (s.extract k s.size) W hTW
  have HX : Hid (∀ k, (s.extract k s.size).data.toList = s.data.toList.drop k) := fun k => Lib.extract_to_end s k
  obtain ⟨R1, hR1⟩ : ∃ R1, (runL s.size s.data.toList).1 = R1 := ⟨_, rfl⟩
  obtain ⟨R2, hR2⟩ : ∃ R2, (runL s.size s.data.toList).2 = R2 := ⟨_, rfl⟩
  rw [hR1, hR2]
  have HR1 : Hid ((runL s.size s.data.toList).1 = R1) := hR1
  have HR2 : Hid ((runL s.size s.data.toList).2 = R2) := hR2
  clear hR1 hR2
  go_enter Tryz.func54, Tryz.ntmps54
  go_wp2_with fail
  go_loopw [4, 5] (fun n m wr => ∃ (k q f : Nat), n = .int .i64 k ∧ m = .int .i64 q ∧ k ≤ s.size ∧ q ≤ k ∧ s.size ≤ k + f ∧ Below w.heap.size w wr ∧ (runL s.size s.data.toList).1 = k + (runL f (s.data.toList.drop k)).1 ∧ (runL s.size s.data.toList).2 = q + (runL f (s.data.toList.drop k)).2) (fun n _ _ => s.size - (intOf n).toNat)
  case atStart => exact ⟨0, 0, s.size, rfl, rfl, by omega, by omega, by omega, Below.refl _ _, by simp, by simp⟩
  case round =>
    obtain ⟨k, q, f, rfl, rfl, hk, hq, hf, hbw, e1, e2⟩ := hrel
    have E1 : Hid ((runL s.size s.data.toList).1 = k + (runL f (s.data.toList.drop k)).1) := e1
    have E2 : Hid ((runL s.size s.data.toList).2 = q + (runL f (s.data.toList.drop k)).2) := e2
    clear e1 e2
    have hTr := tabs_below hT hbw
    by_cases hlt : k < s.size
    · have hne : s.data.toList.drop k ≠ [] := drop_ne (by rw [HL.out]; exact hlt)
      have hwd := nx_width _ hne
      have hrb := nx_le (s.data.toList.drop k)
      have hNk := hN k wr hTr
      rw [HX.out] at hNk
      have hwl : (s.data.toList.drop k).length = s.size - k := by rw [List.length_drop, HL.out]
      have HST : Hid (∀ g, nameRune (nx (s.data.toList.drop k)).1 = true → runL (g + 1) (s.data.toList.drop k) = ((nx (s.data.toList.drop k)).2 + (runL g (s.data.toList.drop (k + (nx (s.data.toList.drop k)).2))).1, (runL g (s.data.toList.drop (k + (nx (s.data.toList.drop k)).2))).2 + 1)) := fun g h => by
        rw [runL_step g _ hne h, List.drop_drop]
      have HSO : Hid (∀ g, nameRune (nx (s.data.toList.drop k)).1 = false → runL g (s.data.toList.drop k) = (0, 0)) := fun g h => runL_stop g _ (.inr h)
      clear hN hne
      obtain ⟨f, rfl⟩ : ∃ f', f = f' + 1 := ⟨f - 1, by omega⟩
      rw [hwl] at hwd
      clear hwl
      generalize (nx (s.data.toList.drop k)).2 = kw at *
      generalize (nx (s.data.toList.drop k)).1 = r at *
      have hLe := fun W => letterR_any r W
      have hDi := fun W => digitR_any r W
      have hnr : nameRune r = (isLetter r || isDigit r || decide (r = 95)) := rfl
      obtain ⟨L, hL⟩ : ∃ L, isLetter r = L := ⟨_, rfl⟩
      obtain ⟨D, hD⟩ : ∃ D, isDigit r = D := ⟨_, rfl⟩
      rw [hL] at hLe hnr
      rw [hD] at hDi hnr
      have HNR : Hid (nameRune r = (L || D || decide (r = 95))) := hnr
      clear hL hD hnr
      have hw1 : IntKind.i64.wrap ((k : Int) + (kw : Int)) = ((k + kw : Nat) : Int) := by rw [IntKind.wrap_i64]; omega
      have hgo : nameRune r = true → ((runL s.size s.data.toList).1 = (k + kw) + (runL f (s.data.toList.drop (k + kw))).1 ∧ (runL s.size s.data.toList).2 = (q + 1) + (runL f (s.data.toList.drop (k + kw))).2) := fun h => by
        rw [E1.out, E2.out, HST.out f h]; simp only; omega
      have HGO : Hid (nameRune r = true → ((runL s.size s.data.toList).1 = (k + kw) + (runL f (s.data.toList.drop (k + kw))).1 ∧ (runL s.size s.data.toList).2 = (q + 1) + (runL f (s.data.toList.drop (k + kw))).2)) := hgo
      have hend : nameRune r = false → (R1 = k ∧ R2 = q) := fun h => by
        rw [← HR1.out, ← HR2.out, E1.out, E2.out, HSO.out _ h]; simp
      have HEN : Hid (nameRune r = false → (R1 = k ∧ R2 = q)) := hend
      clear hgo hend
      cases L with
      | true =>
        have hok := HGO.out (by rw [HNR.out]; rfl)
        have HOK : Hid ((runL s.size s.data.toList).1 = (k + kw) + (runL f (s.data.toList.drop (k + kw))).1 ∧ (runL s.size s.data.toList).2 = (q + 1) + (runL f (s.data.toList.drop (k + kw))).2) := hok
        clear hok
        go_wp2_with fail
        refine hNk.mono ?_
        rintro e w1 ⟨rfl, hb1⟩
        have hb1 := hbw.trans (hb1.mono hbw.size)
        clear hNk
        go_wp2_with fail
        refine (hLe _).mono ?_
        rintro e w2 ⟨rfl, rfl⟩
        go_wp2_with fail
        go_roundw
        case rel => exact ⟨k + kw, q + 1, f, by go_num, by go_num, by omega, by omega, by omega, hb1, HOK.out.1, HOK.out.2⟩
        case measure => simp [intOf]; omega
      | false =>
        have hcase : (D = true) ∨ (D = false ∧ r = 95) ∨ (D = false ∧ r ≠ 95) := by
          cases D
          · by_cases h : r = 95
            · exact .inr (.inl ⟨rfl, h⟩)
            · exact .inr (.inr ⟨rfl, h⟩)
          · exact .inl rfl
        rcases hcase with rfl | ⟨rfl, rfl⟩ | ⟨rfl, h95⟩
        · have HOK : Hid ((runL s.size s.data.toList).1 = (k + kw) + (runL f (s.data.toList.drop (k + kw))).1 ∧ (runL s.size s.data.toList).2 = (q + 1) + (runL f (s.data.toList.drop (k + kw))).2) := HGO.out (by rw [HNR.out]; rfl)
          clear HGO HEN HNR
          go_wp2_with fail
          refine hNk.mono ?_
          rintro e w1 ⟨rfl, hb1⟩
          have hb1 := hbw.trans (hb1.mono hbw.size)
          clear hNk
          go_wp2_with fail
          refine (hLe _).mono ?_
          rintro e w2 ⟨rfl, rfl⟩
          go_wp2_with fail
          refine (hDi _).mono ?_
          rintro e w3 ⟨rfl, rfl⟩
          go_wp2_with fail
          go_roundw
          case rel => exact ⟨k + kw, q + 1, f, by go_num, by go_num, by omega, by omega, by omega, hb1, HOK.out.1, HOK.out.2⟩
          case measure => simp [intOf]; omega
        · have HOK : Hid ((runL s.size s.data.toList).1 = (k + kw) + (runL f (s.data.toList.drop (k + kw))).1 ∧ (runL s.size s.data.toList).2 = (q + 1) + (runL f (s.data.toList.drop (k + kw))).2) := HGO.out (by rw [HNR.out]; rfl)
          clear HGO HEN HNR
          go_wp2_with fail
          refine hNk.mono ?_
          rintro e w1 ⟨rfl, hb1⟩
          have hb1 := hbw.trans (hb1.mono hbw.size)
          clear hNk
          go_wp2_with fail
          refine (hLe _).mono ?_
          rintro e w2 ⟨rfl, rfl⟩
          go_wp2_with fail
          refine (hDi _).mono ?_
          rintro e w3 ⟨rfl, rfl⟩
          go_wp2_with fail
          go_roundw
          case rel => exact ⟨k + kw, q + 1, f, by go_num, by go_num, by omega, by omega, by omega, hb1, HOK.out.1, HOK.out.2⟩
          case measure => simp [intOf]; omega
        · have HE : Hid (R1 = k ∧ R2 = q) := HEN.out (by rw [HNR.out]; simp [h95])
          have h95' : (r != 95) = true := by simpa using h95
          clear HGO HEN HNR
          go_wp2_with fail
          refine hNk.mono ?_
          rintro e w1 ⟨rfl, hb1⟩
          have hb1 := hbw.trans (hb1.mono hbw.size)
          clear hNk
          go_wp2_with fail
          refine (hLe _).mono ?_
          rintro e w2 ⟨rfl, rfl⟩
          go_wp2_with fail
          refine (hDi _).mono ?_
          rintro e w3 ⟨rfl, rfl⟩
          go_wp2_with fail
          go_ret2
          exact ⟨retII (by rw [HE.out.1]) (by rw [HE.out.2]), hb1⟩
    · have HE : Hid (R1 = k ∧ R2 = q) := by
        refine (?_ : _ ∧ _)
        rw [← HR1.out, ← HR2.out, E1.out, E2.out, runL_stop _ _ (.inl (List.drop_eq_nil_of_le (by rw [HL.out]; omega)))]
        simp
      go_wp2_with fail
      go_ret2
      exact ⟨retII (by rw [HE.out.1]) (by rw [HE.out.2]), hbw⟩
end Go.Proofs.YtngmimbpakmkiaaGreatDoor
namespace Go.Proofs.YtngmimbpakmkiaaGreatDoor
set_option linter.unusedVariables false
open Go.ChangeShapes Go.WideShapes Go.ChangeAt Go.RowKit

theorem numV_snoc (l : List UInt8) (k : Nat) (b : UInt8) (h : l[k]? = some b) : numV 0 (l.take (k + 1)) = 10 * numV 0 (l.take k) + ((b.toNat : Int) - 48) := by
  rw [List.take_add_one, h]
  unfold numV
  rw [List.foldl_append]; rfl
theorem pow_step (k : Nat) (N d : Int) (h0 : 0 ≤ N) (h1 : N < 10 ^ k) (hk : k < 10) (hd0 : 0 ≤ d) (hd1 : d ≤ 9) : 0 ≤ 10 * N + d ∧ 10 * N + d < 10 ^ (k + 1) ∧ 10 * N + d < 10000000000 ∧ N < 1000000000 := by
  have hp : (10 : Int) ^ (k + 1) = 10 * 10 ^ k := by rw [Int.pow_succ]; omega
  have hle : (10 : Int) ^ k ≤ 1000000000 := by
    have : k = 0 ∨ k = 1 ∨ k = 2 ∨ k = 3 ∨ k = 4 ∨ k = 5 ∨ k = 6 ∨ k = 7 ∨ k = 8 ∨ k = 9 := by omega
    rcases this with rfl | rfl | rfl | rfl | rfl | rfl | rfl | rfl | rfl | rfl <;> decide
  rw [hp]
  omega
set_option maxHeartbeats 2000000 in
theorem numberR_any (s : ByteArray) (w : World) (h1 : 1 ≤ s.size) (hd : s.data.toList.all isDig = true) (hs : s.size ≤ 1048576) :
    Calls Tryz.prog 84 #[.string s] w fun e w' => e = .returned (.bool (numL s.data.toList)) ∧ w' = w := by
  have HL : Hid (s.data.toList.length = s.size) := len_data s
  have hpos : (0 : Int) < (s.size : Int) := by omega
  obtain ⟨R, hR⟩ : ∃ R, numL s.data.toList = R := ⟨_, rfl⟩
  rw [hR]
  have h0 : s.data.toList.head? = some (s[0]'h1) := by rw [List.head?_eq_getElem?]; exact at_data s 0 h1
  have HR : Hid (R = (decide (s.size ≤ 10) && !(decide (s[0]'h1 = 48) && decide (1 < s.size)) && decide (numV 0 s.data.toList ≤ 2147483647))) := by
    refine (?_ : R = _)
    rw [← hR]; unfold numL; rw [HL.out, h0]; simp
  have HD : Hid (∀ (k : Nat) (h : k < s.size), 48 ≤ (s[k]'h).toNat ∧ (s[k]'h).toNat ≤ 57) := fun k h => by
    have := List.all_eq_true.1 hd _ (List.mem_of_getElem? (at_data s k h))
    unfold isDig at this; rwa [decide_eq_true_iff] at this
  clear hR h0 hd
  by_cases h10 : s.size ≤ 10
  · have h10' : ¬ (10 : Int) < (s.size : Int) := by omega
    by_cases h48 : s[0]'h1 = 48 ∧ 1 < s.size
    · obtain ⟨ha, hb⟩ := h48
      have ha' : (((s[0]'h1).toNat : Int) == 48) = true := by rw [ha]; rfl
      have hb' : (1 : Int) < (s.size : Int) := by omega
      obtain rfl : R = false := by rw [HR.out]; simp [ha, hb]
      go_enter Tryz.func84, Tryz.ntmps84
      go_wp2_with fail
      go_ret
      exact ⟨rfl, rfl⟩
    · have HR2 : Hid (R = decide (numV 0 s.data.toList ≤ 2147483647)) := by
        refine (?_ : R = _)
        rw [HR.out, decide_eq_true h10]
        have : (decide (s[0]'h1 = 48) && decide (1 < s.size)) = false := by
          rw [Bool.and_eq_false_iff]
          by_cases ha : s[0]'h1 = 48
          · right; rw [decide_eq_false_iff_not]; exact fun hb => h48 ⟨ha, hb⟩
          · left; rw [decide_eq_false_iff_not]; exact ha
        rw [this]; simp
      have hcase : (((s[0]'h1).toNat : Int) == 48) = false ∨ ((((s[0]'h1).toNat : Int) == 48) = true ∧ ¬ (1 : Int) < (s.size : Int)) := by
        by_cases ha : s[0]'h1 = 48
        · right; exact ⟨by rw [ha]; rfl, fun hb => h48 ⟨ha, by omega⟩⟩
        · left; rw [beq_eq_false_iff_ne]; intro e; apply ha; apply UInt8.toNat_inj.1; show _ = 48; omega
      clear HR h48
      rcases hcase with ha' | ⟨ha', hb'⟩
      all_goals
        go_enter Tryz.func84, Tryz.ntmps84
        go_wp2_with fail
        go_loop [3, 4] (fun n i => ∃ (k : Nat) (N : Int), k ≤ s.size ∧ i = .int .i64 k ∧ n = .int .i64 N ∧ 0 ≤ N ∧ N < 10 ^ k ∧ N = numV 0 (s.data.toList.take k)) (fun _ i => s.size - (intOf i).toNat)
        case atStart => exact ⟨0, 0, by omega, rfl, rfl, by omega, by decide, rfl⟩
        case round =>
          obtain ⟨k, N, hk, rfl, rfl, hN0, hN1, hN⟩ := hrel
          have HN : Hid (N = numV 0 (s.data.toList.take k)) := hN
          have HN1 : Hid (N < 10 ^ k) := hN1
          clear hN hN1
          by_cases hlt : k < s.size
          · obtain ⟨hb1, hb2⟩ := HD.out k hlt
            obtain ⟨p1, p2, p3, p4⟩ := pow_step k N ((s[k]'hlt).toNat - 48) hN0 HN1.out (by omega) (by omega) (by omega)
            have HP2 : Hid (10 * N + (((s[k]'hlt).toNat : Int) - 48) < 10 ^ (k + 1)) := p2
            have HNN : Hid (10 * N + (((s[k]'hlt).toNat : Int) - 48) = numV 0 (s.data.toList.take (k + 1))) := by
              refine (?_ : _ = _)
              rw [numV_snoc _ k _ (at_data s k hlt), HN.out]
            clear p2
            have e1 : IntKind.u8.wrap (((s[k]'hlt).toNat : Int) - 48) = ((s[k]'hlt).toNat : Int) - 48 := by rw [IntKind.wrap_u8]; omega
            have e2 : IntKind.i64.wrap (10 * N) = 10 * N := by rw [IntKind.wrap_i64]; omega
            have e3 : IntKind.i64.wrap (10 * N + (((s[k]'hlt).toNat : Int) - 48)) = 10 * N + (((s[k]'hlt).toNat : Int) - 48) := by rw [IntKind.wrap_i64]; omega
            have e4 : IntKind.i64.wrap (((s[k]'hlt).toNat : Int) - 48) = ((s[k]'hlt).toNat : Int) - 48 := by rw [IntKind.wrap_i64]; omega
            go_wp2_with fail
            go_round
            case rel => exact ⟨k + 1, 10 * N + (((s[k]'hlt).toNat : Int) - 48), by omega, by go_num, by go_num, p1, HP2.out, HNN.out⟩
            case measure => simp [intOf]; omega
          · have HE : Hid (numV 0 s.data.toList = N) := by
              refine (?_ : _ = N)
              rw [HN.out, List.take_of_length_le (by rw [HL.out]; omega)]
            go_wp2_with fail
            go_ret
            refine ⟨retB ?_, rfl⟩
            rw [HR2.out, HE.out]
  · have h10' : (10 : Int) < (s.size : Int) := by omega
    obtain rfl : R = false := by rw [HR.out]; simp [h10]
    go_enter Tryz.func84, Tryz.ntmps84
    go_wp2_with fail
    go_ret
    exact ⟨rfl, rfl⟩

/-- a word as a value -/
def wv (kind : Int) (t : ByteArray) (line col : Int) : Value := .agg #[.int .i64 kind, .string t, .int .i64 line, .int .i64 col]
set_option maxHeartbeats 2000000 in
theorem rightR_any (kind : Int) (t : ByteArray) (line col r : Int) (w : World) (hT : Tabs w) (hk : kind = 1 ∨ kind = 2 ∨ kind = 3) (h1 : 1 ≤ t.size) (hs : t.size ≤ 1048576) :
    Calls Tryz.prog 56 #[wv kind t line col, .int .i32 r] w fun e w' => e = .returned (.bool (rightL kind t.data.toList r)) ∧ Below w.heap.size w w' := by
  have hN := fun W hTW => nameR_any t W hTW (by omega)
  rw [isName_eq] at hN
  have HT0 : Hid (∀ o, Tabs (w.alloc o)) := fun o => tabs_below hT ((Below.refl _ w).alloc (Nat.le_refl _) o)
  have HB0 : Hid (∀ o, Below w.heap.size w (w.alloc o)) := fun o => (Below.refl _ w).alloc (Nat.le_refl _) o
  unfold wv
  rcases hk with rfl | rfl | rfl
  · have e : rightL 1 t.data.toList r = nameOf (runes t) := by unfold rightL; rw [if_pos rfl]
    rw [e]
    clear e
    go_enter Tryz.func56, Tryz.ntmps56
    go_wp2_with fail
    refine (hN _ (HT0.out _)).mono ?_
    rintro e w1 ⟨rfl, hb1⟩
    have hb1 := (HB0.out _).trans (hb1.mono (HB0.out _).size)
    go_wp2_with fail
    go_ret
    exact ⟨rfl, hb1⟩
  · have e : rightL 2 t.data.toList r = (t.data.toList.all isDig && numL t.data.toList) := by unfold rightL; rw [if_neg (by decide), if_pos rfl]
    rw [e]
    clear e hN
    have HL : Hid (t.data.toList.length = t.size) := len_data t
    have hNu := fun W hd => numberR_any t W h1 hd hs
    obtain ⟨A, hA⟩ : ∃ A, t.data.toList.all isDig = A := ⟨_, rfl⟩
    rw [hA]
    have HA : Hid (t.data.toList.all isDig = A) := hA
    clear hA
    go_enter Tryz.func56, Tryz.ntmps56
    go_wp2_with fail
    go_loop [5] (fun i => ∃ k : Nat, k ≤ t.size ∧ i = .int .i64 k ∧ t.data.toList.all isDig = (t.data.toList.drop k).all isDig) (fun i => t.size - (intOf i).toNat)
    case atStart => exact ⟨0, by omega, rfl, rfl⟩
    case round =>
      obtain ⟨k, hk, rfl, hall⟩ := hrel
      have HK : Hid (t.data.toList.all isDig = (t.data.toList.drop k).all isDig) := hall
      clear hall
      by_cases hlt : k < t.size
      · have hdr : t.data.toList.drop k = t[k]'hlt :: t.data.toList.drop (k + 1) := by
          rw [List.drop_eq_getElem_cons (by rw [HL.out]; exact hlt)]; rfl
        have HS : Hid (t.data.toList.all isDig = (isDig (t[k]'hlt) && (t.data.toList.drop (k + 1)).all isDig)) := by
          refine (?_ : _ = _)
          rw [HK.out, hdr, List.all_cons]
        clear HK hdr
        have hcase : (((t[k]'hlt).toNat : Int) < 48) ∨ (¬ ((t[k]'hlt).toNat : Int) < 48 ∧ (57 : Int) < ((t[k]'hlt).toNat : Int)) ∨ (¬ ((t[k]'hlt).toNat : Int) < 48 ∧ ¬ (57 : Int) < ((t[k]'hlt).toNat : Int)) := by omega
        rcases hcase with c | ⟨c, c2⟩ | ⟨c, c2⟩
        · have HAf : Hid (A = false) := by
            refine (?_ : A = false)
            rw [← HA.out, HS.out]; unfold isDig; rw [decide_eq_false (by omega)]; rfl
          clear HS hNu
          go_wp2_with fail
          go_ret
          exact ⟨retB (by rw [HAf.out]; rfl), HB0.out _⟩
        · have HAf : Hid (A = false) := by
            refine (?_ : A = false)
            rw [← HA.out, HS.out]; unfold isDig; rw [decide_eq_false (by omega)]; rfl
          clear HS hNu
          go_wp2_with fail
          go_ret
          exact ⟨retB (by rw [HAf.out]; rfl), HB0.out _⟩
        · have HX : Hid (t.data.toList.all isDig = (t.data.toList.drop (k + 1)).all isDig) := by
            refine (?_ : _ = _)
            rw [HS.out]; unfold isDig; rw [decide_eq_true (by omega)]; rfl
          clear HS hNu
          go_wp2_with fail
          go_round
          case rel => exact ⟨k + 1, by omega, by go_num, HX.out⟩
          case measure => simp [intOf]; omega
      · have hAt : A = true := by
          rw [← HA.out, HK.out, List.drop_eq_nil_of_le (by rw [HL.out]; omega)]; rfl
        subst hAt
        have hNu2 := fun W => hNu W HA.out
        clear HK hNu
        go_wp2_with fail
        refine (hNu2 _).mono ?_
        rintro e w1 ⟨rfl, rfl⟩
        go_wp2_with fail
        go_ret
        exact ⟨retB (by simp), HB0.out _⟩
  · have e : rightL 3 t.data.toList r = signR r := by unfold rightL; rw [if_neg (by decide), if_neg (by decide)]
    rw [e]
    clear e hN
    go_enter Tryz.func56, Tryz.ntmps56
    go_wp2_with fail
    all_goals
      go_ret
      refine ⟨retB ?_, HB0.out _⟩
      unfold signR
      clear HB0 HT0
      first
        | (simp_all; done)
        | (rw [Bool.eq_iff_iff]; simp_all; done)
        | (rw [Bool.eq_iff_iff]; simp; omega)
end Go.Proofs.YtngmimbpakmkiaaGreatDoor
namespace Go.Proofs.YtngmimbpakmkiaaGreatDoor
set_option linter.unusedVariables false
open Go.ChangeShapes Go.WideShapes Go.ChangeAt Go.RowKit

/-- a word's cells -/
def wrow (x : Wd) : List Value := [.int .i64 x.kind, .string (mkB x.text), .int .i64 (x.line : Int), .int .i64 (x.col : Int)]
theorem infoW : (Tryz.prog.info? 114).map (fun i => (i.zero, i.size, i.bytes)) = some (some (.agg #[.int .i64 0, .string ⟨#[]⟩, .int .i64 0, .int .i64 0]), 4, 40) := by kernel_rfl
/-- a slice of words that the call itself has made -/
def OwnW (w : World) (base : Nat) (v : Value) (xs : List Wd) : Prop := w.ownsRow base 114 4 v xs.length (xs.flatMap wrow)
theorem ownW_nil (w : World) (base : Nat) : OwnW w base (.slice none 0 0) [] := World.ownsRow_nil _ _ _ _
theorem ownW_block {w : World} {base : Nat} {v : Value} {xs : List Wd} (h : OwnW w base v xs) : ∀ k, v.ownBlock = some k → base ≤ k := by
  intro k hk
  obtain ⟨_, ⟨rfl, _⟩ | ⟨g, cap, cur, rfl, hg, _⟩⟩ := h
  · simp [Value.ownBlock] at hk
  · simp [Value.ownBlock] at hk; omega
theorem ownW_lt {w : World} {base : Nat} {v : Value} {xs : List Wd} (h : OwnW w base v xs) : v.ownBlock ≠ some w.heap.size := by
  obtain ⟨_, ⟨rfl, _⟩ | ⟨g, cap, cur, rfl, hg, hh, _⟩⟩ := h
  · simp [Value.ownBlock]
  · have := (Array.getElem?_eq_some_iff.1 hh).1
    simp [Value.ownBlock]; omega
theorem ownW_slice {w : World} {base : Nat} {v : Value} {xs : List Wd} (h : OwnW w base v xs) : ∃ a c, v = .slice a xs.length c := by
  obtain ⟨_, ⟨rfl, h0⟩ | ⟨g, cap, cur, rfl, _⟩⟩ := h
  · exact ⟨none, 0, by rw [h0]⟩
  · exact ⟨_, _, rfl⟩
theorem ownW_heap {w w' : World} {base : Nat} {v : Value} {xs : List Wd} (h : OwnW w base v xs) (hh : ∀ (k : Nat) (o : Obj), base ≤ k → w.heap[k]? = some o → w'.heap[k]? = some o) : OwnW w' base v xs := by
  obtain ⟨h1, h2 | ⟨g, cap, cur, hv, hg, hhp, r⟩⟩ := h
  · exact ⟨h1, .inl h2⟩
  · exact ⟨h1, .inr ⟨g, cap, cur, hv, hg, hh g _ hg hhp, r⟩⟩
theorem wpW_push {w : World} {ops : Array Oper} {rest : List Oper} {o : Oper} {a : Act} {Q : Exit → Act → World → Prop} (hgd : o.guard = none) (s x : Operand)
    (ho : o.op = .call { callee := .builtin .append, args := #[s, x], argTypes := #[81, 81] })
    (base : Nat) (v : Value) (xs : List Wd) (r : Wd) (cs : Array Value) (hcs : cs = (wrow r).toArray) (hs : a.eval s = v) (hown : OwnW w base v xs)
    (hx : a.eval x = .slice (some ⟨w.heap.size, 0, none⟩) 1 1) (hbd : xs.length ≤ 1000000000) (hbase : base ≤ w.heap.size)
    (h : ∀ v' w', OwnW w' base v' (xs ++ [r]) → (w.alloc (.cells cs 114)).grownBy w' v.ownBlock → wpList Tryz.prog ops Q rest (a.put o.dst v') w') : wpList Tryz.prog ops Q (o :: rest) a (w.alloc (.cells cs 114)) := by
  subst hcs
  obtain ⟨i0, hi, hz0, hz1, hz2⟩ := info_parts infoW
  refine wpList_append_own _ hgd s x 81 ho base 114 i0 _ 4 40 Tryz.underlying81 hi hz0 hz1 hz2 rfl (by decide) v _ _ hs (World.ownsRow.alloc hown _) ⟨w.heap.size, 0, none⟩ 1 1 (wrow r) hx rfl ?_ ?_ (by unfold maxLen; omega) (by omega) (by simp; omega) ?_
  · intro j u hj
    have ea : (⟨w.heap.size, 0, none⟩ : Addr).add j = ⟨w.heap.size, j, none⟩ := by unfold Addr.add; split <;> simp_all
    rw [ea, World.cell?_alloc_new]
    simpa using hj
  · intro u hu
    simp only [wrow, List.mem_cons, List.not_mem_nil, or_false] at hu
    rcases hu with rfl | rfl | rfl | rfl <;> rfl
  · intro v' w' h1 h2 _
    refine h v' w' ?_ h2
    unfold OwnW
    rw [List.length_append, List.flatMap_append]
    simpa using h1

/-- the state while Words goes along: the answer's place (still zero), the place at hand, the words so far -/
structure St (w0 w : World) (B : Nat) (line col : Nat) (v : Value) (acc : List Wd) : Prop where
  ans : w.heap[B]? = some (.cells #[.int .i64 0, .int .i64 0] 38 (0, 0))
  pos : w.heap[B + 1]? = some (.cells #[.int .i64 (line : Int), .int .i64 (col : Int)] 38 (0, 0))
  own : OwnW w (B + 2) v acc
  below : Below B w0 w
theorem St.size {w0 w : World} {B line col : Nat} {v : Value} {acc : List Wd} (h : St w0 w B line col v acc) : B + 2 ≤ w.heap.size := by
  have := (Array.getElem?_eq_some_iff.1 h.pos).1; omega
theorem St.old {w0 w w' : World} {B line col : Nat} {v : Value} {acc : List Wd} (h : St w0 w B line col v acc) (hb : Below w.heap.size w w') : St w0 w' B line col v acc := by
  have hsz := h.size
  refine ⟨by rw [hb.block B (by omega)]; exact h.ans, by rw [hb.block (B + 1) (by omega)]; exact h.pos, ?_, h.below.trans (hb.mono (by omega))⟩
  exact ownW_heap h.own fun k o _ hk => by rw [hb.block k (Array.getElem?_eq_some_iff.1 hk).1]; exact hk
theorem St.cells {w0 w : World} {B line col : Nat} {v : Value} {acc : List Wd} (h : St w0 w B line col v acc) :
    w.cell? ⟨B + 1, 0, none⟩ = some (.int .i64 (line : Int)) ∧ w.cell? ⟨B + 1, 1, none⟩ = some (.int .i64 (col : Int)) ∧ w.frozen? ⟨B + 1, 0, none⟩ = false ∧ w.frozen? ⟨B + 1, 1, none⟩ = false ∧
    w.cell? ⟨B, 0, none⟩ = some (.int .i64 0) ∧ w.cell? ⟨B, 1, none⟩ = some (.int .i64 0) ∧ w.frozen? ⟨B, 0, none⟩ = false ∧ w.frozen? ⟨B, 1, none⟩ = false := by
  simp [World.cell?, World.frozen?, h.pos, h.ans]
/-- a cell of another block, or one that is none of these, is set -/
theorem St.setPos {w0 w : World} {B line col : Nat} {v : Value} {acc : List Wd} (h : St w0 w B line col v acc) (j : Nat) (x : Value) (line' col' : Nat)
    (hx : (#[Value.int .i64 (line : Int), Value.int .i64 (col : Int)]).setIfInBounds j x = #[.int .i64 (line' : Int), .int .i64 (col' : Int)]) : St w0 (w.setCell ⟨B + 1, j, none⟩ x) B line' col' v acc := by
  have hp : (w.setCell ⟨B + 1, j, none⟩ x).heap[B + 1]? = some (.cells #[.int .i64 (line' : Int), .int .i64 (col' : Int)] 38 (0, 0)) := by
    rw [setCell_eq_setRow _ _ _ _ _ _ _ h.pos, setRow_heap w (B + 1) _ _ _ _ h.pos, hx]
  have ho : ∀ k, k ≠ B + 1 → (w.setCell ⟨B + 1, j, none⟩ x).heap[k]? = w.heap[k]? := fun k hk => by
    rw [setCell_eq_setRow _ _ _ _ _ _ _ h.pos]; exact setRow_other w (B + 1) k _ hk
  exact ⟨by rw [ho B (by omega)]; exact h.ans, hp, ownW_heap h.own fun k o hk hko => by rw [ho k (by omega)]; exact hko, h.below.setCell (p := ⟨B + 1, j, none⟩) (by show B ≤ B + 1; omega) _⟩
theorem St.alloc {w0 w : World} {B line col : Nat} {v : Value} {acc : List Wd} (h : St w0 w B line col v acc) (o : Obj) : St w0 (w.alloc o) B line col v acc := h.old ((Below.refl _ w).alloc (Nat.le_refl _) o)
theorem St.drew {w0 w : World} {B line col : Nat} {v : Value} {acc : List Wd} (h : St w0 w B line col v acc) : St w0 w.drew B line col v acc := ⟨h.ans, h.pos, h.own, h.below.drew⟩
/-- the words have grown -/
theorem St.grown {w0 w w' : World} {B line col : Nat} {v v' : Value} {acc acc' : List Wd} (h : St w0 w B line col v acc) (hg : w.grownBy w' v.ownBlock) (hown : OwnW w' (B + 2) v' acc') : St w0 w' B line col v' acc' := by
  have hsz := h.size
  have hb : ∀ k, k < B + 2 → w'.heap[k]? = w.heap[k]? := fun k hk => hg.block k (by omega) (fun e => by have := ownW_block h.own k e.symm; omega)
  exact ⟨by rw [hb B (by omega)]; exact h.ans, by rw [hb (B + 1) (by omega)]; exact h.pos, hown, h.below.grown hg (by omega) (fun k hk => by have := ownW_block h.own k hk; omega)⟩
/-- a cell of a block behind these is set -/
theorem St.setFar {w0 w : World} {B line col : Nat} {v : Value} {acc : List Wd} (h : St w0 w B line col v acc) (g j : Nat) (x : Value) (hg : B + 2 ≤ g) (hne : v.ownBlock ≠ some g) : St w0 (w.setCell ⟨g, j, none⟩ x) B line col v acc := by
  have ho : ∀ k, k ≠ g → (w.setCell ⟨g, j, none⟩ x).heap[k]? = w.heap[k]? := fun k hk => Below.heap_setCell _ _ _ _ hk
  refine ⟨by rw [ho B (by omega)]; exact h.ans, by rw [ho (B + 1) (by omega)]; exact h.pos, ?_, h.below.setCell (p := ⟨g, j, none⟩) (by show B ≤ g; omega) _⟩
  obtain ⟨h1, h2 | ⟨g', cap, cur, hv, hg', hhp, r⟩⟩ := h.own
  · exact ⟨h1, .inl h2⟩
  · exact ⟨h1, .inr ⟨g', cap, cur, hv, hg', by rw [ho g' (fun e => hne (by rw [hv, e]; rfl))]; exact hhp, r⟩⟩
/-- the answer's place is told -/
theorem St.final {w0 w : World} {B line col : Nat} {v : Value} {acc : List Wd} (h : St w0 w B line col v acc) (x y : Value) :
    ((w.setCell ⟨B, 0, none⟩ x).setCell ⟨B, 1, none⟩ y).cell? ⟨B, 0, none⟩ = some x ∧ ((w.setCell ⟨B, 0, none⟩ x).setCell ⟨B, 1, none⟩ y).cell? ⟨B, 1, none⟩ = some y ∧
    OwnW ((w.setCell ⟨B, 0, none⟩ x).setCell ⟨B, 1, none⟩ y) (B + 2) v acc ∧ Below B w0 ((w.setCell ⟨B, 0, none⟩ x).setCell ⟨B, 1, none⟩ y) := by
  have h1 : (w.setCell ⟨B, 0, none⟩ x).heap[B]? = some (.cells #[x, .int .i64 0] 38 (0, 0)) := by
    rw [setCell_eq_setRow _ _ _ _ _ _ _ h.ans, setRow_heap w B _ _ _ _ h.ans]; rfl
  have h2 : ((w.setCell ⟨B, 0, none⟩ x).setCell ⟨B, 1, none⟩ y).heap[B]? = some (.cells #[x, y] 38 (0, 0)) := by
    rw [setCell_eq_setRow _ _ _ _ _ _ _ h1, setRow_heap _ B _ _ _ _ h1]; rfl
  have ho : ∀ k, k ≠ B → ((w.setCell ⟨B, 0, none⟩ x).setCell ⟨B, 1, none⟩ y).heap[k]? = w.heap[k]? := fun k hk => by
    rw [Below.heap_setCell _ _ _ _ hk, Below.heap_setCell _ _ _ _ hk]
  refine ⟨by simp [World.cell?, h2], by simp [World.cell?, h2], ownW_heap h.own fun k o hk hko => by rw [ho k (by omega)]; exact hko, ?_⟩
  exact (h.below.setCell (p := ⟨B, 0, none⟩) (Nat.le_refl _) x).setCell (p := ⟨B, 1, none⟩) (Nat.le_refl _) y
end Go.Proofs.YtngmimbpakmkiaaGreatDoor
