/-
  The walk over the document's own Pieces: what stands between dots.
  What the library functions that this program calls answer, as theorems over this translation: each is one application of a theorem of the given library. Nothing is proved of the program itself here.
  The two tables of the library that the row lists, as the word of this seat. Nothing is proved of the program here.
  The runes of a text, and the walks over the document's own Letter, digit and Runes: of a valid text its runes come, in new memory; else none.
-/
import Derived.Test.YtkhnicppcbgdiaaGreatDoorM11
import Derived.Deep.RegionWith
import Derived.Deep.RegionLaw
import Derived.Shelf.Unicode.DecodeAny
import Derived.Shelf.Unicode.ValidAny
import Derived.Ground.NamesProg
import Derived.Shelf.LaysM
import Derived.Test.YtkhnicppcbgdiaaGreatDoorProg
import Derived.Below
import Derived.Test.YtkhnicppcbgdiaaGreatDoorM0
import Derived.WalkKit
import Derived.ProofKit
import Derived.Laws.IdiomStrings
namespace Go.Proofs.YtkhnicppcbgdiaaGreatDoor
set_option linter.unusedVariables false
open Go.ChangeShapes Go.WideShapes Go.ChangeAt Go.RowKit

set_option maxHeartbeats 4000000 in
theorem piecesR_any (s : ByteArray) (w : World) (hs : s.size ≤ 3000) :
    Calls Tryz.prog 65 #[.string s] w fun e w' => (∃ v, e = .returned v ∧ OwnS w' w.heap.size v (pieces s)) ∧ Below w.heap.size w w' := by
  have HP : Hid (pieces s = (pcs [] s.data.toList).map mkB) := rfl
  have hld := len_data s
  have HL : Hid (s.data.toList.length = s.size) := hld
  clear hld
  go_enter Tryz.func65, Tryz.ntmps65
  go_wp2_with fail
  go_loopw [3, 4] (fun o i wr => ∃ (k : Nat) (pre : List (List UInt8)) (cur : List UInt8), k ≤ s.size ∧ i = .int .i64 k ∧ OwnS wr w.heap.size o (pre.map mkB ++ [mkB cur]) ∧ Below w.heap.size w wr ∧ pre.length ≤ k ∧ cur.length ≤ k ∧ pre ++ pcs cur (s.data.toList.drop k) = pcs [] s.data.toList) (fun _ i _ => s.size - (intOf i).toNat)
  case atStart => exact ⟨0, [], [], by omega, rfl, ownS_one w ⟨#[]⟩, (Below.refl _ w).alloc (Nat.le_refl _) _, by simp, by simp, rfl⟩
  case round =>
    obtain ⟨k, pre, cur, hk, rfl, hown, hbw, hpl, hcl, hacc⟩ := hrel
    have HA : Hid (pre ++ pcs cur (s.data.toList.drop k) = pcs [] s.data.toList) := hacc
    clear hacc
    obtain ⟨g, c, cc, rfl, hg, hgh, hc, hH⟩ := ownS_slice hown (by simp)
    have hszr := hbw.size
    have hml : (pre.map mkB ++ [mkB cur]).length = pre.length + 1 := by simp
    by_cases hlt : k < s.size
    · have hdr : s.data.toList.drop k = s[k]'hlt :: s.data.toList.drop (k + 1) := by
        rw [List.drop_eq_getElem_cons (by rw [HL.out]; exact hlt)]; rfl
      by_cases h46 : s[k]'hlt = 46
      · have h46' : (((s[k]'hlt).toNat : Int) == 46) = true := by rw [h46]; rfl
        have HX : Hid ((pre ++ [cur]) ++ pcs [] (s.data.toList.drop (k + 1)) = pcs [] s.data.toList) := by
          refine (?_ : _ = _)
          have := HA.out; rw [hdr, h46, pcs_dot] at this
          rw [← this]; simp
        clear HA hdr h46
        go_wp2_with (at_builtin; refine wpS_push rfl _ _ rfl w.heap.size (.slice (some ⟨g, 0, none⟩) (pre.map mkB ++ [mkB cur]).length c) (pre.map mkB ++ [mkB cur]) ⟨#[]⟩ rfl hown rfl (by rw [hml]; omega) hszr ?_)
        intro v' wx hown' hb'
        obtain ⟨g2, c2, cc2, rfl, _⟩ := ownS_slice hown' (by simp)
        go_wp2_with fail
        go_roundw
        case rel =>
          refine ⟨k + 1, pre ++ [cur], [], by omega, by go_num, ?_, hbw.trans hb', by simp; omega, by simp, HX.out⟩
          simpa [mkB] using hown'
        case measure => simp [intOf]; omega
      · have h46' : (((s[k]'hlt).toNat : Int) == 46) = false := by
          rw [beq_eq_false_iff_ne]
          intro e
          apply h46
          apply UInt8.toNat_inj.1
          show _ = 46
          omega
        have HX : Hid (pre ++ pcs (cur ++ [s[k]'hlt]) (s.data.toList.drop (k + 1)) = pcs [] s.data.toList) := by
          refine (?_ : _ = _)
          have := HA.out; rw [hdr, pcs_on _ _ _ h46] at this
          exact this
        clear HA hdr h46
        have hcell : wr.cell? ⟨g, pre.length, none⟩ = some (.string (mkB cur)) := hH pre.length (mkB cur) (by simp)
        have hfz : wr.frozen? ⟨g, pre.length, none⟩ = false := Lib.frozen_of_heap hgh _
        have HOS : Hid (∀ y, OwnS (wr.setCell ⟨g, pre.length, none⟩ (.string y)) w.heap.size (.slice (some ⟨g, 0, none⟩) (pre.length + 1) c) (pre.map mkB ++ [y])) := fun y => by
          have := ownS_set y hown
          simpa using this
        have HBS : Hid (∀ y, Below w.heap.size w (wr.setCell ⟨g, pre.length, none⟩ (.string y))) := fun y => hbw.setCell (p := ⟨g, pre.length, none⟩) hg _
        have hcat := cat_byte cur s k hlt
        have HCAT : Hid (mkB cur ++ s.extract k (k + 1) = mkB (cur ++ [s[k]'hlt])) := hcat
        clear hcat hown hbw hgh hH
        rw [hml]
        rw [hml] at hc
        clear hml
        obtain ⟨q, hq⟩ : ∃ q, pre.length = q := ⟨_, rfl⟩
        have HPL : Hid (pre.length ≤ k + 1) := by
          refine (?_ : pre.length ≤ k + 1)
          omega
        rw [hq] at hpl hcell hfz HOS HBS ⊢
        clear hq
        have hsz2 : (mkB cur).size ≤ 3000 := by
          have : (mkB cur).size = cur.length := by show cur.toArray.size = _; simp
          omega
        have HOS2 : Hid (OwnS (wr.setCell ⟨g, q, none⟩ (.string (mkB (cur ++ [s[k]'hlt])))).drew w.heap.size (.slice (some ⟨g, 0, none⟩) (q + 1) c) (pre.map mkB ++ [mkB (cur ++ [s[k]'hlt])])) := HOS.out _
        have HBS2 : Hid (Below w.heap.size w (wr.setCell ⟨g, q, none⟩ (.string (mkB (cur ++ [s[k]'hlt])))).drew) := (HBS.out _).drew
        generalize mkB cur = cb at *
        have hw1 : IntKind.i64.wrap ((q : Int) + 1 - 1) = (q : Int) := by rw [IntKind.wrap_i64]; omega
        have hw2 : IntKind.i64.wrap ((k : Int) + 1) = (k : Int) + 1 := by rw [IntKind.wrap_i64]; omega
        have hq0 : (0 : Int) ≤ (q : Int) := by omega
        have hq1 : (q : Int) < (q : Int) + 1 := by omega
        have hk0 : (0 : Int) ≤ (k : Int) := by omega
        have hk1 : (k : Int) ≤ (k : Int) + 1 := by omega
        have hk2 : (k : Int) + 1 ≤ (s.size : Int) := by omega
        go_wp2_with fail
        go_region
        rw [HCAT.out]
        go_wp2_with fail
        go_roundw
        case rel => exact ⟨k + 1, pre, cur ++ [s[k]'hlt], by omega, by go_num, HOS2.out, HBS2.out, HPL.out, by simp; omega, HX.out⟩
        case measure => simp [intOf]; omega
    · have HX : Hid (pre.map mkB ++ [mkB cur] = pieces s) := by
        refine (?_ : _ = _)
        have := HA.out
        rw [List.drop_eq_nil_of_le (by have := HL.out; omega), pcs_nil] at this
        rw [HP.out, ← this]; simp
      have hown2 := hown
      rw [HX.out] at hown2
      clear HA
      go_wp2_with fail
      go_ret
      refine ⟨⟨_, rfl, ?_⟩, hbw⟩
      rw [HX.out]; exact hown2
end Go.Proofs.YtkhnicppcbgdiaaGreatDoor
namespace Go.Proofs.YtkhnicppcbgdiaaGreatDoor
open Go.Shelf
def lays197_ren : Go.Shelf.Ren := ⟨fun | 197 => 100 | 260 => 115 | n => n, fun | 9 => 9 | 21 => 21 | 3 => 3 | 4 => 4 | 5 => 5 | 105 => 135 | 119 => 144 | 0 => 0 | 46 => 40 | 139 => 147 | 138 => 146 | n => n, fun | 3 => 0 | 4 => 1 | n => n⟩
theorem lays197 : Go.Proofs.Lays.n197 Tryz.prog lays197_ren := {
  mixed := by kernel_rfl
  f197 := Tryz.func100.trans (congrArg some (by kernel_rfl))
  f260 := Tryz.func115.trans (congrArg some (by kernel_rfl))
  t0 := Tryz.underlying0
  a0 := Tryz.isAgg0
  z0 := Tryz.sizeOf0
  v0 := Tryz.zeroValue0
  t3 := Tryz.underlying3
  a3 := Tryz.isAgg3
  z3 := Tryz.sizeOf3
  v3 := Tryz.zeroValue3
  t4 := Tryz.underlying4
  a4 := Tryz.isAgg4
  z4 := Tryz.sizeOf4
  v4 := Tryz.zeroValue4
  t5 := Tryz.underlying5
  a5 := Tryz.isAgg5
  z5 := Tryz.sizeOf5
  v5 := Tryz.zeroValue5
  t9 := Tryz.underlying9
  a9 := Tryz.isAgg9
  z9 := Tryz.sizeOf9
  v9 := Tryz.zeroValue9
  t21 := Tryz.underlying21
  a21 := Tryz.isAgg21
  z21 := Tryz.sizeOf21
  v21 := Tryz.zeroValue21
  t46 := Tryz.underlying40
  a46 := Tryz.isAgg40
  z46 := Tryz.sizeOf40
  v46 := Tryz.zeroValue40
  t105 := Tryz.underlying135
  a105 := Tryz.isAgg135
  z105 := Tryz.sizeOf135
  v105 := Tryz.zeroValue135
  t119 := Tryz.underlying144
  a119 := Tryz.isAgg144
  z119 := Tryz.sizeOf144
  t138 := Tryz.underlying146
  a138 := Tryz.isAgg146
  z138 := Tryz.sizeOf146
  v138 := Tryz.zeroValue146
  t139 := Tryz.underlying147
  a139 := Tryz.isAgg147
  z139 := Tryz.sizeOf147
  v139 := Tryz.zeroValue147
  g3 := by kernel_rfl
  g4 := by kernel_rfl }
open Go.RowKit Go.Lib in
theorem utf8_DecodeRuneInString (s : ByteArray) (w : World) (hT : Lib.Utf8Tabs 0 1 w) :
    Calls Tryz.prog 100 #[.string s] w fun e w' => e = .returned (.tuple #[.int .i32 (Lib.decodeGo s).1, .int .i64 (Lib.decodeGo s).2]) ∧ Below w.heap.size w w' := Any.utf8_DecodeRuneInString lays197 s w hT
def lays196_ren : Go.Shelf.Ren := ⟨fun | 196 => 89 | 259 => 105 | n => n, fun | 9 => 9 | 4 => 4 | 3 => 3 | 5 => 5 | 12 => 12 | 119 => 144 | 0 => 0 | 46 => 40 | 139 => 147 | 138 => 146 | 53 => 138 | n => n, fun | 3 => 0 | 4 => 1 | n => n⟩
theorem lays196 : Go.Proofs.Lays.n196 Tryz.prog lays196_ren := {
  mixed := by kernel_rfl
  f196 := Tryz.func89.trans (congrArg some (by kernel_rfl))
  f259 := Tryz.func105.trans (congrArg some (by kernel_rfl))
  t0 := Tryz.underlying0
  a0 := Tryz.isAgg0
  z0 := Tryz.sizeOf0
  v0 := Tryz.zeroValue0
  t3 := Tryz.underlying3
  a3 := Tryz.isAgg3
  z3 := Tryz.sizeOf3
  v3 := Tryz.zeroValue3
  t4 := Tryz.underlying4
  a4 := Tryz.isAgg4
  z4 := Tryz.sizeOf4
  v4 := Tryz.zeroValue4
  t5 := Tryz.underlying5
  a5 := Tryz.isAgg5
  z5 := Tryz.sizeOf5
  v5 := Tryz.zeroValue5
  t9 := Tryz.underlying9
  a9 := Tryz.isAgg9
  z9 := Tryz.sizeOf9
  v9 := Tryz.zeroValue9
  t12 := Tryz.underlying12
  a12 := Tryz.isAgg12
  z12 := Tryz.sizeOf12
  v12 := Tryz.zeroValue12
  t46 := Tryz.underlying40
  a46 := Tryz.isAgg40
  z46 := Tryz.sizeOf40
  v46 := Tryz.zeroValue40
  t53 := Tryz.underlying138
  a53 := Tryz.isAgg138
  z53 := Tryz.sizeOf138
  v53 := Tryz.zeroValue138
  t119 := Tryz.underlying144
  a119 := Tryz.isAgg144
  z119 := Tryz.sizeOf144
  t138 := Tryz.underlying146
  a138 := Tryz.isAgg146
  z138 := Tryz.sizeOf146
  v138 := Tryz.zeroValue146
  t139 := Tryz.underlying147
  a139 := Tryz.isAgg147
  z139 := Tryz.sizeOf147
  v139 := Tryz.zeroValue147
  g3 := by kernel_rfl
  g4 := by kernel_rfl }
open Go.RowKit Go.Lib in
theorem utf8_ValidString (s : ByteArray) (w : World) (hs : s.size ≤ 9223372036854775807) (hT : Lib.Utf8Tabs (lays196_ren.g 3) (lays196_ren.g 4) w) :
    Calls Tryz.prog 89 #[.string s] w fun e w' => e = .returned (.bool (Lib.validD s.data.toList)) ∧ Below w.heap.size w w' := Any.utf8_ValidString lays196 s w hs hT
end Go.Proofs.YtkhnicppcbgdiaaGreatDoor
namespace Go.Proofs.YtkhnicppcbgdiaaGreatDoor
/-- the library's two tables lie in the world -/
def Tabs (w : World) : Prop := Lib.Utf8Tabs (lays196_ren.g 3) (lays196_ren.g 4) w
theorem tabs_below {w w' : World} (h : Tabs w) (hb : RowKit.Below w.heap.size w w') : Tabs w' := Utf8Tabs_below h hb
end Go.Proofs.YtkhnicppcbgdiaaGreatDoor
namespace Go.Proofs.YtkhnicppcbgdiaaGreatDoor
set_option linter.unusedVariables false
open Go.ChangeShapes Go.WideShapes Go.ChangeAt Go.RowKit

/-- runes lie in memory, from a block's first place on -/
def HeldR (w : World) (g : Nat) (rs : List Int) : Prop := ∀ j z, rs[j]? = some z → w.cell? ⟨g, j, none⟩ = some (.int .i32 z)
theorem heldR_old {w w' : World} {g : Nat} {rs : List Int} (h : HeldR w g rs) (hb : Below w.heap.size w w') : HeldR w' g rs := by
  intro j z hj
  have hc := h j z hj
  have hlt : g < w.heap.size := by
    by_cases hg : g < w.heap.size
    · exact hg
    · simp [World.cell?, Array.getElem?_eq_none (Nat.le_of_not_lt hg)] at hc
  rw [hb.cell hlt]; exact hc

set_option maxHeartbeats 1000000 in
theorem letterR_any (r : Int) (w : World) :
    Calls Tryz.prog 69 #[.int .i32 r] w fun e w' => e = .returned (.bool (isLetter r)) ∧ w' = w := by
  go_enter Tryz.func69, Tryz.ntmps69
  go_wp2
  all_goals
    go_ret
    refine ⟨retB ?_, rfl⟩
    unfold isLetter
    rw [Bool.eq_iff_iff]
    simp
    omega
set_option maxHeartbeats 1000000 in
theorem digitR_any (r : Int) (w : World) :
    Calls Tryz.prog 70 #[.int .i32 r] w fun e w' => e = .returned (.bool (isDigit r)) ∧ w' = w := by
  go_enter Tryz.func70, Tryz.ntmps70
  go_wp2
  all_goals
    go_ret
    refine ⟨retB ?_, rfl⟩
    unfold isDigit
    rw [Bool.eq_iff_iff]
    simp
    omega
/-- []rune(s) -/
theorem run_runes (s : ByteArray) (w : World) (h : s.size ≤ 70368744177664) :
    ∃ c w', (convert 9 92 (.string s)).run Tryz.prog w = .ok (.slice (some ⟨w.heap.size, 0, none⟩) (runes s).length c) w' ∧ HeldR w' w.heap.size (runes s) ∧ (runes s).length ≤ c ∧ Below w.heap.size w w' := by
  have hl := runes_len s
  have hr := run_runes_of_string (P := Tryz.prog) w 9 92 21 s Tryz.underlying9 Tryz.underlying92 Tryz.underlying21 (by rw [runes_eq]; simp; omega)
  rw [runes_eq] at hr
  simp only [List.size_toArray, List.length_map] at hr
  refine ⟨_, _, hr, ?_, grownCap_ge _ _ _ _, ((Below.refl _ _).drew).alloc (by simp) _⟩
  intro j z hj
  have hlt := (List.getElem?_eq_some_iff.1 hj).1
  have e : (w.drew.alloc (.cells (((runes s).map (Value.int .i32)).toArray ++ Array.replicate (grownCap w (runes s).length 0 21 - (runes s).length) (.int .i32 0)) 21)).cell? ⟨w.drew.heap.size, j, none⟩ = (((runes s).map (Value.int .i32)).toArray ++ Array.replicate (grownCap w (runes s).length 0 21 - (runes s).length) (.int .i32 0))[j]? := World.cell?_alloc_new _ _ _ _
  have e2 : w.drew.heap.size = w.heap.size := rfl
  rw [e2] at e
  rw [e, Array.getElem?_append_left (by simpa using hlt)]
  simp [hj]
set_option maxHeartbeats 2000000 in
set_option maxRecDepth 20000 in
theorem runesR_any (s : ByteArray) (w : World) (hT : Tabs w) (h : s.size ≤ 70368744177664) :
    Calls Tryz.prog 68 #[.string s] w fun e w' =>
      (if Lib.validD s.data.toList = true then ∃ g c, e = .returned (.tuple #[.slice (some ⟨g, 0, none⟩) (runes s).length c, .bool true]) ∧ HeldR w' g (runes s) ∧ (runes s).length ≤ c
        else e = .returned (.tuple #[.slice none 0 0, .bool false])) ∧ Below w.heap.size w w' := by
  have hv := utf8_ValidString s w (by omega) hT
  obtain ⟨V, hV⟩ : ∃ V, Lib.validD s.data.toList = V := ⟨_, rfl⟩
  rw [hV] at hv ⊢
  cases V with
  | false =>
    go_enter Tryz.func68, Tryz.ntmps68
    go_wp2_with fail
    refine hv.mono ?_
    rintro e w1 ⟨rfl, hb⟩
    go_wp2_with fail
    go_ret2
    exact ⟨rfl, hb⟩
  | true =>
    go_enter Tryz.func68, Tryz.ntmps68
    go_wp2_with fail
    refine hv.mono ?_
    rintro e w1 ⟨rfl, hb⟩
    obtain ⟨c, w2, hr, hH, hc, hb2⟩ := run_runes s w1 h
    go_wp2_with fail
    go_ret2
    exact ⟨⟨_, c, rfl, hH, hc⟩, hb.trans (hb2.mono hb.size)⟩
end Go.Proofs.YtkhnicppcbgdiaaGreatDoor
