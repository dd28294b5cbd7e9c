/-
  The program's own reader of words in memory. Nothing is proved of the program here.
  The walks over the program's own small, great, Letter, fits and Name: a text is a name just if its runes are.
  What the library functions that this program calls answer, as theorems over this translation: each is one application of a theorem of the given library. Nothing is proved of the program itself here.
  What the library functions that this program calls answer, as theorems over this translation: each is one application of a theorem of the given library. Nothing is proved of the program itself here.
  The walks over the program's own reader: text, place, fail, refuse, skip and want.
  The walks over the program's own digit, run, remarkSize, nameSize, numberSize, behind and take: what it takes at a text's head.
  What the laws of this layer ask of Words, as one sentence (DevWords), and, where it holds, the walk over the laws' own awake.
  Declarations in a slice of the call's own: what holds in memory. Nothing is proved of the program here.
  A slice that a loop fills in a declaration of its own: what holds in memory meanwhile. Nothing is proved of the program here.
  The place behind the last rune of a text, as the program reckons it: the line feeds are counted, and the runes behind the last one.
  The walks over strings.Builder's functions, as this translation has them, at a builder that lies in the program's own writer: it holds the bytes that it held, and what was written.
-/
import Derived.Test.YtngmimbpakmkiaaGreatDoorGmA
import Derived.Test.YtngmimbpakmkiaaGreatDoorProg
import Derived.Shelf.Small.Strs
import Derived.Shelf.Utf8.RuneCount
import Derived.Shelf.Strconv.Atoi
import Derived.Shelf.Strconv.Clone
import Derived.Shelf.Strconv.ParseIntPublic10
import Derived.Shelf.Strings.Count
import Derived.Shelf.Strings.LastIndex
import Derived.Shelf.Strings.Prefix
import Derived.Shelf.LaysM
import Derived.Shelf.LaysC
import Derived.Ground.NamesProg
import Derived.Shelf.Strconv.Itoa3
import Derived.Shelf.Strings.Search3
import Derived.Shelf.Strings.Split
import Derived.Shelf.Strings.Repeat
import Derived.Deep.Cut
import Derived.Deep.DeepCutAuto
import Derived.Deep.RegionWith
import Derived.Deep.QuietTactic
import Derived.BigQuiet
import Derived.Deep.RegionLaw
import Derived.Deep.RegionHeldLaw
import Derived.WalkKit
import Derived.Laws.Externs
import Derived.Lib.BufferKept
import Derived.Lib.FrozenHead2
import Derived.Lib.AppendIntMem
import Derived.Shelf.RegionOpenPlain
namespace Go.Proofs.YtngmimbpakmkiaaGreatDoor
set_option linter.unusedVariables false
open Go.ChangeShapes Go.WideShapes Go.ChangeAt Go.RowKit

/-- what every word is, and that a number has digits -/
def GoodX (x : Wd) : Prop := GoodW x ∧ (x.kind = 2 → x.text ≠ [])
/-- the program's reader in memory -/
structure DrAt (w : World) (R : Nat) (en : Int × Int) (r : Rd) : Prop where
  cells : ∃ ad c, w.heap[R]? = some (.cells #[.slice ad r.l.length c, .int .i64 en.1, .int .i64 en.2, .int .i64 r.pl, .int .i64 r.pc, .int .i64 r.e] 88 (0, 0)) ∧ r.l.length ≤ c ∧ WordsAt w R ad r.l
  good : ∀ x ∈ r.l, GoodX x
  few : r.l.length ≤ 4000
theorem DrAt.lt {w : World} {R : Nat} {en : Int × Int} {r : Rd} (h : DrAt w R en r) : R < w.heap.size := by
  obtain ⟨ad, c, hc, _⟩ := h.cells
  exact (Array.getElem?_eq_some_iff.1 hc).1
theorem DrAt.old {w w' : World} {R : Nat} {en : Int × Int} {r : Rd} (h : DrAt w R en r) (hb : ∀ k, k < R + 1 → w'.heap[k]? = w.heap[k]?) : DrAt w' R en r := by
  obtain ⟨ad, c, hc, hl, hw⟩ := h.cells
  exact ⟨⟨ad, c, by rw [hb R (by omega)]; exact hc, hl, hw.old fun k hk => hb k (by omega)⟩, h.good, h.few⟩
theorem DrAt.below {w w' : World} {R : Nat} {en : Int × Int} {r : Rd} (h : DrAt w R en r) (hb : Below w.heap.size w w') : DrAt w' R en r :=
  h.old fun k hk => hb.block k (by have := h.lt; omega)
theorem DrAt.alloc {w : World} {R : Nat} {en : Int × Int} {r : Rd} (h : DrAt w R en r) (o : Obj) : DrAt (w.alloc o) R en r := h.below ((Below.refl _ w).alloc (Nat.le_refl _) o)
theorem DrAt.drew {w : World} {R : Nat} {en : Int × Int} {r : Rd} (h : DrAt w R en r) : DrAt w.drew R en r := h.old fun _ _ => rfl
/-- a cell of a block behind the reader is set -/
theorem DrAt.far {w : World} {R : Nat} {en : Int × Int} {r : Rd} (h : DrAt w R en r) (g j : Nat) (hg : R < g) (x : Value) : DrAt (w.setCell ⟨g, j, none⟩ x) R en r :=
  h.old fun k hk => Below.heap_setCell _ _ _ _ (by show k ≠ g; omega)
/-- the reader's cells, as a walk reads them -/
theorem DrAt.get {w : World} {R : Nat} {en : Int × Int} {r : Rd} (h : DrAt w R en r) : ∃ ad c, r.l.length ≤ c ∧ WordsAt w R ad r.l ∧
    w.heap[R]? = some (.cells #[.slice ad r.l.length c, .int .i64 en.1, .int .i64 en.2, .int .i64 r.pl, .int .i64 r.pc, .int .i64 r.e] 88 (0, 0)) ∧
    w.cell? ⟨R, 0, none⟩ = some (.slice ad r.l.length c) ∧ w.cell? ⟨R, 1, none⟩ = some (.int .i64 en.1) ∧ w.cell? ⟨R, 2, none⟩ = some (.int .i64 en.2) ∧ w.cell? ⟨R, 3, none⟩ = some (.int .i64 r.pl) ∧ w.cell? ⟨R, 4, none⟩ = some (.int .i64 r.pc) ∧ w.cell? ⟨R, 5, none⟩ = some (.int .i64 r.e) ∧
    (∀ j, w.frozen? ⟨R, j, none⟩ = false) := by
  obtain ⟨ad, c, hc, hl, hw⟩ := h.cells
  refine ⟨ad, c, hl, hw, hc, ?_, ?_, ?_, ?_, ?_, ?_, ?_⟩
  all_goals simp [World.cell?, World.frozen?, hc]
/-- the words behind the first one, cut off -/
theorem cut_wordsD (g o n c : Nat) (h : n + 1 ≤ c) : ∃ ad', (n = 0 ∨ ad' = some ⟨g, o + 4, none⟩) ∧ ∀ W, (Instr.slice 77 (.slice (some ⟨g, o, none⟩) (n + 1) c) (some (.int .i64 1)) none none).run Tryz.prog W = .ok (.slice ad' n (c - 1)) W := by
  have hsz : ∀ W, (sizeOf (Tryz.prog.elem 77)).run Tryz.prog W = .ok 4 W := fun W => by
    have : (Tryz.prog.info? (Tryz.prog.elem 77)).map (fun i => i.size) = some 4 := by kernel_rfl
    obtain ⟨i, hi, hs⟩ := Option.map_eq_some_iff.1 this
    simp [sizeOf, typeInfo, hi, hs]
  by_cases hc : c = 1
  · subst hc
    obtain rfl : n = 0 := by omega
    refine ⟨some ⟨g, o, none⟩, .inl rfl, fun W => ?_⟩
    rw [run_slice_l (P := Tryz.prog) W 77 _ _ _ (by kernel_rfl) .i64 1 (by decide) (by decide), hsz]
    simp [Result.andThen, sliced]
  · refine ⟨some ⟨g, o + 4, none⟩, .inr rfl, fun W => ?_⟩
    rw [run_slice_l (P := Tryz.prog) W 77 _ _ _ (by kernel_rfl) .i64 1 (by decide) (by omega), hsz]
    have ea : (⟨g, o, none⟩ : Addr).add 4 = ⟨g, o + 4, none⟩ := by unfold Addr.add; split <;> simp_all
    simp [Result.andThen, sliced, hc, ea]
/-- the reader behind its first word -/
theorem DrAt.tail {w : World} {R : Nat} {en : Int × Int} {r : Rd} (h : DrAt w R en r) {y : Wd} {t : List Wd} (hrl : r.l = y :: t) {g o c : Nat}
    (hc : w.heap[R]? = some (.cells #[.slice (some ⟨g, o, none⟩) r.l.length c, .int .i64 en.1, .int .i64 en.2, .int .i64 r.pl, .int .i64 r.pc, .int .i64 r.e] 88 (0, 0))) (hw : WordsAt w R (some ⟨g, o, none⟩) r.l) (hl : r.l.length ≤ c)
    (ad' : Option Addr) (hd : t.length = 0 ∨ ad' = some ⟨g, o + 4, none⟩) : DrAt (w.setCell ⟨R, 0, none⟩ (.slice ad' t.length (c - 1))) R en r.tail := by
  have e : r.tail.l = t := by unfold Rd.tail; rw [hrl]; rfl
  refine ⟨⟨ad', c - 1, ?_, ?_, ?_⟩, ?_, ?_⟩
  · rw [setCell_heap hc, e]; rfl
  · rw [e]; rw [hrl] at hl; simp at hl; omega
  · rw [e]
    refine WordsAt.old (w := w) ?_ fun k hk => Below.heap_setCell _ _ _ _ (by show k ≠ R; omega)
    rw [hrl] at hw
    exact hw.tail rfl ad' (hd.imp List.eq_nil_of_length_eq_zero id)
  · intro x hx; rw [e] at hx; exact h.good x (by rw [hrl]; exact List.mem_cons_of_mem _ hx)
  · rw [e]; have := h.few; rw [hrl] at this; simp at this; omega
end Go.Proofs.YtngmimbpakmkiaaGreatDoor
namespace Go.Proofs.YtngmimbpakmkiaaGreatDoor
set_option linter.unusedVariables false
open Go.ChangeShapes Go.WideShapes Go.ChangeAt Go.RowKit

set_option maxHeartbeats 1000000 in
theorem small_any (r : Int) (w : World) :
    Calls Tryz.prog 115 #[.int .i32 r] w fun e w' => e = .returned (.bool (isSmall r)) ∧ w' = w := by
  go_enter Tryz.func115, Tryz.ntmps115
  go_wp2
  all_goals
    go_ret
    refine ⟨retB ?_, rfl⟩
    unfold isSmall
    rw [Bool.eq_iff_iff]
    simp
    omega
set_option maxHeartbeats 1000000 in
theorem great_any (r : Int) (w : World) :
    Calls Tryz.prog 116 #[.int .i32 r] w fun e w' => e = .returned (.bool (isGreat r)) ∧ w' = w := by
  go_enter Tryz.func116, Tryz.ntmps116
  go_wp2
  all_goals
    go_ret
    refine ⟨retB ?_, rfl⟩
    unfold isGreat
    rw [Bool.eq_iff_iff]
    simp
    omega
theorem letter_eq (r : Int) : isLetter r = (isSmall r || isGreat r || decide (913 ≤ r ∧ r ≤ 969)) := by
  unfold isLetter isSmall isGreat
  rw [Bool.eq_iff_iff]; simp [or_assoc]
set_option maxHeartbeats 1000000 in
theorem letter_any (r : Int) (w : World) :
    Calls Tryz.prog 78 #[.int .i32 r] w fun e w' => e = .returned (.bool (isLetter r)) ∧ w' = w := by
  have hs := fun W => small_any r W
  have hg := fun W => great_any r W
  rw [letter_eq]
  generalize isSmall r = S at *
  generalize isGreat r = G at *
  cases S <;> cases G
  all_goals
    go_enter Tryz.func78, Tryz.ntmps78
    go_wp2_with (first
      | (go_at_call 115; refine (hs _).mono ?_; rintro e w' ⟨rfl, rfl⟩)
      | (go_at_call 116; refine (hg _).mono ?_; rintro e w' ⟨rfl, rfl⟩))
    all_goals
      go_ret
      refine ⟨retB ?_, rfl⟩
      clear hs hg
      first
        | rfl
        | (rw [Bool.eq_iff_iff]; simp; omega)
        | (simp; omega)
set_option maxHeartbeats 1000000 in
theorem fits_any (r : Int) (f : Bool) (w : World) :
    Calls Tryz.prog 121 #[.int .i32 r, .bool f] w fun e w' => e = .returned (.bool (fitsAt f r)) ∧ w' = w := by
  have hl := fun W => letter_any r W
  unfold fitsAt
  generalize isLetter r = L at *
  cases L <;> cases f
  all_goals
    go_enter Tryz.func121, Tryz.ntmps121
    go_wp2_with (go_at_call 78; refine (hl _).mono ?_; rintro e w' ⟨rfl, rfl⟩)
    all_goals
      go_ret
      refine ⟨retB ?_, rfl⟩
      clear hl
      unfold isDigit
      first
        | rfl
        | (rw [Bool.eq_iff_iff]; simp; omega)
        | (simp_all; done)
        | (simp_all; omega)
set_option maxHeartbeats 2000000 in
theorem name_any (s : ByteArray) (w : World) (hs : s.size < 9223372036854775807) :
    Calls Tryz.prog 85 #[.string s] w fun e w' => e = .returned (.bool (nameOf (runes s))) ∧ Below w.heap.size w w' := by
  have hF := fun r f W => fits_any r f W
  have HN : Hid (nameOf (runes s) = okFrom 0 (rns s s.size 0)) := (okFrom_name (runes s)).symm
  go_enter Tryz.func85, Tryz.ntmps85
  go_wp2
  go_loopw [3] (fun n w' => ∃ (pos b acc : Nat), w' = w.iter s pos ∧ n = .int .i64 acc ∧ okFrom 0 (rns s s.size 0) = okFrom acc (rns s b pos) ∧ s.size ≤ pos + b ∧ acc ≤ 40) (fun _ w' => s.size - w'.iterPos w.heap.size)
  case atStart => exact ⟨0, s.size, 0, rfl, rfl, rfl, by omega, by omega⟩
  case round =>
    obtain ⟨pos, b, acc, rfl, rfl, hc, hb, ha⟩ := hrel
    have HB : ∀ p, Below w.heap.size w (w.iter s p) := fun p => (Below.refl _ w).alloc (Nat.le_refl _) _
    by_cases hp : pos < s.size
    · have hnx : ∀ ty, (Instr.next (.pointer (some ⟨w.heap.size, 0, none⟩)) true ty).run Tryz.prog (w.iter s pos) = _ := fun ty => run_next_any w s pos ty hp
      have hwd := width_pos s pos hp
      obtain ⟨b, rfl⟩ : ∃ b', b = b' + 1 := ⟨b - 1, by omega⟩
      rw [rns_step s b pos hp, okFrom] at hc
      have HC : Hid (nameOf (runes s) = (decide (acc < 40) && fitsAt (acc == 0) ((Utf8.decode s pos).1 : Int) && okFrom (acc + 1) (rns s b (pos + (Utf8.decode s pos).2)))) := by
        refine (?_ : nameOf (runes s) = _)
        rw [HN.out, hc]
      have HC2 : Hid (okFrom 0 (rns s s.size 0) = (decide (acc < 40) && fitsAt (acc == 0) ((Utf8.decode s pos).1 : Int) && okFrom (acc + 1) (rns s b (pos + (Utf8.decode s pos).2)))) := hc
      clear hc
      by_cases h40 : acc = 40
      · subst h40
        have HX : Hid (nameOf (runes s) = false) := by
          refine (?_ : nameOf (runes s) = false)
          rw [HC.out]; simp
        clear HC HC2 HN
        go_wp2
        go_ret
        exact ⟨retB HX.out.symm, HB _⟩
      · have hlt : acc < 40 := by omega
        have h40' : ((acc : Int) == 40) = false := by simp; omega
        have hd : (decide (acc < 40)) = true := by simp [hlt]
        rw [hd] at HC HC2
        obtain ⟨F, hFF⟩ : ∃ F, fitsAt (acc == 0) ((Utf8.decode s pos).1 : Int) = F := ⟨_, rfl⟩
        have hf : ∀ W, Calls Tryz.prog 121 #[.int .i32 ((Utf8.decode s pos).1 : Int), .bool ((acc : Int) == 0)] W fun e w' => e = .returned (.bool F) ∧ w' = W := by
          intro W
          have := hF ((Utf8.decode s pos).1 : Int) (acc == 0) W
          rw [hFF] at this
          have e : ((acc : Int) == 0) = (acc == 0) := by rw [Bool.eq_iff_iff]; simp
          rw [e]; exact this
        rw [hFF] at HC HC2
        clear hF hFF hd
        cases F with
        | false =>
          have HX : Hid (nameOf (runes s) = false) := by
            refine (?_ : nameOf (runes s) = false)
            rw [HC.out]; simp
          clear HC HC2 HN
          go_wp2_with (go_at_call 121; refine (hf _).mono ?_; rintro e w' ⟨rfl, rfl⟩)
          go_ret
          exact ⟨retB HX.out.symm, HB _⟩
        | true =>
          have HX : Hid (okFrom 0 (rns s s.size 0) = okFrom (acc + 1) (rns s b (pos + (Utf8.decode s pos).2))) := by
            refine (?_ : okFrom 0 (rns s s.size 0) = _)
            rw [HC2.out]; simp
          clear HC HC2 HN
          go_wp2_with (go_at_call 121; refine (hf _).mono ?_; rintro e w' ⟨rfl, rfl⟩)
          go_roundw
          case rel => exact ⟨pos + (Utf8.decode s pos).2, b, acc + 1, rfl, by go_num, HX.out, by omega, by omega⟩
          case measure =>
            simp
            omega
    · have hnx : ∀ ty, (Instr.next (.pointer (some ⟨w.heap.size, 0, none⟩)) true ty).run Tryz.prog (w.iter s pos) = _ := fun ty => run_next_end w s pos ty hp
      have HX : Hid (nameOf (runes s) = decide (0 < acc)) := by
        refine (?_ : nameOf (runes s) = _)
        rw [HN.out, hc, rns_end s b pos hp, okFrom]
      clear hc HN hF
      by_cases h0 : acc = 0
      · subst h0
        go_wp2
        go_ret
        exact ⟨retB (by rw [HX.out]; simp), HB _⟩
      · go_wp2
        go_ret
        exact ⟨retB (by first | (rw [HX.out]; done) | (rw [HX.out]; simp; done) | (rw [HX.out]; simp; omega)), HB _⟩
end Go.Proofs.YtngmimbpakmkiaaGreatDoor
namespace Go.Proofs.YtngmimbpakmkiaaGreatDoor
open Go.Shelf
def lays137_ren : Go.Shelf.Ren := ⟨fun | 137 => 114 | 217 => 134 | 266 => 149 | n => n, fun | 9 => 9 | 5 => 5 | 3 => 3 | n => n, fun | n => n⟩
theorem lays137 : Go.Proofs.Lays.n137 Tryz.prog lays137_ren := {
  mixed := by kernel_rfl
  f137 := Tryz.func114.trans (congrArg some (by kernel_rfl))
  f217 := Tryz.func134.trans (congrArg some (by kernel_rfl))
  f266 := Tryz.func149.trans (congrArg some (by kernel_rfl))
  t3 := Tryz.underlying3
  a3 := Tryz.isAgg3
  z3 := Tryz.sizeOf3
  v3 := Tryz.zeroValue3
  t5 := Tryz.underlying5
  a5 := Tryz.isAgg5
  z5 := Tryz.sizeOf5
  v5 := Tryz.zeroValue5
  t9 := Tryz.underlying9
  a9 := Tryz.isAgg9
  z9 := Tryz.sizeOf9
  v9 := Tryz.zeroValue9 }
open Go.RowKit in
theorem strings_IndexByte (s : ByteArray) (c : Int) (w : World) :
    Calls Tryz.prog 114 #[.string s, .int .u8 c] w fun e w' => e = .returned (.int .i64 (Lib.indexByte s.data.toList c.toNat.toUInt8)) ∧ w' = w := Any.strings_IndexByte lays137 s c w
def lays195_ren : Go.Shelf.Ren := ⟨fun | 195 => 66 | n => n, fun | 9 => 9 | 3 => 3 | 0 => 0 | 4 => 4 | n => n, fun | n => n⟩
theorem lays195 : Go.Proofs.Lays.n195 Tryz.prog lays195_ren := {
  mixed := by kernel_rfl
  f195 := Tryz.func66.trans (congrArg some (by kernel_rfl))
  t0 := Tryz.underlying0
  a0 := Tryz.isAgg0
  z0 := Tryz.sizeOf0
  v0 := Tryz.zeroValue0
  t3 := Tryz.underlying3
  a3 := Tryz.isAgg3
  z3 := Tryz.sizeOf3
  v3 := Tryz.zeroValue3
  t4 := Tryz.underlying4
  a4 := Tryz.isAgg4
  z4 := Tryz.sizeOf4
  v4 := Tryz.zeroValue4
  t9 := Tryz.underlying9
  a9 := Tryz.isAgg9
  z9 := Tryz.sizeOf9
  v9 := Tryz.zeroValue9 }
open Go.RowKit in
theorem utf8_RuneCountInString (s : ByteArray) (w : World) (hs : s.size < 9223372036854775807) :
    Calls Tryz.prog 66 #[.string s] w fun e w' => e = .returned (.int .i64 (Lib.runeCount s)) ∧ ∃ pos, w' = w.iter s pos := Any.utf8_RuneCountInString lays195 s w hs
def lays172_ren : Go.Shelf.Ren := ⟨fun | 172 => 127 | 244 => 143 | 245 => 136 | 247 => 135 | 279 => 151 | 280 => 152 | 281 => 153 | 282 => 154 | 287 => 150 | 316 => 42 | 171 => 49 | 205 => 162 | 321 => 160 | 322 => 161 | 243 => 76 | 246 => 113 | 283 => 130 | 284 => 131 | 285 => 132 | 286 => 133 | 129 => 145 | 317 => 144 | 318 => 146 | 319 => 147 | 320 => 148 | 337 => 158 | 338 => 159 | n => n, fun | 9 => 9 | 3 => 3 | 75 => 98 | 76 => 99 | 4 => 4 | 5 => 5 | 167 => 185 | 37 => 69 | 0 => 0 | 85 => 161 | 2 => 2 | 168 => 188 | 53 => 157 | 175 => 186 | 46 => 129 | 210 => 197 | 127 => 105 | 145 => 204 | 143 => 202 | 21 => 21 | 171 => 170 | 173 => 173 | 212 => 182 | 51 => 154 | 20 => 20 | 213 => 183 | 232 => 200 | 233 => 201 | 80 => 76 | n => n, fun | 15 => 4 | 16 => 5 | 17 => 3 | 18 => 6 | 19 => 7 | n => n⟩
theorem lays172 : Go.Proofs.Lays.n172 Tryz.prog lays172_ren := {
  mixed := by kernel_rfl
  f129 := Tryz.func145.trans (congrArg some (by kernel_rfl))
  f171 := Tryz.func49.trans (congrArg some (by kernel_rfl))
  f172 := Tryz.func127.trans (congrArg some (by kernel_rfl))
  f205 := Tryz.func162.trans (congrArg some (by kernel_rfl))
  f243 := Tryz.func76.trans (congrArg some (by kernel_rfl))
  f244 := Tryz.func143.trans (congrArg some (by kernel_rfl))
  f245 := Tryz.func136.trans (congrArg some (by kernel_rfl))
  f246 := Tryz.func113.trans (congrArg some (by kernel_rfl))
  f247 := Tryz.func135.trans (congrArg some (by kernel_rfl))
  f279 := Tryz.func151.trans (congrArg some (by kernel_rfl))
  f280 := Tryz.func152.trans (congrArg some (by kernel_rfl))
  f281 := Tryz.func153.trans (congrArg some (by kernel_rfl))
  f282 := Tryz.func154.trans (congrArg some (by kernel_rfl))
  f283 := Tryz.func130.trans (congrArg some (by kernel_rfl))
  f284 := Tryz.func131.trans (congrArg some (by kernel_rfl))
  f285 := Tryz.func132.trans (congrArg some (by kernel_rfl))
  f286 := Tryz.func133.trans (congrArg some (by kernel_rfl))
  f287 := Tryz.func150.trans (congrArg some (by kernel_rfl))
  f316 := Tryz.func42.trans (congrArg some (by kernel_rfl))
  f317 := Tryz.func144.trans (congrArg some (by kernel_rfl))
  f318 := Tryz.func146.trans (congrArg some (by kernel_rfl))
  f319 := Tryz.func147.trans (congrArg some (by kernel_rfl))
  f320 := Tryz.func148.trans (congrArg some (by kernel_rfl))
  f321 := Tryz.func160.trans (congrArg some (by kernel_rfl))
  f322 := Tryz.func161.trans (congrArg some (by kernel_rfl))
  f337 := Tryz.func158.trans (congrArg some (by kernel_rfl))
  f338 := Tryz.func159.trans (congrArg some (by kernel_rfl))
  t0 := Tryz.underlying0
  a0 := Tryz.isAgg0
  z0 := Tryz.sizeOf0
  v0 := Tryz.zeroValue0
  t2 := Tryz.underlying2
  a2 := Tryz.isAgg2
  z2 := Tryz.sizeOf2
  v2 := Tryz.zeroValue2
  t3 := Tryz.underlying3
  a3 := Tryz.isAgg3
  z3 := Tryz.sizeOf3
  v3 := Tryz.zeroValue3
  t4 := Tryz.underlying4
  a4 := Tryz.isAgg4
  z4 := Tryz.sizeOf4
  v4 := Tryz.zeroValue4
  t5 := Tryz.underlying5
  a5 := Tryz.isAgg5
  z5 := Tryz.sizeOf5
  v5 := Tryz.zeroValue5
  t9 := Tryz.underlying9
  a9 := Tryz.isAgg9
  z9 := Tryz.sizeOf9
  v9 := Tryz.zeroValue9
  t20 := Tryz.underlying20
  a20 := Tryz.isAgg20
  z20 := Tryz.sizeOf20
  v20 := Tryz.zeroValue20
  t21 := Tryz.underlying21
  a21 := Tryz.isAgg21
  z21 := Tryz.sizeOf21
  v21 := Tryz.zeroValue21
  t37 := Tryz.underlying69
  a37 := Tryz.isAgg69
  z37 := Tryz.sizeOf69
  v37 := Tryz.zeroValue69
  t46 := Tryz.underlying129
  a46 := Tryz.isAgg129
  z46 := Tryz.sizeOf129
  v46 := Tryz.zeroValue129
  t51 := Tryz.underlying154
  a51 := Tryz.isAgg154
  z51 := Tryz.sizeOf154
  v51 := Tryz.zeroValue154
  t53 := Tryz.underlying157
  a53 := Tryz.isAgg157
  z53 := Tryz.sizeOf157
  v53 := Tryz.zeroValue157
  t75 := Tryz.underlying98
  a75 := Tryz.isAgg98
  z75 := Tryz.sizeOf98
  v75 := Tryz.zeroValue98
  t76 := Tryz.underlying99
  a76 := Tryz.isAgg99
  z76 := Tryz.sizeOf99
  v76 := Tryz.zeroValue99
  t85 := Tryz.underlying161
  a85 := Tryz.isAgg161
  z85 := Tryz.sizeOf161
  v85 := Tryz.zeroValue161
  t127 := Tryz.underlying105
  a127 := Tryz.isAgg105
  z127 := Tryz.sizeOf105
  v127 := Tryz.zeroValue105
  t143 := Tryz.underlying202
  a143 := Tryz.isAgg202
  z143 := Tryz.sizeOf202
  v143 := Tryz.zeroValue202
  t145 := Tryz.underlying204
  a145 := Tryz.isAgg204
  z145 := Tryz.sizeOf204
  v145 := Tryz.zeroValue204
  t167 := Tryz.underlying185
  a167 := Tryz.isAgg185
  z167 := Tryz.sizeOf185
  v167 := Tryz.zeroValue185
  t168 := Tryz.underlying188
  a168 := Tryz.isAgg188
  z168 := Tryz.sizeOf188
  v168 := Tryz.zeroValue188
  t171 := Tryz.underlying170
  a171 := Tryz.isAgg170
  z171 := Tryz.sizeOf170
  v171 := Tryz.zeroValue170
  t173 := Tryz.underlying173
  a173 := Tryz.isAgg173
  z173 := Tryz.sizeOf173
  v173 := Tryz.zeroValue173
  t175 := Tryz.underlying186
  a175 := Tryz.isAgg186
  z175 := Tryz.sizeOf186
  v175 := Tryz.zeroValue186
  t210 := Tryz.underlying197
  a210 := Tryz.isAgg197
  z210 := Tryz.sizeOf197
  v210 := Tryz.zeroValue197
  t212 := Tryz.underlying182
  a212 := Tryz.isAgg182
  z212 := Tryz.sizeOf182
  v212 := Tryz.zeroValue182
  t213 := Tryz.underlying183
  a213 := Tryz.isAgg183
  z213 := Tryz.sizeOf183
  t232 := Tryz.underlying200
  a232 := Tryz.isAgg200
  z232 := Tryz.sizeOf200
  v232 := Tryz.zeroValue200
  t233 := Tryz.underlying201
  a233 := Tryz.isAgg201
  z233 := Tryz.sizeOf201
  v233 := Tryz.zeroValue201
  g15 := by kernel_rfl
  g16 := by kernel_rfl
  g17 := by kernel_rfl
  g18 := by kernel_rfl
  g19 := by kernel_rfl }
open Go.RowKit in
theorem strconv_Atoi (s : ByteArray) (n : Int) (hl : s.size ≤ 18) (h : Lib.atoi s.data.toList = some n) (w : World) :
    Calls Tryz.prog 127 #[.string s] w fun e w' => e = .returned (.tuple #[.int .i64 n, .nilIface]) ∧ ∃ t, w' = Lib.bytesWorld w 5 t := Any.strconv_Atoi lays172 s n hl h w
def laysM316_ren : Go.Shelf.Ren := ⟨fun | 316 => 42 | n => n, fun | 9 => 9 | 3 => 3 | 4 => 4 | 37 => 69 | 0 => 0 | 127 => 105 | 5 => 5 | n => n, fun | n => n⟩
theorem laysM316 : Go.Proofs.LaysM.n316 Tryz.prog laysM316_ren := {
  mixed := by kernel_rfl
  f316 := Tryz.func42.trans (congrArg some (by kernel_rfl))
  t0 := Tryz.underlying0
  a0 := Tryz.isAgg0
  z0 := Tryz.sizeOf0
  v0 := Tryz.zeroValue0
  t3 := Tryz.underlying3
  a3 := Tryz.isAgg3
  z3 := Tryz.sizeOf3
  v3 := Tryz.zeroValue3
  t4 := Tryz.underlying4
  a4 := Tryz.isAgg4
  z4 := Tryz.sizeOf4
  v4 := Tryz.zeroValue4
  t9 := Tryz.underlying9
  a9 := Tryz.isAgg9
  z9 := Tryz.sizeOf9
  v9 := Tryz.zeroValue9
  t37 := Tryz.underlying69
  a37 := Tryz.isAgg69
  z37 := Tryz.sizeOf69
  v37 := Tryz.zeroValue69
  t127 := Tryz.underlying105
  a127 := Tryz.isAgg105
  z127 := Tryz.sizeOf105
  v127 := Tryz.zeroValue105
  t5 := Tryz.underlying5
  a5 := Tryz.isAgg5
  z5 := Tryz.sizeOf5
  v5 := Tryz.zeroValue5
  i0 := by kernel_rfl
  i3 := by kernel_rfl
  i4 := by kernel_rfl
  i5 := by kernel_rfl
  i9 := by kernel_rfl
  i37 := by kernel_rfl
  i127 := by kernel_rfl }
open Go.RowKit in
theorem stringslite_Clone (s : ByteArray) (w : World) (hlim : s.size ≤ 281474976710656) :
    Calls Tryz.prog 42 #[.string s] w fun e w' => e = .returned (.string s) ∧ Below w.heap.size w w' := Any.stringslite_Clone laysM316 s w hlim
def laysC174_ren : Go.Shelf.Ren := ⟨fun | 174 => 118 | 247 => 135 | 245 => 136 | 287 => 150 | 279 => 151 | 280 => 152 | 281 => 153 | 282 => 154 | 321 => 160 | 322 => 161 | 316 => 42 | 171 => 49 | 205 => 162 | 243 => 76 | 246 => 113 | 283 => 130 | 284 => 131 | 285 => 132 | 286 => 133 | 129 => 145 | 317 => 144 | 318 => 146 | 319 => 147 | 320 => 148 | 337 => 158 | 338 => 159 | n => n, fun | 9 => 9 | 3 => 3 | 2 => 2 | 75 => 98 | 85 => 161 | 4 => 4 | 167 => 185 | 5 => 5 | 53 => 157 | 175 => 186 | 46 => 129 | 168 => 188 | 37 => 69 | 0 => 0 | 210 => 197 | 21 => 21 | 127 => 105 | 145 => 204 | 143 => 202 | 171 => 170 | 173 => 173 | 212 => 182 | 51 => 154 | 20 => 20 | 213 => 183 | 232 => 200 | 233 => 201 | 80 => 76 | n => n, fun | 15 => 4 | 16 => 5 | 17 => 3 | 18 => 6 | 19 => 7 | n => n⟩
theorem laysC174 : Go.Proofs.LaysC.n174 Tryz.prog laysC174_ren := {
  mixed := by kernel_rfl
  f129 := Tryz.func145.trans (congrArg some (by kernel_rfl))
  f171 := Tryz.func49.trans (congrArg some (by kernel_rfl))
  f174 := Tryz.func118.trans (congrArg some (by kernel_rfl))
  f205 := Tryz.func162.trans (congrArg some (by kernel_rfl))
  f243 := Tryz.func76.trans (congrArg some (by kernel_rfl))
  f245 := Tryz.func136.trans (congrArg some (by kernel_rfl))
  f246 := Tryz.func113.trans (congrArg some (by kernel_rfl))
  f247 := Tryz.func135.trans (congrArg some (by kernel_rfl))
  f279 := Tryz.func151.trans (congrArg some (by kernel_rfl))
  f280 := Tryz.func152.trans (congrArg some (by kernel_rfl))
  f281 := Tryz.func153.trans (congrArg some (by kernel_rfl))
  f282 := Tryz.func154.trans (congrArg some (by kernel_rfl))
  f283 := Tryz.func130.trans (congrArg some (by kernel_rfl))
  f284 := Tryz.func131.trans (congrArg some (by kernel_rfl))
  f285 := Tryz.func132.trans (congrArg some (by kernel_rfl))
  f286 := Tryz.func133.trans (congrArg some (by kernel_rfl))
  f287 := Tryz.func150.trans (congrArg some (by kernel_rfl))
  f316 := Tryz.func42.trans (congrArg some (by kernel_rfl))
  f317 := Tryz.func144.trans (congrArg some (by kernel_rfl))
  f318 := Tryz.func146.trans (congrArg some (by kernel_rfl))
  f319 := Tryz.func147.trans (congrArg some (by kernel_rfl))
  f320 := Tryz.func148.trans (congrArg some (by kernel_rfl))
  f321 := Tryz.func160.trans (congrArg some (by kernel_rfl))
  f322 := Tryz.func161.trans (congrArg some (by kernel_rfl))
  f337 := Tryz.func158.trans (congrArg some (by kernel_rfl))
  f338 := Tryz.func159.trans (congrArg some (by kernel_rfl))
  t0 := Tryz.underlying0
  a0 := Tryz.isAgg0
  z0 := Tryz.sizeOf0
  v0 := Tryz.zeroValue0
  t2 := Tryz.underlying2
  a2 := Tryz.isAgg2
  z2 := Tryz.sizeOf2
  v2 := Tryz.zeroValue2
  t3 := Tryz.underlying3
  a3 := Tryz.isAgg3
  z3 := Tryz.sizeOf3
  v3 := Tryz.zeroValue3
  t4 := Tryz.underlying4
  a4 := Tryz.isAgg4
  z4 := Tryz.sizeOf4
  v4 := Tryz.zeroValue4
  t5 := Tryz.underlying5
  a5 := Tryz.isAgg5
  z5 := Tryz.sizeOf5
  v5 := Tryz.zeroValue5
  t9 := Tryz.underlying9
  a9 := Tryz.isAgg9
  z9 := Tryz.sizeOf9
  v9 := Tryz.zeroValue9
  t20 := Tryz.underlying20
  a20 := Tryz.isAgg20
  z20 := Tryz.sizeOf20
  v20 := Tryz.zeroValue20
  t21 := Tryz.underlying21
  a21 := Tryz.isAgg21
  z21 := Tryz.sizeOf21
  v21 := Tryz.zeroValue21
  t37 := Tryz.underlying69
  a37 := Tryz.isAgg69
  z37 := Tryz.sizeOf69
  v37 := Tryz.zeroValue69
  t46 := Tryz.underlying129
  a46 := Tryz.isAgg129
  z46 := Tryz.sizeOf129
  v46 := Tryz.zeroValue129
  t51 := Tryz.underlying154
  a51 := Tryz.isAgg154
  z51 := Tryz.sizeOf154
  v51 := Tryz.zeroValue154
  t53 := Tryz.underlying157
  a53 := Tryz.isAgg157
  z53 := Tryz.sizeOf157
  v53 := Tryz.zeroValue157
  t75 := Tryz.underlying98
  a75 := Tryz.isAgg98
  z75 := Tryz.sizeOf98
  v75 := Tryz.zeroValue98
  t85 := Tryz.underlying161
  a85 := Tryz.isAgg161
  z85 := Tryz.sizeOf161
  v85 := Tryz.zeroValue161
  t127 := Tryz.underlying105
  a127 := Tryz.isAgg105
  z127 := Tryz.sizeOf105
  v127 := Tryz.zeroValue105
  t143 := Tryz.underlying202
  a143 := Tryz.isAgg202
  z143 := Tryz.sizeOf202
  v143 := Tryz.zeroValue202
  t145 := Tryz.underlying204
  a145 := Tryz.isAgg204
  z145 := Tryz.sizeOf204
  v145 := Tryz.zeroValue204
  t167 := Tryz.underlying185
  a167 := Tryz.isAgg185
  z167 := Tryz.sizeOf185
  v167 := Tryz.zeroValue185
  t168 := Tryz.underlying188
  a168 := Tryz.isAgg188
  z168 := Tryz.sizeOf188
  v168 := Tryz.zeroValue188
  t171 := Tryz.underlying170
  a171 := Tryz.isAgg170
  z171 := Tryz.sizeOf170
  v171 := Tryz.zeroValue170
  t173 := Tryz.underlying173
  a173 := Tryz.isAgg173
  z173 := Tryz.sizeOf173
  v173 := Tryz.zeroValue173
  t175 := Tryz.underlying186
  a175 := Tryz.isAgg186
  z175 := Tryz.sizeOf186
  v175 := Tryz.zeroValue186
  t210 := Tryz.underlying197
  a210 := Tryz.isAgg197
  z210 := Tryz.sizeOf197
  v210 := Tryz.zeroValue197
  t212 := Tryz.underlying182
  a212 := Tryz.isAgg182
  z212 := Tryz.sizeOf182
  v212 := Tryz.zeroValue182
  t213 := Tryz.underlying183
  a213 := Tryz.isAgg183
  z213 := Tryz.sizeOf183
  t232 := Tryz.underlying200
  a232 := Tryz.isAgg200
  z232 := Tryz.sizeOf200
  v232 := Tryz.zeroValue200
  t233 := Tryz.underlying201
  a233 := Tryz.isAgg201
  z233 := Tryz.sizeOf201
  v233 := Tryz.zeroValue201
  g15 := by kernel_rfl
  g16 := by kernel_rfl
  g17 := by kernel_rfl
  g18 := by kernel_rfl
  g19 := by kernel_rfl
  t80 := Tryz.underlying76
  a80 := Tryz.isAgg76
  z80 := Tryz.sizeOf76
  v80 := Tryz.zeroValue76
  i0 := by kernel_rfl
  i2 := by kernel_rfl
  i3 := by kernel_rfl
  i4 := by kernel_rfl
  i5 := by kernel_rfl
  i9 := by kernel_rfl
  i20 := by kernel_rfl
  i21 := by kernel_rfl
  i37 := by kernel_rfl
  i46 := by kernel_rfl
  i51 := by kernel_rfl
  i53 := by kernel_rfl
  i75 := by kernel_rfl
  i80 := by kernel_rfl
  i85 := by kernel_rfl
  i127 := by kernel_rfl
  i143 := by kernel_rfl
  i145 := by kernel_rfl
  i167 := by kernel_rfl
  i168 := by kernel_rfl
  i171 := by kernel_rfl
  i173 := by kernel_rfl
  i175 := by kernel_rfl
  i210 := by kernel_rfl
  i212 := by kernel_rfl
  i232 := by kernel_rfl
  i233 := by kernel_rfl
  m15 := by kernel_rfl
  m16 := by kernel_rfl
  m17 := by kernel_rfl
  m18 := by kernel_rfl
  m19 := by kernel_rfl
  c0 := by kernel_rfl
  c2 := by kernel_rfl
  c3 := by kernel_rfl
  c4 := by kernel_rfl
  c5 := by kernel_rfl
  c9 := by kernel_rfl
  c20 := by kernel_rfl
  c21 := by kernel_rfl
  c37 := by kernel_rfl
  c46 := by kernel_rfl
  c51 := by kernel_rfl
  c53 := by kernel_rfl
  c75 := by kernel_rfl
  c80 := by kernel_rfl
  c85 := by kernel_rfl
  c127 := by kernel_rfl
  c143 := by kernel_rfl
  c145 := by kernel_rfl
  c167 := by kernel_rfl
  c168 := by kernel_rfl
  c171 := by kernel_rfl
  c173 := by kernel_rfl
  c175 := by kernel_rfl
  c210 := by kernel_rfl
  c212 := by kernel_rfl
  c213 := by kernel_rfl
  c232 := by kernel_rfl
  c233 := by kernel_rfl }
open Go.RowKit in
theorem strconv_ParseInt_10_at32_ok (s : ByteArray) (hmax : s.size ≤ 9223372036854775806) (v : Int) (h : Lib.parseIntB 32 s.data.toList = .ok v) (w : World) :
    Calls Tryz.prog 118 #[.string s, .int .i64 10, .int .i64 32] w fun e w' => e = .returned (.tuple #[.int .i64 v, .nilIface]) ∧ (w' = w ∨ ∃ t, w' = Lib.bytesWorld w 5 t) := Any.strconv_ParseInt_10_at32_ok laysC174 s hmax v h w
open Go.RowKit in
theorem strconv_ParseInt_10_at32_syntax (s : ByteArray) (hlim : s.size ≤ 281474976710656) (h : Lib.parseIntB 32 s.data.toList = .«syntax») (ev : Value) (w : World) (hv : w.cell? ⟨4, 0, none⟩ = some ev) (hev : ev = .nilIface ∨ ∃ te pe, ev = .iface te pe) :
    Calls Tryz.prog 118 #[.string s, .int .i64 10, .int .i64 32] w fun e w' => ∃ N, e = .returned (.tuple #[.int .i64 (0), .iface 188 (.pointer (some ⟨N, 0, none⟩))]) ∧ w.heap.size ≤ N ∧ w'.heap[N]? = some (.cells #[.string ⟨#[80, 97, 114, 115, 101, 73, 110, 116]⟩, .string s, ev] 197 (0, 0)) ∧ Below w.heap.size w w' := Any.strconv_ParseInt_10_at32_syntax laysC174 s hlim h ev w hv hev
open Go.RowKit in
theorem strconv_ParseInt_10_at32_range (s : ByteArray) (hlim : s.size ≤ 281474976710656) (h : Lib.parseIntB 32 s.data.toList = .range) (ev : Value) (w : World) (hv : w.cell? ⟨5, 0, none⟩ = some ev) (hev : ev = .nilIface ∨ ∃ te pe, ev = .iface te pe) :
    Calls Tryz.prog 118 #[.string s, .int .i64 10, .int .i64 32] w fun e w' => ∃ N, e = .returned (.tuple #[.int .i64 (Lib.intSat 32 s.data.toList), .iface 188 (.pointer (some ⟨N, 0, none⟩))]) ∧ w.heap.size ≤ N ∧ w'.heap[N]? = some (.cells #[.string ⟨#[80, 97, 114, 115, 101, 73, 110, 116]⟩, .string s, ev] 197 (0, 0)) ∧ Below w.heap.size w w' := Any.strconv_ParseInt_10_at32_range laysC174 s hlim h ev w hv hev
def lays138_ren : Go.Shelf.Ren := ⟨fun | 138 => 65 | 195 => 66 | 218 => 97 | 143 => 98 | 219 => 125 | 217 => 134 | 225 => 139 | 224 => 140 | 267 => 141 | 266 => 149 | 314 => 157 | n => n, fun | 9 => 9 | 3 => 3 | 4 => 4 | 5 => 5 | 0 => 0 | 46 => 129 | 146 => 155 | 51 => 154 | n => n, fun | 1 => 0 | n => n⟩
theorem lays138 : Go.Proofs.Lays.n138 Tryz.prog lays138_ren := {
  mixed := by kernel_rfl
  f138 := Tryz.func65.trans (congrArg some (by kernel_rfl))
  f143 := Tryz.func98.trans (congrArg some (by kernel_rfl))
  f195 := Tryz.func66.trans (congrArg some (by kernel_rfl))
  f217 := Tryz.func134.trans (congrArg some (by kernel_rfl))
  f218 := Tryz.func97.trans (congrArg some (by kernel_rfl))
  f219 := Tryz.func125.trans (congrArg some (by kernel_rfl))
  f224 := Tryz.func140.trans (congrArg some (by kernel_rfl))
  f225 := Tryz.func139.trans (congrArg some (by kernel_rfl))
  f266 := Tryz.func149.trans (congrArg some (by kernel_rfl))
  f267 := Tryz.func141.trans (congrArg some (by kernel_rfl))
  f314 := Tryz.func157.trans (congrArg some (by kernel_rfl))
  t0 := Tryz.underlying0
  a0 := Tryz.isAgg0
  z0 := Tryz.sizeOf0
  v0 := Tryz.zeroValue0
  t3 := Tryz.underlying3
  a3 := Tryz.isAgg3
  z3 := Tryz.sizeOf3
  v3 := Tryz.zeroValue3
  t4 := Tryz.underlying4
  a4 := Tryz.isAgg4
  z4 := Tryz.sizeOf4
  v4 := Tryz.zeroValue4
  t5 := Tryz.underlying5
  a5 := Tryz.isAgg5
  z5 := Tryz.sizeOf5
  v5 := Tryz.zeroValue5
  t9 := Tryz.underlying9
  a9 := Tryz.isAgg9
  z9 := Tryz.sizeOf9
  v9 := Tryz.zeroValue9
  t46 := Tryz.underlying129
  a46 := Tryz.isAgg129
  z46 := Tryz.sizeOf129
  v46 := Tryz.zeroValue129
  t51 := Tryz.underlying154
  a51 := Tryz.isAgg154
  z51 := Tryz.sizeOf154
  v51 := Tryz.zeroValue154
  t146 := Tryz.underlying155
  a146 := Tryz.isAgg155
  z146 := Tryz.sizeOf155
  v146 := Tryz.zeroValue155
  g1 := by kernel_rfl }
open Go.RowKit Go.Lib in
theorem strings_Count_one (s : ByteArray) (c : UInt8) (w : World) :
    Calls Tryz.prog 65 #[.string s, .string ⟨#[c]⟩] w fun e w' => e = .returned (.int .i64 (Lib.countByte s.data.toList c)) ∧ w' = w := Any.strings_Count_one lays138 s c w
def lays149_ren : Go.Shelf.Ren := ⟨fun | 149 => 64 | 222 => 96 | n => n, fun | 9 => 9 | 5 => 5 | 3 => 3 | 4 => 4 | n => n, fun | n => n⟩
theorem lays149 : Go.Proofs.Lays.n149 Tryz.prog lays149_ren := {
  mixed := by kernel_rfl
  f149 := Tryz.func64.trans (congrArg some (by kernel_rfl))
  f222 := Tryz.func96.trans (congrArg some (by kernel_rfl))
  t3 := Tryz.underlying3
  a3 := Tryz.isAgg3
  z3 := Tryz.sizeOf3
  v3 := Tryz.zeroValue3
  t4 := Tryz.underlying4
  a4 := Tryz.isAgg4
  z4 := Tryz.sizeOf4
  v4 := Tryz.zeroValue4
  t5 := Tryz.underlying5
  a5 := Tryz.isAgg5
  z5 := Tryz.sizeOf5
  v5 := Tryz.zeroValue5
  t9 := Tryz.underlying9
  a9 := Tryz.isAgg9
  z9 := Tryz.sizeOf9
  v9 := Tryz.zeroValue9 }
open Go.RowKit Go.Lib in
theorem strings_LastIndexByte (s : ByteArray) (c : Int) (hs : s.size < 4611686018427387904) (w : World) :
    Calls Tryz.prog 64 #[.string s, .int .u8 c] w fun e w' => e = .returned (.int .i64 (Lib.lastIndexByte s c)) ∧ w' = w := Any.strings_LastIndexByte lays149 s c hs w
def lays99_ren : Go.Shelf.Ren := ⟨fun | 99 => 74 | 206 => 111 | n => n, fun | 9 => 9 | 4 => 4 | 3 => 3 | n => n, fun | n => n⟩
theorem lays99 : Go.Proofs.Lays.n99 Tryz.prog lays99_ren := {
  mixed := by kernel_rfl
  f99 := Tryz.func74.trans (congrArg some (by kernel_rfl))
  f206 := Tryz.func111.trans (congrArg some (by kernel_rfl))
  t3 := Tryz.underlying3
  a3 := Tryz.isAgg3
  z3 := Tryz.sizeOf3
  v3 := Tryz.zeroValue3
  t4 := Tryz.underlying4
  a4 := Tryz.isAgg4
  z4 := Tryz.sizeOf4
  v4 := Tryz.zeroValue4
  t9 := Tryz.underlying9
  a9 := Tryz.isAgg9
  z9 := Tryz.sizeOf9
  v9 := Tryz.zeroValue9 }
open Go.RowKit Go.Lib in
theorem strings_HasPrefix (s p : ByteArray) (w : World) :
    Calls Tryz.prog 74 #[.string s, .string p] w fun e w' => e = .returned (.bool (Lib.hasPrefix s.data.toList p.data.toList)) ∧ w' = w := Any.strings_HasPrefix lays99 s p w
end Go.Proofs.YtngmimbpakmkiaaGreatDoor
namespace Go.Proofs.YtngmimbpakmkiaaGreatDoor
open Go.Shelf
def laysM171_ren : Go.Shelf.Ren := ⟨fun | 171 => 49 | 243 => 76 | 246 => 113 | 283 => 130 | 284 => 131 | 285 => 132 | 286 => 133 | 129 => 145 | 317 => 144 | 318 => 146 | 319 => 147 | 320 => 148 | 337 => 158 | 338 => 159 | n => n, fun | 3 => 3 | 9 => 9 | 2 => 2 | 4 => 4 | 171 => 170 | 0 => 0 | 53 => 157 | 37 => 69 | 5 => 5 | 173 => 173 | 212 => 182 | 51 => 154 | 20 => 20 | 213 => 183 | 46 => 129 | 232 => 200 | 233 => 201 | n => n, fun | 17 => 3 | 18 => 6 | 19 => 7 | n => n⟩
theorem laysM171 : Go.Proofs.LaysM.n171 Tryz.prog laysM171_ren := {
  mixed := by kernel_rfl
  f129 := Tryz.func145.trans (congrArg some (by kernel_rfl))
  f171 := Tryz.func49.trans (congrArg some (by kernel_rfl))
  f243 := Tryz.func76.trans (congrArg some (by kernel_rfl))
  f246 := Tryz.func113.trans (congrArg some (by kernel_rfl))
  f283 := Tryz.func130.trans (congrArg some (by kernel_rfl))
  f284 := Tryz.func131.trans (congrArg some (by kernel_rfl))
  f285 := Tryz.func132.trans (congrArg some (by kernel_rfl))
  f286 := Tryz.func133.trans (congrArg some (by kernel_rfl))
  f317 := Tryz.func144.trans (congrArg some (by kernel_rfl))
  f318 := Tryz.func146.trans (congrArg some (by kernel_rfl))
  f319 := Tryz.func147.trans (congrArg some (by kernel_rfl))
  f320 := Tryz.func148.trans (congrArg some (by kernel_rfl))
  f337 := Tryz.func158.trans (congrArg some (by kernel_rfl))
  f338 := Tryz.func159.trans (congrArg some (by kernel_rfl))
  t0 := Tryz.underlying0
  a0 := Tryz.isAgg0
  z0 := Tryz.sizeOf0
  v0 := Tryz.zeroValue0
  t2 := Tryz.underlying2
  a2 := Tryz.isAgg2
  z2 := Tryz.sizeOf2
  v2 := Tryz.zeroValue2
  t3 := Tryz.underlying3
  a3 := Tryz.isAgg3
  z3 := Tryz.sizeOf3
  v3 := Tryz.zeroValue3
  t4 := Tryz.underlying4
  a4 := Tryz.isAgg4
  z4 := Tryz.sizeOf4
  v4 := Tryz.zeroValue4
  t5 := Tryz.underlying5
  a5 := Tryz.isAgg5
  z5 := Tryz.sizeOf5
  v5 := Tryz.zeroValue5
  t9 := Tryz.underlying9
  a9 := Tryz.isAgg9
  z9 := Tryz.sizeOf9
  v9 := Tryz.zeroValue9
  t20 := Tryz.underlying20
  a20 := Tryz.isAgg20
  z20 := Tryz.sizeOf20
  v20 := Tryz.zeroValue20
  t37 := Tryz.underlying69
  a37 := Tryz.isAgg69
  z37 := Tryz.sizeOf69
  v37 := Tryz.zeroValue69
  t46 := Tryz.underlying129
  a46 := Tryz.isAgg129
  z46 := Tryz.sizeOf129
  v46 := Tryz.zeroValue129
  t51 := Tryz.underlying154
  a51 := Tryz.isAgg154
  z51 := Tryz.sizeOf154
  v51 := Tryz.zeroValue154
  t53 := Tryz.underlying157
  a53 := Tryz.isAgg157
  z53 := Tryz.sizeOf157
  v53 := Tryz.zeroValue157
  t171 := Tryz.underlying170
  a171 := Tryz.isAgg170
  z171 := Tryz.sizeOf170
  v171 := Tryz.zeroValue170
  t173 := Tryz.underlying173
  a173 := Tryz.isAgg173
  z173 := Tryz.sizeOf173
  v173 := Tryz.zeroValue173
  t212 := Tryz.underlying182
  a212 := Tryz.isAgg182
  z212 := Tryz.sizeOf182
  v212 := Tryz.zeroValue182
  t213 := Tryz.underlying183
  a213 := Tryz.isAgg183
  z213 := Tryz.sizeOf183
  t232 := Tryz.underlying200
  a232 := Tryz.isAgg200
  z232 := Tryz.sizeOf200
  v232 := Tryz.zeroValue200
  t233 := Tryz.underlying201
  a233 := Tryz.isAgg201
  z233 := Tryz.sizeOf201
  v233 := Tryz.zeroValue201
  g17 := by kernel_rfl
  g18 := by kernel_rfl
  g19 := by kernel_rfl
  i0 := by kernel_rfl
  i2 := by kernel_rfl
  i3 := by kernel_rfl
  i4 := by kernel_rfl
  i5 := by kernel_rfl
  i9 := by kernel_rfl
  i20 := by kernel_rfl
  i37 := by kernel_rfl
  i46 := by kernel_rfl
  i51 := by kernel_rfl
  i53 := by kernel_rfl
  i171 := by kernel_rfl
  i173 := by kernel_rfl
  i212 := by kernel_rfl
  i232 := by kernel_rfl
  i233 := by kernel_rfl
  m17 := by kernel_rfl
  m18 := by kernel_rfl
  m19 := by kernel_rfl }
open Go.RowKit Go.Sort Go.Lib in
theorem strconv_Itoa (n : Int) (h0 : -9223372036854775808 ≤ n) (h1 : n ≤ 9223372036854775807) (w : World) (htab : Lib.TabIs Tryz.prog w "internal/strconv.uint64pow10" .u64 Lib.pow10Tab) :
    Calls Tryz.prog 49 #[.int .i64 n] w fun e w' => e = .returned (.string ⟨(Lib.itoa n).toArray⟩) ∧ ∃ k os, w' = grow (w.drewN k) os := Any.strconv_Itoa laysM171 n h0 h1 w htab
def lays143_ren : Go.Shelf.Ren := ⟨fun | 143 => 98 | 219 => 125 | 217 => 134 | 225 => 139 | 224 => 140 | 267 => 141 | 266 => 149 | 314 => 157 | n => n, fun | 9 => 9 | 3 => 3 | 4 => 4 | 5 => 5 | 46 => 129 | 146 => 155 | 51 => 154 | n => n, fun | 1 => 0 | n => n⟩
theorem lays143 : Go.Proofs.Lays.n143 Tryz.prog lays143_ren := {
  mixed := by kernel_rfl
  f143 := Tryz.func98.trans (congrArg some (by kernel_rfl))
  f217 := Tryz.func134.trans (congrArg some (by kernel_rfl))
  f219 := Tryz.func125.trans (congrArg some (by kernel_rfl))
  f224 := Tryz.func140.trans (congrArg some (by kernel_rfl))
  f225 := Tryz.func139.trans (congrArg some (by kernel_rfl))
  f266 := Tryz.func149.trans (congrArg some (by kernel_rfl))
  f267 := Tryz.func141.trans (congrArg some (by kernel_rfl))
  f314 := Tryz.func157.trans (congrArg some (by kernel_rfl))
  t3 := Tryz.underlying3
  a3 := Tryz.isAgg3
  z3 := Tryz.sizeOf3
  v3 := Tryz.zeroValue3
  t4 := Tryz.underlying4
  a4 := Tryz.isAgg4
  z4 := Tryz.sizeOf4
  v4 := Tryz.zeroValue4
  t5 := Tryz.underlying5
  a5 := Tryz.isAgg5
  z5 := Tryz.sizeOf5
  v5 := Tryz.zeroValue5
  t9 := Tryz.underlying9
  a9 := Tryz.isAgg9
  z9 := Tryz.sizeOf9
  v9 := Tryz.zeroValue9
  t46 := Tryz.underlying129
  a46 := Tryz.isAgg129
  z46 := Tryz.sizeOf129
  v46 := Tryz.zeroValue129
  t51 := Tryz.underlying154
  a51 := Tryz.isAgg154
  z51 := Tryz.sizeOf154
  v51 := Tryz.zeroValue154
  t146 := Tryz.underlying155
  a146 := Tryz.isAgg155
  z146 := Tryz.sizeOf155
  v146 := Tryz.zeroValue155
  g1 := by kernel_rfl }
open Go.RowKit Go.Lib in
theorem strings_Index_one (s : ByteArray) (c : UInt8) (w : World) :
    Calls Tryz.prog 98 #[.string s, .string ⟨#[c]⟩] w fun e w' => e = .returned (.int .i64 (Lib.indexByte s.data.toList c)) ∧ w' = w := Any.strings_Index_one lays143 s c w
def lays221_ren : Go.Shelf.Ren := ⟨fun | 221 => 163 | 268 => 164 | 138 => 65 | 143 => 98 | 195 => 66 | 197 => 82 | 218 => 97 | 219 => 125 | 260 => 119 | 217 => 134 | 225 => 139 | 224 => 140 | 267 => 141 | 266 => 149 | 314 => 157 | n => n, fun | 9 => 9 | 3 => 3 | 31 => 95 | 4 => 4 | 0 => 0 | 105 => 112 | 21 => 21 | 5 => 5 | 46 => 129 | 119 => 176 | 139 => 179 | 138 => 178 | 146 => 155 | 51 => 154 | n => n, fun | 1 => 0 | 3 => 1 | 4 => 2 | n => n⟩
theorem lays221 : Go.Proofs.Lays.n221 Tryz.prog lays221_ren := {
  mixed := by kernel_rfl
  f138 := Tryz.func65.trans (congrArg some (by kernel_rfl))
  f143 := Tryz.func98.trans (congrArg some (by kernel_rfl))
  f195 := Tryz.func66.trans (congrArg some (by kernel_rfl))
  f197 := Tryz.func82.trans (congrArg some (by kernel_rfl))
  f217 := Tryz.func134.trans (congrArg some (by kernel_rfl))
  f218 := Tryz.func97.trans (congrArg some (by kernel_rfl))
  f219 := Tryz.func125.trans (congrArg some (by kernel_rfl))
  f221 := Tryz.func163.trans (congrArg some (by kernel_rfl))
  f224 := Tryz.func140.trans (congrArg some (by kernel_rfl))
  f225 := Tryz.func139.trans (congrArg some (by kernel_rfl))
  f260 := Tryz.func119.trans (congrArg some (by kernel_rfl))
  f266 := Tryz.func149.trans (congrArg some (by kernel_rfl))
  f267 := Tryz.func141.trans (congrArg some (by kernel_rfl))
  f268 := Tryz.func164.trans (congrArg some (by kernel_rfl))
  f314 := Tryz.func157.trans (congrArg some (by kernel_rfl))
  t0 := Tryz.underlying0
  a0 := Tryz.isAgg0
  z0 := Tryz.sizeOf0
  v0 := Tryz.zeroValue0
  t3 := Tryz.underlying3
  a3 := Tryz.isAgg3
  z3 := Tryz.sizeOf3
  v3 := Tryz.zeroValue3
  t4 := Tryz.underlying4
  a4 := Tryz.isAgg4
  z4 := Tryz.sizeOf4
  v4 := Tryz.zeroValue4
  t5 := Tryz.underlying5
  a5 := Tryz.isAgg5
  z5 := Tryz.sizeOf5
  v5 := Tryz.zeroValue5
  t9 := Tryz.underlying9
  a9 := Tryz.isAgg9
  z9 := Tryz.sizeOf9
  v9 := Tryz.zeroValue9
  t21 := Tryz.underlying21
  a21 := Tryz.isAgg21
  z21 := Tryz.sizeOf21
  v21 := Tryz.zeroValue21
  t31 := Tryz.underlying95
  a31 := Tryz.isAgg95
  z31 := Tryz.sizeOf95
  v31 := Tryz.zeroValue95
  t46 := Tryz.underlying129
  a46 := Tryz.isAgg129
  z46 := Tryz.sizeOf129
  v46 := Tryz.zeroValue129
  t51 := Tryz.underlying154
  a51 := Tryz.isAgg154
  z51 := Tryz.sizeOf154
  v51 := Tryz.zeroValue154
  t105 := Tryz.underlying112
  a105 := Tryz.isAgg112
  z105 := Tryz.sizeOf112
  v105 := Tryz.zeroValue112
  t119 := Tryz.underlying176
  a119 := Tryz.isAgg176
  z119 := Tryz.sizeOf176
  t138 := Tryz.underlying178
  a138 := Tryz.isAgg178
  z138 := Tryz.sizeOf178
  v138 := Tryz.zeroValue178
  t139 := Tryz.underlying179
  a139 := Tryz.isAgg179
  z139 := Tryz.sizeOf179
  v139 := Tryz.zeroValue179
  t146 := Tryz.underlying155
  a146 := Tryz.isAgg155
  z146 := Tryz.sizeOf155
  v146 := Tryz.zeroValue155
  g1 := by kernel_rfl
  g3 := by kernel_rfl
  g4 := by kernel_rfl }
open Go.RowKit Go.Lib in
theorem strings_genSplit (s sep : ByteArray) (sv : Nat) (n : Int) (N : Nat) (m : Int) (w : World) (hs : s.size < 4294967281) (hm : w.cell? ⟨0, 0, none⟩ = some (.int .i64 m)) (h1 : 1 ≤ sep.size) (hsv : sv ≤ sep.size) (hn0 : n ≠ 0) (hn63 : n ≤ 9223372036854775807) (hN : (N : Int) = min (if n < 0 then (Lib.countB s sep : Int) + 1 else n) ((s.size : Int) + 1)) :
    Calls Tryz.prog 163 #[.string s, .string sep, .int .i64 sv, .int .i64 n] w fun e w' =>
      e = .returned (.slice (some ⟨w.heap.size, 0, none⟩) (Lib.splitB sep sv (N - 1) s).length N) ∧ w' = w.alloc (.cells (Lib.cellsOf (Lib.splitB sep sv (N - 1) s) N) 9) := Any.strings_genSplit lays221 (by kernel_rfl) s sep sv n N m w hs hm h1 hsv hn0 hn63 hN
def lays105_ren : Go.Shelf.Ren := ⟨fun | 105 => 45 | 212 => 73 | 99 => 74 | 165 => 75 | 166 => 44 | 170 => 43 | 169 => 31 | 263 => 109 | 264 => 110 | 206 => 111 | 240 => 72 | 241 => 112 | 276 => 108 | 277 => 129 | n => n, fun | 9 => 9 | 3 => 3 | 4 => 4 | 20 => 20 | 0 => 0 | 46 => 129 | 109 => 130 | 5 => 5 | 72 => 71 | 76 => 99 | 51 => 154 | 146 => 155 | 53 => 157 | 148 => 158 | 70 => 68 | 37 => 69 | 75 => 98 | 127 => 105 | 164 => 152 | 80 => 76 | n => n, fun | n => n⟩
theorem lays105 : Go.Proofs.Lays.n105 Tryz.prog lays105_ren := {
  mixed := by kernel_rfl
  f99 := Tryz.func74.trans (congrArg some (by kernel_rfl))
  f105 := Tryz.func45.trans (congrArg some (by kernel_rfl))
  f165 := Tryz.func75.trans (congrArg some (by kernel_rfl))
  f166 := Tryz.func44.trans (congrArg some (by kernel_rfl))
  f169 := Tryz.func31.trans (congrArg some (by kernel_rfl))
  f170 := Tryz.func43.trans (congrArg some (by kernel_rfl))
  f206 := Tryz.func111.trans (congrArg some (by kernel_rfl))
  f212 := Tryz.func73.trans (congrArg some (by kernel_rfl))
  f240 := Tryz.func72.trans (congrArg some (by kernel_rfl))
  f241 := Tryz.func112.trans (congrArg some (by kernel_rfl))
  f263 := Tryz.func109.trans (congrArg some (by kernel_rfl))
  f264 := Tryz.func110.trans (congrArg some (by kernel_rfl))
  f276 := Tryz.func108.trans (congrArg some (by kernel_rfl))
  f277 := Tryz.func129.trans (congrArg some (by kernel_rfl))
  t0 := Tryz.underlying0
  a0 := Tryz.isAgg0
  z0 := Tryz.sizeOf0
  v0 := Tryz.zeroValue0
  t3 := Tryz.underlying3
  a3 := Tryz.isAgg3
  z3 := Tryz.sizeOf3
  v3 := Tryz.zeroValue3
  t4 := Tryz.underlying4
  a4 := Tryz.isAgg4
  z4 := Tryz.sizeOf4
  v4 := Tryz.zeroValue4
  t5 := Tryz.underlying5
  a5 := Tryz.isAgg5
  z5 := Tryz.sizeOf5
  v5 := Tryz.zeroValue5
  t9 := Tryz.underlying9
  a9 := Tryz.isAgg9
  z9 := Tryz.sizeOf9
  v9 := Tryz.zeroValue9
  t20 := Tryz.underlying20
  a20 := Tryz.isAgg20
  z20 := Tryz.sizeOf20
  v20 := Tryz.zeroValue20
  t37 := Tryz.underlying69
  a37 := Tryz.isAgg69
  z37 := Tryz.sizeOf69
  v37 := Tryz.zeroValue69
  t46 := Tryz.underlying129
  a46 := Tryz.isAgg129
  z46 := Tryz.sizeOf129
  v46 := Tryz.zeroValue129
  t51 := Tryz.underlying154
  a51 := Tryz.isAgg154
  z51 := Tryz.sizeOf154
  v51 := Tryz.zeroValue154
  t53 := Tryz.underlying157
  a53 := Tryz.isAgg157
  z53 := Tryz.sizeOf157
  v53 := Tryz.zeroValue157
  t70 := Tryz.underlying68
  a70 := Tryz.isAgg68
  z70 := Tryz.sizeOf68
  v70 := Tryz.zeroValue68
  t72 := Tryz.underlying71
  a72 := Tryz.isAgg71
  z72 := Tryz.sizeOf71
  v72 := Tryz.zeroValue71
  t75 := Tryz.underlying98
  a75 := Tryz.isAgg98
  z75 := Tryz.sizeOf98
  v75 := Tryz.zeroValue98
  t76 := Tryz.underlying99
  a76 := Tryz.isAgg99
  z76 := Tryz.sizeOf99
  v76 := Tryz.zeroValue99
  t109 := Tryz.underlying130
  a109 := Tryz.isAgg130
  z109 := Tryz.sizeOf130
  v109 := Tryz.zeroValue130
  t127 := Tryz.underlying105
  a127 := Tryz.isAgg105
  z127 := Tryz.sizeOf105
  v127 := Tryz.zeroValue105
  t146 := Tryz.underlying155
  a146 := Tryz.isAgg155
  z146 := Tryz.sizeOf155
  v146 := Tryz.zeroValue155
  t148 := Tryz.underlying158
  a148 := Tryz.isAgg158
  z148 := Tryz.sizeOf158
  v148 := Tryz.zeroValue158
  t164 := Tryz.underlying152
  a164 := Tryz.isAgg152
  z164 := Tryz.sizeOf152
  v164 := Tryz.zeroValue152 }
theorem Builder_Extra_105 : Builder.Extra Tryz.prog lays105_ren := {
  sizeBuilder := by kernel_rfl
  liesBuilder := by kernel_rfl
  t5 := Tryz.underlying5
  a5 := Tryz.isAgg5
  z5 := Tryz.sizeOf5
  v5 := Tryz.zeroValue5
  infoByte := by kernel_rfl
  cellsByte := by kernel_rfl
  sizeByte := by kernel_rfl
  neB5 := by decide }
open Go.RowKit Go.Lib in
theorem strings_Repeat (s : ByteArray) (c : Nat) (w : World) (hc : c ≤ 9223372036854775807) (hlen : s.size * c ≤ 140737488355328) :
    Calls Tryz.prog 45 #[.string s, .int .i64 c] w fun e w' => e = .returned (.string ⟨(Lib.repeatL s.data.toList c).toArray⟩) ∧ Below w.heap.size w w' := Any.strings_Repeat lays105 Builder_Extra_105 s c w hc hlen
end Go.Proofs.YtngmimbpakmkiaaGreatDoor
namespace Go.Proofs.YtngmimbpakmkiaaGreatDoor
set_option linter.unusedVariables false
open Go.ChangeShapes Go.WideShapes Go.ChangeAt Go.RowKit

set_option maxHeartbeats 2000000 in
theorem textD_any (R : Nat) (en : Int × Int) (r : Rd) (w : World) (h : DrAt w R en r) :
    Calls Tryz.prog 67 #[.pointer (some ⟨R, 0, none⟩)] w fun x w' => x = .returned (.string (mkB r.text)) ∧ w' = w := by
  have hlt := h.lt
  obtain ⟨ad, c, hl, hw, hc, c0, c1, c2, c3, c4, c5, hf⟩ := h.get
  cases hrl : r.l with
  | nil =>
    have hh : r.text = [] := by unfold Rd.text; rw [hrl]
    rw [hh]
    rw [hrl] at c0
    have c0' : w.cell? ⟨R, 0, none⟩ = some (.slice ad 0 c) := c0
    clear hw hc c0 c1 c2 c3 c4 c5 hf hrl hh h hl
    go_enter Tryz.func67, Tryz.ntmps67
    go_wp2_with fail
    go_ret
    exact ⟨rfl, rfl⟩
  | cons y t =>
    have hh : r.text = y.text := by unfold Rd.text; rw [hrl]
    rw [hh]
    rw [hrl] at c0 hw hl
    obtain ⟨g, o, rfl, hg, d0, d1, d2, d3⟩ := hw.head
    have c0' : w.cell? ⟨R, 0, none⟩ = some (.slice (some ⟨g, o, none⟩) (t.length + 1) c) := c0
    have hne : ((t.length : Int) + 1 == 0) = false := beq_eq_false_iff_ne.2 (by omega)
    clear hw hc c0 c1 c2 c3 c4 c5 hf hrl hh h
    go_enter Tryz.func67, Tryz.ntmps67
    go_wp2_with fail
    go_ret
    exact ⟨rfl, rfl⟩
set_option maxHeartbeats 2000000 in
theorem placeD_any (R : Nat) (en : Int × Int) (r : Rd) (w : World) (h : DrAt w R en r) :
    Calls Tryz.prog 100 #[.pointer (some ⟨R, 0, none⟩)] w fun x w' => x = .returned (.agg #[.int .i64 (r.here en).1, .int .i64 (r.here en).2]) ∧ Below w.heap.size w w' := by
  have hlt := h.lt
  have ha := h.alloc (.cells #[.int .i64 0, .int .i64 0] 38)
  obtain ⟨ad, c, hl, hw, hc, c0, c1, c2, c3, c4, c5, hf⟩ := ha.get
  have hb := fun a b => (Below.refl w.heap.size w).alloc (Nat.le_refl _) (.cells #[.int .i64 a, .int .i64 b] 38)
  have r0 : ∀ a b, (w.alloc (.cells #[.int .i64 a, .int .i64 b] 38)).cell? ⟨w.heap.size, 0, none⟩ = some (.int .i64 a) := fun a b => by simp
  have r1 : ∀ a b, (w.alloc (.cells #[.int .i64 a, .int .i64 b] 38)).cell? ⟨w.heap.size, 1, none⟩ = some (.int .i64 b) := fun a b => by simp
  cases hrl : r.l with
  | nil =>
    have hh : r.here en = en := by unfold Rd.here; rw [hrl]
    rw [hh]
    rw [hrl] at c0
    have c0' : (w.alloc (.cells #[.int .i64 0, .int .i64 0] 38)).cell? ⟨R, 0, none⟩ = some (.slice ad 0 c) := c0
    clear hw hc c0 c3 c4 c5 hf hrl hh ha h hl
    go_enter Tryz.func100, Tryz.ntmps100
    go_wp2_with fail
    refine bodyPost_ret (v := .agg #[.int .i64 en.1, .int .i64 en.2]) (by simp [results, Tryz.results100, go_sem, r0, r1]) rfl ⟨rfl, hb _ _⟩
  | cons y t =>
    have hh : r.here en = ((y.line : Int), (y.col : Int)) := by unfold Rd.here; rw [hrl]
    rw [hh]
    rw [hrl] at c0 hw hl
    obtain ⟨g, o, rfl, hg, d0, d1, d2, d3⟩ := hw.head
    have c0' : (w.alloc (.cells #[.int .i64 0, .int .i64 0] 38)).cell? ⟨R, 0, none⟩ = some (.slice (some ⟨g, o, none⟩) (t.length + 1) c) := c0
    have hne : ((t.length : Int) + 1 == 0) = false := beq_eq_false_iff_ne.2 (by omega)
    have hgs : g < w.heap.size := by omega
    clear hw hc c0 c3 c4 c5 hf hrl hh ha h
    go_enter Tryz.func100, Tryz.ntmps100
    go_wp2_with fail
    refine bodyPost_ret (v := .agg #[.int .i64 (y.line : Int), .int .i64 (y.col : Int)]) (by simp [results, Tryz.results100, go_sem, r0, r1]) rfl ⟨rfl, hb _ _⟩
set_option maxHeartbeats 2000000 in
theorem failD_any (R : Nat) (en : Int × Int) (r : Rd) (e : Int) (p1 p2 : Int) (w : World) (he : r.e = 0) (h : DrAt w R en r) :
    Calls Tryz.prog 99 #[.pointer (some ⟨R, 0, none⟩), .agg #[.int .i64 p1, .int .i64 p2], .int .i64 e] w fun x w' => x = .returned (.bool false) ∧ DrAt w' R en (r.fail e (p1, p2)) ∧ w.grownBy w' (some R) := by
  have hlt := h.lt
  have ha := h.alloc (.cells #[.int .i64 p1, .int .i64 p2] 38)
  have HG : Hid (w.grownBy (w.alloc (.cells #[.int .i64 p1, .int .i64 p2] 38)) (some R)) := World.grownBy_alloc w _ _
  obtain ⟨ad, c, hl, hw, hc, c0, c1, c2, c3, c4, c5, hf⟩ := ha.get
  have r0 : (w.alloc (.cells #[.int .i64 p1, .int .i64 p2] 38)).cell? ⟨w.heap.size, 0, none⟩ = some (.int .i64 p1) := by simp
  have r1 : (w.alloc (.cells #[.int .i64 p1, .int .i64 p2] 38)).cell? ⟨w.heap.size, 1, none⟩ = some (.int .i64 p2) := by simp
  have HF : Hid (r.fail e (p1, p2) = ⟨r.l, e, p1, p2⟩) := by refine (?_ : _ = _); unfold Rd.fail; rw [if_pos he]
  have f3 := hf 3
  have f4 := hf 4
  have f5 := hf 5
  have HW := Lib.hid hw
  have HC := Lib.hid hc
  have hgd := h.good
  have hfw := h.few
  have hne : w.heap.size ≠ R := by omega
  have hne' : R ≠ w.heap.size := by omega
  clear hw hc he hf c0 c1 c2 ha h
  go_enter Tryz.func99, Tryz.ntmps99
  go_upto_region 1 with fail
  generalize w.alloc (.cells #[.int .i64 p1, .int .i64 p2] 38) = V at *
  generalize w.heap.size = B at *
  go_wp2_with fail
  go_ret
  refine ⟨rfl, ?_, ?_⟩
  · rw [HF.out]
    refine ⟨⟨ad, c, ?_, hl, HW.out.old fun k hk => ?_⟩, hgd, hfw⟩
    · exact setCell_heap (setCell_heap (setCell_heap HC.out _) _) _
    · exact ((Below.heap_setCell _ _ _ _ (by show k ≠ R; omega)).trans (Below.heap_setCell _ _ _ _ (by show k ≠ R; omega))).trans (Below.heap_setCell _ _ _ _ (by show k ≠ R; omega))
  · exact HG.out.trans ((grownBy_set _ _ _ _).trans ((grownBy_set _ _ _ _).trans (grownBy_set _ _ _ _)))
set_option maxHeartbeats 2000000 in
theorem refuseD_any (R : Nat) (en : Int × Int) (r : Rd) (w : World) (he : r.e = 0) (h : DrAt w R en r) :
    Calls Tryz.prog 71 #[.pointer (some ⟨R, 0, none⟩)] w fun x w' => x = .returned (.bool false) ∧ DrAt w' R en (r.fail 7 (r.here en)) ∧ w.grownBy w' (some R) := by
  have hH := placeD_any R en r w h
  have hF := fun W hW => failD_any R en r 7 (r.here en).1 (r.here en).2 W he hW
  have HR := Lib.hid h
  clear h he
  go_enter Tryz.func71, Tryz.ntmps71
  go_wp2_with fail
  refine hH.mono ?_
  rintro e w2 ⟨rfl, hb2⟩
  have HG2 := Lib.hid (grownBy_below hb2 (some R))
  go_wp2_with fail
  refine (hF w2 (HR.out.below hb2)).mono ?_
  rintro e w3 ⟨rfl, h3, hg3⟩
  go_wp2_with fail
  go_ret
  exact ⟨rfl, h3, HG2.out.trans hg3⟩
theorem Rd.is_text {r : Rd} {t : List UInt8} (he : r.e = 0) (ht : t ≠ []) : r.is t = (r.text == t) := by
  unfold Rd.is Rd.text
  rw [he]
  cases r.l with
  | nil =>
    have : (([] : List UInt8) == t) = false := by
      cases t with
      | nil => exact absurd rfl ht
      | cons a b => rfl
    simp [this]
  | cons y l => simp
/-- behind the next word, if it is this one -/
def Rd.skip (r : Rd) (t : List UInt8) : Rd := if r.is t = true then r.tail else r
set_option maxHeartbeats 2000000 in
set_option maxRecDepth 20000 in
theorem skipD_any (R : Nat) (en : Int × Int) (r : Rd) (s : ByteArray) (w : World) (he : r.e = 0) (hs : s.data.toList ≠ []) (h : DrAt w R en r) :
    Calls Tryz.prog 102 #[.pointer (some ⟨R, 0, none⟩), .string s] w fun x w' => x = .returned (.bool (r.is s.data.toList)) ∧ DrAt w' R en (r.skip s.data.toList) ∧ w.grownBy w' (some R) := by
  have hI := textD_any R en r w h
  have hit := Rd.is_text he hs
  have hsl : s.toList = s.data.toList := ByteArray.toList_eq s
  by_cases hi : r.is s.data.toList = true
  · have ht : r.skip s.data.toList = r.tail := by unfold Rd.skip; rw [if_pos hi]
    rw [ht, hi]
    obtain ⟨y, t, hrl⟩ := Rd.is_head hi
    obtain ⟨ad, c, hl, hw, hc, c0, c1, c2, c3, c4, c5, hf⟩ := h.get
    have hw0 := hw
    rw [hrl] at hw0
    obtain ⟨g, o, rfl, hg, _⟩ := hw0.head
    obtain ⟨ad', hd, hcut⟩ := cut_wordsD g o t.length c (by rw [hrl] at hl; simpa using hl)
    have HT := Lib.hid (h.tail hrl hc hw hl ad' hd)
    rw [hrl] at c0
    have c0' : w.cell? ⟨R, 0, none⟩ = some (.slice (some ⟨g, o, none⟩) (t.length + 1) c) := c0
    have f0 := hf 0
    have hne : ((mkB r.text).toList == s.toList) = true := by rw [mkB_list, hsl, ← hit, hi]
    clear hw hc c0 c1 c2 c3 c4 c5 hf ht hi hw0 hl hd hrl h he hit hsl hs
    go_enter Tryz.func102, Tryz.ntmps102
    go_wp2_with fail
    refine hI.mono ?_
    rintro e w1 ⟨rfl, h1⟩
    have h1 := h1.symm
    subst h1
    go_wp2_with fail
    go_ret
    exact ⟨rfl, HT.out, grownBy_set _ _ _ _⟩
  · have hi' : r.is s.data.toList = false := by simpa using hi
    have ht : r.skip s.data.toList = r := by unfold Rd.skip; rw [if_neg hi]
    rw [ht, hi']
    have hne : ((mkB r.text).toList == s.toList) = false := by rw [mkB_list, hsl, ← hit, hi']
    have HR := Lib.hid h
    clear ht hi hi' h he hit hsl hs
    go_enter Tryz.func102, Tryz.ntmps102
    go_wp2_with fail
    refine hI.mono ?_
    rintro e w1 ⟨rfl, h1⟩
    have h1 := h1.symm
    subst h1
    go_wp2_with fail
    go_ret
    exact ⟨rfl, HR.out, World.grownBy.refl _ _⟩
end Go.Proofs.YtngmimbpakmkiaaGreatDoor
namespace Go.Proofs.YtngmimbpakmkiaaGreatDoor
set_option linter.unusedVariables false
open Go.ChangeShapes Go.WideShapes Go.ChangeAt Go.RowKit

/-- the library's two errors of numbers lie in the world -/
def Errs (w : World) : Prop := (∃ ev, w.cell? ⟨laysC174_ren.g 15, 0, none⟩ = some ev ∧ (ev = .nilIface ∨ ∃ te pe, ev = .iface te pe)) ∧ (∃ ev, w.cell? ⟨laysC174_ren.g 16, 0, none⟩ = some ev ∧ (ev = .nilIface ∨ ∃ te pe, ev = .iface te pe))
theorem errs_below {w w' : World} (h : Errs w) (hb : Below w.heap.size w w') : Errs w' := by
  obtain ⟨⟨e1, h1, k1⟩, ⟨e2, h2, k2⟩⟩ := h
  exact ⟨⟨e1, by rw [hb.cell (World.block_lt_of_cell? _ _ h1)]; exact h1, k1⟩, ⟨e2, by rw [hb.cell (World.block_lt_of_cell? _ _ h2)]; exact h2, k2⟩⟩
theorem retID {a b : Int} (h : a = b) : Ending.returned (.int .i64 a) = .returned (.int .i64 b) := by rw [h]
theorem retSD {a b : ByteArray} (h : a = b) : Ending.returned (.string a) = .returned (.string b) := by rw [h]
theorem retIID {a b c d : Int} (h1 : a = c) (h2 : b = d) : Ending.returned (.tuple #[.int .i64 a, .int .i64 b]) = .returned (.tuple #[.int .i64 c, .int .i64 d]) := by rw [h1, h2]
set_option maxHeartbeats 1000000 in
theorem digitD_any (r : Int) (w : World) :
    Calls Tryz.prog 80 #[.int .i32 r] w fun e w' => e = .returned (.bool (isDigit r)) ∧ w' = w := by
  go_enter Tryz.func80, Tryz.ntmps80
  go_wp2
  all_goals
    go_ret
    refine ⟨retB ?_, rfl⟩
    unfold isDigit
    rw [Bool.eq_iff_iff]
    simp
    omega
theorem runD_step (f : Nat) (l : List UInt8) (k : Nat) (h : l.drop k ≠ []) (hr : nameRune (nx (l.drop k)).1 = true) : runL (f + 1) (l.drop k) = ((nx (l.drop k)).2 + (runL f (l.drop (k + (nx (l.drop k)).2))).1, (runL f (l.drop (k + (nx (l.drop k)).2))).2 + 1) := by
  rw [runL, if_pos ⟨h, hr⟩, List.drop_drop]
theorem runD_stop (f : Nat) (l : List UInt8) (h : l = [] ∨ nameRune (nx l).1 = false) : runL f l = (0, 0) := by
  cases f with
  | zero => rfl
  | succ f =>
    rw [runL, if_neg]
    rintro ⟨h1, h2⟩
    rcases h with h | h
    · exact h1 h
    · rw [h] at h2; simp at h2
set_option maxHeartbeats 2000000 in
theorem runD_any (s : ByteArray) (w : World) (hs : s.size ≤ 1048576) :
    Calls Tryz.prog 117 #[.string s] w fun e w' => e = .returned (.string (mkB (s.data.toList.take (runL s.size s.data.toList).1))) ∧ Below w.heap.size w w' := by
  have HL : Hid (s.data.toList.length = s.size) := len_data s
  obtain ⟨R, hR⟩ : ∃ R, (runL s.size s.data.toList).1 = R := ⟨_, rfl⟩
  rw [hR]
  have HR : Hid ((runL s.size s.data.toList).1 = R) := hR
  clear hR
  have HEX : Hid (∀ k, s.extract 0 k = mkB (s.data.toList.take k)) := fun k => by
    rw [Lib.extract_eq, List.drop_zero, Nat.sub_zero]; rfl
  obtain ⟨T, hT⟩ : ∃ T, mkB (s.data.toList.take R) = T := ⟨_, rfl⟩
  have HT : Hid (mkB (s.data.toList.take R) = T) := hT
  rw [hT]
  clear hT
  go_enter Tryz.func117, Tryz.ntmps117
  go_wp2_with fail
  go_loopw [3] (fun _ w' => ∃ (pos f : Nat), w' = w.iter s pos ∧ pos ≤ s.size ∧ s.size ≤ pos + f ∧ (runL s.size s.data.toList).1 = pos + (runL f (s.data.toList.drop pos)).1) (fun _ w' => s.size - w'.iterPos w.heap.size)
  case atStart => exact ⟨0, s.size, rfl, by omega, by omega, by rw [List.drop_zero]; omega⟩
  case round =>
    obtain ⟨pos, f, rfl, hps, hf, hc⟩ := hrel
    have HC : Hid ((runL s.size s.data.toList).1 = pos + (runL f (s.data.toList.drop pos)).1) := hc
    clear hc
    have HB : ∀ p, Below w.heap.size w (w.iter s p) := fun p => (Below.refl _ w).alloc (Nat.le_refl _) _
    by_cases hp : pos < s.size
    · have hnx : ∀ ty, (Instr.next (.pointer (some ⟨w.heap.size, 0, none⟩)) true ty).run Tryz.prog (w.iter s pos) = _ := fun ty => run_next_any w s pos ty hp
      have hne : s.data.toList.drop pos ≠ [] := drop_some (by rw [HL.out]; exact hp)
      obtain ⟨hnm, _, _, _⟩ := rn_name _ hne
      have hrn := rn_nx _ hne
      have hwl := nx_width _ hne
      have hdd : Lib.decodeL (s.data.toList.drop pos) = Utf8.decode s pos := Lib.decodeL_drop s pos
      have hwd : (nx (s.data.toList.drop pos)).2 = (Utf8.decode s pos).2 := by rw [← hrn.2, hdd]
      have hrr : nameRune (nx (s.data.toList.drop pos)).1 = nameRune ((Utf8.decode s pos).1 : Int) := by rw [← hnm]; unfold rn; rw [hdd]
      rw [List.length_drop, HL.out, hwd] at hwl
      obtain ⟨f, rfl⟩ : ∃ f', f = f' + 1 := ⟨f - 1, by omega⟩
      have HGO : Hid (nameRune ((Utf8.decode s pos).1 : Int) = true → (runL s.size s.data.toList).1 = (pos + (Utf8.decode s pos).2) + (runL f (s.data.toList.drop (pos + (Utf8.decode s pos).2))).1) := fun h => by
        rw [HC.out, runD_step f _ pos hne (by rw [hrr]; exact h), hwd]; simp only; omega
      have HEN : Hid (nameRune ((Utf8.decode s pos).1 : Int) = false → R = pos) := fun h => by
        rw [← HR.out, HC.out, runD_stop _ _ (.inr (by rw [hrr]; exact h))]; rfl
      clear hnm hrn hdd hwd hrr hne HC
      generalize (Utf8.decode s pos).2 = wd at *
      generalize ((Utf8.decode s pos).1 : Int) = r at *
      have hLe := fun W => letter_any r W
      have hDi := fun W => digitD_any r W
      have hnr : nameRune r = (isLetter r || isDigit r || decide (r = 95)) := rfl
      obtain ⟨L, hL⟩ : ∃ L, isLetter r = L := ⟨_, rfl⟩
      obtain ⟨D, hD⟩ : ∃ D, isDigit r = D := ⟨_, rfl⟩
      rw [hL] at hLe hnr
      rw [hD] at hDi hnr
      have HNR : Hid (nameRune r = (L || D || decide (r = 95))) := hnr
      clear hL hD hnr
      have hgo : nameRune r = true ∨ (L = false ∧ D = false ∧ r ≠ 95) := by
        rw [HNR.out]
        cases L <;> cases D <;> simp
        exact Decidable.em _
      by_cases hstop : L = false ∧ D = false ∧ r ≠ 95
      · obtain ⟨rfl, rfl, h95⟩ := hstop
        have h95' : (r != 95) = true := by simpa using h95
        have HE : Hid (s.extract 0 pos = T) := by
          refine (?_ : _ = _)
          rw [HEX.out, ← HT.out, HEN.out (by rw [HNR.out]; simpa using h95)]
        have hps' : (pos : Int) ≤ (s.size : Int) := by omega
        clear HGO HEN HNR hgo
        go_wp2_with (first
          | (go_at_call 78; refine (hLe _).mono ?_; rintro e w' ⟨rfl, rfl⟩)
          | (go_at_call 80; refine (hDi _).mono ?_; rintro e w' ⟨rfl, rfl⟩))
        go_ret
        exact ⟨retSD HE.out, HB _⟩
      · have hn : nameRune r = true := by
          rcases hgo with h | h
          · exact h
          · exact absurd h hstop
        have HX : Hid ((runL s.size s.data.toList).1 = (pos + wd) + (runL f (s.data.toList.drop (pos + wd))).1) := HGO.out hn
        have hcs : L = true ∨ (L = false ∧ D = true) ∨ (L = false ∧ D = false ∧ r = 95) := by
          cases L <;> cases D <;> simp
          exact Decidable.byContradiction fun h => hstop ⟨rfl, rfl, h⟩
        clear HGO HEN HNR hgo hstop hn
        rcases hcs with rfl | ⟨rfl, rfl⟩ | ⟨rfl, rfl, rfl⟩
        all_goals
          go_wp2_with (first
            | (go_at_call 78; refine (hLe _).mono ?_; rintro e w' ⟨rfl, rfl⟩)
            | (go_at_call 80; refine (hDi _).mono ?_; rintro e w' ⟨rfl, rfl⟩))
          go_roundw
          case rel => exact ⟨pos + wd, f, rfl, by omega, by omega, HX.out⟩
          case measure => simp; omega
    · have hnx : ∀ ty, (Instr.next (.pointer (some ⟨w.heap.size, 0, none⟩)) true ty).run Tryz.prog (w.iter s pos) = _ := fun ty => run_next_end w s pos ty hp
      have HE : Hid (s = T) := by
        refine (?_ : _ = _)
        have hRs : R = s.size := by
          rw [← HR.out, HC.out, runD_stop _ _ (.inl (List.drop_eq_nil_of_le (by rw [HL.out]; omega)))]
          simp only; omega
        rw [← HT.out, hRs, List.take_of_length_le (by rw [HL.out]; exact Nat.le_refl _), mkB_data]
      go_wp2
      go_ret
      exact ⟨retSD HE.out, HB _⟩
end Go.Proofs.YtngmimbpakmkiaaGreatDoor
namespace Go.Proofs.YtngmimbpakmkiaaGreatDoor
set_option linter.unusedVariables false
open Go.ChangeShapes Go.WideShapes Go.ChangeAt Go.RowKit

/-- words lie in memory, from a block's first place on, four cells each -/
def HeldW (w : World) (ad : Option Addr) (ws : List Wd) : Prop :=
  ws = [] ∨ ∃ g, ad = some ⟨g, 0, none⟩ ∧ ∀ (j : Nat) (x : Wd), ws[j]? = some x → w.cell? ⟨g, j * 4, none⟩ = some (.int .i64 x.kind) ∧ w.cell? ⟨g, j * 4 + 1, none⟩ = some (.string (mkB x.text)) ∧
    w.cell? ⟨g, j * 4 + 2, none⟩ = some (.int .i64 (x.line : Int)) ∧ w.cell? ⟨g, j * 4 + 3, none⟩ = some (.int .i64 (x.col : Int))
theorem heldW_old {w w' : World} {ad : Option Addr} {ws : List Wd} (h : HeldW w ad ws) (hb : Below w.heap.size w w') : HeldW w' ad ws := by
  rcases h with h | ⟨g, rfl, h⟩
  · exact .inl h
  · refine .inr ⟨g, rfl, fun j x hj => ?_⟩
    obtain ⟨h1, h2, h3, h4⟩ := h j x hj
    have hlt : g < w.heap.size := by
      by_cases hg : g < w.heap.size
      · exact hg
      · simp [World.cell?, Array.getElem?_eq_none (Nat.le_of_not_lt hg)] at h1
    refine ⟨?_, ?_, ?_, ?_⟩
    · rw [hb.cell hlt]; exact h1
    · rw [hb.cell hlt]; exact h2
    · rw [hb.cell hlt]; exact h3
    · rw [hb.cell hlt]; exact h4
theorem heldW_at {w : World} {ad : Option Addr} {ws : List Wd} (h : HeldW w ad ws) {j : Nat} {x : Wd} (hj : ws[j]? = some x) :
    ∃ g, ad = some ⟨g, 0, none⟩ ∧ w.cell? ⟨g, j * 4, none⟩ = some (.int .i64 x.kind) ∧ w.cell? ⟨g, j * 4 + 1, none⟩ = some (.string (mkB x.text)) ∧ w.cell? ⟨g, j * 4 + 2, none⟩ = some (.int .i64 (x.line : Int)) ∧ w.cell? ⟨g, j * 4 + 3, none⟩ = some (.int .i64 (x.col : Int)) := by
  rcases h with rfl | ⟨g, hg, h⟩
  · simp at hj
  · exact ⟨g, hg, h j x hj⟩
/-- what Words answers, as the laws see it -/
def LAns (a : List Wd × (Nat × Nat) × Int) (e : Ending) (w' : World) : Prop :=
  ∃ (ad : Option Addr) (c : Nat) (pl pc : Int), e = .returned (.tuple #[.slice ad a.1.length c, .agg #[.int .i64 pl, .int .i64 pc], .int .i64 a.2.2]) ∧ HeldW w' ad a.1 ∧ a.1.length ≤ c ∧ (a.2.2 ≠ 0 → pl = (a.2.1.1 : Int) ∧ pc = (a.2.1.2 : Int))
/-- what the program's Words is to answer -/
def DevWords : Prop := ∀ (s : ByteArray) (w : World), Errs w → s.size ≤ 9223372036854775807 →
  Calls Tryz.prog 32 #[.string s] w fun e w' => LAns (wordsL s.data.toList) e w' ∧ Below w.heap.size w w'
theorem lexL_err : ∀ (f : Nat) (l : List UInt8) (line col : Nat) (acc : List Wd), (lexL f l line col acc).2.2 ≠ 0 → (lexL f l line col acc).1 = []
  | 0, l, line, col, acc, h => absurd rfl h
  | f + 1, l, line, col, acc, h => by
    by_cases h0 : l = []
    · subst h0; rw [lexL_end] at h; exact absurd rfl h
    · by_cases h10 : (nx l).1 = 10
      · rw [lexL_feed f l _ _ _ h0 h10] at h ⊢; exact lexL_err f _ _ _ _ h
      · by_cases hb : (nx l).1 = 32 ∨ (nx l).1 = 9
        · rw [lexL_blank f l _ _ _ h0 hb] at h ⊢; exact lexL_err f _ _ _ _ h
        · by_cases hr : (nx l).1 = 47 ∧ l[1]? = some 47
          · rw [lexL_remark f l _ _ _ h0 hr.1 hr.2] at h ⊢; exact lexL_err f _ _ _ _ h
          · rw [lexL_word f l _ _ _ ⟨h0, h10, fun h => hb (.inl h), fun h => hb (.inr h), hr⟩] at h ⊢
            by_cases c1 : rightL (headW l).1 (l.take (headW l).2.1) (nx l).1 = false
            · rw [if_pos c1]
            · rw [if_neg c1] at h ⊢
              by_cases c2 : acc.length = 4000
              · rw [if_pos c2]
              · rw [if_neg c2] at h ⊢
                exact lexL_err f _ _ _ _ h
theorem words_err (l : List UInt8) (h : (wordsL l).2.2 ≠ 0) : (wordsL l).1 = [] := by
  unfold wordsL at h ⊢
  split
  · rfl
  · rename_i c; rw [if_neg c] at h; exact lexL_err _ _ _ _ _ h
theorem words_count (l : List UInt8) : (wordsL l).1.length ≤ 4000 := by
  unfold wordsL
  split
  · simp
  · exact lexL_count _ _ _ _ _ (by simp)
theorem words_aw : (wordsL [97, 61, 49, 59, 47, 47, 32, 120]).2.2 = 0 ∧ (wordsL [97, 61, 49, 59, 47, 47, 32, 120]).1.length = 4 ∧ ((wordsL [97, 61, 49, 59, 47, 47, 32, 120]).1[2]?.map fun x => (x.kind, x.text)) = some (2, [49]) := by
  decide +kernel
end Go.Proofs.YtngmimbpakmkiaaGreatDoor
namespace Go.Proofs.YtngmimbpakmkiaaGreatDoor
set_option linter.unusedVariables false
open Go.ChangeShapes Go.WideShapes Go.ChangeAt Go.RowKit

theorem infoVl : (Tryz.prog.info? 60).map (fun i => (i.zero, i.size, i.bytes)) = some (some (.agg #[.string ⟨#[]⟩, .int .i64 0, .int .i64 0, .int .i64 0]), 4, 40) := by kernel_rfl
theorem infoMt : (Tryz.prog.info? 63).map (fun i => (i.zero, i.size, i.bytes)) = some (some (.agg #[.string ⟨#[]⟩, .string ⟨#[]⟩, .string ⟨#[]⟩, .int .i64 0, .int .i64 0]), 5, 64) := by kernel_rfl
theorem infoFd : (Tryz.prog.info? 57).map (fun i => (i.zero, i.size, i.bytes)) = some (some (.agg #[.bool false, .string ⟨#[]⟩, .string ⟨#[]⟩, .int .i64 0, .int .i64 0, .int .i64 0]), 6, 64) := by kernel_rfl
theorem infoDc : (Tryz.prog.info? 56).map (fun i => (i.zero, i.size, i.bytes)) = some (some (.agg #[.int .i64 0, .string ⟨#[]⟩, .int .i64 0, .int .i64 0, .slice none 0 0, .slice none 0 0, .slice none 0 0, .slice none 0 0]), 8, 136) := by kernel_rfl
/-- declarations in a slice that the call itself has made: their cells, row by row, and what they lead to -/
structure Ds (f : Nat) (w : World) (base : Nat) (S : Nat → Prop) (v : Value) (ds : List Dc) (rs : List (List Value)) : Prop where
  own : w.ownsRow base 56 8 v ds.length (rs.flatMap id)
  len : rs.length = ds.length
  kids : ∀ (j : Nat) (d : Dc), ds[j]? = some d → ∃ fs vs ms ins, rs[j]? = some (drow d fs vs ms ins) ∧ Kids f w S fs vs ms ins d
theorem Ds.nil (f : Nat) (w : World) (base : Nat) (S : Nat → Prop) : Ds f w base S (.slice none 0 0) [] [] := ⟨World.ownsRow_nil _ _ _ _, rfl, fun j d h => by simp at h⟩
theorem Ds.row8 {f : Nat} {w : World} {base : Nat} {S : Nat → Prop} {v : Value} {ds : List Dc} {rs : List (List Value)} (h : Ds f w base S v ds rs) : ∀ r ∈ rs, r.length = 8 := by
  intro r hr
  obtain ⟨j, hj⟩ := List.getElem?_of_mem hr
  have hlt := (List.getElem?_eq_some_iff.1 hj).1
  have hlt2 : j < ds.length := by rw [← h.len]; exact hlt
  obtain ⟨fs, vs, ms, ins, h1, _⟩ := h.kids j (ds[j]'hlt2) (by rw [List.getElem?_eq_getElem hlt2])
  rw [hj] at h1
  rw [Option.some.inj h1]; rfl
/-- so they are declarations in memory -/
theorem Ds.held {f : Nat} {w : World} {base : Nat} {S S' : Nat → Prop} {v : Value} {ds : List Dc} {rs : List (List Value)} (h : Ds f w base S v ds rs) (hS : ∀ b, S b → S' b) (hv : ∀ b, v.ownBlock = some b → S' b) : HeldD (f + 1) w S' v ds := by
  have h8 := h.row8
  have hk := h.kids
  have hlen := h.len
  obtain ⟨hl, ⟨rfl, h0⟩ | ⟨g, cap, cur, rfl, hg, hh, h3, h4, h5, h6⟩⟩ := h.own
  · exact ⟨none, 0, by rw [h0], by omega, .inl (List.eq_nil_of_length_eq_zero h0)⟩
  · refine ⟨_, cap, rfl, h3, .inr ⟨g, 0, rfl, hv g rfl, fun j d hj => ?_⟩⟩
    obtain ⟨fs, vs, ms, ins, hr, hkd⟩ := hk j d hj
    refine ⟨fs, vs, ms, ins, fun i u hu => ?_, hkd.more hS⟩
    have hi : i < 8 := (List.getElem?_eq_some_iff.1 hu).1
    have e := flat8 rs j _ i h8 hi hr
    have hjl := (List.getElem?_eq_some_iff.1 hj).1
    rw [← h6, List.getElem?_take, if_pos (by omega), hu] at e
    simp only [World.cell?, hh]
    rw [Nat.zero_add]
    simpa using e
theorem Ds.keep {f : Nat} {w w' : World} {base : Nat} {S S' : Nat → Prop} {v : Value} {ds : List Dc} {rs : List (List Value)} (h : Ds f w base S v ds rs) (ho : ∀ b, v.ownBlock = some b → w'.heap[b]? = w.heap[b]?) (hb : ∀ b, S b → w'.heap[b]? = w.heap[b]?) (hS : ∀ b, S b → S' b) : Ds f w' base S' v ds rs :=
  ⟨own_keep h.own ho, h.len, fun j d hj => by
    obtain ⟨fs, vs, ms, ins, h1, h2⟩ := h.kids j d hj
    exact ⟨fs, vs, ms, ins, h1, (h2.old hb).more hS⟩⟩
end Go.Proofs.YtngmimbpakmkiaaGreatDoor
namespace Go.Proofs.YtngmimbpakmkiaaGreatDoor
set_option linter.unusedVariables false
open Go.ChangeShapes Go.WideShapes Go.ChangeAt Go.RowKit

/-- since ws only the declaration at D has changed; its slice has been made since -/
structure Lp (ws wx : World) (D : Nat) (DT : TypeId) (cs : Array Value) (E : TypeId) (k : Nat) (v : Value) (n : Nat) (xs : List Value) : Prop where
  gr : ws.grownBy wx (some D)
  loc : wx.heap[D]? = some (.cells cs DT (0, 0))
  own : wx.ownsRow ws.heap.size E k v n xs
  lt : D < ws.heap.size
section
variable {ws wx : World} {D : Nat} {DT : TypeId} {cs : Array Value} {E : TypeId} {k : Nat} {v : Value} {n : Nat} {xs : List Value}
theorem Lp.size (h : Lp ws wx D DT cs E k v n xs) : ws.heap.size ≤ wx.heap.size := h.gr.size
theorem Lp.start (ws : World) {D : Nat} {DT : TypeId} {cs : Array Value} (h : ws.heap[D]? = some (.cells cs DT (0, 0))) (E : TypeId) (k : Nat) : Lp ws ws D DT cs E k (.slice none 0 0) 0 [] :=
  ⟨World.grownBy.refl _ _, h, World.ownsRow_nil _ _ _ _, (Array.getElem?_eq_some_iff.1 h).1⟩
theorem Lp.alloc (h : Lp ws wx D DT cs E k v n xs) (o : Obj) : Lp ws (wx.alloc o) D DT cs E k v n xs := by
  have hl := h.lt
  have hs := h.size
  exact ⟨h.gr.trans (World.grownBy_alloc _ _ _), by rw [alloc_heap_old _ _ _ (by omega)]; exact h.loc, World.ownsRow.alloc h.own o, hl⟩
theorem Lp.drew (h : Lp ws wx D DT cs E k v n xs) : Lp ws wx.drew D DT cs E k v n xs := ⟨h.gr.trans (grownBy_drew _ _), h.loc, h.own, h.lt⟩
theorem Lp.keep (h : Lp ws wx D DT cs E k v n xs) {b : Nat} (hb : b < ws.heap.size) (hne : b ≠ D) : wx.heap[b]? = ws.heap[b]? := h.gr.block b hb (by intro e; cases e; exact hne rfl)
/-- one more, at a step of a region that draws its order; it is then stored at the declaration's cell j -/
theorem Lp.push (h : Lp ws wx D DT cs E k v n xs) (j : Nat) {ops : Array Oper} {o : Oper} {a : Act} {K : Act → World → Prop} {Q : Exit → Act → World → Prop} {EE : Prop} (hgd : o.guard = none) (s' x' : Operand) (t : TypeId)
    (ho : o.op = .call { callee := .builtin .append, args := #[s', x'], argTypes := #[t, t] }) (ht : Tryz.prog.underlying t = some (.slice E)) (z : Value) (bytes : Nat)
    (hi : (Tryz.prog.info? E).map (fun i => (i.zero, i.size, i.bytes)) = some (some z, k, bytes)) (hzs : z.cells.size = k) (hk0 : 0 < k) (row : List Value) (hrow : row.length = k) (hone : ∀ u ∈ row, u.oneCell' = true)
    (crow : Array Value) (hcs : crow = row.toArray) (hs : a.eval s' = v) (hx : a.eval x' = .slice (some ⟨wx.heap.size, 0, none⟩) 1 1) (hbd : n ≤ 100000) (hby : bytes ≤ 1000)
    (hk : ∀ g cap W, W.heap[D]? = some (.cells cs DT (0, 0)) → Lp ws (W.setCell ⟨D, j, none⟩ (.slice (some ⟨g, 0, none⟩) (n + 1) cap)) D DT (cs.setIfInBounds j (.slice (some ⟨g, 0, none⟩) (n + 1) cap)) E k (.slice (some ⟨g, 0, none⟩) (n + 1) cap) (n + 1) (xs ++ row) → K (a.put o.dst (.slice (some ⟨g, 0, none⟩) (n + 1) cap)) W) :
    if Region.wanted o (yielded ops a.tmps) = true then Oper.wp Tryz.prog o a (wx.alloc (.cells crow E)) K Q else EE := by
  subst hcs
  have hl := h.lt
  have hss := h.size
  have ha := h.alloc (.cells row.toArray E)
  obtain ⟨i0, hi0, hz0, hz1, hz2⟩ := info_parts hi
  have hmul : (n + 1) * bytes ≤ 100001 * 1000 := Nat.mul_le_mul (by omega) hby
  refine step_append_lies _ hgd s' x' t ho ws.heap.size E i0 z k bytes ht hi0 hz0 hz1 hz2 hzs hk0 v n xs hs ha.own ⟨wx.heap.size, 0, none⟩ 1 1 row hx (by rw [hrow]; omega) ?_ hone (by decide) (by unfold maxLen; omega) (by omega) (by simp; omega) _ rfl ?_
  · exact World.news_of_block (cs := row.toArray) (t := E) (fr := (0, 0)) (by show (wx.heap.push _)[wx.heap.size]? = _; simp)
  · intro g cap W hown hg hat hlt
    have hno : v.ownBlock ≠ some D := fun e => by have := (own_block h.own D e).1; omega
    have hD : W.heap[D]? = some (.cells cs DT (0, 0)) := by
      rw [hg.block D (by simp; omega) (fun e => hno e.symm)]; exact ha.loc
    have hgb : ws.heap.size ≤ g := by
      rcases hat with e | e
      · exact (own_block h.own g e).1
      · simp at e; omega
    refine hk g cap W hD ⟨?_, setCell_heap hD _, ?_, hl⟩
    · refine grow_then (grow_then ha.gr hg fun b hb => ?_) (grownBy_set _ _ _ _) (fun b hb => .inr hb)
      left; exact (own_block h.own b hb).1
    · refine own_keep (w := W) hown fun b hb => Below.heap_setCell _ _ _ _ ?_
      have e : g = b := by simpa [Value.ownBlock] using hb
      show b ≠ D
      omega
end
/-- one declaration more, in a plain list of operations -/
theorem Ds.pushL {f : Nat} {wx : World} {base : Nat} {S : Nat → Prop} {v : Value} {ds : List Dc} {rs : List (List Value)} (h : Ds f wx base S v ds rs) (hb0 : base ≤ wx.heap.size) (x : Dc) (kf kv km ki : Value) (T : Nat → Prop) (hkid : Kids f wx T kf kv km ki x) (hone : ∀ u ∈ drow x kf kv km ki, u.oneCell' = true)
    (hS : ∀ b, S b ∨ T b → b < wx.heap.size ∧ v.ownBlock ≠ some b) {ops : Array Oper} {rest : List Oper} {o : Oper} {a : Act} {Q : Exit → Act → World → Prop} (hgd : o.guard = none) (s' x' : Operand)
    (ho : o.op = .call { callee := .builtin .append, args := #[s', x'], argTypes := #[22, 22] })
    (crow : Array Value) (hcs : crow = (drow x kf kv km ki).toArray) (hs : a.eval s' = v) (hx : a.eval x' = .slice (some ⟨wx.heap.size, 0, none⟩) 1 1) (hbd : ds.length ≤ 100000)
    (hk : ∀ g cap W, Ds f W base (fun b => S b ∨ T b) (.slice (some ⟨g, 0, none⟩) (ds.length + 1) cap) (ds ++ [x]) (rs ++ [drow x kf kv km ki]) → wx.grownBy W v.ownBlock → (∀ b, S b ∨ T b → b ≠ g) → base ≤ g → wpList Tryz.prog ops Q rest (a.put o.dst (.slice (some ⟨g, 0, none⟩) (ds.length + 1) cap)) W) :
    wpList Tryz.prog ops Q (o :: rest) a (wx.alloc (.cells crow 56)) := by
  subst hcs
  obtain ⟨i0, hi0, hz0, hz1, hz2⟩ := info_parts infoDc
  refine wpList_append_lies _ hgd s' x' 22 ho base 56 i0 _ 8 136 Tryz.underlying22 hi0 hz0 hz1 hz2 rfl (by decide) v ds.length (rs.flatMap id) hs (World.ownsRow.alloc h.own _) ⟨wx.heap.size, 0, none⟩ 1 1 (drow x kf kv km ki) hx rfl ?_ hone (by decide) (by unfold maxLen; omega) (by omega) (by simp; omega) _ rfl ?_
  · exact World.news_of_block (cs := (drow x kf kv km ki).toArray) (t := 56) (fr := (0, 0)) (by show (wx.heap.push _)[wx.heap.size]? = _; simp)
  · intro g cap W hown hg hat hlt
    have hsa : (wx.alloc (.cells (drow x kf kv km ki).toArray 56)).heap.size = wx.heap.size + 1 := by simp
    have hkW : ∀ b, b < wx.heap.size → v.ownBlock ≠ some b → W.heap[b]? = wx.heap[b]? := fun b hb hne => by
      rw [hg.block b (by rw [hsa]; omega) (fun e => hne e.symm), alloc_heap_old _ _ _ hb]
    have hng : ∀ b, S b ∨ T b → b ≠ g := fun b hb e => by
      subst e
      obtain ⟨h1, h2⟩ := hS b hb
      rcases hat with e | e
      · exact h2 e
      · rw [hsa] at e; omega
    have hgb : base ≤ g := by
      rcases hat with e | e
      · exact (own_block h.own g e).1
      · rw [hsa] at e; omega
    refine hk g cap W ⟨?_, ?_, ?_⟩ ((World.grownBy_alloc _ _ _).trans hg) hng hgb
    · rw [List.length_append, List.flatMap_append]
      simpa using hown
    · rw [List.length_append, List.length_append, h.len]; rfl
    · intro j d hj
      by_cases hjl : j < ds.length
      · rw [List.getElem?_append_left hjl] at hj
        obtain ⟨f1, v1, m1, i1, hr1, hk1⟩ := h.kids j d hj
        exact ⟨f1, v1, m1, i1, by rw [List.getElem?_append_left (by rw [h.len]; exact hjl)]; exact hr1, (hk1.old fun b hb' => hkW b (hS b (.inl hb')).1 (hS b (.inl hb')).2).more fun b hb => .inl hb⟩
      · have hjn := (List.getElem?_eq_some_iff.1 hj).1
        rw [List.length_append] at hjn
        have hje : j = ds.length := by simp at hjn; omega
        subst hje
        rw [List.getElem?_append_right (Nat.le_refl _), Nat.sub_self] at hj
        have e : x = d := by simpa using hj
        subst e
        exact ⟨kf, kv, km, ki, by rw [← h.len, List.getElem?_append_right (Nat.le_refl _), Nat.sub_self]; rfl, (hkid.old fun b hb' => hkW b (hS b (.inr hb')).1 (hS b (.inr hb')).2).more fun b hb => .inr hb⟩
/-- eight cells of a block are set -/
theorem set8_all {w : World} {B : Nat} {T : TypeId} {z0 z1 z2 z3 z4 z5 z6 z7 : Value} (h : w.heap[B]? = some (.cells #[z0, z1, z2, z3, z4, z5, z6, z7] T (0, 0))) (x0 x1 x2 x3 x4 x5 x6 x7 : Value) :
    ∃ Y, ((((((((w.setCell ⟨B, 0, none⟩ x0).setCell ⟨B, 1, none⟩ x1).setCell ⟨B, 2, none⟩ x2).setCell ⟨B, 3, none⟩ x3).setCell ⟨B, 4, none⟩ x4).setCell ⟨B, 5, none⟩ x5).setCell ⟨B, 6, none⟩ x6).setCell ⟨B, 7, none⟩ x7) = Y ∧ Y.heap[B]? = some (.cells #[x0, x1, x2, x3, x4, x5, x6, x7] T (0, 0)) ∧ (∀ b, b ≠ B → Y.heap[b]? = w.heap[b]?) ∧ Y.heap.size = w.heap.size ∧ Below B w Y := by
  have s8 := set8 h x0 x1 x2 x3 x4 x5 x6 x7
  have ho : ∀ b, b ≠ B → ((((((((w.setCell ⟨B, 0, none⟩ x0).setCell ⟨B, 1, none⟩ x1).setCell ⟨B, 2, none⟩ x2).setCell ⟨B, 3, none⟩ x3).setCell ⟨B, 4, none⟩ x4).setCell ⟨B, 5, none⟩ x5).setCell ⟨B, 6, none⟩ x6).setCell ⟨B, 7, none⟩ x7).heap[b]? = w.heap[b]? := fun b hb => by
    rw [Below.heap_setCell _ _ _ _ hb, Below.heap_setCell _ _ _ _ hb, Below.heap_setCell _ _ _ _ hb, Below.heap_setCell _ _ _ _ hb, Below.heap_setCell _ _ _ _ hb, Below.heap_setCell _ _ _ _ hb, Below.heap_setCell _ _ _ _ hb, Below.heap_setCell _ _ _ _ hb]
  have hz : ((((((((w.setCell ⟨B, 0, none⟩ x0).setCell ⟨B, 1, none⟩ x1).setCell ⟨B, 2, none⟩ x2).setCell ⟨B, 3, none⟩ x3).setCell ⟨B, 4, none⟩ x4).setCell ⟨B, 5, none⟩ x5).setCell ⟨B, 6, none⟩ x6).setCell ⟨B, 7, none⟩ x7).heap.size = w.heap.size := by simp
  have hb : Below B w ((((((((w.setCell ⟨B, 0, none⟩ x0).setCell ⟨B, 1, none⟩ x1).setCell ⟨B, 2, none⟩ x2).setCell ⟨B, 3, none⟩ x3).setCell ⟨B, 4, none⟩ x4).setCell ⟨B, 5, none⟩ x5).setCell ⟨B, 6, none⟩ x6).setCell ⟨B, 7, none⟩ x7) := (((((((((Below.refl B w).setCell (p := ⟨B, 0, none⟩) (Nat.le_refl _) x0).setCell (p := ⟨B, 1, none⟩) (Nat.le_refl _) x1).setCell (p := ⟨B, 2, none⟩) (Nat.le_refl _) x2).setCell (p := ⟨B, 3, none⟩) (Nat.le_refl _) x3).setCell (p := ⟨B, 4, none⟩) (Nat.le_refl _) x4).setCell (p := ⟨B, 5, none⟩) (Nat.le_refl _) x5).setCell (p := ⟨B, 6, none⟩) (Nat.le_refl _) x6).setCell (p := ⟨B, 7, none⟩) (Nat.le_refl _) x7)
  exact ⟨_, rfl, s8, ho, hz, hb⟩
end Go.Proofs.YtngmimbpakmkiaaGreatDoor
namespace Go.Proofs.YtngmimbpakmkiaaGreatDoor
set_option linter.unusedVariables false
open Go.ChangeShapes Go.WideShapes Go.ChangeAt Go.RowKit

/-- how many runes -/
def cntL : Nat → List UInt8 → Nat
  | 0, _ => 0
  | f + 1, l => if l = [] then 0 else 1 + cntL f (l.drop (nx l).2)
theorem nx_dec (l : List UInt8) (h : l ≠ []) : (nx l).2 = (Lib.decodeL l).2 := by
  unfold nx
  rw [if_neg h]
  split <;> rfl
theorem cnt_rune (s : ByteArray) : ∀ (f pos : Nat), Lib.runeCountFrom s f pos = cntL f (s.data.toList.drop pos)
  | 0, pos => rfl
  | f + 1, pos => by
    have hl : s.data.toList.length = s.size := len_data s
    by_cases hp : pos < s.size
    · have hne : s.data.toList.drop pos ≠ [] := by
        intro e
        have := congrArg List.length e
        rw [List.length_drop, hl] at this
        simp at this; omega
      rw [Lib.runeCountFrom, if_pos hp, cntL, if_neg hne, nx_dec _ hne, Lib.decodeL_drop, List.drop_drop, cnt_rune s f]
    · have hne : s.data.toList.drop pos = [] := List.drop_eq_nil_of_le (by omega)
      rw [Lib.runeCountFrom, if_neg hp, cntL, if_pos hne]
theorem end_none : ∀ (f : Nat) (l : List UInt8) (line col : Nat), (∀ b ∈ l, b ≠ 10) → l.length ≤ f → endL f l line col = (line, col + cntL f l)
  | 0, l, line, col, _, h => rfl
  | f + 1, l, line, col, hb, h => by
    by_cases hl : l = []
    · rw [endL, if_pos hl, cntL, if_pos hl]; rfl
    · have hn := nx_not10 l hl (by
        cases l with
        | nil => exact absurd rfl hl
        | cons a t => intro e; exact hb a (by simp) (by simpa using e))
      have hw := nx_width l hl
      rw [endL, if_neg hl, if_neg hn, cntL, if_neg hl, end_none f (l.drop (nx l).2) line (col + 1) (fun b hb' => hb b (List.mem_of_mem_drop hb')) (by rw [List.length_drop]; omega)]
      rw [Nat.add_assoc]
theorem no_feed (a y : List UInt8) (ha : a ≠ []) (h10 : a.head? ≠ some 10) : (a.take (nx (a ++ 10 :: y)).2).count 10 = 0 := by
  apply List.count_eq_zero.2
  intro hm
  obtain ⟨i, hi⟩ := List.getElem?_of_mem hm
  have hil := (List.getElem?_eq_some_iff.1 hi).1
  rw [List.length_take] at hil
  rw [List.getElem?_take, if_pos (by omega)] at hi
  have hia : i < a.length := by omega
  have hsp : a = a.take i ++ 10 :: a.drop (i + 1) := by
    have e := List.getElem?_eq_some_iff.1 hi
    conv => lhs; rw [← List.take_append_drop i a]
    rw [List.drop_eq_getElem_cons hia, e.2]
  have hi0 : i ≠ 0 := by
    intro e; subst e
    apply h10
    rw [← hi]
    cases a <;> rfl
  have hne : a.take i ≠ [] := by
    intro e
    have := congrArg List.length e
    rw [List.length_take] at this
    simp at this
    rcases this with h | h
    · exact hi0 h
    · exact ha h
  have hl := (nx_local (a.take i) (a.drop (i + 1) ++ 10 :: y) hne).2
  have e2 : a.take i ++ 10 :: (a.drop (i + 1) ++ 10 :: y) = a ++ 10 :: y := by
    conv => rhs; rw [hsp]
    simp
  rw [e2, List.length_take] at hl
  omega
theorem end_feed (b : List UInt8) : ∀ (n : Nat) (a : List UInt8), a.length ≤ n → ∀ (f line col : Nat), (a ++ 10 :: b).length ≤ f → ∃ f', b.length ≤ f' ∧ endL f (a ++ 10 :: b) line col = endL f' b (line + a.count 10 + 1) 1 := by
  intro n
  induction n with
  | zero =>
    intro a ha f line col hf
    have : a = [] := List.eq_nil_of_length_eq_zero (by omega)
    subst this
    simp at hf
    obtain ⟨f, rfl⟩ : ∃ g, f = g + 1 := ⟨f - 1, by omega⟩
    refine ⟨f, by omega, ?_⟩
    rw [List.nil_append, endL, if_neg (by simp), nx_feed, if_pos rfl]; rfl
  | succ n ih =>
    intro a ha f line col hf
    by_cases hz : a = []
    · subst hz
      exact ih [] (by simp) f line col hf
    · obtain ⟨f, rfl⟩ : ∃ g, f = g + 1 := ⟨f - 1, by rw [List.length_append] at hf; simp at hf; omega⟩
      have hne : a ++ 10 :: b ≠ [] := by simp
      have hw := nx_width _ hne
      have hl := nx_local a b hz
      have hd : (a ++ 10 :: b).drop (nx (a ++ 10 :: b)).2 = a.drop (nx (a ++ 10 :: b)).2 ++ 10 :: b := by
        rw [List.drop_append_of_le_length hl.2]
      have hlen : (a.drop (nx (a ++ 10 :: b)).2).length ≤ n := by rw [List.length_drop]; omega
      have hf2 : (a.drop (nx (a ++ 10 :: b)).2 ++ 10 :: b).length ≤ f := by rw [← hd, List.length_drop]; omega
      have hcount : a.count 10 = (a.take (nx (a ++ 10 :: b)).2).count 10 + (a.drop (nx (a ++ 10 :: b)).2).count 10 := by
        rw [← List.count_append, List.take_append_drop]
      by_cases h10 : a.head? = some 10
      · cases a with
        | nil => exact absurd rfl hz
        | cons x t =>
          have hx : x = 10 := by simpa using h10
          subst hx
          have hn : nx (10 :: t ++ 10 :: b) = (10, 1) := nx_feed _
          rw [hn] at hd hlen hf2 hcount
          obtain ⟨f', h1, h2⟩ := ih _ hlen f (line + 1) 1 hf2
          refine ⟨f', h1, ?_⟩
          rw [endL, if_neg hne, hn, if_pos rfl, hd, h2]
          congr 1
          simp
          omega
      · have hnx := nx_not10 (a ++ 10 :: b) hne (by
          cases a with
          | nil => exact absurd rfl hz
          | cons x t => exact h10)
        obtain ⟨f', h1, h2⟩ := ih _ hlen f line (col + 1) hf2
        refine ⟨f', h1, ?_⟩
        rw [endL, if_neg hne, if_neg hnx, hd, h2, hcount, no_feed a b hz h10, Nat.zero_add]
theorem end_is (s : ByteArray) (t : ByteArray) (ht : t.data.toList = s.data.toList.drop ((Lib.lastIndexByte s 10 + 1).toNat)) :
    endOf s.data.toList = (1 + Lib.countByte s.data.toList 10, 1 + Lib.runeCount t) := by
  have hls : s.data.toList.length = s.size := len_data s
  have hlt : t.data.toList.length = t.size := len_data t
  have hrc : Lib.runeCount t = cntL t.size t.data.toList := by
    unfold Lib.runeCount; rw [cnt_rune, List.drop_zero]
  have hget : ∀ j (hj : j < s.size), s.data[j]! = s.data.toList[j]'(by rw [hls]; exact hj) := by
    intro j hj
    rw [getElem!_pos s.data j hj]
    simp
  unfold endOf Lib.countByte
  rcases Lib.lastIndexByte_spec s 10 with ⟨h1, h2⟩ | ⟨i, h1, h2, h3, h4⟩
  · have hno : ∀ b ∈ s.data.toList, b ≠ 10 := by
      intro b hb e
      obtain ⟨j, hj⟩ := List.getElem?_of_mem hb
      obtain ⟨hj1, hj2⟩ := List.getElem?_eq_some_iff.1 hj
      have := h2 j (by omega)
      rw [hget j (by omega), hj2, e] at this
      exact this rfl
    have htt : t.data.toList = s.data.toList := by rw [ht, h1]; rfl
    rw [end_none _ _ _ _ hno (Nat.le_refl _), hrc, htt, ← hlt, htt, List.count_eq_zero.2 (fun hm => hno 10 hm rfl)]
  · have hi : i < s.data.toList.length := by omega
    have h10 : s.data.toList[i] = 10 := by
      have := h3
      rw [hget i h1] at this
      apply UInt8.toNat_inj.1
      show _ = 10
      omega
    have hb : t.data.toList = s.data.toList.drop (i + 1) := by
      rw [ht, h2]; congr 1
    have hsp : s.data.toList = s.data.toList.take i ++ 10 :: t.data.toList := by
      conv => lhs; rw [← List.take_append_drop i s.data.toList]
      rw [List.drop_eq_getElem_cons hi, h10, hb]
    have hno : ∀ b ∈ t.data.toList, b ≠ 10 := by
      intro b hb' e
      rw [hb] at hb'
      obtain ⟨j, hj⟩ := List.getElem?_of_mem hb'
      rw [List.getElem?_drop] at hj
      obtain ⟨hj1, hj2⟩ := List.getElem?_eq_some_iff.1 hj
      have := h4 (i + 1 + j) (by omega) (by omega)
      rw [hget (i + 1 + j) (by omega), hj2, e] at this
      exact this rfl
    obtain ⟨f', g1, g2⟩ := end_feed t.data.toList _ (s.data.toList.take i) (Nat.le_refl _) (s.data.toList.take i ++ 10 :: t.data.toList).length 1 1 (Nat.le_refl _)
    have hcs : s.data.toList.count 10 = (s.data.toList.take i).count 10 + 1 := by
      conv => lhs; rw [hsp]
      rw [List.count_append, List.count_cons_self, List.count_eq_zero.2 (fun hm => hno 10 hm rfl)]
    rw [hcs]
    conv => lhs; rw [hsp]
    rw [g2, end_none f' _ _ _ hno g1, hrc]
    have hfu : ∀ (f g : Nat) (l : List UInt8), l.length ≤ f → l.length ≤ g → cntL f l = cntL g l := by
      intro f
      induction f with
      | zero =>
        intro g l hf hg
        have : l = [] := List.eq_nil_of_length_eq_zero (by omega)
        subst this
        cases g with
        | zero => rfl
        | succ g => rw [cntL, cntL, if_pos rfl]
      | succ f ih =>
        intro g l hf hg
        by_cases hl : l = []
        · subst hl
          cases g with
          | zero => rw [cntL, cntL, if_pos rfl]
          | succ g => rw [cntL, cntL, if_pos rfl, if_pos rfl]
        · have hp := List.length_pos_iff.2 hl
          obtain ⟨g, rfl⟩ : ∃ g', g = g' + 1 := ⟨g - 1, by omega⟩
          have hw := nx_width l hl
          rw [cntL, cntL, if_neg hl, if_neg hl, ih g (l.drop (nx l).2) (by rw [List.length_drop]; omega) (by rw [List.length_drop]; omega)]
    rw [hfu f' t.size t.data.toList g1 (by omega)]
    congr 1
theorem alloc_heap_new' (w : World) (o : Obj) : (w.alloc o).heap[w.heap.size]? = some o := by
  show (w.heap.push o)[w.heap.size]? = _
  simp
theorem setCell_heap' {w : World} {R j : Nat} {cs : Array Value} {t : TypeId} {fr : Nat × Nat} (h : w.heap[R]? = some (.cells cs t fr)) (x : Value) : (w.setCell ⟨R, j, none⟩ x).heap[R]? = some (.cells (cs.setIfInBounds j x) t fr) := by
  rw [setCell_eq_setRow _ _ _ _ _ _ _ h, setRow_heap w R _ _ _ _ h]
set_option maxHeartbeats 4000000 in
set_option maxRecDepth 20000 in
theorem behindD_any (s : ByteArray) (w : World) (hs : s.size ≤ 1048576) :
    Calls Tryz.prog 37 #[.string s] w fun e w' => e = .returned (.agg #[.int .i64 ((endOf s.data.toList).1 : Int), .int .i64 ((endOf s.data.toList).2 : Int)]) ∧ Below w.heap.size w w' := by
  have hls : s.data.toList.length = s.size := len_data s
  obtain ⟨p, hp1, hp2⟩ : ∃ p : Nat, Lib.lastIndexByte s 10 = (p : Int) - 1 ∧ p ≤ s.size := by
    rcases Lib.lastIndexByte_spec s 10 with ⟨h1, _⟩ | ⟨i, h1, h2, _⟩
    · exact ⟨0, by rw [h1]; rfl, by omega⟩
    · exact ⟨i + 1, by rw [h2]; omega, by omega⟩
  have hLI := fun W => strings_LastIndexByte s 10 (by omega) W
  have hCt := fun W => strings_Count_one s 10 W
  have hex : (s.extract p s.size).data.toList = s.data.toList.drop p := by
    rw [Lib.extract_eq]
    show (List.take (s.size - p) (List.drop p s.data.toList)) = _
    rw [List.take_of_length_le (by rw [List.length_drop]; omega)]
  have htz : (s.extract p s.size).size ≤ 1048576 := by rw [← len_data, hex, List.length_drop]; omega
  have hRC := fun W => utf8_RuneCountInString (s.extract p s.size) W (by omega)
  have hrl := Lib.runeCount_le (s.extract p s.size)
  have hcl : Lib.countByte s.data.toList 10 ≤ s.size := by unfold Lib.countByte; have := List.count_le_length (a := (10 : UInt8)) (l := s.data.toList); omega
  have HE : Hid (endOf s.data.toList = (1 + Lib.countByte s.data.toList 10, 1 + Lib.runeCount (s.extract p s.size))) := end_is s _ (by
    rw [hex, hp1]; congr 1; omega)
  rw [hp1] at hLI
  have w1 : wrap64 ((p : Int) - 1 + 1) = (p : Int) := by unfold wrap64; omega
  have w2 : wrap64 (p : Int) = (p : Int) := by unfold wrap64; omega
  have i1 : ¬ (p : Int) < 0 := by omega
  have i2 : (p : Int) ≤ (s.size : Int) := by omega
  generalize Lib.runeCount (s.extract p s.size) = rc at *
  generalize Lib.countByte s.data.toList 10 = cb at *
  have w3 : wrap64 (1 + (cb : Int)) = 1 + (cb : Int) := by unfold wrap64; omega
  have w4 : wrap64 (1 + (rc : Int)) = 1 + (rc : Int) := by unfold wrap64; omega
  clear hex htz hp1 hls
  go_enter Tryz.func37, Tryz.ntmps37
  go_wp2_with fail
  refine (hLI _).mono ?_
  rintro e w9 ⟨rfl, h9⟩
  have h9 := h9.symm
  subst h9
  have HB0 := Lib.hid ((Below.refl w.heap.size w).alloc (Nat.le_refl _) (.cells #[.int .i64 0, .int .i64 0] 38))
  have HC0 := Lib.hid (alloc_heap_new' w (.cells #[.int .i64 0, .int .i64 0] 38))
  go_wp2_with fail
  refine (hCt _).mono ?_
  rintro e w9 ⟨rfl, h9⟩
  have h9 := h9.symm
  subst h9
  go_wp2_with fail
  refine (hRC _).mono ?_
  rintro e W ⟨rfl, pos, hW⟩
  have hbW : Below (w.alloc (.cells #[.int .i64 0, .int .i64 0] 38)).heap.size (w.alloc (.cells #[.int .i64 0, .int .i64 0] 38)) W := by
    rw [hW]; exact (Below.refl _ _).alloc (Nat.le_refl _) _
  have hsV : (w.alloc (.cells #[.int .i64 0, .int .i64 0] 38)).heap.size = w.heap.size + 1 := by simp
  have hcW : W.heap[w.heap.size]? = some (.cells #[.int .i64 0, .int .i64 0] 38 (0, 0)) := by rw [hbW.block _ (by omega)]; exact HC0.out
  have HBW := Lib.hid (HB0.out.trans ⟨hbW.os, hbW.tape, hbW.output, hbW.size, fun k hk => hbW.block k (by omega)⟩)
  have k0 : W.cell? ⟨w.heap.size, 0, none⟩ = some (.int .i64 0) := by simp [World.cell?, hcW]
  have k1 : W.cell? ⟨w.heap.size, 1, none⟩ = some (.int .i64 0) := by simp [World.cell?, hcW]
  have f0 : W.frozen? ⟨w.heap.size, 0, none⟩ = false := by simp [World.frozen?, hcW]
  have f1 : W.frozen? ⟨w.heap.size, 1, none⟩ = false := by simp [World.frozen?, hcW]
  have HF : Hid (((W.setCell ⟨w.heap.size, 0, none⟩ (.int .i64 (1 + (cb : Int)))).setCell ⟨w.heap.size, 1, none⟩ (.int .i64 (1 + (rc : Int)))).heap[w.heap.size]? = some (.cells #[.int .i64 (1 + (cb : Int)), .int .i64 (1 + (rc : Int))] 38 (0, 0))) := by
    refine (?_ : _ = _)
    have a1 : (W.setCell ⟨w.heap.size, 0, none⟩ (.int .i64 (1 + (cb : Int)))).heap[w.heap.size]? = some (.cells #[.int .i64 (1 + (cb : Int)), .int .i64 0] 38 (0, 0)) := setCell_heap' hcW _
    exact setCell_heap' a1 _
  have HB2 := Lib.hid ((HBW.out.setCell (p := ⟨w.heap.size, 0, none⟩) (Nat.le_refl _) (.int .i64 (1 + (cb : Int)))).setCell (p := ⟨w.heap.size, 1, none⟩) (Nat.le_refl _) (.int .i64 (1 + (rc : Int))))
  clear hW hbW hcW hLI hCt hRC
  go_wp2_with fail
  generalize (W.setCell ⟨w.heap.size, 0, none⟩ (.int .i64 (1 + (cb : Int)))).setCell ⟨w.heap.size, 1, none⟩ (.int .i64 (1 + (rc : Int))) = Y at *
  have y0 : Y.cell? ⟨w.heap.size, 0, none⟩ = some (.int .i64 (1 + (cb : Int))) := by simp [World.cell?, HF.out]
  have y1 : Y.cell? ⟨w.heap.size, 1, none⟩ = some (.int .i64 (1 + (rc : Int))) := by simp [World.cell?, HF.out]
  refine bodyPost_ret (v := .agg #[.int .i64 (1 + (cb : Int)), .int .i64 (1 + (rc : Int))]) (by simp [results, Tryz.results37, go_sem, y0, y1]) rfl ⟨?_, HB2.out⟩
  rw [HE.out]
  simp
end Go.Proofs.YtngmimbpakmkiaaGreatDoor
namespace Go.Proofs.YtngmimbpakmkiaaGreatDoor
set_option linter.unusedVariables false
open Go.Shelf Go.RowKit

/-- what a writing call leaves: the builder holds l, nothing below B has changed, nothing else but rows of bytes -/
structure Wr (B b : Nat) (l : List UInt8) (w w' : World) : Prop where
  isb : Lib.IsBuilderF 73 5 B b (Lib.byteCells l) w'
  bel : Below B w w'
  oth : Lib.OthersKept 5 (some b) w w'
theorem mixedW : Tryz.prog.follows Departure.mixedOrders = true := by kernel_rfl
theorem neW : (73 : Nat) ≠ 5 := by decide
theorem infoB : (Tryz.prog.info? 5).map (fun i => (i.zero, i.size, i.bytes)) = some (some (.int .u8 0), 1, 1) := by kernel_rfl
theorem sizeBl : (Tryz.prog.info? 71).map (fun i => i.size) = some 2 := by kernel_rfl
theorem liesW : liesAt Tryz.prog Tryz.prog.depth 73 (2 / Tryz.prog.cellsOf 73) 0 71 1 = true := by kernel_rfl

set_option maxHeartbeats 1000000 in
set_option maxRecDepth 100000 in
theorem copyCheckW (B b : Nat) (bs : List Value) (w : World) (h : Lib.IsBuilderF 73 5 B b bs w) :
    Calls Tryz.prog 72 #[.pointer (some ⟨b, 0, none⟩)] w fun e w' => e = .returned (.tuple #[]) ∧ Lib.BuilderAtF 73 5 B b (.pointer (some ⟨b, 0, none⟩)) bs w' ∧ Below B w w' ∧ Lib.OthersKept 5 (some b) w w' := by
  obtain ⟨j, hj, hjs⟩ := Option.map_eq_some_iff.1 sizeBl
  have hL := liesW
  rcases h with h | h
  · have h0 := h.cell0; have hsh := h.shape; have hfz := h.frozen0
    go_enter Tryz.func72, Tryz.ntmps72
    go_wp2
    rw [Lib.run_to_unsafe w ⟨b, 0, none⟩ Tryz.underlying68 Tryz.underlying152 hj (by rw [hjs]; decide) hsh (Nat.zero_lt_succ 1)]
    simp only [Result.andThen]
    rw [Oper.upon_value]
    go_wp2
    rw [run_callFunc_extern Tryz.func108 (by kernel_rfl) (by kernel_rfl) (by kernel_rfl) (e := Extern.AbiNoEscape.same) (by kernel_rfl)]
    rw [Lib.run_noEscape]
    simp only [Result.andThen]
    rw [Oper.upon_value]
    go_wp2
    rw [Lib.run_from_unsafe w ⟨b, 0, none⟩ Tryz.underlying152 Tryz.underlying68 hj hsh hL]
    simp only [Result.andThen]
    rw [Oper.upon_value]
    go_wp2
    go_end0
    exact ⟨rfl, h.used _, (Below.refl B w).setCell (p := ⟨b, 0, none⟩) h.1 _, (Lib.OthersKept.refl _ _ w).setCell ⟨b, 0, none⟩ rfl _⟩
  · have h0 := h.cell0
    go_enter Tryz.func72, Tryz.ntmps72
    go_wp2
    rw [Lib.run_neq_ptr_same w _ Tryz.underlying68 hj]
    go_wp2
    go_end0
    exact ⟨rfl, h, Below.refl B _, Lib.OthersKept.refl _ _ _⟩

set_option maxHeartbeats 1000000 in
set_option maxRecDepth 100000 in
theorem lenW (B b : Nat) (bs : List Value) (w : World) (h : Lib.IsBuilderF 73 5 B b bs w) :
    Calls Tryz.prog 43 #[.pointer (some ⟨b, 0, none⟩)] w fun e w' => e = .returned (.int .i64 bs.length) ∧ w' = w := by
  obtain ⟨p, hB, v, hbk, hown, hne⟩ : ∃ p, Lib.BuilderAtF 73 5 B b p bs w := by
    rcases h with h | h
    · exact ⟨_, h⟩
    · exact ⟨_, h⟩
  obtain ⟨ao, cap, rfl⟩ : ∃ ao cap, v = .slice ao bs.length cap := by
    rcases hown.2 with ⟨hv, h0⟩ | ⟨g, cap, cur, fz, hv, _⟩
    · exact ⟨none, 0, by rw [hv, h0]⟩
    · exact ⟨_, _, hv⟩
  have c1 : w.cell? ⟨b, 1, none⟩ = some (.slice ao bs.length cap) := by rw [Lib.cell_of_heap hbk]; rfl
  go_enter Tryz.func43, Tryz.ntmps43
  go_wp2
  go_ret
  exact ⟨rfl, rfl⟩

set_option maxHeartbeats 2000000 in
set_option maxRecDepth 100000 in
theorem writeStringW (B b : Nat) (l : List UInt8) (s : ByteArray) (w : World) (h : Lib.IsBuilderF 73 5 B b (Lib.byteCells l) w) (hlen : l.length + s.size ≤ 140737488355328) (hBw : B ≤ w.heap.size) :
    Calls Tryz.prog 44 #[.pointer (some ⟨b, 0, none⟩), .string s] w fun e w' => e = .returned (.tuple #[.int .i64 s.size, .nilIface]) ∧ Wr B b (l ++ s.data.toList) w w' := by
  obtain ⟨i0, hi, hz0, hz1, hz2⟩ := info_parts infoB
  have hC := copyCheckW B b (Lib.byteCells l) w h
  have hcat : Lib.byteCells (l ++ s.data.toList) = Lib.byteCells l ++ Lib.strCells s := by unfold Lib.byteCells Lib.strCells; rw [List.map_append]
  go_enter Tryz.func44, Tryz.ntmps44
  go_wp2_with fail
  refine hC.mono ?_
  rintro e w1 ⟨rfl, h1, hb1, hk1⟩
  obtain ⟨hB, v, hbk, hown, hne⟩ := h1
  rw [Lib.byteCells_length] at hown
  have c0 : w1.cell? ⟨b, 0, none⟩ = some (.pointer (some ⟨b, 0, none⟩)) := by rw [Lib.cell_of_heap hbk]; rfl
  have c1 : w1.cell? ⟨b, 1, none⟩ = some v := by rw [Lib.cell_of_heap hbk]; rfl
  clear hC
  go_wp2_with (at_builtin; refine Lib.wpList_append_own_stringF _ rfl _ _ 69 9 rfl B 5 i0 Tryz.underlying69 Tryz.underlying9 hi hz0 hz1 hz2 _ _ _ rfl hown s rfl ?c3 ?c4 ?c5 ?_)
  case c3 => unfold maxLen; omega
  case c4 => omega
  case c5 => have := hb1.size; omega
  intro v' w2 hown' hgrow _
  have hlt : b < w1.heap.size := by
    rcases Nat.lt_or_ge b w1.heap.size with h' | h'
    · exact h'
    · simp [Array.getElem?_eq_none h'] at hbk
  have hb2 : w2.heap[b]? = some (.cells #[.pointer (some ⟨b, 0, none⟩), v] 73 (0, 0)) := by
    rw [hgrow.block b hlt (fun e => hne e.symm)]
    exact hbk
  have d0 : w2.cell? ⟨b, 0, none⟩ = some (.pointer (some ⟨b, 0, none⟩)) := by rw [Lib.cell_of_heap hb2]; rfl
  have d1 : w2.cell? ⟨b, 1, none⟩ = some v := by rw [Lib.cell_of_heap hb2]; rfl
  have f1 : w2.frozen? ⟨b, 1, none⟩ = false := Lib.frozen_of_heap hb2 1
  obtain ⟨ao, n', cap, rfl⟩ : ∃ ao n' cap, v' = .slice ao n' cap := by
    rcases hown'.2 with ⟨hv, _⟩ | ⟨g, cap, cur, fz, hv, _⟩
    · exact ⟨_, _, _, hv⟩
    · exact ⟨_, _, _, hv⟩
  have hP : Hid (Lib.IsBuilderF 73 5 B b (Lib.byteCells (l ++ s.data.toList)) (w2.setCell ⟨b, 1, none⟩ (.slice ao n' cap))) :=
    .inr (Lib.BuilderAtF.put (T := 73) (e := 5) hB hb2 (bs' := Lib.byteCells (l ++ s.data.toList)) (by rw [hcat, List.length_append, Lib.strCells_length, Lib.byteCells_length]; exact hown') neW)
  have hQ : Hid (Below B w (w2.setCell ⟨b, 1, none⟩ (.slice ao n' cap))) := (hb1.grown hgrow (by have := hb1.size; omega) (fun k hk => (hown.lt k hk).1)).setCell (p := ⟨b, 1, none⟩) hB _
  have hR : Hid (Lib.OthersKept 5 (some b) w (w2.setCell ⟨b, 1, none⟩ (.slice ao n' cap))) := (hk1.grown hgrow (Lib.ownsRowF_kind hown)).setCell ⟨b, 1, none⟩ rfl _
  clear hcat hown' hgrow hown hk1 hb1
  go_wp2
  go_ret2
  exact ⟨rfl, hP.out, hQ.out, hR.out⟩

set_option maxHeartbeats 2000000 in
set_option maxRecDepth 100000 in
theorem writeByteW (B b : Nat) (l : List UInt8) (c : UInt8) (x : Int) (hx : x = (c.toNat : Int)) (w : World) (h : Lib.IsBuilderF 73 5 B b (Lib.byteCells l) w) (hlen : l.length + 1 ≤ 140737488355328) (hBw : B ≤ w.heap.size) :
    Calls Tryz.prog 46 #[.pointer (some ⟨b, 0, none⟩), .int .u8 x] w fun e w' => e = .returned .nilIface ∧ Wr B b (l ++ [c]) w w' := by
  obtain ⟨i0, hi, hz0, hz1, hz2⟩ := info_parts infoB
  have hC := copyCheckW B b (Lib.byteCells l) w h
  have hcat : Lib.byteCells (l ++ [c]) = Lib.byteCells l ++ [.int .u8 x] := by unfold Lib.byteCells; rw [List.map_append, hx]; rfl
  clear hx
  go_enter Tryz.func46, Tryz.ntmps46
  go_wp2_with fail
  refine hC.mono ?_
  rintro e w1 ⟨rfl, h1, hb1, hk1⟩
  obtain ⟨hB, v, hbk, hown, hne⟩ := h1
  rw [Lib.byteCells_length] at hown
  obtain ⟨vo, vc, rfl⟩ : ∃ ao cap, v = .slice ao l.length cap := by
    rcases hown.2 with ⟨hv, h0⟩ | ⟨g, cap, cur, fz, hv, _⟩
    · exact ⟨none, 0, by rw [hv, h0]⟩
    · exact ⟨_, _, hv⟩
  have c0 : w1.cell? ⟨b, 0, none⟩ = some (.pointer (some ⟨b, 0, none⟩)) := by rw [Lib.cell_of_heap hbk]; rfl
  have c1 : w1.cell? ⟨b, 1, none⟩ = some (.slice vo l.length vc) := by rw [Lib.cell_of_heap hbk]; rfl
  have hlt : b < w1.heap.size := by
    rcases Nat.lt_or_ge b w1.heap.size with h' | h'
    · exact h'
    · simp [Array.getElem?_eq_none h'] at hbk
  clear hC
  go_wp2_with (at_builtin; (refine wpList_append_ownF _ rfl _ _ 69 rfl B 5 i0 (.int .u8 0) 1 1 Tryz.underlying69 hi hz0 hz1 hz2 rfl (by decide) _ _ _ rfl (hown.alloc _) ⟨w1.heap.size, 0, none⟩ 1 1 [.int .u8 x] rfl rfl ?new ?one (by unfold maxLen; omega) (by omega) (by have := hb1.size; simp; omega) ?_))
  case new =>
    intro j u hj
    cases j with
    | zero => simp at hj; subst hj; simp [Addr.add]
    | succ j => simp at hj
  case one => intro u hu; simp at hu; subst hu; rfl
  intro v' w2 hown' hgrow _
  have hb2 : w2.heap[b]? = some (.cells #[.pointer (some ⟨b, 0, none⟩), .slice vo l.length vc] 73 (0, 0)) := by
    rw [hgrow.block b (by simp; omega) (fun e => hne e.symm), Lib.alloc_old w1 _ b hlt]
    exact hbk
  have d0 : w2.cell? ⟨b, 0, none⟩ = some (.pointer (some ⟨b, 0, none⟩)) := by rw [Lib.cell_of_heap hb2]; rfl
  have d1 : w2.cell? ⟨b, 1, none⟩ = some (.slice vo l.length vc) := by rw [Lib.cell_of_heap hb2]; rfl
  have f1 : w2.frozen? ⟨b, 1, none⟩ = false := Lib.frozen_of_heap hb2 1
  obtain ⟨ao, n', cap, rfl⟩ : ∃ ao n' cap, v' = .slice ao n' cap := by
    rcases hown'.2 with ⟨hv, _⟩ | ⟨g, cap, cur, fz, hv, _⟩
    · exact ⟨_, _, _, hv⟩
    · exact ⟨_, _, _, hv⟩
  have hP : Hid (Lib.IsBuilderF 73 5 B b (Lib.byteCells (l ++ [c])) (w2.setCell ⟨b, 1, none⟩ (.slice ao n' cap))) :=
    .inr (Lib.BuilderAtF.put (T := 73) (e := 5) hB hb2 (bs' := Lib.byteCells (l ++ [c])) (by rw [hcat, List.length_append, Lib.byteCells_length]; exact hown') neW)
  have hQ : Hid (Below B w (w2.setCell ⟨b, 1, none⟩ (.slice ao n' cap))) := ((hb1.alloc (by have := hb1.size; omega) _).grown hgrow (by have := hb1.size; simp; omega) (fun k hk => (hown.lt k hk).1)).setCell (p := ⟨b, 1, none⟩) hB _
  have hR : Hid (Lib.OthersKept 5 (some b) w (w2.setCell ⟨b, 1, none⟩ (.slice ao n' cap))) := ((hk1.alloc _).grown hgrow (Lib.ownsRowF_kind (hown.alloc _))).setCell ⟨b, 1, none⟩ rfl _
  clear hcat hown' hgrow hown hk1 hb1
  go_wp2
  go_ret
  exact ⟨rfl, hP.out, hQ.out, hR.out⟩

set_option maxHeartbeats 1000000 in
set_option maxRecDepth 100000 in
theorem stringW (B b : Nat) (l : List UInt8) (w : World) (h : Lib.IsBuilderF 73 5 B b (Lib.byteCells l) w) (h0 : l ≠ []) :
    Calls Tryz.prog 31 #[.pointer (some ⟨b, 0, none⟩)] w fun e w' => e = .returned (.string ⟨l.toArray⟩) ∧ Below B w w' := by
  obtain ⟨p, hB, v, hbk, hown, hne⟩ : ∃ p, Lib.BuilderAtF 73 5 B b p (Lib.byteCells l) w := by
    rcases h with h | h
    · exact ⟨_, h⟩
    · exact ⟨_, h⟩
  have hl0 : l.length ≠ 0 := by simpa using h0
  rw [Lib.byteCells_length] at hown
  obtain ⟨g, cap, cur, fz, rfl, hbg, hg, hfz, hnc, hcm, hcs, htake⟩ : ∃ g cap cur fz, v = .slice (some ⟨g, 0, none⟩) l.length cap ∧ B ≤ g ∧ w.heap[g]? = some (.cells cur 5 fz) ∧ fz.2 ≤ l.length * 1 ∧ l.length ≤ cap ∧ cap ≤ maxLen ∧ cur.size = cap * 1 ∧ cur.toList.take (l.length * 1) = Lib.byteCells l := by
    rcases hown.2 with ⟨_, hz⟩ | ⟨g, cap, cur, fz, hv, r⟩
    · exact absurd hz hl0
    · exact ⟨g, cap, cur, fz, hv, r⟩
  have c1 : w.drew.cell? ⟨b, 1, none⟩ = some (.slice (some ⟨g, 0, none⟩) l.length cap) := by
    have : w.drew.heap[b]? = some (.cells #[p, .slice (some ⟨g, 0, none⟩) l.length cap] 73 (0, 0)) := hbk
    rw [Lib.cell_of_heap this]; rfl
  have hSD : (Builtin.unsafeSliceData_ #[69] 105 #[.slice (some ⟨g, 0, none⟩) l.length cap]).run Tryz.prog w.drew = .ok (.pointer (some ⟨g, 0, none⟩)) w.drew :=
    Lib.run_unsafeSliceData_row _ _ _ _ _ _ (by omega)
  have hUS : (Builtin.unsafeString_ #[105, 3] 9 #[.pointer (some ⟨g, 0, none⟩), .int .i64 l.length]).run Tryz.prog w.drew = .ok (.string ⟨l.toArray⟩) (w.drew.freeze ⟨g, 0, none⟩ l.length) := by
    refine Lib.run_unsafeString_row w.drew 105 3 9 5 Tryz.underlying105 (by kernel_rfl) g cur.size (by have hg' : w.drew.heap[g]? = some (.cells cur 5 fz) := hg; simp [World.shape?, hg']) l h0 (by omega) (by unfold maxLen at hcm; omega) ?_
    intro j x hx
    have := hown.cells (g := g) rfl j (.int .u8 x.toNat) (by simp [Lib.byteCells, hx])
    exact this
  have hbel : Hid (Below B w (w.drew.freeze ⟨g, 0, none⟩ l.length)) := Lib.below_freeze (Below.drew (Below.refl B w)) (p := ⟨g, 0, none⟩) hbg _
  clear hown htake hg hbk hfz hcs
  have mixed := mixedW
  go_enter Tryz.func31, Tryz.ntmps31
  go_wp2
  go_region_o
  all_goals (go_wp2; go_ret; exact ⟨rfl, hbel.out⟩)

set_option maxHeartbeats 1000000 in
set_option maxRecDepth 100000 in
theorem stringW_nil (B b : Nat) (p : Value) (w : World) (hbk : w.heap[b]? = some (.cells #[p, .slice none 0 0] 73 (0, 0))) :
    Calls Tryz.prog 31 #[.pointer (some ⟨b, 0, none⟩)] w fun e w' => e = .returned (.string ⟨#[]⟩) ∧ Below B w w' := by
  have hUS : ∀ (W : World) (q : Option Addr), (Builtin.unsafeString_ #[105, 3] 9 #[.pointer q, .int .i64 0]).run Tryz.prog W = .ok (.string .empty) W := fun W q => Lib.run_unsafeString_none W _ _ _ q
  have c1 : w.drew.cell? ⟨b, 1, none⟩ = some (.slice none 0 0) := by
    have : w.drew.heap[b]? = some (.cells #[p, .slice none 0 0] 73 (0, 0)) := hbk
    rw [Lib.cell_of_heap this]; rfl
  have hSD : (Builtin.unsafeSliceData_ #[69] 105 #[.slice none 0 0]).run Tryz.prog w.drew = .ok (.pointer none) w.drew := rfl
  have mixed := mixedW
  go_enter Tryz.func31, Tryz.ntmps31
  go_wp2
  go_region_o
  all_goals (go_wp2; go_ret; exact ⟨rfl, Below.drew (Below.refl B w)⟩)
end Go.Proofs.YtngmimbpakmkiaaGreatDoor
