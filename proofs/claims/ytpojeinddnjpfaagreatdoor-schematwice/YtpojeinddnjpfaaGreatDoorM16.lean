/-
  What the laws of this layer ask of Words, as one sentence (DevWords), and, where it holds, the walk over the laws' own awake.
  The walk over the program's own Words: the words of a text, or its error, and place.
  The walks over the program's own stripFields, stripValues and stripMethods.
  The walk over the program's own Strip.
  What is read of any text is formed. Facts of the plain functions: nothing is proved of the program here.
  Whole names, and what a path means in a scope, as plain functions; what the laws of scope ask of them. Nothing is proved of the program here.
-/
import Derived.Test.YtpojeinddnjpfaaGreatDoorM14
import Derived.Test.YtpojeinddnjpfaaGreatDoorProg
import Derived.Test.YtpojeinddnjpfaaGreatDoorM1
import Derived.Deep.RegionWith
import Derived.Deep.QuietTactic
import Derived.BigQuiet
import Derived.Deep.RegionLaw
import Derived.Test.YtpojeinddnjpfaaGreatDoorM0
import Derived.Test.YtpojeinddnjpfaaGreatDoorM15
import Derived.Deep.RegionHeldLaw
import Derived.Deep.DeepCutAuto
import Derived.Lib.IndexBytes
import Derived.Test.YtpojeinddnjpfaaGreatDoorM8
import Derived.Test.YtpojeinddnjpfaaGreatDoorM2
import Derived.Test.YtpojeinddnjpfaaGreatDoorM13
namespace Go.Proofs.YtpojeinddnjpfaaGreatDoor
set_option linter.unusedVariables false
open Go.ChangeShapes Go.WideShapes Go.ChangeAt Go.RowKit

def HeldW (w : World) (ad : Option Addr) (ws : List Wd) : Prop :=
 ws = [] ∨ ∃ g, ad = some ⟨g, 0, none⟩ ∧ ∀ (j : Nat) (x : Wd), ws[j]? = some x → w.cell? ⟨g, j * 4, none⟩ = some (.int .i64 x.kind) ∧ w.cell? ⟨g, j * 4 + 1, none⟩ = some (.string (mkB x.text)) ∧
  w.cell? ⟨g, j * 4 + 2, none⟩ = some (.int .i64 (x.line : Int)) ∧ w.cell? ⟨g, j * 4 + 3, none⟩ = some (.int .i64 (x.col : Int))
def LAns (a : List Wd × (Nat × Nat) × Int) (e : Ending) (w' : World) : Prop :=
 ∃ (ad : Option Addr) (c : Nat) (pl pc : Int), e = .returned (.tuple #[.slice ad a.1.length c, .agg #[.int .i64 pl, .int .i64 pc], .int .i64 a.2.2]) ∧ HeldW w' ad a.1 ∧ a.1.length ≤ c ∧ (a.2.2 ≠ 0 → pl = (a.2.1.1 : Int) ∧ pc = (a.2.1.2 : Int))
theorem lexL_err : ∀ (f : Nat) (l : List UInt8) (line col : Nat) (acc : List Wd), (lexL f l line col acc).2.2 ≠ 0 → (lexL f l line col acc).1 = []
 | 0, l, line, col, acc, h => absurd rfl h
 | f + 1, l, line, col, acc, h => by
  by_cases h0 : l = []
  ·subst h0; rw [lexL_end] at h; exact absurd rfl h
  ·by_cases h10 : (nx l).1 = 10
   ·rw [lexL_feed f l _ _ _ h0 h10] at h ⊢; exact lexL_err f _ _ _ _ h
   ·by_cases hb : (nx l).1 = 32 ∨ (nx l).1 = 9
    ·rw [lexL_blank f l _ _ _ h0 hb] at h ⊢; exact lexL_err f _ _ _ _ h
    ·by_cases hr : (nx l).1 = 47 ∧ l[1]? = some 47
     ·rw [lexL_remark f l _ _ _ h0 hr.1 hr.2] at h ⊢; exact lexL_err f _ _ _ _ h
     ·rw [lexL_word f l _ _ _ ⟨h0, h10, fun h => hb (.inl h), fun h => hb (.inr h), hr⟩] at h ⊢
      by_cases c1 : rightL (headW l).1 (l.take (headW l).2.1) (nx l).1 = false
      ·rw [if_pos c1]
      ·rw [if_neg c1] at h ⊢
       by_cases c2 : acc.length = 4000
       ·rw [if_pos c2]
       ·rw [if_neg c2] at h ⊢
        exact lexL_err f _ _ _ _ h
theorem words_err (l : List UInt8) (h : (wordsL l).2.2 ≠ 0) : (wordsL l).1 = [] := by
 unfold wordsL at h ⊢
 split
 ·rfl
 ·rename_i c; rw [if_neg c] at h; exact lexL_err _ _ _ _ _ h
end Go.Proofs.YtpojeinddnjpfaaGreatDoor
namespace Go.Proofs.YtpojeinddnjpfaaGreatDoor
set_option linter.unusedVariables false
open Go.ChangeShapes Go.WideShapes Go.ChangeAt Go.RowKit

theorem flatD_get : ∀ (xs : List Wd) (j : Nat) (x : Wd) (i : Nat), i < 4 → xs[j]? = some x → (xs.flatMap wrowD)[j * 4 + i]? = (wrowD x)[i]?
 | [], j, x, i, hi, h => by simp at h
 | a :: t, 0, x, i, hi, h => by
  have : a = x := by simpa using h
  subst this
  rw [List.flatMap_cons, List.getElem?_append_left (by simp [wrowD]; omega)]; simp
 | a :: t, j + 1, x, i, hi, h => by
  have hl : (wrowD a).length = 4 := rfl
  rw [List.flatMap_cons, List.getElem?_append_right (by rw [hl]; omega), hl, show (j + 1) * 4 + i - 4 = j * 4 + i by omega]
  exact flatD_get t j x i hi (by simpa using h)
theorem ownD_held {w : World} {base : Nat} {v : Value} {xs : List Wd} (h : OwnD w base v xs) : ∃ ad c, v = .slice ad xs.length c ∧ HeldW w ad xs ∧ xs.length ≤ c := by
 obtain ⟨hl, ⟨rfl, h0⟩ | ⟨g, cap, cur, rfl, hg, hh, h3, h4, h5, h6⟩⟩ := h
 ·exact ⟨none, 0, by rw [h0], .inl (List.eq_nil_of_length_eq_zero h0), by omega⟩
 ·refine ⟨_, cap, rfl, .inr ⟨g, rfl, fun j x hj => ?_⟩, h3⟩
  have hjl := (List.getElem?_eq_some_iff.1 hj).1
  have key : ∀ i, i < 4 → w.cell? ⟨g, j * 4 + i, none⟩ = (wrowD x)[i]? := fun i hi => by
   have e := flatD_get xs j x i hi hj
   rw [← h6, List.getElem?_take, if_pos (by omega)] at e
   simp only [World.cell?, hh]
   rw [← e]
   simp
  exact ⟨key 0 (by omega), key 1 (by omega), key 2 (by omega), key 3 (by omega)⟩
set_option maxHeartbeats 2000000 in
theorem clone_any (s : ByteArray) (w : World) (hs : s.size ≤ 1048576) :
  Calls Tryz.prog 101 #[.string s] w fun e w' => e = .returned (.string s) ∧ Below w.heap.size w w' := by
 have h := stringslite_Clone s w (by omega)
 go_enter Tryz.func101, Tryz.ntmps101
 go_wp2_with fail
 refine h.mono ?_
 rintro e w1 ⟨rfl, hb⟩
 go_wp2_with fail
 go_ret
 exact ⟨rfl, hb⟩
def DAns (a : List Wd × (Nat × Nat) × Int) (e : Ending) (w' : World) : Prop := LAns a e w'
theorem dans_err (pl pc : Nat) (er : Int) (w' : World) : DAns ([], (pl, pc), er) (.returned (.tuple #[.slice none 0 0, .agg #[.int .i64 (pl : Int), .int .i64 (pc : Int)], .int .i64 er])) w' :=
 ⟨none, 0, _, _, rfl, .inl rfl, Nat.le_refl _, fun _ => ⟨rfl, rfl⟩⟩
set_option maxHeartbeats 8000000 in
set_option maxRecDepth 20000 in
theorem wordsD_any (s : ByteArray) (w : World) (hE : Errs w) (hs : s.size ≤ 9223372036854775807) :
  Calls Tryz.prog 73 #[.string s] w fun e w' => DAns (wordsL s.data.toList) e w' ∧ Below w.heap.size w w' := by
 by_cases h2 : s.size ≤ 20000
 ·have h2' : ¬ (20000 : Int) < (s.size : Int) := by omega
  have HW : Hid (wordsL s.data.toList = lexL s.size s.data.toList 1 1 []) := by
   refine (?_ : _ = _)
   unfold wordsL; rw [if_neg (by rw [len_data]; omega), len_data]
  have HE : Hid (Errs w) := hE
  clear hE hs
  have HL : Hid (s.data.toList.length = s.size) := len_data s
  obtain ⟨ANS, hANS⟩ : ∃ a, wordsL s.data.toList = a := ⟨_, rfl⟩
  rw [hANS] at HW ⊢
  clear hANS
  go_enter Tryz.func73, Tryz.ntmps73
  go_wp2_with fail
  go_loopw [6, 7] (fun v en wr => ∃ (p e line col c f : Nat) (acc : List Wd), en = .int .i64 (e : Int) ∧ Sd w wr w.heap.size s p line col v acc ∧ Gap s.data.toList c p e ∧ p ≤ s.size ∧ e ≤ s.size ∧ s.size ≤ e + f ∧ line ≤ p + 1 ∧ col ≤ p + 1 ∧ acc.length ≤ 4000 ∧ ANS = lexL f (s.data.toList.drop e) line (col + c) acc) (fun _ _ wr => s.size - wr.iterPos (w.heap.size + 2))
  case atStart => exact ⟨0, 0, 1, 1, 0, s.size, [], rfl, Sd.start w s, rfl, by omega, by omega, by omega, by omega, by omega, by simp, by rw [List.drop_zero]; exact HW.out⟩
  case round =>
   obtain ⟨p, e, line, col, c, f, acc, rfl, hSd, hG, hps, hes, hf, hln, hcl, hac, hans⟩ := hrel
   have HA : Hid (ANS = lexL f (s.data.toList.drop e) line (col + c) acc) := hans
   have HG : Hid (Gap s.data.toList c p e) := hG
   obtain ⟨oa, oc, rfl⟩ := ownD_slice hSd.own
   have HS : Hid (Sd w wr w.heap.size s p line col (.slice oa acc.length oc) acc) := hSd
   have hpe : p + c ≤ e := hG.le
   have hit := hSd.it
   have hm0 : wr.iterPos (w.heap.size + 2) = p := by simp [World.iterPos, hit]
   have HM : Hid (wr.iterPos (w.heap.size + 2) = p) := hm0
   clear hans hG hSd hm0
   by_cases hp : p < s.size
   ·have hnx : ∀ ty, (Instr.next (.pointer (some ⟨w.heap.size + 2, 0, none⟩)) true ty).run Tryz.prog wr = _ := fun ty => Lib.run_next_any_at wr (w.heap.size + 2) s p ty hit hp
    have hne : s.data.toList.drop p ≠ [] := drop_some (by rw [HL.out]; exact hp)
    have hdd : Lib.decodeL (s.data.toList.drop p) = Utf8.decode s p := Lib.decodeL_drop s p
    have hrn := rn_nx _ hne
    have hwl := nx_width _ hne
    have hwd : (nx (s.data.toList.drop p)).2 = (Utf8.decode s p).2 := by rw [← hrn.2, hdd]
    rw [List.length_drop, HL.out, hwd] at hwl
    have HRN : Hid (rn (s.data.toList.drop p) = ((Utf8.decode s p).1 : Int)) := by refine (?_ : _ = _); unfold rn; rw [hdd]
    have HWD : Hid ((nx (s.data.toList.drop p)).2 = (Utf8.decode s p).2) := hwd
    have HS1 : Hid (Sd w (wr.iterAt (w.heap.size + 2) s (p + (Utf8.decode s p).2)) w.heap.size s (p + (Utf8.decode s p).2) line col (.slice oa acc.length oc) acc) := HS.out.next _
    clear hrn hdd hwd HS hit
    generalize (Utf8.decode s p).2 = wd at *
    generalize ((Utf8.decode s p).1 : Int) = r at *
    generalize wr.iterAt (w.heap.size + 2) s (p + wd) = wi at *
    obtain ⟨p0, p1, fz0, fz1, a0, a1, fa0, fa1⟩ := HS1.out.cells
    by_cases hin : p < e
    ·have hge : ¬ (e : Int) ≤ (p : Int) := by omega
     have hc1 : ∃ c', c = c' + 1 := by
      cases c with
      | zero => have : p = e := HG.out; omega
      | succ c => exact ⟨c, rfl⟩
     obtain ⟨c, rfl⟩ := hc1
     have h10 : r ≠ 10 := by
      have := HG.out.2.1
      rw [← HRN.out]
      exact fun h => this ((rn_is _ hne 10 (by omega) (by omega)).1 h)
     have HG2 : Hid (Gap s.data.toList c (p + wd) e) := by have := HG.out.2.2; rw [HWD.out] at this; exact this
     have hBe := behindL_any line col r wi (by omega) (by omega)
     rw [if_neg h10, if_neg h10] at hBe
     have HX : Hid (ANS = lexL f (s.data.toList.drop e) line (col + 1 + c) acc) := by
      refine (?_ : _ = _)
      rw [HA.out]; congr 1; omega
     clear HA HG HRN hne h10 a0 a1 fa0 fa1
     go_wp2_with fail
     refine hBe.mono ?_
     rintro e2 W2 ⟨rfl, hb2⟩
     have HS2 : Hid (Sd w W2 w.heap.size s (p + wd) line col (.slice oa acc.length oc) acc) := HS1.out.old hb2
     obtain ⟨q0, q1, qf0, qf1, _, _, _, _⟩ := HS2.out.cells
     have HS3 := HS2.out.place line (col + 1)
     clear hBe hb2 p0 p1 fz0 fz1
     go_wp2_with fail
     go_roundw
     case rel => exact ⟨p + wd, e, line, col + 1, c, f, acc, rfl, HS3, HG2.out, by omega, by omega, by omega, by omega, by omega, by omega, HX.out⟩
     case measure => exact Nat.lt_of_le_of_lt (Nat.le_of_eq (congrArg (fun z => s.size - z) HS3.iterPos)) (by rw [HM.out]; omega)
    ·obtain rfl : c = 0 := by omega
     obtain rfl : p = e := by omega
     have hge : (p : Int) ≤ (p : Int) := by omega
     obtain ⟨f, rfl⟩ : ∃ f', f = f' + 1 := ⟨f - 1, by omega⟩
     have HLT := Lib.hid (lex_take f (s.data.toList.drop p) line col acc hne)
     have hE1 : Errs wi := errs_below HE.out HS1.out.below
     have hxd : (s.extract p s.size).data.toList = s.data.toList.drop p := Lib.extract_to_end s p
     have hxs : (s.extract p s.size).size ≤ 1048576 := by rw [← len_data, hxd, List.length_drop, HL.out]; omega
     have hTk := takeD_any (s.extract p s.size) r wi hE1 hxs (by rw [hxd]; exact hne) (by rw [hxd]; exact HRN.out)
     rw [hxd] at hTk
     have htl : p + (takeL (s.data.toList.drop p)).2 ≤ s.size := by
      have := take_le _ hne; rw [List.length_drop, HL.out] at this; omega
     have HTX : Hid (∀ n, (s.data.toList.drop p).drop n = s.data.toList.drop (p + n)) := fun n => List.drop_drop
     have HEX : Hid (∀ n, (s.data.toList.drop p).take n = (s.extract p (p + n)).data.toList) := fun n => by
      rw [Lib.extract_data]; congr 1; omega
     have HGS : Hid (∀ c n, Gap (s.data.toList.drop p) (c + 1) 0 n → Gap s.data.toList c (p + wd) (p + n)) := fun c n h => by
      have h' := h.shift.2.2
      simp only [Nat.add_zero] at h'
      rw [HWD.out] at h'
      exact h'
     have HW10 : Hid (r = 10 → wd = 1) := fun h => by
      rw [← HWD.out]
      have h10 := (rn_is _ hne 10 (by omega) (by omega)).1 (HRN.out.trans h)
      exact width_ascii _ hne (by omega) (by omega)
     have HA' : Hid (ANS = lexL (f + 1) (s.data.toList.drop p) line col acc) := HA.out
     have hrnv := HRN.out
     rw [hrnv] at HLT
     clear HA HG HRN HWD hxd hxs hE1 hne hrnv
     generalize (takeL (s.data.toList.drop p)) = kn at *
     obtain ⟨k, n⟩ := kn
     have hw1 : IntKind.i64.wrap ((p : Int) + (n : Int)) = ((p + n : Nat) : Int) := by rw [IntKind.wrap_i64]; have : p + n ≤ s.size := htl; omega
     have htl : p + n ≤ s.size := htl
     have hTk : Calls Tryz.prog 110 #[.string (s.extract p s.size), .int .i32 r] wi fun e w' => e = .returned (.tuple #[.int .i64 k, .int .i64 (n : Int)]) ∧ Below wi.heap.size wi w' := hTk
     rcases HLT.out with ⟨h0, hlex⟩ | ⟨hkn, hr10, hlex⟩ | ⟨hk0, hn1, hr10, c, hgap, hlex⟩ | ⟨hk0, hn1, hr10, c, hgap, hlex⟩
     ·obtain rfl : n = 0 := h0
      obtain rfl : ANS = ([], (line, col), 6) := by rw [HA'.out]; exact hlex
      clear HLT hlex p0 p1 fz0 fz1 a0 a1 fa0 fa1
      go_wp2_with fail
      refine hTk.mono ?_
      rintro e2 W2 ⟨rfl, hb2⟩
      have HS2 : Hid (Sd w W2 w.heap.size s (p + wd) line col (.slice oa acc.length oc) acc) := HS1.out.old hb2
      obtain ⟨p0, p1, fz0, fz1, a0, a1, fa0, fa1⟩ := HS2.out.cells
      obtain ⟨r0, r1, _, hB⟩ := HS2.out.final (.int .i64 (line : Int)) (.int .i64 (col : Int))
      clear hTk hb2
      go_wp2_with fail
      go_region
      all_goals
       go_wp2_with fail
       refine bodyPost_ret (v := .tuple #[.slice none 0 0, .agg #[.int .i64 (line : Int), .int .i64 (col : Int)], .int .i64 6]) (by simp [results, Tryz.results73, go_sem, r0, r1]) rfl ⟨dans_err _ _ _ _, hB.drew⟩
     ·obtain ⟨rfl, rfl⟩ : k = 0 ∧ n = 1 := by have := hkn; simp only [Prod.mk.injEq] at this; exact this
      obtain rfl : r = 10 := hr10
      have hwd1 := (HW10.out rfl).symm
      subst hwd1
      have HX : Hid (ANS = lexL f (s.data.toList.drop (p + 1)) (line + 1) (1 + 0) acc) := by
       refine (?_ : _ = _)
       rw [HA'.out, hlex, HTX.out]
      clear HLT hlex hkn p0 p1 fz0 fz1 a0 a1 fa0 fa1
      go_wp2_with fail
      refine hTk.mono ?_
      rintro e2 W2 ⟨rfl, hb2⟩
      have HS2 : Hid (Sd w W2 w.heap.size s (p + 1) line col (.slice oa acc.length oc) acc) := HS1.out.old hb2
      obtain ⟨p0, p1, fz0, fz1, a0, a1, fa0, fa1⟩ := HS2.out.cells
      have hBe := behindL_any line col 10 W2 (by omega) (by omega)
      rw [if_pos rfl, if_pos rfl] at hBe
      clear hTk hb2
      go_wp2_with fail
      refine hBe.mono ?_
      rintro e3 W3 ⟨rfl, hb3⟩
      have HS3 : Hid (Sd w W3 w.heap.size s (p + 1) line col (.slice oa acc.length oc) acc) := HS2.out.old hb3
      obtain ⟨q0, q1, qf0, qf1, _, _, _, _⟩ := HS3.out.cells
      have HS4 := HS3.out.place (line + 1) 1
      clear hBe hb3 p0 p1 fz0 fz1 a0 a1 fa0 fa1
      go_wp2_with fail
      go_roundw
      case rel => exact ⟨p + 1, p + 1, line + 1, 1, 0, f, acc, rfl, HS4, rfl, by omega, by omega, by omega, by omega, by omega, by omega, HX.out⟩
      case measure => exact Nat.lt_of_le_of_lt (Nat.le_of_eq (congrArg (fun z => s.size - z) HS4.iterPos)) (by rw [HM.out]; omega)
     ·obtain rfl : k = 0 := hk0
      have h10 : r ≠ 10 := hr10
      have hn1 : 1 ≤ n := hn1
      have HG2 : Hid (Gap s.data.toList c (p + wd) (p + n)) := HGS.out c n hgap
      have hn0 : ((n : Int) == 0) = false := beq_eq_false_iff_ne.2 (by omega)
      have HX : Hid (ANS = lexL f (s.data.toList.drop (p + n)) line (col + 1 + c) acc) := by
       refine (?_ : _ = _)
       rw [HA'.out, hlex, HTX.out]; congr 1; omega
      clear HLT hlex hr10 hgap HGS p0 p1 fz0 fz1 a0 a1 fa0 fa1
      go_wp2_with fail
      refine hTk.mono ?_
      rintro e2 W2 ⟨rfl, hb2⟩
      have HS2 : Hid (Sd w W2 w.heap.size s (p + wd) line col (.slice oa acc.length oc) acc) := HS1.out.old hb2
      obtain ⟨p0, p1, fz0, fz1, a0, a1, fa0, fa1⟩ := HS2.out.cells
      have hBe := behindL_any line col r W2 (by omega) (by omega)
      rw [if_neg h10, if_neg h10] at hBe
      clear hTk hb2 h10
      go_wp2_with fail
      refine hBe.mono ?_
      rintro e3 W3 ⟨rfl, hb3⟩
      have HS3 : Hid (Sd w W3 w.heap.size s (p + wd) line col (.slice oa acc.length oc) acc) := HS2.out.old hb3
      obtain ⟨q0, q1, qf0, qf1, _, _, _, _⟩ := HS3.out.cells
      have HS4 := HS3.out.place line (col + 1)
      clear hBe hb3 p0 p1 fz0 fz1 a0 a1 fa0 fa1
      go_wp2_with fail
      go_roundw
      case rel => exact ⟨p + wd, p + n, line, col + 1, c, f, acc, rfl, HS4, HG2.out, by omega, by omega, by omega, by omega, by omega, by omega, HX.out⟩
      case measure => exact Nat.lt_of_le_of_lt (Nat.le_of_eq (congrArg (fun z => s.size - z) HS4.iterPos)) (by rw [HM.out]; omega)
     ·have hk0 : (k == 0) = false := beq_eq_false_iff_ne.2 hk0
      have h10 : r ≠ 10 := hr10
      have hn1 : 1 ≤ n := hn1
      have hn0 : ((n : Int) == 0) = false := beq_eq_false_iff_ne.2 (by omega)
      by_cases hac4 : acc.length = 4000
      ·obtain rfl : ANS = ([], (line, col), 4) := by rw [HA'.out, hlex, if_pos hac4]
       have h4 : ((acc.length : Int) == 4000) = true := by rw [beq_iff_eq]; omega
       clear HLT hlex hr10 hgap HGS p0 p1 fz0 fz1 a0 a1 fa0 fa1 hac4
       go_wp2_with fail
       refine hTk.mono ?_
       rintro e2 W2 ⟨rfl, hb2⟩
       have HS2 : Hid (Sd w W2 w.heap.size s (p + wd) line col (.slice oa acc.length oc) acc) := HS1.out.old hb2
       obtain ⟨p0, p1, fz0, fz1, a0, a1, fa0, fa1⟩ := HS2.out.cells
       obtain ⟨r0, r1, _, hB⟩ := HS2.out.final (.int .i64 (line : Int)) (.int .i64 (col : Int))
       clear hTk hb2
       go_wp2_with fail
       go_region
       all_goals
        go_wp2_with fail
        refine bodyPost_ret (v := .tuple #[.slice none 0 0, .agg #[.int .i64 (line : Int), .int .i64 (col : Int)], .int .i64 4]) (by simp [results, Tryz.results73, go_sem, r0, r1]) rfl ⟨dans_err _ _ _ _, hB.drew⟩
      ·have h4 : ((acc.length : Int) == 4000) = false := beq_eq_false_iff_ne.2 (by omega)
       have HG2 : Hid (Gap s.data.toList c (p + wd) (p + n)) := HGS.out c n hgap
       obtain ⟨tx, htx⟩ : ∃ tx, s.extract p (p + n) = tx := ⟨_, rfl⟩
       have htxs : tx.size ≤ 1048576 := by
        rw [← htx, ← len_data, ← HEX.out, List.length_take, List.length_drop, HL.out]; omega
       have HX : Hid (ANS = lexL f (s.data.toList.drop (p + n)) line (col + 1 + c) (acc ++ [Wd.mk k tx.data.toList line col])) := by
        refine (?_ : _ = _)
        rw [HA'.out, hlex, if_neg hac4, HTX.out]
        show lexL f _ line (col + (c + 1)) (acc ++ [Wd.mk k ((s.data.toList.drop p).take n) line col]) = _
        rw [HEX.out n, htx]; congr 1; omega
       have hCl := fun W => clone_any tx W htxs
       have hBe' := fun W => behindL_any line col r W (by omega) (by omega)
       rw [if_neg h10, if_neg h10] at hBe'
       clear HLT hlex hr10 hgap HGS p0 p1 fz0 fz1 a0 a1 fa0 fa1 htxs h10
       go_wp2_with fail
       refine hTk.mono ?_
       rintro e2 W2 ⟨rfl, hb2⟩
       have HS2 : Hid (Sd w W2 w.heap.size s (p + wd) line col (.slice oa acc.length oc) acc) := HS1.out.old hb2
       obtain ⟨p0, p1, fz0, fz1, a0, a1, fa0, fa1⟩ := HS2.out.cells
       clear hTk hb2
       have hsl : ∀ W, (Instr.slice 9 (.string s) (some (.int .i64 (p : Int))) (some (.int .i64 ((p : Int) + (n : Int)))) none).run Tryz.prog W = .ok (.string tx) W := fun W => by
        rw [run_slice_string (P := Tryz.prog) W 9 s .i64 .i64 (p : Int) ((p : Int) + (n : Int)) Tryz.underlying9 (by omega) (by omega) (by omega), ← htx]
        congr 3
       go_wp2_with fail
       go_region_held_law (fun W => W.cell? ⟨w.heap.size + 1, 0, none⟩ = some (.int .i64 (line : Int)) ∧ W.cell? ⟨w.heap.size + 1, 1, none⟩ = some (.int .i64 (col : Int)))
        (first
         | exact ⟨hS6.cells.1, hS6.cells.2.1⟩
         | exact ⟨(hS5.alloc _).cells.1, (hS5.alloc _).cells.2.1⟩
         | exact ⟨hS5.cells.1, hS5.cells.2.1⟩
         | exact ⟨p0, p1⟩)
        (first
         | (go_at_call 101; refine (hCl _).mono ?_; rintro e5 W5 ⟨rfl, hb5⟩; have hS5 := HS2.out.drew.old hb5)
         | (refine hS5.push (Wd.mk k tx.data.toList line col) rfl _ _ rfl _ rfl rfl rfl (by omega) ?_; intro g cap W6 hS6))
       all_goals
        clear p0 p1 fz0 fz1 a0 a1 fa0 fa1
        obtain ⟨p0, p1, fz0, fz1, a0, a1, fa0, fa1⟩ := hS6.cells
        have HS6 := Lib.hid hS6
        go_wp2_with fail
        refine (hBe' _).mono ?_
        rintro e7 W7 ⟨rfl, hb7⟩
        have HS7 := Lib.hid (HS6.out.old hb7)
        obtain ⟨q0, q1, qf0, qf1, _, _, _, _⟩ := HS7.out.cells
        have HS8 := HS7.out.place line (col + 1)
        clear hBe' hb7 hS5 hS6 hb5 p0 p1 fz0 fz1 a0 a1 fa0 fa1
        go_wp2_with fail
        go_roundw
        case rel => exact ⟨p + wd, p + n, line, col + 1, c, f, acc ++ [Wd.mk k tx.data.toList line col], rfl, HS8, HG2.out, by omega, by omega, by omega, by omega, by omega, by simp; omega, HX.out⟩
        case measure => exact Nat.lt_of_le_of_lt (Nat.le_of_eq (congrArg (fun z => s.size - z) HS8.iterPos)) (by rw [HM.out]; omega)
   ·have hnx : ∀ ty, (Instr.next (.pointer (some ⟨w.heap.size + 2, 0, none⟩)) true ty).run Tryz.prog wr = _ := fun ty => Lib.run_next_end_at wr (w.heap.size + 2) s p ty hit hp
    obtain rfl : c = 0 := by omega
    obtain rfl : p = e := by omega
    have HEN : Hid (ANS = (acc, (0, 0), 0)) := by
     refine (?_ : _ = _)
     rw [HA.out, List.drop_eq_nil_of_le (by rw [HL.out]; omega), lexL_end]
    obtain ⟨p0, p1, fz0, fz1, a0, a1, fa0, fa1⟩ := HS.out.cells
    obtain ⟨r0, r1, hO, hB⟩ := HS.out.final (.int .i64 0) (.int .i64 0)
    have HO := Lib.hid hO
    clear HA hO
    go_wp2_with fail
    refine bodyPost_ret (v := .tuple #[.slice oa acc.length oc, .agg #[.int .i64 0, .int .i64 0], .int .i64 0]) (by simp [results, Tryz.results73, go_sem, r0, r1]) rfl ⟨?_, hB⟩
    obtain ⟨ad, cc, he, hh, hl⟩ := ownD_held HO.out
    rw [HEN.out]
    refine ⟨ad, cc, 0, 0, by rw [he], hh, hl, fun h => absurd rfl h⟩
 ·have h2' : (20000 : Int) < (s.size : Int) := by omega
  have HW : Hid (wordsL s.data.toList = ([], (1, 1), 4)) := by
   refine (?_ : _ = _)
   unfold wordsL; rw [if_pos (by rw [len_data]; omega)]
  obtain ⟨ANS, hANS⟩ : ∃ a, wordsL s.data.toList = a := ⟨_, rfl⟩
  rw [hANS] at HW ⊢
  clear hANS
  have hz : ((w.alloc (.cells #[.int .i64 1, .int .i64 1] 31)).alloc (.cells #[.int .i64 1, .int .i64 1] 31)).drew.heap[w.heap.size]? = some (.cells #[.int .i64 1, .int .i64 1] 31 (0, 0)) := by
   show ((w.heap.push _).push _)[w.heap.size]? = _
   rw [Array.getElem?_push_lt (by simp)]; simp
  have hB : Below w.heap.size w ((w.alloc (.cells #[.int .i64 1, .int .i64 1] 31)).alloc (.cells #[.int .i64 1, .int .i64 1] 31)).drew := (((Below.refl _ w).alloc (Nat.le_refl _) _).alloc (by simp) _).drew
  have HZ := Lib.hid hz
  clear hz
  go_enter Tryz.func73, Tryz.ntmps73
  go_wp2_with fail
  go_region
  all_goals
   go_wp2_with fail
   generalize ((w.alloc (.cells #[.int .i64 1, .int .i64 1] 31)).alloc (.cells #[.int .i64 1, .int .i64 1] 31)).drew = W at *
   have r0 := cell_at HZ.out 0 rfl
   have r1 := cell_at HZ.out 1 rfl
   refine bodyPost_ret (v := .tuple #[.slice none 0 0, .agg #[.int .i64 1, .int .i64 1], .int .i64 4]) (by simp [results, Tryz.results73, go_sem, r0, r1]) rfl ⟨?_, hB⟩
   rw [HW.out]
   exact dans_err 1 1 4 _
end Go.Proofs.YtpojeinddnjpfaaGreatDoor
namespace Go.Proofs.YtpojeinddnjpfaaGreatDoor
set_option linter.unusedVariables false
open Go.ChangeShapes Go.WideShapes Go.ChangeAt Go.RowKit

theorem cloneB_any (s : ByteArray) (w : World) (hs : s.size ≤ 281474976710656) :
  Calls Tryz.prog 101 #[.string s] w fun e w' => e = .returned (.string s) ∧ Below w.heap.size w w' := by
 have h := stringslite_Clone s w hs
 go_enter Tryz.func101, Tryz.ntmps101
 go_wp2_with fail
 refine h.mono ?_
 rintro e w1 ⟨rfl, hb⟩
 go_wp2_with fail
 go_ret
 exact ⟨rfl, hb⟩
end Go.Proofs.YtpojeinddnjpfaaGreatDoor
namespace Go.Proofs.YtpojeinddnjpfaaGreatDoor
set_option linter.unusedVariables false
open Go.ChangeShapes Go.WideShapes Go.ChangeAt Go.RowKit

def TxtD : Nat → List Dc → Prop
 | 0, _ => True
 | f + 1, ds => ∀ d ∈ ds, d.name.length ≤ 200000000 ∧ (∀ x ∈ d.fields, x.type.length ≤ 200000000 ∧ x.name.length ≤ 200000000) ∧ (∀ x ∈ d.values, x.name.length ≤ 200000000) ∧ (∀ x ∈ d.methods, x.name.length ≤ 200000000 ∧ x.inp.length ≤ 200000000 ∧ x.out.length ≤ 200000000) ∧ TxtD f d.inner
end Go.Proofs.YtpojeinddnjpfaaGreatDoor
namespace Go.Proofs.YtpojeinddnjpfaaGreatDoor
set_option linter.unusedVariables false

section
variable {en : Int × Int} {r : Rd}
/-! a path's names are its pieces -/
theorem no_dot {t : List UInt8} (h : nameOf (runes ⟨t.toArray⟩) = true) : (46 : UInt8) ∉ t := by
 rw [name_bytes t h]
 intro hm
 unfold encL at hm
 obtain ⟨r, hr, hb⟩ := List.mem_flatMap.1 hm
 have hn := name_all h r hr
 have htw := two_of_name hn
 unfold two at htw
 by_cases h1 : r ≤ 127
 ·rw [enc_small r htw.1 h1] at hb
  have e : (46 : UInt8) = UInt8.ofNat r.toNat := by simpa using hb
  have e2 : (46 : Nat) = r.toNat % 256 := by
   have := congrArg UInt8.toNat e
   simpa using this
  have : r = 46 := by omega
  subst this
  revert hn; decide
 ·rw [enc_two r (by omega) htw.2] at hb
  simp only [List.mem_cons, List.not_mem_nil, or_false] at hb
  rcases hb with e | e
  ·have := congrArg UInt8.toNat e
   simp only [UInt8.toNat_ofNat'] at this
   have e3 : (46 : UInt8).toNat = 46 := rfl
   omega
  ·have := congrArg UInt8.toNat e
   simp only [UInt8.toNat_ofNat'] at this
   have e3 : (46 : UInt8).toNat = 46 := rfl
   omega
end
end Go.Proofs.YtpojeinddnjpfaaGreatDoor
namespace Go.Proofs.YtpojeinddnjpfaaGreatDoor
set_option linter.unusedVariables false

abbrev Sy := List UInt8 × Int
def allL : Nat → List UInt8 → List Dc → List Sy
 | 0, _, _ => []
 | f + 1, a, ds => ds.flatMap fun d => (a ++ d.name, d.kind) :: allL f (a ++ d.name ++ [46]) d.inner
theorem allL_cons (f : Nat) (a : List UInt8) (d : Dc) (t : List Dc) : allL (f + 1) a (d :: t) = (a ++ d.name, d.kind) :: (allL f (a ++ d.name ++ [46]) d.inner ++ allL (f + 1) a t) := by
 rw [allL, allL, List.flatMap_cons, List.cons_append]
theorem allL_snoc (f : Nat) (a : List UInt8) (d : Dc) (t : List Dc) : allL (f + 1) a (t ++ [d]) = allL (f + 1) a t ++ [(a ++ d.name, d.kind)] ++ allL f (a ++ d.name ++ [46]) d.inner := by
 rw [allL, allL, List.flatMap_append, List.flatMap_cons, List.flatMap_nil]; simp
def wantL (sc nm : List UInt8) : List UInt8 := if sc = [] then nm else sc ++ 46 :: nm
def firstL (l : List Sy) (n : List UInt8) : Option Sy := l.find? fun s => decide (s.1 = n)
def meant (s : Sy) : Bool := decide (s.2 = 1 ∨ s.2 = 2)
def innerL (l : List Sy) (sc nm : List UInt8) : Option Sy := (firstL l (wantL sc nm)).filter meant
def walkL (l : List Sy) : Sy → List (List UInt8) → Option Sy
 | x, [] => some x
 | x, n :: t => match innerL l x.1 n with
  | some y => walkL l y t
  | none => none
def upL (s : List UInt8) : List UInt8 := ((s.reverse.dropWhile fun b => decide (b ≠ 46)).drop 1).reverse
def climbL (l : List Sy) (n0 : List UInt8) (ns : List (List UInt8)) : Nat → List UInt8 → Option Sy
 | 0, sc => none
 | k + 1, sc => match innerL l sc n0 with
  | some x => walkL l x ns
  | none => if sc = [] then none else climbL l n0 ns k (upL sc)
def thereL (l : List Sy) (sc : List UInt8) : Bool := decide (sc = []) || ((firstL l sc).any fun s => decide (s.2 = 1))
def findN (l : List Sy) (sc : List UInt8) : List (List UInt8) → Option Sy
 | [] => none
 | n0 :: ns => climbL l n0 ns (sc.length + 1) sc
def findL (l : List Sy) (sc path : List UInt8) : Option Sy := if pathOK path = true then (if thereL l sc = true then findN l sc (pcs [] path) else none) else none
theorem upL_short (s : List UInt8) (h : s ≠ []) : (upL s).length < s.length := by
 unfold upL
 rw [List.length_reverse, List.length_drop]
 have h1 : (s.reverse.dropWhile fun b => decide (b ≠ 46)).length ≤ s.length := by
  have := (List.dropWhile_sublist (fun b : UInt8 => decide (b ≠ 46)) (l := s.reverse)).length_le
  simpa using this
 have : 0 < s.length := List.length_pos_iff.2 h
 omega
theorem climbL_succ (l : List Sy) (n0 : List UInt8) (ns : List (List UInt8)) (k : Nat) (sc : List UInt8) : climbL l n0 ns (k + 1) sc = match innerL l sc n0 with
  | some x => walkL l x ns
  | none => if sc = [] then none else climbL l n0 ns k (upL sc) := rfl
theorem climb_one (l : List Sy) (n0 : List UInt8) (ns : List (List UInt8)) : ∀ (k : Nat) (sc : List UInt8), sc.length < k → climbL l n0 ns (k + 1) sc = climbL l n0 ns k sc := by
 intro k
 induction k with
 | zero => intro sc h; omega
 | succ k ih =>
  intro sc h
  rw [climbL_succ l n0 ns (k + 1) sc, climbL_succ l n0 ns k sc]
  cases innerL l sc n0 with
  | some x => rfl
  | none =>
   dsimp only
   by_cases h0 : sc = []
   ·rw [if_pos h0, if_pos h0]
   ·rw [if_neg h0, if_neg h0]
    have hs := upL_short sc h0
    exact ih (upL sc) (by omega)
theorem climb_more (l : List Sy) (n0 : List UInt8) (ns : List (List UInt8)) (sc : List UInt8) : ∀ k : Nat, sc.length < k → climbL l n0 ns k sc = climbL l n0 ns (sc.length + 1) sc := by
 intro k
 induction k with
 | zero => intro h; omega
 | succ k ih =>
  intro h
  by_cases he : k = sc.length
  ·rw [he]
  ·rw [climb_one l n0 ns k sc (by omega), ih (by omega)]
theorem climb_step (l : List Sy) (n0 : List UInt8) (ns : List (List UInt8)) (sc : List UInt8) : climbL l n0 ns (sc.length + 1) sc = match innerL l sc n0 with
  | some x => walkL l x ns
  | none => if sc = [] then none else climbL l n0 ns ((upL sc).length + 1) (upL sc) := by
 rw [climbL]
 cases innerL l sc n0 with
 | some x => rfl
 | none =>
  dsimp only
  by_cases h0 : sc = []
  ·rw [if_pos h0, if_pos h0]
  ·rw [if_neg h0, if_neg h0]
   exact climb_more l n0 ns (upL sc) _ (upL_short sc h0)

/-! P7.2: a whole name means itself -/
def Apart (l : List Sy) : Prop := ∀ (i j : Nat) (x y : Sy), l[i]? = some x → l[j]? = some y → x.1 = y.1 → i = j
theorem first_apart {l : List Sy} (h : Apart l) {x : Sy} (hx : x ∈ l) : firstL l x.1 = some x := by
 obtain ⟨j, hj⟩ := List.getElem?_of_mem hx
 cases hf : firstL l x.1 with
 | none =>
  unfold firstL at hf
  rw [List.find?_eq_none] at hf
  exact absurd (by simp) (hf x hx)
 | some y =>
  have h1 : y.1 = x.1 := by
   have := List.find?_some hf
   simpa using this
  obtain ⟨i, hi⟩ := List.getElem?_of_mem (List.mem_of_find?_eq_some hf)
  have := h i j y x hi hj h1
  subst this
  rw [hi] at hj
  exact hj
end Go.Proofs.YtpojeinddnjpfaaGreatDoor
