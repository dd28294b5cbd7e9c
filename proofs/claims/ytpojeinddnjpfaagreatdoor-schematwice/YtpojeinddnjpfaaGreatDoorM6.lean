/-
  The walks over the program's own fieldType and bracketed of a reader.
  The walk over the program's own head of a reader.
-/
import Derived.Test.YtpojeinddnjpfaaGreatDoorM5
import Derived.Deep.RegionWith
namespace Go.Proofs.YtpojeinddnjpfaaGreatDoor
set_option linter.unusedVariables false
open Go.ChangeShapes Go.WideShapes Go.ChangeAt Go.RowKit

theorem Rd.scal_text {r : Rd} (he : r.e = 0) : r.isScal = decide (0 < scalarOf r.text) := by
 unfold Rd.isScal Rd.text
 rw [he]
 cases r.l with
 | nil => rfl
 | cons y l => simp
theorem scal_yes (t : List UInt8) (h : 0 < scalarOf t) : t = [105, 110, 116, 54, 52] ∨ t = [117, 105, 110, 116, 54, 52] ∨ t = [115, 105, 110, 116, 54, 52] ∨ t = [98, 111, 111, 108] ∨ t = [115, 116, 114, 105, 110, 103] ∨ t = [98, 121, 116, 101, 115] ∨ t = [102, 105, 120, 101, 100, 51, 50] ∨ t = [102, 105, 120, 101, 100, 54, 52] := by
 by_cases h0 : (t == [105, 110, 116, 54, 52]) = true
 ·have := eq_of_beq h0; simp [this]
 by_cases h1 : (t == [117, 105, 110, 116, 54, 52]) = true
 ·have := eq_of_beq h1; simp [this]
 by_cases h2 : (t == [115, 105, 110, 116, 54, 52]) = true
 ·have := eq_of_beq h2; simp [this]
 by_cases h3 : (t == [98, 111, 111, 108]) = true
 ·have := eq_of_beq h3; simp [this]
 by_cases h4 : (t == [115, 116, 114, 105, 110, 103]) = true
 ·have := eq_of_beq h4; simp [this]
 by_cases h5 : (t == [98, 121, 116, 101, 115]) = true
 ·have := eq_of_beq h5; simp [this]
 by_cases h6 : (t == [102, 105, 120, 101, 100, 51, 50]) = true
 ·have := eq_of_beq h6; simp [this]
 by_cases h7 : (t == [102, 105, 120, 101, 100, 54, 52]) = true
 ·have := eq_of_beq h7; simp [this]
 exfalso
 unfold scalarOf at h
 rw [if_neg h0, if_neg h1, if_neg h2, if_neg h3, if_neg h4, if_neg h5, if_neg h6, if_neg h7] at h
 exact absurd h (by decide)
theorem scal_no (t : List UInt8) (h : ¬ 0 < scalarOf t) : (t == [105, 110, 116, 54, 52]) = false ∧ (t == [117, 105, 110, 116, 54, 52]) = false ∧ (t == [115, 105, 110, 116, 54, 52]) = false ∧ (t == [98, 111, 111, 108]) = false ∧ (t == [115, 116, 114, 105, 110, 103]) = false ∧ (t == [98, 121, 116, 101, 115]) = false ∧ (t == [102, 105, 120, 101, 100, 51, 50]) = false ∧ (t == [102, 105, 120, 101, 100, 54, 52]) = false := by
 refine ⟨?_, ?_, ?_, ?_, ?_, ?_, ?_, ?_⟩
 all_goals
  apply Bool.eq_false_iff.2
  intro e
  have e := eq_of_beq e
  subst e
  exact h (by decide)
theorem set_same {cs : Array Value} {o : Nat} {x : Value} (h : cs[o]? = some x) : cs.setIfInBounds o x = cs := by
 apply Array.ext_getElem?
 intro i
 rw [Array.getElem?_setIfInBounds]
 by_cases hio : o = i
 ·subst hio
  have hlt := (Array.getElem?_eq_some_iff.1 h).1
  rw [if_pos rfl, if_pos hlt, h]
 ·rw [if_neg hio]
section
variable {w0 wx : World} {R : Nat} {en : Int × Int} {q : Rd} {D : Nat} {T : TypeId} {cs : Array Value}
set_option maxHeartbeats 8000000 in
set_option maxRecDepth 20000 in
theorem fieldTypeLv (h : Lv w0 wx R en q D T cs) (he : q.e = 0) (o : Nat) (ho : cs[o]? = some (.string ⟨#[]⟩)) :
  Calls Tryz.prog 215 #[.pointer (some ⟨R, 0, none⟩), .pointer (some ⟨D, o, none⟩)] wx fun x w' => ∃ p : List UInt8, x = .returned (.bool (decide ((q.typ en).2.e = 0))) ∧ ((q.typ en).2.e = 0 → p = (q.typ en).1) ∧ Lv w0 w' R en (q.typ en).2 D T (cs.setIfInBounds o (.string (mkB p))) := by
 have hTx := textD_any R en q wx h.rd
 have hst := Rd.scal_text he
 by_cases hi : q.isScal = true
 ·have ht1 : q.typ en = (q.text, q.tail) := by unfold Rd.typ; rw [if_pos hi]
  have htl : q.tail.e = 0 := he
  have hdd : decide (q.tail.e = 0) = true := decide_eq_true htl
  rw [ht1]
  simp only
  rw [hdd]
  rw [hi] at hst
  obtain ⟨d0, fd0⟩ := h.cell o
  rw [ho] at d0
  have HS := Lib.hid (h.set o (.string (mkB q.text)))
  have HIS : Hid (q.is q.text = true ∧ q.take en q.text = q.tail) := by
   refine (?_ : _ ∧ _)
   obtain ⟨y, l, hl, _, _⟩ := Rd.scal_head hi
   have h1 : q.is q.text = true := by unfold Rd.is Rd.text; rw [hl, he]; simp
   exact ⟨h1, by unfold Rd.take; rw [if_pos h1]⟩
  have hgt : 0 < scalarOf q.text := of_decide_eq_true hst.symm
  clear hst hi ht1 h hdd ho
  rcases scal_yes q.text hgt with ht | ht | ht | ht | ht | ht | ht | ht
  ·have b0 : ((mkB q.text).toList == [105, 110, 116, 54, 52]) = true := by rw [mkB_list, ht]; rfl
   have hW := fun W hW => wantLv (w0 := w0) (R := R) (en := en) (q := q) (D := D) (T := T) (cs := cs.setIfInBounds o (.string (mkB q.text))) (wx := W) hW he (mkB q.text) (by show q.text ≠ []; rw [ht]; decide)
   have eW : (mkB q.text).data.toList = q.text := rfl
   rw [eW, HIS.out.1, HIS.out.2] at hW
   clear ht hgt HIS eW
   generalize q.text = tx at *
   go_enter Tryz.func215, Tryz.ntmps215
   go_wp2_with fail
   refine hTx.mono ?_
   rintro e w9 ⟨rfl, h9⟩
   have h9 := h9.symm
   subst h9
   go_wp2_with fail
   refine (hW _ HS.out).mono ?_
   rintro e w2 ⟨rfl, h2⟩
   go_wp2_with fail
   go_ret
   exact ⟨tx, rfl, fun _ => rfl, h2⟩
  ·have b0 : ((mkB q.text).toList == [105, 110, 116, 54, 52]) = false := by rw [mkB_list, ht]; rfl
   have b1 : ((mkB q.text).toList == [117, 105, 110, 116, 54, 52]) = true := by rw [mkB_list, ht]; rfl
   have hW := fun W hW => wantLv (w0 := w0) (R := R) (en := en) (q := q) (D := D) (T := T) (cs := cs.setIfInBounds o (.string (mkB q.text))) (wx := W) hW he (mkB q.text) (by show q.text ≠ []; rw [ht]; decide)
   have eW : (mkB q.text).data.toList = q.text := rfl
   rw [eW, HIS.out.1, HIS.out.2] at hW
   clear ht hgt HIS eW
   generalize q.text = tx at *
   go_enter Tryz.func215, Tryz.ntmps215
   go_wp2_with fail
   refine hTx.mono ?_
   rintro e w9 ⟨rfl, h9⟩
   have h9 := h9.symm
   subst h9
   go_wp2_with fail
   refine (hW _ HS.out).mono ?_
   rintro e w2 ⟨rfl, h2⟩
   go_wp2_with fail
   go_ret
   exact ⟨tx, rfl, fun _ => rfl, h2⟩
  ·have b0 : ((mkB q.text).toList == [105, 110, 116, 54, 52]) = false := by rw [mkB_list, ht]; rfl
   have b1 : ((mkB q.text).toList == [117, 105, 110, 116, 54, 52]) = false := by rw [mkB_list, ht]; rfl
   have b2 : ((mkB q.text).toList == [115, 105, 110, 116, 54, 52]) = true := by rw [mkB_list, ht]; rfl
   have hW := fun W hW => wantLv (w0 := w0) (R := R) (en := en) (q := q) (D := D) (T := T) (cs := cs.setIfInBounds o (.string (mkB q.text))) (wx := W) hW he (mkB q.text) (by show q.text ≠ []; rw [ht]; decide)
   have eW : (mkB q.text).data.toList = q.text := rfl
   rw [eW, HIS.out.1, HIS.out.2] at hW
   clear ht hgt HIS eW
   generalize q.text = tx at *
   go_enter Tryz.func215, Tryz.ntmps215
   go_wp2_with fail
   refine hTx.mono ?_
   rintro e w9 ⟨rfl, h9⟩
   have h9 := h9.symm
   subst h9
   go_wp2_with fail
   refine (hW _ HS.out).mono ?_
   rintro e w2 ⟨rfl, h2⟩
   go_wp2_with fail
   go_ret
   exact ⟨tx, rfl, fun _ => rfl, h2⟩
  ·have b0 : ((mkB q.text).toList == [105, 110, 116, 54, 52]) = false := by rw [mkB_list, ht]; rfl
   have b1 : ((mkB q.text).toList == [117, 105, 110, 116, 54, 52]) = false := by rw [mkB_list, ht]; rfl
   have b2 : ((mkB q.text).toList == [115, 105, 110, 116, 54, 52]) = false := by rw [mkB_list, ht]; rfl
   have b3 : ((mkB q.text).toList == [98, 111, 111, 108]) = true := by rw [mkB_list, ht]; rfl
   have hW := fun W hW => wantLv (w0 := w0) (R := R) (en := en) (q := q) (D := D) (T := T) (cs := cs.setIfInBounds o (.string (mkB q.text))) (wx := W) hW he (mkB q.text) (by show q.text ≠ []; rw [ht]; decide)
   have eW : (mkB q.text).data.toList = q.text := rfl
   rw [eW, HIS.out.1, HIS.out.2] at hW
   clear ht hgt HIS eW
   generalize q.text = tx at *
   go_enter Tryz.func215, Tryz.ntmps215
   go_wp2_with fail
   refine hTx.mono ?_
   rintro e w9 ⟨rfl, h9⟩
   have h9 := h9.symm
   subst h9
   go_wp2_with fail
   refine (hW _ HS.out).mono ?_
   rintro e w2 ⟨rfl, h2⟩
   go_wp2_with fail
   go_ret
   exact ⟨tx, rfl, fun _ => rfl, h2⟩
  ·have b0 : ((mkB q.text).toList == [105, 110, 116, 54, 52]) = false := by rw [mkB_list, ht]; rfl
   have b1 : ((mkB q.text).toList == [117, 105, 110, 116, 54, 52]) = false := by rw [mkB_list, ht]; rfl
   have b2 : ((mkB q.text).toList == [115, 105, 110, 116, 54, 52]) = false := by rw [mkB_list, ht]; rfl
   have b3 : ((mkB q.text).toList == [98, 111, 111, 108]) = false := by rw [mkB_list, ht]; rfl
   have b4 : ((mkB q.text).toList == [115, 116, 114, 105, 110, 103]) = true := by rw [mkB_list, ht]; rfl
   have hW := fun W hW => wantLv (w0 := w0) (R := R) (en := en) (q := q) (D := D) (T := T) (cs := cs.setIfInBounds o (.string (mkB q.text))) (wx := W) hW he (mkB q.text) (by show q.text ≠ []; rw [ht]; decide)
   have eW : (mkB q.text).data.toList = q.text := rfl
   rw [eW, HIS.out.1, HIS.out.2] at hW
   clear ht hgt HIS eW
   generalize q.text = tx at *
   go_enter Tryz.func215, Tryz.ntmps215
   go_wp2_with fail
   refine hTx.mono ?_
   rintro e w9 ⟨rfl, h9⟩
   have h9 := h9.symm
   subst h9
   go_wp2_with fail
   refine (hW _ HS.out).mono ?_
   rintro e w2 ⟨rfl, h2⟩
   go_wp2_with fail
   go_ret
   exact ⟨tx, rfl, fun _ => rfl, h2⟩
  ·have b0 : ((mkB q.text).toList == [105, 110, 116, 54, 52]) = false := by rw [mkB_list, ht]; rfl
   have b1 : ((mkB q.text).toList == [117, 105, 110, 116, 54, 52]) = false := by rw [mkB_list, ht]; rfl
   have b2 : ((mkB q.text).toList == [115, 105, 110, 116, 54, 52]) = false := by rw [mkB_list, ht]; rfl
   have b3 : ((mkB q.text).toList == [98, 111, 111, 108]) = false := by rw [mkB_list, ht]; rfl
   have b4 : ((mkB q.text).toList == [115, 116, 114, 105, 110, 103]) = false := by rw [mkB_list, ht]; rfl
   have b5 : ((mkB q.text).toList == [98, 121, 116, 101, 115]) = true := by rw [mkB_list, ht]; rfl
   have hW := fun W hW => wantLv (w0 := w0) (R := R) (en := en) (q := q) (D := D) (T := T) (cs := cs.setIfInBounds o (.string (mkB q.text))) (wx := W) hW he (mkB q.text) (by show q.text ≠ []; rw [ht]; decide)
   have eW : (mkB q.text).data.toList = q.text := rfl
   rw [eW, HIS.out.1, HIS.out.2] at hW
   clear ht hgt HIS eW
   generalize q.text = tx at *
   go_enter Tryz.func215, Tryz.ntmps215
   go_wp2_with fail
   refine hTx.mono ?_
   rintro e w9 ⟨rfl, h9⟩
   have h9 := h9.symm
   subst h9
   go_wp2_with fail
   refine (hW _ HS.out).mono ?_
   rintro e w2 ⟨rfl, h2⟩
   go_wp2_with fail
   go_ret
   exact ⟨tx, rfl, fun _ => rfl, h2⟩
  ·have b0 : ((mkB q.text).toList == [105, 110, 116, 54, 52]) = false := by rw [mkB_list, ht]; rfl
   have b1 : ((mkB q.text).toList == [117, 105, 110, 116, 54, 52]) = false := by rw [mkB_list, ht]; rfl
   have b2 : ((mkB q.text).toList == [115, 105, 110, 116, 54, 52]) = false := by rw [mkB_list, ht]; rfl
   have b3 : ((mkB q.text).toList == [98, 111, 111, 108]) = false := by rw [mkB_list, ht]; rfl
   have b4 : ((mkB q.text).toList == [115, 116, 114, 105, 110, 103]) = false := by rw [mkB_list, ht]; rfl
   have b5 : ((mkB q.text).toList == [98, 121, 116, 101, 115]) = false := by rw [mkB_list, ht]; rfl
   have b6 : ((mkB q.text).toList == [102, 105, 120, 101, 100, 51, 50]) = true := by rw [mkB_list, ht]; rfl
   have hW := fun W hW => wantLv (w0 := w0) (R := R) (en := en) (q := q) (D := D) (T := T) (cs := cs.setIfInBounds o (.string (mkB q.text))) (wx := W) hW he (mkB q.text) (by show q.text ≠ []; rw [ht]; decide)
   have eW : (mkB q.text).data.toList = q.text := rfl
   rw [eW, HIS.out.1, HIS.out.2] at hW
   clear ht hgt HIS eW
   generalize q.text = tx at *
   go_enter Tryz.func215, Tryz.ntmps215
   go_wp2_with fail
   refine hTx.mono ?_
   rintro e w9 ⟨rfl, h9⟩
   have h9 := h9.symm
   subst h9
   go_wp2_with fail
   refine (hW _ HS.out).mono ?_
   rintro e w2 ⟨rfl, h2⟩
   go_wp2_with fail
   go_ret
   exact ⟨tx, rfl, fun _ => rfl, h2⟩
  ·have b0 : ((mkB q.text).toList == [105, 110, 116, 54, 52]) = false := by rw [mkB_list, ht]; rfl
   have b1 : ((mkB q.text).toList == [117, 105, 110, 116, 54, 52]) = false := by rw [mkB_list, ht]; rfl
   have b2 : ((mkB q.text).toList == [115, 105, 110, 116, 54, 52]) = false := by rw [mkB_list, ht]; rfl
   have b3 : ((mkB q.text).toList == [98, 111, 111, 108]) = false := by rw [mkB_list, ht]; rfl
   have b4 : ((mkB q.text).toList == [115, 116, 114, 105, 110, 103]) = false := by rw [mkB_list, ht]; rfl
   have b5 : ((mkB q.text).toList == [98, 121, 116, 101, 115]) = false := by rw [mkB_list, ht]; rfl
   have b6 : ((mkB q.text).toList == [102, 105, 120, 101, 100, 51, 50]) = false := by rw [mkB_list, ht]; rfl
   have b7 : ((mkB q.text).toList == [102, 105, 120, 101, 100, 54, 52]) = true := by rw [mkB_list, ht]; rfl
   have hW := fun W hW => wantLv (w0 := w0) (R := R) (en := en) (q := q) (D := D) (T := T) (cs := cs.setIfInBounds o (.string (mkB q.text))) (wx := W) hW he (mkB q.text) (by show q.text ≠ []; rw [ht]; decide)
   have eW : (mkB q.text).data.toList = q.text := rfl
   rw [eW, HIS.out.1, HIS.out.2] at hW
   clear ht hgt HIS eW
   generalize q.text = tx at *
   go_enter Tryz.func215, Tryz.ntmps215
   go_wp2_with fail
   refine hTx.mono ?_
   rintro e w9 ⟨rfl, h9⟩
   have h9 := h9.symm
   subst h9
   go_wp2_with fail
   refine (hW _ HS.out).mono ?_
   rintro e w2 ⟨rfl, h2⟩
   go_wp2_with fail
   go_ret
   exact ⟨tx, rfl, fun _ => rfl, h2⟩
 ·have hi' : q.isScal = false := by simpa using hi
  have ht1 : q.typ en = q.path en := by unfold Rd.typ; rw [if_neg hi]
  rw [ht1]
  rw [hi'] at hst
  have hP := pathLv h he o ho
  obtain ⟨c0, c1, c2, c3, c4, c5, c6, c7⟩ := scal_no q.text (of_decide_eq_false hst.symm)
  have b0 : ((mkB q.text).toList == [105, 110, 116, 54, 52]) = false := by rw [mkB_list]; exact c0
  have b1 : ((mkB q.text).toList == [117, 105, 110, 116, 54, 52]) = false := by rw [mkB_list]; exact c1
  have b2 : ((mkB q.text).toList == [115, 105, 110, 116, 54, 52]) = false := by rw [mkB_list]; exact c2
  have b3 : ((mkB q.text).toList == [98, 111, 111, 108]) = false := by rw [mkB_list]; exact c3
  have b4 : ((mkB q.text).toList == [115, 116, 114, 105, 110, 103]) = false := by rw [mkB_list]; exact c4
  have b5 : ((mkB q.text).toList == [98, 121, 116, 101, 115]) = false := by rw [mkB_list]; exact c5
  have b6 : ((mkB q.text).toList == [102, 105, 120, 101, 100, 51, 50]) = false := by rw [mkB_list]; exact c6
  have b7 : ((mkB q.text).toList == [102, 105, 120, 101, 100, 54, 52]) = false := by rw [mkB_list]; exact c7
  clear c0 c1 c2 c3 c4 c5 c6 c7 hst hi hi' ht1 h
  generalize q.text = tx at *
  go_enter Tryz.func215, Tryz.ntmps215
  go_wp2_with fail
  refine hTx.mono ?_
  rintro e w9 ⟨rfl, h9⟩
  have h9 := h9.symm
  subst h9
  go_wp2_with fail
  refine hP.mono ?_
  rintro e w2 ⟨p, rfl, h2, h3⟩
  go_wp2_with fail
  go_ret
  exact ⟨p, rfl, h2, h3⟩
set_option maxHeartbeats 8000000 in
set_option maxRecDepth 20000 in
theorem bracketedLv (h : Lv w0 wx R en q D T cs) (he : q.e = 0) (o : Nat) (ho : cs[o]? = some (.string ⟨#[]⟩)) :
  Calls Tryz.prog 164 #[.pointer (some ⟨R, 0, none⟩), .pointer (some ⟨D, o, none⟩)] wx fun x w' => ∃ p : List UInt8, x = .returned (.bool (decide ((((q.take en [40]).path en).2.take en [41]).e = 0))) ∧ ((((q.take en [40]).path en).2.take en [41]).e = 0 → p = ((q.take en [40]).path en).1) ∧ Lv w0 w' R en (((q.take en [40]).path en).2.take en [41]) D T (cs.setIfInBounds o (.string (mkB p))) := by
 have hW := wantLv h he ⟨#[40]⟩ (by decide)
 have e40 : (ByteArray.mk #[40]).data.toList = [40] := rfl
 have hE1 := Rd.e_take en he [40]
 have hso := set_same ho
 have ho0 : cs.setIfInBounds o (.string (mkB [])) = cs := hso
 rw [e40] at hW
 generalize q.take en [40] = q1 at *
 by_cases hi : q.is [40] = true
 ·rw [hi] at hW hE1
  have h1e : q1.e = 0 := of_decide_eq_true hE1
  have hP := fun W hW => pathLv (w0 := w0) (R := R) (en := en) (q := q1) (D := D) (T := T) (cs := cs) (wx := W) hW h1e o ho
  generalize q1.path en = PA at *
  by_cases h2e : PA.2.e = 0
  ·have hE2 := Rd.e_take en h2e [41]
   rw [decide_eq_true h2e] at hP
   have hV := fun W (p : List UInt8) hW => wantLv (w0 := w0) (R := R) (en := en) (q := PA.2) (D := D) (T := T) (cs := cs.setIfInBounds o (.string (mkB p))) (wx := W) hW h2e ⟨#[41]⟩ (by decide)
   have e41 : (ByteArray.mk #[41]).data.toList = [41] := rfl
   rw [e41] at hV
   rw [hE2]
   clear hi hE1 e40 e41 hso
   go_enter Tryz.func164, Tryz.ntmps164
   go_wp2_with fail
   refine hW.mono ?_
   rintro e w1 ⟨rfl, h1⟩
   go_wp2_with fail
   refine (hP w1 h1).mono ?_
   rintro e w2 ⟨p, rfl, h2, h3⟩
   go_wp2_with fail
   refine (hV w2 p h3).mono ?_
   rintro e w3 ⟨rfl, h4⟩
   go_wp2_with fail
   go_ret
   exact ⟨p, rfl, fun _ => h2 h2e, h4⟩
  ·have hst : PA.2.take en [41] = PA.2 := Rd.take_stay en h2e _
   have hd : decide (PA.2.e = 0) = false := decide_eq_false h2e
   rw [hd] at hP
   rw [hst, hd]
   clear hi hE1 e40 hst hd
   go_enter Tryz.func164, Tryz.ntmps164
   go_wp2_with fail
   refine hW.mono ?_
   rintro e w1 ⟨rfl, h1⟩
   go_wp2_with fail
   refine (hP w1 h1).mono ?_
   rintro e w2 ⟨p, rfl, h2, h3⟩
   go_wp2_with fail
   go_ret
   exact ⟨p, rfl, fun hx => absurd hx h2e, h3⟩
 ·have hi' : q.is [40] = false := by simpa using hi
  rw [hi'] at hW hE1
  have h1e : q1.e ≠ 0 := of_decide_eq_false hE1
  rw [Rd.path_stay en h1e, Rd.take_stay en h1e, hE1]
  clear hi hi' hE1 e40
  go_enter Tryz.func164, Tryz.ntmps164
  go_wp2_with fail
  refine hW.mono ?_
  rintro e w1 ⟨rfl, h1⟩
  go_wp2_with fail
  go_ret
  exact ⟨[], rfl, fun hx => absurd hx h1e, by rw [ho0]; exact h1⟩
end
end Go.Proofs.YtpojeinddnjpfaaGreatDoor
namespace Go.Proofs.YtpojeinddnjpfaaGreatDoor
set_option linter.unusedVariables false
open Go.ChangeShapes Go.WideShapes Go.ChangeAt Go.RowKit

section
variable {w0 wx : World} {R : Nat} {en : Int × Int} {q : Rd} {D : Nat} {T : TypeId} {x0 x4 x5 x6 x7 : Value}
set_option maxHeartbeats 8000000 in
set_option maxRecDepth 20000 in
theorem headLv (h : Lv w0 wx R en q D T #[x0, .string ⟨#[]⟩, .int .i64 0, .int .i64 0, x4, x5, x6, x7]) (he : q.e = 0) (s : ByteArray) (hs : s.data.toList ≠ []) :
  Calls Tryz.prog 158 #[.pointer (some ⟨R, 0, none⟩), .pointer (some ⟨D, 0, none⟩), .string s] wx fun x w' => ∃ (nm : List UInt8) (pl pc : Int), x = .returned (.bool (decide ((((q.take en s.data.toList).name en).take en [123]).e = 0))) ∧
   ((((q.take en s.data.toList).name en).take en [123]).e = 0 → nm = (q.take en s.data.toList).nameT ∧ pl = ((q.take en s.data.toList).nameP en).1 ∧ pc = ((q.take en s.data.toList).nameP en).2) ∧
   Lv w0 w' R en (((q.take en s.data.toList).name en).take en [123]) D T #[x0, .string (mkB nm), .int .i64 pl, .int .i64 pc, x4, x5, x6, x7] := by
 have hW := fun W hW => wantLv (w0 := w0) (R := R) (en := en) (q := q) (D := D) (T := T) (cs := #[x0, .string ⟨#[]⟩, .int .i64 0, .int .i64 0, x4, x5, x6, x7]) (wx := W) hW he s hs
 have hE1 := Rd.e_take en he s.data.toList
 generalize q.take en s.data.toList = q1 at *
 by_cases hi : q.is s.data.toList = true
 ·rw [hi] at hW hE1
  have h1e : q1.e = 0 := of_decide_eq_true hE1
  have hN := fun W hW => nameLv (w0 := w0) (R := R) (en := en) (q := q1) (D := D) (T := T) (cs := #[x0, .string ⟨#[]⟩, .int .i64 0, .int .i64 0, x4, x5, x6, x7]) (wx := W) hW h1e 1 2 (by simp) (by simp) (by decide)
  have hE2 := Rd.e_name en h1e
  have hNC : nameC en q1 #[x0, .string ⟨#[]⟩, .int .i64 0, .int .i64 0, x4, x5, x6, x7] 1 2 = if q1.isName = true then #[x0, .string (mkB q1.nameT), .int .i64 (q1.nameP en).1, .int .i64 (q1.nameP en).2, x4, x5, x6, x7] else #[x0, .string ⟨#[]⟩, .int .i64 0, .int .i64 0, x4, x5, x6, x7] := rfl
  rw [hNC] at hN
  generalize q1.name en = q2 at *
  by_cases hi2 : q1.isName = true
  ·rw [hi2, if_pos rfl] at hN
   rw [hi2] at hE2
   have h2e : q2.e = 0 := of_decide_eq_true hE2
   have hE3 := Rd.e_take en h2e [123]
   have hV := fun W hW => wantLv (w0 := w0) (R := R) (en := en) (q := q2) (D := D) (T := T) (cs := #[x0, .string (mkB q1.nameT), .int .i64 (q1.nameP en).1, .int .i64 (q1.nameP en).2, x4, x5, x6, x7]) (wx := W) hW h2e ⟨#[123]⟩ (by decide)
   have e123 : (ByteArray.mk #[123]).data.toList = [123] := rfl
   rw [e123] at hV
   rw [hE3]
   have HL := Lib.hid h
   clear hi hE1 e123 hi2 h hNC hE2
   go_enter Tryz.func158, Tryz.ntmps158
   go_wp2_with fail
   refine wp_region_any (by kernel_rfl) ?_
   change wpAny _ _ _ _ _ _ _ (World.drew _)
   refine wpAny_take (i := 0) (v := .pointer (some ⟨R, 0, none⟩)) rfl (by kernel_rfl) (by kernel_rfl) (by kernel_rfl) (fun _ _ _ h => h) (.inl ⟨by kernel_rfl, fun W => by go_simp⟩) ?_
   refine wpAny_take (i := 1) (v := .string s) rfl (by kernel_rfl) (by kernel_rfl) (by kernel_rfl) (fun _ _ _ h => h) (.inl ⟨by kernel_rfl, fun W => by go_simp⟩) ?_
   refine wpAny_ready (rs := [2]) (by kernel_rfl) (by simp) (AllReady.cons rfl (fun K hK => ?_) AllReady.nil)
   go_simp
   refine (hW _ HL.out.drew).mono ?_
   rintro e W1 ⟨rfl, h1⟩
   dsimp only
   refine hK _ _ ?_
   clear hK K
   refine wpAny_take (i := 3) (v := .bool true) rfl (by kernel_rfl) (by kernel_rfl) (by kernel_rfl) (fun _ _ _ h => h) (.inl ⟨by kernel_rfl, fun W => by go_simp⟩) ?_
   refine wpAny_take (i := 4) (v := .pointer (some ⟨R, 0, none⟩)) rfl (by kernel_rfl) (by kernel_rfl) (by kernel_rfl) (fun _ _ _ h => h) (.inl ⟨by kernel_rfl, fun W => by go_simp⟩) ?_
   refine wpAny_take (i := 5) (v := .pointer (some ⟨D, 0, none⟩)) rfl (by kernel_rfl) (by kernel_rfl) (by kernel_rfl) (fun _ _ _ h => h) (.inl ⟨by kernel_rfl, fun W => by go_simp⟩) ?_
   refine wpAny_take (i := 6) (v := .pointer (some ⟨D, 0, none⟩)) rfl (by kernel_rfl) (by kernel_rfl) (by kernel_rfl) (fun _ _ _ h => h) (.inl ⟨by kernel_rfl, fun W => by go_simp⟩) ?_
   refine wpAny_take (i := 7) (v := .pointer (some ⟨D, 1, none⟩)) rfl (by kernel_rfl) (by kernel_rfl) (by kernel_rfl) (fun _ _ _ h => h) (.inl ⟨by kernel_rfl, fun W => by go_simp⟩) ?_
   refine wpAny_take (i := 8) (v := .pointer (some ⟨D, 0, none⟩)) rfl (by kernel_rfl) (by kernel_rfl) (by kernel_rfl) (fun _ _ _ h => h) (.inl ⟨by kernel_rfl, fun W => by go_simp⟩) ?_
   refine wpAny_take (i := 9) (v := .pointer (some ⟨D, 0, none⟩)) rfl (by kernel_rfl) (by kernel_rfl) (by kernel_rfl) (fun _ _ _ h => h) (.inl ⟨by kernel_rfl, fun W => by go_simp⟩) ?_
   refine wpAny_take (i := 10) (v := .pointer (some ⟨D, 2, none⟩)) rfl (by kernel_rfl) (by kernel_rfl) (by kernel_rfl) (fun _ _ _ h => h) (.inl ⟨by kernel_rfl, fun W => by go_simp⟩) ?_
   refine wpAny_ready (rs := [11]) (by kernel_rfl) (by simp) (AllReady.cons rfl (fun K hK => ?_) AllReady.nil)
   go_simp
   refine (hN _ h1).mono ?_
   rintro e W2 ⟨rfl, h2⟩
   dsimp only
   refine hK _ _ ?_
   clear hK K
   refine wpAny_take (i := 12) (v := .bool true) rfl (by kernel_rfl) (by kernel_rfl) (by kernel_rfl) (fun _ _ _ h => h) (.inl ⟨by kernel_rfl, fun W => by go_simp⟩) ?_
   refine wpAny_take (i := 13) (v := .bool true) rfl (by kernel_rfl) (by kernel_rfl) (by kernel_rfl) (fun _ _ _ h => h) (.inl ⟨by kernel_rfl, fun W => by go_simp⟩) ?_
   refine wpAny_take (i := 14) (v := .pointer (some ⟨R, 0, none⟩)) rfl (by kernel_rfl) (by kernel_rfl) (by kernel_rfl) (fun _ _ _ h => h) (.inl ⟨by kernel_rfl, fun W => by go_simp⟩) ?_
   refine wpAny_ready (rs := [15]) (by kernel_rfl) (by simp) (AllReady.cons rfl (fun K hK => ?_) AllReady.nil)
   go_simp
   refine (hV _ h2).mono ?_
   rintro e W3 ⟨rfl, h3⟩
   dsimp only
   refine hK _ _ ?_
   clear hK K
   refine wpAny_take (i := 16) (v := .bool (q2.is [123])) rfl (by kernel_rfl) (by kernel_rfl) (by kernel_rfl) (fun _ _ _ h => h) (.inl ⟨by kernel_rfl, fun W => by go_simp⟩) ?_
   refine wpAny_take (i := 17) (v := .bool (q2.is [123])) rfl (by kernel_rfl) (by kernel_rfl) (by kernel_rfl) (fun _ _ _ h => h) (.inl ⟨by kernel_rfl, fun W => by go_simp⟩) ?_
   refine wpAny_done (by kernel_rfl) ?_ _
   go_wp2_with fail
   exact bodyPost_ret (v := .bool (q2.is [123])) (by kernel_rfl) (by kernel_rfl) ⟨q1.nameT, _, _, rfl, fun _ => ⟨rfl, rfl, rfl⟩, h3⟩
  ·have hi2' : q1.isName = false := by simpa using hi2
   rw [hi2', if_neg (by decide)] at hN
   rw [hi2'] at hE2
   have h2e : q2.e ≠ 0 := of_decide_eq_false hE2
   rw [Rd.take_stay en h2e, hE2]
   have HL := Lib.hid h
   clear hi hE1 hi2 hi2' h hNC hE2
   go_enter Tryz.func158, Tryz.ntmps158
   go_wp2_with fail
   refine wp_region_any (by kernel_rfl) ?_
   change wpAny _ _ _ _ _ _ _ (World.drew _)
   refine wpAny_take (i := 0) (v := .pointer (some ⟨R, 0, none⟩)) rfl (by kernel_rfl) (by kernel_rfl) (by kernel_rfl) (fun _ _ _ h => h) (.inl ⟨by kernel_rfl, fun W => by go_simp⟩) ?_
   refine wpAny_take (i := 1) (v := .string s) rfl (by kernel_rfl) (by kernel_rfl) (by kernel_rfl) (fun _ _ _ h => h) (.inl ⟨by kernel_rfl, fun W => by go_simp⟩) ?_
   refine wpAny_ready (rs := [2]) (by kernel_rfl) (by simp) (AllReady.cons rfl (fun K hK => ?_) AllReady.nil)
   go_simp
   refine (hW _ HL.out.drew).mono ?_
   rintro e W1 ⟨rfl, h1⟩
   dsimp only
   refine hK _ _ ?_
   clear hK K
   refine wpAny_take (i := 3) (v := .bool true) rfl (by kernel_rfl) (by kernel_rfl) (by kernel_rfl) (fun _ _ _ h => h) (.inl ⟨by kernel_rfl, fun W => by go_simp⟩) ?_
   refine wpAny_take (i := 4) (v := .pointer (some ⟨R, 0, none⟩)) rfl (by kernel_rfl) (by kernel_rfl) (by kernel_rfl) (fun _ _ _ h => h) (.inl ⟨by kernel_rfl, fun W => by go_simp⟩) ?_
   refine wpAny_take (i := 5) (v := .pointer (some ⟨D, 0, none⟩)) rfl (by kernel_rfl) (by kernel_rfl) (by kernel_rfl) (fun _ _ _ h => h) (.inl ⟨by kernel_rfl, fun W => by go_simp⟩) ?_
   refine wpAny_take (i := 6) (v := .pointer (some ⟨D, 0, none⟩)) rfl (by kernel_rfl) (by kernel_rfl) (by kernel_rfl) (fun _ _ _ h => h) (.inl ⟨by kernel_rfl, fun W => by go_simp⟩) ?_
   refine wpAny_take (i := 7) (v := .pointer (some ⟨D, 1, none⟩)) rfl (by kernel_rfl) (by kernel_rfl) (by kernel_rfl) (fun _ _ _ h => h) (.inl ⟨by kernel_rfl, fun W => by go_simp⟩) ?_
   refine wpAny_take (i := 8) (v := .pointer (some ⟨D, 0, none⟩)) rfl (by kernel_rfl) (by kernel_rfl) (by kernel_rfl) (fun _ _ _ h => h) (.inl ⟨by kernel_rfl, fun W => by go_simp⟩) ?_
   refine wpAny_take (i := 9) (v := .pointer (some ⟨D, 0, none⟩)) rfl (by kernel_rfl) (by kernel_rfl) (by kernel_rfl) (fun _ _ _ h => h) (.inl ⟨by kernel_rfl, fun W => by go_simp⟩) ?_
   refine wpAny_take (i := 10) (v := .pointer (some ⟨D, 2, none⟩)) rfl (by kernel_rfl) (by kernel_rfl) (by kernel_rfl) (fun _ _ _ h => h) (.inl ⟨by kernel_rfl, fun W => by go_simp⟩) ?_
   refine wpAny_ready (rs := [11]) (by kernel_rfl) (by simp) (AllReady.cons rfl (fun K hK => ?_) AllReady.nil)
   go_simp
   refine (hN _ h1).mono ?_
   rintro e W2 ⟨rfl, h2⟩
   dsimp only
   refine hK _ _ ?_
   clear hK K
   refine wpAny_take (i := 12) (v := .bool false) rfl (by kernel_rfl) (by kernel_rfl) (by kernel_rfl) (fun _ _ _ h => h) (.inl ⟨by kernel_rfl, fun W => by go_simp⟩) ?_
   refine wpAny_take (i := 13) (v := .bool false) rfl (by kernel_rfl) (by kernel_rfl) (by kernel_rfl) (fun _ _ _ h => h) (.inl ⟨by kernel_rfl, fun W => by go_simp⟩) ?_
   refine wpAny_take (i := 14) (v := undef) rfl (by kernel_rfl) (by kernel_rfl) (by kernel_rfl) (fun _ _ _ h => h) (.inr ⟨by kernel_rfl, rfl⟩) ?_
   refine wpAny_take (i := 15) (v := undef) rfl (by kernel_rfl) (by kernel_rfl) (by kernel_rfl) (fun _ _ _ h => h) (.inr ⟨by kernel_rfl, rfl⟩) ?_
   refine wpAny_take (i := 16) (v := .bool false) rfl (by kernel_rfl) (by kernel_rfl) (by kernel_rfl) (fun _ _ _ h => h) (.inl ⟨by kernel_rfl, fun W => by go_simp⟩) ?_
   refine wpAny_take (i := 17) (v := .bool false) rfl (by kernel_rfl) (by kernel_rfl) (by kernel_rfl) (fun _ _ _ h => h) (.inl ⟨by kernel_rfl, fun W => by go_simp⟩) ?_
   refine wpAny_done (by kernel_rfl) ?_ _
   go_wp2_with fail
   exact bodyPost_ret (v := .bool false) (by kernel_rfl) (by kernel_rfl) ⟨[], 0, 0, rfl, fun hx => absurd hx h2e, h2⟩
 ·have hi' : q.is s.data.toList = false := by simpa using hi
  rw [hi'] at hW hE1
  have h1e : q1.e ≠ 0 := of_decide_eq_false hE1
  rw [Rd.name_stay en h1e, Rd.take_stay en h1e, hE1]
  have HL := Lib.hid h
  clear hi hi' hE1 h
  go_enter Tryz.func158, Tryz.ntmps158
  go_wp2_with fail
  refine wp_region_any (by kernel_rfl) ?_
  change wpAny _ _ _ _ _ _ _ (World.drew _)
  refine wpAny_take (i := 0) (v := .pointer (some ⟨R, 0, none⟩)) rfl (by kernel_rfl) (by kernel_rfl) (by kernel_rfl) (fun _ _ _ h => h) (.inl ⟨by kernel_rfl, fun W => by go_simp⟩) ?_
  refine wpAny_take (i := 1) (v := .string s) rfl (by kernel_rfl) (by kernel_rfl) (by kernel_rfl) (fun _ _ _ h => h) (.inl ⟨by kernel_rfl, fun W => by go_simp⟩) ?_
  refine wpAny_ready (rs := [2]) (by kernel_rfl) (by simp) (AllReady.cons rfl (fun K hK => ?_) AllReady.nil)
  go_simp
  refine (hW _ HL.out.drew).mono ?_
  rintro e W1 ⟨rfl, h1⟩
  dsimp only
  refine hK _ _ ?_
  clear hK K
  refine wpAny_take (i := 3) (v := .bool false) rfl (by kernel_rfl) (by kernel_rfl) (by kernel_rfl) (fun _ _ _ h => h) (.inl ⟨by kernel_rfl, fun W => by go_simp⟩) ?_
  refine wpAny_take (i := 4) (v := undef) rfl (by kernel_rfl) (by kernel_rfl) (by kernel_rfl) (fun _ _ _ h => h) (.inr ⟨by kernel_rfl, rfl⟩) ?_
  refine wpAny_take (i := 5) (v := undef) rfl (by kernel_rfl) (by kernel_rfl) (by kernel_rfl) (fun _ _ _ h => h) (.inr ⟨by kernel_rfl, rfl⟩) ?_
  refine wpAny_take (i := 6) (v := undef) rfl (by kernel_rfl) (by kernel_rfl) (by kernel_rfl) (fun _ _ _ h => h) (.inr ⟨by kernel_rfl, rfl⟩) ?_
  refine wpAny_take (i := 7) (v := undef) rfl (by kernel_rfl) (by kernel_rfl) (by kernel_rfl) (fun _ _ _ h => h) (.inr ⟨by kernel_rfl, rfl⟩) ?_
  refine wpAny_take (i := 8) (v := undef) rfl (by kernel_rfl) (by kernel_rfl) (by kernel_rfl) (fun _ _ _ h => h) (.inr ⟨by kernel_rfl, rfl⟩) ?_
  refine wpAny_take (i := 9) (v := undef) rfl (by kernel_rfl) (by kernel_rfl) (by kernel_rfl) (fun _ _ _ h => h) (.inr ⟨by kernel_rfl, rfl⟩) ?_
  refine wpAny_take (i := 10) (v := undef) rfl (by kernel_rfl) (by kernel_rfl) (by kernel_rfl) (fun _ _ _ h => h) (.inr ⟨by kernel_rfl, rfl⟩) ?_
  refine wpAny_take (i := 11) (v := undef) rfl (by kernel_rfl) (by kernel_rfl) (by kernel_rfl) (fun _ _ _ h => h) (.inr ⟨by kernel_rfl, rfl⟩) ?_
  refine wpAny_take (i := 12) (v := .bool false) rfl (by kernel_rfl) (by kernel_rfl) (by kernel_rfl) (fun _ _ _ h => h) (.inl ⟨by kernel_rfl, fun W => by go_simp⟩) ?_
  refine wpAny_take (i := 13) (v := .bool false) rfl (by kernel_rfl) (by kernel_rfl) (by kernel_rfl) (fun _ _ _ h => h) (.inl ⟨by kernel_rfl, fun W => by go_simp⟩) ?_
  refine wpAny_take (i := 14) (v := undef) rfl (by kernel_rfl) (by kernel_rfl) (by kernel_rfl) (fun _ _ _ h => h) (.inr ⟨by kernel_rfl, rfl⟩) ?_
  refine wpAny_take (i := 15) (v := undef) rfl (by kernel_rfl) (by kernel_rfl) (by kernel_rfl) (fun _ _ _ h => h) (.inr ⟨by kernel_rfl, rfl⟩) ?_
  refine wpAny_take (i := 16) (v := .bool false) rfl (by kernel_rfl) (by kernel_rfl) (by kernel_rfl) (fun _ _ _ h => h) (.inl ⟨by kernel_rfl, fun W => by go_simp⟩) ?_
  refine wpAny_take (i := 17) (v := .bool false) rfl (by kernel_rfl) (by kernel_rfl) (by kernel_rfl) (fun _ _ _ h => h) (.inl ⟨by kernel_rfl, fun W => by go_simp⟩) ?_
  refine wpAny_done (by kernel_rfl) ?_ _
  go_wp2_with fail
  exact bodyPost_ret (v := .bool false) (by kernel_rfl) (by kernel_rfl) ⟨[], 0, 0, rfl, fun hx => absurd hx h1e, h1⟩
end
end Go.Proofs.YtpojeinddnjpfaaGreatDoor
