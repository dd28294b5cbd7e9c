/-
  The walk over the program's own declaration of a reader.
-/
import Derived.Test.YtpojeinddnjpfaaGreatDoorM0
import Derived.Test.YtpojeinddnjpfaaGreatDoorM12
namespace Go.Proofs.YtpojeinddnjpfaaGreatDoor
set_option linter.unusedVariables false
open Go.ChangeShapes Go.WideShapes Go.ChangeAt Go.RowKit

def declS (en : Int × Int) (r : Rd) : Dc × Rd :=
 if r.is tMessage = true then messageL en 9 1 r else if r.is tEnum = true then r.enum en else if r.is tService = true then r.service en else (⟨0, [], 0, 0, [], [], [], []⟩, r.fail 7 (r.here en))
theorem declS_m (en : Int × Int) (r : Rd) : (declS en r).2.m ≤ r.m - 1 := by
 unfold declS
 split
 ·exact messageL_m en 8 1 r
 ·split
  ·exact Rd.m_enum en r
  ·split
   ·exact Rd.m_service en r
   ·show (r.fail 7 (r.here en)).m ≤ _
    rw [Rd.m_fail _ _ _ (by decide)]; omega
theorem declsL_step (en : Int × Int) (f : Nat) (r : Rd) (acc : List Dc) (h : r.e = 0 ∧ r.l ≠ []) : declsL en (f + 1) r acc = if (declS en r).2.e = 0 then declsL en f (declS en r).2 (acc ++ [(declS en r).1]) else declsL en (f + 1) r acc := by
 split
 ·rename_i he
  rw [declsL_go en f r acc h]
  unfold declS at *
  by_cases h1 : r.is tMessage = true
  ·rw [if_pos h1, if_pos h1]; rfl
  ·rw [if_neg h1] at he ⊢
   rw [if_neg h1]
   by_cases h2 : r.is tEnum = true
   ·rw [if_pos h2, if_pos h2]
   ·rw [if_neg h2] at he ⊢
    rw [if_neg h2]
    by_cases h3 : r.is tService = true
    ·rw [if_pos h3, if_pos h3]
    ·rw [if_neg h3] at he
     have he' : (r.fail 7 (r.here en)).e = 0 := he
     rw [Rd.e_fail h.1] at he'
     cases he'
 ·rfl
theorem declsL_err (en : Int × Int) (f : Nat) (r : Rd) (acc : List Dc) (h : r.e = 0 ∧ r.l ≠ []) (he : (declS en r).2.e ≠ 0) : (declsL en (f + 1) r acc).2 = (declS en r).2 := by
 rw [declsL_go en f r acc h]
 unfold declS at *
 by_cases h1 : r.is tMessage = true
 ·rw [if_pos h1] at he ⊢
  rw [if_pos h1]
  have he' : (r.message en 1).2.e ≠ 0 := he
  rw [declsL_stop en f _ _ (fun hh => he' hh.1)]; rfl
 ·rw [if_neg h1] at he ⊢
  rw [if_neg h1]
  by_cases h2 : r.is tEnum = true
  ·rw [if_pos h2] at he ⊢
   rw [if_pos h2, declsL_stop en f _ _ (fun hh => he hh.1)]
  ·rw [if_neg h2] at he ⊢
   rw [if_neg h2]
   by_cases h3 : r.is tService = true
   ·rw [if_pos h3] at he ⊢
    rw [if_pos h3, declsL_stop en f _ _ (fun hh => he hh.1)]
   ·rw [if_neg h3] at he ⊢
    rw [if_neg h3]
    have he' : (r.fail 7 (r.here en)).e ≠ 0 := he
    rw [declsL_stop en f _ _ (fun hh => he' hh.1)]
set_option maxHeartbeats 16000000 in
set_option maxRecDepth 20000 in
theorem declarationD_any (R : Nat) (en : Int × Int) (r : Rd) (w : World) (he : r.e = 0) (h : DrAt w R en r) :
  Calls Tryz.prog 75 #[.pointer (some ⟨R, 0, none⟩)] w fun x w' => PAns en 9 R w (declS en r) x w' := by
 have hlt := h.lt
 have hTx := textD_any R en r (w.alloc (.cells z8 69)) (h.alloc _)
 have HRI := Lib.hid (h.alloc (.cells z8 69))
 have HI0 := Lib.hid (alloc_heap_new w (.cells z8 69))
 have HGI : Hid (w.grownBy (w.alloc (.cells z8 69)) (some R)) := World.grownBy_alloc w _ _
 have hsI : (w.alloc (.cells z8 69)).heap.size = w.heap.size + 1 := by simp
 have iM := Rd.is_text (t := tMessage) he (by decide)
 have iE := Rd.is_text (t := tEnum) he (by decide)
 have iS := Rd.is_text (t := tService) he (by decide)
 by_cases hM : r.is tMessage = true
 ·have b0 : ((mkB r.text).toList == [109, 101, 115, 115, 97, 103, 101]) = true := by rw [mkB_list, ← iM]; exact hM
  have hST : declS en r = messageL en 9 1 r := by unfold declS; rw [if_pos hM]
  have hRec := fun W hW => messageD_any en 8 1 (by decide) R r W he hW
  obtain ⟨CH, hCH⟩ : ∃ CH, messageL en 9 1 r = CH := ⟨_, rfl⟩
  rw [hST, hCH]
  rw [hCH] at hRec
  clear hCH hST h iM iE iS
  generalize r.text = tx at *
  go_enter Tryz.func75, Tryz.ntmps75
  go_wp2_with fail
  refine hTx.mono ?_
  rintro e w9 ⟨rfl, h9⟩
  have h9 := h9.symm
  subst h9
  clear hTx
  go_wp2_with fail
  refine (hRec _ HRI.out).mono ?_
  generalize w.alloc (.cells z8 69) = V at *
  rintro e W5 ⟨d, fa, fn, fc, va, vn, vc, ma, mn, mc, ia, inn, ic, rfl, hd, hr5, hg5, hkid⟩
  have hz5 := hg5.size
  clear hRec
  have HI5 := Lib.hid (keepG HI0.out hg5 (by omega))
  have HS8 := Lib.hid (set8_flat HI5.out (.int .i64 d.kind) (.string (mkB d.name)) (.int .i64 d.line) (.int .i64 d.col) (.slice fa fn fc) (.slice va vn vc) (.slice ma mn mc) (.slice ia inn ic))
  have HGY : Hid (w.grownBy (S8 W5 w.heap.size 0 (.int .i64 d.kind) (.string (mkB d.name)) (.int .i64 d.line) (.int .i64 d.col) (.slice fa fn fc) (.slice va vn vc) (.slice ma mn mc) (.slice ia inn ic)) (some R)) := S8_step (o := .cells z8 69) (Nat.le_refl _) (HGI.out.trans hg5) _ _ _ _ _ _ _ _
  have HRY : Hid (DrAt (S8 W5 w.heap.size 0 (.int .i64 d.kind) (.string (mkB d.name)) (.int .i64 d.line) (.int .i64 d.col) (.slice fa fn fc) (.slice va vn vc) (.slice ma mn mc) (.slice ia inn ic)) R en CH.2) := hr5.old fun k hk => S8_far _ _ _ _ _ _ _ _ _ _ _ k (by omega)
  have HKD : Hid (Kids 9 (S8 W5 w.heap.size 0 (.int .i64 d.kind) (.string (mkB d.name)) (.int .i64 d.line) (.int .i64 d.col) (.slice fa fn fc) (.slice va vn vc) (.slice ma mn mc) (.slice ia inn ic)) (fun b => w.heap.size + 2 ≤ b ∧ b < (S8 W5 w.heap.size 0 (.int .i64 d.kind) (.string (mkB d.name)) (.int .i64 d.line) (.int .i64 d.col) (.slice fa fn fc) (.slice va vn vc) (.slice ma mn mc) (.slice ia inn ic)).heap.size) (.slice fa fn fc) (.slice va vn vc) (.slice ma mn mc) (.slice ia inn ic) d) := by
   refine (?_ : Kids _ _ _ _ _ _ _ _)
   exact (hkid.old fun b hb => S8_far _ _ _ _ _ _ _ _ _ _ _ b (by have := hb.1; omega)).more fun b hb => ⟨by have := hb.1; omega, by rw [S8_size]; exact hb.2⟩
  have HDD := Lib.hid hd
  have i5 := HI5.out
  obtain ⟨c0, c1, c2, c3, c4, c5, c6, c7, hfz⟩ : W5.cell? ⟨w.heap.size, 0, none⟩ = some (.int .i64 0) ∧ W5.cell? ⟨w.heap.size, 1, none⟩ = some (.string ⟨#[]⟩) ∧ W5.cell? ⟨w.heap.size, 2, none⟩ = some (.int .i64 0) ∧ W5.cell? ⟨w.heap.size, 3, none⟩ = some (.int .i64 0) ∧ W5.cell? ⟨w.heap.size, 4, none⟩ = some (.slice none 0 0) ∧ W5.cell? ⟨w.heap.size, 5, none⟩ = some (.slice none 0 0) ∧ W5.cell? ⟨w.heap.size, 6, none⟩ = some (.slice none 0 0) ∧ W5.cell? ⟨w.heap.size, 7, none⟩ = some (.slice none 0 0) ∧ ∀ j, W5.frozen? ⟨w.heap.size, j, none⟩ = false := by
   refine ⟨?_, ?_, ?_, ?_, ?_, ?_, ?_, ?_, ?_⟩
   all_goals simp [World.cell?, World.frozen?, i5]
  have fz0 := hfz 0
  have fz1 := hfz 1
  have fz2 := hfz 2
  have fz3 := hfz 3
  have fz4 := hfz 4
  have fz5 := hfz 5
  have fz6 := hfz 6
  have fz7 := hfz 7
  clear hr5 hg5 hkid hd i5 hfz HI5 HRI HI0 HGI
  go_wp2_with fail
  change bodyPost _ _ _ _ _ (S8 W5 w.heap.size 0 (.int .i64 d.kind) (.string (mkB d.name)) (.int .i64 d.line) (.int .i64 d.col) (.slice fa fn fc) (.slice va vn vc) (.slice ma mn mc) (.slice ia inn ic))
  clear c0 c1 c2 c3 c4 c5 c6 c7 fz0 fz1 fz2 fz3 fz4 fz5 fz6 fz7
  generalize S8 W5 w.heap.size 0 (.int .i64 d.kind) (.string (mkB d.name)) (.int .i64 d.line) (.int .i64 d.col) (.slice fa fn fc) (.slice va vn vc) (.slice ma mn mc) (.slice ia inn ic) = Y at *
  have s8 := HS8.out
  have y0 := cell_at s8 0 rfl
  have y1 := cell_at s8 1 rfl
  have y2 := cell_at s8 2 rfl
  have y3 := cell_at s8 3 rfl
  have y4 := cell_at s8 4 rfl
  have y5 := cell_at s8 5 rfl
  have y6 := cell_at s8 6 rfl
  have y7 := cell_at s8 7 rfl
  exact bodyPost_ret (v := .tuple #[.agg #[.int .i64 d.kind, .string (mkB d.name), .int .i64 d.line, .int .i64 d.col, .slice fa fn fc, .slice va vn vc, .slice ma mn mc, .slice ia inn ic], .bool (decide (CH.2.e = 0))]) (by simp [results, Tryz.results75, go_sem, y0, y1, y2, y3, y4, y5, y6, y7]) rfl ⟨d, fa, fn, fc, va, vn, vc, ma, mn, mc, ia, inn, ic, rfl, HDD.out, HRY.out, HGY.out, HKD.out⟩
 ·have hM' : r.is tMessage = false := by simpa using hM
  have b0 : ((mkB r.text).toList == [109, 101, 115, 115, 97, 103, 101]) = false := by rw [mkB_list, ← iM]; exact hM'
  by_cases hE : r.is tEnum = true
  ·have b1 : ((mkB r.text).toList == [101, 110, 117, 109]) = true := by rw [mkB_list, ← iE]; exact hE
   have hST : declS en r = r.enum en := by unfold declS; rw [if_neg hM, if_pos hE]
   have hRec := fun W hW => enumD_kids R en r W he hW 9
   obtain ⟨CH, hCH⟩ : ∃ CH, r.enum en = CH := ⟨_, rfl⟩
   rw [hST, hCH]
   rw [hCH] at hRec
   clear hCH hST h iM iE iS
   generalize r.text = tx at *
   go_enter Tryz.func75, Tryz.ntmps75
   go_wp2_with fail
   refine hTx.mono ?_
   rintro e w9 ⟨rfl, h9⟩
   have h9 := h9.symm
   subst h9
   clear hTx
   go_wp2_with fail
   refine (hRec _ HRI.out).mono ?_
   generalize w.alloc (.cells z8 69) = V at *
   rintro e W5 ⟨d, fa, fn, fc, va, vn, vc, ma, mn, mc, ia, inn, ic, rfl, hd, hr5, hg5, hkid⟩
   have hz5 := hg5.size
   clear hRec
   have HI5 := Lib.hid (keepG HI0.out hg5 (by omega))
   have HS8 := Lib.hid (set8_flat HI5.out (.int .i64 d.kind) (.string (mkB d.name)) (.int .i64 d.line) (.int .i64 d.col) (.slice fa fn fc) (.slice va vn vc) (.slice ma mn mc) (.slice ia inn ic))
   have HGY : Hid (w.grownBy (S8 W5 w.heap.size 0 (.int .i64 d.kind) (.string (mkB d.name)) (.int .i64 d.line) (.int .i64 d.col) (.slice fa fn fc) (.slice va vn vc) (.slice ma mn mc) (.slice ia inn ic)) (some R)) := S8_step (o := .cells z8 69) (Nat.le_refl _) (HGI.out.trans hg5) _ _ _ _ _ _ _ _
   have HRY : Hid (DrAt (S8 W5 w.heap.size 0 (.int .i64 d.kind) (.string (mkB d.name)) (.int .i64 d.line) (.int .i64 d.col) (.slice fa fn fc) (.slice va vn vc) (.slice ma mn mc) (.slice ia inn ic)) R en CH.2) := hr5.old fun k hk => S8_far _ _ _ _ _ _ _ _ _ _ _ k (by omega)
   have HKD : Hid (Kids 9 (S8 W5 w.heap.size 0 (.int .i64 d.kind) (.string (mkB d.name)) (.int .i64 d.line) (.int .i64 d.col) (.slice fa fn fc) (.slice va vn vc) (.slice ma mn mc) (.slice ia inn ic)) (fun b => w.heap.size + 2 ≤ b ∧ b < (S8 W5 w.heap.size 0 (.int .i64 d.kind) (.string (mkB d.name)) (.int .i64 d.line) (.int .i64 d.col) (.slice fa fn fc) (.slice va vn vc) (.slice ma mn mc) (.slice ia inn ic)).heap.size) (.slice fa fn fc) (.slice va vn vc) (.slice ma mn mc) (.slice ia inn ic) d) := by
    refine (?_ : Kids _ _ _ _ _ _ _ _)
    exact (hkid.old fun b hb => S8_far _ _ _ _ _ _ _ _ _ _ _ b (by have := hb.1; omega)).more fun b hb => ⟨by have := hb.1; omega, by rw [S8_size]; exact hb.2⟩
   have HDD := Lib.hid hd
   have i5 := HI5.out
   obtain ⟨c0, c1, c2, c3, c4, c5, c6, c7, hfz⟩ : W5.cell? ⟨w.heap.size, 0, none⟩ = some (.int .i64 0) ∧ W5.cell? ⟨w.heap.size, 1, none⟩ = some (.string ⟨#[]⟩) ∧ W5.cell? ⟨w.heap.size, 2, none⟩ = some (.int .i64 0) ∧ W5.cell? ⟨w.heap.size, 3, none⟩ = some (.int .i64 0) ∧ W5.cell? ⟨w.heap.size, 4, none⟩ = some (.slice none 0 0) ∧ W5.cell? ⟨w.heap.size, 5, none⟩ = some (.slice none 0 0) ∧ W5.cell? ⟨w.heap.size, 6, none⟩ = some (.slice none 0 0) ∧ W5.cell? ⟨w.heap.size, 7, none⟩ = some (.slice none 0 0) ∧ ∀ j, W5.frozen? ⟨w.heap.size, j, none⟩ = false := by
    refine ⟨?_, ?_, ?_, ?_, ?_, ?_, ?_, ?_, ?_⟩
    all_goals simp [World.cell?, World.frozen?, i5]
   have fz0 := hfz 0
   have fz1 := hfz 1
   have fz2 := hfz 2
   have fz3 := hfz 3
   have fz4 := hfz 4
   have fz5 := hfz 5
   have fz6 := hfz 6
   have fz7 := hfz 7
   clear hr5 hg5 hkid hd i5 hfz HI5 HRI HI0 HGI
   go_wp2_with fail
   change bodyPost _ _ _ _ _ (S8 W5 w.heap.size 0 (.int .i64 d.kind) (.string (mkB d.name)) (.int .i64 d.line) (.int .i64 d.col) (.slice fa fn fc) (.slice va vn vc) (.slice ma mn mc) (.slice ia inn ic))
   clear c0 c1 c2 c3 c4 c5 c6 c7 fz0 fz1 fz2 fz3 fz4 fz5 fz6 fz7
   generalize S8 W5 w.heap.size 0 (.int .i64 d.kind) (.string (mkB d.name)) (.int .i64 d.line) (.int .i64 d.col) (.slice fa fn fc) (.slice va vn vc) (.slice ma mn mc) (.slice ia inn ic) = Y at *
   have s8 := HS8.out
   have y0 := cell_at s8 0 rfl
   have y1 := cell_at s8 1 rfl
   have y2 := cell_at s8 2 rfl
   have y3 := cell_at s8 3 rfl
   have y4 := cell_at s8 4 rfl
   have y5 := cell_at s8 5 rfl
   have y6 := cell_at s8 6 rfl
   have y7 := cell_at s8 7 rfl
   exact bodyPost_ret (v := .tuple #[.agg #[.int .i64 d.kind, .string (mkB d.name), .int .i64 d.line, .int .i64 d.col, .slice fa fn fc, .slice va vn vc, .slice ma mn mc, .slice ia inn ic], .bool (decide (CH.2.e = 0))]) (by simp [results, Tryz.results75, go_sem, y0, y1, y2, y3, y4, y5, y6, y7]) rfl ⟨d, fa, fn, fc, va, vn, vc, ma, mn, mc, ia, inn, ic, rfl, HDD.out, HRY.out, HGY.out, HKD.out⟩
  ·have hE' : r.is tEnum = false := by simpa using hE
   have b1 : ((mkB r.text).toList == [101, 110, 117, 109]) = false := by rw [mkB_list, ← iE]; exact hE'
   by_cases hS : r.is tService = true
   ·have b2 : ((mkB r.text).toList == [115, 101, 114, 118, 105, 99, 101]) = true := by rw [mkB_list, ← iS]; exact hS
    have hST : declS en r = r.service en := by unfold declS; rw [if_neg hM, if_neg hE, if_pos hS]
    have hRec := fun W hW => serviceD_kids R en r W he hW 9
    obtain ⟨CH, hCH⟩ : ∃ CH, r.service en = CH := ⟨_, rfl⟩
    rw [hST, hCH]
    rw [hCH] at hRec
    clear hCH hST h iM iE iS
    generalize r.text = tx at *
    go_enter Tryz.func75, Tryz.ntmps75
    go_wp2_with fail
    refine hTx.mono ?_
    rintro e w9 ⟨rfl, h9⟩
    have h9 := h9.symm
    subst h9
    clear hTx
    go_wp2_with fail
    refine (hRec _ HRI.out).mono ?_
    generalize w.alloc (.cells z8 69) = V at *
    rintro e W5 ⟨d, fa, fn, fc, va, vn, vc, ma, mn, mc, ia, inn, ic, rfl, hd, hr5, hg5, hkid⟩
    have hz5 := hg5.size
    clear hRec
    have HI5 := Lib.hid (keepG HI0.out hg5 (by omega))
    have HS8 := Lib.hid (set8_flat HI5.out (.int .i64 d.kind) (.string (mkB d.name)) (.int .i64 d.line) (.int .i64 d.col) (.slice fa fn fc) (.slice va vn vc) (.slice ma mn mc) (.slice ia inn ic))
    have HGY : Hid (w.grownBy (S8 W5 w.heap.size 0 (.int .i64 d.kind) (.string (mkB d.name)) (.int .i64 d.line) (.int .i64 d.col) (.slice fa fn fc) (.slice va vn vc) (.slice ma mn mc) (.slice ia inn ic)) (some R)) := S8_step (o := .cells z8 69) (Nat.le_refl _) (HGI.out.trans hg5) _ _ _ _ _ _ _ _
    have HRY : Hid (DrAt (S8 W5 w.heap.size 0 (.int .i64 d.kind) (.string (mkB d.name)) (.int .i64 d.line) (.int .i64 d.col) (.slice fa fn fc) (.slice va vn vc) (.slice ma mn mc) (.slice ia inn ic)) R en CH.2) := hr5.old fun k hk => S8_far _ _ _ _ _ _ _ _ _ _ _ k (by omega)
    have HKD : Hid (Kids 9 (S8 W5 w.heap.size 0 (.int .i64 d.kind) (.string (mkB d.name)) (.int .i64 d.line) (.int .i64 d.col) (.slice fa fn fc) (.slice va vn vc) (.slice ma mn mc) (.slice ia inn ic)) (fun b => w.heap.size + 2 ≤ b ∧ b < (S8 W5 w.heap.size 0 (.int .i64 d.kind) (.string (mkB d.name)) (.int .i64 d.line) (.int .i64 d.col) (.slice fa fn fc) (.slice va vn vc) (.slice ma mn mc) (.slice ia inn ic)).heap.size) (.slice fa fn fc) (.slice va vn vc) (.slice ma mn mc) (.slice ia inn ic) d) := by
     refine (?_ : Kids _ _ _ _ _ _ _ _)
     exact (hkid.old fun b hb => S8_far _ _ _ _ _ _ _ _ _ _ _ b (by have := hb.1; omega)).more fun b hb => ⟨by have := hb.1; omega, by rw [S8_size]; exact hb.2⟩
    have HDD := Lib.hid hd
    have i5 := HI5.out
    obtain ⟨c0, c1, c2, c3, c4, c5, c6, c7, hfz⟩ : W5.cell? ⟨w.heap.size, 0, none⟩ = some (.int .i64 0) ∧ W5.cell? ⟨w.heap.size, 1, none⟩ = some (.string ⟨#[]⟩) ∧ W5.cell? ⟨w.heap.size, 2, none⟩ = some (.int .i64 0) ∧ W5.cell? ⟨w.heap.size, 3, none⟩ = some (.int .i64 0) ∧ W5.cell? ⟨w.heap.size, 4, none⟩ = some (.slice none 0 0) ∧ W5.cell? ⟨w.heap.size, 5, none⟩ = some (.slice none 0 0) ∧ W5.cell? ⟨w.heap.size, 6, none⟩ = some (.slice none 0 0) ∧ W5.cell? ⟨w.heap.size, 7, none⟩ = some (.slice none 0 0) ∧ ∀ j, W5.frozen? ⟨w.heap.size, j, none⟩ = false := by
     refine ⟨?_, ?_, ?_, ?_, ?_, ?_, ?_, ?_, ?_⟩
     all_goals simp [World.cell?, World.frozen?, i5]
    have fz0 := hfz 0
    have fz1 := hfz 1
    have fz2 := hfz 2
    have fz3 := hfz 3
    have fz4 := hfz 4
    have fz5 := hfz 5
    have fz6 := hfz 6
    have fz7 := hfz 7
    clear hr5 hg5 hkid hd i5 hfz HI5 HRI HI0 HGI
    go_wp2_with fail
    change bodyPost _ _ _ _ _ (S8 W5 w.heap.size 0 (.int .i64 d.kind) (.string (mkB d.name)) (.int .i64 d.line) (.int .i64 d.col) (.slice fa fn fc) (.slice va vn vc) (.slice ma mn mc) (.slice ia inn ic))
    clear c0 c1 c2 c3 c4 c5 c6 c7 fz0 fz1 fz2 fz3 fz4 fz5 fz6 fz7
    generalize S8 W5 w.heap.size 0 (.int .i64 d.kind) (.string (mkB d.name)) (.int .i64 d.line) (.int .i64 d.col) (.slice fa fn fc) (.slice va vn vc) (.slice ma mn mc) (.slice ia inn ic) = Y at *
    have s8 := HS8.out
    have y0 := cell_at s8 0 rfl
    have y1 := cell_at s8 1 rfl
    have y2 := cell_at s8 2 rfl
    have y3 := cell_at s8 3 rfl
    have y4 := cell_at s8 4 rfl
    have y5 := cell_at s8 5 rfl
    have y6 := cell_at s8 6 rfl
    have y7 := cell_at s8 7 rfl
    exact bodyPost_ret (v := .tuple #[.agg #[.int .i64 d.kind, .string (mkB d.name), .int .i64 d.line, .int .i64 d.col, .slice fa fn fc, .slice va vn vc, .slice ma mn mc, .slice ia inn ic], .bool (decide (CH.2.e = 0))]) (by simp [results, Tryz.results75, go_sem, y0, y1, y2, y3, y4, y5, y6, y7]) rfl ⟨d, fa, fn, fc, va, vn, vc, ma, mn, mc, ia, inn, ic, rfl, HDD.out, HRY.out, HGY.out, HKD.out⟩
   ·have hS' : r.is tService = false := by simpa using hS
    have b2 : ((mkB r.text).toList == [115, 101, 114, 118, 105, 99, 101]) = false := by rw [mkB_list, ← iS]; exact hS'
    have hST : declS en r = (⟨0, [], 0, 0, [], [], [], []⟩, r.fail 7 (r.here en)) := by unfold declS; rw [if_neg hM, if_neg hE, if_neg hS]
    have hRec := fun W hW => refuseD_any R en r W he hW
    have hCE := Rd.fail_e r 7 (r.here en) (by decide)
    rw [hST]
    obtain ⟨CH, hCH⟩ : ∃ CH : Dc × Rd, ((⟨0, [], 0, 0, [], [], [], []⟩ : Dc), r.fail 7 (r.here en)) = CH := ⟨_, rfl⟩
    have hC2 : r.fail 7 (r.here en) = CH.2 := by rw [← hCH]
    rw [hC2] at hRec hCE
    rw [hCH]
    have HDC : Hid (decide (CH.2.e = 0) = false) := by refine (?_ : _ = _); exact decide_eq_false hCE
    clear hCH hST h iM iE iS hC2 hCE
    generalize r.text = tx at *
    go_enter Tryz.func75, Tryz.ntmps75
    go_wp2_with fail
    refine hTx.mono ?_
    rintro e w9 ⟨rfl, h9⟩
    have h9 := h9.symm
    subst h9
    clear hTx
    go_wp2_with fail
    refine (hRec _ HRI.out).mono ?_
    generalize w.alloc (.cells z8 69) = V at *
    rintro e W5 ⟨rfl, hr5, hg5⟩
    have hz5 := hg5.size
    have HI5 := Lib.hid (keepG HI0.out hg5 (by omega))
    have HS8 := Lib.hid (set8_flat HI5.out (.int .i64 0) (.string ⟨#[]⟩) (.int .i64 0) (.int .i64 0) (.slice none 0 0) (.slice none 0 0) (.slice none 0 0) (.slice none 0 0))
    have HGY : Hid (w.grownBy (S8 W5 w.heap.size 0 (.int .i64 0) (.string ⟨#[]⟩) (.int .i64 0) (.int .i64 0) (.slice none 0 0) (.slice none 0 0) (.slice none 0 0) (.slice none 0 0)) (some R)) := S8_step (o := .cells z8 69) (Nat.le_refl _) (HGI.out.trans hg5) _ _ _ _ _ _ _ _
    have HRY : Hid (DrAt (S8 W5 w.heap.size 0 (.int .i64 0) (.string ⟨#[]⟩) (.int .i64 0) (.int .i64 0) (.slice none 0 0) (.slice none 0 0) (.slice none 0 0) (.slice none 0 0)) R en CH.2) := hr5.old fun k hk => S8_far _ _ _ _ _ _ _ _ _ _ _ k (by omega)
    have i5 := HI5.out
    obtain ⟨c0, c1, c2, c3, c4, c5, c6, c7, hfz⟩ : W5.cell? ⟨w.heap.size, 0, none⟩ = some (.int .i64 0) ∧ W5.cell? ⟨w.heap.size, 1, none⟩ = some (.string ⟨#[]⟩) ∧ W5.cell? ⟨w.heap.size, 2, none⟩ = some (.int .i64 0) ∧ W5.cell? ⟨w.heap.size, 3, none⟩ = some (.int .i64 0) ∧ W5.cell? ⟨w.heap.size, 4, none⟩ = some (.slice none 0 0) ∧ W5.cell? ⟨w.heap.size, 5, none⟩ = some (.slice none 0 0) ∧ W5.cell? ⟨w.heap.size, 6, none⟩ = some (.slice none 0 0) ∧ W5.cell? ⟨w.heap.size, 7, none⟩ = some (.slice none 0 0) ∧ ∀ j, W5.frozen? ⟨w.heap.size, j, none⟩ = false := by
     refine ⟨?_, ?_, ?_, ?_, ?_, ?_, ?_, ?_, ?_⟩
     all_goals simp [World.cell?, World.frozen?, i5]
    have fz0 := hfz 0
    have fz1 := hfz 1
    have fz2 := hfz 2
    have fz3 := hfz 3
    have fz4 := hfz 4
    have fz5 := hfz 5
    have fz6 := hfz 6
    have fz7 := hfz 7
    clear hr5 hg5 i5 hfz HI5 HRI HI0 HGI hRec
    go_wp2_with fail
    change bodyPost _ _ _ _ _ (S8 W5 w.heap.size 0 (.int .i64 0) (.string ⟨#[]⟩) (.int .i64 0) (.int .i64 0) (.slice none 0 0) (.slice none 0 0) (.slice none 0 0) (.slice none 0 0))
    clear c0 c1 c2 c3 c4 c5 c6 c7 fz0 fz1 fz2 fz3 fz4 fz5 fz6 fz7
    generalize S8 W5 w.heap.size 0 (.int .i64 0) (.string ⟨#[]⟩) (.int .i64 0) (.int .i64 0) (.slice none 0 0) (.slice none 0 0) (.slice none 0 0) (.slice none 0 0) = Y at *
    have s8 := HS8.out
    have y0 := cell_at s8 0 rfl
    have y1 := cell_at s8 1 rfl
    have y2 := cell_at s8 2 rfl
    have y3 := cell_at s8 3 rfl
    have y4 := cell_at s8 4 rfl
    have y5 := cell_at s8 5 rfl
    have y6 := cell_at s8 6 rfl
    have y7 := cell_at s8 7 rfl
    exact bodyPost_ret (v := .tuple #[.agg #[.int .i64 0, .string (mkB []), .int .i64 0, .int .i64 0, .slice none 0 0, .slice none 0 0, .slice none 0 0, .slice none 0 0], .bool false]) (by simp [results, Tryz.results75, go_sem, y0, y1, y2, y3, y4, y5, y6, y7, mkB]) rfl ⟨⟨0, [], 0, 0, [], [], [], []⟩, none, 0, 0, none, 0, 0, none, 0, 0, none, 0, 0, by rw [HDC.out], fun hx => absurd hx (of_decide_eq_false HDC.out), HRY.out, HGY.out, RowsIn.nil _ _ _ _ _ _, RowsIn.nil _ _ _ _ _ _, RowsIn.nil _ _ _ _ _ _, HeldD.nil _ _ _ _ _⟩
end Go.Proofs.YtpojeinddnjpfaaGreatDoor
