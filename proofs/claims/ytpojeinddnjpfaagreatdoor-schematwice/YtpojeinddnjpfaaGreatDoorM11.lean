/-
  The walk over the program's own member of a reader.
-/
import Derived.Test.YtpojeinddnjpfaaGreatDoorM0
import Derived.Test.YtpojeinddnjpfaaGreatDoorM8
import Derived.Test.YtpojeinddnjpfaaGreatDoorM9
import Derived.Test.YtpojeinddnjpfaaGreatDoorM10
namespace Go.Proofs.YtpojeinddnjpfaaGreatDoor
set_option linter.unusedVariables false
open Go.ChangeShapes Go.WideShapes Go.ChangeAt Go.RowKit

def PAns (en : Int × Int) (k : Nat) (R : Nat) (w : World) (a : Dc × Rd) (x : Ending) (w' : World) : Prop :=
 ∃ (d : Dc) (fa : Option Addr) (fn fc : Nat) (va : Option Addr) (vn vc : Nat) (ma : Option Addr) (mn mc : Nat) (ia : Option Addr) (inn ic : Nat),
  x = .returned (.tuple #[.agg #[.int .i64 d.kind, .string (mkB d.name), .int .i64 d.line, .int .i64 d.col, .slice fa fn fc, .slice va vn vc, .slice ma mn mc, .slice ia inn ic], .bool (decide (a.2.e = 0))]) ∧
  (a.2.e = 0 → d = a.1) ∧ DrAt w' R en a.2 ∧ w.grownBy w' (some R) ∧ Kids k w' (fun b => w.heap.size + 2 ≤ b ∧ b < w'.heap.size) (.slice fa fn fc) (.slice va vn vc) (.slice ma mn mc) (.slice ia inn ic) d
theorem enumD_kids (R : Nat) (en : Int × Int) (r : Rd) (w : World) (he : r.e = 0) (h : DrAt w R en r) (k : Nat) :
  Calls Tryz.prog 117 #[.pointer (some ⟨R, 0, none⟩)] w fun x w' => PAns en k R w (r.enum en) x w' := by
 refine (enumD_any R en r w he h).mono ?_
 rintro e w' ⟨nm, pl, pc, acc, vs, rfl, hd, hr, hg, hown⟩
 obtain ⟨va, vc, rfl⟩ := own_slice hown
 exact ⟨⟨2, nm, pl, pc, [], acc, [], []⟩, none, 0, 0, va, acc.length, vc, none, 0, 0, none, 0, 0, rfl, fun hx => (hd hx).symm, hr, hg, RowsIn.nil _ _ _ _ _ _, rowsIn_own (k := 4) (row := vrow) (fun _ => rfl) hown _ (fun b hb => own_block hown b hb), RowsIn.nil _ _ _ _ _ _, HeldD.nil _ _ _ _ _⟩
theorem serviceD_kids (R : Nat) (en : Int × Int) (r : Rd) (w : World) (he : r.e = 0) (h : DrAt w R en r) (k : Nat) :
  Calls Tryz.prog 118 #[.pointer (some ⟨R, 0, none⟩)] w fun x w' => PAns en k R w (r.service en) x w' := by
 refine (serviceD_any R en r w he h).mono ?_
 rintro e w' ⟨nm, pl, pc, acc, vs, rfl, hd, hr, hg, hown⟩
 obtain ⟨va, vc, rfl⟩ := own_slice hown
 exact ⟨⟨3, nm, pl, pc, [], [], acc, []⟩, none, 0, 0, none, 0, 0, va, acc.length, vc, none, 0, 0, rfl, fun hx => (hd hx).symm, hr, hg, RowsIn.nil _ _ _ _ _ _, RowsIn.nil _ _ _ _ _ _, rowsIn_own (k := 5) (row := mrow) (fun _ => rfl) hown _ (fun b hb => own_block hown b hb), HeldD.nil _ _ _ _ _⟩
def stepB (en : Int × Int) (msg : Rd → Dc × Rd) (q : Rd) (fl : List Fd) (ds : List Dc) : (List Fd × List Dc) × Rd :=
 if q.is tMessage = true then ((fl, ds ++ [(msg q).1]), (msg q).2) else if q.is tEnum = true then ((fl, ds ++ [(q.enum en).1]), (q.enum en).2) else ((fl ++ [(q.field en).1], ds), (q.field en).2)
theorem bodyL_step (en : Int × Int) (msg : Rd → Dc × Rd) (f : Nat) (r : Rd) (fs : List Fd) (ds : List Dc) (h : r.e = 0 ∧ r.is [125] = false) : bodyL en msg (f + 1) r fs ds = bodyL en msg f (stepB en msg r fs ds).2 (stepB en msg r fs ds).1.1 (stepB en msg r fs ds).1.2 := by
 rw [bodyL_go en msg f r fs ds h]
 unfold stepB
 split
 ·rfl
 ·split <;> rfl
theorem set8_flat {W : World} {I : Nat} {T : TypeId} (h : W.heap[I]? = some (.cells z8 T (0, 0))) (x0 x1 x2 x3 x4 x5 x6 x7 : Value) : (S8 W I 0 x0 x1 x2 x3 x4 x5 x6 x7).heap[I]? = some (.cells #[x0, x1, x2, x3, x4, x5, x6, x7] T (0, 0)) := by
 have := set8 h x0 x1 x2 x3 x4 x5 x6 x7
 exact this
theorem setCell_swap (W : World) (a i b j : Nat) (x y : Value) (h : a ≠ b) : (W.setCell ⟨a, i, none⟩ x).setCell ⟨b, j, none⟩ y = (W.setCell ⟨b, j, none⟩ y).setCell ⟨a, i, none⟩ x := by
 unfold World.setCell
 congr 1
 apply Array.ext_getElem?
 intro k
 simp only [Array.getElem?_modify]
 by_cases h1 : a = k
 ·by_cases h2 : b = k
  ·omega
  ·simp [h1, h2]
 ·by_cases h2 : b = k
  ·simp [h1, h2]
  ·simp [h1, h2]
theorem S8_swap {P : World → Prop} {W : World} {g D : Nat} {m j : Nat} {x0 x1 x2 x3 x4 x5 x6 x7 y : Value} (h : g ≠ D) (hP : P ((S8 W g m x0 x1 x2 x3 x4 x5 x6 x7).setCell ⟨D, j, none⟩ y)) : P (S8 (W.setCell ⟨D, j, none⟩ y) g m x0 x1 x2 x3 x4 x5 x6 x7) := by
 unfold S8 at *
 rw [setCell_swap _ g _ D _ _ _ h, setCell_swap _ g _ D _ _ _ h, setCell_swap _ g _ D _ _ _ h, setCell_swap _ g _ D _ _ _ h, setCell_swap _ g _ D _ _ _ h, setCell_swap _ g _ D _ _ _ h, setCell_swap _ g _ D _ _ _ h, setCell_swap _ g _ D _ _ _ h] at hP
 exact hP
theorem S8_step {we W5 : World} {I R : Nat} {o : Obj} (hI : we.heap.size ≤ I) (hg : we.grownBy W5 (some R)) (x0 x1 x2 x3 x4 x5 x6 x7 : Value) : we.grownBy (S8 W5 I 0 x0 x1 x2 x3 x4 x5 x6 x7) (some R) :=
 grow_then hg (S8_grown _ _ _ _ _ _ _ _ _ _ _) (fun b hb => by cases hb; exact .inl hI)
set_option maxHeartbeats 16000000 in
set_option maxRecDepth 20000 in
theorem memberD_any {f : Nat} {w0 we : World} {R : Nat} {en : Int × Int} {q : Rd} {nm : List UInt8} {pl pc : Int} {fs ins : Value} {fl : List Fd} {ds : List Dc} {rs : List (List Value)} (h : Dm f w0 we R en q nm pl pc fs ins fl ds rs) (he : q.e = 0) (hbd : fl.length ≤ 100000) (hbd2 : ds.length ≤ 100000)
  (msg : Rd → Dc × Rd) (depth : Nat) (hdp : depth ≤ 100) (hmsg : ∀ W, DrAt W R en q → Calls Tryz.prog 116 #[.pointer (some ⟨R, 0, none⟩), .int .i64 ((depth + 1 : Nat) : Int)] W fun x w' => PAns en f R W (msg q) x w') :
  Calls Tryz.prog 160 #[.pointer (some ⟨R, 0, none⟩), .pointer (some ⟨w0.heap.size + 1, 0, none⟩), .int .i64 (depth : Int)] we fun x w' => ∃ (fl' : List Fd) (ds' : List Dc) (rs' : List (List Value)) (fs' ins' : Value), x = .returned (.bool (decide ((stepB en msg q fl ds).2.e = 0))) ∧
   ((stepB en msg q fl ds).2.e = 0 → fl' = (stepB en msg q fl ds).1.1 ∧ ds' = (stepB en msg q fl ds).1.2) ∧ fl'.length + ds'.length = fl.length + ds.length + 1 ∧ Dm f w0 w' R en (stepB en msg q fl ds).2 nm pl pc fs' ins' fl' ds' rs' := by
 have hlt := h.lo.lt
 have hszw := h.lo.size
 have HD0 := Lib.hid h
 have HI0 := Lib.hid (alloc_heap_new we (.cells z8 69))
 have hTx := textD_any R en q (we.alloc (.cells z8 69)) (h.lo.rd.alloc _)
 have HRI := Lib.hid (h.lo.rd.alloc (.cells z8 69))
 have iM := Rd.is_text (t := tMessage) he (by decide)
 have iE := Rd.is_text (t := tEnum) he (by decide)
 have hwr : IntKind.i64.wrap ((depth : Int) + 1) = ((depth + 1 : Nat) : Int) := by rw [IntKind.wrap_i64]; omega
 obtain ⟨fa0, fc0, rfl⟩ := own_slice h.ownF
 obtain ⟨ia0, ic0, rfl⟩ := own_slice h.decls.own
 have HFO : Hid (∀ b, (Value.slice fa0 fl.length fc0).ownBlock = some b → b < we.heap.size) := fun b hb => (own_block h.ownF b hb).2
 have HIO : Hid (∀ b, (Value.slice ia0 ds.length ic0).ownBlock = some b → b < we.heap.size) := fun b hb => (own_block h.decls.own b hb).2
 have HGI : Hid (we.grownBy (we.alloc (.cells z8 69)) (some R)) := World.grownBy_alloc we _ _
 have hsI : (we.alloc (.cells z8 69)).heap.size = we.heap.size + 1 := by simp
 by_cases hM : q.is tMessage = true
 ·have b0 : ((mkB q.text).toList == [109, 101, 115, 115, 97, 103, 101]) = true := by rw [mkB_list, ← iM]; exact hM
  have hRec := hmsg
  have hST : stepB en msg q fl ds = ((fl, ds ++ [(msg q).1]), (msg q).2) := by unfold stepB; rw [if_pos hM]
  clear hM iM iE hmsg
  generalize q.text = tx at *
  obtain ⟨CH, hCH⟩ : ∃ CH, msg q = CH := ⟨_, rfl⟩
  rw [hCH] at hRec hST
  have HST := Lib.hid hST
  clear hCH hST h
  go_enter Tryz.func160, Tryz.ntmps160
  go_wp2_with fail
  refine hTx.mono ?_
  rintro e w9 ⟨rfl, h9⟩
  have h9 := h9.symm
  subst h9
  clear hTx
  go_wp2_with fail
  refine (hRec _ HRI.out).mono ?_
  generalize we.alloc (.cells z8 69) = V at *
  rintro e W5 ⟨d, fa, fn, fc, va, vn, vc, ma, mn, mc, ia, inn, ic, rfl, hd, hr5, hg5, hkid⟩
  have hz5 := hg5.size
  have HI5 := Lib.hid (keepG HI0.out hg5 (by omega))
  have HS8 := Lib.hid (set8_flat HI5.out (.int .i64 d.kind) (.string (mkB d.name)) (.int .i64 d.line) (.int .i64 d.col) (.slice fa fn fc) (.slice va vn vc) (.slice ma mn mc) (.slice ia inn ic))
  have hgY : we.grownBy (S8 W5 we.heap.size 0 (.int .i64 d.kind) (.string (mkB d.name)) (.int .i64 d.line) (.int .i64 d.col) (.slice fa fn fc) (.slice va vn vc) (.slice ma mn mc) (.slice ia inn ic)) (some R) := S8_step (o := .cells z8 69) (Nat.le_refl _) (HGI.out.trans hg5) _ _ _ _ _ _ _ _
  have hrY : DrAt (S8 W5 we.heap.size 0 (.int .i64 d.kind) (.string (mkB d.name)) (.int .i64 d.line) (.int .i64 d.col) (.slice fa fn fc) (.slice va vn vc) (.slice ma mn mc) (.slice ia inn ic)) R en CH.2 := hr5.old fun k hk => S8_far _ _ _ _ _ _ _ _ _ _ _ k (by omega)
  have HDY := Lib.hid (HD0.out.step hrY hgY)
  have HKD : Hid (Kids f (S8 W5 we.heap.size 0 (.int .i64 d.kind) (.string (mkB d.name)) (.int .i64 d.line) (.int .i64 d.col) (.slice fa fn fc) (.slice va vn vc) (.slice ma mn mc) (.slice ia inn ic)) (AwayE w0 (S8 W5 we.heap.size 0 (.int .i64 d.kind) (.string (mkB d.name)) (.int .i64 d.line) (.int .i64 d.col) (.slice fa fn fc) (.slice va vn vc) (.slice ma mn mc) (.slice ia inn ic)) (.slice fa0 fl.length fc0) (.slice ia0 ds.length ic0)) (.slice fa fn fc) (.slice va vn vc) (.slice ma mn mc) (.slice ia inn ic) d) := by
   refine (?_ : Kids _ _ _ _ _ _ _ _)
   refine (hkid.old fun b hb => S8_far _ _ _ _ _ _ _ _ _ _ _ b (by have := hb.1; omega)).more fun b hb => ⟨by have := hb.1; omega, by rw [S8_size]; exact hb.2, fun e => by have := HFO.out b e; have := hb.1; omega, fun e => by have := HIO.out b e; have := hb.1; omega⟩
  have HDD := Lib.hid hd
  have i5 := HI5.out
  obtain ⟨c0, c1, c2, c3, c4, c5, c6, c7, hfz⟩ : W5.cell? ⟨we.heap.size, 0, none⟩ = some (.int .i64 0) ∧ W5.cell? ⟨we.heap.size, 1, none⟩ = some (.string ⟨#[]⟩) ∧ W5.cell? ⟨we.heap.size, 2, none⟩ = some (.int .i64 0) ∧ W5.cell? ⟨we.heap.size, 3, none⟩ = some (.int .i64 0) ∧ W5.cell? ⟨we.heap.size, 4, none⟩ = some (.slice none 0 0) ∧ W5.cell? ⟨we.heap.size, 5, none⟩ = some (.slice none 0 0) ∧ W5.cell? ⟨we.heap.size, 6, none⟩ = some (.slice none 0 0) ∧ W5.cell? ⟨we.heap.size, 7, none⟩ = some (.slice none 0 0) ∧ ∀ j, W5.frozen? ⟨we.heap.size, j, none⟩ = false := by
   refine ⟨?_, ?_, ?_, ?_, ?_, ?_, ?_, ?_, ?_⟩
   all_goals simp [World.cell?, World.frozen?, i5]
  have fz0 := hfz 0
  have fz1 := hfz 1
  have fz2 := hfz 2
  have fz3 := hfz 3
  have fz4 := hfz 4
  have fz5 := hfz 5
  have fz6 := hfz 6
  have fz7 := hfz 7
  clear hRec hr5 hg5 hkid hgY hrY hd i5 hfz HI5 HRI HI0 HGI
  go_upto_region 9 with fail
  clear c0 c1 c2 c3 c4 c5 c6 c7 fz0 fz1 fz2 fz3 fz4 fz5 fz6 fz7
  change Code.wp _ _ _ _ (S8 W5 we.heap.size 0 (.int .i64 d.kind) (.string (mkB d.name)) (.int .i64 d.line) (.int .i64 d.col) (.slice fa fn fc) (.slice va vn vc) (.slice ma mn mc) (.slice ia inn ic))
  generalize S8 W5 we.heap.size 0 (.int .i64 d.kind) (.string (mkB d.name)) (.int .i64 d.line) (.int .i64 d.col) (.slice fa fn fc) (.slice va vn vc) (.slice ma mn mc) (.slice ia inn ic) = Y at *
  obtain ⟨I, hI⟩ : ∃ I, we.heap.size = I := ⟨_, rfl⟩
  rw [hI] at HS8 ⊢
  have s8 := HS8.out
  have hIY : I < Y.heap.size := (Array.getElem?_eq_some_iff.1 s8).1
  have s8a : ∀ ob, (Y.alloc ob).heap[I]? = some (.cells #[.int .i64 d.kind, .string (mkB d.name), .int .i64 d.line, .int .i64 d.col, .slice fa fn fc, .slice va vn vc, .slice ma mn mc, .slice ia inn ic] 69 (0, 0)) := fun ob => by rw [alloc_heap_old _ _ _ hIY]; exact s8
  have p0 := cell_at s8 0 rfl
  have q0 : ∀ ob, (Y.alloc ob).cell? ⟨I, 0, none⟩ = some (.int .i64 d.kind) := fun ob => by simp [World.cell?, s8a ob]
  have p1 := cell_at s8 1 rfl
  have q1 : ∀ ob, (Y.alloc ob).cell? ⟨I, 1, none⟩ = some (.string (mkB d.name)) := fun ob => by simp [World.cell?, s8a ob]
  have p2 := cell_at s8 2 rfl
  have q2 : ∀ ob, (Y.alloc ob).cell? ⟨I, 2, none⟩ = some (.int .i64 d.line) := fun ob => by simp [World.cell?, s8a ob]
  have p3 := cell_at s8 3 rfl
  have q3 : ∀ ob, (Y.alloc ob).cell? ⟨I, 3, none⟩ = some (.int .i64 d.col) := fun ob => by simp [World.cell?, s8a ob]
  have p4 := cell_at s8 4 rfl
  have q4 : ∀ ob, (Y.alloc ob).cell? ⟨I, 4, none⟩ = some (.slice fa fn fc) := fun ob => by simp [World.cell?, s8a ob]
  have p5 := cell_at s8 5 rfl
  have q5 : ∀ ob, (Y.alloc ob).cell? ⟨I, 5, none⟩ = some (.slice va vn vc) := fun ob => by simp [World.cell?, s8a ob]
  have p6 := cell_at s8 6 rfl
  have q6 : ∀ ob, (Y.alloc ob).cell? ⟨I, 6, none⟩ = some (.slice ma mn mc) := fun ob => by simp [World.cell?, s8a ob]
  have p7 := cell_at s8 7 rfl
  have q7 : ∀ ob, (Y.alloc ob).cell? ⟨I, 7, none⟩ = some (.slice ia inn ic) := fun ob => by simp [World.cell?, s8a ob]
  have d7 := HDY.out.lo.cells8.1.2.2.2.2.2.2.2
  have d7a := fun ob => (HDY.out.alloc ob).lo.cells8.1.2.2.2.2.2.2.2
  have hDA := HDY.out.drew
  have hKA : Kids f Y.drew (AwayE w0 Y.drew (.slice fa0 fl.length fc0) (.slice ia0 ds.length ic0)) (.slice fa fn fc) (.slice va vn vc) (.slice ma mn mc) (.slice ia inn ic) d := (HKD.out.old (w' := Y.drew) (fun _ _ => rfl)).more fun b hb => hb
  have hix : (ds.length : Int) < (ds.length : Int) + 1 := by omega
  clear s8 s8a HS8 HDY HD0
  go_region_law (
   (refine hDA.pushZ d _ _ _ _ hKA rfl _ _ rfl rfl rfl (by omega) ?_; intro g cap W6 hLo6 hz6 hg6 hLm6; obtain ⟨⟨z0, z1, z2, z3, z4, z5, z6, z7⟩, hzf⟩ := hz6; have hc8 := (hLo6 _ hDA.lo).cells8.1.2.2.2.2.2.2.2; have hf8 := (hLo6 _ hDA.lo).cells8.2.2.2 7; clear hLo6; have n1 : g ≠ w0.heap.size + 1 := (by omega); have n2 : w0.heap.size + 1 ≠ g := (by omega); have g0 := hzf (ds.length * 8); have g1 := hzf (ds.length * 8 + 1); have g2 := hzf (ds.length * 8 + 2); have g3 := hzf (ds.length * 8 + 3); have g4 := hzf (ds.length * 8 + 4); have g5 := hzf (ds.length * 8 + 5); have g6 := hzf (ds.length * 8 + 6); have g7 := hzf (ds.length * 8 + 7); clear hzf; have hLmB := S8_swap (P := fun V => Dm f w0 V R en CH.2 nm pl pc (.slice fa0 fl.length fc0) (.slice (some ⟨g, 0, none⟩) (ds.length + 1) cap) fl (ds ++ [d]) (rs ++ [drow d (.slice fa fn fc) (.slice va vn vc) (.slice ma mn mc) (.slice ia inn ic)])) n1 hLm6; unfold S8 at hLm6 hLmB; have HL6 := Lib.hid hLm6; have HL7 := Lib.hid hLmB; clear hLm6 hLmB; dsimp only))
  all_goals
   clear hDA hKA
   go_wp2_with fail
   go_ret
   refine ⟨fl, ds ++ [d], _, _, _, by rw [HST.out]; rfl, fun hx => ?_, by simp; omega, by rw [HST.out]; first | with_reducible exact HL6.out | with_reducible exact HL7.out⟩
   rw [HST.out] at hx ⊢
   exact ⟨rfl, by rw [HDD.out hx]⟩
 ·have hM' : q.is tMessage = false := by simpa using hM
  have b0 : ((mkB q.text).toList == [109, 101, 115, 115, 97, 103, 101]) = false := by rw [mkB_list, ← iM]; exact hM'
  by_cases hX : q.is tEnum = true
  ·have b1 : ((mkB q.text).toList == [101, 110, 117, 109]) = true := by rw [mkB_list, ← iE]; exact hX
   have hRec := fun W hW => enumD_kids R en q W he hW f
   have hST : stepB en msg q fl ds = ((fl, ds ++ [(q.enum en).1]), (q.enum en).2) := by unfold stepB; rw [if_neg hM, if_pos hX]
   clear hM hM' hX iM iE hmsg
   generalize q.text = tx at *
   obtain ⟨CH, hCH⟩ : ∃ CH, q.enum en = CH := ⟨_, rfl⟩
   rw [hCH] at hRec hST
   have HST := Lib.hid hST
   clear hCH hST h
   go_enter Tryz.func160, Tryz.ntmps160
   go_wp2_with fail
   refine hTx.mono ?_
   rintro e w9 ⟨rfl, h9⟩
   have h9 := h9.symm
   subst h9
   clear hTx
   go_wp2_with fail
   refine (hRec _ HRI.out).mono ?_
   generalize we.alloc (.cells z8 69) = V at *
   rintro e W5 ⟨d, fa, fn, fc, va, vn, vc, ma, mn, mc, ia, inn, ic, rfl, hd, hr5, hg5, hkid⟩
   have hz5 := hg5.size
   have HI5 := Lib.hid (keepG HI0.out hg5 (by omega))
   have HS8 := Lib.hid (set8_flat HI5.out (.int .i64 d.kind) (.string (mkB d.name)) (.int .i64 d.line) (.int .i64 d.col) (.slice fa fn fc) (.slice va vn vc) (.slice ma mn mc) (.slice ia inn ic))
   have hgY : we.grownBy (S8 W5 we.heap.size 0 (.int .i64 d.kind) (.string (mkB d.name)) (.int .i64 d.line) (.int .i64 d.col) (.slice fa fn fc) (.slice va vn vc) (.slice ma mn mc) (.slice ia inn ic)) (some R) := S8_step (o := .cells z8 69) (Nat.le_refl _) (HGI.out.trans hg5) _ _ _ _ _ _ _ _
   have hrY : DrAt (S8 W5 we.heap.size 0 (.int .i64 d.kind) (.string (mkB d.name)) (.int .i64 d.line) (.int .i64 d.col) (.slice fa fn fc) (.slice va vn vc) (.slice ma mn mc) (.slice ia inn ic)) R en CH.2 := hr5.old fun k hk => S8_far _ _ _ _ _ _ _ _ _ _ _ k (by omega)
   have HDY := Lib.hid (HD0.out.step hrY hgY)
   have HKD : Hid (Kids f (S8 W5 we.heap.size 0 (.int .i64 d.kind) (.string (mkB d.name)) (.int .i64 d.line) (.int .i64 d.col) (.slice fa fn fc) (.slice va vn vc) (.slice ma mn mc) (.slice ia inn ic)) (AwayE w0 (S8 W5 we.heap.size 0 (.int .i64 d.kind) (.string (mkB d.name)) (.int .i64 d.line) (.int .i64 d.col) (.slice fa fn fc) (.slice va vn vc) (.slice ma mn mc) (.slice ia inn ic)) (.slice fa0 fl.length fc0) (.slice ia0 ds.length ic0)) (.slice fa fn fc) (.slice va vn vc) (.slice ma mn mc) (.slice ia inn ic) d) := by
    refine (?_ : Kids _ _ _ _ _ _ _ _)
    refine (hkid.old fun b hb => S8_far _ _ _ _ _ _ _ _ _ _ _ b (by have := hb.1; omega)).more fun b hb => ⟨by have := hb.1; omega, by rw [S8_size]; exact hb.2, fun e => by have := HFO.out b e; have := hb.1; omega, fun e => by have := HIO.out b e; have := hb.1; omega⟩
   have HDD := Lib.hid hd
   have i5 := HI5.out
   obtain ⟨c0, c1, c2, c3, c4, c5, c6, c7, hfz⟩ : W5.cell? ⟨we.heap.size, 0, none⟩ = some (.int .i64 0) ∧ W5.cell? ⟨we.heap.size, 1, none⟩ = some (.string ⟨#[]⟩) ∧ W5.cell? ⟨we.heap.size, 2, none⟩ = some (.int .i64 0) ∧ W5.cell? ⟨we.heap.size, 3, none⟩ = some (.int .i64 0) ∧ W5.cell? ⟨we.heap.size, 4, none⟩ = some (.slice none 0 0) ∧ W5.cell? ⟨we.heap.size, 5, none⟩ = some (.slice none 0 0) ∧ W5.cell? ⟨we.heap.size, 6, none⟩ = some (.slice none 0 0) ∧ W5.cell? ⟨we.heap.size, 7, none⟩ = some (.slice none 0 0) ∧ ∀ j, W5.frozen? ⟨we.heap.size, j, none⟩ = false := by
    refine ⟨?_, ?_, ?_, ?_, ?_, ?_, ?_, ?_, ?_⟩
    all_goals simp [World.cell?, World.frozen?, i5]
   have fz0 := hfz 0
   have fz1 := hfz 1
   have fz2 := hfz 2
   have fz3 := hfz 3
   have fz4 := hfz 4
   have fz5 := hfz 5
   have fz6 := hfz 6
   have fz7 := hfz 7
   clear hRec hr5 hg5 hkid hgY hrY hd i5 hfz HI5 HRI HI0 HGI
   go_upto_region 9 with fail
   clear c0 c1 c2 c3 c4 c5 c6 c7 fz0 fz1 fz2 fz3 fz4 fz5 fz6 fz7
   change Code.wp _ _ _ _ (S8 W5 we.heap.size 0 (.int .i64 d.kind) (.string (mkB d.name)) (.int .i64 d.line) (.int .i64 d.col) (.slice fa fn fc) (.slice va vn vc) (.slice ma mn mc) (.slice ia inn ic))
   generalize S8 W5 we.heap.size 0 (.int .i64 d.kind) (.string (mkB d.name)) (.int .i64 d.line) (.int .i64 d.col) (.slice fa fn fc) (.slice va vn vc) (.slice ma mn mc) (.slice ia inn ic) = Y at *
   obtain ⟨I, hI⟩ : ∃ I, we.heap.size = I := ⟨_, rfl⟩
   rw [hI] at HS8 ⊢
   have s8 := HS8.out
   have hIY : I < Y.heap.size := (Array.getElem?_eq_some_iff.1 s8).1
   have s8a : ∀ ob, (Y.alloc ob).heap[I]? = some (.cells #[.int .i64 d.kind, .string (mkB d.name), .int .i64 d.line, .int .i64 d.col, .slice fa fn fc, .slice va vn vc, .slice ma mn mc, .slice ia inn ic] 69 (0, 0)) := fun ob => by rw [alloc_heap_old _ _ _ hIY]; exact s8
   have p0 := cell_at s8 0 rfl
   have q0 : ∀ ob, (Y.alloc ob).cell? ⟨I, 0, none⟩ = some (.int .i64 d.kind) := fun ob => by simp [World.cell?, s8a ob]
   have p1 := cell_at s8 1 rfl
   have q1 : ∀ ob, (Y.alloc ob).cell? ⟨I, 1, none⟩ = some (.string (mkB d.name)) := fun ob => by simp [World.cell?, s8a ob]
   have p2 := cell_at s8 2 rfl
   have q2 : ∀ ob, (Y.alloc ob).cell? ⟨I, 2, none⟩ = some (.int .i64 d.line) := fun ob => by simp [World.cell?, s8a ob]
   have p3 := cell_at s8 3 rfl
   have q3 : ∀ ob, (Y.alloc ob).cell? ⟨I, 3, none⟩ = some (.int .i64 d.col) := fun ob => by simp [World.cell?, s8a ob]
   have p4 := cell_at s8 4 rfl
   have q4 : ∀ ob, (Y.alloc ob).cell? ⟨I, 4, none⟩ = some (.slice fa fn fc) := fun ob => by simp [World.cell?, s8a ob]
   have p5 := cell_at s8 5 rfl
   have q5 : ∀ ob, (Y.alloc ob).cell? ⟨I, 5, none⟩ = some (.slice va vn vc) := fun ob => by simp [World.cell?, s8a ob]
   have p6 := cell_at s8 6 rfl
   have q6 : ∀ ob, (Y.alloc ob).cell? ⟨I, 6, none⟩ = some (.slice ma mn mc) := fun ob => by simp [World.cell?, s8a ob]
   have p7 := cell_at s8 7 rfl
   have q7 : ∀ ob, (Y.alloc ob).cell? ⟨I, 7, none⟩ = some (.slice ia inn ic) := fun ob => by simp [World.cell?, s8a ob]
   have d7 := HDY.out.lo.cells8.1.2.2.2.2.2.2.2
   have d7a := fun ob => (HDY.out.alloc ob).lo.cells8.1.2.2.2.2.2.2.2
   have hDA := HDY.out.drew
   have hKA : Kids f Y.drew (AwayE w0 Y.drew (.slice fa0 fl.length fc0) (.slice ia0 ds.length ic0)) (.slice fa fn fc) (.slice va vn vc) (.slice ma mn mc) (.slice ia inn ic) d := (HKD.out.old (w' := Y.drew) (fun _ _ => rfl)).more fun b hb => hb
   have hix : (ds.length : Int) < (ds.length : Int) + 1 := by omega
   clear s8 s8a HS8 HDY HD0
   go_region_law (
    (refine hDA.pushZ d _ _ _ _ hKA rfl _ _ rfl rfl rfl (by omega) ?_; intro g cap W6 hLo6 hz6 hg6 hLm6; obtain ⟨⟨z0, z1, z2, z3, z4, z5, z6, z7⟩, hzf⟩ := hz6; have hc8 := (hLo6 _ hDA.lo).cells8.1.2.2.2.2.2.2.2; have hf8 := (hLo6 _ hDA.lo).cells8.2.2.2 7; clear hLo6; have n1 : g ≠ w0.heap.size + 1 := (by omega); have n2 : w0.heap.size + 1 ≠ g := (by omega); have g0 := hzf (ds.length * 8); have g1 := hzf (ds.length * 8 + 1); have g2 := hzf (ds.length * 8 + 2); have g3 := hzf (ds.length * 8 + 3); have g4 := hzf (ds.length * 8 + 4); have g5 := hzf (ds.length * 8 + 5); have g6 := hzf (ds.length * 8 + 6); have g7 := hzf (ds.length * 8 + 7); clear hzf; have hLmB := S8_swap (P := fun V => Dm f w0 V R en CH.2 nm pl pc (.slice fa0 fl.length fc0) (.slice (some ⟨g, 0, none⟩) (ds.length + 1) cap) fl (ds ++ [d]) (rs ++ [drow d (.slice fa fn fc) (.slice va vn vc) (.slice ma mn mc) (.slice ia inn ic)])) n1 hLm6; unfold S8 at hLm6 hLmB; have HL6 := Lib.hid hLm6; have HL7 := Lib.hid hLmB; clear hLm6 hLmB; dsimp only))
   all_goals
    clear hDA hKA
    go_wp2_with fail
    go_ret
    refine ⟨fl, ds ++ [d], _, _, _, by rw [HST.out]; rfl, fun hx => ?_, by simp; omega, by rw [HST.out]; first | with_reducible exact HL6.out | with_reducible exact HL7.out⟩
    rw [HST.out] at hx ⊢
    exact ⟨rfl, by rw [HDD.out hx]⟩
  ·have hX' : q.is tEnum = false := by simpa using hX
   have b1 : ((mkB q.text).toList == [101, 110, 117, 109]) = false := by rw [mkB_list, ← iE]; exact hX'
   have hRec := fieldD_any (h.alloc (.cells z8 69)) he hbd
   have hST : stepB en msg q fl ds = ((fl ++ [(q.field en).1], ds), (q.field en).2) := by unfold stepB; rw [if_neg hM, if_neg hX]
   have HST := Lib.hid hST
   clear hM hM' hX hX' iM iE hmsg hST h HD0 HI0 HRI HFO HIO HGI
   generalize q.text = tx at *
   go_enter Tryz.func160, Tryz.ntmps160
   go_wp2_with fail
   refine hTx.mono ?_
   rintro e w9 ⟨rfl, h9⟩
   have h9 := h9.symm
   subst h9
   clear hTx
   go_wp2_with fail
   refine hRec.mono ?_
   rintro e W5 ⟨fd, fs5, rfl, hfd, hD5⟩
   go_wp2_with fail
   go_ret
   refine ⟨fl ++ [fd], ds, rs, fs5, _, by rw [HST.out]; rfl, fun hx => ?_, by simp; omega, by rw [HST.out]; exact hD5⟩
   rw [HST.out] at hx ⊢
   exact ⟨by rw [hfd hx], rfl⟩
end Go.Proofs.YtpojeinddnjpfaaGreatDoor
