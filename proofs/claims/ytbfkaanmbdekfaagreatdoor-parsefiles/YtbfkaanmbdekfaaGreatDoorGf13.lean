/-
  The walk over the document's own field of a reader.
  A list that a function of the document's reader builds in its thing; and the walk over enum.
  The walk over the document's own enum of a reader.
-/
import Derived.Test.YtbfkaanmbdekfaaGreatDoorGf12
import Derived.Deep.Cut
import Derived.Deep.DeepCutAuto
import Derived.Test.YtbfkaanmbdekfaaGreatDoorGf2
import Derived.Deep.AppendLies
namespace Go.Proofs.YtbfkaanmbdekfaaGreatDoor
set_option linter.unusedVariables false
open Go.ChangeShapes Go.WideShapes Go.ChangeAt Go.RowKit

set_option maxHeartbeats 8000000 in
set_option maxRecDepth 20000 in
theorem fieldRd_any (R : Nat) (en : Int × Int) (r : Rd) (w : World) (h : RdAt w R en r) :
    Calls Tryz.prog 50 #[.pointer (some ⟨R, 0, none⟩)] w fun x w' => x = .returned (fval (r.field en).1) ∧ RdAt w' R en (r.field en).2 ∧ w.grownBy w' (some R) := by
  have hlt := h.lt
  have hL0 := Lo.start w h 70 z6 z6
  have HL0 := Lib.hid hL0
  have hIs := isR_any R en r ⟨#[114, 101, 112, 101, 97, 116, 101, 100]⟩ _ hL0.rd
  have hTk := takeR_any R en r ⟨#[114, 101, 112, 101, 97, 116, 101, 100]⟩ _ hL0.rd
  have eR : (ByteArray.mk #[114, 101, 112, 101, 97, 116, 101, 100]).data.toList = tRepeated := rfl
  rw [eR] at hIs hTk
  obtain ⟨FD, hFD⟩ : ∃ FD, r.field en = FD := ⟨_, rfl⟩
  have HFD := Lib.hid hFD
  rw [hFD]
  clear hFD hL0 eR h
  go_enter Tryz.func50, Tryz.ntmps50
  go_wp2_with fail
  generalize (w.alloc (.cells z6 70)).alloc (.cells z6 70) = V at *
  refine hIs.mono ?_
  rintro e w1 ⟨rfl, h1⟩
  have h1 := h1.symm
  subst h1
  clear hIs
  obtain ⟨q1, hq1⟩ : ∃ q1, (if r.is tRepeated = true then r.take en tRepeated else r) = q1 := ⟨_, rfl⟩
  have HQ1 := Lib.hid hq1
  clear hq1
  go_upto_if 5 with fail
  go_cut [] (fun wx => Lo w wx R en q1 70 z6 #[.bool (r.is tRepeated), .string ⟨#[]⟩, .string ⟨#[]⟩, .int .i64 0, .int .i64 0, .int .i64 0])
  case first =>
    by_cases hi : r.is tRepeated = true
    · have hq : r.take en tRepeated = q1 := by rw [← HQ1.out, if_pos hi]
      rw [hq] at hTk
      rw [hi]
      clear hq
      go_wp2_with fail
      refine hTk.mono ?_
      rintro e w2 ⟨rfl, hr2, hg2⟩
      have HL2 := Lib.hid (HL0.out.step hr2 hg2)
      obtain ⟨k1, k2, _, _⟩ := HL2.out.cell 0
      have k1' : w2.cell? ⟨w.heap.size + 1, 0, none⟩ = some (.bool false) := k1
      clear hTk
      go_wp2_with fail
      go_meet
      rw [hi]
      exact HL2.out.set 0 (.bool true)
    · have hi' : r.is tRepeated = false := by simpa using hi
      obtain rfl : q1 = r := by rw [← HQ1.out, if_neg hi]
      rw [hi']
      go_wp2_with fail
      go_meet
      rw [hi']
      exact HL0.out
  case rest =>
    generalize wc = V1 at *
    have HL1 := Lib.hid hcut
    obtain ⟨ad, c, hl, hw, hc, c0, c1, c2, c3, c4, c5, hf⟩ := hcut.rd.get
    have HW := Lib.hid hw
    have HC := Lib.hid hc
    have f0 := hf 0
    clear hcut hTk HL0 hc hf c1 c2 c3 c4
    have hSc := fun (t : List UInt8) W => scalarR_any (mkB t) W
    go_upto_region 5 with fail
    go_cut [32] (fun s32 wx => s32 = .bool q1.isScal ∧ wx = V1)
    case first =>
      by_cases hi : q1.isScal = true
      · obtain ⟨y, t, hrl, he, hk⟩ := Rd.scal_head hi
        rw [hrl] at c0 hw
        rw [he] at c5
        obtain ⟨g, o, rfl, hg, d0, d1, d2, d3⟩ := hw.head
        have c0' : V1.cell? ⟨R, 0, none⟩ = some (.slice (some ⟨g, o, none⟩) (t.length + 1) c) := c0
        have hz : (0 : Int) < (t.length : Int) + 1 := by omega
        have hS := fun W => hSc y.text W
        rw [mkB_list] at hS
        generalize scalarOf y.text = sc at *
        clear c0 hw hSc hrl he
        go_wp2_with (go_at_call 78; refine (hS _).mono ?_; rintro e w' ⟨rfl, rfl⟩)
        go_meet
        exact ⟨by rw [hi], rfl⟩
      · have hi' : q1.isScal = false := by simpa using hi
        rcases Rd.scal_not hi with he | ⟨he, hrl⟩ | ⟨y, t, he, hrl, hk⟩
        · have he' : (q1.e == 0) = false := by simpa using he
          clear c0 hw he hSc
          go_wp2_with fail
          go_meet
          exact ⟨by rw [hi'], rfl⟩
        · rw [hrl] at c0
          rw [he] at c5
          have c0' : V1.cell? ⟨R, 0, none⟩ = some (.slice ad 0 c) := c0
          clear c0 hw he hSc
          go_wp2_with fail
          go_meet
          exact ⟨by rw [hi'], rfl⟩
        · rw [hrl] at c0 hw
          rw [he] at c5
          obtain ⟨g, o, rfl, hg, d0, d1, d2, d3⟩ := hw.head
          have c0' : V1.cell? ⟨R, 0, none⟩ = some (.slice (some ⟨g, o, none⟩) (t.length + 1) c) := c0
          have hz : (0 : Int) < (t.length : Int) + 1 := by omega
          have hS := fun W => hSc y.text W
          rw [mkB_list] at hS
          generalize scalarOf y.text = sc at *
          clear c0 hw hSc hrl he
          go_wp2_with (go_at_call 78; refine (hS _).mono ?_; rintro e w' ⟨rfl, rfl⟩)
          go_meet
          exact ⟨by rw [hi', decide_eq_false (by omega)], rfl⟩
    case rest =>
      obtain ⟨rfl, rfl⟩ := hcut
      clear hSc
      have hPa := pathRd_any R en q1 _ HL1.out.rd
      obtain ⟨l1, l2, _, _⟩ := HL1.out.cell 1
      have l1' : wc.cell? ⟨w.heap.size + 1, 1, none⟩ = some (.string ⟨#[]⟩) := l1
      clear l1
      obtain ⟨TY, hTY⟩ : ∃ TY, q1.typ en = TY := ⟨_, rfl⟩
      have HTY := Lib.hid hTY
      clear hTY
      go_upto_if 32 with fail
      go_cut [] (fun wx => Lo w wx R en TY.2 70 z6 #[.bool (r.is tRepeated), .string (mkB TY.1), .string ⟨#[]⟩, .int .i64 0, .int .i64 0, .int .i64 0])
      case first =>
        by_cases hi : q1.isScal = true
        · obtain ⟨y, t, hrl, he, hk⟩ := Rd.scal_head hi
          have hT1 : TY = (y.text, q1.tail) := by rw [← HTY.out]; unfold Rd.typ Rd.text; rw [if_pos hi, hrl]
          have hw0 := hw
          rw [hrl] at hw0
          obtain ⟨g, o, rfl, hg, d0, d1, d2, d3⟩ := hw0.head
          obtain ⟨ad', hdd, hcut⟩ := cut_words g o t.length c (by rw [hrl] at hl; simpa using hl)
          have HLT : Hid (∀ W, Lo w W R en q1 70 z6 #[.bool (r.is tRepeated), .string (mkB y.text), .string ⟨#[]⟩, .int .i64 0, .int .i64 0, .int .i64 0] → (∀ k, k < R + 1 → W.heap[k]? = wc.heap[k]?) → Lo w (W.setCell ⟨R, 0, none⟩ (.slice ad' t.length (c - 1))) R en q1.tail 70 z6 #[.bool (r.is tRepeated), .string (mkB y.text), .string ⟨#[]⟩, .int .i64 0, .int .i64 0, .int .i64 0]) := fun W hLo hbk =>
            hLo.tail (hLo.rd.tail hrl (by rw [hbk R (by omega)]; exact HC.out) (HW.out.old fun k hk => hbk k (by omega)) hl ad' hdd)
          have HLS := Lib.hid (HL1.out.set 1 (.string (mkB y.text)))
          rw [hi]
          rw [hrl] at c0
          have c0' : wc.cell? ⟨R, 0, none⟩ = some (.slice (some ⟨g, o, none⟩) (t.length + 1) c) := c0
          have hneR : w.heap.size + 1 ≠ R := by omega
          clear c0 hw0 hw hPa hrl he hdd
          go_wp2_with fail
          go_meet
          rw [hT1]
          exact HLT.out _ HLS.out (fun k hk => Below.heap_setCell _ _ _ _ (by show k ≠ w.heap.size + 1; omega))
        · have hi' : q1.isScal = false := by simpa using hi
          have hT1 : q1.path en = TY := by rw [← HTY.out]; unfold Rd.typ; rw [if_neg hi]
          rw [hT1] at hPa
          rw [hi']
          clear hw hT1
          go_wp2_with fail
          refine hPa.mono ?_
          rintro e w3 ⟨rfl, hr3, hg3, _⟩
          have HL3 := Lib.hid (HL1.out.step hr3 hg3)
          obtain ⟨m1, m2, _, _⟩ := HL3.out.cell 1
          have m1' : w3.cell? ⟨w.heap.size + 1, 1, none⟩ = some (.string ⟨#[]⟩) := m1
          clear hPa
          go_wp2_with fail
          go_meet
          exact HL3.out.set 1 _
      case rest =>
        clear hPa hw HW HC l1' l2 c0 c5 f0 hl HL1
        generalize wc = V2 at *
        have HL2 := Lib.hid hcut
        have hNa := nameRd_any R en TY.2 _ hcut.rd
        clear hcut
        go_wp2_with fail
        refine hNa.mono ?_
        rintro e w3 ⟨rfl, hr3, hg3⟩
        have HL3 := Lib.hid (HL2.out.step hr3 hg3)
        obtain ⟨m2, n2, _, _⟩ := HL3.out.cell 2
        obtain ⟨m4, n4, _, _⟩ := HL3.out.cell 4
        obtain ⟨m5, n5, _, _⟩ := HL3.out.cell 5
        have m2' : w3.cell? ⟨w.heap.size + 1, 2, none⟩ = some (.string ⟨#[]⟩) := m2
        have m4' : w3.cell? ⟨w.heap.size + 1, 4, none⟩ = some (.int .i64 0) := m4
        have m5' : w3.cell? ⟨w.heap.size + 1, 5, none⟩ = some (.int .i64 0) := m5
        have HL4a := HL3.out.set 2 (.string (mkB TY.2.nameT))
        have HL4b : Lo w _ R en (TY.2.name en) 70 z6 #[.bool (r.is tRepeated), .string (mkB TY.1), .string (mkB TY.2.nameT), .int .i64 0, .int .i64 0, .int .i64 0] := HL4a
        have HL4c : Lo w _ R en (TY.2.name en) 70 z6 #[.bool (r.is tRepeated), .string (mkB TY.1), .string (mkB TY.2.nameT), .int .i64 0, .int .i64 (TY.2.nameP en).1, .int .i64 0] := HL4b.set 4 (.int .i64 (TY.2.nameP en).1)
        have HL4d : Lo w _ R en (TY.2.name en) 70 z6 #[.bool (r.is tRepeated), .string (mkB TY.1), .string (mkB TY.2.nameT), .int .i64 0, .int .i64 (TY.2.nameP en).1, .int .i64 (TY.2.nameP en).2] := HL4c.set 5 (.int .i64 (TY.2.nameP en).2)
        have HL4 := Lib.hid HL4d
        clear HL4a HL4b HL4c HL4d
        have hTk := fun W hW => takeR_any R en (TY.2.name en) ⟨#[61]⟩ W hW
        have e61 : (ByteArray.mk #[61]).data.toList = [61] := rfl
        rw [e61] at hTk
        clear hNa m2 m4 m5 hr3 hg3 HL2 e61
        go_wp2_with fail
        refine (hTk _ HL4.out.rd).mono ?_
        clear m2' m4' m5' n2 n4 n5
        rintro e w4 ⟨rfl, hr4, hg4⟩
        have HL5 := Lib.hid (HL4.out.step hr4 hg4)
        have hNu := numberRd_any R en ((TY.2.name en).take en [61]) w4 hr4
        clear hTk hr4 hg4 HL3 HL4
        go_wp2_with fail
        refine hNu.mono ?_
        rintro e w5 ⟨rfl, hr5, hg5⟩
        have HL6 := Lib.hid (HL5.out.step hr5 hg5)
        obtain ⟨m3, n3, _, _⟩ := HL6.out.cell 3
        have m3' : w5.cell? ⟨w.heap.size + 1, 3, none⟩ = some (.int .i64 0) := m3
        have HL7a : Lo w _ R en (((TY.2.name en).take en [61]).number en) 70 z6 #[.bool (r.is tRepeated), .string (mkB TY.1), .string (mkB TY.2.nameT), .int .i64 ((TY.2.name en).take en [61]).numberV, .int .i64 (TY.2.nameP en).1, .int .i64 (TY.2.nameP en).2] := HL6.out.set 3 (.int .i64 ((TY.2.name en).take en [61]).numberV)
        have HL7 := Lib.hid HL7a
        clear HL7a
        have hTk := fun W hW => takeR_any R en (((TY.2.name en).take en [61]).number en) ⟨#[59]⟩ W hW
        have e59 : (ByteArray.mk #[59]).data.toList = [59] := rfl
        rw [e59] at hTk
        clear hNu m3 hr5 hg5 HL5 e59
        go_wp2_with fail
        refine (hTk _ HL7.out.rd).mono ?_
        clear m3' n3
        rintro e w6 ⟨rfl, hr6, hg6⟩
        have HL8 := Lib.hid (HL7.out.step hr6 hg6)
        have hA := HL8.out.ans
        have HFE : Hid (FD = (⟨r.is tRepeated, TY.1, TY.2.nameT, ((TY.2.name en).take en [61]).numberV, (TY.2.nameP en).1, (TY.2.nameP en).2⟩, (((TY.2.name en).take en [61]).number en).take en [59])) := by
          refine (?_ : _ = _)
          rw [← HFD.out, ← HTY.out, ← HQ1.out]; rfl
        have s6 := set6 hA (.bool (r.is tRepeated)) (.string (mkB TY.1)) (.string (mkB TY.2.nameT)) (.int .i64 ((TY.2.name en).take en [61]).numberV) (.int .i64 (TY.2.nameP en).1) (.int .i64 (TY.2.nameP en).2)
        obtain ⟨c0, _, a0, b0⟩ := HL8.out.cell 0
        obtain ⟨c1, _, a1, b1⟩ := HL8.out.cell 1
        obtain ⟨c2, _, a2, b2⟩ := HL8.out.cell 2
        obtain ⟨c3, _, a3, b3⟩ := HL8.out.cell 3
        obtain ⟨c4, _, a4, b4⟩ := HL8.out.cell 4
        obtain ⟨c5, _, a5, b5⟩ := HL8.out.cell 5
        have HS6 := Lib.hid s6
        have HR6 := Lib.hid (((((((HL8.out.rd.far w.heap.size 0 hlt (.bool (r.is tRepeated))).far w.heap.size 1 hlt (.string (mkB TY.1))).far w.heap.size 2 hlt (.string (mkB TY.2.nameT))).far w.heap.size 3 hlt (.int .i64 ((TY.2.name en).take en [61]).numberV)).far w.heap.size 4 hlt (.int .i64 (TY.2.nameP en).1)).far w.heap.size 5 hlt (.int .i64 (TY.2.nameP en).2)))
        have HG6 := Lib.hid (grow_then HL8.out.gr ((grownBy_set w6 w.heap.size 0 (.bool (r.is tRepeated))).trans ((grownBy_set _ w.heap.size 1 (.string (mkB TY.1))).trans ((grownBy_set _ w.heap.size 2 (.string (mkB TY.2.nameT))).trans ((grownBy_set _ w.heap.size 3 (.int .i64 ((TY.2.name en).take en [61]).numberV)).trans ((grownBy_set _ w.heap.size 4 (.int .i64 (TY.2.nameP en).1)).trans (grownBy_set _ w.heap.size 5 (.int .i64 (TY.2.nameP en).2))))))) (fun k hk => by cases hk; exact .inl (Nat.le_refl _)))
        clear s6 hA hTk hr6 hg6 HL6 HL7
        have c0 : w6.cell? ⟨w.heap.size + 1, 0, none⟩ = some (.bool (r.is tRepeated)) := c0
        have c1 : w6.cell? ⟨w.heap.size + 1, 1, none⟩ = some (.string (mkB TY.1)) := c1
        have c2 : w6.cell? ⟨w.heap.size + 1, 2, none⟩ = some (.string (mkB TY.2.nameT)) := c2
        have c3 : w6.cell? ⟨w.heap.size + 1, 3, none⟩ = some (.int .i64 ((TY.2.name en).take en [61]).numberV) := c3
        have c4 : w6.cell? ⟨w.heap.size + 1, 4, none⟩ = some (.int .i64 (TY.2.nameP en).1) := c4
        have c5 : w6.cell? ⟨w.heap.size + 1, 5, none⟩ = some (.int .i64 (TY.2.nameP en).2) := c5
        have a0 : w6.cell? ⟨w.heap.size, 0, none⟩ = some (.bool false) := a0
        have a1 : w6.cell? ⟨w.heap.size, 1, none⟩ = some (.string ⟨#[]⟩) := a1
        have a2 : w6.cell? ⟨w.heap.size, 2, none⟩ = some (.string ⟨#[]⟩) := a2
        have a3 : w6.cell? ⟨w.heap.size, 3, none⟩ = some (.int .i64 0) := a3
        have a4 : w6.cell? ⟨w.heap.size, 4, none⟩ = some (.int .i64 0) := a4
        have a5 : w6.cell? ⟨w.heap.size, 5, none⟩ = some (.int .i64 0) := a5
        go_wp2_with fail
        rw [HFE.out]
        generalize (((((w6.setCell ⟨w.heap.size, 0, none⟩ (.bool (r.is tRepeated))).setCell ⟨w.heap.size, 1, none⟩ (.string (mkB TY.1))).setCell ⟨w.heap.size, 2, none⟩ (.string (mkB TY.2.nameT))).setCell ⟨w.heap.size, 3, none⟩ (.int .i64 ((TY.2.name en).take en [61]).numberV)).setCell ⟨w.heap.size, 4, none⟩ (.int .i64 (TY.2.nameP en).1)).setCell ⟨w.heap.size, 5, none⟩ (.int .i64 (TY.2.nameP en).2) = Y at *
        have s6 := HS6.out
        have r0 : Y.cell? ⟨w.heap.size, 0, none⟩ = some (.bool (r.is tRepeated)) := by simp [World.cell?, s6]
        have r1 : Y.cell? ⟨w.heap.size, 1, none⟩ = some (.string (mkB TY.1)) := by simp [World.cell?, s6]
        have r2 : Y.cell? ⟨w.heap.size, 2, none⟩ = some (.string (mkB TY.2.nameT)) := by simp [World.cell?, s6]
        have r3 : Y.cell? ⟨w.heap.size, 3, none⟩ = some (.int .i64 ((TY.2.name en).take en [61]).numberV) := by simp [World.cell?, s6]
        have r4 : Y.cell? ⟨w.heap.size, 4, none⟩ = some (.int .i64 (TY.2.nameP en).1) := by simp [World.cell?, s6]
        have r5 : Y.cell? ⟨w.heap.size, 5, none⟩ = some (.int .i64 (TY.2.nameP en).2) := by simp [World.cell?, s6]
        refine bodyPost_ret (v := fval ⟨r.is tRepeated, TY.1, TY.2.nameT, ((TY.2.name en).take en [61]).numberV, (TY.2.nameP en).1, (TY.2.nameP en).2⟩) (by unfold fval; simp [results, Tryz.results50, go_sem, r0, r1, r2, r3, r4, r5]) rfl ⟨rfl, HR6.out, HG6.out⟩
end Go.Proofs.YtbfkaanmbdekfaaGreatDoor
namespace Go.Proofs.YtbfkaanmbdekfaaGreatDoor
set_option linter.unusedVariables false
open Go.ChangeShapes Go.WideShapes Go.ChangeAt Go.RowKit

/-- the reader, the answer and the thing, and a slice that the call has made -/
structure Ls (w0 wx : World) (R : Nat) (en : Int × Int) (q : Rd) (T : TypeId) (za cs : Array Value) (E : TypeId) (k : Nat) (v : Value) (n : Nat) (xs : List Value) : Prop where
  lo : Lo w0 wx R en q T za cs
  own : wx.ownsRow (w0.heap.size + 2) E k v n xs
section
variable {w0 wx w' : World} {R : Nat} {en : Int × Int} {q q' : Rd} {T : TypeId} {za cs : Array Value} {E : TypeId} {k : Nat} {v : Value} {n : Nat} {xs : List Value}
theorem Ls.step (h : Ls w0 wx R en q T za cs E k v n xs) (hr : RdAt w' R en q') (hg : wx.grownBy w' (some R)) : Ls w0 w' R en q' T za cs E k v n xs := by
  have hl := h.lo.lt
  refine ⟨h.lo.step hr hg, own_keep h.own fun b hb => hg.block b (own_block h.own b hb).2 ?_⟩
  intro e; cases e
  have := (own_block h.own R hb).1
  omega
theorem Ls.below (h : Ls w0 wx R en q T za cs E k v n xs) (hb : Below wx.heap.size wx w') : Ls w0 w' R en q T za cs E k v n xs := h.step (h.lo.rd.below hb) (grownBy_below hb _)
theorem Ls.alloc (h : Ls w0 wx R en q T za cs E k v n xs) (o : Obj) : Ls w0 (wx.alloc o) R en q T za cs E k v n xs := h.step (h.lo.rd.alloc o) (World.grownBy_alloc _ _ _)
theorem Ls.far (h : Ls w0 wx R en q T za cs E k v n xs) (g j : Nat) (hg : w0.heap.size + 2 ≤ g) (hne : v.ownBlock ≠ some g) (x : Value) : Ls w0 (wx.setCell ⟨g, j, none⟩ x) R en q T za cs E k v n xs :=
  ⟨h.lo.far g j hg x, own_keep h.own fun b hb => Below.heap_setCell _ _ _ _ (fun e => hne (by rw [hb]; exact congrArg some e))⟩
theorem Ls.set (h : Ls w0 wx R en q T za cs E k v n xs) (j : Nat) (x : Value) : Ls w0 (wx.setCell ⟨w0.heap.size + 1, j, none⟩ x) R en q T za (cs.setIfInBounds j x) E k v n xs :=
  ⟨h.lo.set j x, own_keep h.own fun b hb => Below.heap_setCell _ _ _ _ (fun e => by have h1 := (own_block h.own b hb).1; have e' : b = w0.heap.size + 1 := e; omega)⟩
/-- one more -/
theorem Ls.push (h : Ls w0 wx R en q T za cs E k v n xs) {ops : Array Oper} {rest : List Oper} {o : Oper} {a : Act} {Q : Exit → Act → World → Prop} (hgd : o.guard = none) (s' x' : Operand) (t : TypeId)
    (ho : o.op = .call { callee := .builtin .append, args := #[s', x'], argTypes := #[t, t] }) (ht : Tryz.prog.underlying t = some (.slice E)) (z : Value) (bytes : Nat)
    (hi : (Tryz.prog.info? E).map (fun i => (i.zero, i.size, i.bytes)) = some (some z, k, bytes)) (hzs : z.cells.size = k) (hk0 : 0 < k) (row : List Value) (hrow : row.length = k) (hone : ∀ u ∈ row, u.oneCell' = true)
    (crow : Array Value) (hcs : crow = row.toArray) (hs : a.eval s' = v) (hx : a.eval x' = .slice (some ⟨wx.heap.size, 0, none⟩) 1 1) (hbd : n ≤ 100000) (hby : bytes ≤ 1000)
    (hk : ∀ g cap W, Ls w0 W R en q T za cs E k (.slice (some ⟨g, 0, none⟩) (n + 1) cap) (n + 1) (xs ++ row) → wpList Tryz.prog ops Q rest (a.put o.dst (.slice (some ⟨g, 0, none⟩) (n + 1) cap)) W) :
    wpList Tryz.prog ops Q (o :: rest) a (wx.alloc (.cells crow E)) := by
  subst hcs
  have hsz := h.lo.size
  have hl := h.lo.lt
  have ha := h.alloc (.cells row.toArray E)
  obtain ⟨i0, hi0, hz0, hz1, hz2⟩ := info_parts hi
  have hmul : (n + 1) * bytes ≤ 100001 * 1000 := Nat.mul_le_mul (by omega) hby
  refine wpList_append_lies _ hgd s' x' t ho (w0.heap.size + 2) E i0 z k bytes ht hi0 hz0 hz1 hz2 hzs hk0 v n xs hs ha.own ⟨wx.heap.size, 0, none⟩ 1 1 row hx (by rw [hrow]; omega) ?_ hone (by decide) (by unfold maxLen; omega) (by omega) (by simp; omega) _ rfl ?_
  · exact World.news_of_block (cs := row.toArray) (t := E) (fr := (0, 0)) (by show (wx.heap.push _)[wx.heap.size]? = _; simp)
  · intro g cap W hown hg _ _
    refine hk g cap W ⟨?_, hown⟩
    have hb : ∀ b, b < w0.heap.size + 2 → W.heap[b]? = (wx.alloc (.cells row.toArray E)).heap[b]? := fun b hb => hg.block b (by simp; omega) (fun e => by have := (own_block h.own b e.symm).1; omega)
    refine ⟨ha.lo.rd.old fun b hb' => hb b (by omega), grow_then ha.lo.gr hg (fun b hb' => by left; have := (own_block h.own b hb').1; omega), ?_, ?_, hl⟩
    · rw [hb _ (by omega)]; exact ha.lo.ans
    · rw [hb _ (by omega)]; exact ha.lo.loc
end
theorem infoVl : (Tryz.prog.info? 72).map (fun i => (i.zero, i.size, i.bytes)) = some (some (.agg #[.string ⟨#[]⟩, .int .i64 0, .int .i64 0, .int .i64 0]), 4, 40) := by kernel_rfl
end Go.Proofs.YtbfkaanmbdekfaaGreatDoor
namespace Go.Proofs.YtbfkaanmbdekfaaGreatDoor
set_option linter.unusedVariables false
open Go.ChangeShapes Go.WideShapes Go.ChangeAt Go.RowKit

theorem RdAt.m {w : World} {R : Nat} {en : Int × Int} {r : Rd} (h : RdAt w R en r) : rdM w R = r.m := by
  obtain ⟨ad, c, _, _, _, c0, _, _, _, _, c5, _⟩ := h.get
  unfold rdM Rd.m
  rw [c0, c5]
/-- the thing's cells, and the answer's -/
theorem Lo.cells8 {w0 wx : World} {R : Nat} {en : Int × Int} {q : Rd} {T : TypeId} {x0 x1 x2 x3 x4 x5 x6 x7 : Value} (h : Lo w0 wx R en q T z8 #[x0, x1, x2, x3, x4, x5, x6, x7]) :
    (wx.cell? ⟨w0.heap.size + 1, 0, none⟩ = some x0 ∧ wx.cell? ⟨w0.heap.size + 1, 1, none⟩ = some x1 ∧ wx.cell? ⟨w0.heap.size + 1, 2, none⟩ = some x2 ∧ wx.cell? ⟨w0.heap.size + 1, 3, none⟩ = some x3 ∧ wx.cell? ⟨w0.heap.size + 1, 4, none⟩ = some x4 ∧ wx.cell? ⟨w0.heap.size + 1, 5, none⟩ = some x5 ∧ wx.cell? ⟨w0.heap.size + 1, 6, none⟩ = some x6 ∧ wx.cell? ⟨w0.heap.size + 1, 7, none⟩ = some x7) ∧
    (wx.cell? ⟨w0.heap.size, 0, none⟩ = some (.int .i64 0) ∧ wx.cell? ⟨w0.heap.size, 1, none⟩ = some (.string ⟨#[]⟩) ∧ wx.cell? ⟨w0.heap.size, 2, none⟩ = some (.int .i64 0) ∧ wx.cell? ⟨w0.heap.size, 3, none⟩ = some (.int .i64 0) ∧ wx.cell? ⟨w0.heap.size, 4, none⟩ = some (.slice none 0 0) ∧ wx.cell? ⟨w0.heap.size, 5, none⟩ = some (.slice none 0 0) ∧ wx.cell? ⟨w0.heap.size, 6, none⟩ = some (.slice none 0 0) ∧ wx.cell? ⟨w0.heap.size, 7, none⟩ = some (.slice none 0 0)) ∧
    (∀ j, wx.frozen? ⟨w0.heap.size, j, none⟩ = false) ∧ (∀ j, wx.frozen? ⟨w0.heap.size + 1, j, none⟩ = false) := by
  have hl := h.loc
  have ha := h.ans
  refine ⟨⟨?_, ?_, ?_, ?_, ?_, ?_, ?_, ?_⟩, ⟨?_, ?_, ?_, ?_, ?_, ?_, ?_, ?_⟩, ?_, ?_⟩
  all_goals simp [World.cell?, World.frozen?, hl, ha]
/-- the thing is told as the answer -/
theorem Lo.final8 {w0 wx : World} {R : Nat} {en : Int × Int} {q : Rd} {T : TypeId} {x0 x1 x2 x3 x4 x5 x6 x7 : Value} (h : Lo w0 wx R en q T z8 #[x0, x1, x2, x3, x4, x5, x6, x7]) :
    ∃ Y, ((((((((wx.setCell ⟨w0.heap.size, 0, none⟩ x0).setCell ⟨w0.heap.size, 1, none⟩ x1).setCell ⟨w0.heap.size, 2, none⟩ x2).setCell ⟨w0.heap.size, 3, none⟩ x3).setCell ⟨w0.heap.size, 4, none⟩ x4).setCell ⟨w0.heap.size, 5, none⟩ x5).setCell ⟨w0.heap.size, 6, none⟩ x6).setCell ⟨w0.heap.size, 7, none⟩ x7) = Y ∧ RdAt Y R en q ∧ w0.grownBy Y (some R) ∧ (∀ b, b ≠ w0.heap.size → Y.heap[b]? = wx.heap[b]?) ∧
      (Y.cell? ⟨w0.heap.size, 0, none⟩ = some x0 ∧ Y.cell? ⟨w0.heap.size, 1, none⟩ = some x1 ∧ Y.cell? ⟨w0.heap.size, 2, none⟩ = some x2 ∧ Y.cell? ⟨w0.heap.size, 3, none⟩ = some x3 ∧ Y.cell? ⟨w0.heap.size, 4, none⟩ = some x4 ∧ Y.cell? ⟨w0.heap.size, 5, none⟩ = some x5 ∧ Y.cell? ⟨w0.heap.size, 6, none⟩ = some x6 ∧ Y.cell? ⟨w0.heap.size, 7, none⟩ = some x7) := by
  have hl := h.lt
  have s8 := set8 h.ans x0 x1 x2 x3 x4 x5 x6 x7
  have ho : ∀ b, b ≠ w0.heap.size → ((((((((wx.setCell ⟨w0.heap.size, 0, none⟩ x0).setCell ⟨w0.heap.size, 1, none⟩ x1).setCell ⟨w0.heap.size, 2, none⟩ x2).setCell ⟨w0.heap.size, 3, none⟩ x3).setCell ⟨w0.heap.size, 4, none⟩ x4).setCell ⟨w0.heap.size, 5, none⟩ x5).setCell ⟨w0.heap.size, 6, none⟩ x6).setCell ⟨w0.heap.size, 7, none⟩ x7).heap[b]? = wx.heap[b]? := fun b hb => by
    rw [Below.heap_setCell _ _ _ _ hb, Below.heap_setCell _ _ _ _ hb, Below.heap_setCell _ _ _ _ hb, Below.heap_setCell _ _ _ _ hb, Below.heap_setCell _ _ _ _ hb, Below.heap_setCell _ _ _ _ hb, Below.heap_setCell _ _ _ _ hb, Below.heap_setCell _ _ _ _ hb]
  have hg : wx.grownBy ((((((((wx.setCell ⟨w0.heap.size, 0, none⟩ x0).setCell ⟨w0.heap.size, 1, none⟩ x1).setCell ⟨w0.heap.size, 2, none⟩ x2).setCell ⟨w0.heap.size, 3, none⟩ x3).setCell ⟨w0.heap.size, 4, none⟩ x4).setCell ⟨w0.heap.size, 5, none⟩ x5).setCell ⟨w0.heap.size, 6, none⟩ x6).setCell ⟨w0.heap.size, 7, none⟩ x7) (some w0.heap.size) := (((((((grownBy_set _ _ _ _).trans (grownBy_set _ _ _ _)).trans (grownBy_set _ _ _ _)).trans (grownBy_set _ _ _ _)).trans (grownBy_set _ _ _ _)).trans (grownBy_set _ _ _ _)).trans (grownBy_set _ _ _ _)).trans (grownBy_set _ _ _ _)
  generalize ((((((((wx.setCell ⟨w0.heap.size, 0, none⟩ x0).setCell ⟨w0.heap.size, 1, none⟩ x1).setCell ⟨w0.heap.size, 2, none⟩ x2).setCell ⟨w0.heap.size, 3, none⟩ x3).setCell ⟨w0.heap.size, 4, none⟩ x4).setCell ⟨w0.heap.size, 5, none⟩ x5).setCell ⟨w0.heap.size, 6, none⟩ x6).setCell ⟨w0.heap.size, 7, none⟩ x7) = Y at *
  refine ⟨Y, rfl, h.rd.old fun k hk => ho k (by omega), grow_then h.gr hg (fun k hk => by cases hk; exact .inl (Nat.le_refl _)), ho, ?_⟩
  refine ⟨?_, ?_, ?_, ?_, ?_, ?_, ?_, ?_⟩
  all_goals simp [World.cell?, s8]
set_option maxHeartbeats 8000000 in
set_option maxRecDepth 20000 in
theorem enumRd_any (R : Nat) (en : Int × Int) (r : Rd) (w : World) (h : RdAt w R en r) :
    Calls Tryz.prog 22 #[.pointer (some ⟨R, 0, none⟩)] w fun x w' => ∃ vs, x = .returned (dval 2 (r.enum en).1.name (r.enum en).1.line (r.enum en).1.col (.slice none 0 0) vs (.slice none 0 0) (.slice none 0 0)) ∧
      RdAt w' R en (r.enum en).2 ∧ w.grownBy w' (some R) ∧ w'.ownsRow (w.heap.size + 2) 72 4 vs (r.enum en).1.values.length ((r.enum en).1.values.flatMap vrow) := by
  have hlt := h.lt
  have hfew := h.few
  have hL0 := Lo.start w h 65 z8 #[.int .i64 2, .string ⟨#[]⟩, .int .i64 0, .int .i64 0, .slice none 0 0, .slice none 0 0, .slice none 0 0, .slice none 0 0]
  have HL0 := Lib.hid hL0
  have hTk := takeR_any R en r ⟨#[101, 110, 117, 109]⟩ _ hL0.rd
  have eT : (ByteArray.mk #[101, 110, 117, 109]).data.toList = tEnum := rfl
  rw [eT] at hTk
  have hmle := Rd.m_le r
  have HM1 := Lib.hid (Rd.m_take en r tEnum)
  have HEN : Hid (r.enum en = (⟨2, (r.take en tEnum).nameT, ((r.take en tEnum).nameP en).1, ((r.take en tEnum).nameP en).2, [], (valuesL en ((((r.take en tEnum).name en).take en [123]).l.length + 1) (((r.take en tEnum).name en).take en [123]) []).1, [], []⟩, (valuesL en ((((r.take en tEnum).name en).take en [123]).l.length + 1) (((r.take en tEnum).name en).take en [123]) []).2.take en [125])) := rfl
  obtain ⟨EN, hEN⟩ : ∃ EN, r.enum en = EN := ⟨_, rfl⟩
  rw [hEN] at HEN ⊢
  generalize r.take en tEnum = q1 at *
  clear hEN hL0 eT h
  go_enter Tryz.func22, Tryz.ntmps22
  go_wp2_with fail
  generalize (w.alloc (.cells z8 65)).alloc (.cells #[.int .i64 2, .string ⟨#[]⟩, .int .i64 0, .int .i64 0, .slice none 0 0, .slice none 0 0, .slice none 0 0, .slice none 0 0] 65) = V at *
  refine hTk.mono ?_
  rintro e w1 ⟨rfl, hr1, hg1⟩
  have HL1 := Lib.hid (HL0.out.step hr1 hg1)
  have hNa := nameRd_any R en q1 w1 hr1
  have HM2 := Lib.hid (Rd.m_name en q1)
  clear hTk hr1 hg1 HL0
  go_wp2_with fail
  refine hNa.mono ?_
  rintro e w2 ⟨rfl, hr2, hg2⟩
  have HL2 := Lib.hid (HL1.out.step hr2 hg2)
  obtain ⟨m1, n1, _, _⟩ := HL2.out.cell 1
  obtain ⟨m2, n2, _, _⟩ := HL2.out.cell 2
  obtain ⟨m3, n3, _, _⟩ := HL2.out.cell 3
  have m1 : w2.cell? ⟨w.heap.size + 1, 1, none⟩ = some (.string ⟨#[]⟩) := m1
  have m2 : w2.cell? ⟨w.heap.size + 1, 2, none⟩ = some (.int .i64 0) := m2
  have m3 : w2.cell? ⟨w.heap.size + 1, 3, none⟩ = some (.int .i64 0) := m3
  have HLa : Lo w _ R en (q1.name en) 65 z8 #[.int .i64 2, .string (mkB q1.nameT), .int .i64 0, .int .i64 0, .slice none 0 0, .slice none 0 0, .slice none 0 0, .slice none 0 0] := HL2.out.set 1 (.string (mkB q1.nameT))
  have HLb : Lo w _ R en (q1.name en) 65 z8 #[.int .i64 2, .string (mkB q1.nameT), .int .i64 (q1.nameP en).1, .int .i64 0, .slice none 0 0, .slice none 0 0, .slice none 0 0, .slice none 0 0] := HLa.set 2 (.int .i64 (q1.nameP en).1)
  have HLc : Lo w _ R en (q1.name en) 65 z8 #[.int .i64 2, .string (mkB q1.nameT), .int .i64 (q1.nameP en).1, .int .i64 (q1.nameP en).2, .slice none 0 0, .slice none 0 0, .slice none 0 0, .slice none 0 0] := HLb.set 3 (.int .i64 (q1.nameP en).2)
  have HL3 := Lib.hid HLc
  have hTk := fun W hW => takeR_any R en (q1.name en) ⟨#[123]⟩ W hW
  have e123 : (ByteArray.mk #[123]).data.toList = [123] := rfl
  rw [e123] at hTk
  have HM3 := Lib.hid (Rd.m_take en (q1.name en) [123])
  clear hNa hr2 hg2 HLa HLb HLc HL1 e123
  go_wp2_with fail
  refine (hTk _ HL3.out.rd).mono ?_
  clear m1 m2 m3 n1 n2 n3
  rintro e w3 ⟨rfl, hr3, hg3⟩
  have HL4 := Lib.hid (HL3.out.step hr3 hg3)
  clear hTk hr3 hg3 HL2 HL3
  obtain ⟨NM, hNM⟩ : ∃ NM, q1.nameT = NM := ⟨_, rfl⟩
  obtain ⟨PL, hPL⟩ : ∃ PL, (q1.nameP en).1 = PL := ⟨_, rfl⟩
  obtain ⟨PC, hPC⟩ : ∃ PC, (q1.nameP en).2 = PC := ⟨_, rfl⟩
  rw [hNM, hPL, hPC] at HL4 HEN
  generalize (q1.name en).take en [123] = q3 at *
  obtain ⟨VS, hVS⟩ : ∃ VS, valuesL en (q3.l.length + 1) q3 [] = VS := ⟨_, rfl⟩
  have HVS := Lib.hid hVS
  rw [hVS] at HEN
  have hq3 : q3.m ≤ 4001 := by have := HM3.out; have := HM2.out; have := HM1.out; omega
  have HQ3 := Lib.hid (Rd.m_le q3)
  clear hVS hNM hPL hPC HM1 HM2 HM3
  go_wp2_with fail
  go_loopw [4] (fun _ wr => ∃ (f : Nat) (q : Rd) (acc : List Vl) (vs : Value), Ls w wr R en q 65 z8 #[.int .i64 2, .string (mkB NM), .int .i64 PL, .int .i64 PC, .slice none 0 0, vs, .slice none 0 0, .slice none 0 0] 72 4 vs acc.length (acc.flatMap vrow) ∧ q.m ≤ f ∧ acc.length + q.m ≤ 4001 ∧ VS = valuesL en f q acc) (fun _ wr => rdM wr R)
  case atStart => exact ⟨q3.l.length + 1, q3, [], .slice none 0 0, ⟨HL4.out, World.ownsRow_nil _ _ _ _⟩, HQ3.out, by simpa using hq3, HVS.out.symm⟩
  case round =>
    obtain ⟨f, q, acc, vs, hLs, hmf, hacc, hvs⟩ := hrel
    obtain ⟨va, vc, rfl⟩ := own_slice hLs.own
    have HVQ := Lib.hid hvs
    have HLs := Lib.hid hLs
    have hIs := isR_any R en q ⟨#[125]⟩ wr hLs.lo.rd
    have e125 : (ByteArray.mk #[125]).data.toList = [125] := rfl
    rw [e125] at hIs
    obtain ⟨_, _, _, _, _, _, _, _, _, _, c5, _⟩ := hLs.lo.rd.get
    have hszr := hLs.lo.size
    have HM0 := Lib.hid hLs.lo.rd.m
    have hTkE := takeR_any R en q ⟨#[125]⟩ wr hLs.lo.rd
    rw [e125] at hTkE
    clear hvs hLs e125
    by_cases hgo : q.e = 0 ∧ q.is [125] = false
    · obtain ⟨he, hi⟩ := hgo
      rw [hi] at hIs
      rw [he] at c5
      have hm1 : 1 ≤ q.m := by unfold Rd.m; rw [if_pos he]; omega
      obtain ⟨f, rfl⟩ : ∃ f', f = f' + 1 := ⟨f - 1, by omega⟩
      have hmv := Rd.m_value en q
      have HNX : Hid (VS = valuesL en f (q.value en).2 (acc ++ [(q.value en).1])) := by
        refine (?_ : _ = _)
        rw [HVQ.out, valuesL_go en f q acc ⟨he, hi⟩]
      have HVE : Hid (q.value en = (⟨q.nameT, ((q.name en).take en [61]).numberV, (q.nameP en).1, (q.nameP en).2⟩, (((q.name en).take en [61]).number en).take en [59])) := rfl
      have HLg := Lib.hid (HLs.out.alloc (.cells #[.string ⟨#[]⟩, .int .i64 0, .int .i64 0, .int .i64 0] 72))
      have HGg := Lib.hid (alloc_heap_new wr (.cells #[.string ⟨#[]⟩, .int .i64 0, .int .i64 0, .int .i64 0] 72))
      have hvn : (Value.slice va acc.length vc).ownBlock ≠ some wr.heap.size := by
        intro e
        have := (own_block HLs.out.own _ e).2
        omega
      have HVN := Lib.hid hvn
      have hNa := fun W hW => nameRd_any R en q W hW
      obtain ⟨VAL, hVAL⟩ : ∃ VAL, q.value en = VAL := ⟨_, rfl⟩
      rw [hVAL] at HNX HVE hmv
      clear HVQ he hi hTkE hvn hVAL
      go_wp2_with fail
      refine hIs.mono ?_
      rintro e w4 ⟨rfl, h4⟩
      have h4 := h4.symm
      subst h4
      clear hIs c5
      go_wp2_with fail
      generalize wr.alloc (.cells #[.string ⟨#[]⟩, .int .i64 0, .int .i64 0, .int .i64 0] 72) = W1 at *
      generalize wr.heap.size = G at *
      have hRG : R ≠ G := by omega
      refine (hNa W1 HLg.out.lo.rd).mono ?_
      rintro e w5 ⟨rfl, hr5, hg5⟩
      have HL5 := Lib.hid (HLg.out.step hr5 hg5)
      have g5 := keepG HGg.out hg5 hRG
      have HG6 := Lib.hid g5
      have p0 : w5.cell? ⟨G, 0, none⟩ = some (.string ⟨#[]⟩) := by simp [World.cell?, g5]
      have p2 : w5.cell? ⟨G, 2, none⟩ = some (.int .i64 0) := by simp [World.cell?, g5]
      have p3 : w5.cell? ⟨G, 3, none⟩ = some (.int .i64 0) := by simp [World.cell?, g5]
      have f0 : w5.frozen? ⟨G, 0, none⟩ = false := by simp [World.frozen?, g5]
      have f2 : w5.frozen? ⟨G, 2, none⟩ = false := by simp [World.frozen?, g5]
      have f3 : w5.frozen? ⟨G, 3, none⟩ = false := by simp [World.frozen?, g5]
      have ga : (w5.setCell ⟨G, 0, none⟩ (.string (mkB q.nameT))).heap[G]? = some (.cells #[.string (mkB q.nameT), .int .i64 0, .int .i64 0, .int .i64 0] 72 (0, 0)) := setCell_heap g5 _
      have gb : ((w5.setCell ⟨G, 0, none⟩ (.string (mkB q.nameT))).setCell ⟨G, 2, none⟩ (.int .i64 (q.nameP en).1)).heap[G]? = some (.cells #[.string (mkB q.nameT), .int .i64 0, .int .i64 (q.nameP en).1, .int .i64 0] 72 (0, 0)) := setCell_heap ga _
      have gc : (((w5.setCell ⟨G, 0, none⟩ (.string (mkB q.nameT))).setCell ⟨G, 2, none⟩ (.int .i64 (q.nameP en).1)).setCell ⟨G, 3, none⟩ (.int .i64 (q.nameP en).2)).heap[G]? = some (.cells #[.string (mkB q.nameT), .int .i64 0, .int .i64 (q.nameP en).1, .int .i64 (q.nameP en).2] 72 (0, 0)) := setCell_heap gb _
      have HGc := Lib.hid gc
      have HL6 := Lib.hid (((HL5.out.far G 0 (by omega) HVN.out (.string (mkB q.nameT))).far G 2 (by omega) HVN.out (.int .i64 (q.nameP en).1)).far G 3 (by omega) HVN.out (.int .i64 (q.nameP en).2))
      have hTk := fun W hW => takeR_any R en (q.name en) ⟨#[61]⟩ W hW
      have e61 : (ByteArray.mk #[61]).data.toList = [61] := rfl
      rw [e61] at hTk
      clear hNa hr5 hg5 g5 ga gb gc e61 HLg HGg HG6
      go_wp2_with fail
      refine (hTk _ HL6.out.lo.rd).mono ?_
      clear p0 p2 p3 f0 f2 f3
      rintro e w6 ⟨rfl, hr6, hg6⟩
      have HL7 := Lib.hid (HL6.out.step hr6 hg6)
      have HG7 := Lib.hid (keepG HGc.out hg6 hRG)
      have hNu := numberRd_any R en ((q.name en).take en [61]) w6 hr6
      clear hTk hr6 hg6 HL5 HL6 HGc
      go_wp2_with fail
      refine hNu.mono ?_
      rintro e w7 ⟨rfl, hr7, hg7⟩
      have HL8 := Lib.hid (HL7.out.step hr7 hg7)
      have g8 := keepG HG7.out hg7 hRG
      have p1 : w7.cell? ⟨G, 1, none⟩ = some (.int .i64 0) := by simp [World.cell?, g8]
      have f1 : w7.frozen? ⟨G, 1, none⟩ = false := by simp [World.frozen?, g8]
      have g9 : (w7.setCell ⟨G, 1, none⟩ (.int .i64 ((q.name en).take en [61]).numberV)).heap[G]? = some (.cells #[.string (mkB q.nameT), .int .i64 ((q.name en).take en [61]).numberV, .int .i64 (q.nameP en).1, .int .i64 (q.nameP en).2] 72 (0, 0)) := setCell_heap g8 _
      have HG9 := Lib.hid g9
      have HL9 := Lib.hid (HL8.out.far G 1 (by omega) HVN.out (.int .i64 ((q.name en).take en [61]).numberV))
      have hTk := fun W hW => takeR_any R en (((q.name en).take en [61]).number en) ⟨#[59]⟩ W hW
      have e59 : (ByteArray.mk #[59]).data.toList = [59] := rfl
      rw [e59] at hTk
      clear hNu hr7 hg7 g8 g9 e59 HL7 HG7
      go_wp2_with fail
      refine (hTk _ HL9.out.lo.rd).mono ?_
      clear p1 f1
      rintro e w8 ⟨rfl, hr8, hg8⟩
      have HLA := Lib.hid (HL9.out.step hr8 hg8)
      have gA := keepG HG9.out hg8 hRG
      have p0 : w8.cell? ⟨G, 0, none⟩ = some (.string (mkB q.nameT)) := by simp [World.cell?, gA]
      have p1 : w8.cell? ⟨G, 1, none⟩ = some (.int .i64 ((q.name en).take en [61]).numberV) := by simp [World.cell?, gA]
      have p2 : w8.cell? ⟨G, 2, none⟩ = some (.int .i64 (q.nameP en).1) := by simp [World.cell?, gA]
      have p3 : w8.cell? ⟨G, 3, none⟩ = some (.int .i64 (q.nameP en).2) := by simp [World.cell?, gA]
      have d5 := HLA.out.lo.cells8.1.2.2.2.2.2.1
      have hVL : VAL.1 = ⟨q.nameT, ((q.name en).take en [61]).numberV, (q.nameP en).1, (q.nameP en).2⟩ := by rw [HVE.out]
      have hV2 : VAL.2 = (((q.name en).take en [61]).number en).take en [59] := by rw [HVE.out]
      rw [← hV2] at HLA
      have HV1 := Lib.hid hVL
      clear hTk hr8 hg8 gA HL8 HL9 HG9 hVL hV2
      go_wp2_with (at_builtin; refine HLA.out.push rfl _ _ 62 rfl Tryz.underlying62 _ 40 infoVl rfl (by decide) (vrow ⟨q.nameT, ((q.name en).take en [61]).numberV, (q.nameP en).1, (q.nameP en).2⟩) rfl (by intro u hu; simp only [vrow, List.mem_cons, List.not_mem_nil, or_false] at hu; rcases hu with rfl | rfl | rfl | rfl <;> rfl) _ rfl rfl rfl (by omega) (by decide) ?_)
      intro g cap W hLW
      have HLW := Lib.hid hLW
      obtain ⟨⟨_, _, _, _, _, k5, _, _⟩, _, _, hfz⟩ := hLW.lo.cells8
      have kf := hfz 5
      clear d5 p0 p1 p2 p3 hLW hfz
      go_wp2_with fail
      have HLZ : Ls w (W.setCell ⟨w.heap.size + 1, 5, none⟩ (.slice (some ⟨g, 0, none⟩) (acc.length + 1) cap)) R en VAL.2 65 z8 #[.int .i64 2, .string (mkB NM), .int .i64 PL, .int .i64 PC, .slice none 0 0, .slice (some ⟨g, 0, none⟩) (acc.length + 1) cap, .slice none 0 0, .slice none 0 0] 72 4 (.slice (some ⟨g, 0, none⟩) (acc.length + 1) cap) (acc ++ [VAL.1]).length ((acc ++ [VAL.1]).flatMap vrow) := by
        have := HLW.out.set 5 (.slice (some ⟨g, 0, none⟩) (acc.length + 1) cap)
        rw [HV1.out, List.length_append, List.flatMap_append]
        simpa using this
      go_roundw
      case rel => exact ⟨f, VAL.2, acc ++ [VAL.1], _, HLZ, by omega, by simp; omega, HNX.out⟩
      case measure =>
        have e1 := HLZ.lo.rd.m
        have e2 := HM0.out
        exact Nat.lt_of_le_of_lt (Nat.le_of_eq e1) (by rw [e2]; omega)
    · obtain rfl : VS = (acc, q) := by rw [HVQ.out, valuesL_stop en f q acc hgo]
      by_cases he : q.e = 0
      · have hi : q.is [125] = true := by
          cases hx : q.is [125] with
          | true => rfl
          | false => exact absurd ⟨he, hx⟩ hgo
        rw [hi] at hIs
        rw [he] at c5
        clear hgo hi HVQ
        go_wp2_with fail
        refine hIs.mono ?_
        rintro e w4 ⟨rfl, h4⟩
        have h4 := h4.symm
        subst h4
        go_wp2_with fail
        refine hTkE.mono ?_
        clear hIs c5
        rintro e w5 ⟨rfl, hr5, hg5⟩
        have HL5 := Lib.hid (HLs.out.step hr5 hg5)
        obtain ⟨⟨c0, c1, c2, c3, c4, c5', c6, c7⟩, ⟨a0, a1, a2, a3, a4, a5, a6, a7⟩, hf, _⟩ := HL5.out.lo.cells8
        obtain ⟨Y, hY, hRY, hGY, hBY, y0, y1, y2, y3, y4, y5, y6, y7⟩ := HL5.out.lo.final8
        have HOY : Hid (Y.ownsRow (w.heap.size + 2) 72 4 (.slice va acc.length vc) acc.length (acc.flatMap vrow)) := own_keep HL5.out.own fun b hb => hBY b (by have := (own_block HL5.out.own b hb).1; omega)
        have HY := Lib.hid hY
        have b0 := hf 0
        have b1 := hf 1
        have b2 := hf 2
        have b3 := hf 3
        have b4 := hf 4
        have b5 := hf 5
        have b6 := hf 6
        have b7 := hf 7
        clear hY hf hTkE hr5 hg5 hBY
        go_wp2_with fail
        rw [HY.out]
        rw [HEN.out]
        exact bodyPost_ret (v := dval 2 NM PL PC (.slice none 0 0) (.slice va acc.length vc) (.slice none 0 0) (.slice none 0 0)) (by unfold dval; simp [results, Tryz.results22, go_sem, y0, y1, y2, y3, y4, y5, y6, y7]) rfl ⟨_, rfl, hRY, hGY, HOY.out⟩
      · have he' : (q.e == 0) = false := by simpa using he
        clear hgo he HVQ hIs
        go_wp2_with fail
        refine hTkE.mono ?_
        clear c5
        rintro e w5 ⟨rfl, hr5, hg5⟩
        have HL5 := Lib.hid (HLs.out.step hr5 hg5)
        obtain ⟨⟨c0, c1, c2, c3, c4, c5', c6, c7⟩, ⟨a0, a1, a2, a3, a4, a5, a6, a7⟩, hf, _⟩ := HL5.out.lo.cells8
        obtain ⟨Y, hY, hRY, hGY, hBY, y0, y1, y2, y3, y4, y5, y6, y7⟩ := HL5.out.lo.final8
        have HOY : Hid (Y.ownsRow (w.heap.size + 2) 72 4 (.slice va acc.length vc) acc.length (acc.flatMap vrow)) := own_keep HL5.out.own fun b hb => hBY b (by have := (own_block HL5.out.own b hb).1; omega)
        have HY := Lib.hid hY
        have b0 := hf 0
        have b1 := hf 1
        have b2 := hf 2
        have b3 := hf 3
        have b4 := hf 4
        have b5 := hf 5
        have b6 := hf 6
        have b7 := hf 7
        clear hY hf hTkE hr5 hg5 hBY
        go_wp2_with fail
        rw [HY.out]
        rw [HEN.out]
        exact bodyPost_ret (v := dval 2 NM PL PC (.slice none 0 0) (.slice va acc.length vc) (.slice none 0 0) (.slice none 0 0)) (by unfold dval; simp [results, Tryz.results22, go_sem, y0, y1, y2, y3, y4, y5, y6, y7]) rfl ⟨_, rfl, hRY, hGY, HOY.out⟩
end Go.Proofs.YtbfkaanmbdekfaaGreatDoor
