/-
  The walk over the program's own path of a reader.
-/
import Derived.Test.YtpojeinddnjpfaaGreatDoorM4
namespace Go.Proofs.YtpojeinddnjpfaaGreatDoor
set_option linter.unusedVariables false
open Go.ChangeShapes Go.WideShapes Go.ChangeAt Go.RowKit

theorem cells1 {w : World} {B : Nat} {T : TypeId} {x : Value} (h : w.heap[B]? = some (.cells #[x] T (0, 0))) : w.cell? ⟨B, 0, none⟩ = some x ∧ w.frozen? ⟨B, 0, none⟩ = false := by
 simp [World.cell?, World.frozen?, h]
theorem cells2 {w : World} {B : Nat} {T : TypeId} {x y : Value} (h : w.heap[B]? = some (.cells #[x, y] T (0, 0))) : w.cell? ⟨B, 0, none⟩ = some x ∧ w.frozen? ⟨B, 0, none⟩ = false ∧ w.cell? ⟨B, 0 + 1, none⟩ = some y ∧ w.frozen? ⟨B, 0 + 1, none⟩ = false := by
 simp [World.cell?, World.frozen?, h]
set_option maxHeartbeats 8000000 in
set_option maxRecDepth 20000 in
theorem pathLv {w0 wx : World} {R : Nat} {en : Int × Int} {q : Rd} {D : Nat} {T : TypeId} {cs : Array Value} (h : Lv w0 wx R en q D T cs) (he : q.e = 0) (o : Nat) (ho : cs[o]? = some (.string ⟨#[]⟩)) :
  Calls Tryz.prog 195 #[.pointer (some ⟨R, 0, none⟩), .pointer (some ⟨D, o, none⟩)] wx fun x w' => ∃ p : List UInt8, x = .returned (.bool (decide ((q.path en).2.e = 0))) ∧ ((q.path en).2.e = 0 → p = (q.path en).1) ∧ Lv w0 w' R en (q.path en).2 D T (cs.setIfInBounds o (.string (mkB p))) := by
 have hsD := h.size
 have hlD := h.ltD
 have hnD := h.new
 have hlt := h.rd.lt
 have hPl := placeD_any R en q wx h.rd
 obtain ⟨FP, hFP⟩ : ∃ FP, q.here en = FP := ⟨_, rfl⟩
 have HPA : Hid (q.path en = pathL en FP (q.l.length + 1) 1 ([] ++ q.nameT) (if 1 = 9 then (q.name en).fail 8 FP else q.name en)) := by
  refine (?_ : _ = _); unfold Rd.path; rw [hFP, if_neg (by decide), List.nil_append]
 have HM0 : Hid ((q.name en).m ≤ q.l.length + 1) := by
  refine (?_ : (q.name en).m ≤ q.l.length + 1)
  have := Rd.m_name en q
  have := Rd.m_le q
  omega
 rw [hFP] at hPl
 have hcs : cs = cs.setIfInBounds o (.string (mkB [])) := by
  apply Array.ext_getElem?
  intro i
  rw [Array.getElem?_setIfInBounds]
  by_cases hio : o = i
  ·subst hio
   have hlt := (Array.getElem?_eq_some_iff.1 ho).1
   rw [if_pos rfl, if_pos hlt, ho]; rfl
  ·rw [if_neg hio]
 have HL0 := Lib.hid h
 have hoz : o < cs.size := (Array.getElem?_eq_some_iff.1 ho).1
 have HCS := Lib.hid hcs
 obtain ⟨PA, hPA⟩ : ∃ PA, q.path en = PA := ⟨_, rfl⟩
 rw [hPA] at HPA ⊢
 clear hFP hPA h hcs ho
 go_enter Tryz.func195, Tryz.ntmps195
 go_wp2_with fail
 refine hPl.mono ?_
 rintro e w1 ⟨rfl, hb1⟩
 have hz1 := hb1.size
 have HL1 := Lib.hid (((HL0.out.below hb1).alloc (.cells #[.int .i64 FP.1, .int .i64 FP.2] 31)).alloc (.cells #[.string ⟨#[]⟩] 9) |>.alloc (.cells #[.int .i64 0, .int .i64 0] 31))
 have HF1 : Hid ((((w1.alloc (.cells #[.int .i64 FP.1, .int .i64 FP.2] 31)).alloc (.cells #[.string ⟨#[]⟩] 9)).alloc (.cells #[.int .i64 0, .int .i64 0] 31)).heap[w1.heap.size]? = some (.cells #[.int .i64 FP.1, .int .i64 FP.2] 31 (0, 0))) := by
  refine (?_ : _ = _)
  rw [alloc_heap_old _ _ _ (by simp; omega), alloc_heap_old _ _ _ (by simp), alloc_heap_new]
 have HN1 : Hid ((((w1.alloc (.cells #[.int .i64 FP.1, .int .i64 FP.2] 31)).alloc (.cells #[.string ⟨#[]⟩] 9)).alloc (.cells #[.int .i64 0, .int .i64 0] 31)).heap[w1.heap.size + 1]? = some (.cells #[.string ⟨#[]⟩] 9 (0, 0))) := by
  refine (?_ : _ = _)
  rw [alloc_heap_old _ _ _ (by simp), show w1.heap.size + 1 = (w1.alloc (.cells #[.int .i64 FP.1, .int .i64 FP.2] 31)).heap.size by simp, alloc_heap_new]
 have HA1 : Hid ((((w1.alloc (.cells #[.int .i64 FP.1, .int .i64 FP.2] 31)).alloc (.cells #[.string ⟨#[]⟩] 9)).alloc (.cells #[.int .i64 0, .int .i64 0] 31)).heap[w1.heap.size + 2]? = some (.cells #[.int .i64 0, .int .i64 0] 31 (0, 0))) := by
  refine (?_ : _ = _)
  rw [show w1.heap.size + 2 = ((w1.alloc (.cells #[.int .i64 FP.1, .int .i64 FP.2] 31)).alloc (.cells #[.string ⟨#[]⟩] 9)).heap.size by simp, alloc_heap_new]
 clear hPl hb1
 go_wp2_with fail
 generalize ((w1.alloc (.cells #[.int .i64 FP.1, .int .i64 FP.2] 31)).alloc (.cells #[.string ⟨#[]⟩] 9)).alloc (.cells #[.int .i64 0, .int .i64 0] 31) = V at *
 generalize w1.heap.size = F at *
 go_loopw [8] (fun n wr => ∃ (k f : Nat) (p : List UInt8) (qq : Rd) (xs xa xb : Value), n = .int .i64 (k : Int) ∧ 1 ≤ k ∧ k ≤ 9 ∧ p.length ≤ 20001 * k ∧ qq.e = 0 ∧ Lv w0 wr R en qq D T (cs.setIfInBounds o (.string (mkB p))) ∧
  wr.heap[F]? = some (.cells #[.int .i64 FP.1, .int .i64 FP.2] 31 (0, 0)) ∧ wr.heap[F + 1]? = some (.cells #[xs] 9 (0, 0)) ∧ wr.heap[F + 2]? = some (.cells #[xa, xb] 31 (0, 0)) ∧
  (qq.name en).m ≤ f ∧ PA = pathL en FP f k (p ++ qq.nameT) (if k = 9 then (qq.name en).fail 8 FP else qq.name en)) (fun n _ => 10 - (intOf n).toNat)
 case atStart => exact ⟨1, q.l.length + 1, [], q, _, _, _, rfl, by omega, by omega, by simp, he, by rw [← HCS.out]; exact HL1.out, HF1.out, HN1.out, HA1.out, HM0.out, HPA.out⟩
 case round =>
  obtain ⟨k, f, p, qq, xs, xa, xb, rfl, hk1, hk9, hpl, hqe, hL, hF, hN, hA, hmf, hpa⟩ := hrel
  have HPQ := Lib.hid hpa
  have HL := Lib.hid hL
  have HF := Lib.hid hF
  have hFs : F < wr.heap.size := (Array.getElem?_eq_some_iff.1 hF).1
  have hAs : F + 2 < wr.heap.size := (Array.getElem?_eq_some_iff.1 hA).1
  have hNa := nameD_any R en qq wr (F + 1) 0 (F + 2) 0 xs xa xb hqe hL.rd (by omega) (by omega) (cells1 hN).1 (cells2 hA).1 (cells2 hA).2.2.1 (cells1 hN).2 (cells2 hA).2.1 (cells2 hA).2.2.2 (.inl (by omega))
  have hNL := hL.rd.nameT_len
  clear hpa
  by_cases hi : qq.isName = true
  ·rw [if_pos hi, hi] at hNa
   have hqn : (qq.name en).e = 0 := by have := Rd.e_name en hqe; rw [hi] at this; simpa using this
   have HSL : Hid (Lv w0 (set3 wr (F + 1) 0 (F + 2) 0 (.string (mkB qq.nameT)) (qq.nameP en)) R en qq D T (cs.setIfInBounds o (.string (mkB p)))) :=
    ((HL.out.far (F + 1) 0 (by omega) (by omega) _).far (F + 2) 0 (by omega) (by omega) _).far (F + 2) (0 + 1) (by omega) (by omega) _
   have HSF : Hid ((set3 wr (F + 1) 0 (F + 2) 0 (.string (mkB qq.nameT)) (qq.nameP en)).heap[F]? = some (.cells #[.int .i64 FP.1, .int .i64 FP.2] 31 (0, 0))) := by
    refine (?_ : _ = _)
    unfold set3
    rw [Below.heap_setCell _ _ _ _ (by show F ≠ F + 2; omega), Below.heap_setCell _ _ _ _ (by show F ≠ F + 2; omega), Below.heap_setCell _ _ _ _ (by show F ≠ F + 1; omega)]
    exact hF
   have HSN : Hid ((set3 wr (F + 1) 0 (F + 2) 0 (.string (mkB qq.nameT)) (qq.nameP en)).heap[F + 1]? = some (.cells #[.string (mkB qq.nameT)] 9 (0, 0))) := by
    refine (?_ : _ = _)
    unfold set3
    rw [Below.heap_setCell _ _ _ _ (by show F + 1 ≠ F + 2; omega), Below.heap_setCell _ _ _ _ (by show F + 1 ≠ F + 2; omega)]
    exact setCell_heap hN _
   have HSA : Hid ((set3 wr (F + 1) 0 (F + 2) 0 (.string (mkB qq.nameT)) (qq.nameP en)).heap[F + 2]? = some (.cells #[.int .i64 (qq.nameP en).1, .int .i64 (qq.nameP en).2] 31 (0, 0))) := by
    refine (?_ : _ = _)
    unfold set3
    have a1 : (wr.setCell ⟨F + 1, 0, none⟩ (.string (mkB qq.nameT))).heap[F + 2]? = some (.cells #[xa, xb] 31 (0, 0)) := by
     rw [Below.heap_setCell _ _ _ _ (by show F + 2 ≠ F + 1; omega)]; exact hA
    exact setCell_heap (setCell_heap a1 _) _
   have hSz : (set3 wr (F + 1) 0 (F + 2) 0 (.string (mkB qq.nameT)) (qq.nameP en)).heap.size = wr.heap.size := by simp [set3, World.setCell]
   clear hi hL hF hN hA HF HL
   go_wp2_with fail
   refine hNa.mono ?_
   rintro e w5 ⟨rfl, hr5, hg5⟩
   have HL5 := Lib.hid (HSL.out.step hr5 hg5)
   have HF5 := Lib.hid (keepG HSF.out hg5 (by omega))
   have HN5 := Lib.hid (keepG HSN.out hg5 (by omega))
   have HA5 := Lib.hid (keepG HSA.out hg5 (by omega))
   have hz5 := hg5.size
   rw [hSz] at hz5
   clear hNa hr5 hg5 HSL HSF HSN HSA hSz
   by_cases h9 : k = 9
   ·subst h9
    rw [if_pos rfl] at HPQ
    have hFA := failD_any R en (qq.name en) 8 FP.1 FP.2 w5 hqn HL5.out.rd
    have he3 := Rd.fail_e (qq.name en) 8 FP (by decide)
    have hPQ := HPQ.out
    rw [pathL_off en _ _ _ _ _ (Rd.is_off he3 _)] at hPQ
    have HP2 : Hid (PA.2 = (qq.name en).fail 8 FP) := by refine (?_ : _ = _); rw [hPQ]
    have hdec : decide (PA.2.e = 0) = false := by rw [HP2.out]; exact decide_eq_false he3
    have HD := Lib.hid (of_decide_eq_false hdec)
    have HDD := Lib.hid hdec
    obtain ⟨y0, _, y1, _⟩ := cells2 HF5.out
    clear HPQ hPQ hdec
    go_wp2_with fail
    refine hFA.mono ?_
    rintro e w6 ⟨rfl, hr6, hg6⟩
    go_wp2_with fail
    go_ret
    refine ⟨p, retB HDD.out.symm, fun hx => absurd hx HD.out, ?_⟩
    rw [HP2.out]
    exact HL5.out.step hr6 hg6
   ·rw [if_neg h9] at HPQ
    have hk8 : ¬ (8 : Int) < (k : Int) := by omega
    obtain ⟨n0, _⟩ := cells1 HN5.out
    obtain ⟨d0, fd0⟩ := HL5.out.cell o
    have d0' : w5.cell? ⟨D, o, none⟩ = some (.string (mkB p)) := by rw [d0]; simp [hoz]
    have sp := mkB_len p
    have sn := mkB_len qq.nameT
    have ha1 : ∀ W : World, (Op.stringOp .add (mkB p) (mkB qq.nameT)).run Tryz.prog W = .ok (.string (mkB p ++ mkB qq.nameT)) W := fun W => run_string_add_sum W _ _ (by omega)
    rw [← mkB_app] at ha1
    have hpl2 : (p ++ qq.nameT).length ≤ 20001 * k + 20000 := by rw [List.length_append]; omega
    have HL6 : Hid (Lv w0 (w5.setCell ⟨D, o, none⟩ (.string (mkB (p ++ qq.nameT)))) R en (qq.name en) D T (cs.setIfInBounds o (.string (mkB (p ++ qq.nameT))))) := by
     have := HL5.out.set o (.string (mkB (p ++ qq.nameT)))
     rw [Array.setIfInBounds_setIfInBounds] at this
     exact this
    have HF6 : Hid ((w5.setCell ⟨D, o, none⟩ (.string (mkB (p ++ qq.nameT)))).heap[F]? = some (.cells #[.int .i64 FP.1, .int .i64 FP.2] 31 (0, 0))) := by
     refine (?_ : _ = _); rw [Below.heap_setCell _ _ _ _ (by show F ≠ D; omega)]; exact HF5.out
    have HN6 : Hid ((w5.setCell ⟨D, o, none⟩ (.string (mkB (p ++ qq.nameT)))).heap[F + 1]? = some (.cells #[.string (mkB qq.nameT)] 9 (0, 0))) := by
     refine (?_ : _ = _); rw [Below.heap_setCell _ _ _ _ (by show F + 1 ≠ D; omega)]; exact HN5.out
    have HA6 : Hid ((w5.setCell ⟨D, o, none⟩ (.string (mkB (p ++ qq.nameT)))).heap[F + 2]? = some (.cells #[.int .i64 (qq.nameP en).1, .int .i64 (qq.nameP en).2] 31 (0, 0))) := by
     refine (?_ : _ = _); rw [Below.heap_setCell _ _ _ _ (by show F + 2 ≠ D; omega)]; exact HA5.out
    clear d0 sp sn HL5 HF5 HN5 HA5 hNL hpl hk1
    generalize p ++ qq.nameT = p1 at *
    generalize qq.name en = q1 at *
    go_upto_region 9 with fail
    go_cut [] (fun wz => wz = w5.setCell ⟨D, o, none⟩ (.string (mkB p1)) ∨ wz = (w5.setCell ⟨D, o, none⟩ (.string (mkB p1))).drew)
    case first =>
     go_region
     all_goals
      go_wp2_with fail
      go_meet
      first | exact .inl rfl | exact .inr rfl
    case rest =>
     have HL7 : Hid (Lv w0 wc R en q1 D T (cs.setIfInBounds o (.string (mkB p1)))) := by
      refine (?_ : Lv _ _ _ _ _ _ _ _)
      rcases hcut with hc | hc
      ·rw [hc]; exact HL6.out
      ·rw [hc]; exact HL6.out.drew
     have hh : wc.heap = (w5.setCell ⟨D, o, none⟩ (.string (mkB p1))).heap := by
      rcases hcut with hc | hc
      ·rw [hc]
      ·rw [hc]; rfl
     have HF7 : Hid (wc.heap[F]? = some (.cells #[.int .i64 FP.1, .int .i64 FP.2] 31 (0, 0))) := by refine (?_ : _ = _); rw [hh]; exact HF6.out
     have HN7 : Hid (wc.heap[F + 1]? = some (.cells #[.string (mkB qq.nameT)] 9 (0, 0))) := by refine (?_ : _ = _); rw [hh]; exact HN6.out
     have HA7 : Hid (wc.heap[F + 2]? = some (.cells #[.int .i64 (qq.nameP en).1, .int .i64 (qq.nameP en).2] 31 (0, 0))) := by refine (?_ : _ = _); rw [hh]; exact HA6.out
     clear hcut hh HL6 HF6 HN6 HA6 d0' fd0 n0
     generalize wc = V1 at *
     have hSk := skipD_any R en q1 ⟨#[46]⟩ V1 hqn (by decide) HL7.out.rd
     have e46 : (ByteArray.mk #[46]).data.toList = [46] := rfl
     rw [e46] at hSk
     have hFs7 : F + 2 < V1.heap.size := (Array.getElem?_eq_some_iff.1 HA7.out).1
     by_cases hi2 : q1.is [46] = true
     ·have hsk : q1.skip [46] = q1.tail := by unfold Rd.skip; rw [if_pos hi2]
      have htk : q1.take en [46] = q1.tail := by unfold Rd.take; rw [if_pos hi2]
      rw [hsk, hi2] at hSk
      have hmp := Rd.m_pos hi2
      have m1 := Rd.m_take en q1 [46]
      have m2 := Rd.m_name en (q1.take en [46])
      obtain ⟨f, rfl⟩ : ∃ f', f = f' + 1 := ⟨f - 1, by omega⟩
      have HNX : Hid (PA = pathL en FP f (k + 1) (p1 ++ [46] ++ q1.tail.nameT) (if k + 1 = 9 then (q1.tail.name en).fail 8 FP else q1.tail.name en)) := by
       refine (?_ : _ = _)
       rw [HPQ.out, pathL_go en FP f k p1 q1 hi2, htk]
       by_cases h8 : k = 8
       ·rw [if_pos h8, if_pos (by omega)]
       ·rw [if_neg h8, if_neg (by omega)]
      have hte : q1.tail.e = 0 := hqn
      rw [htk] at m1 m2
      have s46 : (ByteArray.mk #[46]).size = 1 := rfl
      have sp := mkB_len p1
      have ha2 : ∀ W : World, (Op.stringOp .add (mkB p1) ⟨#[46]⟩).run Tryz.prog W = .ok (.string (mkB p1 ++ ⟨#[46]⟩)) W := fun W => run_string_add_sum W _ _ (by rw [s46]; omega)
      have hcat : mkB p1 ++ ⟨#[46]⟩ = mkB (p1 ++ [46]) := by rw [mkB_app]; rfl
      rw [hcat] at ha2
      have hpl3 : (p1 ++ [46]).length ≤ 20001 * (k + 1) := by rw [List.length_append]; show p1.length + 1 ≤ _; omega
      have w46 : IntKind.i64.wrap ((k : Int) + 1) = (k : Int) + 1 := by rw [IntKind.wrap_i64]; omega
      clear hi2 hsk htk HPQ ha1 hcat sp s46 hpl2
      generalize q1.tail = q3 at *
      generalize p1 ++ [46] = p3 at *
      go_wp2_with fail
      refine hSk.mono ?_
      rintro e w8 ⟨rfl, hr8, hg8⟩
      have HL8 := Lib.hid (HL7.out.step hr8 hg8)
      have HF8 := Lib.hid (keepG HF7.out hg8 (by omega))
      have HN8 := Lib.hid (keepG HN7.out hg8 (by omega))
      have HA8 := Lib.hid (keepG HA7.out hg8 (by omega))
      obtain ⟨d0, fd0⟩ := HL8.out.cell o
      have d0' : w8.cell? ⟨D, o, none⟩ = some (.string (mkB p1)) := by rw [d0]; simp [hoz]
      clear d0 hSk hr8 hg8 HL7 HF7 HN7 HA7
      have HL9 : Hid (Lv w0 (w8.setCell ⟨D, o, none⟩ (.string (mkB p3))) R en q3 D T (cs.setIfInBounds o (.string (mkB p3)))) := by
       have := HL8.out.set o (.string (mkB p3))
       rw [Array.setIfInBounds_setIfInBounds] at this
       exact this
      go_wp2_with fail
      go_roundw
      case rel =>
       refine ⟨k + 1, f, p3, q3, .string (mkB qq.nameT), .int .i64 (qq.nameP en).1, .int .i64 (qq.nameP en).2, by go_num, by omega, by omega, hpl3, hte, HL9.out, ?_, ?_, ?_, by omega, HNX.out⟩
       ·rw [Below.heap_setCell _ _ _ _ (by show F ≠ D; omega)]; exact HF8.out
       ·rw [Below.heap_setCell _ _ _ _ (by show F + 1 ≠ D; omega)]; exact HN8.out
       ·rw [Below.heap_setCell _ _ _ _ (by show F + 2 ≠ D; omega)]; exact HA8.out
      case measure => simp [intOf]; omega
     ·have hi3 : q1.is [46] = false := by simpa using hi2
      have hsk : q1.skip [46] = q1 := by unfold Rd.skip; rw [if_neg hi2]
      rw [hsk, hi3] at hSk
      have hPQ := HPQ.out
      rw [pathL_off en _ _ _ _ _ hi3] at hPQ
      have HP1 : Hid (PA.1 = p1) := by refine (?_ : _ = _); rw [hPQ]
      have HP2 : Hid (PA.2 = q1) := by refine (?_ : _ = _); rw [hPQ]
      have HDD : Hid (decide (PA.2.e = 0) = true) := by refine (?_ : _ = _); rw [HP2.out]; exact decide_eq_true hqn
      clear hi2 hi3 hsk HPQ hPQ ha1
      go_wp2_with fail
      refine hSk.mono ?_
      rintro e w8 ⟨rfl, hr8, hg8⟩
      go_wp2_with fail
      go_ret
      refine ⟨p1, retB HDD.out.symm, fun _ => HP1.out.symm, ?_⟩
      rw [HP2.out]
      exact HL7.out.step hr8 hg8
  ·have hi' : qq.isName = false := by simpa using hi
   rw [if_neg hi, hi'] at hNa
   have hne : (qq.name en).e ≠ 0 := by
    have := Rd.e_name en hqe
    rw [hi'] at this
    exact of_decide_eq_false this
   have hPQ := HPQ.out
   have hff : (if k = 9 then (qq.name en).fail 8 FP else qq.name en) = qq.name en := by
    by_cases h9 : k = 9
    ·rw [if_pos h9, Rd.fail_stay hne]
    ·rw [if_neg h9]
   rw [hff, pathL_off en _ _ _ _ _ (Rd.is_off hne _)] at hPQ
   have HP2 : Hid (PA.2 = qq.name en) := by refine (?_ : _ = _); rw [hPQ]
   have HDD : Hid (decide (PA.2.e = 0) = false) := by refine (?_ : _ = _); rw [HP2.out]; exact decide_eq_false hne
   clear hi hi' HPQ hPQ hff hL hF hN hA HF hNL
   go_wp2_with fail
   refine hNa.mono ?_
   rintro e w5 ⟨rfl, hr5, hg5⟩
   go_wp2_with fail
   go_ret
   refine ⟨p, retB HDD.out.symm, fun hx => absurd hx (of_decide_eq_false HDD.out), ?_⟩
   rw [HP2.out]
   exact HL.out.step hr5 hg5
end Go.Proofs.YtpojeinddnjpfaaGreatDoor
