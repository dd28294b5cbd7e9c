/-
  The walk over Same of two frames.
-/
import Derived.Test.YtckbplhplpnhaaaDoorFrS
namespace Go.Proofs.YtckbplhplpnhaaaDoor
set_option linter.unusedVariables false
open Go.ChangeShapes Go.WideShapes Go.ChangeAt Go.RowKit

set_option maxHeartbeats 4000000 in
set_option maxRecDepth 20000 in
theorem sameFR_0 (k cl tk at1 fl me dl st kx clx tkx at1x flx mex dlx stx : Int) (a a2 : Option Addr) (n c n2 c2 : Nat) (p px : List Int) (w : World) (hd : (k == kx) = false) :
    Calls Tryd.prog 16 #[.agg #[.int .i64 k, .int .i64 cl, .int .u64 tk, .int .i64 at1, .int .u64 fl, .int .i64 me, .int .i64 dl, .int .i64 st, .slice a n c], .agg #[.int .i64 kx, .int .i64 clx, .int .u64 tkx, .int .i64 at1x, .int .u64 flx, .int .i64 mex, .int .i64 dlx, .int .i64 stx, .slice a2 n2 c2]] w fun e w' => e = .returned (.bool false) ∧ Below w.heap.size w w' := by
  go_enter Tryd.func16, Tryd.ntmps16
  go_wp2
  go_ret
  exact ⟨rfl, ((Below.refl _ _).alloc (Nat.le_refl _) _).alloc (by simp) _⟩
set_option maxHeartbeats 4000000 in
set_option maxRecDepth 20000 in
theorem sameFR_1 (k cl tk at1 fl me dl st clx tkx at1x flx mex dlx stx : Int) (a a2 : Option Addr) (n c n2 c2 : Nat) (p px : List Int) (w : World) (hd : (cl == clx) = false) :
    Calls Tryd.prog 16 #[.agg #[.int .i64 k, .int .i64 cl, .int .u64 tk, .int .i64 at1, .int .u64 fl, .int .i64 me, .int .i64 dl, .int .i64 st, .slice a n c], .agg #[.int .i64 k, .int .i64 clx, .int .u64 tkx, .int .i64 at1x, .int .u64 flx, .int .i64 mex, .int .i64 dlx, .int .i64 stx, .slice a2 n2 c2]] w fun e w' => e = .returned (.bool false) ∧ Below w.heap.size w w' := by
  go_enter Tryd.func16, Tryd.ntmps16
  go_wp2
  go_ret
  exact ⟨rfl, ((Below.refl _ _).alloc (Nat.le_refl _) _).alloc (by simp) _⟩
set_option maxHeartbeats 4000000 in
set_option maxRecDepth 20000 in
theorem sameFR_2 (k cl tk at1 fl me dl st tkx at1x flx mex dlx stx : Int) (a a2 : Option Addr) (n c n2 c2 : Nat) (p px : List Int) (w : World) (hd : (tk == tkx) = false) :
    Calls Tryd.prog 16 #[.agg #[.int .i64 k, .int .i64 cl, .int .u64 tk, .int .i64 at1, .int .u64 fl, .int .i64 me, .int .i64 dl, .int .i64 st, .slice a n c], .agg #[.int .i64 k, .int .i64 cl, .int .u64 tkx, .int .i64 at1x, .int .u64 flx, .int .i64 mex, .int .i64 dlx, .int .i64 stx, .slice a2 n2 c2]] w fun e w' => e = .returned (.bool false) ∧ Below w.heap.size w w' := by
  go_enter Tryd.func16, Tryd.ntmps16
  go_wp2
  go_ret
  exact ⟨rfl, ((Below.refl _ _).alloc (Nat.le_refl _) _).alloc (by simp) _⟩
set_option maxHeartbeats 4000000 in
set_option maxRecDepth 20000 in
theorem sameFR_3 (k cl tk at1 fl me dl st at1x flx mex dlx stx : Int) (a a2 : Option Addr) (n c n2 c2 : Nat) (p px : List Int) (w : World) (hd : (at1 == at1x) = false) :
    Calls Tryd.prog 16 #[.agg #[.int .i64 k, .int .i64 cl, .int .u64 tk, .int .i64 at1, .int .u64 fl, .int .i64 me, .int .i64 dl, .int .i64 st, .slice a n c], .agg #[.int .i64 k, .int .i64 cl, .int .u64 tk, .int .i64 at1x, .int .u64 flx, .int .i64 mex, .int .i64 dlx, .int .i64 stx, .slice a2 n2 c2]] w fun e w' => e = .returned (.bool false) ∧ Below w.heap.size w w' := by
  go_enter Tryd.func16, Tryd.ntmps16
  go_wp2
  go_ret
  exact ⟨rfl, ((Below.refl _ _).alloc (Nat.le_refl _) _).alloc (by simp) _⟩
set_option maxHeartbeats 4000000 in
set_option maxRecDepth 20000 in
theorem sameFR_4 (k cl tk at1 fl me dl st flx mex dlx stx : Int) (a a2 : Option Addr) (n c n2 c2 : Nat) (p px : List Int) (w : World) (hd : (fl == flx) = false) :
    Calls Tryd.prog 16 #[.agg #[.int .i64 k, .int .i64 cl, .int .u64 tk, .int .i64 at1, .int .u64 fl, .int .i64 me, .int .i64 dl, .int .i64 st, .slice a n c], .agg #[.int .i64 k, .int .i64 cl, .int .u64 tk, .int .i64 at1, .int .u64 flx, .int .i64 mex, .int .i64 dlx, .int .i64 stx, .slice a2 n2 c2]] w fun e w' => e = .returned (.bool false) ∧ Below w.heap.size w w' := by
  go_enter Tryd.func16, Tryd.ntmps16
  go_wp2
  go_ret
  exact ⟨rfl, ((Below.refl _ _).alloc (Nat.le_refl _) _).alloc (by simp) _⟩
set_option maxHeartbeats 4000000 in
set_option maxRecDepth 20000 in
theorem sameFR_5 (k cl tk at1 fl me dl st mex dlx stx : Int) (a a2 : Option Addr) (n c n2 c2 : Nat) (p px : List Int) (w : World) (hd : (me == mex) = false) :
    Calls Tryd.prog 16 #[.agg #[.int .i64 k, .int .i64 cl, .int .u64 tk, .int .i64 at1, .int .u64 fl, .int .i64 me, .int .i64 dl, .int .i64 st, .slice a n c], .agg #[.int .i64 k, .int .i64 cl, .int .u64 tk, .int .i64 at1, .int .u64 fl, .int .i64 mex, .int .i64 dlx, .int .i64 stx, .slice a2 n2 c2]] w fun e w' => e = .returned (.bool false) ∧ Below w.heap.size w w' := by
  go_enter Tryd.func16, Tryd.ntmps16
  go_wp2
  go_ret
  exact ⟨rfl, ((Below.refl _ _).alloc (Nat.le_refl _) _).alloc (by simp) _⟩
set_option maxHeartbeats 4000000 in
set_option maxRecDepth 20000 in
theorem sameFR_6 (k cl tk at1 fl me dl st dlx stx : Int) (a a2 : Option Addr) (n c n2 c2 : Nat) (p px : List Int) (w : World) (hd : (dl == dlx) = false) :
    Calls Tryd.prog 16 #[.agg #[.int .i64 k, .int .i64 cl, .int .u64 tk, .int .i64 at1, .int .u64 fl, .int .i64 me, .int .i64 dl, .int .i64 st, .slice a n c], .agg #[.int .i64 k, .int .i64 cl, .int .u64 tk, .int .i64 at1, .int .u64 fl, .int .i64 me, .int .i64 dlx, .int .i64 stx, .slice a2 n2 c2]] w fun e w' => e = .returned (.bool false) ∧ Below w.heap.size w w' := by
  go_enter Tryd.func16, Tryd.ntmps16
  go_wp2
  go_ret
  exact ⟨rfl, ((Below.refl _ _).alloc (Nat.le_refl _) _).alloc (by simp) _⟩
set_option maxHeartbeats 4000000 in
set_option maxRecDepth 20000 in
theorem sameFR_7 (k cl tk at1 fl me dl st stx : Int) (a a2 : Option Addr) (n c n2 c2 : Nat) (p px : List Int) (w : World) (hd : (st == stx) = false) :
    Calls Tryd.prog 16 #[.agg #[.int .i64 k, .int .i64 cl, .int .u64 tk, .int .i64 at1, .int .u64 fl, .int .i64 me, .int .i64 dl, .int .i64 st, .slice a n c], .agg #[.int .i64 k, .int .i64 cl, .int .u64 tk, .int .i64 at1, .int .u64 fl, .int .i64 me, .int .i64 dl, .int .i64 stx, .slice a2 n2 c2]] w fun e w' => e = .returned (.bool false) ∧ Below w.heap.size w w' := by
  go_enter Tryd.func16, Tryd.ntmps16
  go_wp2
  go_ret
  exact ⟨rfl, ((Below.refl _ _).alloc (Nat.le_refl _) _).alloc (by simp) _⟩
set_option maxHeartbeats 4000000 in
set_option maxRecDepth 20000 in
theorem sameFR_8 (k cl tk at1 fl me dl st : Int) (a a2 : Option Addr) (n c n2 c2 : Nat) (p px : List Int) (w : World) (h : SlB w a n c p) (h2 : SlB w a2 n2 c2 px) :
    Calls Tryd.prog 16 #[.agg #[.int .i64 k, .int .i64 cl, .int .u64 tk, .int .i64 at1, .int .u64 fl, .int .i64 me, .int .i64 dl, .int .i64 st, .slice a n c], .agg #[.int .i64 k, .int .i64 cl, .int .u64 tk, .int .i64 at1, .int .u64 fl, .int .i64 me, .int .i64 dl, .int .i64 st, .slice a2 n2 c2]] w fun e w' => e = .returned (.bool (decide (p = px))) ∧ Below w.heap.size w w' := by
  have hb : Below w.heap.size w ((w.alloc (.cells #[.int .i64 k, .int .i64 cl, .int .u64 tk, .int .i64 at1, .int .u64 fl, .int .i64 me, .int .i64 dl, .int .i64 st, .slice a n c] 25)).alloc (.cells #[.int .i64 k, .int .i64 cl, .int .u64 tk, .int .i64 at1, .int .u64 fl, .int .i64 me, .int .i64 dl, .int .i64 st, .slice a2 n2 c2] 25)) := ((Below.refl _ _).alloc (Nat.le_refl _) _).alloc (by simp) _
  have r1 := run_str _ a n c p (slB_old h hb).1
  have r2 := run_str _ a2 n2 c2 px (slB_old h2 hb).1
  have hs := str_inj p px (isB_bt h.1) (isB_bt h2.1)
  have HB := Lib.hid hb
  clear h h2 hb
  obtain ⟨s, hs1⟩ : ∃ s, strOfNums p = s := ⟨_, rfl⟩
  obtain ⟨t, ht1⟩ : ∃ t, strOfNums px = t := ⟨_, rfl⟩
  rw [hs1] at r1 hs
  rw [ht1] at r2 hs
  obtain ⟨b, hb⟩ : ∃ b, decide (p = px) = b := ⟨_, rfl⟩
  rw [hb] at hs ⊢
  clear hs1 ht1 hb
  go_enter Tryd.func16, Tryd.ntmps16
  go_wp2
  go_ret
  exact ⟨rfl, HB.out⟩
theorem sameFR_any (k cl tk at1 fl me dl st kx clx tkx at1x flx mex dlx stx : Int) (a a2 : Option Addr) (n c n2 c2 : Nat) (p px : List Int) (w : World) (h : SlB w a n c p) (h2 : SlB w a2 n2 c2 px) :
    Calls Tryd.prog 16 #[.agg #[.int .i64 k, .int .i64 cl, .int .u64 tk, .int .i64 at1, .int .u64 fl, .int .i64 me, .int .i64 dl, .int .i64 st, .slice a n c], .agg #[.int .i64 kx, .int .i64 clx, .int .u64 tkx, .int .i64 at1x, .int .u64 flx, .int .i64 mex, .int .i64 dlx, .int .i64 stx, .slice a2 n2 c2]] w fun e w' => e = .returned (.bool (sameF ⟨k, cl, tk, at1, fl, me, dl, st, p⟩ ⟨kx, clx, tkx, at1x, flx, mex, dlx, stx, px⟩)) ∧ Below w.heap.size w w' := by
  by_cases e0 : k = kx
  case neg =>
    rw [show sameF ⟨k, cl, tk, at1, fl, me, dl, st, p⟩ ⟨kx, clx, tkx, at1x, flx, mex, dlx, stx, px⟩ = false from decide_eq_false fun h => e0 h.1]
    exact sameFR_0 k cl tk at1 fl me dl st kx clx tkx at1x flx mex dlx stx a a2 n c n2 c2 p px w (by rw [beq_eq_false_iff_ne]; exact e0)
  subst e0
  by_cases e1 : cl = clx
  case neg =>
    rw [show sameF ⟨k, cl, tk, at1, fl, me, dl, st, p⟩ ⟨k, clx, tkx, at1x, flx, mex, dlx, stx, px⟩ = false from decide_eq_false fun h => e1 h.2.1]
    exact sameFR_1 k cl tk at1 fl me dl st clx tkx at1x flx mex dlx stx a a2 n c n2 c2 p px w (by rw [beq_eq_false_iff_ne]; exact e1)
  subst e1
  by_cases e2 : tk = tkx
  case neg =>
    rw [show sameF ⟨k, cl, tk, at1, fl, me, dl, st, p⟩ ⟨k, cl, tkx, at1x, flx, mex, dlx, stx, px⟩ = false from decide_eq_false fun h => e2 h.2.2.1]
    exact sameFR_2 k cl tk at1 fl me dl st tkx at1x flx mex dlx stx a a2 n c n2 c2 p px w (by rw [beq_eq_false_iff_ne]; exact e2)
  subst e2
  by_cases e3 : at1 = at1x
  case neg =>
    rw [show sameF ⟨k, cl, tk, at1, fl, me, dl, st, p⟩ ⟨k, cl, tk, at1x, flx, mex, dlx, stx, px⟩ = false from decide_eq_false fun h => e3 h.2.2.2.1]
    exact sameFR_3 k cl tk at1 fl me dl st at1x flx mex dlx stx a a2 n c n2 c2 p px w (by rw [beq_eq_false_iff_ne]; exact e3)
  subst e3
  by_cases e4 : fl = flx
  case neg =>
    rw [show sameF ⟨k, cl, tk, at1, fl, me, dl, st, p⟩ ⟨k, cl, tk, at1, flx, mex, dlx, stx, px⟩ = false from decide_eq_false fun h => e4 h.2.2.2.2.1]
    exact sameFR_4 k cl tk at1 fl me dl st flx mex dlx stx a a2 n c n2 c2 p px w (by rw [beq_eq_false_iff_ne]; exact e4)
  subst e4
  by_cases e5 : me = mex
  case neg =>
    rw [show sameF ⟨k, cl, tk, at1, fl, me, dl, st, p⟩ ⟨k, cl, tk, at1, fl, mex, dlx, stx, px⟩ = false from decide_eq_false fun h => e5 h.2.2.2.2.2.1]
    exact sameFR_5 k cl tk at1 fl me dl st mex dlx stx a a2 n c n2 c2 p px w (by rw [beq_eq_false_iff_ne]; exact e5)
  subst e5
  by_cases e6 : dl = dlx
  case neg =>
    rw [show sameF ⟨k, cl, tk, at1, fl, me, dl, st, p⟩ ⟨k, cl, tk, at1, fl, me, dlx, stx, px⟩ = false from decide_eq_false fun h => e6 h.2.2.2.2.2.2.1]
    exact sameFR_6 k cl tk at1 fl me dl st dlx stx a a2 n c n2 c2 p px w (by rw [beq_eq_false_iff_ne]; exact e6)
  subst e6
  by_cases e7 : st = stx
  case neg =>
    rw [show sameF ⟨k, cl, tk, at1, fl, me, dl, st, p⟩ ⟨k, cl, tk, at1, fl, me, dl, stx, px⟩ = false from decide_eq_false fun h => e7 h.2.2.2.2.2.2.2.1]
    exact sameFR_7 k cl tk at1 fl me dl st stx a a2 n c n2 c2 p px w (by rw [beq_eq_false_iff_ne]; exact e7)
  subst e7
  have hx : sameF ⟨k, cl, tk, at1, fl, me, dl, st, p⟩ ⟨k, cl, tk, at1, fl, me, dl, st, px⟩ = decide (p = px) := by unfold sameF; simp
  rw [hx]
  exact sameFR_8 k cl tk at1 fl me dl st a a2 n c n2 c2 p px w h h2
end Go.Proofs.YtckbplhplpnhaaaDoor
