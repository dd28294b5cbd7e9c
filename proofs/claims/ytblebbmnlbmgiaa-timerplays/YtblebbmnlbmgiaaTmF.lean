/-
  The walk over the program's find: a key's timer in a tree.
-/
import Derived.Test.YtblebbmnlbmgiaaTmP
namespace Go.Proofs.Ytblebbmnlbmgiaa
set_option linter.unusedVariables false
open Go.ChangeShapes Go.WideShapes Go.ChangeAt Go.RowKit

/-- a tree, or none, lies in memory -/
def HeldO (w : World) (ok : Nat → Prop) (T : Option Tr) (v : Value) : Prop := match T with
  | none => v = .pointer none
  | some t => ∃ b, v = ptr b ∧ HeldT w ok t b
theorem HeldO.mv {w w' : World} {ok ok' : Nat → Prop} (hb : ∀ b, ok b → b < w.heap.size → w'.heap[b]? = w.heap[b]?) (ho : ∀ b, ok b → b < w.heap.size → ok' b) {T : Option Tr} {v : Value} (h : HeldO w ok T v) : HeldO w' ok' T v := by
  cases T with
  | none => exact h
  | some t => obtain ⟨b, h1, h2⟩ := h; exact ⟨b, h1, h2.mv hb ho⟩
/-- the span that a node has in memory -/
def spanAt (w : World) (v : Value) : Nat := match v with
  | .pointer (some a) => match w.cell? ⟨a.block, 2, none⟩ with
    | some (.int _ s) => s.toNat
    | _ => 0
  | _ => 0
theorem HeldT.spanAt {w : World} {ok : Nat → Prop} {t : Tr} {b : Nat} (h : HeldT w ok t b) : spanAt w (ptr b) = t.span := by
  have := h.head.2.2.2
  unfold Go.Proofs.Ytblebbmnlbmgiaa.spanAt ptr
  simp only [this]
  simp
theorem sideN (k s : Nat) : k / 2 ^ (s - 1) % 2 = 0 ∨ k / 2 ^ (s - 1) % 2 = 1 := by omega
/-- what find answers -/
def FindAns (w : World) (ok : Nat → Prop) (T : Option Tr) (k : Nat) (e : Ending) : Prop :=
  (∃ q d, e = .returned (ptr q) ∧ MemO T k d ∧ ok q ∧ w.cell? ⟨q, 1, none⟩ = some (.int .i64 d)) ∨ (e = .returned (.pointer none) ∧ ∀ d, ¬ MemO T k d)
set_option maxHeartbeats 2000000 in
theorem find_any (T : Option Tr) (v : Value) (k : Nat) (ok : Nat → Prop) (w : World) (hT : HeldO w ok T v) (hw : ∀ t, T = some t → t.WF) (hk : k < 18446744073709551616) :
    Calls Try.prog 18 #[v, .int .u64 k] w fun e w' => FindAns w ok T k e ∧ Below w.heap.size w w' := by
  cases T with
  | none =>
    obtain rfl := hT
    go_enter Try.func18, Try.ntmps18
    go_wp2
    go_loopw [0] (fun n wr => n = .pointer none ∧ wr = w) (fun n _ => 0)
    case atStart => exact ⟨rfl, rfl⟩
    case round =>
      obtain ⟨rfl, rfl⟩ := hrel
      go_wp2
      go_ret
      exact ⟨.inr ⟨rfl, fun d h => by obtain ⟨t, e, _⟩ := h; cases e⟩, Below.refl _ _⟩
  | some t =>
    obtain ⟨b, rfl, hT⟩ := hT
    have hwf := hw t rfl
    clear hw
    go_enter Try.func18, Try.ntmps18
    go_wp2
    have HWF := Lib.hid hwf
    have HT := Lib.hid hT
    clear hwf hT
    go_loopw [0] (fun n wr => ∃ t' b', n = ptr b' ∧ Hid (HeldT w ok t' b') ∧ Hid t'.WF ∧ Hid (∀ d, t.Mem k d ↔ t'.Mem k d) ∧ Hid (Below w.heap.size w wr)) (fun n _ => spanAt w n)
    case atStart => exact ⟨t, b, rfl, HT, HWF, Lib.hid fun d => Iff.rfl, Lib.hid (Below.refl _ _)⟩
    case round =>
      obtain ⟨t', b', rfl, HT', HW', HM, HB⟩ := hrel
      have hsp := HT'.out.spanAt
      unfold ptr at *
      cases t' with
      | leaf k' d' =>
        obtain ⟨ho, c0, c1, c2⟩ := HT'.out
        have c0 := (HB.out.cell (p := ⟨b', 0, none⟩) (cell_lt c0)).trans c0
        have c2 := (HB.out.cell (p := ⟨b', 2, none⟩) (cell_lt c2)).trans c2
        have hk' : k' < 18446744073709551616 := HW'.out
        by_cases hkk : k' = k
        · subst hkk
          go_wp2_with fail
          go_ret
          refine ⟨.inl ⟨b', d', rfl, ⟨t, rfl, (HM.out d').2 ⟨rfl, rfl⟩⟩, ho, c1⟩, HB.out⟩
        · have hkk2 : ¬ ((k' : Int) = (k : Int)) := by omega
          go_wp2_with fail
          go_ret
          refine ⟨.inr ⟨rfl, fun d h => ?_⟩, HB.out⟩
          obtain ⟨t2, e, h⟩ := h
          obtain rfl := Option.some.inj e
          exact hkk ((HM.out d).1 h).1.symm
      | bin k' d' s x y =>
        obtain ⟨ho, c0, c1, c2, bx, bz, c3, c4, hx, hy⟩ := HT'.out
        have c2 := (HB.out.cell (p := ⟨b', 2, none⟩) (cell_lt c2)).trans c2
        have c3 := (HB.out.cell (p := ⟨b', 3, none⟩) (cell_lt c3)).trans c3
        have c4 := (HB.out.cell (p := ⟨b', 4, none⟩) (cell_lt c4)).trans c4
        obtain ⟨wx, wy, hs1, hs2, ⟨p, hpx, hpy⟩, hl⟩ := HW'.out
        have hsx := wx.span_le hpx
        have hsy := wy.span_le hpy
        have hsd := fun wz => side_any k s wz hk hs1 hs2
        have HX := Lib.hid hx
        have HY := Lib.hid hy
        have HWX := Lib.hid wx
        have HWY := Lib.hid wy
        have HSX := Lib.hid hx.spanAt
        have HSY := Lib.hid hy.spanAt
        have hin : ∀ d, (k / 2 ^ (s - 1) % 2 = 0 → (t.Mem k d ↔ x.Mem k d)) ∧ (k / 2 ^ (s - 1) % 2 = 1 → (t.Mem k d ↔ y.Mem k d)) := fun d =>
          ⟨fun e => (HM.out d).trans ((HW'.out.side (k' := k) (d' := d)).1 e), fun e => (HM.out d).trans ((HW'.out.side (k' := k) (d' := d)).2 e)⟩
        have HIN := Lib.hid hin
        clear hin hx hy wx wy hl hpx hpy c0 c1
        have hspd : (0 : Int) < (s : Int) := by omega
        rcases sideN k s with e0 | e0
        · rw [e0] at hsd
          have HE := Lib.hid e0
          clear e0
          go_wp2_with fail
          go_quiet (with_reducible exact Calls.quiet_of_same (hsd _))
          go_wp2_with fail
          go_roundw
          case rel => exact ⟨x, bx, rfl, HX, HWX, Lib.hid fun d => (HIN.out d).1 HE.out, Lib.hid (HB.out.trans ((below_drewN _ _).mono HB.out.size))⟩
          case measure => rw [HSX.out, hsp]; show x.span < s; omega
        · rw [e0] at hsd
          have HE := Lib.hid e0
          clear e0
          go_wp2_with fail
          go_quiet (with_reducible exact Calls.quiet_of_same (hsd _))
          go_wp2_with fail
          go_roundw
          case rel => exact ⟨y, bz, rfl, HY, HWY, Lib.hid fun d => (HIN.out d).2 HE.out, Lib.hid (HB.out.trans ((below_drewN _ _).mono HB.out.size))⟩
          case measure => rw [HSY.out, hsp]; show y.span < s; omega
end Go.Proofs.Ytblebbmnlbmgiaa
