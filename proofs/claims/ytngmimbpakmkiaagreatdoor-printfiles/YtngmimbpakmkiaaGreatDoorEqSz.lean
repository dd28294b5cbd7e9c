/-
  The walks over slices.Equal at the fields, values and methods of the program.
-/
import Derived.Test.YtngmimbpakmkiaaGreatDoorGmA
import Derived.Test.YtngmimbpakmkiaaGreatDoorProg
import Derived.Lib.SlicesS
namespace Go.Proofs.YtngmimbpakmkiaaGreatDoor
set_option linter.unusedVariables false
open Go.ChangeShapes Go.WideShapes Go.ChangeAt Go.RowKit

theorem fdD_eq {a b : Fd} (h0 : a.rep = b.rep) (h1 : a.type = b.type) (h2 : a.name = b.name) (h3 : a.num = b.num) (h4 : a.line = b.line) (h5 : a.col = b.col) : a = b := by
  cases a; cases b; simp_all
theorem vlD_eq {a b : Vl} (h2 : a.name = b.name) (h3 : a.num = b.num) (h4 : a.line = b.line) (h5 : a.col = b.col) : a = b := by
  cases a; cases b; simp_all
theorem mtD_eq {a b : Mt} (h2 : a.name = b.name) (h3 : a.inp = b.inp) (h3' : a.out = b.out) (h4 : a.line = b.line) (h5 : a.col = b.col) : a = b := by
  cases a; cases b; simp_all
theorem takeD_next {α : Type} {l1 l2 : List α} {q : Nat} {x : α} (h : l1.take q = l2.take q) (h1 : l1[q]? = some x) (h2 : l2[q]? = some x) : l1.take (q + 1) = l2.take (q + 1) := by
  rw [List.take_add_one, List.take_add_one, h, h1, h2]
theorem mkBD_ne {a b : List UInt8} (h : ¬ a = b) : mkB a ≠ mkB b := fun e => h (by simpa [mkB] using e)
theorem mkBD_beq {a b : List UInt8} (h : ¬ a = b) : ((mkB a).toList == (mkB b).toList) = false := (Lib.bytes_beq_false_iff _ _).2 (mkBD_ne h)
/-- what a comparison answers -/
def QAns {α : Type} (w : World) (xs ys : List α) (e : Ending) (w' : World) : Prop := ∃ b : Bool, e = .returned (.bool b) ∧ (b = true ↔ xs = ys) ∧ Below w.heap.size w w'
set_option maxHeartbeats 8000000 in
set_option maxRecDepth 20000 in
theorem eqF_any {S : Nat → Prop} (v1 v2 : Value) (xs ys : List Fd) (w : World) (h1 : RowsIn w S 6 frow v1 xs) (h2 : RowsIn w S 6 frow v2 ys) (hS : ∀ b, S b → b < w.heap.size) (hl : xs.length ≤ 100000) :
    Calls Tryz.prog 39 #[v1, v2] w fun e w' => QAns w xs ys e w' := by
  obtain ⟨ad1, c1, rfl, hc1, H1⟩ := h1
  obtain ⟨ad2, c2, rfl, hc2, H2⟩ := h2
  have Hf1 := Lib.hid H1
  have Hf2 := Lib.hid H2
  clear H1 H2
  by_cases hn : xs.length = ys.length
  case neg =>
    have t' : ((xs.length : Int) != (ys.length : Int)) = true := by simp; omega
    have HN := Lib.hid hn
    clear hn
    go_enter Tryz.func39, Tryz.ntmps39
    go_wp2_with fail
    go_ret
    exact ⟨false, rfl, by simp; intro h; exact HN.out (by rw [h]), Below.refl _ _⟩
  have HN := Lib.hid hn
  have hnn : ((xs.length : Int) != (ys.length : Int)) = false := by simp; omega
  rw [← hn]
  rw [← hn] at hnn hc2
  clear hn
  go_enter Tryz.func39, Tryz.ntmps39
  go_wp2_with fail
  go_loopw [13] (fun kk wq => ∃ q : Nat, kk = .int .i64 (q : Int) ∧ q ≤ xs.length ∧ xs.take q = ys.take q ∧ Below w.heap.size w wq) (fun kk _ => xs.length - (intOf kk).toNat)
  case atStart => exact ⟨0, rfl, by omega, rfl, Below.refl _ _⟩
  case round =>
    obtain ⟨q, rfl, hq, htk, hbq⟩ := hrel
    have HBQ := Lib.hid hbq
    have HTK := Lib.hid htk
    clear hbq htk
    by_cases hqn : q < xs.length
    · obtain ⟨x1, hx1⟩ : ∃ x, xs[q]? = some x := ⟨_, List.getElem?_eq_getElem hqn⟩
      obtain ⟨x2, hx2⟩ : ∃ x, ys[q]? = some x := ⟨_, List.getElem?_eq_getElem (by have := HN.out; omega)⟩
      rcases Hf1.out with h0 | ⟨g3, o3, rfl, hg3, hk3⟩
      · rw [h0] at hx1; simp at hx1
      rcases Hf2.out with h0 | ⟨g4, o4, rfl, hg4, hk4⟩
      · rw [h0] at hx2; simp at hx2
      have b3 := HBQ.out.block g3 (hS g3 hg3)
      have b4 := HBQ.out.block g4 (hS g4 hg4)
      have e3_0 : wr.cell? ⟨g3, o3 + q * 6, none⟩ = some (.bool x1.rep) := by
        rw [World.cell?_of_block b3]
        have := hk3 q x1 hx1 0 _ rfl
        simpa [Nat.add_assoc] using this
      have e4_0 : wr.cell? ⟨g4, o4 + q * 6, none⟩ = some (.bool x2.rep) := by
        rw [World.cell?_of_block b4]
        have := hk4 q x2 hx2 0 _ rfl
        simpa [Nat.add_assoc] using this
      have e3_1 : wr.cell? ⟨g3, o3 + q * 6 + 1, none⟩ = some (.string (mkB x1.type)) := by
        rw [World.cell?_of_block b3]
        have := hk3 q x1 hx1 1 _ rfl
        simpa [Nat.add_assoc] using this
      have e4_1 : wr.cell? ⟨g4, o4 + q * 6 + 1, none⟩ = some (.string (mkB x2.type)) := by
        rw [World.cell?_of_block b4]
        have := hk4 q x2 hx2 1 _ rfl
        simpa [Nat.add_assoc] using this
      have e3_2 : wr.cell? ⟨g3, o3 + q * 6 + 2, none⟩ = some (.string (mkB x1.name)) := by
        rw [World.cell?_of_block b3]
        have := hk3 q x1 hx1 2 _ rfl
        simpa [Nat.add_assoc] using this
      have e4_2 : wr.cell? ⟨g4, o4 + q * 6 + 2, none⟩ = some (.string (mkB x2.name)) := by
        rw [World.cell?_of_block b4]
        have := hk4 q x2 hx2 2 _ rfl
        simpa [Nat.add_assoc] using this
      have e3_3 : wr.cell? ⟨g3, o3 + q * 6 + 3, none⟩ = some (.int .i64 x1.num) := by
        rw [World.cell?_of_block b3]
        have := hk3 q x1 hx1 3 _ rfl
        simpa [Nat.add_assoc] using this
      have e4_3 : wr.cell? ⟨g4, o4 + q * 6 + 3, none⟩ = some (.int .i64 x2.num) := by
        rw [World.cell?_of_block b4]
        have := hk4 q x2 hx2 3 _ rfl
        simpa [Nat.add_assoc] using this
      have e3_4 : wr.cell? ⟨g3, o3 + q * 6 + 4, none⟩ = some (.int .i64 x1.line) := by
        rw [World.cell?_of_block b3]
        have := hk3 q x1 hx1 4 _ rfl
        simpa [Nat.add_assoc] using this
      have e4_4 : wr.cell? ⟨g4, o4 + q * 6 + 4, none⟩ = some (.int .i64 x2.line) := by
        rw [World.cell?_of_block b4]
        have := hk4 q x2 hx2 4 _ rfl
        simpa [Nat.add_assoc] using this
      have e3_5 : wr.cell? ⟨g3, o3 + q * 6 + 5, none⟩ = some (.int .i64 x1.col) := by
        rw [World.cell?_of_block b3]
        have := hk3 q x1 hx1 5 _ rfl
        simpa [Nat.add_assoc] using this
      have e4_5 : wr.cell? ⟨g4, o4 + q * 6 + 5, none⟩ = some (.int .i64 x2.col) := by
        rw [World.cell?_of_block b4]
        have := hk4 q x2 hx2 5 _ rfl
        simpa [Nat.add_assoc] using this
      have hq0 : (0 : Int) ≤ (q : Int) := by omega
      have hq1 : (q : Int) < (xs.length : Int) := by omega
      have hwq : IntKind.i64.wrap ((q : Int) + 1) = (q : Int) + 1 := by rw [IntKind.wrap_i64]; omega
      have HTQ : Hid (∀ nq : Nat, Below w.heap.size w (wr.drewN nq)) := fun nq => HBQ.out.trans ⟨rfl, rfl, rfl, Nat.le_refl _, fun _ _ => rfl⟩
      have HX : Hid (xs = ys → x1 = x2) := fun h => by subst h; exact Option.some.inj (hx1.symm.trans hx2)
      have HT' : Hid (x1 = x2 → xs.take (q + 1) = ys.take (q + 1)) := fun h => takeD_next HTK.out hx1 (h ▸ hx2)
      clear hx1 hx2 hk3 hk4 b3 b4 Hf1 Hf2
      by_cases t0 : x1.rep = x2.rep
      case neg =>
        have HQ := Lib.hid t0
        go_wp2_with fail
        go_quiet (fail)
        go_wp2_with fail
        go_ret
        exact ⟨false, rfl, by simp; intro h; exact HQ.out (by rw [HX.out h]), HTQ.out _⟩
      rw [← t0] at e4_0
      have U0 := Lib.hid t0
      clear t0
      by_cases t1 : x1.type = x2.type
      case neg =>
        have t' := mkBD_beq t1
        have t'' := beq_eq_false_iff_ne.2 t1
        have HQ := Lib.hid t1
        go_wp2_with fail
        go_quiet (fail)
        go_wp2_with fail
        go_ret
        exact ⟨false, rfl, by simp; intro h; exact HQ.out (by rw [HX.out h]), HTQ.out _⟩
      rw [← t1] at e4_1
      have U1 := Lib.hid t1
      clear t1
      by_cases t2 : x1.name = x2.name
      case neg =>
        have t' := mkBD_beq t2
        have t'' := beq_eq_false_iff_ne.2 t2
        have HQ := Lib.hid t2
        go_wp2_with fail
        go_quiet (fail)
        go_wp2_with fail
        go_ret
        exact ⟨false, rfl, by simp; intro h; exact HQ.out (by rw [HX.out h]), HTQ.out _⟩
      rw [← t2] at e4_2
      have U2 := Lib.hid t2
      clear t2
      by_cases t3 : x1.num = x2.num
      case neg =>
        have HQ := Lib.hid t3
        go_wp2_with fail
        go_quiet (fail)
        go_wp2_with fail
        go_ret
        exact ⟨false, rfl, by simp; intro h; exact HQ.out (by rw [HX.out h]), HTQ.out _⟩
      rw [← t3] at e4_3
      have U3 := Lib.hid t3
      clear t3
      by_cases t4 : x1.line = x2.line
      case neg =>
        have HQ := Lib.hid t4
        go_wp2_with fail
        go_quiet (fail)
        go_wp2_with fail
        go_ret
        exact ⟨false, rfl, by simp; intro h; exact HQ.out (by rw [HX.out h]), HTQ.out _⟩
      rw [← t4] at e4_4
      have U4 := Lib.hid t4
      clear t4
      by_cases t5 : x1.col = x2.col
      case neg =>
        have HQ := Lib.hid t5
        go_wp2_with fail
        go_quiet (fail)
        go_wp2_with fail
        go_ret
        exact ⟨false, rfl, by simp; intro h; exact HQ.out (by rw [HX.out h]), HTQ.out _⟩
      rw [← t5] at e4_5
      have U5 := Lib.hid t5
      clear t5
      have hxe : x1 = x2 := fdD_eq U0.out U1.out U2.out U3.out U4.out U5.out
      have HTE := Lib.hid (HT'.out hxe)
      clear hxe
      go_wp2_with fail
      go_quiet (fail)
      go_wp2_with fail
      go_roundw
      case rel => exact ⟨q + 1, by go_num, by omega, HTE.out, HTQ.out _⟩
      case measure => simp [intOf]; omega
    · have hqn' : ¬ (q : Int) < (xs.length : Int) := by omega
      have hqe : q = xs.length := by omega
      have hall : xs = ys := by
        have := HTK.out
        rw [hqe, List.take_length, HN.out, List.take_length] at this
        exact this
      have HAL := Lib.hid hall
      clear hall hqe
      go_wp2_with fail
      go_ret
      exact ⟨true, rfl, by simp; exact HAL.out, HBQ.out⟩
set_option maxHeartbeats 8000000 in
set_option maxRecDepth 20000 in
theorem eqV_any {S : Nat → Prop} (v1 v2 : Value) (xs ys : List Vl) (w : World) (h1 : RowsIn w S 4 vrow v1 xs) (h2 : RowsIn w S 4 vrow v2 ys) (hS : ∀ b, S b → b < w.heap.size) (hl : xs.length ≤ 100000) :
    Calls Tryz.prog 40 #[v1, v2] w fun e w' => QAns w xs ys e w' := by
  obtain ⟨ad1, c1, rfl, hc1, H1⟩ := h1
  obtain ⟨ad2, c2, rfl, hc2, H2⟩ := h2
  have Hf1 := Lib.hid H1
  have Hf2 := Lib.hid H2
  clear H1 H2
  by_cases hn : xs.length = ys.length
  case neg =>
    have t' : ((xs.length : Int) != (ys.length : Int)) = true := by simp; omega
    have HN := Lib.hid hn
    clear hn
    go_enter Tryz.func40, Tryz.ntmps40
    go_wp2_with fail
    go_ret
    exact ⟨false, rfl, by simp; intro h; exact HN.out (by rw [h]), Below.refl _ _⟩
  have HN := Lib.hid hn
  have hnn : ((xs.length : Int) != (ys.length : Int)) = false := by simp; omega
  rw [← hn]
  rw [← hn] at hnn hc2
  clear hn
  go_enter Tryz.func40, Tryz.ntmps40
  go_wp2_with fail
  go_loopw [13] (fun kk wq => ∃ q : Nat, kk = .int .i64 (q : Int) ∧ q ≤ xs.length ∧ xs.take q = ys.take q ∧ Below w.heap.size w wq) (fun kk _ => xs.length - (intOf kk).toNat)
  case atStart => exact ⟨0, rfl, by omega, rfl, Below.refl _ _⟩
  case round =>
    obtain ⟨q, rfl, hq, htk, hbq⟩ := hrel
    have HBQ := Lib.hid hbq
    have HTK := Lib.hid htk
    clear hbq htk
    by_cases hqn : q < xs.length
    · obtain ⟨x1, hx1⟩ : ∃ x, xs[q]? = some x := ⟨_, List.getElem?_eq_getElem hqn⟩
      obtain ⟨x2, hx2⟩ : ∃ x, ys[q]? = some x := ⟨_, List.getElem?_eq_getElem (by have := HN.out; omega)⟩
      rcases Hf1.out with h0 | ⟨g3, o3, rfl, hg3, hk3⟩
      · rw [h0] at hx1; simp at hx1
      rcases Hf2.out with h0 | ⟨g4, o4, rfl, hg4, hk4⟩
      · rw [h0] at hx2; simp at hx2
      have b3 := HBQ.out.block g3 (hS g3 hg3)
      have b4 := HBQ.out.block g4 (hS g4 hg4)
      have e3_0 : wr.cell? ⟨g3, o3 + q * 4, none⟩ = some (.string (mkB x1.name)) := by
        rw [World.cell?_of_block b3]
        have := hk3 q x1 hx1 0 _ rfl
        simpa [Nat.add_assoc] using this
      have e4_0 : wr.cell? ⟨g4, o4 + q * 4, none⟩ = some (.string (mkB x2.name)) := by
        rw [World.cell?_of_block b4]
        have := hk4 q x2 hx2 0 _ rfl
        simpa [Nat.add_assoc] using this
      have e3_1 : wr.cell? ⟨g3, o3 + q * 4 + 1, none⟩ = some (.int .i64 x1.num) := by
        rw [World.cell?_of_block b3]
        have := hk3 q x1 hx1 1 _ rfl
        simpa [Nat.add_assoc] using this
      have e4_1 : wr.cell? ⟨g4, o4 + q * 4 + 1, none⟩ = some (.int .i64 x2.num) := by
        rw [World.cell?_of_block b4]
        have := hk4 q x2 hx2 1 _ rfl
        simpa [Nat.add_assoc] using this
      have e3_2 : wr.cell? ⟨g3, o3 + q * 4 + 2, none⟩ = some (.int .i64 x1.line) := by
        rw [World.cell?_of_block b3]
        have := hk3 q x1 hx1 2 _ rfl
        simpa [Nat.add_assoc] using this
      have e4_2 : wr.cell? ⟨g4, o4 + q * 4 + 2, none⟩ = some (.int .i64 x2.line) := by
        rw [World.cell?_of_block b4]
        have := hk4 q x2 hx2 2 _ rfl
        simpa [Nat.add_assoc] using this
      have e3_3 : wr.cell? ⟨g3, o3 + q * 4 + 3, none⟩ = some (.int .i64 x1.col) := by
        rw [World.cell?_of_block b3]
        have := hk3 q x1 hx1 3 _ rfl
        simpa [Nat.add_assoc] using this
      have e4_3 : wr.cell? ⟨g4, o4 + q * 4 + 3, none⟩ = some (.int .i64 x2.col) := by
        rw [World.cell?_of_block b4]
        have := hk4 q x2 hx2 3 _ rfl
        simpa [Nat.add_assoc] using this
      have hq0 : (0 : Int) ≤ (q : Int) := by omega
      have hq1 : (q : Int) < (xs.length : Int) := by omega
      have hwq : IntKind.i64.wrap ((q : Int) + 1) = (q : Int) + 1 := by rw [IntKind.wrap_i64]; omega
      have HTQ : Hid (∀ nq : Nat, Below w.heap.size w (wr.drewN nq)) := fun nq => HBQ.out.trans ⟨rfl, rfl, rfl, Nat.le_refl _, fun _ _ => rfl⟩
      have HX : Hid (xs = ys → x1 = x2) := fun h => by subst h; exact Option.some.inj (hx1.symm.trans hx2)
      have HT' : Hid (x1 = x2 → xs.take (q + 1) = ys.take (q + 1)) := fun h => takeD_next HTK.out hx1 (h ▸ hx2)
      clear hx1 hx2 hk3 hk4 b3 b4 Hf1 Hf2
      by_cases t0 : x1.name = x2.name
      case neg =>
        have t' := mkBD_beq t0
        have t'' := beq_eq_false_iff_ne.2 t0
        have HQ := Lib.hid t0
        go_wp2_with fail
        go_quiet (fail)
        go_wp2_with fail
        go_ret
        exact ⟨false, rfl, by simp; intro h; exact HQ.out (by rw [HX.out h]), HTQ.out _⟩
      rw [← t0] at e4_0
      have U0 := Lib.hid t0
      clear t0
      by_cases t1 : x1.num = x2.num
      case neg =>
        have HQ := Lib.hid t1
        go_wp2_with fail
        go_quiet (fail)
        go_wp2_with fail
        go_ret
        exact ⟨false, rfl, by simp; intro h; exact HQ.out (by rw [HX.out h]), HTQ.out _⟩
      rw [← t1] at e4_1
      have U1 := Lib.hid t1
      clear t1
      by_cases t2 : x1.line = x2.line
      case neg =>
        have HQ := Lib.hid t2
        go_wp2_with fail
        go_quiet (fail)
        go_wp2_with fail
        go_ret
        exact ⟨false, rfl, by simp; intro h; exact HQ.out (by rw [HX.out h]), HTQ.out _⟩
      rw [← t2] at e4_2
      have U2 := Lib.hid t2
      clear t2
      by_cases t3 : x1.col = x2.col
      case neg =>
        have HQ := Lib.hid t3
        go_wp2_with fail
        go_quiet (fail)
        go_wp2_with fail
        go_ret
        exact ⟨false, rfl, by simp; intro h; exact HQ.out (by rw [HX.out h]), HTQ.out _⟩
      rw [← t3] at e4_3
      have U3 := Lib.hid t3
      clear t3
      have hxe : x1 = x2 := vlD_eq U0.out U1.out U2.out U3.out
      have HTE := Lib.hid (HT'.out hxe)
      clear hxe
      go_wp2_with fail
      go_quiet (fail)
      go_wp2_with fail
      go_roundw
      case rel => exact ⟨q + 1, by go_num, by omega, HTE.out, HTQ.out _⟩
      case measure => simp [intOf]; omega
    · have hqn' : ¬ (q : Int) < (xs.length : Int) := by omega
      have hqe : q = xs.length := by omega
      have hall : xs = ys := by
        have := HTK.out
        rw [hqe, List.take_length, HN.out, List.take_length] at this
        exact this
      have HAL := Lib.hid hall
      clear hall hqe
      go_wp2_with fail
      go_ret
      exact ⟨true, rfl, by simp; exact HAL.out, HBQ.out⟩
set_option maxHeartbeats 8000000 in
set_option maxRecDepth 20000 in
theorem eqM_any {S : Nat → Prop} (v1 v2 : Value) (xs ys : List Mt) (w : World) (h1 : RowsIn w S 5 mrow v1 xs) (h2 : RowsIn w S 5 mrow v2 ys) (hS : ∀ b, S b → b < w.heap.size) (hl : xs.length ≤ 100000) :
    Calls Tryz.prog 41 #[v1, v2] w fun e w' => QAns w xs ys e w' := by
  obtain ⟨ad1, c1, rfl, hc1, H1⟩ := h1
  obtain ⟨ad2, c2, rfl, hc2, H2⟩ := h2
  have Hf1 := Lib.hid H1
  have Hf2 := Lib.hid H2
  clear H1 H2
  by_cases hn : xs.length = ys.length
  case neg =>
    have t' : ((xs.length : Int) != (ys.length : Int)) = true := by simp; omega
    have HN := Lib.hid hn
    clear hn
    go_enter Tryz.func41, Tryz.ntmps41
    go_wp2_with fail
    go_ret
    exact ⟨false, rfl, by simp; intro h; exact HN.out (by rw [h]), Below.refl _ _⟩
  have HN := Lib.hid hn
  have hnn : ((xs.length : Int) != (ys.length : Int)) = false := by simp; omega
  rw [← hn]
  rw [← hn] at hnn hc2
  clear hn
  go_enter Tryz.func41, Tryz.ntmps41
  go_wp2_with fail
  go_loopw [13] (fun kk wq => ∃ q : Nat, kk = .int .i64 (q : Int) ∧ q ≤ xs.length ∧ xs.take q = ys.take q ∧ Below w.heap.size w wq) (fun kk _ => xs.length - (intOf kk).toNat)
  case atStart => exact ⟨0, rfl, by omega, rfl, Below.refl _ _⟩
  case round =>
    obtain ⟨q, rfl, hq, htk, hbq⟩ := hrel
    have HBQ := Lib.hid hbq
    have HTK := Lib.hid htk
    clear hbq htk
    by_cases hqn : q < xs.length
    · obtain ⟨x1, hx1⟩ : ∃ x, xs[q]? = some x := ⟨_, List.getElem?_eq_getElem hqn⟩
      obtain ⟨x2, hx2⟩ : ∃ x, ys[q]? = some x := ⟨_, List.getElem?_eq_getElem (by have := HN.out; omega)⟩
      rcases Hf1.out with h0 | ⟨g3, o3, rfl, hg3, hk3⟩
      · rw [h0] at hx1; simp at hx1
      rcases Hf2.out with h0 | ⟨g4, o4, rfl, hg4, hk4⟩
      · rw [h0] at hx2; simp at hx2
      have b3 := HBQ.out.block g3 (hS g3 hg3)
      have b4 := HBQ.out.block g4 (hS g4 hg4)
      have e3_0 : wr.cell? ⟨g3, o3 + q * 5, none⟩ = some (.string (mkB x1.name)) := by
        rw [World.cell?_of_block b3]
        have := hk3 q x1 hx1 0 _ rfl
        simpa [Nat.add_assoc] using this
      have e4_0 : wr.cell? ⟨g4, o4 + q * 5, none⟩ = some (.string (mkB x2.name)) := by
        rw [World.cell?_of_block b4]
        have := hk4 q x2 hx2 0 _ rfl
        simpa [Nat.add_assoc] using this
      have e3_1 : wr.cell? ⟨g3, o3 + q * 5 + 1, none⟩ = some (.string (mkB x1.inp)) := by
        rw [World.cell?_of_block b3]
        have := hk3 q x1 hx1 1 _ rfl
        simpa [Nat.add_assoc] using this
      have e4_1 : wr.cell? ⟨g4, o4 + q * 5 + 1, none⟩ = some (.string (mkB x2.inp)) := by
        rw [World.cell?_of_block b4]
        have := hk4 q x2 hx2 1 _ rfl
        simpa [Nat.add_assoc] using this
      have e3_2 : wr.cell? ⟨g3, o3 + q * 5 + 2, none⟩ = some (.string (mkB x1.out)) := by
        rw [World.cell?_of_block b3]
        have := hk3 q x1 hx1 2 _ rfl
        simpa [Nat.add_assoc] using this
      have e4_2 : wr.cell? ⟨g4, o4 + q * 5 + 2, none⟩ = some (.string (mkB x2.out)) := by
        rw [World.cell?_of_block b4]
        have := hk4 q x2 hx2 2 _ rfl
        simpa [Nat.add_assoc] using this
      have e3_3 : wr.cell? ⟨g3, o3 + q * 5 + 3, none⟩ = some (.int .i64 x1.line) := by
        rw [World.cell?_of_block b3]
        have := hk3 q x1 hx1 3 _ rfl
        simpa [Nat.add_assoc] using this
      have e4_3 : wr.cell? ⟨g4, o4 + q * 5 + 3, none⟩ = some (.int .i64 x2.line) := by
        rw [World.cell?_of_block b4]
        have := hk4 q x2 hx2 3 _ rfl
        simpa [Nat.add_assoc] using this
      have e3_4 : wr.cell? ⟨g3, o3 + q * 5 + 4, none⟩ = some (.int .i64 x1.col) := by
        rw [World.cell?_of_block b3]
        have := hk3 q x1 hx1 4 _ rfl
        simpa [Nat.add_assoc] using this
      have e4_4 : wr.cell? ⟨g4, o4 + q * 5 + 4, none⟩ = some (.int .i64 x2.col) := by
        rw [World.cell?_of_block b4]
        have := hk4 q x2 hx2 4 _ rfl
        simpa [Nat.add_assoc] using this
      have hq0 : (0 : Int) ≤ (q : Int) := by omega
      have hq1 : (q : Int) < (xs.length : Int) := by omega
      have hwq : IntKind.i64.wrap ((q : Int) + 1) = (q : Int) + 1 := by rw [IntKind.wrap_i64]; omega
      have HTQ : Hid (∀ nq : Nat, Below w.heap.size w (wr.drewN nq)) := fun nq => HBQ.out.trans ⟨rfl, rfl, rfl, Nat.le_refl _, fun _ _ => rfl⟩
      have HX : Hid (xs = ys → x1 = x2) := fun h => by subst h; exact Option.some.inj (hx1.symm.trans hx2)
      have HT' : Hid (x1 = x2 → xs.take (q + 1) = ys.take (q + 1)) := fun h => takeD_next HTK.out hx1 (h ▸ hx2)
      clear hx1 hx2 hk3 hk4 b3 b4 Hf1 Hf2
      by_cases t0 : x1.name = x2.name
      case neg =>
        have t' := mkBD_beq t0
        have t'' := beq_eq_false_iff_ne.2 t0
        have HQ := Lib.hid t0
        go_wp2_with fail
        go_quiet (fail)
        go_wp2_with fail
        go_ret
        exact ⟨false, rfl, by simp; intro h; exact HQ.out (by rw [HX.out h]), HTQ.out _⟩
      rw [← t0] at e4_0
      have U0 := Lib.hid t0
      clear t0
      by_cases t1 : x1.inp = x2.inp
      case neg =>
        have t' := mkBD_beq t1
        have t'' := beq_eq_false_iff_ne.2 t1
        have HQ := Lib.hid t1
        go_wp2_with fail
        go_quiet (fail)
        go_wp2_with fail
        go_ret
        exact ⟨false, rfl, by simp; intro h; exact HQ.out (by rw [HX.out h]), HTQ.out _⟩
      rw [← t1] at e4_1
      have U1 := Lib.hid t1
      clear t1
      by_cases t2 : x1.out = x2.out
      case neg =>
        have t' := mkBD_beq t2
        have t'' := beq_eq_false_iff_ne.2 t2
        have HQ := Lib.hid t2
        go_wp2_with fail
        go_quiet (fail)
        go_wp2_with fail
        go_ret
        exact ⟨false, rfl, by simp; intro h; exact HQ.out (by rw [HX.out h]), HTQ.out _⟩
      rw [← t2] at e4_2
      have U2 := Lib.hid t2
      clear t2
      by_cases t3 : x1.line = x2.line
      case neg =>
        have HQ := Lib.hid t3
        go_wp2_with fail
        go_quiet (fail)
        go_wp2_with fail
        go_ret
        exact ⟨false, rfl, by simp; intro h; exact HQ.out (by rw [HX.out h]), HTQ.out _⟩
      rw [← t3] at e4_3
      have U3 := Lib.hid t3
      clear t3
      by_cases t4 : x1.col = x2.col
      case neg =>
        have HQ := Lib.hid t4
        go_wp2_with fail
        go_quiet (fail)
        go_wp2_with fail
        go_ret
        exact ⟨false, rfl, by simp; intro h; exact HQ.out (by rw [HX.out h]), HTQ.out _⟩
      rw [← t4] at e4_4
      have U4 := Lib.hid t4
      clear t4
      have hxe : x1 = x2 := mtD_eq U0.out U1.out U2.out U3.out U4.out
      have HTE := Lib.hid (HT'.out hxe)
      clear hxe
      go_wp2_with fail
      go_quiet (fail)
      go_wp2_with fail
      go_roundw
      case rel => exact ⟨q + 1, by go_num, by omega, HTE.out, HTQ.out _⟩
      case measure => simp [intOf]; omega
    · have hqn' : ¬ (q : Int) < (xs.length : Int) := by omega
      have hqe : q = xs.length := by omega
      have hall : xs = ys := by
        have := HTK.out
        rw [hqe, List.take_length, HN.out, List.take_length] at this
        exact this
      have HAL := Lib.hid hall
      clear hall hqe
      go_wp2_with fail
      go_ret
      exact ⟨true, rfl, by simp; exact HAL.out, HBQ.out⟩
end Go.Proofs.YtngmimbpakmkiaaGreatDoor
