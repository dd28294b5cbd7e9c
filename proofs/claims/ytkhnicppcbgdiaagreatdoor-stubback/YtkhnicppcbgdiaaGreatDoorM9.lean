/-
  Slices of rows that a call makes; the walk over the program's own found.
-/
import Derived.Test.YtkhnicppcbgdiaaGreatDoorM8
import Derived.Test.YtkhnicppcbgdiaaGreatDoorM6
namespace Go.Proofs.YtkhnicppcbgdiaaGreatDoor
set_option linter.unusedVariables false
open Go.ChangeShapes Go.WideShapes Go.ChangeAt Go.RowKit

/-- rows that the call itself has made -/
def OwnRw (w : World) (base T : Nat) (v : Value) (xs : List Rw) : Prop := w.ownsRow base T 5 v xs.length (xs.flatMap rrow)
def zRw : Value := .agg #[.int .i64 0, .string ⟨#[]⟩, .string ⟨#[]⟩, .string ⟨#[]⟩, .string ⟨#[]⟩]
theorem infoRwP : (Tryz.prog.info? 50).map (fun i => (i.zero, i.size, i.bytes)) = some (some zRw, 5, 72) := by kernel_rfl
theorem infoRwR : (Tryz.prog.info? 62).map (fun i => (i.zero, i.size, i.bytes)) = some (some zRw, 5, 72) := by kernel_rfl
theorem rw_one (r : Rw) : ∀ u ∈ rrow r, u.oneCell' = true := by
  intro u hu
  simp only [rrow, List.mem_cons, List.not_mem_nil, or_false] at hu
  rcases hu with rfl | rfl | rfl | rfl | rfl <;> rfl
theorem ownRw_old {w w' : World} {base T : Nat} {v : Value} {xs : List Rw} (h : OwnRw w base T v xs) (hb : Below w.heap.size w w') : OwnRw w' base T v xs :=
  own_keep h fun b hv => hb.block b (own_block h b hv).2
theorem ownRw_nil (w : World) (base T : Nat) : OwnRw w base T (.slice none 0 0) [] := World.ownsRow_nil _ _ _ _
theorem rw_push {T t : TypeId} {base : Nat} {wx : World} {v : Value} {xs : List Rw} (ht : Tryz.prog.underlying t = some (.slice T)) (hin : (Tryz.prog.info? T).map (fun i => (i.zero, i.size, i.bytes)) = some (some zRw, 5, 72))
    (h : OwnRw wx base T v xs) (hb0 : base ≤ wx.heap.size) (r : Rw) (B : Nat) (hB : wx.heap[B]? = some (.cells (rrow r).toArray T (0, 0)))
    {ops : Array Oper} {rest : List Oper} {o : Oper} {a : Act} {Q : Exit → Act → World → Prop} (hgd : o.guard = none) (s' x' : Operand)
    (ho : o.op = .call { callee := .builtin .append, args := #[s', x'], argTypes := #[t, t] }) (hs : a.eval s' = v) (hx : a.eval x' = .slice (some ⟨B, 0, none⟩) 1 1) (hbd : xs.length ≤ 1000000000)
    (hk : ∀ v' W, OwnRw W base T v' (xs ++ [r]) → (∃ g c, v' = .slice (some ⟨g, 0, none⟩) (xs.length + 1) c) → Below base wx W → wx.heap.size ≤ W.heap.size → wpList Tryz.prog ops Q rest (a.put o.dst v') W) :
    wpList Tryz.prog ops Q (o :: rest) a wx := by
  refine row_pushL ht hin rfl (by decide) h hb0 (rrow r) rfl (rw_one r) B hB hgd s' x' ho hs hx (by unfold maxLen; omega) (by omega) ?_
  intro g cap W hown hg _ _
  refine hk _ W ?_ ⟨g, cap, rfl⟩ ((Below.refl _ _).grown hg hb0 fun b hv => (own_block h b hv).1) hg.size
  unfold OwnRw
  rw [List.length_append, List.flatMap_append]
  simpa using hown
theorem cut_less (t : List UInt8) (h : t ≠ []) : (Lib.cut t [10]).2.1.length < t.length := by
  have hl : 0 < t.length := by cases t; exact absurd rfl h; simp
  unfold Lib.cut
  split
  · simp only [List.length_drop, List.length_cons, List.length_nil]; omega
  · simpa using hl
theorem segs_fuel : ∀ (f g : Nat) (t : List UInt8), t.length ≤ f → t.length ≤ g → segs f t = segs g t
  | 0, 0, t, _, _ => rfl
  | 0, g + 1, t, hf, _ => by
    have : t = [] := List.eq_nil_of_length_eq_zero (by omega)
    subst this; rfl
  | f + 1, 0, t, _, hg => by
    have : t = [] := List.eq_nil_of_length_eq_zero (by omega)
    subst this; rfl
  | f + 1, g + 1, t, hf, hg => by
    unfold segs
    by_cases h : t = []
    · rw [if_pos h, if_pos h]
    · rw [if_neg h, if_neg h, segs_fuel f g _ (by have := cut_less t h; omega) (by have := cut_less t h; omega)]
theorem segs_step (t : List UInt8) (h : t ≠ []) : segs t.length t = (Lib.cut t [10]).1 :: segs (Lib.cut t [10]).2.1.length (Lib.cut t [10]).2.1 := by
  have hl : 0 < t.length := by cases t; exact absurd rfl h; simp
  obtain ⟨n, hn⟩ : ∃ n, t.length = n + 1 := ⟨t.length - 1, by omega⟩
  have hc := cut_less t h
  rw [hn]
  conv => lhs; unfold segs
  rw [if_neg h, segs_fuel n _ _ (by omega) (Nat.le_refl _)]
def FoundAns (w : World) (o : Option (List Rw)) (e : Ending) (w' : World) : Prop :=
  match o with
  | none => e = .returned (.tuple #[.slice none 0 0, .bool false]) ∧ Below w.heap.size w w'
  | some l => ∃ v, e = .returned (.tuple #[v, .bool true]) ∧ OwnRw w' w.heap.size 50 v l ∧ Below w.heap.size w w'
theorem cutPrefix_any (s p : List UInt8) (w : World) :
    Calls Tryz.prog 45 #[.string (mkB s), .string (mkB p)] w fun e w' => e = .returned (.tuple #[.string (mkB (Lib.trimPrefix s p)), .bool (p.isPrefixOf s)]) ∧ w' = w := by
  have := strings_CutPrefix (mkB s) (mkB p) w
  have e1 : ∀ l : List UInt8, (mkB l).data.toList = l := fun l => by simp [mkB]
  rw [e1, e1] at this
  exact this
set_option maxHeartbeats 8000000 in
set_option maxRecDepth 20000 in
theorem found_any (l : List UInt8) (w : World) (hM : Mx w) (hs : l.length ≤ 1000000000) :
    Calls Tryz.prog 25 #[.string (mkB l)] w fun e w' => FoundAns w (runSt stP [] (segs l.length l)) e w' := by
  obtain ⟨R, hR⟩ : ∃ R, runSt stP [] (segs l.length l) = R := ⟨_, rfl⟩
  rw [hR]
  have HM := Lib.hid hM
  have HRR := Lib.hid hR
  clear hR
  go_enter Tryz.func25, Tryz.ntmps25
  go_wp2_with fail
  go_loopw [0, 4] (fun u v wr => ∃ (t : List UInt8) (acc : List Rw), u = .string (mkB t) ∧ OwnRw wr w.heap.size 50 v acc ∧ Below w.heap.size w wr ∧ acc.length + t.length ≤ l.length ∧ runSt stP acc (segs t.length t) = R) (fun u _ _ => match u with | .string b => b.size | _ => 0)
  case atStart => exact ⟨l, [], rfl, ownRw_nil _ _ _, Below.refl _ _, by simp, HRR.out⟩
  case round =>
    generalize wr = w1 at *
    obtain ⟨t, acc, rfl, hO, hb1, hl, hr⟩ := hrel
    have HO := Lib.hid hO
    have HB1 := Lib.hid hb1
    have HR := Lib.hid hr
    have hs1 := hb1.size
    clear hO hb1 hr HRR
    by_cases ht : t = []
    · subst ht
      have he : (mkB []).toList.isEmpty = true := by rw [mkB_list]; rfl
      have HX : Hid (some acc = R) := HR.out
      clear HR
      go_wp2_with fail
      go_ret2
      rw [← HX.out]
      exact ⟨_, rfl, HO.out, HB1.out⟩
    · have he : (mkB t).toList.isEmpty = false := by rw [mkB_list]; simpa using ht
      obtain ⟨c, hc⟩ : ∃ c, Lib.cut t [10] = c := ⟨_, rfl⟩
      have hcl := cut_len t [10]
      have hcl2 := cut_less t ht
      have HS : Hid (runSt stP acc (c.1 :: segs c.2.1.length c.2.1) = R) := by
        refine (?_ : _ = _)
        rw [← HR.out, segs_step t ht, hc]
      have kc := cut_any t [10] w1 (HM.out.below HB1.out) (by omega)
      have e10 : mkB [10] = (⟨#[10]⟩ : ByteArray) := rfl
      rw [hc] at hcl hcl2 kc
      rw [e10] at kc
      have kp := fun W => cutPrefix_any c.1 wFunc W
      have e8 : mkB wFunc = (⟨#[102, 117, 110, 99, 32, 40, 99, 32]⟩ : ByteArray) := rfl
      rw [e8] at kp
      have HT := Lib.hid hc
      clear hc HR
      obtain ⟨line, rest, fnd⟩ := c
      simp only at *
      go_wp2_with fail
      refine kc.mono ?_
      rintro e w2 ⟨rfl, hb⟩
      have HO2 := Lib.hid (ownRw_old HO.out hb)
      have HB2 := Lib.hid (HB1.out.trans (hb.mono HB1.out.size))
      have hs2 := HB2.out.size
      clear hb HO kc
      go_wp2_with fail
      refine (kp _).mono ?_
      rintro e w' ⟨rfl, rfl⟩
      by_cases hp : wFunc.isPrefixOf line = true
      · have e8 : Lib.trimPrefix line wFunc = line.drop 8 := by unfold Lib.trimPrefix Lib.hasPrefix; rw [if_pos hp]; rfl
        have hrw := rowIn_any (line.drop 8) w' (HM.out.below HB2.out) (by rw [List.length_drop]; omega)
        have HN : Hid (runSt stP acc (line :: segs rest.length rest) = match rowInL (line.drop 8) with | none => none | some r => runSt stP (acc ++ [rid (acc.length + 1) r]) (segs rest.length rest)) := by
          refine (?_ : _ = _)
          rw [runSt, stP_row, if_pos hp]
          cases rowInL (line.drop 8) <;> rfl
        rw [hp, e8]
        clear e8 hp
        generalize rowInL (line.drop 8) = rr at *
        go_wp2_with fail
        refine hrw.mono ?_
        rintro e w3 ⟨rfl, hb⟩
        have HO3 := Lib.hid (ownRw_old HO2.out hb)
        have HB3 := Lib.hid (HB2.out.trans (hb.mono HB2.out.size))
        have hs3 := HB3.out.size
        clear hb HO2 hrw
        cases rr with
        | none =>
          have HX : Hid (none = R) := by
            refine (?_ : _ = _)
            rw [← HS.out, HN.out]
          clear HS HN
          unfold rowE zeroRw rrow
          simp only [Option.getD_none, Option.isSome_none]
          go_wp2_with fail
          go_ret2
          rw [← HX.out]
          exact ⟨rfl, HB3.out.alloc HB3.out.size _⟩
        | some r =>
          have HX : Hid (runSt stP (acc ++ [rid (acc.length + 1) r]) (segs rest.length rest) = R) := by
            refine (?_ : _ = _)
            rw [← HS.out, HN.out]
          clear HS HN
          unfold rowE rrow
          simp only [Option.getD_some, Option.isSome_some]
          obtain ⟨av, ac, hav⟩ := own_slice HO3.out
          subst hav
          have hwk : IntKind.i64.wrap ((acc.length : Int) + 1) = (acc.length : Int) + 1 := by rw [IntKind.wrap_i64]; omega
          have hbY : Below w3.heap.size w3 (w3.alloc (.cells #[.int .i64 r.id, .string (mkB r.sv), .string (mkB r.mt), .string (mkB r.inn), .string (mkB r.out)] 50)) := (Below.refl _ _).alloc (Nat.le_refl _) _
          have hY : (w3.alloc (.cells #[.int .i64 r.id, .string (mkB r.sv), .string (mkB r.mt), .string (mkB r.inn), .string (mkB r.out)] 50)).heap[w3.heap.size]? = some (.cells #[.int .i64 r.id, .string (mkB r.sv), .string (mkB r.mt), .string (mkB r.inn), .string (mkB r.out)] 50 (0, 0)) := alloc_heap_new _ _
          go_upto_region 8 with fail
          generalize (w3.alloc (.cells #[.int .i64 r.id, .string (mkB r.sv), .string (mkB r.mt), .string (mkB r.inn), .string (mkB r.out)] 50)) = Y at *
          have HY := Lib.hid hY
          have HBY := Lib.hid (HB3.out.trans (hbY.mono HB3.out.size))
          have HOY := Lib.hid (ownRw_old HO3.out hbY)
          have hltY := blk_lt hY
          have hY0 : Y.cell? ⟨w3.heap.size, 0, none⟩ = some (.int .i64 r.id) := cell_at hY 0 rfl
          have hYf : Y.frozen? ⟨w3.heap.size, 0, none⟩ = false := frozen_at hY 0
          have hsY := hbY.size
          have hZ : (Y.setCell ⟨w3.heap.size, 0, none⟩ (.int .i64 ((acc.length : Int) + 1))).heap[w3.heap.size]? = some (.cells #[.int .i64 ((acc.length : Int) + 1), .string (mkB r.sv), .string (mkB r.mt), .string (mkB r.inn), .string (mkB r.out)] 50 (0, 0)) := setCell_heap hY _
          have hbZ : Below w3.heap.size Y (Y.setCell ⟨w3.heap.size, 0, none⟩ (.int .i64 ((acc.length : Int) + 1))) := (Below.refl _ _).setCell (p := ⟨w3.heap.size, 0, none⟩) (Nat.le_refl _) _
          have HOZ := Lib.hid (ownRw_old HO3.out (hbY.trans hbZ))
          have HBZ := Lib.hid (HB3.out.trans ((hbY.trans hbZ).mono HB3.out.size))
          clear hY hbY HO3
          go_upto_region 11 with fail
          generalize Y.setCell ⟨w3.heap.size, 0, none⟩ (.int .i64 ((acc.length : Int) + 1)) = Z at *
          have z0 := cell_at hZ 0 rfl
          have z1 := cell_at hZ 1 rfl
          have z2 := cell_at hZ 2 rfl
          have z3 := cell_at hZ 3 rfl
          have z4 := cell_at hZ 4 rfl
          have hsZ := HBZ.out.size
          have HW := Lib.hid (ownRw_old HOZ.out ((Below.refl Z.heap.size Z).alloc (Nat.le_refl _) (.cells (rrow (rid (acc.length + 1) r)).toArray 50)))
          clear hZ hbZ hY0 hYf
          go_wp2_with (at_builtin; refine rw_push Tryz.underlying35 infoRwP HW.out (by simp; omega) (rid (acc.length + 1) r) Z.heap.size (alloc_heap_new _ _) rfl (.tmp 39) (.tmp 41) rfl rfl rfl (by omega) ?_; intro v5 w5 hown5 hsl5 hb5 hs5)
          have HB5 := Lib.hid (HBZ.out.trans (((Below.refl Z.heap.size Z).alloc (Nat.le_refl _) (.cells (rrow (rid (acc.length + 1) r)).toArray 50)).mono HBZ.out.size) |>.trans hb5)
          have HO5 := Lib.hid hown5
          clear hown5 hb5 hsl5 HW
          go_roundw
          case rel => exact ⟨rest, acc ++ [rid (acc.length + 1) r], rfl, HO5.out, HB5.out, by simp only [List.length_append, List.length_cons, List.length_nil]; omega, HX.out⟩
          case measure =>
            have e1 := mkB_sz rest
            have e2 := mkB_sz t
            first | omega | (simp [mkB] at *; omega)
      · have hp' : wFunc.isPrefixOf line = false := Bool.eq_false_iff.2 hp
        have HN : Hid (runSt stP acc (segs rest.length rest) = R) := by
          refine (?_ : _ = _)
          rw [← HS.out, runSt, (skip_of hp').1]
        rw [hp']
        clear HS
        go_wp2_with fail
        go_roundw
        case rel => exact ⟨rest, acc, rfl, HO2.out, HB2.out, by omega, HN.out⟩
        case measure =>
          simp only [mkB_sz]
          have e1 := mkB_sz rest
          have e2 := mkB_sz t
          first | omega | (simp [mkB] at *; omega)
end Go.Proofs.YtkhnicppcbgdiaaGreatDoor
