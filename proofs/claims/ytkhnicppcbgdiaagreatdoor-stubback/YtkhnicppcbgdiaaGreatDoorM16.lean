/-
  The walk over the program's own Read.
  The walks over the document's own Right and Read.
  The walks over the document's own SameRows and the laws' own ours.
  What the library functions that this program calls answer, as theorems over this translation: each is one application of a theorem of the given library. Nothing is proved of the program itself here.
-/
import Derived.Test.YtkhnicppcbgdiaaGreatDoorM15
import Derived.Test.YtkhnicppcbgdiaaGreatDoorM13
import Derived.Test.YtkhnicppcbgdiaaGreatDoorM11
import Derived.Test.YtkhnicppcbgdiaaGreatDoorM5
import Derived.Deep.QuietTactic
import Derived.BigQuiet
import Derived.Laws.StructEq
import Derived.Shelf.Strings.Replace
import Derived.Shelf.LaysM
import Derived.Ground.NamesProg
import Derived.Test.YtkhnicppcbgdiaaGreatDoorProg
namespace Go.Proofs.YtkhnicppcbgdiaaGreatDoor
set_option linter.unusedVariables false
open Go.ChangeShapes Go.WideShapes Go.ChangeAt Go.RowKit

theorem rrow_len (r : Rw) : (rrow r).length = 5 := rfl
/-- rows in memory of the call's own, or an error -/
def ReadAns (T : Nat) (w : World) (o : Option (List Rw)) (e : Ending) (w' : World) : Prop :=
  match o with
  | none => e = .returned (.tuple #[.slice none 0 0, .int .i64 2]) ∧ Below w.heap.size w w'
  | some l => ∃ v, e = .returned (.tuple #[v, .int .i64 0]) ∧ OwnRw w' w.heap.size T v l ∧ Below w.heap.size w w'
set_option maxHeartbeats 4000000 in
set_option maxRecDepth 20000 in
theorem readPB_any (t : List UInt8) (w : World) (hM : Mx w) (hP : Pow w) (hs : t.length ≤ 1000000000) (hfr : ∀ l, runSt stP [] (segs t.length t) = some l → (∀ r ∈ l, FitRw r) ∧ l.length ≤ 1000000) :
    Calls Tryz.prog 14 #[.string (mkB t)] w fun e w' => ReadAns 50 w (readP t) e w' := by
  have hf := found_any t w hM hs
  have HE : Hid (readP t = match runSt stP [] (segs t.length t) with | none => none | some l => if textT (some []) l = t then some l else none) := rfl
  have HFR : Hid (∀ l, runSt stP [] (segs t.length t) = some l → (∀ r ∈ l, FitRw r) ∧ l.length ≤ 1000000) := hfr
  clear hfr
  obtain ⟨R, hR⟩ : ∃ R, readP t = R := ⟨_, rfl⟩
  rw [hR] at HE ⊢
  clear hR
  generalize runSt stP [] (segs t.length t) = F at *
  have HP := Lib.hid hP
  clear hP
  go_enter Tryz.func14, Tryz.ntmps14
  go_wp2_with fail
  refine hf.mono ?_
  intro e w1 hA
  clear hf
  cases F with
  | none =>
    obtain ⟨rfl, hb⟩ := hA
    have HX : Hid (R = none) := HE.out
    have HB := Lib.hid hb
    clear HE hb HFR
    go_wp2_with fail
    go_ret2
    rw [HX.out]
    exact ⟨rfl, HB.out⟩
  | some l =>
    obtain ⟨v, rfl, hO, hb⟩ := hA
    obtain ⟨hfit, hll⟩ := HFR.out l rfl
    have HX : Hid (R = if textT (some []) l = t then some l else none) := HE.out
    have HB := Lib.hid hb
    have HO := Lib.hid hO
    obtain ⟨ra, rc, rfl⟩ := own_slice hO
    have hW := written_any ra l.length rc l w1 (HP.out.below hb) rfl hll hfit (rowsIn_own rrow_len hO _ fun b hv => (own_block hO b hv).2)
    clear HE hb hO HFR hfit
    go_wp2_with fail
    refine hW.mono ?_
    rintro e w2 ⟨rfl, hb⟩
    have HB2 := Lib.hid (HB.out.trans (hb.mono HB.out.size))
    have HO2 := Lib.hid (ownRw_old HO.out hb)
    clear hb hW HO
    by_cases hT : textT (some []) l = t
    · rw [hT] at HX ⊢
      have HX2 : Hid (R = some l) := by
        refine (?_ : _ = _)
        rw [HX.out, if_pos rfl]
      clear HX hT
      go_wp2_with fail
      go_ret2
      rw [HX2.out]
      exact ⟨_, rfl, HO2.out, HB2.out⟩
    · have HX2 : Hid (R = none) := by
        refine (?_ : _ = _)
        rw [HX.out, if_neg hT]
      have h1 : ¬ mkB (textT (some []) l) = mkB t := by
        intro e
        have := congrArg (fun x : ByteArray => x.toList) e
        simp only [mkB_list] at this
        exact hT this
      clear HX
      generalize textT (some []) l = Z at *
      have h2 : ((mkB Z).toList == (mkB t).toList) = false := by
        rw [mkB_list, mkB_list, beq_eq_false_iff_ne]; exact hT
      go_wp2_with fail
      go_ret2
      rw [HX2.out]
      exact ⟨rfl, HB2.out⟩
end Go.Proofs.YtkhnicppcbgdiaaGreatDoor
namespace Go.Proofs.YtkhnicppcbgdiaaGreatDoor
set_option linter.unusedVariables false
open Go.ChangeShapes Go.WideShapes Go.ChangeAt Go.RowKit

theorem ownRw_mono {w : World} {base base' T : Nat} {v : Value} {xs : List Rw} (h : OwnRw w base T v xs) (hb : base' ≤ base) : OwnRw w base' T v xs := by
  obtain ⟨h1, h2 | ⟨g, cap, cur, hv, hg, r⟩⟩ := h
  · exact ⟨h1, .inl h2⟩
  · exact ⟨h1, .inr ⟨g, cap, cur, hv, by omega, r⟩⟩
end Go.Proofs.YtkhnicppcbgdiaaGreatDoor
namespace Go.Proofs.YtkhnicppcbgdiaaGreatDoor
set_option linter.unusedVariables false
open Go.ChangeShapes Go.WideShapes Go.ChangeAt Go.RowKit

theorem mk_eq (a b : List UInt8) : ((mkB a).toList == (mkB b).toList) = decide (a = b) := by
  rw [mkB_list, mkB_list, Bool.eq_iff_iff]; simp
set_option maxRecDepth 20000 in
theorem rw_neqR (x y : Rw) (W : World) : (binOp .neq 62 (.agg #[.int .i64 x.id, .string (mkB x.sv), .string (mkB x.mt), .string (mkB x.inn), .string (mkB x.out)]) (.agg #[.int .i64 y.id, .string (mkB y.sv), .string (mkB y.mt), .string (mkB y.inn), .string (mkB y.out)])).run Tryz.prog W = .ok (.bool (!decide (x = y))) W := by
  have hu := Tryz.underlying62
  have h3 := Tryz.underlying3
  have h9 := Tryz.underlying9
  rw [run_neq_struct]
  have hs : Tryz.prog.stoodInHeld 62 = false := by kernel_rfl
  have hf : Tryz.prog.underlying 62 = some (.struct (Tryz.prog.fieldsOf 62)) := by kernel_rfl
  rw [show (10000 : Nat) = 9999 + 1 from rfl, run_equalIn_agg _ _ _ _ _ hf hs]
  simp [go_sem]
  obtain ⟨a0, a1, a2, a3, a4⟩ := x
  obtain ⟨b0, b1, b2, b3, b4⟩ := y
  simp only [mkB_list, Rw.mk.injEq]
  by_cases h0 : a0 = b0
  · by_cases h1 : a1 = b1
    · by_cases h2 : a2 = b2
      · by_cases h3 : a3 = b3
        · by_cases h4 : a4 = b4
          · simp [h0, h1, h2, h3, h4]
          · simp [h0, h1, h2, h3, h4]
        · simp [h0, h1, h2, h3]
      · simp [h0, h1, h2]
    · simp [h0, h1]
  · simp [h0]
set_option maxHeartbeats 4000000 in
set_option maxRecDepth 20000 in
theorem sameRows_any (ra sa : Option Addr) (n m rc sc : Nat) (xs ys : List Rw) (S : Nat → Prop) (w : World) (hn : xs.length = n) (hm : ys.length = m) (hn2 : n ≤ 1000000) (hm2 : m ≤ 1000000) (hX : RowsIn w S 5 rrow (.slice ra n rc) xs) (hY : RowsIn w S 5 rrow (.slice sa m sc) ys) :
    Calls Tryz.prog 10 #[.slice ra n rc, .slice sa m sc] w fun e w' => e = .returned (.bool (decide (xs = ys))) ∧ Below w.heap.size w w' := by
  have HN := Lib.hid hn
  have HM := Lib.hid hm
  have HX := Lib.hid hX
  have HY := Lib.hid hY
  clear hX hY hn hm
  obtain ⟨R, hR⟩ : ∃ R, decide (xs = ys) = R := ⟨_, rfl⟩
  rw [hR]
  have HR := Lib.hid hR
  clear hR
  by_cases hnm : n = m
  · subst hnm
    have hnn : ((n : Int) != (n : Int)) = false := by simp
    go_enter Tryz.func10, Tryz.ntmps10
    go_wp2_with fail
    go_loopw [13] (fun i wr => ∃ (k : Nat), k ≤ n ∧ i = .int .i64 (k : Int) ∧ (∀ j, j < k → xs[j]? = ys[j]?) ∧ Below w.heap.size w wr ∧ wr.heap = w.heap) (fun i _ => n - (intOf i).toNat)
    case atStart => exact ⟨0, Nat.zero_le _, rfl, fun j hj => (by omega), Below.refl _ _, rfl⟩
    case round =>
      generalize wr = w3 at *
      obtain ⟨k, hk, rfl, heq, hB, hh⟩ := hrel
      have HE := Lib.hid heq
      have HB := Lib.hid hB
      have HH := Lib.hid hh
      clear heq hB hh
      by_cases hkn : k < n
      · obtain ⟨x, hx⟩ : ∃ x, xs[k]? = some x := ⟨_, List.getElem?_eq_getElem (by rw [HN.out]; exact hkn)⟩
        obtain ⟨y, hy⟩ : ∃ y, ys[k]? = some y := ⟨_, List.getElem?_eq_getElem (by rw [HM.out]; exact hkn)⟩
        obtain ⟨g, o, c, hsl, _, hc1⟩ := rw_cells HX.out hx
        obtain ⟨g2, o2, c2, hsl2, _, hc2⟩ := rw_cells HY.out hy
        have hra : ra = some ⟨g, o, none⟩ := (Value.slice.inj hsl).1
        have hsa : sa = some ⟨g2, o2, none⟩ := (Value.slice.inj hsl2).1
        subst hra hsa
        obtain ⟨e0, e1, e2, e3, e4⟩ := hc1 w3 (by rw [HH.out])
        obtain ⟨f0, f1, f2, f3, f4⟩ := hc2 w3 (by rw [HH.out])
        have hq := fun W => rw_neqR x y W
        have hk0 : (0 : Int) ≤ (k : Int) := by omega
        have hk1 : (k : Int) < (n : Int) := by omega
        have hwk : IntKind.i64.wrap ((k : Int) + 1) = (k : Int) + 1 := by rw [IntKind.wrap_i64]; omega
        have HXE : Hid (xs[k]? = some x) := hx
        have HYE : Hid (ys[k]? = some y) := hy
        clear hx hy hsl hsl2 hc1 hc2
        by_cases hxy : x = y
        · have hd : (!decide (x = y)) = false := by simp [hxy]
          rw [hd] at hq
          have HE2 : Hid (∀ j, j < k + 1 → xs[j]? = ys[j]?) := by
            refine (?_ : ∀ _ _, _)
            intro j hj
            by_cases hjk : j < k
            · exact HE.out j hjk
            · obtain rfl : j = k := by omega
              rw [HXE.out, HYE.out, hxy]
          clear hd hxy
          go_wp2_with fail
          go_quiet (fail)
          have hbn : Below w3.heap.size w3 (w3.drewN nq) := ⟨rfl, rfl, rfl, Nat.le_refl _, fun _ _ => rfl⟩
          have HB2 := Lib.hid (HB.out.trans (hbn.mono HB.out.size))
          have HH2 : Hid ((w3.drewN nq).heap = w.heap) := HH.out
          generalize w3.drewN nq = w4 at *
          go_wp2_with fail
          go_roundw
          case rel => exact ⟨k + 1, by omega, by go_num, HE2.out, HB2.out, HH2.out⟩
          case measure => simp [intOf]; omega
        · have hd : (!decide (x = y)) = true := by simp [hxy]
          rw [hd] at hq
          have HX2 : Hid (R = false) := by
            refine (?_ : _ = _)
            rw [← HR.out, decide_eq_false_iff_not]
            intro e
            have h1 := HXE.out
            rw [e, HYE.out] at h1
            exact hxy (Option.some.inj h1).symm
          clear hd hxy
          go_wp2_with fail
          go_quiet (fail)
          have hbn : Below w3.heap.size w3 (w3.drewN nq) := ⟨rfl, rfl, rfl, Nat.le_refl _, fun _ _ => rfl⟩
          have HB2 := Lib.hid (HB.out.trans (hbn.mono HB.out.size))
          generalize w3.drewN nq = w4 at *
          go_wp2_with fail
          go_ret
          exact ⟨retB HX2.out.symm, HB2.out⟩
      · have HX2 : Hid (R = true) := by
          refine (?_ : _ = _)
          rw [← HR.out, decide_eq_true_iff]
          apply List.ext_getElem?
          intro j
          by_cases hj : j < k
          · exact HE.out j hj
          · rw [List.getElem?_eq_none (by rw [HN.out]; omega), List.getElem?_eq_none (by rw [HM.out]; omega)]
        clear HE
        go_wp2_with fail
        go_ret
        exact ⟨retB HX2.out.symm, HB.out⟩
  · have hnn : ((n : Int) != (m : Int)) = true := by simp; omega
    have hnn2 : ¬ (n : Int) = (m : Int) := by omega
    have HX2 : Hid (R = false) := by
      refine (?_ : _ = _)
      rw [← HR.out, decide_eq_false_iff_not]
      intro e
      have := congrArg List.length e
      rw [HN.out, HM.out] at this
      exact hnm this
    go_enter Tryz.func10, Tryz.ntmps10
    go_wp2_with fail
    go_ret
    exact ⟨retB HX2.out.symm, Below.refl _ _⟩
set_option maxHeartbeats 4000000 in
set_option maxRecDepth 20000 in
theorem ours_any (ra : Option Addr) (n rc : Nat) (xs : List Rw) (w : World) (hn : xs.length = n) (hn2 : n ≤ 1000000) (hX : RowsIn w (fun b => b < w.heap.size) 5 rrow (.slice ra n rc) xs) :
    Calls Tryz.prog 11 #[.slice ra n rc] w fun e w' => ∃ v, e = .returned v ∧ OwnRw w' w.heap.size 62 v xs ∧ Below w.heap.size w w' := by
  have HN := Lib.hid hn
  have HX := Lib.hid hX
  clear hX hn
  go_enter Tryz.func11, Tryz.ntmps11
  go_wp2_with fail
  go_loopw [3, 7] (fun u i wr => ∃ (k : Nat), k ≤ n ∧ i = .int .i64 (k : Int) ∧ OwnRw wr w.heap.size 62 u (xs.take k) ∧ Below w.heap.size w wr) (fun _ i _ => n - (intOf i).toNat)
  case atStart => exact ⟨0, Nat.zero_le _, rfl, ownRw_nil _ _ _, Below.refl _ _⟩
  case round =>
    generalize wr = w3 at *
    obtain ⟨k, hk, rfl, hO, hB⟩ := hrel
    have HO := Lib.hid hO
    have HB := Lib.hid hB
    have hs3 := hB.size
    clear hO hB
    by_cases hkn : k < n
    · obtain ⟨x, hx⟩ : ∃ x, xs[k]? = some x := ⟨_, List.getElem?_eq_getElem (by rw [HN.out]; exact hkn)⟩
      obtain ⟨g, o, c, hsl, hg, hc1⟩ := rw_cells HX.out hx
      have hra : ra = some ⟨g, o, none⟩ := (Value.slice.inj hsl).1
      subst hra
      obtain ⟨e0, e1, e2, e3, e4⟩ := hc1 w3 (HB.out.block g hg)
      have hk0 : (0 : Int) ≤ (k : Int) := by omega
      have hk1 : (k : Int) < (n : Int) := by omega
      have hwk : IntKind.i64.wrap ((k : Int) + 1) = (k : Int) + 1 := by rw [IntKind.wrap_i64]; omega
      have HW := Lib.hid (ownRw_old HO.out ((Below.refl w3.heap.size w3).alloc (Nat.le_refl _) (.cells (rrow x).toArray 62)))
      have hlen : (xs.take k).length ≤ 1000000 := by rw [List.length_take]; omega
      have htk : xs.take (k + 1) = xs.take k ++ [x] := by rw [List.take_add_one, hx]; rfl
      have HTK := Lib.hid htk
      clear hx hsl hc1 htk
      go_wp2_with (at_builtin; refine rw_push Tryz.underlying33 infoRwR HW.out (by rw [World.size_alloc]; omega) x w3.heap.size (alloc_heap_new _ _) rfl (.tmp 10) (.tmp 15) rfl rfl rfl (by omega) ?_; intro v5 w5 hown5 hsl5 hb5 hs5)
      have HB5 := Lib.hid (HB.out.trans ((((Below.refl w3.heap.size w3).alloc (Nat.le_refl _) (.cells (rrow x).toArray 62)).mono hs3).trans hb5))
      have HO5 := Lib.hid hown5
      clear hown5 hb5 hsl5 HW
      go_roundw
      case rel => exact ⟨k + 1, by omega, by go_num, by rw [HTK.out]; exact HO5.out, HB5.out⟩
      case measure => simp [intOf]; omega
    · obtain rfl : k = n := by omega
      have HO2 := HO.out
      rw [List.take_of_length_le (by rw [HN.out]; omega)] at HO2
      have HOX := Lib.hid HO2
      clear HO2 HO
      go_wp2_with fail
      go_ret
      exact ⟨_, rfl, HOX.out, HB.out⟩
end Go.Proofs.YtkhnicppcbgdiaaGreatDoor
namespace Go.Proofs.YtkhnicppcbgdiaaGreatDoor
open Go.Shelf
def lays155_ren : Go.Shelf.Ren := ⟨fun | 155 => 62 | 154 => 85 | 138 => 97 | 165 => 98 | 143 => 99 | 166 => 34 | 197 => 100 | 169 => 37 | 195 => 112 | 218 => 113 | 240 => 63 | 241 => 114 | 219 => 90 | 260 => 115 | 276 => 86 | 277 => 124 | 217 => 106 | 225 => 107 | 224 => 108 | 267 => 109 | 266 => 121 | 314 => 122 | n => n, fun | 9 => 9 | 3 => 3 | 4 => 4 | 72 => 78 | 0 => 0 | 76 => 81 | 105 => 135 | 21 => 21 | 5 => 5 | 70 => 76 | 20 => 20 | 37 => 41 | 75 => 80 | 127 => 113 | 164 => 126 | 46 => 40 | 119 => 144 | 139 => 147 | 138 => 146 | 146 => 155 | 51 => 133 | 80 => 85 | n => n, fun | 1 => 2 | 3 => 0 | 4 => 1 | n => n⟩
theorem lays155 : Go.Proofs.Lays.n155 Tryz.prog lays155_ren := {
  mixed := by kernel_rfl
  f138 := Tryz.func97.trans (congrArg some (by kernel_rfl))
  f143 := Tryz.func99.trans (congrArg some (by kernel_rfl))
  f154 := Tryz.func85.trans (congrArg some (by kernel_rfl))
  f155 := Tryz.func62.trans (congrArg some (by kernel_rfl))
  f165 := Tryz.func98.trans (congrArg some (by kernel_rfl))
  f166 := Tryz.func34.trans (congrArg some (by kernel_rfl))
  f169 := Tryz.func37.trans (congrArg some (by kernel_rfl))
  f195 := Tryz.func112.trans (congrArg some (by kernel_rfl))
  f197 := Tryz.func100.trans (congrArg some (by kernel_rfl))
  f217 := Tryz.func106.trans (congrArg some (by kernel_rfl))
  f218 := Tryz.func113.trans (congrArg some (by kernel_rfl))
  f219 := Tryz.func90.trans (congrArg some (by kernel_rfl))
  f224 := Tryz.func108.trans (congrArg some (by kernel_rfl))
  f225 := Tryz.func107.trans (congrArg some (by kernel_rfl))
  f240 := Tryz.func63.trans (congrArg some (by kernel_rfl))
  f241 := Tryz.func114.trans (congrArg some (by kernel_rfl))
  f260 := Tryz.func115.trans (congrArg some (by kernel_rfl))
  f266 := Tryz.func121.trans (congrArg some (by kernel_rfl))
  f267 := Tryz.func109.trans (congrArg some (by kernel_rfl))
  f276 := Tryz.func86.trans (congrArg some (by kernel_rfl))
  f277 := Tryz.func124.trans (congrArg some (by kernel_rfl))
  f314 := Tryz.func122.trans (congrArg some (by kernel_rfl))
  t0 := Tryz.underlying0
  a0 := Tryz.isAgg0
  z0 := Tryz.sizeOf0
  v0 := Tryz.zeroValue0
  t3 := Tryz.underlying3
  a3 := Tryz.isAgg3
  z3 := Tryz.sizeOf3
  v3 := Tryz.zeroValue3
  t4 := Tryz.underlying4
  a4 := Tryz.isAgg4
  z4 := Tryz.sizeOf4
  v4 := Tryz.zeroValue4
  t5 := Tryz.underlying5
  a5 := Tryz.isAgg5
  z5 := Tryz.sizeOf5
  v5 := Tryz.zeroValue5
  t9 := Tryz.underlying9
  a9 := Tryz.isAgg9
  z9 := Tryz.sizeOf9
  v9 := Tryz.zeroValue9
  t20 := Tryz.underlying20
  a20 := Tryz.isAgg20
  z20 := Tryz.sizeOf20
  v20 := Tryz.zeroValue20
  t21 := Tryz.underlying21
  a21 := Tryz.isAgg21
  z21 := Tryz.sizeOf21
  v21 := Tryz.zeroValue21
  t37 := Tryz.underlying41
  a37 := Tryz.isAgg41
  z37 := Tryz.sizeOf41
  v37 := Tryz.zeroValue41
  t46 := Tryz.underlying40
  a46 := Tryz.isAgg40
  z46 := Tryz.sizeOf40
  v46 := Tryz.zeroValue40
  t51 := Tryz.underlying133
  a51 := Tryz.isAgg133
  z51 := Tryz.sizeOf133
  v51 := Tryz.zeroValue133
  t70 := Tryz.underlying76
  a70 := Tryz.isAgg76
  z70 := Tryz.sizeOf76
  v70 := Tryz.zeroValue76
  t72 := Tryz.underlying78
  a72 := Tryz.isAgg78
  z72 := Tryz.sizeOf78
  v72 := Tryz.zeroValue78
  t75 := Tryz.underlying80
  a75 := Tryz.isAgg80
  z75 := Tryz.sizeOf80
  v75 := Tryz.zeroValue80
  t76 := Tryz.underlying81
  a76 := Tryz.isAgg81
  z76 := Tryz.sizeOf81
  v76 := Tryz.zeroValue81
  t105 := Tryz.underlying135
  a105 := Tryz.isAgg135
  z105 := Tryz.sizeOf135
  v105 := Tryz.zeroValue135
  t119 := Tryz.underlying144
  a119 := Tryz.isAgg144
  z119 := Tryz.sizeOf144
  t127 := Tryz.underlying113
  a127 := Tryz.isAgg113
  z127 := Tryz.sizeOf113
  v127 := Tryz.zeroValue113
  t138 := Tryz.underlying146
  a138 := Tryz.isAgg146
  z138 := Tryz.sizeOf146
  v138 := Tryz.zeroValue146
  t139 := Tryz.underlying147
  a139 := Tryz.isAgg147
  z139 := Tryz.sizeOf147
  v139 := Tryz.zeroValue147
  t146 := Tryz.underlying155
  a146 := Tryz.isAgg155
  z146 := Tryz.sizeOf155
  v146 := Tryz.zeroValue155
  t164 := Tryz.underlying126
  a164 := Tryz.isAgg126
  z164 := Tryz.sizeOf126
  v164 := Tryz.zeroValue126
  g1 := by kernel_rfl
  g3 := by kernel_rfl
  g4 := by kernel_rfl }
theorem Builder_Extra_155 : Builder.Extra Tryz.prog lays155_ren := {
  sizeBuilder := by kernel_rfl
  liesBuilder := by kernel_rfl
  t5 := Tryz.underlying5
  a5 := Tryz.isAgg5
  z5 := Tryz.sizeOf5
  v5 := Tryz.zeroValue5
  infoByte := by kernel_rfl
  cellsByte := by kernel_rfl
  sizeByte := by kernel_rfl
  neB5 := by decide }
open Go.RowKit Go.Lib in
theorem strings_ReplaceAll (s old new : ByteArray) (m : Int) (w : World) (hs : s.size < 4294967281) (hm : w.cell? ⟨2, 0, none⟩ = some (.int .i64 m)) (h1 : 1 ≤ old.size) (hlen : s.size + Lib.countB s old * new.size ≤ 140737488355328) :
    Calls Tryz.prog 62 #[.string s, .string old, .string new] w fun e w' =>
      e = .returned (.string ⟨(Lib.replaceAll s.data.toList old.data.toList new.data.toList).toArray⟩) ∧ Below w.heap.size w w' := Any.strings_ReplaceAll lays155 Builder_Extra_155 s old new m w hs hm h1 hlen
end Go.Proofs.YtkhnicppcbgdiaaGreatDoor
