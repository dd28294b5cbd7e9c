/-
  The laws' own awake, and the walk over the law StubReads.
  Bytes made of a text, set in place and made a text again; the walk over the document's own under.
-/
import Derived.Test.YtkhnicppcbgdiaaGreatDoorM26
import Derived.Laws.IdiomStrings
namespace Go.Proofs.YtkhnicppcbgdiaaGreatDoor
set_option linter.unusedVariables false
open Go.ChangeShapes Go.WideShapes Go.ChangeAt Go.RowKit

theorem inT_of {s : SC} (h : FormS s) : InT s := by
  intro t ht
  have h1 := h.1
  unfold formS at h1
  simp only [Bool.and_eq_true] at h1
  obtain ⟨i, hi⟩ := List.getElem?_of_mem ht
  have h2 : formT s.ms.length s.ts = true := by
    exact h1.2.2.2.2
  have h3 := allA_iff.1 h2 i t hi
  unfold goodT at h3
  simp only [Bool.and_eq_true] at h3
  have h4 := h3.2.2.2.2
  unfold inB at h4
  simp only [decide_eq_true_iff] at h4
  omega
set_option maxRecDepth 20000 in
theorem rw_eqlP (x : Rw) (W : World) : (binOp .eql 50 (.agg #[.int .i64 x.id, .string (mkB x.sv), .string (mkB x.mt), .string (mkB x.inn), .string (mkB x.out)]) (.agg #[.int .i64 x.id, .string (mkB x.sv), .string (mkB x.mt), .string (mkB x.inn), .string (mkB x.out)])).run Tryz.prog W = .ok (.bool true) W := by
  have hu := Tryz.underlying50
  have h3 := Tryz.underlying3
  have h9 := Tryz.underlying9
  rw [run_eql_struct]
  have hs : Tryz.prog.stoodInHeld 50 = false := by kernel_rfl
  have hf : Tryz.prog.underlying 50 = some (.struct (Tryz.prog.fieldsOf 50)) := by kernel_rfl
  rw [show (10000 : Nat) = 9999 + 1 from rfl, run_equalIn_agg _ _ _ _ _ hf hs]
  simp [go_sem]
def tdS : TD := ⟨1, [115, 104, 111, 112], [103, 101, 116, 95, 105, 116, 101, 109], 0, 0⟩
def scS : SC := ⟨[⟨[65, 46, 66], []⟩], [], [tdS]⟩
theorem formSS : FormS scS := by
  refine ⟨by decide +kernel, fun i hi hr => ?_⟩
  have hno : ∀ x y, ¬ Goes scS.ms x y := by
    intro x y h
    unfold Goes at h
    obtain ⟨m, hm, f, hf, hk, _⟩ := h
    have hx : x = 0 := by
      have := (List.getElem?_eq_some_iff.1 hm).1
      simp [scS] at this; omega
    subst hx
    have e : m = ⟨[65, 46, 66], []⟩ := by simpa [scS] using hm.symm
    subst e
    cases hf
  unfold Ring at hr
  cases hr with
  | single h => exact hno _ _ h
  | tail _ h => exact hno _ _ h
theorem rowsSS : rowsL scS = [⟨1, [83, 104, 111, 112], [71, 101, 116, 73, 116, 101, 109], [65, 95, 66], [65, 95, 66]⟩] := by decide +kernel
theorem fitSS : FitS scS := by
  refine ⟨⟨by decide, by decide⟩, fun m hm => ?_, fun m hm => (by cases hm), ⟨by decide, fun t ht => ?_⟩⟩
  · have e : m = ⟨[65, 46, 66], []⟩ := by simpa [scS] using hm
    subst e
    exact ⟨by decide, ⟨by decide, fun f hf => (by cases hf)⟩⟩
  · have e : t = tdS := by simpa [scS] using ht
    subst e
    exact ⟨by decide, by decide⟩
theorem one_lst {α : Type} {a x : α} {j : Nat} (h : [a][j]? = some x) : j = 0 ∧ a = x := by
  have hj : j = 0 := by
    have := (List.getElem?_eq_some_iff.1 h).1
    simp at this; exact this
  subst hj
  exact ⟨rfl, by simpa using h⟩
set_option maxHeartbeats 4000000 in
set_option maxRecDepth 20000 in
theorem awake13_any (w : World) (hM : Mx w) :
    Calls Tryz.prog 6 #[] w fun e w' => e = .returned (.bool true) ∧ Below w.heap.size w w' := by
  obtain ⟨Y1, hY1, hC1, hb1, hs1⟩ := box_new w #[.string ⟨#[65, 46, 66]⟩, .slice none 0 0] 46
  obtain ⟨Y2, hY2, hC2, hb2, hs2⟩ := box_new Y1 #[.int .i64 1, .string ⟨#[115, 104, 111, 112]⟩, .string ⟨#[103, 101, 116, 95, 105, 116, 101, 109]⟩, .int .i64 0, .int .i64 0] 48
  have HY1 := Lib.hid hY1
  have HY2 := Lib.hid hY2
  have hB2 := hb1.trans (hb2.mono hb1.size)
  have hD1 := (hb2.block _ (by omega)).trans hC1
  rw [hs1] at hC2
  have hsz : w.heap.size + 2 = Y2.heap.size := by omega
  have hH : HeldSc Y2 (fun b => b < Y2.heap.size) (.slice (some ⟨w.heap.size, 0, none⟩) 1 1) (.slice none 0 0) (.slice (some ⟨w.heap.size + 1, 0, none⟩) 1 1) scS := by
    refine ⟨⟨_, _, rfl, Nat.le_refl _, .inr ⟨w.heap.size, 0, rfl, by show w.heap.size < Y2.heap.size; omega, fun j x hj => ?_⟩⟩, ⟨none, 0, rfl, Nat.le_refl _, .inl rfl⟩, ⟨_, _, rfl, Nat.le_refl _, .inr ⟨w.heap.size + 1, 0, rfl, by show w.heap.size + 1 < Y2.heap.size; omega, fun j x hj => ?_⟩⟩⟩
    · obtain ⟨rfl, rfl⟩ := one_lst hj
      exact ⟨none, 0, cell_at hD1 0 rfl, cell_at hD1 1 rfl, ⟨none, 0, rfl, Nat.le_refl _, .inl rfl⟩⟩
    · obtain ⟨rfl, rfl⟩ := one_lst hj
      intro i u hu
      simp only [World.cell?, hC2]
      simpa [tdrow, tdS, mkB] using hu
  have hR := rowsP_any (some ⟨w.heap.size, 0, none⟩) none (some ⟨w.heap.size + 1, 0, none⟩) 1 0 1 1 0 1 scS Y2 (hM.below hB2) rfl rfl rfl fitSS (fun h => inT_of h) hH
  have HB := Lib.hid hB2
  clear hY1 hY2 hC1 hb1 hs1 hC2 hb2 hs2 hB2 hD1 hH
  go_enter Tryz.func6, Tryz.ntmps6
  go_upto_region 1 with fail
  go_wp2_with fail
  rw [HY1.out, HY2.out]
  refine hR.mono ?_
  rintro e w1 ⟨v, l, rfl, hO, hl, -, hb⟩
  have hll := hl formSS
  subst hll
  rw [rowsSS] at hO
  have HB1 := Lib.hid (HB.out.trans (hb.mono HB.out.size))
  obtain ⟨ra, rc, rfl⟩ := own_slice hO
  have hrows := rowsIn_own rrow_len hO (fun _ => True) fun _ _ => trivial
  obtain ⟨g, o, c, hsl, _, hcells⟩ := rw_cells hrows (q := 0) rfl
  have hra : ra = some ⟨g, o, none⟩ := (Value.slice.inj hsl).1
  subst hra
  obtain ⟨e0, e1, e2, e3, e4⟩ := hcells w1 rfl
  clear hR hl hO hb hrows hsl hcells
  have f0 : w1.cell? ⟨g, o, none⟩ = some (.int .i64 1) := e0
  have f1 : w1.cell? ⟨g, o + 1, none⟩ = some (.string ⟨#[83, 104, 111, 112]⟩) := e1
  have f2 : w1.cell? ⟨g, o + 2, none⟩ = some (.string ⟨#[71, 101, 116, 73, 116, 101, 109]⟩) := e2
  have f3 : w1.cell? ⟨g, o + 3, none⟩ = some (.string ⟨#[65, 95, 66]⟩) := e3
  have f4 : w1.cell? ⟨g, o + 4, none⟩ = some (.string ⟨#[65, 95, 66]⟩) := e4
  have hq : ∀ W : World, (binOp .eql 50 (.agg #[.int .i64 1, .string ⟨#[83, 104, 111, 112]⟩, .string ⟨#[71, 101, 116, 73, 116, 101, 109]⟩, .string ⟨#[65, 95, 66]⟩, .string ⟨#[65, 95, 66]⟩]) (.agg #[.int .i64 1, .string ⟨#[83, 104, 111, 112]⟩, .string ⟨#[71, 101, 116, 73, 116, 101, 109]⟩, .string ⟨#[65, 95, 66]⟩, .string ⟨#[65, 95, 66]⟩])).run Tryz.prog W = .ok (.bool true) W := fun W => rw_eqlP ⟨1, [83, 104, 111, 112], [71, 101, 116, 73, 116, 101, 109], [65, 95, 66], [65, 95, 66]⟩ W
  clear e0 e1 e2 e3 e4
  simp only [List.length_cons, List.length_nil, Nat.zero_add]
  go_wp2_with fail
  go_ret
  exact ⟨rfl, HB1.out⟩
end Go.Proofs.YtkhnicppcbgdiaaGreatDoor
namespace Go.Proofs.YtkhnicppcbgdiaaGreatDoor
set_option linter.unusedVariables false
open Go.ChangeShapes Go.WideShapes Go.ChangeAt Go.RowKit

/-- the bytes that '[]byte' of a text has laid -/
def BufS (w : World) (B : Nat) (l : List UInt8) : Prop := ∃ C fr, w.heap[B]? = some (.cells C 5 fr) ∧ l.length ≤ fr.1 ∧ l.length ≤ C.size ∧ ∀ (j : Nat) (b : UInt8), l[j]? = some b → C[j]? = some (.int .u8 b.toNat)
theorem buf_new (w : World) (l : List UInt8) : ∃ c W, (convert 9 41 (.string (mkB l))).run Tryz.prog w = .ok (.slice (some ⟨w.heap.size, 0, none⟩) l.length c) W ∧ BufS W w.heap.size l ∧ Below w.heap.size w W ∧ W.heap.size = w.heap.size + 1 := by
  have h := run_bytes_of_string (P := Tryz.prog) w 9 41 5 (mkB l) Tryz.underlying9 Tryz.underlying41 Tryz.underlying5
  rw [mkB_sz] at h
  refine ⟨_, _, h, ⟨_, _, alloc_heap_new w.drew _, ?_, ?_, ?_⟩, ((Below.refl _ w).drew).alloc (Nat.le_refl _) _, by rw [World.size_alloc]; rfl⟩
  · simp [bytesRow, mkB]
  · simp [bytesRow, mkB]
  · intro j b hj
    have hl := (List.getElem?_eq_some_iff.1 hj)
    obtain ⟨h1, h2⟩ := hl
    show ((mkB l).data.map (fun b => Value.int .u8 b.toNat) ++ Array.replicate _ (.int .u8 0))[j]? = _
    rw [Array.getElem?_append_left (by simp [mkB]; exact h1)]
    simp [mkB, h1, h2]
theorem buf_cell {w : World} {B : Nat} {l : List UInt8} (h : BufS w B l) {j : Nat} {b : UInt8} (hj : l[j]? = some b) : w.cell? ⟨B, j, none⟩ = some (.int .u8 b.toNat) := by
  obtain ⟨C, fr, h1, _, _, h2⟩ := h
  simp [World.cell?, h1, h2 j b hj]
theorem buf_frozen {w : World} {B : Nat} {l : List UInt8} (h : BufS w B l) {j : Nat} (hj : j < l.length) : w.frozen? ⟨B, j, none⟩ = false := by
  obtain ⟨C, fr, h1, h2, _, _⟩ := h
  simp [World.frozen?, h1]
  omega
theorem buf_set {w : World} {B : Nat} {l : List UInt8} (h : BufS w B l) (j : Nat) (b : UInt8) : BufS (w.setCell ⟨B, j, none⟩ (.int .u8 b.toNat)) B (l.set j b) := by
  obtain ⟨C, fr, h1, h2, h3, h4⟩ := h
  refine ⟨_, fr, setCell_heap h1 _, by rw [List.length_set]; exact h2, by rw [List.length_set]; simpa using h3, fun i x hi => ?_⟩
  rw [List.getElem?_set] at hi
  by_cases e : j = i
  · subst e
    rw [if_pos rfl] at hi
    split at hi
    · rename_i hl
      obtain rfl := Option.some.inj hi
      rw [Array.getElem?_setIfInBounds_self, if_pos (by omega)]
    · cases hi
  · rw [if_neg e] at hi
    rw [Array.getElem?_setIfInBounds_ne e]
    exact h4 i x hi
theorem buf_str {w : World} {B : Nat} {l : List UInt8} (h : BufS w B l) (c : Nat) : (convert 41 9 (.slice (some ⟨B, 0, none⟩) l.length c)).run Tryz.prog w = .ok (.string (mkB l)) w := by
  refine (run_convert_bytes_back (P := Tryz.prog) w 41 9 5 ⟨B, 0, none⟩ c l Tryz.underlying41 Tryz.underlying5 Tryz.underlying9 fun j hj => ?_).trans rfl
  have := buf_cell h (List.getElem?_eq_getElem hj)
  rw [show (Addr.mk B 0 none).add j = ⟨B, j, none⟩ by unfold Addr.add; split <;> simp_all]
  exact this
/-- the first k bytes are turned -/
def undK (l : List UInt8) (k : Nat) : List UInt8 := undL (l.take k) ++ l.drop k
theorem undK_len (l : List UInt8) (k : Nat) : (undK l k).length = l.length := by
  unfold undK undL; rw [List.length_append, List.length_map, List.length_take, List.length_drop]; omega
theorem undK_at {l : List UInt8} {k : Nat} {b : UInt8} (h : l[k]? = some b) : (undK l k)[k]? = some b := by
  have hk := (List.getElem?_eq_some_iff.1 h).1
  unfold undK undL
  rw [List.getElem?_append_right (by rw [List.length_map, List.length_take]; omega), List.length_map, List.length_take, Nat.min_eq_left (by omega), Nat.sub_self, List.getElem?_drop, Nat.add_zero, h]
theorem undK_next {l : List UInt8} {k : Nat} {b : UInt8} (h : l[k]? = some b) : undK l (k + 1) = (undK l k).set k (undB b) := by
  have hk := (List.getElem?_eq_some_iff.1 h).1
  have hd : l.drop k = b :: l.drop (k + 1) := by
    obtain ⟨h1, h2⟩ := List.getElem?_eq_some_iff.1 h
    rw [List.drop_eq_getElem_cons h1, h2]
  unfold undK
  rw [hd, List.set_append, if_neg (by unfold undL; rw [List.length_map, List.length_take]; omega), List.take_add_one, h]
  unfold undL
  rw [List.length_map, List.length_take, Nat.min_eq_left (by omega), Nat.sub_self, List.map_append]
  simp
theorem undK_same {l : List UInt8} {k : Nat} {b : UInt8} (h : l[k]? = some b) (hb : b ≠ 46) : undK l (k + 1) = undK l k := by
  rw [undK_next h]
  have : undB b = b := by unfold undB; rw [if_neg hb]
  rw [this]
  apply List.ext_getElem?
  intro i
  rw [List.getElem?_set]
  split
  · rename_i e
    subst e
    split
    · rw [undK_at h]
    · rename_i h2
      rw [List.getElem?_eq_none (by omega)]
  · rfl
set_option maxHeartbeats 4000000 in
set_option maxRecDepth 20000 in
theorem underR_any (l : List UInt8) (w : World) (h : l.length ≤ 100000) :
    Calls Tryz.prog 24 #[.string (mkB l)] w fun e w' => e = .returned (.string (mkB (undL l))) ∧ Below w.heap.size w w' := by
  obtain ⟨c, W, hcv, hbuf, hbW, hWs⟩ := buf_new w l
  have HBUF := Lib.hid hbuf
  have HBW := Lib.hid hbW
  clear hbuf hbW
  go_enter Tryz.func24, Tryz.ntmps24
  go_wp2_with fail
  go_loopw [9] (fun i wr => ∃ (k : Nat), k ≤ l.length ∧ i = .int .i64 (k : Int) ∧ BufS wr w.heap.size (undK l k) ∧ Below w.heap.size w wr) (fun i _ => l.length - (intOf i).toNat)
  case atStart => exact ⟨0, Nat.zero_le _, rfl, HBUF.out, HBW.out⟩
  case round =>
    generalize wr = w3 at *
    obtain ⟨k, hk, rfl, hB, hW⟩ := hrel
    have HB := Lib.hid hB
    have HW := Lib.hid hW
    clear hB hW
    by_cases hkn : k < l.length
    · obtain ⟨b, hb⟩ : ∃ b, l[k]? = some b := ⟨_, List.getElem?_eq_getElem hkn⟩
      have hk0 : (0 : Int) ≤ (k : Int) := by omega
      have hk1 : (k : Int) < (l.length : Int) := by omega
      have hwk : IntKind.i64.wrap ((k : Int) + 1) = (k : Int) + 1 := by rw [IntKind.wrap_i64]; omega
      have hc := buf_cell HB.out (undK_at hb)
      have hfz := buf_frozen HB.out (j := k) (by rw [undK_len]; exact hkn)
      have HN := Lib.hid hb
      clear hb
      by_cases h46 : b = 46
      · have h46i : ((b.toNat : Int) == 46) = true := by subst h46; rfl
        have h46j : (b.toNat : Int) = 46 := by subst h46; rfl
        have HS := Lib.hid (buf_set HB.out k 95)
        have HWS := Lib.hid (HW.out.setCell (p := ⟨w.heap.size, k, none⟩) (Nat.le_refl _) (.int .u8 95))
        have HNX : Hid (undK l (k + 1) = (undK l k).set k 95) := by
          refine (?_ : _ = _)
          rw [undK_next HN.out, h46]
          rfl
        go_wp2_with fail
        go_roundw
        case rel => exact ⟨k + 1, by omega, by go_num, by rw [HNX.out]; exact HS.out, HWS.out⟩
        case measure => simp [intOf]; omega
      · have h46i : ((b.toNat : Int) == 46) = false := by
          have : b.toNat ≠ 46 := fun e => h46 (UInt8.toNat_inj.1 (by rw [e]; rfl))
          simp; omega
        have h46j : ¬ (b.toNat : Int) = 46 := by simpa using h46i
        have HNX := Lib.hid (undK_same HN.out h46)
        go_wp2_with fail
        go_roundw
        case rel => exact ⟨k + 1, by omega, by go_num, by rw [HNX.out]; exact HB.out, HW.out⟩
        case measure => simp [intOf]; omega
    · have HF : Hid (undK l k = undL l) := by
        refine (?_ : _ = _)
        unfold undK
        rw [List.take_of_length_le (by omega), List.drop_of_length_le (by omega), List.append_nil]
      have hst := buf_str HB.out c
      rw [undK_len, HF.out] at hst
      go_wp2_with fail
      go_ret
      exact ⟨rfl, HW.out⟩
end Go.Proofs.YtkhnicppcbgdiaaGreatDoor
