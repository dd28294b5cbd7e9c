/-
  The walks over the program's own rowsOf and Rows.
-/
import Derived.Test.YtkhnicppcbgdiaaGreatDoorM24
import Derived.Test.YtkhnicppcbgdiaaGreatDoorM25
import Derived.Laws.MakeOwn
namespace Go.Proofs.YtkhnicppcbgdiaaGreatDoor
set_option linter.unusedVariables false
open Go.ChangeShapes Go.WideShapes Go.ChangeAt Go.RowKit

def camC (l : List UInt8) : List UInt8 := if nameOf (runes (mkB l)) = true then encL (camelL true (runes (mkB l))) else []
def nmAt (ms : List MD) (i : Int) : List UInt8 := match ms[i.toNat]? with | some m => m.name | none => []
def rowL (ms : List MD) (t : TD) : Rw := ⟨t.id, camC t.service, camC t.name, undL (nmAt ms t.inp), undL (nmAt ms t.out)⟩
def rowsL (s : SC) : List Rw := s.ts.map (rowL s.ms)
theorem camC_any (l : List UInt8) (w : World) (h : l.length ≤ 100000) :
    Calls Tryz.prog 32 #[.string (mkB l)] w fun e w' => e = .returned (.string (mkB (camC l))) ∧ Below w.heap.size w w' :=
  camel_any (mkB l) w (by rw [mkB_sz]; omega)
/-- five cells written into a row -/
theorem set5_in {w : World} {B : Nat} {cur : Array Value} {T : TypeId} (h : w.heap[B]? = some (.cells cur T (0, 0))) (q : Nat) (hq : q + 5 ≤ cur.size) (x0 x1 x2 x3 x4 : Value) :
    ∃ Y cur', (((((w.setCell ⟨B, q, none⟩ x0).setCell ⟨B, q + 1, none⟩ x1).setCell ⟨B, q + 2, none⟩ x2).setCell ⟨B, q + 3, none⟩ x3).setCell ⟨B, q + 4, none⟩ x4) = Y ∧ Y.heap[B]? = some (.cells cur' T (0, 0)) ∧ cur'.size = cur.size ∧ cur'.toList.take (q + 5) = cur.toList.take q ++ [x0, x1, x2, x3, x4] ∧ (∀ b, b ≠ B → Y.heap[b]? = w.heap[b]?) ∧ Y.heap.size = w.heap.size ∧ Below B w Y := by
  have h5 := setCell_heap (j := q + 4) (setCell_heap (j := q + 3) (setCell_heap (j := q + 2) (setCell_heap (j := q + 1) (setCell_heap (j := q) h x0) x1) x2) x3) x4
  refine ⟨_, _, rfl, h5, by simp, ?_, fun b hb => ?_, by simp, ((((((Below.refl B w).setCell (p := ⟨B, q, none⟩) (Nat.le_refl _) x0).setCell (p := ⟨B, q + 1, none⟩) (Nat.le_refl _) x1).setCell (p := ⟨B, q + 2, none⟩) (Nat.le_refl _) x2).setCell (p := ⟨B, q + 3, none⟩) (Nat.le_refl _) x3).setCell (p := ⟨B, q + 4, none⟩) (Nat.le_refl _) x4)⟩
  · apply List.ext_getElem?
    intro j
    have hl : cur.toList.length = cur.size := by simp
    by_cases h1 : j < q
    · rw [List.getElem?_append_left (by rw [List.length_take]; omega), List.getElem?_take, if_pos (by omega), List.getElem?_take, if_pos h1]
      simp only [Array.toList_setIfInBounds]
      rw [List.getElem?_set_ne (by omega), List.getElem?_set_ne (by omega), List.getElem?_set_ne (by omega), List.getElem?_set_ne (by omega), List.getElem?_set_ne (by omega)]
    · by_cases h2 : j < q + 5
      · rw [List.getElem?_append_right (by rw [List.length_take]; omega), List.getElem?_take, if_pos h2, List.length_take, Nat.min_eq_left (by omega)]
        simp only [Array.toList_setIfInBounds]
        rcases (by omega : j = q ∨ j = q + 1 ∨ j = q + 2 ∨ j = q + 3 ∨ j = q + 4) with rfl | rfl | rfl | rfl | rfl
        · rw [List.getElem?_set_ne (by omega), List.getElem?_set_ne (by omega), List.getElem?_set_ne (by omega), List.getElem?_set_ne (by omega), List.getElem?_set_self (by simp; omega), Nat.sub_self]; rfl
        · rw [List.getElem?_set_ne (by omega), List.getElem?_set_ne (by omega), List.getElem?_set_ne (by omega), List.getElem?_set_self (by simp; omega), Nat.add_sub_cancel_left]; rfl
        · rw [List.getElem?_set_ne (by omega), List.getElem?_set_ne (by omega), List.getElem?_set_self (by simp; omega), Nat.add_sub_cancel_left]; rfl
        · rw [List.getElem?_set_ne (by omega), List.getElem?_set_self (by simp; omega), Nat.add_sub_cancel_left]; rfl
        · rw [List.getElem?_set_self (by simp; omega), Nat.add_sub_cancel_left]; rfl
      · rw [List.getElem?_eq_none (by simp; omega), List.getElem?_eq_none (by simp; omega)]
  · rw [Below.heap_setCell _ _ _ _ (show b ≠ (⟨B, q + 4, none⟩ : Addr).block from hb), Below.heap_setCell _ _ _ _ (show b ≠ (⟨B, q + 3, none⟩ : Addr).block from hb), Below.heap_setCell _ _ _ _ (show b ≠ (⟨B, q + 2, none⟩ : Addr).block from hb), Below.heap_setCell _ _ _ _ (show b ≠ (⟨B, q + 1, none⟩ : Addr).block from hb), Below.heap_setCell _ _ _ _ (show b ≠ (⟨B, q, none⟩ : Addr).block from hb)]
theorem make_rows (w : World) (n : Nat) (h : n ≤ 100000) :
    ∃ W cur, (Instr.makeSlice 35 (.int .i64 (n : Int)) (.int .i64 (n : Int))).run Tryz.prog w = .ok (.slice (some ⟨w.heap.size, 0, none⟩) n n) W ∧ W.heap[w.heap.size]? = some (.cells cur 50 (0, 0)) ∧ cur.size = n * 5 ∧ Below w.heap.size w W ∧ W.heap.size = w.heap.size + 1 := by
  obtain ⟨i0, hi, hz0, hz1, hz2⟩ := info_parts infoRwP
  have := run_make (P := Tryz.prog) w 35 50 i0 zRw Tryz.underlying35 hi hz0 .i64 .i64 n n (by omega) (by omega) (by rw [hz2]; omega) (by omega)
  simp only [Int.toNat_natCast, hz1] at this
  exact ⟨_, _, this, alloc_heap_new _ _, by simp [madeCells], (Below.refl _ _).alloc (Nat.le_refl _) _, by simp⟩
theorem heldSc_mvS {w W : World} {a b c : Value} {s : SC} (h : HeldSc w (fun b => b < w.heap.size) a b c s) (hW : Below w.heap.size w W) : HeldSc W (fun b => b < W.heap.size) a b c s :=
  ⟨(HeldN.old h.1 fun b hb => hW.block b hb).more fun b hb => by have hb' : b < w.heap.size := hb; have := hW.size; omega, (HeldN.old h.2.1 fun b hb => hW.block b hb).more fun b hb => by have hb' : b < w.heap.size := hb; have := hW.size; omega, (RowsIn.old h.2.2 fun b hb => hW.block b hb).more fun b hb => by have hb' : b < w.heap.size := hb; have := hW.size; omega⟩
def InT (s : SC) : Prop := ∀ t ∈ s.ts, 0 ≤ t.inp ∧ t.inp < (s.ms.length : Int) ∧ 0 ≤ t.out ∧ t.out < (s.ms.length : Int)
set_option maxHeartbeats 32000000 in
set_option maxRecDepth 20000 in
theorem rowsOf_any (ma ea ta : Option Addr) (nm ne nt mc ec tc : Nat) (s : SC) (w : World) (hM : Mx w) (hnm : s.ms.length = nm) (hne : s.es.length = ne) (hnt : s.ts.length = nt) (hf : FitS s) (hin : InT s) (hH : HeldSc w (fun b => b < w.heap.size) (.slice ma nm mc) (.slice ea ne ec) (.slice ta nt tc) s) :
    Calls Tryz.prog 17 #[.agg #[.slice ma nm mc, .slice ea ne ec, .slice ta nt tc]] w fun e w' => ∃ v, e = .returned v ∧ OwnRw w' w.heap.size 50 v (rowsL s) ∧ Below w.heap.size w w' := by
  have HM := Lib.hid hM
  have HNM := Lib.hid hnm
  have HNT := Lib.hid hnt
  have HF := Lib.hid hf
  have HI := Lib.hid hin
  have hntl : nt ≤ 100000 := by rw [← hnt]; exact hf.2.2.2.1
  have HHM : Hid (HeldM w (fun b => b < w.heap.size) (.slice ma nm mc) s.ms) := hH.1
  have HHT : Hid (RowsIn w (fun b => b < w.heap.size) 5 tdrow (.slice ta nt tc) s.ts) := hH.2.2
  obtain ⟨Y, hY, hC, hb, hYs⟩ := box_new w #[.slice ma nm mc, .slice ea ne ec, .slice ta nt tc] 26
  have HY := Lib.hid hY
  obtain ⟨Z, cur0, hmk, hZ, hcs0, hbZ, hZs⟩ := make_rows Y nt hntl
  rw [hYs] at hmk hZ
  have hCZ := (hbZ.block _ (by omega)).trans hC
  have HBZ := Lib.hid (hb.trans (hbZ.mono hb.size))
  have HCZ := Lib.hid hCZ
  have HZZ := Lib.hid hZ
  have hZl : w.heap.size + 2 ≤ Z.heap.size := by omega
  have y2 := cell_at hC 2 rfl
  have z2 := cell_at hCZ 2 rfl
  clear hM hnm hne hnt hf hin hH hY hb hZ hbZ hZs hYs hC hCZ
  go_enter Tryz.func17, Tryz.ntmps17
  go_upto_region 1 with fail
  rw [HY.out]
  go_wp2_with fail
  clear y2 z2 hmk
  go_loopw [13] (fun i wr => ∃ (k : Nat) (cur : Array Value), k ≤ nt ∧ i = .int .i64 (k : Int) ∧ Below w.heap.size w wr ∧ w.heap.size + 2 ≤ wr.heap.size ∧ wr.heap[w.heap.size]? = some (.cells #[.slice ma nm mc, .slice ea ne ec, .slice ta nt tc] 26 (0, 0)) ∧ wr.heap[w.heap.size + 1]? = some (.cells cur 50 (0, 0)) ∧ cur.size = nt * 5 ∧ cur.toList.take (k * 5) = ((s.ts.take k).map (rowL s.ms)).flatMap rrow) (fun i _ => nt - (intOf i).toNat)
  case atStart => exact ⟨0, cur0, Nat.zero_le _, rfl, HBZ.out, hZl, HCZ.out, HZZ.out, hcs0, by simp⟩
  case round =>
    generalize wr = w3 at *
    obtain ⟨k, cur, hk, rfl, hB, hl2, hcz, hzz, hcs, htk⟩ := hrel
    have HB3 := Lib.hid hB
    have HC3 := Lib.hid hcz
    have HZ3 := Lib.hid hzz
    have HTK := Lib.hid htk
    clear hB hcz hzz htk HBZ HCZ HZZ
    by_cases hkn : k < nt
    · obtain ⟨t, ht⟩ : ∃ t, s.ts[k]? = some t := ⟨_, List.getElem?_eq_getElem (by rw [HNT.out]; exact hkn)⟩
      have htm := List.mem_of_getElem? ht
      obtain ⟨hft1, hft2⟩ := HF.out.2.2.2.2 t htm
      obtain ⟨hi0, hi1, ho0, ho1⟩ := HI.out t htm
      rw [HNM.out] at hi1 ho1
      obtain ⟨ip, hip⟩ := Int.eq_ofNat_of_zero_le hi0
      obtain ⟨op, hop⟩ := Int.eq_ofNat_of_zero_le ho0
      obtain ⟨x1, hx1⟩ : ∃ x, s.ms[ip]? = some x := ⟨_, List.getElem?_eq_getElem (by rw [HNM.out]; omega)⟩
      obtain ⟨x2, hx2⟩ : ∃ x, s.ms[op]? = some x := ⟨_, List.getElem?_eq_getElem (by rw [HNM.out]; omega)⟩
      have hl1 := (HF.out.2.1 x1 (List.mem_of_getElem? hx1)).1
      have hl22 := (HF.out.2.1 x2 (List.mem_of_getElem? hx2)).1
      have HROW : Hid (((s.ts.take (k + 1)).map (rowL s.ms)).flatMap rrow = ((s.ts.take k).map (rowL s.ms)).flatMap rrow ++ [.int .i64 t.id, .string (mkB (camC t.service)), .string (mkB (camC t.name)), .string (mkB (undL x1.name)), .string (mkB (undL x2.name))]) := by
        refine (?_ : _ = _)
        rw [List.take_add_one, ht, List.map_append, List.flatMap_append]
        have e1 : nmAt s.ms t.inp = x1.name := by unfold nmAt; rw [hip, Int.toNat_natCast, hx1]
        have e2 : nmAt s.ms t.out = x2.name := by unfold nmAt; rw [hop, Int.toNat_natCast, hx2]
        simp [rowL, rrow, e1, e2]
      obtain ⟨ad, c0, hsl, hcc, hrows⟩ := HHT.out
      rcases hrows with h0 | ⟨g, o, had, hg, hrow⟩
      · rw [h0] at ht; simp at ht
      have hta : ta = some ⟨g, o, none⟩ := by
        have := (Value.slice.inj hsl).1
        rw [this, had]
      subst hta
      have hbg := HB3.out.block g hg
      have c2 := cell_at HC3.out 2 rfl
      have e0 : w3.cell? ⟨g, o + k * 5, none⟩ = some (.int .i64 t.id) := by
        rw [World.cell?_of_block hbg]; have := hrow k t ht 0 _ rfl; simpa [Nat.add_assoc, hip, hop] using this
      have e1 : w3.cell? ⟨g, o + k * 5 + 1, none⟩ = some (.string (mkB t.service)) := by
        rw [World.cell?_of_block hbg]; have := hrow k t ht 1 _ rfl; simpa [Nat.add_assoc, hip, hop] using this
      have e2 : w3.cell? ⟨g, o + k * 5 + 2, none⟩ = some (.string (mkB t.name)) := by
        rw [World.cell?_of_block hbg]; have := hrow k t ht 2 _ rfl; simpa [Nat.add_assoc, hip, hop] using this
      have e3 : w3.cell? ⟨g, o + k * 5 + 3, none⟩ = some (.int .i64 (ip : Int)) := by
        rw [World.cell?_of_block hbg]; have := hrow k t ht 3 _ rfl; simpa [Nat.add_assoc, hip, hop] using this
      have e4 : w3.cell? ⟨g, o + k * 5 + 4, none⟩ = some (.int .i64 (op : Int)) := by
        rw [World.cell?_of_block hbg]; have := hrow k t ht 4 _ rfl; simpa [Nat.add_assoc, hip, hop] using this
      have hk0 : (0 : Int) ≤ (k : Int) := by omega
      have hk1 : (k : Int) < (nt : Int) := by omega
      have hwk : IntKind.i64.wrap ((k : Int) + 1) = (k : Int) + 1 := by rw [IntKind.wrap_i64]; omega
      have hbV : Below w3.heap.size w3 (w3.alloc (.cells #[.int .i64 t.id, .string (mkB t.service), .string (mkB t.name), .int .i64 (ip : Int), .int .i64 (op : Int)] 48)) := (Below.refl _ _).alloc (Nat.le_refl _) _
      have hV : (w3.alloc (.cells #[.int .i64 t.id, .string (mkB t.service), .string (mkB t.name), .int .i64 (ip : Int), .int .i64 (op : Int)] 48)).heap[w3.heap.size]? = some (.cells #[.int .i64 t.id, .string (mkB t.service), .string (mkB t.name), .int .i64 (ip : Int), .int .i64 (op : Int)] 48 (0, 0)) := alloc_heap_new _ _
      have hia : (ip : Int) < (nm : Int) := by omega
      have hoa : (op : Int) < (nm : Int) := by omega
      have hia0 : (0 : Int) ≤ (ip : Int) := by omega
      have hoa0 : (0 : Int) ≤ (op : Int) := by omega
      clear hrow hsl had hcc ht htm hbg hip hop hi0 hi1 ho0 ho1
      go_upto_region 5 with fail
      generalize (w3.alloc (.cells #[.int .i64 t.id, .string (mkB t.service), .string (mkB t.name), .int .i64 (ip : Int), .int .i64 (op : Int)] 48)) = V at *
      have hltV := blk_lt hV
      have hVs := hbV.size
      have HBV := Lib.hid (HB3.out.trans (hbV.mono HB3.out.size))
      have HCV := Lib.hid ((hbV.block _ (by omega)).trans HC3.out)
      have HZV := Lib.hid ((hbV.block _ (by omega)).trans HZ3.out)
      have HVV := Lib.hid hV
      clear hV hbV c2 e0 e1 e2 e3 e4
      have hS0 : (fun W => Below w.heap.size w W ∧ V.heap.size ≤ W.heap.size ∧ ∀ b, b < V.heap.size → b ≠ w.heap.size + 1 → W.heap[b]? = V.heap[b]?) V := ⟨HBV.out, Nat.le_refl _, fun _ _ _ => rfl⟩
      have HSB : Hid (∀ U U', (fun W => Below w.heap.size w W ∧ V.heap.size ≤ W.heap.size ∧ ∀ b, b < V.heap.size → b ≠ w.heap.size + 1 → W.heap[b]? = V.heap[b]?) U → Below U.heap.size U U' → (fun W => Below w.heap.size w W ∧ V.heap.size ≤ W.heap.size ∧ ∀ b, b < V.heap.size → b ≠ w.heap.size + 1 → W.heap[b]? = V.heap[b]?) U') := by
        refine (?_ : ∀ _ _, _)
        rintro U U' ⟨a1, a2, a3⟩ hb
        exact ⟨a1.trans (hb.mono a1.size), Nat.le_trans a2 hb.size, fun b h1 h2 => (hb.block b (by omega)).trans (a3 b h1 h2)⟩
      have s0 : ∀ W, (fun W => Below w.heap.size w W ∧ V.heap.size ≤ W.heap.size ∧ ∀ b, b < V.heap.size → b ≠ w.heap.size + 1 → W.heap[b]? = V.heap[b]?) W → W.cell? ⟨w.heap.size, 0, none⟩ = some (.slice ma nm mc) := fun W hW => cell_at ((hW.2.2 w.heap.size (by omega) (by omega)).trans HCV.out) 0 rfl
      have d0 : ∀ W, (fun W => Below w.heap.size w W ∧ V.heap.size ≤ W.heap.size ∧ ∀ b, b < V.heap.size → b ≠ w.heap.size + 1 → W.heap[b]? = V.heap[b]?) W → W.cell? ⟨w3.heap.size, 0, none⟩ = some (.int .i64 t.id) := fun W hW => cell_at ((hW.2.2 w3.heap.size hltV (by omega)).trans HVV.out) 0 rfl
      have d1 : ∀ W, (fun W => Below w.heap.size w W ∧ V.heap.size ≤ W.heap.size ∧ ∀ b, b < V.heap.size → b ≠ w.heap.size + 1 → W.heap[b]? = V.heap[b]?) W → W.cell? ⟨w3.heap.size, 1, none⟩ = some (.string (mkB t.service)) := fun W hW => cell_at ((hW.2.2 w3.heap.size hltV (by omega)).trans HVV.out) 1 rfl
      have d2 : ∀ W, (fun W => Below w.heap.size w W ∧ V.heap.size ≤ W.heap.size ∧ ∀ b, b < V.heap.size → b ≠ w.heap.size + 1 → W.heap[b]? = V.heap[b]?) W → W.cell? ⟨w3.heap.size, 2, none⟩ = some (.string (mkB t.name)) := fun W hW => cell_at ((hW.2.2 w3.heap.size hltV (by omega)).trans HVV.out) 2 rfl
      have d3 : ∀ W, (fun W => Below w.heap.size w W ∧ V.heap.size ≤ W.heap.size ∧ ∀ b, b < V.heap.size → b ≠ w.heap.size + 1 → W.heap[b]? = V.heap[b]?) W → W.cell? ⟨w3.heap.size, 3, none⟩ = some (.int .i64 (ip : Int)) := fun W hW => cell_at ((hW.2.2 w3.heap.size hltV (by omega)).trans HVV.out) 3 rfl
      have d4 : ∀ W, (fun W => Below w.heap.size w W ∧ V.heap.size ≤ W.heap.size ∧ ∀ b, b < V.heap.size → b ≠ w.heap.size + 1 → W.heap[b]? = V.heap[b]?) W → W.cell? ⟨w3.heap.size, 4, none⟩ = some (.int .i64 (op : Int)) := fun W hW => cell_at ((hW.2.2 w3.heap.size hltV (by omega)).trans HVV.out) 4 rfl
      obtain ⟨gm, om, cm, ka1, kc1, hsl1, hgm, _, _, _⟩ := HeldN.at HHM.out (fun _ _ => rfl) hx1
      have hma : ma = some ⟨gm, om, none⟩ := (Value.slice.inj hsl1).1
      subst hma
      have HM1 : Hid (∃ ka kc, ∀ W, (fun W => Below w.heap.size w W ∧ V.heap.size ≤ W.heap.size ∧ ∀ b, b < V.heap.size → b ≠ w.heap.size + 1 → W.heap[b]? = V.heap[b]?) W → W.cell? ⟨gm, om + ip * 2, none⟩ = some (.string (mkB x1.name)) ∧ W.cell? ⟨gm, om + ip * 2 + 1, none⟩ = some (.slice ka x1.fields.length kc)) := by
        refine (?_ : ∃ _ _, _)
        obtain ⟨gm', om', cm', ka, kc, hsl', hg', q0, q1, _⟩ := HeldN.at HHM.out (fun _ _ => rfl) hx1
        obtain ⟨rfl, rfl⟩ : gm = gm' ∧ om = om' := by
          have := (Value.slice.inj hsl').1
          simp only [Option.some.injEq, Addr.mk.injEq, and_true] at this
          exact this
        refine ⟨ka, kc, fun W hW => ?_⟩
        have hg2 : gm < w.heap.size := hg'
        have hb := hW.1.block gm hg2
        exact ⟨by rw [World.cell?_of_block hb]; exact q0, by rw [World.cell?_of_block hb]; exact q1⟩
      have HM2 : Hid (∃ ka kc, ∀ W, (fun W => Below w.heap.size w W ∧ V.heap.size ≤ W.heap.size ∧ ∀ b, b < V.heap.size → b ≠ w.heap.size + 1 → W.heap[b]? = V.heap[b]?) W → W.cell? ⟨gm, om + op * 2, none⟩ = some (.string (mkB x2.name)) ∧ W.cell? ⟨gm, om + op * 2 + 1, none⟩ = some (.slice ka x2.fields.length kc)) := by
        refine (?_ : ∃ _ _, _)
        obtain ⟨gm', om', cm', ka, kc, hsl', hg', q0, q1, _⟩ := HeldN.at HHM.out (fun _ _ => rfl) hx2
        obtain ⟨rfl, rfl⟩ : gm = gm' ∧ om = om' := by
          have := (Value.slice.inj hsl').1
          simp only [Option.some.injEq, Addr.mk.injEq, and_true] at this
          exact this
        refine ⟨ka, kc, fun W hW => ?_⟩
        have hg2 : gm < w.heap.size := hg'
        have hb := hW.1.block gm hg2
        exact ⟨by rw [World.cell?_of_block hb]; exact q0, by rw [World.cell?_of_block hb]; exact q1⟩
      obtain ⟨ka, kac, m1⟩ := HM1.out
      obtain ⟨kb, kbc, m2⟩ := HM2.out
      have g1 := fun W hW => (m1 W hW).1
      have g2 := fun W hW => (m1 W hW).2
      have g3 := fun W hW => (m2 W hW).1
      have g4 := fun W hW => (m2 W hW).2
      have HMV := Lib.hid (fun W (hW : (fun W => Below w.heap.size w W ∧ V.heap.size ≤ W.heap.size ∧ ∀ b, b < V.heap.size → b ≠ w.heap.size + 1 → W.heap[b]? = V.heap[b]?) W) => HM.out.below hW.1)
      clear m1 m2 HM1 HM2 hx1 hx2 hsl1
      have hS1 : (fun W => Below w.heap.size w W ∧ V.heap.size ≤ W.heap.size ∧ ∀ b, b < V.heap.size → b ≠ w.heap.size + 1 → W.heap[b]? = V.heap[b]?) V.drew := ⟨HBV.out.drew, Nat.le_refl _, fun _ _ _ => rfl⟩
      have hX0 : V.drew.heap[w.heap.size + 1]? = some (.cells cur 50 (0, 0)) := HZV.out
      clear hS0
      have hS0 := hS1
      clear hS1
      refine wp_region_held_drew (S := (fun W => Below w.heap.size w W ∧ V.heap.size ≤ W.heap.size ∧ ∀ b, b < V.heap.size → b ≠ w.heap.size + 1 → W.heap[b]? = V.heap[b]?)) (by kernel_rfl) hS0 (fun _ => ?_)
      refine T_on 0 (.slice (some ⟨w.heap.size + 1, 0, none⟩) nt nt) rfl (by kernel_rfl) (fun _ _ _ h => h) hS0 (fun W hW => by go_simp) ?_
      refine T_on 1 (.int .i64 (k : Int)) rfl (by kernel_rfl) (fun _ _ _ h => h) hS0 (fun W hW => by go_simp) ?_
      refine T_on 2 (.pointer (some ⟨w3.heap.size, 0, none⟩)) rfl (by kernel_rfl) (fun _ _ _ h => h) hS0 (fun W hW => by go_simp) ?_
      refine T_on 3 (.int .i64 t.id) rfl (by kernel_rfl) (fun _ _ _ h => h) hS0 (fun W hW => by have c0 := d0 W hW; go_simp) ?_
      refine T_on 4 (.pointer (some ⟨w3.heap.size, 1, none⟩)) rfl (by kernel_rfl) (fun _ _ _ h => h) hS0 (fun W hW => by go_simp) ?_
      refine T_on 5 (.string (mkB t.service)) rfl (by kernel_rfl) (fun _ _ _ h => h) hS0 (fun W hW => by have c1 := d1 W hW; go_simp) ?_
      refine T_on 7 (.pointer (some ⟨w3.heap.size, 2, none⟩)) rfl (by kernel_rfl) (fun _ _ _ h => h) hS0 (fun W hW => by go_simp) ?_
      refine T_on 8 (.string (mkB t.name)) rfl (by kernel_rfl) (fun _ _ _ h => h) hS0 (fun W hW => by have c2 := d2 W hW; go_simp) ?_
      refine T_on 10 (.pointer (some ⟨w.heap.size, 0, none⟩)) rfl (by kernel_rfl) (fun _ _ _ h => h) hS0 (fun W hW => by go_simp) ?_
      refine T_on 11 (.slice (some ⟨gm, om, none⟩) nm mc) rfl (by kernel_rfl) (fun _ _ _ h => h) hS0 (fun W hW => by have c0 := s0 W hW; go_simp) ?_
      refine T_on 12 (.pointer (some ⟨w3.heap.size, 3, none⟩)) rfl (by kernel_rfl) (fun _ _ _ h => h) hS0 (fun W hW => by go_simp) ?_
      refine T_on 13 (.int .i64 (ip : Int)) rfl (by kernel_rfl) (fun _ _ _ h => h) hS0 (fun W hW => by have c3 := d3 W hW; go_simp) ?_
      refine T_on 14 (.pointer (some ⟨gm, om + ip * 2, none⟩)) rfl (by kernel_rfl) (fun _ _ _ h => h) hS0 (fun W hW => by go_simp) ?_
      refine T_on 15 (.agg #[.string (mkB x1.name), .slice ka x1.fields.length kac]) rfl (by kernel_rfl) (fun _ _ _ h => h) hS0 (fun W hW => by have q0 := g1 W hW; have q1 := g2 W hW; go_simp) ?_
      refine T_on 17 (.pointer (some ⟨w.heap.size, 0, none⟩)) rfl (by kernel_rfl) (fun _ _ _ h => h) hS0 (fun W hW => by go_simp) ?_
      refine T_on 18 (.slice (some ⟨gm, om, none⟩) nm mc) rfl (by kernel_rfl) (fun _ _ _ h => h) hS0 (fun W hW => by have c0 := s0 W hW; go_simp) ?_
      refine T_on 19 (.pointer (some ⟨w3.heap.size, 4, none⟩)) rfl (by kernel_rfl) (fun _ _ _ h => h) hS0 (fun W hW => by go_simp) ?_
      refine T_on 20 (.int .i64 (op : Int)) rfl (by kernel_rfl) (fun _ _ _ h => h) hS0 (fun W hW => by have c4 := d4 W hW; go_simp) ?_
      refine T_on 21 (.pointer (some ⟨gm, om + op * 2, none⟩)) rfl (by kernel_rfl) (fun _ _ _ h => h) hS0 (fun W hW => by go_simp) ?_
      refine T_on 22 (.agg #[.string (mkB x2.name), .slice kb x2.fields.length kbc]) rfl (by kernel_rfl) (fun _ _ _ h => h) hS0 (fun W hW => by have q0 := g3 W hW; have q1 := g4 W hW; go_simp) ?_
      refine T_call 6 (by kernel_rfl) rfl (fun K hK => ?_)
      go_simp
      refine (camC_any t.service _ hft1).mono ?_
      rintro e U1 ⟨rfl, hb⟩
      have hS1 := HSB.out _ _ hS0 hb
      have hX1 := (hb.block _ (blk_lt hX0)).trans hX0
      clear hb hS0 hX0
      have hS0 := hS1
      have hX0 := hX1
      clear hS1 hX1
      dsimp only
      refine hK.out _ _ hS0 (fun _ => ?_)
      clear hK K
      refine T_call 9 (by kernel_rfl) rfl (fun K hK => ?_)
      go_simp
      refine (camC_any t.name _ hft2).mono ?_
      rintro e U2 ⟨rfl, hb⟩
      have hS1 := HSB.out _ _ hS0 hb
      have hX1 := (hb.block _ (blk_lt hX0)).trans hX0
      clear hb hS0 hX0
      have hS0 := hS1
      have hX0 := hX1
      clear hS1 hX1
      dsimp only
      refine hK.out _ _ hS0 (fun _ => ?_)
      clear hK K
      refine T_call 16 (by kernel_rfl) rfl (fun K hK => ?_)
      go_simp
      refine (messageStub_any x1.name ka x1.fields.length kac _ (HMV.out _ hS0) hl1).mono ?_
      rintro e U3 ⟨rfl, hb⟩
      have hS1 := HSB.out _ _ hS0 hb
      have hX1 := (hb.block _ (blk_lt hX0)).trans hX0
      clear hb hS0 hX0
      have hS0 := hS1
      have hX0 := hX1
      clear hS1 hX1
      dsimp only
      refine hK.out _ _ hS0 (fun _ => ?_)
      clear hK K
      refine T_call 23 (by kernel_rfl) rfl (fun K hK => ?_)
      go_simp
      refine (messageStub_any x2.name kb x2.fields.length kbc _ (HMV.out _ hS0) hl22).mono ?_
      rintro e U4 ⟨rfl, hb⟩
      have hS1 := HSB.out _ _ hS0 hb
      have hX1 := (hb.block _ (blk_lt hX0)).trans hX0
      clear hb hS0 hX0
      have hS0 := hS1
      have hX0 := hX1
      clear hS1 hX1
      dsimp only
      refine hK.out _ _ hS0 (fun _ => ?_)
      clear hK K
      refine T_on 24 (.agg #[.int .i64 t.id, .string (mkB (camC t.service)), .string (mkB (camC t.name)), .string (mkB (undL x1.name)), .string (mkB (undL x2.name))]) rfl (by kernel_rfl) (fun _ _ _ h => h) hS0 (fun W hW => by go_simp) ?_
      refine T_on 25 (.pointer (some ⟨w.heap.size + 1, k * 5, none⟩)) rfl (by kernel_rfl) (fun _ _ _ h => h) hS0 (fun W hW => by go_simp) ?_
      have hqc : k * 5 + 5 ≤ cur.size := by rw [hcs]; omega
      have hcell : ∀ i, i < 5 → ∃ z, U4.cell? ⟨w.heap.size + 1, k * 5 + i, none⟩ = some z := by
        intro i hi
        refine ⟨cur[k * 5 + i]'(by omega), ?_⟩
        simp only [World.cell?, hX0]
        exact Array.getElem?_eq_getElem (by omega)
      obtain ⟨p0, k0⟩ := hcell 0 (by omega)
      obtain ⟨p1, k1⟩ := hcell 1 (by omega)
      obtain ⟨p2, k2⟩ := hcell 2 (by omega)
      obtain ⟨p3, k3⟩ := hcell 3 (by omega)
      obtain ⟨p4, k4⟩ := hcell 4 (by omega)
      have k00 : U4.cell? ⟨w.heap.size + 1, k * 5, none⟩ = some p0 := k0
      clear k0
      have k0 := k00
      clear k00
      have kf0 := frozen_at hX0 (k * 5)
      have kf1 := frozen_at hX0 (k * 5 + 1)
      have kf2 := frozen_at hX0 (k * 5 + 2)
      have kf3 := frozen_at hX0 (k * 5 + 3)
      have kf4 := frozen_at hX0 (k * 5 + 4)
      obtain ⟨Q, cur', hQ, hQc, hQs, hQt, hQo, hQz, hQb⟩ := set5_in hX0 (k * 5) hqc (.int .i64 t.id) (.string (mkB (camC t.service))) (.string (mkB (camC t.name))) (.string (mkB (undL x1.name))) (.string (mkB (undL x2.name)))
      have HQ := Lib.hid hQ
      have HQC := Lib.hid hQc
      have HQT := Lib.hid hQt
      have HQS := Lib.hid (hQs.trans hcs)
      have hSQ : (fun W => Below w.heap.size w W ∧ V.heap.size ≤ W.heap.size ∧ ∀ b, b < V.heap.size → b ≠ w.heap.size + 1 → W.heap[b]? = V.heap[b]?) Q := ⟨hS0.1.trans (hQb.mono (by omega)), by rw [hQz]; exact hS0.2.1, fun b h1 h2 => (hQo b h2).trans (hS0.2.2 b h1 h2)⟩
      clear hQ hQc hQt hQs hQo hQz hQb hcell hqc
      refine T_call 26 (by kernel_rfl) rfl (fun K hK => ?_)
      clear hX0
      go_simp
      rw [HQ.out]
      refine hK.out _ _ hSQ (fun _ => ?_)
      clear hK K k0 k1 k2 k3 k4 kf0 kf1 kf2 kf3 kf4 hS0
      refine wpAnyH_done (by kernel_rfl) ?_ _
      go_simp
      have HBQ := Lib.hid hSQ.1
      have HCQ := Lib.hid ((hSQ.2.2 w.heap.size (by omega) (by omega)).trans HCV.out)
      have hlQ : w.heap.size + 2 ≤ Q.heap.size := Nat.le_trans (by omega) hSQ.2.1
      have HTQ : Hid (cur'.toList.take ((k + 1) * 5) = ((s.ts.take (k + 1)).map (rowL s.ms)).flatMap rrow) := by
        refine (?_ : _ = _)
        rw [HROW.out, ← HTK.out, ← HQT.out, Nat.add_mul]
      clear hSQ s0 d0 d1 d2 d3 d4 g1 g2 g3 g4 HQ HROW HTK
      go_wp2_with fail
      go_roundw
      case rel => exact ⟨k + 1, cur', by omega, by go_num, HBQ.out, hlQ, HCQ.out, HQC.out, HQS.out, HTQ.out⟩
      case measure => simp [intOf]; omega
    · obtain rfl : k = nt := by omega
      have HO : Hid (OwnRw w3 w.heap.size 50 (.slice (some ⟨w.heap.size + 1, 0, none⟩) k k) (rowsL s)) := by
        refine (?_ : OwnRw _ _ _ _ _)
        have hrl : (rowsL s).length = k := by unfold rowsL; rw [List.length_map, HNT.out]
        unfold OwnRw
        rw [hrl]
        have htk := HTK.out
        have etk : s.ts.take k = s.ts := List.take_of_length_le (by rw [HNT.out]; omega)
        rw [etk] at htk
        have hfl : ((rowsL s).flatMap rrow).length = k * 5 := by
          have h5 := congrArg List.length htk
          rw [List.length_take, Array.length_toList, hcs, Nat.min_self] at h5
          exact h5.symm
        exact ⟨hfl, .inr ⟨w.heap.size + 1, k, cur, rfl, by omega, HZ3.out, Nat.le_refl _, by unfold maxLen; omega, hcs, htk⟩⟩
      clear HTK
      go_wp2_with fail
      go_ret
      exact ⟨_, rfl, HO.out, HB3.out⟩
set_option maxHeartbeats 4000000 in
set_option maxRecDepth 20000 in
theorem rowsP_any (ma ea ta : Option Addr) (nm ne nt mc ec tc : Nat) (s : SC) (w : World) (hM : Mx w) (hnm : s.ms.length = nm) (hne : s.es.length = ne) (hnt : s.ts.length = nt) (hf : FitS s) (hin : FormS s → InT s) (hH : HeldSc w (fun b => b < w.heap.size) (.slice ma nm mc) (.slice ea ne ec) (.slice ta nt tc) s) :
    Calls Tryz.prog 12 #[.agg #[.slice ma nm mc, .slice ea ne ec, .slice ta nt tc]] w fun e w' => ∃ v l, e = .returned v ∧ OwnRw w' w.heap.size 50 v l ∧ (FormS s → l = rowsL s) ∧ (¬ FormS s → l = []) ∧ Below w.heap.size w w' := by
  obtain ⟨Y, hY, hC, hb, hYs⟩ := box_new w #[.slice ma nm mc, .slice ea ne ec, .slice ta nt tc] 26
  have HY := Lib.hid hY
  have HB := Lib.hid hb
  have hHY : HeldSc Y (fun b => b < Y.heap.size) (.slice ma nm mc) (.slice ea ne ec) (.slice ta nt tc) s := heldSc_mvS hH hb
  have hF := formP_any ma ea ta nm ne nt mc ec tc s Y hnm hne hnt hf hHY
  have hR := fun W (hW : Below Y.heap.size Y W) (hi : InT s) => rowsOf_any ma ea ta nm ne nt mc ec tc s W ((hM.below hb).below hW) hnm hne hnt hf hi (heldSc_mvS hHY hW)
  have HR := Lib.hid hR
  have HC := Lib.hid hC
  have c0 := cell_at hC 0 rfl
  have c1 := cell_at hC 1 rfl
  have c2 := cell_at hC 2 rfl
  clear hY hC hb hH hHY hR
  go_enter Tryz.func12, Tryz.ntmps12
  go_upto_region 1 with fail
  rw [HY.out]
  go_wp2_with fail
  refine hF.mono ?_
  rintro e w1 ⟨b, rfl, hbf, hb1⟩
  have HB1 := Lib.hid hb1
  have HBF := Lib.hid hbf
  have hC1 := (hb1.block _ (blk_lt HC.out)).trans HC.out
  have d0 := cell_at hC1 0 rfl
  have d1 := cell_at hC1 1 rfl
  have d2 := cell_at hC1 2 rfl
  clear c0 c1 c2 hb1 hbf hC1
  cases b
  case false =>
    have HN : Hid (¬ FormS s) := fun h => by have := HBF.out.2 h; cases this
    clear HBF
    go_wp2_with fail
    go_ret
    exact ⟨_, [], rfl, ownRw_nil _ _ _, fun h => absurd h HN.out, fun _ => rfl, HB.out.trans (HB1.out.mono HB.out.size)⟩
  case true =>
    have HN : Hid (FormS s) := HBF.out.1 rfl
    have hr := HR.out w1 HB1.out (hin HN.out)
    clear HBF
    go_wp2_with fail
    refine hr.mono ?_
    rintro e w2 ⟨v, rfl, hO, hb2⟩
    have HO := Lib.hid (ownRw_mono hO (HB.out.trans (HB1.out.mono HB.out.size)).size)
    have HB2 := Lib.hid ((HB.out.trans (HB1.out.mono HB.out.size)).trans (hb2.mono (HB.out.trans (HB1.out.mono HB.out.size)).size))
    clear hO hb2 hr
    go_wp2_with fail
    go_ret
    exact ⟨_, _, rfl, HO.out, fun _ => rfl, fun h => absurd HN.out h, HB2.out⟩
end Go.Proofs.YtkhnicppcbgdiaaGreatDoor
