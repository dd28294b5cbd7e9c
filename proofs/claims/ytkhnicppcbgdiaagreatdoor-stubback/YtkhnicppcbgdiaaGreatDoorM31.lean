/-
  The walk over the document's own Rows of a schema.
-/
import Derived.Test.YtkhnicppcbgdiaaGreatDoorM27
import Derived.Test.YtkhnicppcbgdiaaGreatDoorM29
import Derived.Test.YtkhnicppcbgdiaaGreatDoorM30
namespace Go.Proofs.YtkhnicppcbgdiaaGreatDoor
set_option linter.unusedVariables false
open Go.ChangeShapes Go.WideShapes Go.ChangeAt Go.RowKit

theorem camCR_any (l : List UInt8) (w : World) (hT : Tabs w) (h : l.length ≤ 100000) :
    Calls Tryz.prog 23 #[.string (mkB l)] w fun e w' => e = .returned (.string (mkB (camC l))) ∧ Below w.heap.size w w' :=
  camelR_any (mkB l) w hT (by rw [mkB_sz]; omega)
theorem rw_pushS {T t : TypeId} {base : Nat} {wx : World} {v : Value} {xs : List Rw} (ht : Tryz.prog.underlying t = some (.slice T)) (hin : (Tryz.prog.info? T).map (fun i => (i.zero, i.size, i.bytes)) = some (some zRw, 5, 72))
    (h : OwnRw wx base T v xs) (hb0 : base ≤ wx.heap.size) (r : Rw) (B : Nat) (hB : wx.heap[B]? = some (.cells (rrow r).toArray T (0, 0)))
    {ops : Array Oper} {o : Oper} {a : Act} {K : Act → World → Prop} {Q : Exit → Act → World → Prop} {E : Prop} (hgd : o.guard = none) (s' x' : Operand)
    (ho : o.op = .call { callee := .builtin .append, args := #[s', x'], argTypes := #[t, t] }) (hs : a.eval s' = v) (hx : a.eval x' = .slice (some ⟨B, 0, none⟩) 1 1) (hbd : xs.length ≤ 1000000)
    (hk : ∀ v' W, OwnRw W base T v' (xs ++ [r]) → Below base wx W → wx.grownBy W v.ownBlock → K (a.put o.dst v') W) :
    if Region.wanted o (yielded ops a.tmps) = true then Oper.wp Tryz.prog o a wx K Q else E := by
  refine row_pushS ht hin rfl (by decide) h hb0 (rrow r) rfl (rw_one r) B hB hgd s' x' ho hs hx (by unfold maxLen; omega) (by omega) ?_
  intro g cap W hown hg _ _
  refine hk _ W ?_ ((Below.refl _ _).grown hg hb0 fun b hv => (own_block h b hv).1) hg
  unfold OwnRw
  rw [List.length_append, List.flatMap_append]
  simpa using hown
set_option maxHeartbeats 32000000 in
set_option maxRecDepth 20000 in
theorem rowsR_any (ma ea ta : Option Addr) (nm ne nt mc ec tc : Nat) (s : SC) (w : World) (hT : Tabs w) (hnm : s.ms.length = nm) (hne : s.es.length = ne) (hnt : s.ts.length = nt) (hf : FitS s) (hin : FormS s → InT s) (hH : HeldSc w (fun b => b < w.heap.size) (.slice ma nm mc) (.slice ea ne ec) (.slice ta nt tc) s) :
    Calls Tryz.prog 13 #[.agg #[.slice ma nm mc, .slice ea ne ec, .slice ta nt tc]] w fun e w' => ∃ v l, e = .returned v ∧ OwnRw w' w.heap.size 62 v l ∧ (FormS s → l = rowsL s) ∧ (¬ FormS s → l = []) ∧ Below w.heap.size w w' := by
  obtain ⟨Y, hY, hC, hb, hYs⟩ := box_new w #[.slice ma nm mc, .slice ea ne ec, .slice ta nt tc] 26
  have HY := Lib.hid hY
  have HB := Lib.hid hb
  have HT := Lib.hid hT
  have HNM := Lib.hid hnm
  have HNT := Lib.hid hnt
  have HF := Lib.hid hf
  have hntl : nt ≤ 100000 := by rw [← hnt]; exact hf.2.2.2.1
  have HHM : Hid (HeldM w (fun b => b < w.heap.size) (.slice ma nm mc) s.ms) := hH.1
  have HHT : Hid (RowsIn w (fun b => b < w.heap.size) 5 tdrow (.slice ta nt tc) s.ts) := hH.2.2
  have hHY : HeldSc Y (fun b => b < Y.heap.size) (.slice ma nm mc) (.slice ea ne ec) (.slice ta nt tc) s := heldSc_mvS hH hb
  have hFo := formR_any ma ea ta nm ne nt mc ec tc s Y (tabs_below hT hb) hnm hne hnt hf hHY
  have HC := Lib.hid hC
  have HIN := Lib.hid hin
  have c0 := cell_at hC 0 rfl
  have c1 := cell_at hC 1 rfl
  have c2 := cell_at hC 2 rfl
  clear hY hC hb hH hHY hT hnm hne hnt hf hin
  go_enter Tryz.func13, Tryz.ntmps13
  go_upto_region 1 with fail
  rw [HY.out]
  go_wp2_with fail
  refine hFo.mono ?_
  rintro e w1 ⟨b, rfl, hbf, hb1⟩
  have HB1 := Lib.hid (HB.out.trans (hb1.mono HB.out.size))
  have HBF := Lib.hid hbf
  have HC1 := Lib.hid ((hb1.block _ (blk_lt HC.out)).trans HC.out)
  have hl1 : w.heap.size + 1 ≤ w1.heap.size := by have := hb1.size; omega
  clear c0 c1 c2 hb1 hbf hFo
  have d0 := cell_at HC1.out 0 rfl
  have d1 := cell_at HC1.out 1 rfl
  have d2 := cell_at HC1.out 2 rfl
  cases b
  case false =>
    have HN : Hid (¬ FormS s) := fun h => by have := HBF.out.2 h; cases this
    clear HBF
    go_wp2_with fail
    go_ret
    exact ⟨_, [], rfl, ownRw_nil _ _ _, fun h => absurd h HN.out, fun _ => rfl, HB1.out⟩
  case true =>
    have HN : Hid (FormS s) := HBF.out.1 rfl
    have HI : Hid (InT s) := HIN.out HN.out
    clear HBF HIN
    go_wp2_with fail
    clear d0 d1 d2
    go_loopw [3, 12] (fun u i wr => ∃ (k : Nat), k ≤ nt ∧ i = .int .i64 (k : Int) ∧ OwnRw wr (w.heap.size + 1) 62 u ((s.ts.take k).map (rowL s.ms)) ∧ Below w.heap.size w wr ∧ w.heap.size + 1 ≤ wr.heap.size ∧ wr.heap[w.heap.size]? = some (.cells #[.slice ma nm mc, .slice ea ne ec, .slice ta nt tc] 26 (0, 0))) (fun _ i _ => nt - (intOf i).toNat)
    case atStart => exact ⟨0, Nat.zero_le _, rfl, ownRw_nil _ _ _, HB1.out, hl1, HC1.out⟩
    case round =>
      generalize wr = w3 at *
      obtain ⟨k, hk, rfl, hO, hB, hl2, hcz⟩ := hrel
      have HO3 := Lib.hid hO
      have HB3 := Lib.hid hB
      have HC3 := Lib.hid hcz
      clear hO hB hcz HB1 HC1
      by_cases hkn : k < nt
      · obtain ⟨t, ht⟩ : ∃ t, s.ts[k]? = some t := ⟨_, List.getElem?_eq_getElem (by rw [HNT.out]; exact hkn)⟩
        have htm := List.mem_of_getElem? ht
        obtain ⟨hft1, hft2⟩ := HF.out.2.2.2.2 t htm
        obtain ⟨hi0, hi1, ho0, ho1⟩ := HI.out t htm
        rw [HNM.out] at hi1 ho1
        obtain ⟨ip, hip⟩ := Int.eq_ofNat_of_zero_le hi0
        obtain ⟨op, hop⟩ := Int.eq_ofNat_of_zero_le ho0
        obtain ⟨x1, hx1⟩ : ∃ x, s.ms[ip]? = some x := ⟨_, List.getElem?_eq_getElem (by rw [HNM.out]; omega)⟩
        obtain ⟨x2, hx2⟩ : ∃ x, s.ms[op]? = some x := ⟨_, List.getElem?_eq_getElem (by rw [HNM.out]; omega)⟩
        have hl11 := (HF.out.2.1 x1 (List.mem_of_getElem? hx1)).1
        have hl22 := (HF.out.2.1 x2 (List.mem_of_getElem? hx2)).1
        have HROW : Hid ((s.ts.take (k + 1)).map (rowL s.ms) = (s.ts.take k).map (rowL s.ms) ++ [⟨t.id, camC t.service, camC t.name, undL x1.name, undL x2.name⟩]) := by
          refine (?_ : _ = _)
          rw [List.take_add_one, ht, List.map_append]
          have e1 : nmAt s.ms t.inp = x1.name := by unfold nmAt; rw [hip, Int.toNat_natCast, hx1]
          have e2 : nmAt s.ms t.out = x2.name := by unfold nmAt; rw [hop, Int.toNat_natCast, hx2]
          simp [rowL, e1, e2]
        have hxl : ((s.ts.take k).map (rowL s.ms)).length ≤ 1000000 := by rw [List.length_map, List.length_take]; omega
        obtain ⟨ad, c0, hsl, hcc, hrows⟩ := HHT.out
        rcases hrows with h0 | ⟨g, o, had, hg, hrow⟩
        · rw [h0] at ht; simp at ht
        have hta : ta = some ⟨g, o, none⟩ := by
          have := (Value.slice.inj hsl).1
          rw [this, had]
        subst hta
        have hbg := HB3.out.block g hg
        have c2 := cell_at HC3.out 2 rfl
        have e0 : w3.cell? ⟨g, o + k * 5, none⟩ = some (.int .i64 t.id) := by
          rw [World.cell?_of_block hbg]; have := hrow k t ht 0 _ rfl; simpa [Nat.add_assoc, hip, hop] using this
        have e1 : w3.cell? ⟨g, o + k * 5 + 1, none⟩ = some (.string (mkB t.service)) := by
          rw [World.cell?_of_block hbg]; have := hrow k t ht 1 _ rfl; simpa [Nat.add_assoc, hip, hop] using this
        have e2 : w3.cell? ⟨g, o + k * 5 + 2, none⟩ = some (.string (mkB t.name)) := by
          rw [World.cell?_of_block hbg]; have := hrow k t ht 2 _ rfl; simpa [Nat.add_assoc, hip, hop] using this
        have e3 : w3.cell? ⟨g, o + k * 5 + 3, none⟩ = some (.int .i64 (ip : Int)) := by
          rw [World.cell?_of_block hbg]; have := hrow k t ht 3 _ rfl; simpa [Nat.add_assoc, hip, hop] using this
        have e4 : w3.cell? ⟨g, o + k * 5 + 4, none⟩ = some (.int .i64 (op : Int)) := by
          rw [World.cell?_of_block hbg]; have := hrow k t ht 4 _ rfl; simpa [Nat.add_assoc, hip, hop] using this
        have hk0 : (0 : Int) ≤ (k : Int) := by omega
        have hk1 : (k : Int) < (nt : Int) := by omega
        have hwk : IntKind.i64.wrap ((k : Int) + 1) = (k : Int) + 1 := by rw [IntKind.wrap_i64]; omega
        have hbV : Below w3.heap.size w3 (w3.alloc (.cells #[.int .i64 t.id, .string (mkB t.service), .string (mkB t.name), .int .i64 (ip : Int), .int .i64 (op : Int)] 48)) := (Below.refl _ _).alloc (Nat.le_refl _) _
        have hV : (w3.alloc (.cells #[.int .i64 t.id, .string (mkB t.service), .string (mkB t.name), .int .i64 (ip : Int), .int .i64 (op : Int)] 48)).heap[w3.heap.size]? = some (.cells #[.int .i64 t.id, .string (mkB t.service), .string (mkB t.name), .int .i64 (ip : Int), .int .i64 (op : Int)] 48 (0, 0)) := alloc_heap_new _ _
        have hia : (ip : Int) < (nm : Int) := by omega
        have hoa : (op : Int) < (nm : Int) := by omega
        have hia0 : (0 : Int) ≤ (ip : Int) := by omega
        have hoa0 : (0 : Int) ≤ (op : Int) := by omega
        clear hrow hsl had hcc ht htm hbg hip hop hi0 hi1 ho0 ho1
        go_upto_region 8 with fail
        generalize (w3.alloc (.cells #[.int .i64 t.id, .string (mkB t.service), .string (mkB t.name), .int .i64 (ip : Int), .int .i64 (op : Int)] 48)) = V at *
        have hltV := blk_lt hV
        have hVs := hbV.size
        have HBV := Lib.hid (HB3.out.trans (hbV.mono HB3.out.size))
        have HCV := Lib.hid ((hbV.block _ (by omega)).trans HC3.out)
        have HOV := Lib.hid (ownRw_old HO3.out hbV)
        have HVV := Lib.hid hV
        have HNB0 : Hid (u3.ownBlock ≠ some w.heap.size ∧ u3.ownBlock ≠ some w3.heap.size) := by
          refine (?_ : _ ∧ _)
          exact ⟨fun e => by have := (own_block HO3.out _ e).1; omega, fun e => by have := (own_block HO3.out _ e).2; omega⟩
        clear hV hbV c2 e0 e1 e2 e3 e4 HO3
        have hS0 : (fun W => Below w.heap.size w W ∧ V.heap.size ≤ W.heap.size ∧ ∀ b, b < V.heap.size → u3.ownBlock ≠ some b → W.heap[b]? = V.heap[b]?) V.drew := ⟨HBV.out.drew, Nat.le_refl _, fun _ _ _ => rfl⟩
        have hV0 : Below V.heap.size V V.drew := (Below.refl _ V).drew
        have HSB : Hid (∀ U U', (fun W => Below w.heap.size w W ∧ V.heap.size ≤ W.heap.size ∧ ∀ b, b < V.heap.size → u3.ownBlock ≠ some b → W.heap[b]? = V.heap[b]?) U → Below U.heap.size U U' → (fun W => Below w.heap.size w W ∧ V.heap.size ≤ W.heap.size ∧ ∀ b, b < V.heap.size → u3.ownBlock ≠ some b → W.heap[b]? = V.heap[b]?) U') := by
          refine (?_ : ∀ _ _, _)
          rintro U U' ⟨a1, a2, a3⟩ hb
          exact ⟨a1.trans (hb.mono a1.size), Nat.le_trans a2 hb.size, fun b h1 h2 => (hb.block b (by omega)).trans (a3 b h1 h2)⟩
        have HNB : u3.ownBlock ≠ some w.heap.size ∧ u3.ownBlock ≠ some w3.heap.size := HNB0.out
        have HNB1 := Lib.hid HNB.1
        have HNB2 := Lib.hid HNB.2
        clear HNB
        have s0 : ∀ W, (fun W => Below w.heap.size w W ∧ V.heap.size ≤ W.heap.size ∧ ∀ b, b < V.heap.size → u3.ownBlock ≠ some b → W.heap[b]? = V.heap[b]?) W → W.cell? ⟨w.heap.size, 0, none⟩ = some (.slice ma nm mc) := fun W hW => cell_at ((hW.2.2 w.heap.size (by omega) HNB1.out).trans HCV.out) 0 rfl
        have d0 : ∀ W, (fun W => Below w.heap.size w W ∧ V.heap.size ≤ W.heap.size ∧ ∀ b, b < V.heap.size → u3.ownBlock ≠ some b → W.heap[b]? = V.heap[b]?) W → W.cell? ⟨w3.heap.size, 0, none⟩ = some (.int .i64 t.id) := fun W hW => cell_at ((hW.2.2 w3.heap.size hltV HNB2.out).trans HVV.out) 0 rfl
        have d1 : ∀ W, (fun W => Below w.heap.size w W ∧ V.heap.size ≤ W.heap.size ∧ ∀ b, b < V.heap.size → u3.ownBlock ≠ some b → W.heap[b]? = V.heap[b]?) W → W.cell? ⟨w3.heap.size, 1, none⟩ = some (.string (mkB t.service)) := fun W hW => cell_at ((hW.2.2 w3.heap.size hltV HNB2.out).trans HVV.out) 1 rfl
        have d2 : ∀ W, (fun W => Below w.heap.size w W ∧ V.heap.size ≤ W.heap.size ∧ ∀ b, b < V.heap.size → u3.ownBlock ≠ some b → W.heap[b]? = V.heap[b]?) W → W.cell? ⟨w3.heap.size, 2, none⟩ = some (.string (mkB t.name)) := fun W hW => cell_at ((hW.2.2 w3.heap.size hltV HNB2.out).trans HVV.out) 2 rfl
        have d3 : ∀ W, (fun W => Below w.heap.size w W ∧ V.heap.size ≤ W.heap.size ∧ ∀ b, b < V.heap.size → u3.ownBlock ≠ some b → W.heap[b]? = V.heap[b]?) W → W.cell? ⟨w3.heap.size, 3, none⟩ = some (.int .i64 (ip : Int)) := fun W hW => cell_at ((hW.2.2 w3.heap.size hltV HNB2.out).trans HVV.out) 3 rfl
        have d4 : ∀ W, (fun W => Below w.heap.size w W ∧ V.heap.size ≤ W.heap.size ∧ ∀ b, b < V.heap.size → u3.ownBlock ≠ some b → W.heap[b]? = V.heap[b]?) W → W.cell? ⟨w3.heap.size, 4, none⟩ = some (.int .i64 (op : Int)) := fun W hW => cell_at ((hW.2.2 w3.heap.size hltV HNB2.out).trans HVV.out) 4 rfl
        obtain ⟨gm, om, cm, ka1, kc1, hsl1, hgm, _, _, _⟩ := HeldN.at HHM.out (fun _ _ => rfl) hx1
        have hma : ma = some ⟨gm, om, none⟩ := (Value.slice.inj hsl1).1
        subst hma
        have g1 : ∀ W, (fun W => Below w.heap.size w W ∧ V.heap.size ≤ W.heap.size ∧ ∀ b, b < V.heap.size → u3.ownBlock ≠ some b → W.heap[b]? = V.heap[b]?) W → W.cell? ⟨gm, om + ip * 2, none⟩ = some (.string (mkB x1.name)) := by
          obtain ⟨gm', om', cm', ka, kc, hsl', hg', q0, q1, _⟩ := HeldN.at HHM.out (fun _ _ => rfl) hx1
          obtain ⟨rfl, rfl⟩ : gm = gm' ∧ om = om' := by
            have := (Value.slice.inj hsl').1
            simp only [Option.some.injEq, Addr.mk.injEq, and_true] at this
            exact this
          intro W hW
          have hg2 : gm < w.heap.size := hg'
          have hb := hW.1.block gm hg2
          rw [World.cell?_of_block hb]; exact q0
        have g3 : ∀ W, (fun W => Below w.heap.size w W ∧ V.heap.size ≤ W.heap.size ∧ ∀ b, b < V.heap.size → u3.ownBlock ≠ some b → W.heap[b]? = V.heap[b]?) W → W.cell? ⟨gm, om + op * 2, none⟩ = some (.string (mkB x2.name)) := by
          obtain ⟨gm', om', cm', ka, kc, hsl', hg', q0, q1, _⟩ := HeldN.at HHM.out (fun _ _ => rfl) hx2
          obtain ⟨rfl, rfl⟩ : gm = gm' ∧ om = om' := by
            have := (Value.slice.inj hsl').1
            simp only [Option.some.injEq, Addr.mk.injEq, and_true] at this
            exact this
          intro W hW
          have hg2 : gm < w.heap.size := hg'
          have hb := hW.1.block gm hg2
          rw [World.cell?_of_block hb]; exact q0
        have HTV : Hid (∀ W, (fun W => Below w.heap.size w W ∧ V.heap.size ≤ W.heap.size ∧ ∀ b, b < V.heap.size → u3.ownBlock ≠ some b → W.heap[b]? = V.heap[b]?) W → Tabs W) := fun W hW => tabs_below HT.out hW.1
        clear hx1 hx2 hsl1
        refine wp_region_held_drew (S := (fun W => Below w.heap.size w W ∧ V.heap.size ≤ W.heap.size ∧ ∀ b, b < V.heap.size → u3.ownBlock ≠ some b → W.heap[b]? = V.heap[b]?)) (by kernel_rfl) hS0 (fun _ => ?_)
        refine T_on 0 u3 rfl (by kernel_rfl) (fun _ _ _ h => h) hS0 (fun W hW => by go_simp) ?_
        refine T_on 1 (.pointer (some ⟨w3.heap.size, 0, none⟩)) rfl (by kernel_rfl) (fun _ _ _ h => h) hS0 (fun W hW => by go_simp) ?_
        refine T_on 2 (.int .i64 t.id) rfl (by kernel_rfl) (fun _ _ _ h => h) hS0 (fun W hW => by have c0 := d0 W hW; go_simp) ?_
        refine T_on 3 (.pointer (some ⟨w3.heap.size, 1, none⟩)) rfl (by kernel_rfl) (fun _ _ _ h => h) hS0 (fun W hW => by go_simp) ?_
        refine T_on 4 (.string (mkB t.service)) rfl (by kernel_rfl) (fun _ _ _ h => h) hS0 (fun W hW => by have c1 := d1 W hW; go_simp) ?_
        refine T_on 6 (.pointer (some ⟨w3.heap.size, 2, none⟩)) rfl (by kernel_rfl) (fun _ _ _ h => h) hS0 (fun W hW => by go_simp) ?_
        refine T_on 7 (.string (mkB t.name)) rfl (by kernel_rfl) (fun _ _ _ h => h) hS0 (fun W hW => by have c2 := d2 W hW; go_simp) ?_
        refine T_on 9 (.pointer (some ⟨w.heap.size, 0, none⟩)) rfl (by kernel_rfl) (fun _ _ _ h => h) hS0 (fun W hW => by go_simp) ?_
        refine T_on 10 (.slice (some ⟨gm, om, none⟩) nm mc) rfl (by kernel_rfl) (fun _ _ _ h => h) hS0 (fun W hW => by have c0 := s0 W hW; go_simp) ?_
        refine T_on 11 (.pointer (some ⟨w3.heap.size, 3, none⟩)) rfl (by kernel_rfl) (fun _ _ _ h => h) hS0 (fun W hW => by go_simp) ?_
        refine T_on 12 (.int .i64 (ip : Int)) rfl (by kernel_rfl) (fun _ _ _ h => h) hS0 (fun W hW => by have c3 := d3 W hW; go_simp) ?_
        refine T_on 13 (.pointer (some ⟨gm, om + ip * 2, none⟩)) rfl (by kernel_rfl) (fun _ _ _ h => h) hS0 (fun W hW => by go_simp) ?_
        refine T_on 14 (.pointer (some ⟨gm, om + ip * 2, none⟩)) rfl (by kernel_rfl) (fun _ _ _ h => h) hS0 (fun W hW => by go_simp) ?_
        refine T_on 15 (.string (mkB x1.name)) rfl (by kernel_rfl) (fun _ _ _ h => h) hS0 (fun W hW => by have q0 := g1 W hW; go_simp) ?_
        refine T_on 17 (.pointer (some ⟨w.heap.size, 0, none⟩)) rfl (by kernel_rfl) (fun _ _ _ h => h) hS0 (fun W hW => by go_simp) ?_
        refine T_on 18 (.slice (some ⟨gm, om, none⟩) nm mc) rfl (by kernel_rfl) (fun _ _ _ h => h) hS0 (fun W hW => by have c0 := s0 W hW; go_simp) ?_
        refine T_on 19 (.pointer (some ⟨w3.heap.size, 4, none⟩)) rfl (by kernel_rfl) (fun _ _ _ h => h) hS0 (fun W hW => by go_simp) ?_
        refine T_on 20 (.int .i64 (op : Int)) rfl (by kernel_rfl) (fun _ _ _ h => h) hS0 (fun W hW => by have c4 := d4 W hW; go_simp) ?_
        refine T_on 21 (.pointer (some ⟨gm, om + op * 2, none⟩)) rfl (by kernel_rfl) (fun _ _ _ h => h) hS0 (fun W hW => by go_simp) ?_
        refine T_on 22 (.pointer (some ⟨gm, om + op * 2, none⟩)) rfl (by kernel_rfl) (fun _ _ _ h => h) hS0 (fun W hW => by go_simp) ?_
        refine T_on 23 (.string (mkB x2.name)) rfl (by kernel_rfl) (fun _ _ _ h => h) hS0 (fun W hW => by have q0 := g3 W hW; go_simp) ?_
        refine T_call 5 (by kernel_rfl) rfl (fun K hK => ?_)
        go_simp
        refine (camCR_any t.service _ (HTV.out _ hS0) hft1).mono ?_
        rintro e U1 ⟨rfl, hb⟩
        have hS1 : (fun W => Below w.heap.size w W ∧ V.heap.size ≤ W.heap.size ∧ ∀ b, b < V.heap.size → u3.ownBlock ≠ some b → W.heap[b]? = V.heap[b]?) U1 := HSB.out _ _ hS0 hb
        have hV1 : Below V.heap.size V U1 := hV0.trans (hb.mono hV0.size)
        clear hb hS0 hV0
        have hS0 := hS1
        have hV0 := hV1
        clear hS1 hV1
        dsimp only
        refine hK.out _ _ hS0 (fun _ => ?_)
        clear hK K
        refine T_call 8 (by kernel_rfl) rfl (fun K hK => ?_)
        go_simp
        refine (camCR_any t.name _ (HTV.out _ hS0) hft2).mono ?_
        rintro e U2 ⟨rfl, hb⟩
        have hS1 : (fun W => Below w.heap.size w W ∧ V.heap.size ≤ W.heap.size ∧ ∀ b, b < V.heap.size → u3.ownBlock ≠ some b → W.heap[b]? = V.heap[b]?) U2 := HSB.out _ _ hS0 hb
        have hV1 : Below V.heap.size V U2 := hV0.trans (hb.mono hV0.size)
        clear hb hS0 hV0
        have hS0 := hS1
        have hV0 := hV1
        clear hS1 hV1
        dsimp only
        refine hK.out _ _ hS0 (fun _ => ?_)
        clear hK K
        refine T_call 16 (by kernel_rfl) rfl (fun K hK => ?_)
        go_simp
        refine (underR_any x1.name _ hl11).mono ?_
        rintro e U3 ⟨rfl, hb⟩
        have hS1 : (fun W => Below w.heap.size w W ∧ V.heap.size ≤ W.heap.size ∧ ∀ b, b < V.heap.size → u3.ownBlock ≠ some b → W.heap[b]? = V.heap[b]?) U3 := HSB.out _ _ hS0 hb
        have hV1 : Below V.heap.size V U3 := hV0.trans (hb.mono hV0.size)
        clear hb hS0 hV0
        have hS0 := hS1
        have hV0 := hV1
        clear hS1 hV1
        dsimp only
        refine hK.out _ _ hS0 (fun _ => ?_)
        clear hK K
        refine T_call 24 (by kernel_rfl) rfl (fun K hK => ?_)
        go_simp
        refine (underR_any x2.name _ hl22).mono ?_
        rintro e U4 ⟨rfl, hb⟩
        have hS1 : (fun W => Below w.heap.size w W ∧ V.heap.size ≤ W.heap.size ∧ ∀ b, b < V.heap.size → u3.ownBlock ≠ some b → W.heap[b]? = V.heap[b]?) U4 := HSB.out _ _ hS0 hb
        have hV1 : Below V.heap.size V U4 := hV0.trans (hb.mono hV0.size)
        clear hb hS0 hV0
        have hS0 := hS1
        have hV0 := hV1
        clear hS1 hV1
        dsimp only
        refine hK.out _ _ hS0 (fun _ => ?_)
        clear hK K
        refine T_on 25 (.agg #[.int .i64 t.id, .string (mkB (camC t.service)), .string (mkB (camC t.name)), .string (mkB (undL x1.name)), .string (mkB (undL x2.name))]) rfl (by kernel_rfl) (fun _ _ _ h => h) hS0 (fun W hW => by go_simp) ?_
        refine T_call 26 (by kernel_rfl) rfl (fun K hK => ?_)
        go_simp
        have hX : (U4.alloc (.cells #[.int .i64 t.id, .string (mkB (camC t.service)), .string (mkB (camC t.name)), .string (mkB (undL x1.name)), .string (mkB (undL x2.name))] 62)).heap[U4.heap.size]? = some (.cells (rrow ⟨t.id, camC t.service, camC t.name, undL x1.name, undL x2.name⟩).toArray 62 (0, 0)) := alloc_heap_new _ _
        have hbX : Below U4.heap.size U4 (U4.alloc (.cells #[.int .i64 t.id, .string (mkB (camC t.service)), .string (mkB (camC t.name)), .string (mkB (undL x1.name)), .string (mkB (undL x2.name))] 62)) := (Below.refl _ U4).alloc (Nat.le_refl _) _
        have hS1 : (fun W => Below w.heap.size w W ∧ V.heap.size ≤ W.heap.size ∧ ∀ b, b < V.heap.size → u3.ownBlock ≠ some b → W.heap[b]? = V.heap[b]?) (U4.alloc (.cells #[.int .i64 t.id, .string (mkB (camC t.service)), .string (mkB (camC t.name)), .string (mkB (undL x1.name)), .string (mkB (undL x2.name))] 62)) := HSB.out _ _ hS0 hbX
        refine hK.out _ _ hS1 (fun _ => ?_)
        clear hK K
        generalize (U4.alloc (.cells #[.int .i64 t.id, .string (mkB (camC t.service)), .string (mkB (camC t.name)), .string (mkB (undL x1.name)), .string (mkB (undL x2.name))] 62)) = X0 at *
        have HOX := Lib.hid (ownRw_old HOV.out (hV0.trans (hbX.mono hV0.size)))
        clear hV0
        clear hS0
        have hS0 := hS1
        clear hS1 hbX
        refine T_call 27 (by kernel_rfl) rfl (fun K hK => ?_)
        refine rw_pushS Tryz.underlying33 infoRwR HOX.out (by have := hS0.2.1; omega) _ U4.heap.size hX rfl (.tmp 20) (.tmp 46) rfl rfl rfl hxl ?_
        intro v5 X1 hown5 hb5 hg5
        rw [← HROW.out] at hown5
        have hS1 : (fun W => Below w.heap.size w W ∧ V.heap.size ≤ W.heap.size ∧ ∀ b, b < V.heap.size → u3.ownBlock ≠ some b → W.heap[b]? = V.heap[b]?) X1 := ⟨hS0.1.trans (hb5.mono (Nat.le_succ _)), Nat.le_trans hS0.2.1 hg5.size, fun b h1 h2 => (hg5.block b (by have := hS0.2.1; omega) (Ne.symm h2)).trans (hS0.2.2 b h1 h2)⟩
        refine hK.out _ _ hS1 (fun _ => ?_)
        clear hK K
        clear hS0
        have hS0 := hS1
        clear hS1 hX
        refine T_on 28 v5 rfl (by kernel_rfl) (fun _ _ _ h => h) hS0 (fun W hW => by go_simp) ?_
        refine wpAnyH_done (by kernel_rfl) ?_ _
        go_simp
        have HBQ := Lib.hid hS0.1
        have HCQ := Lib.hid ((hS0.2.2 w.heap.size (by omega) HNB1.out).trans HCV.out)
        have hlQ : w.heap.size + 1 ≤ X1.heap.size := Nat.le_trans (by omega) hS0.2.1
        have HOQ := Lib.hid hown5
        clear hS0 s0 d0 d1 d2 d3 d4 g1 g3 HROW HOX hown5 hb5 hg5
        go_wp2_with fail
        go_roundw
        case rel => exact ⟨k + 1, by omega, by go_num, HOQ.out, HBQ.out, hlQ, HCQ.out⟩
        case measure => simp [intOf]; omega
      · obtain rfl : k = nt := by omega
        have hO2 := HO3.out
        rw [List.take_of_length_le (by rw [HNT.out]; omega)] at hO2
        have HOX := Lib.hid (ownRw_mono hO2 (Nat.le_succ w.heap.size))
        clear hO2 HO3
        go_wp2_with fail
        go_ret
        exact ⟨_, _, rfl, HOX.out, fun _ => rfl, fun h => absurd HN.out h, HB3.out⟩
end Go.Proofs.YtkhnicppcbgdiaaGreatDoor
