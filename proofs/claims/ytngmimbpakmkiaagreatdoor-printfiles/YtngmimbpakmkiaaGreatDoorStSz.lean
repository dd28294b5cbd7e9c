/-
  The walks over the program's own stripFields, stripValues and stripMethods.
-/
import Derived.Test.YtngmimbpakmkiaaGreatDoorDpQz
import Derived.Test.YtngmimbpakmkiaaGreatDoorDvWz
import Derived.Test.YtngmimbpakmkiaaGreatDoorGmA
namespace Go.Proofs.YtngmimbpakmkiaaGreatDoor
set_option linter.unusedVariables false
open Go.ChangeShapes Go.WideShapes Go.ChangeAt Go.RowKit

theorem own_at {w : World} {base : Nat} {E : TypeId} {k g n cap : Nat} {xs : List Value} (h : w.ownsRow base E k (.slice (some ⟨g, 0, none⟩) n cap) n xs) (j : Nat) (u : Value) (hj : xs[j]? = some u) : w.cell? ⟨g, j, none⟩ = some u ∧ w.frozen? ⟨g, j, none⟩ = false := by
  obtain ⟨h1, ⟨h2, _⟩ | ⟨g', cap', cur, hv, hg, hh, h3, h4, h5, h6⟩⟩ := h
  · cases h2
  · simp only [Value.slice.injEq, Option.some.injEq, Addr.mk.injEq, and_true, true_and] at hv
    obtain ⟨rfl, rfl⟩ := hv
    have hjl := (List.getElem?_eq_some_iff.1 hj).1
    rw [← h6, List.getElem?_take, if_pos (by omega)] at hj
    refine ⟨?_, by simp [World.frozen?, hh]⟩
    simp only [World.cell?, hh]
    simpa using hj
theorem own_some {w : World} {base : Nat} {E : TypeId} {k g n cap : Nat} {xs : List Value} (h : w.ownsRow base E k (.slice (some ⟨g, 0, none⟩) n cap) n xs) (j i : Nat) (hj : j < n) (hi : i < k) : ∃ u, xs[j * k + i]? = some u := by
  have hl := h.1
  have : j * k + i < xs.length := by
    have h2 : (j + 1) * k ≤ n * k := Nat.mul_le_mul_right k hj
    rw [Nat.succ_mul] at h2
    omega
  exact ⟨_, List.getElem?_eq_getElem this⟩
theorem own_grown {w w' : World} {base : Nat} {E : TypeId} {k g n cap : Nat} {xs : List Value} (h : w.ownsRow base E k (.slice (some ⟨g, 0, none⟩) n cap) n xs) (hb : w'.heap[g]? = w.heap[g]?) : w'.ownsRow base E k (.slice (some ⟨g, 0, none⟩) n cap) n xs :=
  own_keep h fun b hb' => by
    have e : g = b := by simpa [Value.ownBlock] using hb'
    subst e; exact hb
theorem row_other (k j q i p : Nat) (hi : i < k) (hp : p < k) (hj : j ≠ q) : j * k + i ≠ q * k + p := by
  intro e
  rcases Nat.lt_or_gt_of_ne hj with h | h
  · have := Nat.mul_le_mul_right k (show j + 1 ≤ q from h); rw [Nat.succ_mul] at this; omega
  · have := Nat.mul_le_mul_right k (show q + 1 ≤ j from h); rw [Nat.succ_mul] at this; omega
theorem cloneB_any (s : ByteArray) (w : World) (hs : s.size ≤ 281474976710656) :
    Calls Tryz.prog 25 #[.string s] w fun e w' => e = .returned (.string s) ∧ Below w.heap.size w w' := by
  have h := stringslite_Clone s w hs
  go_enter Tryz.func25, Tryz.ntmps25
  go_wp2_with fail
  refine h.mono ?_
  rintro e w1 ⟨rfl, hb⟩
  go_wp2_with fail
  go_ret
  exact ⟨rfl, hb⟩
set_option maxHeartbeats 16000000 in
set_option maxRecDepth 20000 in
theorem stF_any {S : Nat → Prop} (v : Value) (xs : List Fd) (w : World) (h1 : RowsIn w S 6 frow v xs) (hS : ∀ b, S b → b < w.heap.size) (hl : xs.length ≤ 100000) (ht : ∀ x ∈ xs, x.type.length ≤ 200000000 ∧ x.name.length ≤ 200000000) :
    Calls Tryz.prog 26 #[v] w fun e w' => e = .returned (.slice (some ⟨w.heap.size, 0, none⟩) xs.length xs.length) ∧ RowsIn w' (fun b => b = w.heap.size) 6 frow (.slice (some ⟨w.heap.size, 0, none⟩) xs.length xs.length) (xs.map sF) ∧ Below w.heap.size w w' ∧ w.heap.size < w'.heap.size := by
  obtain ⟨ad1, c1, rfl, hc1, H1⟩ := h1
  have Hf1 := Lib.hid H1
  have HT := Lib.hid ht
  obtain ⟨n, hn⟩ : ∃ n, xs.length = n := ⟨_, rfl⟩
  have HN := Lib.hid hn
  rw [hn] at hc1 hl ⊢
  clear H1 ht hn
  obtain ⟨i0, hi0, hz0, hz1, hz2⟩ := info_parts infoFdD
  have hby : i0.bytes * n ≤ 281474976710656 := by rw [hz2]; have : 64 * n ≤ 64 * 100000 := Nat.mul_le_mul_left 64 hl; omega
  go_enter Tryz.func26, Tryz.ntmps26
  go_wp2_with (refine wpList_make_full _ rfl _ _ 42 rfl w.heap.size 48 i0 _ 6 Tryz.underlying42 hi0 hz0 hz1 .i64 .i64 _ _ n rfl rfl rfl rfl hby (by unfold maxLen; omega) (Nat.le_refl _) ?_)
  intro w1 hown hg1
  have HOW := Lib.hid hown
  have HB1 : Hid (Below w.heap.size w w1) := ⟨hg1.os, hg1.tape, hg1.output, hg1.size, fun b hb => hg1.block b hb (by simp)⟩
  clear hown hg1 hi0 hz0 hz1 hz2 hby
  go_wp2_with fail
  go_loopw [11] (fun kk wr => ∃ (q : Nat) (L : List Value), kk = .int .i64 (q : Int) ∧ q ≤ n ∧ Below w.heap.size w wr ∧ wr.ownsRow w.heap.size 48 6 (.slice (some ⟨w.heap.size, 0, none⟩) n n) n L ∧ ∀ (j : Nat) (x : Fd), j < q → xs[j]? = some x → ∀ (i : Nat) (u : Value), (frow (sF x))[i]? = some u → L[j * 6 + i]? = some u) (fun kk _ => n - (intOf kk).toNat)
  case atStart => exact ⟨0, _, rfl, by omega, HB1.out, HOW.out, fun j x hj => absurd hj (Nat.not_lt_zero _)⟩
  case round =>
    obtain ⟨q, L, rfl, hq, hbq, hown, hrows⟩ := hrel
    have HBQ := Lib.hid hbq
    have HOW := Lib.hid hown
    have HRO := Lib.hid hrows
    have hszq := hbq.size
    have hgs : w.heap.size < wr.heap.size := by
      obtain ⟨_, ⟨h2, _⟩ | ⟨g', cap', cur, hv, hg, hh, _⟩⟩ := hown
      · cases h2
      · simp only [Value.slice.injEq, Option.some.injEq, Addr.mk.injEq, and_true, true_and] at hv
        obtain ⟨rfl, _⟩ := hv
        exact (Array.getElem?_eq_some_iff.1 hh).1
    clear hbq hown hrows
    by_cases hqn : q < n
    · obtain ⟨x, hx⟩ : ∃ x, xs[q]? = some x := ⟨_, List.getElem?_eq_getElem (by have := HN.out; omega)⟩
      rcases Hf1.out with h0 | ⟨g3, o3, rfl, hg3, hk3⟩
      · rw [h0] at hx; simp at hx
      have b3 := HBQ.out.block g3 (hS g3 hg3)
      have hxt := HT.out x (List.mem_of_getElem? hx)
      have e3_0 : wr.cell? ⟨g3, o3 + q * 6, none⟩ = some (.bool x.rep) := by
        rw [World.cell?_of_block b3]
        have := hk3 q x hx 0 _ rfl
        simpa [Nat.add_assoc] using this
      have e3_1 : wr.cell? ⟨g3, o3 + q * 6 + 1, none⟩ = some (.string (mkB x.type)) := by
        rw [World.cell?_of_block b3]
        have := hk3 q x hx 1 _ rfl
        simpa [Nat.add_assoc] using this
      have e3_2 : wr.cell? ⟨g3, o3 + q * 6 + 2, none⟩ = some (.string (mkB x.name)) := by
        rw [World.cell?_of_block b3]
        have := hk3 q x hx 2 _ rfl
        simpa [Nat.add_assoc] using this
      have e3_3 : wr.cell? ⟨g3, o3 + q * 6 + 3, none⟩ = some (.int .i64 x.num) := by
        rw [World.cell?_of_block b3]
        have := hk3 q x hx 3 _ rfl
        simpa [Nat.add_assoc] using this
      have e3_4 : wr.cell? ⟨g3, o3 + q * 6 + 4, none⟩ = some (.int .i64 x.line) := by
        rw [World.cell?_of_block b3]
        have := hk3 q x hx 4 _ rfl
        simpa [Nat.add_assoc] using this
      have e3_5 : wr.cell? ⟨g3, o3 + q * 6 + 5, none⟩ = some (.int .i64 x.col) := by
        rw [World.cell?_of_block b3]
        have := hk3 q x hx 5 _ rfl
        simpa [Nat.add_assoc] using this
      have hC_type := fun W => cloneB_any (mkB x.type) W (by rw [mkB_len]; have := hxt.1; omega)
      have hC_name := fun W => cloneB_any (mkB x.name) W (by rw [mkB_len]; have := hxt.2; omega)
      have hq0 : (0 : Int) ≤ (q : Int) := by omega
      have hq1 : (q : Int) < (n : Int) := by omega
      have hwq : IntKind.i64.wrap ((q : Int) + 1) = (q : Int) + 1 := by rw [IntKind.wrap_i64]; omega
      have HXX := Lib.hid hx
      have hnw := alloc_heap_new wr (.cells #[.bool x.rep, .string (mkB x.type), .string (mkB x.name), .int .i64 x.num, .int .i64 x.line, .int .i64 x.col] 48)
      have HOX : Hid ((wr.alloc (.cells #[.bool x.rep, .string (mkB x.type), .string (mkB x.name), .int .i64 x.num, .int .i64 x.line, .int .i64 x.col] 48)).ownsRow w.heap.size 48 6 (.slice (some ⟨w.heap.size, 0, none⟩) n n) n L) := own_grown HOW.out (alloc_heap_old _ _ _ hgs)
      have HBX := Lib.hid (HBQ.out.alloc hszq (.cells #[.bool x.rep, .string (mkB x.type), .string (mkB x.name), .int .i64 x.num, .int .i64 x.line, .int .i64 x.col] 48))
      have hszX : (wr.alloc (.cells #[.bool x.rep, .string (mkB x.type), .string (mkB x.name), .int .i64 x.num, .int .i64 x.line, .int .i64 x.col] 48)).heap.size = wr.heap.size + 1 := by simp
      clear hk3 b3 Hf1 hx hxt
      go_upto_region 5 with fail
      clear e3_0 e3_1 e3_2 e3_3 e3_4 e3_5
      generalize wr.alloc (.cells #[.bool x.rep, .string (mkB x.type), .string (mkB x.name), .int .i64 x.num, .int .i64 x.line, .int .i64 x.col] 48) = X at *
      obtain ⟨D, hD⟩ : ∃ D, wr.heap.size = D := ⟨_, rfl⟩
      rw [hD] at hnw hszX hgs ⊢
      obtain ⟨z0, hz0⟩ := own_some HOX.out q 0 hqn (by decide)
      obtain ⟨z1, hz1⟩ := own_some HOX.out q 1 hqn (by decide)
      obtain ⟨z2, hz2⟩ := own_some HOX.out q 2 hqn (by decide)
      obtain ⟨z3, hz3⟩ := own_some HOX.out q 3 hqn (by decide)
      obtain ⟨z4, hz4⟩ := own_some HOX.out q 4 hqn (by decide)
      obtain ⟨z5, hz5⟩ := own_some HOX.out q 5 hqn (by decide)
      have k0 : ∀ W, (Below w.heap.size w W ∧ W.heap[D]? = X.heap[D]?) → W.cell? ⟨D, 0, none⟩ = some (.bool x.rep) := fun W hW => by
        have := hW.2.trans hnw
        simp [World.cell?, this]
      have k1 : ∀ W, (Below w.heap.size w W ∧ W.heap[D]? = X.heap[D]?) → W.cell? ⟨D, 1, none⟩ = some (.string (mkB x.type)) := fun W hW => by
        have := hW.2.trans hnw
        simp [World.cell?, this]
      have k2 : ∀ W, (Below w.heap.size w W ∧ W.heap[D]? = X.heap[D]?) → W.cell? ⟨D, 2, none⟩ = some (.string (mkB x.name)) := fun W hW => by
        have := hW.2.trans hnw
        simp [World.cell?, this]
      have k3 : ∀ W, (Below w.heap.size w W ∧ W.heap[D]? = X.heap[D]?) → W.cell? ⟨D, 3, none⟩ = some (.int .i64 x.num) := fun W hW => by
        have := hW.2.trans hnw
        simp [World.cell?, this]
      have HCF : Hid (∀ W, Below X.heap.size X W → (W.cell? ⟨w.heap.size, q * 6, none⟩ = some z0 ∧ W.frozen? ⟨w.heap.size, q * 6, none⟩ = false) ∧ (W.cell? ⟨w.heap.size, q * 6 + 1, none⟩ = some z1 ∧ W.frozen? ⟨w.heap.size, q * 6 + 1, none⟩ = false) ∧ (W.cell? ⟨w.heap.size, q * 6 + 2, none⟩ = some z2 ∧ W.frozen? ⟨w.heap.size, q * 6 + 2, none⟩ = false) ∧ (W.cell? ⟨w.heap.size, q * 6 + 3, none⟩ = some z3 ∧ W.frozen? ⟨w.heap.size, q * 6 + 3, none⟩ = false) ∧ (W.cell? ⟨w.heap.size, q * 6 + 4, none⟩ = some z4 ∧ W.frozen? ⟨w.heap.size, q * 6 + 4, none⟩ = false) ∧ (W.cell? ⟨w.heap.size, q * 6 + 5, none⟩ = some z5 ∧ W.frozen? ⟨w.heap.size, q * 6 + 5, none⟩ = false)) := fun W hW => ⟨⟨by rw [hW.cell (show w.heap.size < X.heap.size by omega)]; exact (own_at HOX.out _ _ hz0).1, by rw [hW.frozen (show w.heap.size < X.heap.size by omega)]; exact (own_at HOX.out _ _ hz0).2⟩, ⟨by rw [hW.cell (show w.heap.size < X.heap.size by omega)]; exact (own_at HOX.out _ _ hz1).1, by rw [hW.frozen (show w.heap.size < X.heap.size by omega)]; exact (own_at HOX.out _ _ hz1).2⟩, ⟨by rw [hW.cell (show w.heap.size < X.heap.size by omega)]; exact (own_at HOX.out _ _ hz2).1, by rw [hW.frozen (show w.heap.size < X.heap.size by omega)]; exact (own_at HOX.out _ _ hz2).2⟩, ⟨by rw [hW.cell (show w.heap.size < X.heap.size by omega)]; exact (own_at HOX.out _ _ hz3).1, by rw [hW.frozen (show w.heap.size < X.heap.size by omega)]; exact (own_at HOX.out _ _ hz3).2⟩, ⟨by rw [hW.cell (show w.heap.size < X.heap.size by omega)]; exact (own_at HOX.out _ _ hz4).1, by rw [hW.frozen (show w.heap.size < X.heap.size by omega)]; exact (own_at HOX.out _ _ hz4).2⟩, ⟨by rw [hW.cell (show w.heap.size < X.heap.size by omega)]; exact (own_at HOX.out _ _ hz5).1, by rw [hW.frozen (show w.heap.size < X.heap.size by omega)]; exact (own_at HOX.out _ _ hz5).2⟩⟩
      have hSb : ∀ W, Below X.heap.size X W → (Below w.heap.size w W ∧ W.heap[D]? = X.heap[D]?) := fun W hW => ⟨HBX.out.trans (hW.mono HBX.out.size), hW.block D (by omega)⟩
      have hSt : ∀ (W : World) (u0 u1 u2 u3 u4 u5 : Value), (Below w.heap.size w W ∧ W.heap[D]? = X.heap[D]?) → (Below w.heap.size w ((((((W.setCell ⟨w.heap.size, q * 6, none⟩ u0).setCell ⟨w.heap.size, q * 6 + 1, none⟩ u1).setCell ⟨w.heap.size, q * 6 + 2, none⟩ u2).setCell ⟨w.heap.size, q * 6 + 3, none⟩ u3).setCell ⟨w.heap.size, q * 6 + 4, none⟩ u4).setCell ⟨w.heap.size, q * 6 + 5, none⟩ u5) ∧ ((((((W.setCell ⟨w.heap.size, q * 6, none⟩ u0).setCell ⟨w.heap.size, q * 6 + 1, none⟩ u1).setCell ⟨w.heap.size, q * 6 + 2, none⟩ u2).setCell ⟨w.heap.size, q * 6 + 3, none⟩ u3).setCell ⟨w.heap.size, q * 6 + 4, none⟩ u4).setCell ⟨w.heap.size, q * 6 + 5, none⟩ u5).heap[D]? = X.heap[D]?) := fun W u0 u1 u2 u3 u4 u5 hW => ⟨((((((hW.1.setCell (p := ⟨w.heap.size, _, none⟩) (Nat.le_refl _) _).setCell (p := ⟨w.heap.size, _, none⟩) (Nat.le_refl _) _).setCell (p := ⟨w.heap.size, _, none⟩) (Nat.le_refl _) _).setCell (p := ⟨w.heap.size, _, none⟩) (Nat.le_refl _) _).setCell (p := ⟨w.heap.size, _, none⟩) (Nat.le_refl _) _).setCell (p := ⟨w.heap.size, _, none⟩) (Nat.le_refl _) _), by rw [Below.heap_setCell _ _ _ _ (show D ≠ w.heap.size by omega), Below.heap_setCell _ _ _ _ (show D ≠ w.heap.size by omega), Below.heap_setCell _ _ _ _ (show D ≠ w.heap.size by omega), Below.heap_setCell _ _ _ _ (show D ≠ w.heap.size by omega), Below.heap_setCell _ _ _ _ (show D ≠ w.heap.size by omega), Below.heap_setCell _ _ _ _ (show D ≠ w.heap.size by omega)]; exact hW.2⟩
      have hSr := hSb _ ((Below.refl _ X).drew)
      have hbr : Below X.heap.size X X.drew := (Below.refl _ _).drew
      have HND := Lib.hid hnw
      clear hnw hz0 hz1 hz2 hz3 hz4 hz5
      have HEND : Hid (∀ W, Below X.heap.size X W → ∃ (L' : List Value), Below w.heap.size w ((((((W.setCell ⟨w.heap.size, q * 6, none⟩ (.bool x.rep)).setCell ⟨w.heap.size, q * 6 + 1, none⟩ (.string (mkB x.type))).setCell ⟨w.heap.size, q * 6 + 2, none⟩ (.string (mkB x.name))).setCell ⟨w.heap.size, q * 6 + 3, none⟩ (.int .i64 x.num)).setCell ⟨w.heap.size, q * 6 + 4, none⟩ (.int .i64 0)).setCell ⟨w.heap.size, q * 6 + 5, none⟩ (.int .i64 0)) ∧ ((((((W.setCell ⟨w.heap.size, q * 6, none⟩ (.bool x.rep)).setCell ⟨w.heap.size, q * 6 + 1, none⟩ (.string (mkB x.type))).setCell ⟨w.heap.size, q * 6 + 2, none⟩ (.string (mkB x.name))).setCell ⟨w.heap.size, q * 6 + 3, none⟩ (.int .i64 x.num)).setCell ⟨w.heap.size, q * 6 + 4, none⟩ (.int .i64 0)).setCell ⟨w.heap.size, q * 6 + 5, none⟩ (.int .i64 0)).ownsRow w.heap.size 48 6 (.slice (some ⟨w.heap.size, 0, none⟩) n n) n L' ∧ ∀ (j : Nat) (y : Fd), j < q + 1 → xs[j]? = some y → ∀ (i : Nat) (u : Value), (frow (sF y))[i]? = some u → L'[j * 6 + i]? = some u) := fun W hW => by
        have ho := own_grown HOX.out (hW.block w.heap.size (by omega))
        refine ⟨_, ?_, (own_setAt (own_setAt (own_setAt (own_setAt (own_setAt (own_setAt ho (q * 6) (.bool x.rep)) (q * 6 + 1) (.string (mkB x.type))) (q * 6 + 2) (.string (mkB x.name))) (q * 6 + 3) (.int .i64 x.num)) (q * 6 + 4) (.int .i64 0)) (q * 6 + 5) (.int .i64 0)), ?_⟩
        · exact (((((((HBX.out.trans (hW.mono HBX.out.size)).setCell (p := ⟨w.heap.size, _, none⟩) (Nat.le_refl _) _).setCell (p := ⟨w.heap.size, _, none⟩) (Nat.le_refl _) _).setCell (p := ⟨w.heap.size, _, none⟩) (Nat.le_refl _) _).setCell (p := ⟨w.heap.size, _, none⟩) (Nat.le_refl _) _).setCell (p := ⟨w.heap.size, _, none⟩) (Nat.le_refl _) _).setCell (p := ⟨w.heap.size, _, none⟩) (Nat.le_refl _) _)
        · intro j y hj hy i u hu
          have hlen : L.length = n * 6 := ho.1
          have hiK : i < 6 := (List.getElem?_eq_some_iff.1 hu).1
          by_cases hjq : j = q
          · subst hjq
            obtain rfl : x = y := Option.some.inj (HXX.out.symm.trans hy)
            have hm : (j + 1) * 6 ≤ n * 6 := Nat.mul_le_mul_right 6 hqn
            rw [Nat.succ_mul] at hm
            have hi6 : i = 0 ∨ i = 1 ∨ i = 2 ∨ i = 3 ∨ i = 4 ∨ i = 5 := by omega
            rcases hi6 with rfl | rfl | rfl | rfl | rfl | rfl
            all_goals
              simp only [frow, sF] at hu
              simp [List.getElem?_set, hlen] at hu ⊢
              first | (subst hu; omega) | (refine ⟨?_, hu⟩; omega) | (constructor <;> omega) | omega
          · have h0 := HRO.out j y (by omega) hy i u hu
            rw [List.getElem?_set_ne (fun e => (row_other 6 j q i 5 hiK (by decide) hjq) (by simpa using e.symm))]
            rw [List.getElem?_set_ne (fun e => (row_other 6 j q i 4 hiK (by decide) hjq) (by simpa using e.symm))]
            rw [List.getElem?_set_ne (fun e => (row_other 6 j q i 3 hiK (by decide) hjq) (by simpa using e.symm))]
            rw [List.getElem?_set_ne (fun e => (row_other 6 j q i 2 hiK (by decide) hjq) (by simpa using e.symm))]
            rw [List.getElem?_set_ne (fun e => (row_other 6 j q i 1 hiK (by decide) hjq) (by simpa using e.symm))]
            rw [List.getElem?_set_ne (fun e => (row_other 6 j q i 0 hiK (by decide) hjq) (by simpa using e.symm))]
            exact h0
      clear hszX
      go_region_held_law (fun W => Below w.heap.size w W ∧ W.heap[D]? = X.heap[D]?) (first | with_reducible exact hSr | with_reducible exact hS5 | with_reducible exact hSt _ _ _ _ _ _ _ hS5)
        (first
          | (go_at_call 25; refine (hC_type _).mono ?_; rintro e W5 ⟨rfl, hb5'⟩; have hb5 : Below X.heap.size X W5 := Below.trans (by assumption) (hb5'.mono (Below.size (by assumption))); have hS5 := hSb W5 hb5; obtain ⟨⟨c0, f0⟩, ⟨c1, f1⟩, ⟨c2, f2⟩, ⟨c3, f3⟩, ⟨c4, f4⟩, ⟨c5, f5⟩⟩ := HCF.out W5 hb5)
          | (go_at_call 25; refine (hC_name _).mono ?_; rintro e W5 ⟨rfl, hb5'⟩; have hb5 : Below X.heap.size X W5 := Below.trans (by assumption) (hb5'.mono (Below.size (by assumption))); have hS5 := hSb W5 hb5; obtain ⟨⟨c0, f0⟩, ⟨c1, f1⟩, ⟨c2, f2⟩, ⟨c3, f3⟩, ⟨c4, f4⟩, ⟨c5, f5⟩⟩ := HCF.out W5 hb5))
      all_goals
        obtain ⟨L', r1, r2, r3⟩ := HEND.out _ hb5
        have HR1 := Lib.hid r1
        have HR2 := Lib.hid r2
        have HR3 := Lib.hid r3
        clear r1 r2 r3
        go_wp2_with fail
        go_roundw
        case rel => exact ⟨q + 1, L', by go_num, by omega, HR1.out, HR2.out, HR3.out⟩
        case measure => simp [intOf]; omega
    · have hqn' : ¬ (q : Int) < (n : Int) := by omega
      obtain rfl : q = n := by omega
      have HAN : Hid (RowsIn wr (fun b => b = w.heap.size) 6 frow (.slice (some ⟨w.heap.size, 0, none⟩) q q) (xs.map sF)) := by
        refine (?_ : RowsIn _ _ _ _ _ _)
        refine ⟨_, q, by rw [List.length_map, HN.out], by rw [List.length_map, HN.out]; exact Nat.le_refl _, .inr ⟨w.heap.size, 0, rfl, rfl, fun j y hj i u hu => ?_⟩⟩
        rw [List.getElem?_map] at hj
        obtain ⟨z, hz, rfl⟩ := Option.map_eq_some_iff.1 hj
        have hjn := (List.getElem?_eq_some_iff.1 hz).1
        rw [Nat.zero_add]
        exact (own_at HOW.out _ _ (HRO.out j z (by have := HN.out; omega) hz i u hu)).1
      go_wp2_with fail
      go_ret
      exact ⟨rfl, HAN.out, HBQ.out, hgs⟩
set_option maxHeartbeats 16000000 in
set_option maxRecDepth 20000 in
theorem stV_any {S : Nat → Prop} (v : Value) (xs : List Vl) (w : World) (h1 : RowsIn w S 4 vrow v xs) (hS : ∀ b, S b → b < w.heap.size) (hl : xs.length ≤ 100000) (ht : ∀ x ∈ xs, x.name.length ≤ 200000000) :
    Calls Tryz.prog 27 #[v] w fun e w' => e = .returned (.slice (some ⟨w.heap.size, 0, none⟩) xs.length xs.length) ∧ RowsIn w' (fun b => b = w.heap.size) 4 vrow (.slice (some ⟨w.heap.size, 0, none⟩) xs.length xs.length) (xs.map sV) ∧ Below w.heap.size w w' ∧ w.heap.size < w'.heap.size := by
  obtain ⟨ad1, c1, rfl, hc1, H1⟩ := h1
  have Hf1 := Lib.hid H1
  have HT := Lib.hid ht
  obtain ⟨n, hn⟩ : ∃ n, xs.length = n := ⟨_, rfl⟩
  have HN := Lib.hid hn
  rw [hn] at hc1 hl ⊢
  clear H1 ht hn
  obtain ⟨i0, hi0, hz0, hz1, hz2⟩ := info_parts infoVlD
  have hby : i0.bytes * n ≤ 281474976710656 := by rw [hz2]; have : 40 * n ≤ 40 * 100000 := Nat.mul_le_mul_left 40 hl; omega
  go_enter Tryz.func27, Tryz.ntmps27
  go_wp2_with (refine wpList_make_full _ rfl _ _ 43 rfl w.heap.size 59 i0 _ 4 Tryz.underlying43 hi0 hz0 hz1 .i64 .i64 _ _ n rfl rfl rfl rfl hby (by unfold maxLen; omega) (Nat.le_refl _) ?_)
  intro w1 hown hg1
  have HOW := Lib.hid hown
  have HB1 : Hid (Below w.heap.size w w1) := ⟨hg1.os, hg1.tape, hg1.output, hg1.size, fun b hb => hg1.block b hb (by simp)⟩
  clear hown hg1 hi0 hz0 hz1 hz2 hby
  go_wp2_with fail
  go_loopw [11] (fun kk wr => ∃ (q : Nat) (L : List Value), kk = .int .i64 (q : Int) ∧ q ≤ n ∧ Below w.heap.size w wr ∧ wr.ownsRow w.heap.size 59 4 (.slice (some ⟨w.heap.size, 0, none⟩) n n) n L ∧ ∀ (j : Nat) (x : Vl), j < q → xs[j]? = some x → ∀ (i : Nat) (u : Value), (vrow (sV x))[i]? = some u → L[j * 4 + i]? = some u) (fun kk _ => n - (intOf kk).toNat)
  case atStart => exact ⟨0, _, rfl, by omega, HB1.out, HOW.out, fun j x hj => absurd hj (Nat.not_lt_zero _)⟩
  case round =>
    obtain ⟨q, L, rfl, hq, hbq, hown, hrows⟩ := hrel
    have HBQ := Lib.hid hbq
    have HOW := Lib.hid hown
    have HRO := Lib.hid hrows
    have hszq := hbq.size
    have hgs : w.heap.size < wr.heap.size := by
      obtain ⟨_, ⟨h2, _⟩ | ⟨g', cap', cur, hv, hg, hh, _⟩⟩ := hown
      · cases h2
      · simp only [Value.slice.injEq, Option.some.injEq, Addr.mk.injEq, and_true, true_and] at hv
        obtain ⟨rfl, _⟩ := hv
        exact (Array.getElem?_eq_some_iff.1 hh).1
    clear hbq hown hrows
    by_cases hqn : q < n
    · obtain ⟨x, hx⟩ : ∃ x, xs[q]? = some x := ⟨_, List.getElem?_eq_getElem (by have := HN.out; omega)⟩
      rcases Hf1.out with h0 | ⟨g3, o3, rfl, hg3, hk3⟩
      · rw [h0] at hx; simp at hx
      have b3 := HBQ.out.block g3 (hS g3 hg3)
      have hxt := HT.out x (List.mem_of_getElem? hx)
      have e3_0 : wr.cell? ⟨g3, o3 + q * 4, none⟩ = some (.string (mkB x.name)) := by
        rw [World.cell?_of_block b3]
        have := hk3 q x hx 0 _ rfl
        simpa [Nat.add_assoc] using this
      have e3_1 : wr.cell? ⟨g3, o3 + q * 4 + 1, none⟩ = some (.int .i64 x.num) := by
        rw [World.cell?_of_block b3]
        have := hk3 q x hx 1 _ rfl
        simpa [Nat.add_assoc] using this
      have e3_2 : wr.cell? ⟨g3, o3 + q * 4 + 2, none⟩ = some (.int .i64 x.line) := by
        rw [World.cell?_of_block b3]
        have := hk3 q x hx 2 _ rfl
        simpa [Nat.add_assoc] using this
      have e3_3 : wr.cell? ⟨g3, o3 + q * 4 + 3, none⟩ = some (.int .i64 x.col) := by
        rw [World.cell?_of_block b3]
        have := hk3 q x hx 3 _ rfl
        simpa [Nat.add_assoc] using this
      have hC_name := fun W => cloneB_any (mkB x.name) W (by rw [mkB_len]; have := hxt; omega)
      have hq0 : (0 : Int) ≤ (q : Int) := by omega
      have hq1 : (q : Int) < (n : Int) := by omega
      have hwq : IntKind.i64.wrap ((q : Int) + 1) = (q : Int) + 1 := by rw [IntKind.wrap_i64]; omega
      have HXX := Lib.hid hx
      have hnw := alloc_heap_new wr (.cells #[.string (mkB x.name), .int .i64 x.num, .int .i64 x.line, .int .i64 x.col] 59)
      have HOX : Hid ((wr.alloc (.cells #[.string (mkB x.name), .int .i64 x.num, .int .i64 x.line, .int .i64 x.col] 59)).ownsRow w.heap.size 59 4 (.slice (some ⟨w.heap.size, 0, none⟩) n n) n L) := own_grown HOW.out (alloc_heap_old _ _ _ hgs)
      have HBX := Lib.hid (HBQ.out.alloc hszq (.cells #[.string (mkB x.name), .int .i64 x.num, .int .i64 x.line, .int .i64 x.col] 59))
      have hszX : (wr.alloc (.cells #[.string (mkB x.name), .int .i64 x.num, .int .i64 x.line, .int .i64 x.col] 59)).heap.size = wr.heap.size + 1 := by simp
      clear hk3 b3 Hf1 hx hxt
      go_upto_region 5 with fail
      clear e3_0 e3_1 e3_2 e3_3
      generalize wr.alloc (.cells #[.string (mkB x.name), .int .i64 x.num, .int .i64 x.line, .int .i64 x.col] 59) = X at *
      obtain ⟨D, hD⟩ : ∃ D, wr.heap.size = D := ⟨_, rfl⟩
      rw [hD] at hnw hszX hgs ⊢
      obtain ⟨z0, hz0⟩ := own_some HOX.out q 0 hqn (by decide)
      obtain ⟨z1, hz1⟩ := own_some HOX.out q 1 hqn (by decide)
      obtain ⟨z2, hz2⟩ := own_some HOX.out q 2 hqn (by decide)
      obtain ⟨z3, hz3⟩ := own_some HOX.out q 3 hqn (by decide)
      have k0 : ∀ W, (Below w.heap.size w W ∧ W.heap[D]? = X.heap[D]?) → W.cell? ⟨D, 0, none⟩ = some (.string (mkB x.name)) := fun W hW => by
        have := hW.2.trans hnw
        simp [World.cell?, this]
      have k1 : ∀ W, (Below w.heap.size w W ∧ W.heap[D]? = X.heap[D]?) → W.cell? ⟨D, 1, none⟩ = some (.int .i64 x.num) := fun W hW => by
        have := hW.2.trans hnw
        simp [World.cell?, this]
      have HCF : Hid (∀ W, Below X.heap.size X W → (W.cell? ⟨w.heap.size, q * 4, none⟩ = some z0 ∧ W.frozen? ⟨w.heap.size, q * 4, none⟩ = false) ∧ (W.cell? ⟨w.heap.size, q * 4 + 1, none⟩ = some z1 ∧ W.frozen? ⟨w.heap.size, q * 4 + 1, none⟩ = false) ∧ (W.cell? ⟨w.heap.size, q * 4 + 2, none⟩ = some z2 ∧ W.frozen? ⟨w.heap.size, q * 4 + 2, none⟩ = false) ∧ (W.cell? ⟨w.heap.size, q * 4 + 3, none⟩ = some z3 ∧ W.frozen? ⟨w.heap.size, q * 4 + 3, none⟩ = false)) := fun W hW => ⟨⟨by rw [hW.cell (show w.heap.size < X.heap.size by omega)]; exact (own_at HOX.out _ _ hz0).1, by rw [hW.frozen (show w.heap.size < X.heap.size by omega)]; exact (own_at HOX.out _ _ hz0).2⟩, ⟨by rw [hW.cell (show w.heap.size < X.heap.size by omega)]; exact (own_at HOX.out _ _ hz1).1, by rw [hW.frozen (show w.heap.size < X.heap.size by omega)]; exact (own_at HOX.out _ _ hz1).2⟩, ⟨by rw [hW.cell (show w.heap.size < X.heap.size by omega)]; exact (own_at HOX.out _ _ hz2).1, by rw [hW.frozen (show w.heap.size < X.heap.size by omega)]; exact (own_at HOX.out _ _ hz2).2⟩, ⟨by rw [hW.cell (show w.heap.size < X.heap.size by omega)]; exact (own_at HOX.out _ _ hz3).1, by rw [hW.frozen (show w.heap.size < X.heap.size by omega)]; exact (own_at HOX.out _ _ hz3).2⟩⟩
      have hSb : ∀ W, Below X.heap.size X W → (Below w.heap.size w W ∧ W.heap[D]? = X.heap[D]?) := fun W hW => ⟨HBX.out.trans (hW.mono HBX.out.size), hW.block D (by omega)⟩
      have hSt : ∀ (W : World) (u0 u1 u2 u3 : Value), (Below w.heap.size w W ∧ W.heap[D]? = X.heap[D]?) → (Below w.heap.size w ((((W.setCell ⟨w.heap.size, q * 4, none⟩ u0).setCell ⟨w.heap.size, q * 4 + 1, none⟩ u1).setCell ⟨w.heap.size, q * 4 + 2, none⟩ u2).setCell ⟨w.heap.size, q * 4 + 3, none⟩ u3) ∧ ((((W.setCell ⟨w.heap.size, q * 4, none⟩ u0).setCell ⟨w.heap.size, q * 4 + 1, none⟩ u1).setCell ⟨w.heap.size, q * 4 + 2, none⟩ u2).setCell ⟨w.heap.size, q * 4 + 3, none⟩ u3).heap[D]? = X.heap[D]?) := fun W u0 u1 u2 u3 hW => ⟨((((hW.1.setCell (p := ⟨w.heap.size, _, none⟩) (Nat.le_refl _) _).setCell (p := ⟨w.heap.size, _, none⟩) (Nat.le_refl _) _).setCell (p := ⟨w.heap.size, _, none⟩) (Nat.le_refl _) _).setCell (p := ⟨w.heap.size, _, none⟩) (Nat.le_refl _) _), by rw [Below.heap_setCell _ _ _ _ (show D ≠ w.heap.size by omega), Below.heap_setCell _ _ _ _ (show D ≠ w.heap.size by omega), Below.heap_setCell _ _ _ _ (show D ≠ w.heap.size by omega), Below.heap_setCell _ _ _ _ (show D ≠ w.heap.size by omega)]; exact hW.2⟩
      have hSr := hSb _ ((Below.refl _ X).drew)
      have hbr : Below X.heap.size X X.drew := (Below.refl _ _).drew
      have HND := Lib.hid hnw
      clear hnw hz0 hz1 hz2 hz3
      have HEND : Hid (∀ W, Below X.heap.size X W → ∃ (L' : List Value), Below w.heap.size w ((((W.setCell ⟨w.heap.size, q * 4, none⟩ (.string (mkB x.name))).setCell ⟨w.heap.size, q * 4 + 1, none⟩ (.int .i64 x.num)).setCell ⟨w.heap.size, q * 4 + 2, none⟩ (.int .i64 0)).setCell ⟨w.heap.size, q * 4 + 3, none⟩ (.int .i64 0)) ∧ ((((W.setCell ⟨w.heap.size, q * 4, none⟩ (.string (mkB x.name))).setCell ⟨w.heap.size, q * 4 + 1, none⟩ (.int .i64 x.num)).setCell ⟨w.heap.size, q * 4 + 2, none⟩ (.int .i64 0)).setCell ⟨w.heap.size, q * 4 + 3, none⟩ (.int .i64 0)).ownsRow w.heap.size 59 4 (.slice (some ⟨w.heap.size, 0, none⟩) n n) n L' ∧ ∀ (j : Nat) (y : Vl), j < q + 1 → xs[j]? = some y → ∀ (i : Nat) (u : Value), (vrow (sV y))[i]? = some u → L'[j * 4 + i]? = some u) := fun W hW => by
        have ho := own_grown HOX.out (hW.block w.heap.size (by omega))
        refine ⟨_, ?_, (own_setAt (own_setAt (own_setAt (own_setAt ho (q * 4) (.string (mkB x.name))) (q * 4 + 1) (.int .i64 x.num)) (q * 4 + 2) (.int .i64 0)) (q * 4 + 3) (.int .i64 0)), ?_⟩
        · exact (((((HBX.out.trans (hW.mono HBX.out.size)).setCell (p := ⟨w.heap.size, _, none⟩) (Nat.le_refl _) _).setCell (p := ⟨w.heap.size, _, none⟩) (Nat.le_refl _) _).setCell (p := ⟨w.heap.size, _, none⟩) (Nat.le_refl _) _).setCell (p := ⟨w.heap.size, _, none⟩) (Nat.le_refl _) _)
        · intro j y hj hy i u hu
          have hlen : L.length = n * 4 := ho.1
          have hiK : i < 4 := (List.getElem?_eq_some_iff.1 hu).1
          by_cases hjq : j = q
          · subst hjq
            obtain rfl : x = y := Option.some.inj (HXX.out.symm.trans hy)
            have hm : (j + 1) * 4 ≤ n * 4 := Nat.mul_le_mul_right 4 hqn
            rw [Nat.succ_mul] at hm
            have hi6 : i = 0 ∨ i = 1 ∨ i = 2 ∨ i = 3 := by omega
            rcases hi6 with rfl | rfl | rfl | rfl
            all_goals
              simp only [vrow, sV] at hu
              simp [List.getElem?_set, hlen] at hu ⊢
              first | (subst hu; omega) | (refine ⟨?_, hu⟩; omega) | (constructor <;> omega) | omega
          · have h0 := HRO.out j y (by omega) hy i u hu
            rw [List.getElem?_set_ne (fun e => (row_other 4 j q i 3 hiK (by decide) hjq) (by simpa using e.symm))]
            rw [List.getElem?_set_ne (fun e => (row_other 4 j q i 2 hiK (by decide) hjq) (by simpa using e.symm))]
            rw [List.getElem?_set_ne (fun e => (row_other 4 j q i 1 hiK (by decide) hjq) (by simpa using e.symm))]
            rw [List.getElem?_set_ne (fun e => (row_other 4 j q i 0 hiK (by decide) hjq) (by simpa using e.symm))]
            exact h0
      clear hszX
      go_region_held_law (fun W => Below w.heap.size w W ∧ W.heap[D]? = X.heap[D]?) (first | with_reducible exact hSr | with_reducible exact hS5 | with_reducible exact hSt _ _ _ _ _ hS5)
        (first
          | (go_at_call 25; refine (hC_name _).mono ?_; rintro e W5 ⟨rfl, hb5'⟩; have hb5 : Below X.heap.size X W5 := Below.trans (by assumption) (hb5'.mono (Below.size (by assumption))); have hS5 := hSb W5 hb5; obtain ⟨⟨c0, f0⟩, ⟨c1, f1⟩, ⟨c2, f2⟩, ⟨c3, f3⟩⟩ := HCF.out W5 hb5))
      all_goals
        obtain ⟨L', r1, r2, r3⟩ := HEND.out _ hb5
        have HR1 := Lib.hid r1
        have HR2 := Lib.hid r2
        have HR3 := Lib.hid r3
        clear r1 r2 r3
        go_wp2_with fail
        go_roundw
        case rel => exact ⟨q + 1, L', by go_num, by omega, HR1.out, HR2.out, HR3.out⟩
        case measure => simp [intOf]; omega
    · have hqn' : ¬ (q : Int) < (n : Int) := by omega
      obtain rfl : q = n := by omega
      have HAN : Hid (RowsIn wr (fun b => b = w.heap.size) 4 vrow (.slice (some ⟨w.heap.size, 0, none⟩) q q) (xs.map sV)) := by
        refine (?_ : RowsIn _ _ _ _ _ _)
        refine ⟨_, q, by rw [List.length_map, HN.out], by rw [List.length_map, HN.out]; exact Nat.le_refl _, .inr ⟨w.heap.size, 0, rfl, rfl, fun j y hj i u hu => ?_⟩⟩
        rw [List.getElem?_map] at hj
        obtain ⟨z, hz, rfl⟩ := Option.map_eq_some_iff.1 hj
        have hjn := (List.getElem?_eq_some_iff.1 hz).1
        rw [Nat.zero_add]
        exact (own_at HOW.out _ _ (HRO.out j z (by have := HN.out; omega) hz i u hu)).1
      go_wp2_with fail
      go_ret
      exact ⟨rfl, HAN.out, HBQ.out, hgs⟩
set_option maxHeartbeats 16000000 in
set_option maxRecDepth 20000 in
theorem stM_any {S : Nat → Prop} (v : Value) (xs : List Mt) (w : World) (h1 : RowsIn w S 5 mrow v xs) (hS : ∀ b, S b → b < w.heap.size) (hl : xs.length ≤ 100000) (ht : ∀ x ∈ xs, x.name.length ≤ 200000000 ∧ x.inp.length ≤ 200000000 ∧ x.out.length ≤ 200000000) :
    Calls Tryz.prog 28 #[v] w fun e w' => e = .returned (.slice (some ⟨w.heap.size, 0, none⟩) xs.length xs.length) ∧ RowsIn w' (fun b => b = w.heap.size) 5 mrow (.slice (some ⟨w.heap.size, 0, none⟩) xs.length xs.length) (xs.map sM) ∧ Below w.heap.size w w' ∧ w.heap.size < w'.heap.size := by
  obtain ⟨ad1, c1, rfl, hc1, H1⟩ := h1
  have Hf1 := Lib.hid H1
  have HT := Lib.hid ht
  obtain ⟨n, hn⟩ : ∃ n, xs.length = n := ⟨_, rfl⟩
  have HN := Lib.hid hn
  rw [hn] at hc1 hl ⊢
  clear H1 ht hn
  obtain ⟨i0, hi0, hz0, hz1, hz2⟩ := info_parts infoMtD
  have hby : i0.bytes * n ≤ 281474976710656 := by rw [hz2]; have : 64 * n ≤ 64 * 100000 := Nat.mul_le_mul_left 64 hl; omega
  go_enter Tryz.func28, Tryz.ntmps28
  go_wp2_with (refine wpList_make_full _ rfl _ _ 44 rfl w.heap.size 62 i0 _ 5 Tryz.underlying44 hi0 hz0 hz1 .i64 .i64 _ _ n rfl rfl rfl rfl hby (by unfold maxLen; omega) (Nat.le_refl _) ?_)
  intro w1 hown hg1
  have HOW := Lib.hid hown
  have HB1 : Hid (Below w.heap.size w w1) := ⟨hg1.os, hg1.tape, hg1.output, hg1.size, fun b hb => hg1.block b hb (by simp)⟩
  clear hown hg1 hi0 hz0 hz1 hz2 hby
  go_wp2_with fail
  go_loopw [11] (fun kk wr => ∃ (q : Nat) (L : List Value), kk = .int .i64 (q : Int) ∧ q ≤ n ∧ Below w.heap.size w wr ∧ wr.ownsRow w.heap.size 62 5 (.slice (some ⟨w.heap.size, 0, none⟩) n n) n L ∧ ∀ (j : Nat) (x : Mt), j < q → xs[j]? = some x → ∀ (i : Nat) (u : Value), (mrow (sM x))[i]? = some u → L[j * 5 + i]? = some u) (fun kk _ => n - (intOf kk).toNat)
  case atStart => exact ⟨0, _, rfl, by omega, HB1.out, HOW.out, fun j x hj => absurd hj (Nat.not_lt_zero _)⟩
  case round =>
    obtain ⟨q, L, rfl, hq, hbq, hown, hrows⟩ := hrel
    have HBQ := Lib.hid hbq
    have HOW := Lib.hid hown
    have HRO := Lib.hid hrows
    have hszq := hbq.size
    have hgs : w.heap.size < wr.heap.size := by
      obtain ⟨_, ⟨h2, _⟩ | ⟨g', cap', cur, hv, hg, hh, _⟩⟩ := hown
      · cases h2
      · simp only [Value.slice.injEq, Option.some.injEq, Addr.mk.injEq, and_true, true_and] at hv
        obtain ⟨rfl, _⟩ := hv
        exact (Array.getElem?_eq_some_iff.1 hh).1
    clear hbq hown hrows
    by_cases hqn : q < n
    · obtain ⟨x, hx⟩ : ∃ x, xs[q]? = some x := ⟨_, List.getElem?_eq_getElem (by have := HN.out; omega)⟩
      rcases Hf1.out with h0 | ⟨g3, o3, rfl, hg3, hk3⟩
      · rw [h0] at hx; simp at hx
      have b3 := HBQ.out.block g3 (hS g3 hg3)
      have hxt := HT.out x (List.mem_of_getElem? hx)
      have e3_0 : wr.cell? ⟨g3, o3 + q * 5, none⟩ = some (.string (mkB x.name)) := by
        rw [World.cell?_of_block b3]
        have := hk3 q x hx 0 _ rfl
        simpa [Nat.add_assoc] using this
      have e3_1 : wr.cell? ⟨g3, o3 + q * 5 + 1, none⟩ = some (.string (mkB x.inp)) := by
        rw [World.cell?_of_block b3]
        have := hk3 q x hx 1 _ rfl
        simpa [Nat.add_assoc] using this
      have e3_2 : wr.cell? ⟨g3, o3 + q * 5 + 2, none⟩ = some (.string (mkB x.out)) := by
        rw [World.cell?_of_block b3]
        have := hk3 q x hx 2 _ rfl
        simpa [Nat.add_assoc] using this
      have e3_3 : wr.cell? ⟨g3, o3 + q * 5 + 3, none⟩ = some (.int .i64 x.line) := by
        rw [World.cell?_of_block b3]
        have := hk3 q x hx 3 _ rfl
        simpa [Nat.add_assoc] using this
      have e3_4 : wr.cell? ⟨g3, o3 + q * 5 + 4, none⟩ = some (.int .i64 x.col) := by
        rw [World.cell?_of_block b3]
        have := hk3 q x hx 4 _ rfl
        simpa [Nat.add_assoc] using this
      have hC_name := fun W => cloneB_any (mkB x.name) W (by rw [mkB_len]; have := hxt.1; omega)
      have hC_inp := fun W => cloneB_any (mkB x.inp) W (by rw [mkB_len]; have := hxt.2.1; omega)
      have hC_out := fun W => cloneB_any (mkB x.out) W (by rw [mkB_len]; have := hxt.2.2; omega)
      have hq0 : (0 : Int) ≤ (q : Int) := by omega
      have hq1 : (q : Int) < (n : Int) := by omega
      have hwq : IntKind.i64.wrap ((q : Int) + 1) = (q : Int) + 1 := by rw [IntKind.wrap_i64]; omega
      have HXX := Lib.hid hx
      have hnw := alloc_heap_new wr (.cells #[.string (mkB x.name), .string (mkB x.inp), .string (mkB x.out), .int .i64 x.line, .int .i64 x.col] 62)
      have HOX : Hid ((wr.alloc (.cells #[.string (mkB x.name), .string (mkB x.inp), .string (mkB x.out), .int .i64 x.line, .int .i64 x.col] 62)).ownsRow w.heap.size 62 5 (.slice (some ⟨w.heap.size, 0, none⟩) n n) n L) := own_grown HOW.out (alloc_heap_old _ _ _ hgs)
      have HBX := Lib.hid (HBQ.out.alloc hszq (.cells #[.string (mkB x.name), .string (mkB x.inp), .string (mkB x.out), .int .i64 x.line, .int .i64 x.col] 62))
      have hszX : (wr.alloc (.cells #[.string (mkB x.name), .string (mkB x.inp), .string (mkB x.out), .int .i64 x.line, .int .i64 x.col] 62)).heap.size = wr.heap.size + 1 := by simp
      clear hk3 b3 Hf1 hx hxt
      go_upto_region 5 with fail
      clear e3_0 e3_1 e3_2 e3_3 e3_4
      generalize wr.alloc (.cells #[.string (mkB x.name), .string (mkB x.inp), .string (mkB x.out), .int .i64 x.line, .int .i64 x.col] 62) = X at *
      obtain ⟨D, hD⟩ : ∃ D, wr.heap.size = D := ⟨_, rfl⟩
      rw [hD] at hnw hszX hgs ⊢
      obtain ⟨z0, hz0⟩ := own_some HOX.out q 0 hqn (by decide)
      obtain ⟨z1, hz1⟩ := own_some HOX.out q 1 hqn (by decide)
      obtain ⟨z2, hz2⟩ := own_some HOX.out q 2 hqn (by decide)
      obtain ⟨z3, hz3⟩ := own_some HOX.out q 3 hqn (by decide)
      obtain ⟨z4, hz4⟩ := own_some HOX.out q 4 hqn (by decide)
      have k0 : ∀ W, (Below w.heap.size w W ∧ W.heap[D]? = X.heap[D]?) → W.cell? ⟨D, 0, none⟩ = some (.string (mkB x.name)) := fun W hW => by
        have := hW.2.trans hnw
        simp [World.cell?, this]
      have k1 : ∀ W, (Below w.heap.size w W ∧ W.heap[D]? = X.heap[D]?) → W.cell? ⟨D, 1, none⟩ = some (.string (mkB x.inp)) := fun W hW => by
        have := hW.2.trans hnw
        simp [World.cell?, this]
      have k2 : ∀ W, (Below w.heap.size w W ∧ W.heap[D]? = X.heap[D]?) → W.cell? ⟨D, 2, none⟩ = some (.string (mkB x.out)) := fun W hW => by
        have := hW.2.trans hnw
        simp [World.cell?, this]
      have HCF : Hid (∀ W, Below X.heap.size X W → (W.cell? ⟨w.heap.size, q * 5, none⟩ = some z0 ∧ W.frozen? ⟨w.heap.size, q * 5, none⟩ = false) ∧ (W.cell? ⟨w.heap.size, q * 5 + 1, none⟩ = some z1 ∧ W.frozen? ⟨w.heap.size, q * 5 + 1, none⟩ = false) ∧ (W.cell? ⟨w.heap.size, q * 5 + 2, none⟩ = some z2 ∧ W.frozen? ⟨w.heap.size, q * 5 + 2, none⟩ = false) ∧ (W.cell? ⟨w.heap.size, q * 5 + 3, none⟩ = some z3 ∧ W.frozen? ⟨w.heap.size, q * 5 + 3, none⟩ = false) ∧ (W.cell? ⟨w.heap.size, q * 5 + 4, none⟩ = some z4 ∧ W.frozen? ⟨w.heap.size, q * 5 + 4, none⟩ = false)) := fun W hW => ⟨⟨by rw [hW.cell (show w.heap.size < X.heap.size by omega)]; exact (own_at HOX.out _ _ hz0).1, by rw [hW.frozen (show w.heap.size < X.heap.size by omega)]; exact (own_at HOX.out _ _ hz0).2⟩, ⟨by rw [hW.cell (show w.heap.size < X.heap.size by omega)]; exact (own_at HOX.out _ _ hz1).1, by rw [hW.frozen (show w.heap.size < X.heap.size by omega)]; exact (own_at HOX.out _ _ hz1).2⟩, ⟨by rw [hW.cell (show w.heap.size < X.heap.size by omega)]; exact (own_at HOX.out _ _ hz2).1, by rw [hW.frozen (show w.heap.size < X.heap.size by omega)]; exact (own_at HOX.out _ _ hz2).2⟩, ⟨by rw [hW.cell (show w.heap.size < X.heap.size by omega)]; exact (own_at HOX.out _ _ hz3).1, by rw [hW.frozen (show w.heap.size < X.heap.size by omega)]; exact (own_at HOX.out _ _ hz3).2⟩, ⟨by rw [hW.cell (show w.heap.size < X.heap.size by omega)]; exact (own_at HOX.out _ _ hz4).1, by rw [hW.frozen (show w.heap.size < X.heap.size by omega)]; exact (own_at HOX.out _ _ hz4).2⟩⟩
      have hSb : ∀ W, Below X.heap.size X W → (Below w.heap.size w W ∧ W.heap[D]? = X.heap[D]?) := fun W hW => ⟨HBX.out.trans (hW.mono HBX.out.size), hW.block D (by omega)⟩
      have hSt : ∀ (W : World) (u0 u1 u2 u3 u4 : Value), (Below w.heap.size w W ∧ W.heap[D]? = X.heap[D]?) → (Below w.heap.size w (((((W.setCell ⟨w.heap.size, q * 5, none⟩ u0).setCell ⟨w.heap.size, q * 5 + 1, none⟩ u1).setCell ⟨w.heap.size, q * 5 + 2, none⟩ u2).setCell ⟨w.heap.size, q * 5 + 3, none⟩ u3).setCell ⟨w.heap.size, q * 5 + 4, none⟩ u4) ∧ (((((W.setCell ⟨w.heap.size, q * 5, none⟩ u0).setCell ⟨w.heap.size, q * 5 + 1, none⟩ u1).setCell ⟨w.heap.size, q * 5 + 2, none⟩ u2).setCell ⟨w.heap.size, q * 5 + 3, none⟩ u3).setCell ⟨w.heap.size, q * 5 + 4, none⟩ u4).heap[D]? = X.heap[D]?) := fun W u0 u1 u2 u3 u4 hW => ⟨(((((hW.1.setCell (p := ⟨w.heap.size, _, none⟩) (Nat.le_refl _) _).setCell (p := ⟨w.heap.size, _, none⟩) (Nat.le_refl _) _).setCell (p := ⟨w.heap.size, _, none⟩) (Nat.le_refl _) _).setCell (p := ⟨w.heap.size, _, none⟩) (Nat.le_refl _) _).setCell (p := ⟨w.heap.size, _, none⟩) (Nat.le_refl _) _), by rw [Below.heap_setCell _ _ _ _ (show D ≠ w.heap.size by omega), Below.heap_setCell _ _ _ _ (show D ≠ w.heap.size by omega), Below.heap_setCell _ _ _ _ (show D ≠ w.heap.size by omega), Below.heap_setCell _ _ _ _ (show D ≠ w.heap.size by omega), Below.heap_setCell _ _ _ _ (show D ≠ w.heap.size by omega)]; exact hW.2⟩
      have hSr := hSb _ ((Below.refl _ X).drew)
      have hbr : Below X.heap.size X X.drew := (Below.refl _ _).drew
      have HND := Lib.hid hnw
      clear hnw hz0 hz1 hz2 hz3 hz4
      have HEND : Hid (∀ W, Below X.heap.size X W → ∃ (L' : List Value), Below w.heap.size w (((((W.setCell ⟨w.heap.size, q * 5, none⟩ (.string (mkB x.name))).setCell ⟨w.heap.size, q * 5 + 1, none⟩ (.string (mkB x.inp))).setCell ⟨w.heap.size, q * 5 + 2, none⟩ (.string (mkB x.out))).setCell ⟨w.heap.size, q * 5 + 3, none⟩ (.int .i64 0)).setCell ⟨w.heap.size, q * 5 + 4, none⟩ (.int .i64 0)) ∧ (((((W.setCell ⟨w.heap.size, q * 5, none⟩ (.string (mkB x.name))).setCell ⟨w.heap.size, q * 5 + 1, none⟩ (.string (mkB x.inp))).setCell ⟨w.heap.size, q * 5 + 2, none⟩ (.string (mkB x.out))).setCell ⟨w.heap.size, q * 5 + 3, none⟩ (.int .i64 0)).setCell ⟨w.heap.size, q * 5 + 4, none⟩ (.int .i64 0)).ownsRow w.heap.size 62 5 (.slice (some ⟨w.heap.size, 0, none⟩) n n) n L' ∧ ∀ (j : Nat) (y : Mt), j < q + 1 → xs[j]? = some y → ∀ (i : Nat) (u : Value), (mrow (sM y))[i]? = some u → L'[j * 5 + i]? = some u) := fun W hW => by
        have ho := own_grown HOX.out (hW.block w.heap.size (by omega))
        refine ⟨_, ?_, (own_setAt (own_setAt (own_setAt (own_setAt (own_setAt ho (q * 5) (.string (mkB x.name))) (q * 5 + 1) (.string (mkB x.inp))) (q * 5 + 2) (.string (mkB x.out))) (q * 5 + 3) (.int .i64 0)) (q * 5 + 4) (.int .i64 0)), ?_⟩
        · exact ((((((HBX.out.trans (hW.mono HBX.out.size)).setCell (p := ⟨w.heap.size, _, none⟩) (Nat.le_refl _) _).setCell (p := ⟨w.heap.size, _, none⟩) (Nat.le_refl _) _).setCell (p := ⟨w.heap.size, _, none⟩) (Nat.le_refl _) _).setCell (p := ⟨w.heap.size, _, none⟩) (Nat.le_refl _) _).setCell (p := ⟨w.heap.size, _, none⟩) (Nat.le_refl _) _)
        · intro j y hj hy i u hu
          have hlen : L.length = n * 5 := ho.1
          have hiK : i < 5 := (List.getElem?_eq_some_iff.1 hu).1
          by_cases hjq : j = q
          · subst hjq
            obtain rfl : x = y := Option.some.inj (HXX.out.symm.trans hy)
            have hm : (j + 1) * 5 ≤ n * 5 := Nat.mul_le_mul_right 5 hqn
            rw [Nat.succ_mul] at hm
            have hi6 : i = 0 ∨ i = 1 ∨ i = 2 ∨ i = 3 ∨ i = 4 := by omega
            rcases hi6 with rfl | rfl | rfl | rfl | rfl
            all_goals
              simp only [mrow, sM] at hu
              simp [List.getElem?_set, hlen] at hu ⊢
              first | (subst hu; omega) | (refine ⟨?_, hu⟩; omega) | (constructor <;> omega) | omega
          · have h0 := HRO.out j y (by omega) hy i u hu
            rw [List.getElem?_set_ne (fun e => (row_other 5 j q i 4 hiK (by decide) hjq) (by simpa using e.symm))]
            rw [List.getElem?_set_ne (fun e => (row_other 5 j q i 3 hiK (by decide) hjq) (by simpa using e.symm))]
            rw [List.getElem?_set_ne (fun e => (row_other 5 j q i 2 hiK (by decide) hjq) (by simpa using e.symm))]
            rw [List.getElem?_set_ne (fun e => (row_other 5 j q i 1 hiK (by decide) hjq) (by simpa using e.symm))]
            rw [List.getElem?_set_ne (fun e => (row_other 5 j q i 0 hiK (by decide) hjq) (by simpa using e.symm))]
            exact h0
      clear hszX
      go_region_held_law (fun W => Below w.heap.size w W ∧ W.heap[D]? = X.heap[D]?) (first | with_reducible exact hSr | with_reducible exact hS5 | with_reducible exact hSt _ _ _ _ _ _ hS5)
        (first
          | (go_at_call 25; refine (hC_name _).mono ?_; rintro e W5 ⟨rfl, hb5'⟩; have hb5 : Below X.heap.size X W5 := Below.trans (by assumption) (hb5'.mono (Below.size (by assumption))); have hS5 := hSb W5 hb5; obtain ⟨⟨c0, f0⟩, ⟨c1, f1⟩, ⟨c2, f2⟩, ⟨c3, f3⟩, ⟨c4, f4⟩⟩ := HCF.out W5 hb5)
          | (go_at_call 25; refine (hC_inp _).mono ?_; rintro e W5 ⟨rfl, hb5'⟩; have hb5 : Below X.heap.size X W5 := Below.trans (by assumption) (hb5'.mono (Below.size (by assumption))); have hS5 := hSb W5 hb5; obtain ⟨⟨c0, f0⟩, ⟨c1, f1⟩, ⟨c2, f2⟩, ⟨c3, f3⟩, ⟨c4, f4⟩⟩ := HCF.out W5 hb5)
          | (go_at_call 25; refine (hC_out _).mono ?_; rintro e W5 ⟨rfl, hb5'⟩; have hb5 : Below X.heap.size X W5 := Below.trans (by assumption) (hb5'.mono (Below.size (by assumption))); have hS5 := hSb W5 hb5; obtain ⟨⟨c0, f0⟩, ⟨c1, f1⟩, ⟨c2, f2⟩, ⟨c3, f3⟩, ⟨c4, f4⟩⟩ := HCF.out W5 hb5))
      all_goals
        obtain ⟨L', r1, r2, r3⟩ := HEND.out _ hb5
        have HR1 := Lib.hid r1
        have HR2 := Lib.hid r2
        have HR3 := Lib.hid r3
        clear r1 r2 r3
        go_wp2_with fail
        go_roundw
        case rel => exact ⟨q + 1, L', by go_num, by omega, HR1.out, HR2.out, HR3.out⟩
        case measure => simp [intOf]; omega
    · have hqn' : ¬ (q : Int) < (n : Int) := by omega
      obtain rfl : q = n := by omega
      have HAN : Hid (RowsIn wr (fun b => b = w.heap.size) 5 mrow (.slice (some ⟨w.heap.size, 0, none⟩) q q) (xs.map sM)) := by
        refine (?_ : RowsIn _ _ _ _ _ _)
        refine ⟨_, q, by rw [List.length_map, HN.out], by rw [List.length_map, HN.out]; exact Nat.le_refl _, .inr ⟨w.heap.size, 0, rfl, rfl, fun j y hj i u hu => ?_⟩⟩
        rw [List.getElem?_map] at hj
        obtain ⟨z, hz, rfl⟩ := Option.map_eq_some_iff.1 hj
        have hjn := (List.getElem?_eq_some_iff.1 hz).1
        rw [Nat.zero_add]
        exact (own_at HOW.out _ _ (HRO.out j z (by have := HN.out; omega) hz i u hu)).1
      go_wp2_with fail
      go_ret
      exact ⟨rfl, HAN.out, HBQ.out, hgs⟩
end Go.Proofs.YtngmimbpakmkiaaGreatDoor
