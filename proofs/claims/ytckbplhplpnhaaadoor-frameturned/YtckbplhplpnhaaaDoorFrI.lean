/-
  The walk over Parse, by the program.
-/
import Derived.Test.YtckbplhplpnhaaaDoorFrE
import Derived.Test.YtckbplhplpnhaaaDoorFrH
import Derived.Test.YtckbplhplpnhaaaDoorFrS
import Derived.Test.YtckbplhplpnhaaaDoorShB
import Derived.Deep.Cut
namespace Go.Proofs.YtckbplhplpnhaaaDoor
set_option linter.unusedVariables false
open Go.ChangeShapes Go.WideShapes Go.ChangeAt Go.RowKit

/-- what Parse answers -/
def ParseAns (b : List Int) (e : Ending) (w' : World) : Prop :=
  (∃ (f : Fr) (a2 : Option Addr) (c2 : Nat), IsF f b ∧ e = .returned (.tuple #[.agg #[.int .i64 f.kind, .int .i64 f.client, .int .u64 f.token, .int .i64 f.attempt, .int .u64 f.floor, .int .i64 f.method, .int .i64 f.deadline, .int .i64 f.status, .slice a2 f.pay.length c2], .int .i64 0]) ∧ SlB w' a2 f.pay.length c2 f.pay) ∨
  ((∀ f, ¬ IsF f b) ∧ e = .returned (.tuple #[.agg #[.int .i64 0, .int .i64 0, .int .u64 0, .int .i64 0, .int .u64 0, .int .i64 0, .int .i64 0, .int .i64 0, .slice none 0 0], .int .i64 2]))
theorem none_no {b : List Int} (h : b.length < 5 ∨ takes 9 ((b.drop 1).take (b.length - 5)) = none) : ∀ f, ¬ IsF f b := by
  intro f hf
  have h2 := read_is hf
  rcases h with h | h
  · omega
  · rw [h2.2.1] at h; cases h
theorem some_is {b l r : List Int} (h : takes 9 ((b.drop 1).take (b.length - 5)) = some (l, r)) {f : Fr} (hf : IsF f b) : mkF l r = f := by
  have h2 := read_is hf
  rw [h2.2.1] at h
  simp only [Option.some.injEq, Prod.mk.injEq] at h
  rw [← h.1, ← h.2]; exact h2.2.2
theorem clone_cells {w : World} {x : Addr} {n : Nat} {zs : List Int} (h : IsB w (some x) n zs) : ∀ i, i < n → w.cell? (x.add i) = some (.int .u8 (zs.getD i 0)) := by
  intro i hi
  refine isB_cells h i _ ?_
  rw [List.getElem?_map, List.getD_eq_getElem?_getD, List.getElem?_eq_getElem (by rw [h.1]; exact hi)]
  rfl
theorem own_kept {w w' : World} {base : Nat} {v : Value} {xs : List Int} (h : OwnB w base v xs) (hk : ∀ g, base ≤ g → w'.heap[g]? = w.heap[g]?) : OwnB w' base v xs := by
  obtain ⟨h1, h2 | ⟨g, cap, cur, hv, hg, hh, r⟩⟩ := h
  · exact ⟨h1, .inl h2⟩
  · exact ⟨h1, .inr ⟨g, cap, cur, hv, hg, by rw [hk g hg]; exact hh, r⟩⟩
theorem own_slI {w : World} {base : Nat} {a : Option Addr} {n c : Nat} {xs : List Int} (h : OwnB w base (.slice a n c) xs) (hb : ∀ z ∈ xs, 0 ≤ z ∧ z ≤ 255) (hm : xs.length ≤ 281474976710656) : SlB w a n c xs := by
  obtain ⟨a', c', h1, h2⟩ := own_slB h hb hm
  obtain ⟨rfl, rfl, rfl⟩ := Value.slice.inj h1
  exact h2
set_option maxHeartbeats 8000000 in
set_option maxRecDepth 20000 in
theorem parse_any (a : Option Addr) (len cap : Nat) (zs : List Int) (w : World) (hT : Shf w) (hB : SlB w a len cap zs) :
    Calls Tryd.prog 14 #[.slice a len cap] w fun e w' => ParseAns zs e w' ∧ Below w.heap.size w w' := by
  have HB := Lib.hid hB
  have HT := Lib.hid hT
  have HL := Lib.hid hB.1.1
  clear hB hT
  have hb0 : Below w.heap.size w (w.alloc (.cells #[.int .i64 0, .int .i64 0, .int .u64 0, .int .i64 0, .int .u64 0, .int .i64 0, .int .i64 0, .int .i64 0, .slice none 0 0] 25)) := (Below.refl _ _).alloc (Nat.le_refl _) _
  have HB0 := Lib.hid hb0
  have HZ0 := Lib.hid (alloc_heapF w (.cells #[.int .i64 0, .int .i64 0, .int .u64 0, .int .i64 0, .int .u64 0, .int .i64 0, .int .i64 0, .int .i64 0, .slice none 0 0] 25))
  have HR := Lib.hid (read_any a len cap zs _ (slB_old HB.out hb0))
  clear hb0
  obtain ⟨W0, hW0⟩ : ∃ W0, w.alloc (.cells #[.int .i64 0, .int .i64 0, .int .u64 0, .int .i64 0, .int .u64 0, .int .i64 0, .int .i64 0, .int .i64 0, .slice none 0 0] 25) = W0 := ⟨_, rfl⟩
  have hs0 : w.heap.size < W0.heap.size := by rw [← hW0, World.size_alloc]; omega
  rw [hW0] at HB0 HZ0 HR
  go_enter Tryd.func14, Tryd.ntmps14
  go_wp2_with fail
  clear hW0
  refine HR.out.mono ?_
  rintro e w1 ⟨hans, hb1⟩
  have HB1 := Lib.hid hb1
  have hz1 : w1.heap[w.heap.size]? = some (.cells #[.int .i64 0, .int .i64 0, .int .u64 0, .int .i64 0, .int .u64 0, .int .i64 0, .int .i64 0, .int .i64 0, .slice none 0 0] 25 (0, 0)) := by rw [hb1.block _ hs0]; exact HZ0.out
  have hs1 : w.heap.size < w1.heap.size := by have := hb1.size; omega
  have HBw1 := Lib.hid (HB0.out.trans (hb1.mono (by omega)))
  clear hb1 HR
  rcases hans with ⟨l, r, x2, c2, h5, htk, rfl, hsr⟩ | ⟨hno, rfl⟩
  · obtain ⟨k, hk⟩ : ∃ k, IntKind.i64.wrap (l.getD 0 0) = k := ⟨_, rfl⟩
    obtain ⟨cl, hcl⟩ : ∃ k, IntKind.i64.wrap (l.getD 1 0) = k := ⟨_, rfl⟩
    obtain ⟨tk, htk2⟩ : ∃ k, l.getD 2 0 = k := ⟨_, rfl⟩
    obtain ⟨at1, hat⟩ : ∃ k, IntKind.i64.wrap (l.getD 3 0) = k := ⟨_, rfl⟩
    obtain ⟨fl, hfl⟩ : ∃ k, l.getD 4 0 = k := ⟨_, rfl⟩
    obtain ⟨me, hme⟩ : ∃ k, IntKind.i64.wrap (l.getD 5 0) = k := ⟨_, rfl⟩
    obtain ⟨dl, hdl⟩ : ∃ k, IntKind.i64.wrap (l.getD 6 0) = k := ⟨_, rfl⟩
    obtain ⟨st, hst⟩ : ∃ k, IntKind.i64.wrap (l.getD 7 0) = k := ⟨_, rfl⟩
    rw [hk, hcl, htk2, hat, hfl, hme, hdl, hst]
    have HF : Hid (mkF l r = ⟨k, cl, tk, at1, fl, me, dl, st, r⟩) := by
      refine (?_ : _ = _)
      unfold mkF
      rw [hk, hcl, htk2, hat, hfl, hme, hdl, hst]
    clear hk hcl htk2 hat hfl hme hdl hst
    have hzb : ∀ z ∈ (zs.drop 1).take (zs.length - 5), 0 ≤ z ∧ z ≤ 255 := fun z hz => isB_bt HB.out.1 z (List.mem_of_mem_drop (List.mem_of_mem_take hz))
    have hrn := takes_rn _ _ _ _ hzb htk
    have hrg := mkF_rng hrn.1 hrn.2
    rw [HF.out] at hrg
    have HTK := Lib.hid htk
    have hb2 : Below w1.heap.size w1 (w1.alloc (.cells #[.int .i64 k, .int .i64 cl, .int .u64 tk, .int .i64 at1, .int .u64 fl, .int .i64 me, .int .i64 dl, .int .i64 st, .slice (some x2) r.length c2] 25)) := (Below.refl _ _).alloc (Nat.le_refl _) _
    have hbw2 := HBw1.out.trans (hb2.mono (by omega))
    have HBU := Lib.hid (build_any k cl tk at1 fl me dl st r (some x2) c2 (w1.alloc (.cells #[.int .i64 k, .int .i64 cl, .int .u64 tk, .int .i64 at1, .int .u64 fl, .int .i64 me, .int .i64 dl, .int .i64 st, .slice (some x2) r.length c2] 25)) (HT.out.below hbw2) hrg (slB_old hsr hb2).1 (by intro e; cases e))
    have HSR := Lib.hid (slB_old hsr hb2)
    have HBw2 := Lib.hid hbw2
    have HRB := Lib.hid hrn.2
    have hz2 : (w1.alloc (.cells #[.int .i64 k, .int .i64 cl, .int .u64 tk, .int .i64 at1, .int .u64 fl, .int .i64 me, .int .i64 dl, .int .i64 st, .slice (some x2) r.length c2] 25)).heap[w.heap.size]? = some (.cells #[.int .i64 0, .int .i64 0, .int .u64 0, .int .i64 0, .int .u64 0, .int .i64 0, .int .i64 0, .int .i64 0, .slice none 0 0] 25 (0, 0)) := by rw [hb2.block _ hs1]; exact hz1
    have HV2 := Lib.hid (alloc_heapF w1 (.cells #[.int .i64 k, .int .i64 cl, .int .u64 tk, .int .i64 at1, .int .u64 fl, .int .i64 me, .int .i64 dl, .int .i64 st, .slice (some x2) r.length c2] 25))
    have HZ2 := Lib.hid hz2
    clear hzb hrn hrg htk hsr hb2 hbw2 hz1 hz2
    obtain ⟨W2, hW2⟩ : ∃ W2, w1.alloc (.cells #[.int .i64 k, .int .i64 cl, .int .u64 tk, .int .i64 at1, .int .u64 fl, .int .i64 me, .int .i64 dl, .int .i64 st, .slice (some x2) r.length c2] 25) = W2 := ⟨_, rfl⟩
    have hs2 : w1.heap.size < W2.heap.size := by rw [← hW2, World.size_alloc]; omega
    have hcv : W2.heap[w1.heap.size]? = some (.cells #[.int .i64 k, .int .i64 cl, .int .u64 tk, .int .i64 at1, .int .u64 fl, .int .i64 me, .int .i64 dl, .int .i64 st, .slice (some x2) r.length c2] 25 (0, 0)) := by rw [← hW2]; exact HV2.out
    rw [hW2] at HBU HSR HBw2 HV2 HZ2
    obtain ⟨⟨p0, p1, p2, p3, p4, p5, p6, p7, p8⟩, pfr⟩ := cells9 hcv
    have HCV := Lib.hid hcv
    clear hcv HV2
    go_wp2_with fail
    refine HBU.out.mono ?_
    rintro e w3 ⟨hans, hb3⟩
    clear p0 p1 p2 p3 p4 p5 p6 p7 p8 pfr hW2 HBU
    have hz3 : w3.heap[w.heap.size]? = some (.cells #[.int .i64 0, .int .i64 0, .int .u64 0, .int .i64 0, .int .u64 0, .int .i64 0, .int .i64 0, .int .i64 0, .slice none 0 0] 25 (0, 0)) := by rw [hb3.block _ (by omega)]; exact HZ2.out
    have hv3 : w3.heap[w1.heap.size]? = some (.cells #[.int .i64 k, .int .i64 cl, .int .u64 tk, .int .i64 at1, .int .u64 fl, .int .i64 me, .int .i64 dl, .int .i64 st, .slice (some x2) r.length c2] 25 (0, 0)) := by rw [hb3.block _ hs2]; exact HCV.out
    have hbw3 := HBw2.out.trans (hb3.mono (by omega))
    have hsr3 := slB_old HSR.out hb3
    have hsB3 := slB_old HB.out hbw3
    have hs3 := hb3.size
    obtain ⟨⟨z0, z1, z2, z3, z4, z5, z6, z7, z8⟩, hfr⟩ := cells9 hz3
    have HZ3 := Lib.hid hz3
    have HV3 := Lib.hid hv3
    have HB3 := Lib.hid hb3
    have HBw3 := Lib.hid hbw3
    have HSR3 := Lib.hid hsr3
    have HSB3 := Lib.hid hsB3
    clear hz3 hv3 hb3 hbw3 hsr3 hsB3
    rcases hans with ⟨hno, rfl⟩ | ⟨hok, v, rfl, how⟩
    · have HNO : Hid (∀ f, ¬ IsF f zs) := by
        refine (?_ : ∀ f, ¬ IsF f zs)
        intro f hf
        have h1 := some_is HTK.out hf
        rw [HF.out] at h1
        rw [h1, hf.1] at hno
        cases hno
      clear hno
      go_wp2
      obtain ⟨Y, hY, hYc, _, _, hYb⟩ := set9_all HZ3.out (.int .i64 0) (.int .i64 0) (.int .u64 0) (.int .i64 0) (.int .u64 0) (.int .i64 0) (.int .i64 0) (.int .i64 0) (.slice none 0 0)
      rw [hY]
      obtain ⟨⟨y0, y1, y2, y3, y4, y5, y6, y7, y8⟩, _⟩ := cells9 hYc
      refine bodyPost_ret (v := .tuple #[.agg #[.int .i64 0, .int .i64 0, .int .u64 0, .int .i64 0, .int .u64 0, .int .i64 0, .int .i64 0, .int .i64 0, .slice none 0 0], .int .i64 2]) (by simp [results, Tryd.results14, go_sem, y0, y1, y2, y3, y4, y5, y6, y7, y8]) rfl ?_
      exact ⟨.inr ⟨HNO.out, rfl⟩, HBw3.out.trans hYb⟩
    · have hbb : ∀ z ∈ bytesF ⟨k, cl, tk, at1, fl, me, dl, st, r⟩, 0 ≤ z ∧ z ≤ 255 := bytes_bytes HRB.out
      have htok : (⟨k, cl, tk, at1, fl, me, dl, st, r⟩ : Fr).token ≤ 18446744073709551615 := by
        have := (mkF_rng (takes_rn _ _ _ _ (fun z hz => isB_bt HB.out.1 z (List.mem_of_mem_drop (List.mem_of_mem_take hz))) HTK.out).1 HRB.out).2.2.1
        rw [HF.out] at this; exact this.2
      have hbl : (bytesF ⟨k, cl, tk, at1, fl, me, dl, st, r⟩).length ≤ 5004 := by
        have := body_len hok htok
        rw [bytes_len]; omega
      obtain ⟨a3, c3, rfl, hI3⟩ := own_slB how hbb (by omega)
      have HEQ := Lib.hid (equal_any a3 a (bytesF ⟨k, cl, tk, at1, fl, me, dl, st, r⟩).length c3 len cap (bytesF ⟨k, cl, tk, at1, fl, me, dl, st, r⟩) zs w3 hI3.1 HSB3.out.1)
      have HOK := Lib.hid hok
      have HTOK := Lib.hid htok
      clear hbb hbl hI3 how hok htok
      obtain ⟨b, hb⟩ : ∃ b, decide (bytesF ⟨k, cl, tk, at1, fl, me, dl, st, r⟩ = zs) = b := ⟨_, rfl⟩
      rw [hb] at HEQ
      have HBB := Lib.hid hb
      clear hb
      cases b with
      | false =>
        have HNO : Hid (∀ f, ¬ IsF f zs) := by
          refine (?_ : ∀ f, ¬ IsF f zs)
          intro f hf
          have h1 := some_is HTK.out hf
          rw [HF.out] at h1
          have h2 := of_decide_eq_false HBB.out
          rw [h1] at h2
          exact h2 hf.2.2
        go_wp2_with (go_at_call 25; refine HEQ.out.mono ?_; rintro e w4 ⟨rfl, rfl⟩)
        obtain ⟨Y, hY, hYc, _, _, hYb⟩ := set9_all HZ3.out (.int .i64 0) (.int .i64 0) (.int .u64 0) (.int .i64 0) (.int .u64 0) (.int .i64 0) (.int .i64 0) (.int .i64 0) (.slice none 0 0)
        rw [hY]
        obtain ⟨⟨y0, y1, y2, y3, y4, y5, y6, y7, y8⟩, _⟩ := cells9 hYc
        refine bodyPost_ret (v := .tuple #[.agg #[.int .i64 0, .int .i64 0, .int .u64 0, .int .i64 0, .int .u64 0, .int .i64 0, .int .i64 0, .int .i64 0, .slice none 0 0], .int .i64 2]) (by simp [results, Tryd.results14, go_sem, y0, y1, y2, y3, y4, y5, y6, y7, y8]) rfl ?_
        exact ⟨.inr ⟨HNO.out, rfl⟩, HBw3.out.trans hYb⟩
      | true =>
        have HIS : Hid (IsF ⟨k, cl, tk, at1, fl, me, dl, st, r⟩ zs) := ⟨HOK.out, HTOK.out, of_decide_eq_true HBB.out⟩
        have HCL := Lib.hid (bytes_Clone_at x2 r.length c2 r w3 rfl (by have := (okF_iff _).1 HOK.out; simp only at this; omega) (clone_cells HSR3.out.1))
        obtain ⟨⟨p0, p1, p2, p3, p4, p5, p6, p7, p8⟩, pfr⟩ := cells9 HV3.out
        clear z0 z1 z2 z3 z4 z5 z6 z7 z8 hfr
        go_wp2_with (go_at_call 25; refine HEQ.out.mono ?_; rintro e w4 ⟨rfl, rfl⟩)
        refine HCL.out.mono ?_
        rintro e w5 ⟨v5, rfl, how5, hnn5, hb5⟩
        clear p0 p1 p2 p3 p4 p5 p6 p7 p8 pfr
        obtain ⟨a5, c5, rfl, hs5⟩ := own_slB (show OwnB w5 w4.heap.size v5 r from how5) HRB.out (by have := (okF_iff _).1 HOK.out; simp only at this; omega)
        have hz5 : w5.heap[w.heap.size]? = some (.cells #[.int .i64 0, .int .i64 0, .int .u64 0, .int .i64 0, .int .u64 0, .int .i64 0, .int .i64 0, .int .i64 0, .slice none 0 0] 25 (0, 0)) := by rw [hb5.block _ (by omega)]; exact HZ3.out
        have hv5 : w5.heap[w1.heap.size]? = some (.cells #[.int .i64 k, .int .i64 cl, .int .u64 tk, .int .i64 at1, .int .u64 fl, .int .i64 me, .int .i64 dl, .int .i64 st, .slice (some x2) r.length c2] 25 (0, 0)) := by rw [hb5.block _ (by omega)]; exact HV3.out
        have HB5 := Lib.hid (HBw3.out.trans (hb5.mono (by have := HBw3.out.size; omega)))
        have HO5 : Hid (OwnB w5 w4.heap.size (.slice a5 r.length c5) r) := how5
        have hs5z : w1.heap.size < w5.heap.size := by have := hb5.size; omega
        obtain ⟨⟨p0, p1, p2, p3, p4, p5, p6, p7, p8⟩, pfr⟩ := cells9 hv5
        have HZ5 := Lib.hid hz5
        have HV5 := Lib.hid hv5
        have HG5 := Lib.hid (World.grownBy.refl w5 none)
        clear hz5 hv5 how5 hnn5 hb5 hs5 HCL
        go_upto_region 8 with fail
        clear p0 p1 p2 p3 p4 p5 p6 p7 p8 pfr
        have hv6 : (w5.setCell ⟨w1.heap.size, 8, none⟩ (.slice a5 r.length c5)).heap[w1.heap.size]? = some (.cells #[.int .i64 k, .int .i64 cl, .int .u64 tk, .int .i64 at1, .int .u64 fl, .int .i64 me, .int .i64 dl, .int .i64 st, .slice a5 r.length c5] 25 (0, 0)) := setCell_row HV5.out _
        have hz6 : (w5.setCell ⟨w1.heap.size, 8, none⟩ (.slice a5 r.length c5)).heap[w.heap.size]? = some (.cells #[.int .i64 0, .int .i64 0, .int .u64 0, .int .i64 0, .int .u64 0, .int .i64 0, .int .i64 0, .int .i64 0, .slice none 0 0] 25 (0, 0)) := by
          rw [Below.heap_setCell _ _ _ _ (show w.heap.size ≠ (⟨w1.heap.size, 8, none⟩ : Addr).block from by simp; omega)]
          exact HZ5.out
        have hb6 : Below w1.heap.size w5 (w5.setCell ⟨w1.heap.size, 8, none⟩ (.slice a5 r.length c5)) := (Below.refl _ _).setCell (p := ⟨w1.heap.size, 8, none⟩) (Nat.le_refl _) _
        obtain ⟨W6, hW6⟩ : ∃ W6, w5.setCell ⟨w1.heap.size, 8, none⟩ (.slice a5 r.length c5) = W6 := ⟨_, rfl⟩
        have HW6 : Hid (∀ g, g ≠ w1.heap.size → W6.heap[g]? = w5.heap[g]?) := by
          refine (?_ : ∀ g, _ → _)
          intro g hg
          rw [← hW6]
          exact Below.heap_setCell _ _ _ _ (show g ≠ (⟨w1.heap.size, 8, none⟩ : Addr).block from hg)
        rw [hW6] at hv6 hz6 hb6 ⊢
        clear hW6
        obtain ⟨⟨p0, p1, p2, p3, p4, p5, p6, p7, p8⟩, pfr⟩ := cells9 hv6
        obtain ⟨⟨z0, z1, z2, z3, z4, z5, z6, z7, z8⟩, hfr⟩ := cells9 hz6
        have HZ6 := Lib.hid hz6
        have HB6 := Lib.hid hb6
        clear hz6 hv6 hb6
        go_wp2
        obtain ⟨Y, hY, hYc, hYo, _, hYb⟩ := set9_all HZ6.out (.int .i64 k) (.int .i64 cl) (.int .u64 tk) (.int .i64 at1) (.int .u64 fl) (.int .i64 me) (.int .i64 dl) (.int .i64 st) (.slice a5 r.length c5)
        rw [hY]
        obtain ⟨⟨y0, y1, y2, y3, y4, y5, y6, y7, y8⟩, _⟩ := cells9 hYc
        refine bodyPost_ret (v := .tuple #[.agg #[.int .i64 k, .int .i64 cl, .int .u64 tk, .int .i64 at1, .int .u64 fl, .int .i64 me, .int .i64 dl, .int .i64 st, .slice a5 r.length c5], .int .i64 0]) (by simp [results, Tryd.results14, go_sem, y0, y1, y2, y3, y4, y5, y6, y7, y8]) rfl ?_
        exact ⟨.inl ⟨⟨k, cl, tk, at1, fl, me, dl, st, r⟩, a5, c5, HIS.out, rfl, own_slI (own_kept HO5.out (fun g hg => by rw [hYo g (by omega), HW6.out g (by omega)])) HRB.out (by have := (okF_iff _).1 HOK.out; simp only at this; show r.length ≤ _; omega)⟩, (HB5.out.trans (HB6.out.mono (by omega))).trans hYb⟩
  · have HNO := Lib.hid (none_no hno)
    have hz2 : (w1.alloc (.cells #[.int .i64 0, .int .i64 0, .int .u64 0, .int .i64 0, .int .u64 0, .int .i64 0, .int .i64 0, .int .i64 0, .slice none 0 0] 25)).heap[w.heap.size]? = some (.cells #[.int .i64 0, .int .i64 0, .int .u64 0, .int .i64 0, .int .u64 0, .int .i64 0, .int .i64 0, .int .i64 0, .slice none 0 0] 25 (0, 0)) := by rw [Below.heap_alloc _ _ _ hs1]; exact hz1
    obtain ⟨⟨t0, t1, t2, t3, t4, t5, t6, t7, t8⟩, tfr⟩ := cells9 hz1
    have hne : ¬ w.heap.size = w1.heap.size := by omega
    have HZ1 := Lib.hid hz1
    clear hno hz1 hz2
    go_wp2
    obtain ⟨Y, hY, hYc, _, hYs, hYb⟩ := set9_all HZ1.out (.int .i64 0) (.int .i64 0) (.int .u64 0) (.int .i64 0) (.int .u64 0) (.int .i64 0) (.int .i64 0) (.int .i64 0) (.slice none 0 0)
    rw [hY]
    have hlt : w.heap.size < Y.heap.size := by omega
    have hYa : (Y.alloc (.cells #[.int .i64 0, .int .i64 0, .int .u64 0, .int .i64 0, .int .u64 0, .int .i64 0, .int .i64 0, .int .i64 0, .slice none 0 0] 25)).heap[w.heap.size]? = some (.cells #[.int .i64 0, .int .i64 0, .int .u64 0, .int .i64 0, .int .u64 0, .int .i64 0, .int .i64 0, .int .i64 0, .slice none 0 0] 25 (0, 0)) := by rw [Below.heap_alloc _ _ _ hlt]; exact hYc
    obtain ⟨⟨y0, y1, y2, y3, y4, y5, y6, y7, y8⟩, _⟩ := cells9 hYc
    refine bodyPost_ret (v := .tuple #[.agg #[.int .i64 0, .int .i64 0, .int .u64 0, .int .i64 0, .int .u64 0, .int .i64 0, .int .i64 0, .int .i64 0, .slice none 0 0], .int .i64 2]) (by simp [results, Tryd.results14, go_sem, hlt, y0, y1, y2, y3, y4, y5, y6, y7, y8]) rfl ?_
    exact ⟨.inr ⟨HNO.out, rfl⟩, (HBw1.out.trans hYb).alloc (by omega) _⟩
end Go.Proofs.YtckbplhplpnhaaaDoor
