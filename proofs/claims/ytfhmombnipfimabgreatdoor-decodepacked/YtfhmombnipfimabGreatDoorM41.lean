/-
  The walk over the program's Get, of a message with one field at the most, whose values are numbers: how many there are.
  The walk over the document's own Varint and Size: to a slice that the call itself has made the shortest varint is appended; what was there before is left.
  The walk over the document's own Low: so many bytes of a number, the lowest first, in new memory; what was there before is left.
-/
import Derived.Test.YtfhmombnipfimabGreatDoorM15
import Derived.Test.YtfhmombnipfimabGreatDoorM4
import Derived.Test.YtfhmombnipfimabGreatDoorM3
import Derived.Test.YtfhmombnipfimabGreatDoorM10
import Derived.Test.YtfhmombnipfimabGreatDoorM9
namespace Go.Proofs.YtfhmombnipfimabGreatDoor
set_option linter.unusedVariables false
open Go.ChangeShapes Go.WideShapes Go.ChangeAt Go.RowKit

set_option maxHeartbeats 16000000 in
set_option maxRecDepth 20000 in
theorem copiedL_any (x : Nd) (fs kf : Value) (w : World) (hk : x.kind = 1 ∨ x.kind = 2 ∨ x.kind = 3) :
    Calls Tryz.prog 38 #[ival x fs, kf] w fun e w' => e = .returned (ival x fs) ∧ Below w.heap.size w w' := by
  have t4 := fun W => taText x fs W
  have t5 := fun W => taBytes x fs W
  have t7 := fun W => taMessage x fs W
  have h4 : ¬ x.kind = 4 := by omega
  have h5 : ¬ x.kind = 5 := by omega
  have h7 : ¬ x.kind = 7 := by omega
  rw [if_neg h4, decide_eq_false h4] at t4
  rw [if_neg h5, decide_eq_false h5] at t5
  rw [if_neg h7, decide_eq_false h7] at t7
  obtain ⟨v, hv⟩ : ∃ v, ival x fs = v := ⟨_, rfl⟩
  rw [hv] at t4 t5 t7 ⊢
  obtain ⟨Y, hY, hC, hb, hYs⟩ := box_new w #[.int .i64 0, .slice none 0 0, .string ⟨#[]⟩] 76
  have HY := Lib.hid hY
  have HB := Lib.hid hb
  clear hk hv hY hC hb hYs h4 h5 h7
  go_enter Tryz.func38, Tryz.ntmps38
  go_upto_region 8 with fail
  rw [HY.out]
  go_wp2_with fail
  go_ret
  exact ⟨rfl, HB.out⟩
set_option maxHeartbeats 16000000 in
set_option maxRecDepth 20000 in
theorem endlessL_any (x : Nd) (fs : Value) (w : World) (hk : x.kind = 1 ∨ x.kind = 2 ∨ x.kind = 3) :
    Calls Tryz.prog 64 #[ival x fs, .int .i64 1] w fun e w' => e = .returned (.bool false) ∧ Below w.heap.size w w' := by
  have t7 := fun W => taMessage x fs W
  have h7 : ¬ x.kind = 7 := by omega
  rw [if_neg h7, decide_eq_false h7] at t7
  obtain ⟨v, hv⟩ : ∃ v, ival x fs = v := ⟨_, rfl⟩
  rw [hv] at t7 ⊢
  obtain ⟨Y, hY, hC, hb, hYs⟩ := box_new w #[.int .i64 0, .slice none 0 0, .string ⟨#[]⟩] 76
  have HY := Lib.hid hY
  have HB := Lib.hid hb
  clear hk hv hY hC hb hYs h7
  go_enter Tryz.func64, Tryz.ntmps64
  go_upto_region 2 with fail
  rw [HY.out]
  go_wp2_with fail
  go_ret
  exact ⟨rfl, HB.out⟩
set_option maxHeartbeats 16000000 in
set_option maxRecDepth 20000 in
theorem freshL_any (x : Nd) (fs : Value) (w : World) (hk : x.kind = 1 ∨ x.kind = 2 ∨ x.kind = 3) :
    Calls Tryz.prog 41 #[ival x fs] w fun e w' => e = .returned (ival x fs) ∧ Below w.heap.size w w' := by
  have h1 := endlessL_any x fs w hk
  have h2 := fun kf W => copiedL_any x fs kf W hk
  obtain ⟨v, hv⟩ : ∃ v, ival x fs = v := ⟨_, rfl⟩
  rw [hv] at h1 h2 ⊢
  clear hk hv
  go_enter Tryz.func41, Tryz.ntmps41
  go_wp2_with fail
  refine h1.mono ?_
  rintro e W ⟨rfl, hb⟩
  have HB := Lib.hid hb
  clear h1 hb
  go_wp2_with fail
  refine (h2 _ _).mono ?_
  rintro e W2 ⟨rfl, hb⟩
  have HB2 := Lib.hid (HB.out.trans (hb.mono HB.out.size))
  clear h2 hb
  go_wp2_with fail
  go_ret
  exact ⟨rfl, HB2.out⟩
theorem ival_iface (x : Nd) (fs : Value) (hk : x.kind = 1 ∨ x.kind = 2 ∨ x.kind = 3) : ∃ U u, ival x fs = .iface U u := by
  unfold ival
  rcases hk with h | h | h <;> rw [h] <;> exact ⟨_, _, rfl⟩
set_option maxHeartbeats 64000000 in
set_option maxRecDepth 20000 in
theorem freshValuesL_any (f : Nat) (x : Nd) (v : Value) (num : Int) (ys : List Nd) (w : World) (h7 : x.kind = 7) (hx : x.fields = if ys.length = 0 then [] else [(num, ys)]) (hy : ∀ y ∈ ys, y.kind = 1 ∨ y.kind = 2 ∨ y.kind = 3) (hl : ys.length ≤ 1000) (hHV : HeldV w (fun b => b < w.heap.size) f v x) :
    Calls Tryz.prog 24 #[v, .int .i64 num] w fun e w' => (∃ a c, e = .returned (.slice a ys.length c)) ∧ Below w.heap.size w w' := by
  obtain ⟨fs, rfl, hHG⟩ := hHV
  have t7 := fun W => taMessage x fs W
  rw [if_pos h7, decide_eq_true h7] at t7
  replace hHG := hHG h7
  obtain ⟨xa, xc, rfl⟩ := HeldG.isSl hHG
  obtain ⟨xkind, xn, xu, xb, xs, xt, fl⟩ := x
  dsimp only at h7 hHG t7 hx ⊢
  subst h7
  obtain ⟨n, hn⟩ : ∃ n, fl.length = n := ⟨_, rfl⟩
  have HN := Lib.hid hn
  rw [hn] at hHG t7 ⊢
  have HHG := Lib.hid hHG
  have HX := Lib.hid hx
  have HY := Lib.hid hy
  obtain ⟨v, hv⟩ : ∃ v, ival ⟨7, xn, xu, xb, xs, xt, fl⟩ (.slice xa n xc) = v := ⟨_, rfl⟩
  rw [hv] at t7 ⊢
  obtain ⟨Y, hY, hC, hb, hYs⟩ := box_new w #[.int .i64 xt, .slice xa n xc, .string (mkB xs)] 76
  have HYE := Lib.hid hY
  have HBY := Lib.hid hb
  have hYl : w.heap.size + 1 ≤ Y.heap.size := by omega
  have v1 : Y.cell? ⟨w.heap.size, 1, none⟩ = some (.slice xa n xc) := cell_at hC 1 rfl
  obtain ⟨mv, hmv⟩ : ∃ m, ys.length = m := ⟨_, rfl⟩
  have HMV := Lib.hid hmv
  rw [hmv] at hl HX ⊢
  clear hn hHG hx hy hv hY hC hb hYs hmv
  go_enter Tryz.func24, Tryz.ntmps24
  go_upto_region 2 with fail
  rw [HYE.out]
  clear t7
  go_wp2_with fail
  go_loopw [22] (fun i wr => i = .int .i64 0 ∧ wr = Y) (fun i _ => 0)
  case atStart => exact ⟨rfl, rfl⟩
  case round =>
    obtain ⟨rfl, rfl⟩ := hrel
    by_cases hjn : mv = 0
    · have hfl := HX.out
      rw [if_pos hjn] at hfl
      have hn0 : n = 0 := by rw [← HN.out, hfl]; rfl
      subst hn0
      subst hjn
      go_wp2_with fail
      go_ret
      exact ⟨⟨_, _, rfl⟩, HBY.out⟩
    · have hfl := HX.out
      rw [if_neg hjn] at hfl
      have hn1 : n = 1 := by rw [← HN.out, hfl]; rfl
      have hy0 : fl[0]? = some (num, ys) := by rw [hfl]; rfl
      obtain ⟨f', g, go, gc, va, vc, hf', hsl, hg, e0, e1, hvals⟩ := HeldG.at HHG.out (W := wr) (fun b hb => HBY.out.block b hb) hy0
      subst hf'
      rw [HN.out] at hsl
      obtain ⟨rfl, rfl⟩ := slice_two hsl
      have hnp : (0 : Int) < (n : Int) := by omega
      have hnp2 : 0 < n := by omega
      clear hn1
      dsimp only at hvals e0 e1
      rw [HMV.out] at e1 hvals
      have HVA := Lib.hid hvals
      replace e0 : wr.cell? ⟨g, go, none⟩ = some (.int .i64 num) := by simpa using e0
      replace e1 : wr.cell? ⟨g, go + 1, none⟩ = some (.slice va mv vc) := by simpa using e1
      have hgN : g < w.heap.size := hg
      clear hsl hy0 hvals hg hfl
      have hC : (wr.alloc (.cells #[.int .i64 num, .slice va mv vc] 78)).heap[wr.heap.size]? = some (.cells #[.int .i64 num, .slice va mv vc] 78 (0, 0)) := alloc_heap_new _ _
      have hCb : Below wr.heap.size wr (wr.alloc (.cells #[.int .i64 num, .slice va mv vc] 78)) := (Below.refl _ wr).alloc (Nat.le_refl _) _
      go_upto_region 7 with fail
      generalize (wr.alloc (.cells #[.int .i64 num, .slice va mv vc] 78)) = U at *
      have hXs : wr.heap.size + 1 ≤ U.heap.size := by have := (Array.getElem?_eq_some_iff.1 hC).1; omega
      have HBU := Lib.hid hCb
      have HFU := Lib.hid hC
      have u0 : U.cell? ⟨wr.heap.size, 0, none⟩ = some (.int .i64 num) := cell_at hC 0 rfl
      have u1 : U.cell? ⟨wr.heap.size, 1, none⟩ = some (.slice va mv vc) := cell_at hC 1 rfl
      have hmk := run_makeV U mv (by omega)
      obtain ⟨B, hB, hBC, hBb, hBs⟩ := box_new U (List.replicate mv Value.nilIface).toArray 38
      rw [hB] at hmk
      have HBB := Lib.hid hBb
      have HBC := Lib.hid hBC
      have b1 : B.cell? ⟨wr.heap.size, 1, none⟩ = some (.slice va mv vc) := (hBb.cell (by simp; omega)).trans u1
      have hBl : U.heap.size + 1 ≤ B.heap.size := by omega
      clear hB hBC hBb hBs hC hCb e0 e1
      go_wp2_with fail
      clear u0 u1 b1 hmk
      have HBW := Lib.hid (HBY.out.trans (HBU.out.mono HBY.out.size))
      generalize wr = Y0 at *
      go_loopw [37] (fun i wr => ∃ (p : Nat) (vs : List Value), i = .int .i64 (p : Int) ∧ p ≤ mv ∧ Below U.heap.size U wr ∧ U.heap.size + 1 ≤ wr.heap.size ∧ wr.heap[U.heap.size]? = some (.cells (vs ++ List.replicate (mv - p) Value.nilIface).toArray 38 (0, 0)) ∧ vs.length = p) (fun i _ => mv - (intOf i).toNat)
      case atStart => exact ⟨0, [], rfl, Nat.zero_le _, HBB.out, hBl, HBC.out, rfl⟩
      case round =>
        generalize wr = w2 at *
        obtain ⟨p, vs, rfl, hp, hbel, hws2, hbx, hvl⟩ := hrel
        have HB2 := Lib.hid hbel
        have HX2 := Lib.hid hbx
        have hBw2 := HBW.out.trans (hbel.mono HBW.out.size)
        have HBW2 := Lib.hid hBw2
        have HVL := Lib.hid hvl
        clear hbel hbx hvl HBB HBC
        by_cases hpn : p < mv
        · obtain ⟨c, hc⟩ : ∃ c, ys[p]? = some c := ⟨_, List.getElem?_eq_getElem (by have := HMV.out; omega)⟩
          obtain ⟨g2, o2, c2, fs2, hsl2, hg2, hcl, hheld⟩ := ValsG.at HVA.out hc
          rw [HMV.out] at hsl2
          obtain ⟨rfl, rfl⟩ := slice_two hsl2
          have hg2N : g2 < w.heap.size := hg2
          have hcl2 := hcl.old (hBw2.block g2 hg2N)
          have hck := HY.out c (List.mem_of_getElem? hc)
          have y0 : w2.cell? ⟨g2, o2 + p, none⟩ = some (ival c fs2) := by have := hcl2 0 _ rfl; simpa [valS] using this
          have hcall := freshL_any c fs2 w2 hck
          obtain ⟨U5, u5, hv2⟩ := ival_iface c fs2 hck
          rw [hv2] at y0 hcall
          have hp0 : (0 : Int) ≤ (p : Int) := by omega
          have hp1 : (p : Int) < (mv : Int) := by omega
          have hwp : IntKind.i64.wrap ((p : Int) + 1) = (p : Int) + 1 := by rw [IntKind.wrap_i64]; omega
          clear hsl2 hc hg2 hcl hheld hcl2 hck hBw2 hv2
          go_wp2_with fail
          refine hcall.mono ?_
          rintro e W5 ⟨rfl, hb5⟩
          have hW5 := hb5.size
          have hX5 := (hb5.block U.heap.size (by omega)).trans HX2.out
          obtain ⟨k, hk⟩ : ∃ k, mv - p = k + 1 := ⟨mv - p - 1, by omega⟩
          rw [hk] at hX5
          have c5 : W5.cell? ⟨U.heap.size, p, none⟩ = some .nilIface := by
            simp only [World.cell?, hX5]
            have hvl := HVL.out
            simp [hvl, List.replicate_succ]
          have f5 : W5.frozen? ⟨U.heap.size, p, none⟩ = false := frz_at hX5 p
          obtain ⟨Q, hQ⟩ : ∃ Q, W5.setCell ⟨U.heap.size, p, none⟩ (.iface U5 u5) = Q := ⟨_, rfl⟩
          have hQp : Q.heap[U.heap.size]? = some (.cells ((vs ++ [Value.iface U5 u5]) ++ List.replicate (mv - (p + 1)) Value.nilIface).toArray 38 (0, 0)) := by
            rw [← hQ, setCell_heap hX5, set_made HVL.out, show mv - (p + 1) = k by omega]
          have hQs : Q.heap.size = W5.heap.size := by rw [← hQ]; simp
          have hQb : Below U.heap.size U Q := by rw [← hQ]; exact (HB2.out.trans (hb5.mono (by omega))).setCell (p := ⟨U.heap.size, p, none⟩) (Nat.le_refl _) _
          have HQ := Lib.hid hQ
          have HQP := Lib.hid hQp
          have HQB := Lib.hid hQb
          have hQl : U.heap.size + 1 ≤ Q.heap.size := by omega
          clear hQ hQp hQs hQb hb5 hX5 hcall y0
          go_wp2_with fail
          rw [HQ.out]
          clear c5 f5
          try go_wp2_with fail
          go_roundw
          case rel => exact ⟨p + 1, _, by go_num, by omega, HQB.out, hQl, HQP.out, by rw [List.length_append, HVL.out]; rfl⟩
          case measure => simp [intOf]; omega
        · have hpn' : ¬ (p : Int) < (mv : Int) := by omega
          clear hBw2
          go_wp2_with fail
          go_ret
          exact ⟨⟨_, _, rfl⟩, HBW2.out⟩
set_option maxHeartbeats 16000000 in
set_option maxRecDepth 20000 in
theorem getL_any (f : Nat) (x : Nd) (v : Value) (num : Int) (ys : List Nd) (w : World) (h7 : x.kind = 7) (hx : x.fields = if ys.length = 0 then [] else [(num, ys)]) (hy : ∀ y ∈ ys, y.kind = 1 ∨ y.kind = 2 ∨ y.kind = 3) (hl : ys.length ≤ 1000) (hHV : HeldV w (fun b => b < w.heap.size) f v x) :
    Calls Tryz.prog 11 #[v, .int .i64 num] w fun e w' => (∃ a c, e = .returned (.slice a ys.length c)) ∧ Below w.heap.size w w' := by
  have h := freshValuesL_any f x v num ys w h7 hx hy hl hHV
  clear h7 hx hy hHV
  go_enter Tryz.func11, Tryz.ntmps11
  go_wp2_with fail
  refine h.mono ?_
  rintro e W ⟨⟨a, c, rfl⟩, hb⟩
  clear h
  go_wp2_with fail
  go_ret
  exact ⟨⟨_, _, rfl⟩, hb⟩
end Go.Proofs.YtfhmombnipfimabGreatDoor
namespace Go.Proofs.YtfhmombnipfimabGreatDoor
set_option linter.unusedVariables false
open Go.ChangeShapes Go.WideShapes Go.ChangeAt Go.RowKit

set_option maxHeartbeats 1000000 in
theorem varintR_any (v : Value) (base : Nat) (xs : List Int) (n : Nat) (w : World) (hO : OwnE w base v xs) (hn : n ≤ 18446744073709551615) (hl : xs.length ≤ 140737488351300) (hb : base ≤ w.heap.size) :
    Calls Tryz.prog 12 #[v, .int .u64 n] w fun e w' =>
      ∃ v', e = .returned v' ∧ OwnB w' base v' (xs ++ vint n) ∧ Below base w w' := by
  have HO : Hid (OwnE w base v xs) := hO
  have HN : Hid (n ≤ 18446744073709551615) := hn
  have hle := vint_ten hn
  have HLn : Hid ((vint n).length ≤ 10) := hle
  clear hO hn hle
  go_enter Tryz.func12, Tryz.ntmps12
  go_wp2_with fail
  go_loopw [0, 1] (fun b x wr => ∃ (d : List Int) (m : Nat) (M : Int), M = (m : Int) ∧ vint n = d ++ vint m ∧ m ≤ 18446744073709551615 ∧ x = .int .u64 M ∧ OwnE wr base b (xs ++ d) ∧ Below base w wr) (fun _ x _ => (intOf x).toNat)
  case atStart => exact ⟨[], n, n, rfl, rfl, HN.out, rfl, by simpa using HO.out, Below.refl _ _⟩
  case round =>
    obtain ⟨d, m, M, hM, hv, hm, rfl, hown, hbel⟩ := hrel
    have hmI : 0 ≤ M ∧ M ≤ 18446744073709551615 := by omega
    have HM : Hid (m ≤ 18446744073709551615) := hm
    have HMM : Hid (M = (m : Int)) := hM
    have hor : bits .or .u8 (M % 256) 128 = M % 128 + 128 := or128 M hmI.1
    have HV : Hid (vint n = d ++ vint m) := hv
    have hdl : (xs ++ d).length ≤ 140737488351310 := by
      have := HLn.out; rw [hv, List.length_append] at this; rw [List.length_append]; omega
    have hbs : base ≤ wr.heap.size := by have := hbel.size; omega
    have HOW : Hid (OwnE wr base u0 (xs ++ d)) := hown
    have HBE : Hid (Below base w wr) := hbel
    have hM1 : 0 ≤ M % 128 := by omega
    have hM2 : M % 128 + 128 ≤ 255 := by omega
    clear hm hM hv hown hbel
    by_cases h : 128 ≤ M
    · have HE : Hid (vint m = ((m % 128 + 128 : Nat) : Int) :: vint (m / 128)) := vint_big (by have := HMM.out; omega)
      have e2 : Hid (((m % 128 + 128 : Nat) : Int) = M % 128 + 128) := by
        refine (?_ : ((m % 128 + 128 : Nat) : Int) = M % 128 + 128)
        rw [HMM.out]; omega
      go_wp2_with (at_builtin; refine wpE_append rfl (.tmp 7) (.tmp 11) rfl base u0 (xs ++ d) rfl (ownE_alloc HOW.out _) (some ⟨wr.heap.size, 0, none⟩) 1 1 [M % 128 + 128] rfl (isB_one wr _ (by omega) (by omega)) (by simp) (by omega) (by simp; omega) ?_; intro v2 w2 hown2 hg2)
      go_roundw
      case rel =>
        refine ⟨d ++ [M % 128 + 128], m / 128, M / 128, ?_, ?_, ?_, rfl, ?_, ?_⟩
        · have := HMM.out; omega
        · rw [HV.out, HE.out, List.append_assoc, List.singleton_append, e2.out]
        · have := HM.out; omega
        · rw [← List.append_assoc]; exact hown2
        · exact (HBE.out.alloc hbs _).trans hg2
      case measure => simp [intOf]; omega
    · have HE : Hid (vint m = [(m : Int)]) := vint_small (by have := HMM.out; omega)
      have hM3 : M ≤ 255 := by omega
      go_wp2_with (at_builtin; refine wpE_append rfl (.tmp 15) (.tmp 18) rfl base u0 (xs ++ d) rfl (ownE_alloc HOW.out _) (some ⟨wr.heap.size, 0, none⟩) 1 1 [M] rfl (isB_one wr _ (by omega) (by omega)) (by simp) (by omega) (by simp; omega) ?_; intro v2 w2 hown2 hg2)
      go_ret
      refine ⟨v2, rfl, ?_, (HBE.out.alloc hbs _).trans hg2⟩
      rw [HV.out, HE.out, ← HMM.out, ← List.append_assoc]; exact ownE_full hown2 (by simp only [List.length_append, List.length_singleton]; omega)
theorem varintR_int (v : Value) (base : Nat) (xs : List Int) (N : Int) (w : World) (hO : OwnE w base v xs) (h0 : 0 ≤ N) (h1 : N ≤ 18446744073709551615) (hl : xs.length ≤ 140737488351300) (hb : base ≤ w.heap.size) :
    Calls Tryz.prog 12 #[v, .int .u64 N] w fun e w' =>
      ∃ v', e = .returned v' ∧ OwnB w' base v' (xs ++ vint N.toNat) ∧ Below base w w' := by
  obtain ⟨n, rfl⟩ := Int.eq_ofNat_of_zero_le h0
  have := varintR_any v base xs n w hO (by omega) hl hb
  simpa using this
end Go.Proofs.YtfhmombnipfimabGreatDoor
namespace Go.Proofs.YtfhmombnipfimabGreatDoor
set_option linter.unusedVariables false
open Go.ChangeShapes Go.WideShapes Go.ChangeAt Go.RowKit
set_option maxHeartbeats 1000000 in
theorem lowR_any (n : Int) (s : Nat) (w : World) (hn0 : 0 ≤ n) (hn1 : n ≤ 18446744073709551615) (hs : s ≤ 8) :
    Calls Tryz.prog 25 #[.int .u64 n, .int .i64 s] w fun e w' =>
      ∃ v', e = .returned v' ∧ OwnB w' w.heap.size v' (lob n s) ∧ Below w.heap.size w w' := by
  go_enter Tryz.func25, Tryz.ntmps25
  go_wp2_with fail
  go_loopw [5, 8] (fun v i wr => ∃ k : Nat, k ≤ s ∧ i = .int .i64 k ∧ OwnB wr w.heap.size v (lob n k) ∧ Below w.heap.size w wr) (fun _ i _ => s - (intOf i).toNat)
  case atStart => exact ⟨0, by omega, rfl, own_nil _ _, Below.refl _ _⟩
  case round =>
    obtain ⟨k, hk, rfl, hown, hbel⟩ := hrel
    have HO : Hid (OwnB wr w.heap.size u5 (lob n k)) := hown
    have HB : Hid (Below w.heap.size w wr) := hbel
    have hsz := hbel.size
    have hll := lob_length n k
    have HLL : Hid ((lob n k).length = k) := hll
    clear hown hbel hll
    by_cases hlt : k < s
    · have hz0 : 0 ≤ n / 2 ^ (8 * k) % 256 := by omega
      have hz1 : n / 2 ^ (8 * k) % 256 ≤ 255 := by omega
      go_wp2_with (at_builtin; (refine wpB_append rfl (.tmp 11) (.tmp 18) rfl w.heap.size u5 (lob n k) rfl (own_alloc HO.out _) (some ⟨wr.heap.size, 0, none⟩) 1 1 [n / 2 ^ (8 * k) % 256] rfl (isB_one wr _ (by omega) (by omega)) (by simp) (by have := HLL.out; omega) (by simp; omega) ?_); intro v2 w2 hown2 hg2)
      go_roundw
      case rel => exact ⟨k + 1, by omega, by go_num, hown2, (HB.out.alloc hsz _).grown hg2 (by simp; omega) (own_blockB HO.out)⟩
      case measure => simp [intOf]; omega
    · obtain rfl : k = s := by omega
      go_wp2_with fail
      go_ret
      exact ⟨_, rfl, HO.out, HB.out⟩
end Go.Proofs.YtfhmombnipfimabGreatDoor
