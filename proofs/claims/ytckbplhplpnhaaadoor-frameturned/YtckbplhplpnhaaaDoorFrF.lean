/-
  The walk over Build, by the document's own.
-/
import Derived.Test.YtckbplhplpnhaaaDoorFrE
import Derived.Test.YtckbplhplpnhaaaDoorFrC
import Derived.Test.YtckbplhplpnhaaaDoorVarK
namespace Go.Proofs.YtckbplhplpnhaaaDoor
set_option linter.unusedVariables false
open Go.ChangeShapes Go.WideShapes Go.ChangeAt Go.RowKit

theorem two_heap (w : World) (o o2 : Obj) : ((w.alloc o).alloc o2).heap[w.heap.size + 1]? = some o2 := by
  show ((w.heap.push o).push o2)[w.heap.size + 1]? = _
  rw [show w.heap.size + 1 = (w.heap.push o).size by simp]
  exact Array.getElem?_push_size
set_option maxHeartbeats 4000000 in
set_option maxRecDepth 20000 in
theorem buildR_any (k cl tk at1 fl me dl st : Int) (p : List Int) (a : Option Addr) (c : Nat) (w : World) (hr : RngF ⟨k, cl, tk, at1, fl, me, dl, st, p⟩) (hB : IsB w a p.length p) (hc : a = none → p.length = 0 ∧ c = 0) :
    Calls Tryd.prog 11 #[.agg #[.int .i64 k, .int .i64 cl, .int .u64 tk, .int .i64 at1, .int .u64 fl, .int .i64 me, .int .i64 dl, .int .i64 st, .slice a p.length c]] w fun e w' => BuildAns ⟨k, cl, tk, at1, fl, me, dl, st, p⟩ w.heap.size e w' ∧ Below w.heap.size w w' := by
  have HB := Lib.hid hB
  have HC := Lib.hid hc
  have HF := fun wx => formedR_any k cl tk at1 fl me dl st p a c wx
  have HR := Lib.hid hr
  clear hB hc hr
  obtain ⟨b, hb⟩ : ∃ b, okF ⟨k, cl, tk, at1, fl, me, dl, st, p⟩ = b := ⟨_, rfl⟩
  rw [hb] at HF
  have HO := Lib.hid hb
  clear hb
  obtain ⟨n, hn⟩ : ∃ n, p.length = n := ⟨_, rfl⟩
  have HN := Lib.hid hn
  rw [hn] at HB HC HF ⊢
  clear hn
  go_enter Tryd.func11, Tryd.ntmps11
  cases b with
  | false =>
    go_wp2_with (go_at_call 13; refine (HF _).mono ?_; rintro e w1 ⟨rfl, hb1⟩; have HX := Lib.hid hb1; clear hb1)
    go_ret2
    exact ⟨.inl ⟨HO.out, rfl⟩, below_two HX.out⟩
  | true =>
    have hok := (okF_iff _).1 HO.out
    simp only [HN.out] at hok
    have hrr := HR.out
    unfold RngF at hrr
    simp only at hrr
    have hrk : 1 ≤ k ∧ k ≤ 3 := by omega
    have hrcl : 1 ≤ cl ∧ cl ≤ 2147483647 := by omega
    have hrtk : 1 ≤ tk ∧ tk ≤ 18446744073709551615 := by omega
    have hrat : 0 ≤ at1 ∧ at1 ≤ 5 := by omega
    have hrfl : 1 ≤ fl ∧ fl ≤ 18446744073709551615 := by omega
    have hrme : 0 ≤ me ∧ me ≤ 2147483647 := by omega
    have hrdl : 0 ≤ dl ∧ dl ≤ 1099511627776 := by omega
    have hrst : 0 ≤ st ∧ st ≤ 255 := by omega
    have HRN := Lib.hid (nums_rn HO.out (by show tk ≤ _; omega))
    have hn4 : n ≤ 4096 := by omega
    clear hok hrr
    obtain ⟨l, hl⟩ : ∃ l, numsF ⟨k, cl, tk, at1, fl, me, dl, st, p⟩ = l := ⟨_, rfl⟩
    rw [hl] at HRN
    have HL := Lib.hid hl
    have hl9 : l.length = 9 := by rw [← hl]; rfl
    have HL9 := Lib.hid hl9
    clear hl hl9
    go_wp2_with (go_at_call 13; refine (HF _).mono ?_; rintro e w1 ⟨rfl, hb1⟩; have hb2 := hb1.alloc hb1.size (.cells #[.int .u8 199] 5); have HX := Lib.hid hb2; have HX0 := Lib.hid hb1; obtain ⟨q0, q1, q2, q3, q4, q5, q6, q7, q8⟩ := box9 hb2 (by simp); have HS := Lib.hid (own_blk w1 [199] (by simp [maxLen])); clear hb1 hb2)
    have hs1 : w.heap.size + 1 ≤ w1.heap.size := by have := HX0.out.size; simp at this; omega
    obtain ⟨W2, hW2⟩ : ∃ W2, (w1.alloc (.cells #[.int .u8 199] 5)).alloc (.cells #[.int .u64 k, .int .u64 cl, .int .u64 tk, .int .u64 at1, .int .u64 fl, .int .u64 me, .int .u64 dl, .int .u64 st, .int .u64 (n : Nat)] 22) = W2 := ⟨_, rfl⟩
    rw [hW2]
    have HSZ : Hid (W2.heap.size = w1.heap.size + 2) := by
      refine (?_ : _ = _)
      rw [← hW2, World.size_alloc, World.size_alloc]
    have HN2 : Hid (∀ (j : Nat) (z : Int), l[j]? = some z → W2.cell? ⟨w1.heap.size + 1, j, none⟩ = some (.int .u64 z)) := by
      refine (?_ : ∀ (j : Nat) (z : Int), l[j]? = some z → _)
      intro j z hz
      have hh : W2.heap[w1.heap.size + 1]? = some (.cells #[.int .u64 k, .int .u64 cl, .int .u64 tk, .int .u64 at1, .int .u64 fl, .int .u64 me, .int .u64 dl, .int .u64 st, .int .u64 (n : Nat)] 22) := by
        rw [← hW2]
        exact two_heap _ _ _
      have h2 : (l.map (Value.int .u64))[j]? = some (.int .u64 z) := by rw [List.getElem?_map, hz]; rfl
      rw [← HL.out] at h2
      unfold numsF at h2
      simp only [HN.out, List.map_cons, List.map_nil] at h2
      simp only [World.cell?, hh]
      simpa using h2
    have HOW : Hid (OwnB W2 (w.heap.size + 1) (.slice (some ⟨w1.heap.size, 0, none⟩) 1 1) (199 :: vints (l.take 0))) := by
      have h1 := own_alloc (own_mono HS.out hs1) (.cells #[.int .u64 k, .int .u64 cl, .int .u64 tk, .int .u64 at1, .int .u64 fl, .int .u64 me, .int .u64 dl, .int .u64 st, .int .u64 (n : Nat)] 22)
      have h3 : (w1.alloc (.cells #[.int .u8 199] 5)).alloc (.cells #[.int .u64 k, .int .u64 cl, .int .u64 tk, .int .u64 at1, .int .u64 fl, .int .u64 me, .int .u64 dl, .int .u64 st, .int .u64 (n : Nat)] 22) = W2 := hW2
      have h4 : OwnB ((w1.alloc (.cells #[.int .u8 199] 5)).alloc (.cells #[.int .u64 k, .int .u64 cl, .int .u64 tk, .int .u64 at1, .int .u64 fl, .int .u64 me, .int .u64 dl, .int .u64 st, .int .u64 (n : Nat)] 22)) (w.heap.size + 1) (.slice (some ⟨w1.heap.size, 0, none⟩) 1 1) [199] := h1
      rw [h3] at h4
      exact h4
    have HBE : Hid (Below (w.heap.size + 1) (w.alloc (.cells #[.int .i64 k, .int .i64 cl, .int .u64 tk, .int .i64 at1, .int .u64 fl, .int .i64 me, .int .i64 dl, .int .i64 st, .slice a n c] 25)) W2) := by
      have h1 := HX.out
      rw [World.size_alloc] at h1
      have h2 := h1.alloc (by simpa using h1.size) (.cells #[.int .u64 k, .int .u64 cl, .int .u64 tk, .int .u64 at1, .int .u64 fl, .int .u64 me, .int .u64 dl, .int .u64 st, .int .u64 (n : Nat)] 22)
      have h3 : (w1.alloc (.cells #[.int .u8 199] 5)).alloc (.cells #[.int .u64 k, .int .u64 cl, .int .u64 tk, .int .u64 at1, .int .u64 fl, .int .u64 me, .int .u64 dl, .int .u64 st, .int .u64 (n : Nat)] 22) = W2 := hW2
      rw [h3] at h2
      exact h2
    clear HS HX HX0 hW2 q0 q1 q2 q3 q4 q5 q6 q7 q8 hrk hrcl hrtk hrat hrfl hrme hrdl hrst
    have hL9 := HL9.out
    go_loopw [4, 41] (fun b i wr => ∃ (j : Nat), j ≤ 9 ∧ i = .int .i64 j ∧ OwnB wr (w.heap.size + 1) b (199 :: vints (l.take j)) ∧ Grw W2 (.slice (some ⟨w1.heap.size, 0, none⟩) 1 1) b wr) (fun _ i _ => 9 - (intOf i).toNat)
    case atStart => exact ⟨0, by omega, rfl, HOW.out, Grw.refl _ _⟩
    case round =>
      obtain ⟨j, hj, rfl, how, hgr⟩ := hrel
      have HW := Lib.hid how
      have HG := Lib.hid hgr
      have HE : Hid (Below (w.heap.size + 1) (w.alloc (.cells #[.int .i64 k, .int .i64 cl, .int .u64 tk, .int .i64 at1, .int .u64 fl, .int .i64 me, .int .i64 dl, .int .i64 st, .slice a n c] 25)) wr) := HBE.out.trans (hgr.below (by have := HSZ.out; omega) (by intro k hk; simp [Value.ownBlock] at hk; omega))
      clear how hgr HOW
      by_cases hj9 : j < 9
      · obtain ⟨z, hz⟩ : ∃ z, l[j]? = some z := ⟨_, List.getElem?_eq_getElem (by rw [hL9]; exact hj9)⟩
        have hzr := HRN.out z (List.mem_of_getElem? hz)
        have hcz : wr.cell? ⟨w1.heap.size + 1, j, none⟩ = some (.int .u64 z) := by
          have h1 := HN2.out j z hz
          have h2 := HG.out.1.block (w1.heap.size + 1) (by have := HSZ.out; omega) (by simp [Value.ownBlock])
          simp only [World.cell?, h2]
          exact h1
        have HV : Hid (vints (l.take (j + 1)) = vints (l.take j) ++ vint z.toNat) := vints_take hz
        have hvl := vints_len _ (rn_take HRN.out j)
        have hlen : (199 :: vints (l.take j)).length ≤ 100 := by
          have h2 : (l.take j).length ≤ 9 := by rw [List.length_take]; omega
          simp only [List.length_cons]; omega
        obtain ⟨N, rfl⟩ : ∃ N : Nat, z = N := ⟨z.toNat, by omega⟩
        have hws : w.heap.size + 1 ≤ wr.heap.size := by have := HE.out.size; simp at this; omega
        have HA := Lib.hid (varintK_any u4 (w.heap.size + 1) (199 :: vints (l.take j)) N wr HW.out (by omega) (by omega) hws)
        clear hz hzr hvl hlen hws
        go_wp2_with (go_at_call 21; refine (HA.out).mono ?_; rintro e w3 ⟨v3, rfl, ho3, hg3⟩; have HO3 := Lib.hid ho3; have HG3 := Lib.hid hg3; clear ho3 hg3)
        go_roundw
        case rel =>
          refine ⟨j + 1, by omega, by go_num, ?_, HG.out.trans HG3.out⟩
          rw [HV.out, ← List.cons_append]
          exact HO3.out
        case measure => simp [intOf]; omega
      · obtain rfl : j = 9 := by omega
        have hT9 : l.take 9 = l := List.take_of_length_le (by omega)
        rw [hT9] at HW
        have HBD : Hid ((199 :: vints l : List Int) ++ p = bodyF ⟨k, cl, tk, at1, fl, me, dl, st, p⟩) := by
          refine (?_ : _ = _)
          unfold bodyF
          rw [HL.out, List.cons_append]
        obtain ⟨q0, q1, q2, q3, q4, q5, q6, q7, q8⟩ := box9 HE.out (by simp)
        have hb0 : Below w.heap.size w wr := ((Below.refl w.heap.size w).alloc (Nat.le_refl _) _).trans (HE.out.mono (by omega))
        have HB0 := Lib.hid hb0
        have HPB := Lib.hid (isB_old HB.out hb0)
        have hvl := vints_len _ HRN.out
        have hlen : (199 :: vints l).length ≤ 100 := by
          simp only [List.length_cons]; omega
        have hby : ∀ x ∈ bodyF ⟨k, cl, tk, at1, fl, me, dl, st, p⟩, 0 ≤ x ∧ x ≤ 255 := body_bytes (isB_bt HB.out)
        have hsz : w.heap.size + 1 ≤ wr.heap.size := by have := HE.out.size; simp at this; omega
        clear hb0 hT9 hvl
        go_wp2_with (at_builtin; refine wpB_append rfl (.tmp 51) (.tmp 53) rfl (w.heap.size + 1) u4 (199 :: vints l) rfl HW.out a n c p rfl HPB.out HC.out (by omega) hsz ?_; intro v2 w3 hown2 hg2; rw [HBD.out] at hown2; have hb3 := HB0.out.grown hg2 HB0.out.size (fun k hk => by have := own_blockB HW.out k hk; omega); have HB3 := Lib.hid hb3; have hs3 := hb3.size; clear q0 q1 q2 q3 q4 q5 q6 q7 q8 hb3; obtain ⟨a2, c2, rfl, hI2, _, hn2⟩ := own_isB hown2 hby (by have := congrArg List.length HBD.out; rw [List.length_append, HN.out] at this; omega); have HI2 := Lib.hid hI2; have HOW2 := Lib.hid hown2; clear hI2 hn2 hown2)
        refine (sumR_any _ _ _ _ w3 HI2.out).mono ?_
        rintro e w' ⟨rfl, rfl⟩
        have hS := sumC_lt hby
        obtain ⟨S, hSS⟩ : ∃ S, sumC (nats (bodyF ⟨k, cl, tk, at1, fl, me, dl, st, p⟩)) = S := ⟨_, rfl⟩
        rw [hSS] at hS ⊢
        have HSS := Lib.hid hSS
        clear hSS
        have hbl : (bodyF ⟨k, cl, tk, at1, fl, me, dl, st, p⟩).length ≤ 5000 := (body_len HO.out (by have := (HR.out).2.2.1; exact this.2)).2
        have H4 : Hid (IsB (w'.alloc (.cells #[.int .u8 ((S : Int) / 16777216), .int .u8 ((S : Int) / 65536 % 256), .int .u8 ((S : Int) / 256 % 256), .int .u8 ((S : Int) % 256)] 5)) (some ⟨w'.heap.size, 0, none⟩) 4 [(S : Int) / 16777216, (S : Int) / 65536 % 256, (S : Int) / 256 % 256, (S : Int) % 256]) := by
          refine isB_blk w' 5 [(S : Int) / 16777216, (S : Int) / 65536 % 256, (S : Int) / 256 % 256, (S : Int) % 256] ?_ (by simp)
          intro z hz
          simp only [List.mem_cons, List.not_mem_nil, or_false] at hz
          rcases hz with rfl | rfl | rfl | rfl <;> omega
        have HO4 := Lib.hid (own_alloc HOW2.out (.cells #[.int .u8 ((S : Int) / 16777216), .int .u8 ((S : Int) / 65536 % 256), .int .u8 ((S : Int) / 256 % 256), .int .u8 ((S : Int) % 256)] 5))
        have HFS : Hid ([(S : Int) / 16777216, (S : Int) / 65536 % 256, (S : Int) / 256 % 256, (S : Int) % 256] = four S) := by
          refine (?_ : _ = _)
          rw [four_int S hS, show (S : Int) / 16777216 % 256 = (S : Int) / 16777216 by omega]
        go_wp2_with (at_builtin; refine wpB_append rfl (.tmp 57) (.tmp 69) rfl (w.heap.size + 1) (.slice a2 (bodyF ⟨k, cl, tk, at1, fl, me, dl, st, p⟩).length c2) (bodyF ⟨k, cl, tk, at1, fl, me, dl, st, p⟩) rfl HO4.out (some ⟨w'.heap.size, 0, none⟩) 4 4 [(S : Int) / 16777216, (S : Int) / 65536 % 256, (S : Int) / 256 % 256, (S : Int) % 256] rfl H4.out (by simp) (by omega) (by simp; omega) ?_; intro v4 w4 hown4 hg4; have HO5 := Lib.hid hown4; have HB5 := Lib.hid ((HB3.out.alloc hs3 _).grown hg4 (by simp; omega) (fun k hk => by have := own_blockB HO4.out k hk; omega)); clear hown4 hg4)
        go_ret2
        refine ⟨.inr ⟨HO.out, v4, rfl, ?_⟩, HB5.out⟩
        have h5 := HO5.out
        rw [HFS.out, ← HSS.out] at h5
        exact own_mono h5 (by omega)
end Go.Proofs.YtckbplhplpnhaaaDoor
