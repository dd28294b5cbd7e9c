/-
  The walks over the document's own Set and Next.
-/
import Derived.Test.YtblebbmnlbmgiaaTmV
namespace Go.Proofs.Ytblebbmnlbmgiaa
set_option linter.unusedVariables false
open Go.ChangeShapes Go.WideShapes Go.ChangeAt Go.RowKit

theorem slT_one {w : World} {B k : Nat} {d : Int} {T : TypeId} (h : w.heap[B]? = some (.cells #[.int .u64 k, .int .i64 d] T (0, 0))) : SlT w (.slice (some ⟨B, 0, none⟩) 1 1) [(k, d)] := by
  refine ⟨_, 1, rfl, Nat.le_refl _, by decide, .inr ⟨B, 0, rfl, fun j u hu => ?_⟩⟩
  rw [Nat.zero_add]
  exact cell_at h j hu
theorem slT_form {w : World} {ao : Option Addr} {n c : Nat} {L : List (Nat × Int)} (h : SlT w (.slice ao n c) L) : (ao = none ∧ n = 0 ∧ c = 0) ∨ ∃ g o, ao = some ⟨g, o, none⟩ := by
  obtain ⟨ao', c', e, h1, h2, h3⟩ := h
  obtain ⟨rfl, rfl, rfl⟩ := Value.slice.inj e
  rcases h3 with h3 | ⟨g, o, h3, _⟩
  · exact .inl h3
  · exact .inr ⟨g, o, h3⟩
theorem cutT_some (g o c j : Nat) : cutT (some ⟨g, o, none⟩) c j = if c = j then some ⟨g, o, none⟩ else some ⟨g, o + j * 2, none⟩ := by
  unfold cutT
  split
  · rfl
  · show some ((⟨g, o, none⟩ : Addr).add (j * 2)) = _
    unfold Addr.add
    split <;> simp_all
theorem goes_drop {x y : Nat × Int} {M : List (Nat × Int)} {j : Nat} (hy : M[j]? = some y) : goes x (M.drop j) = if before y x then goes x (M.drop (j + 1)) + 1 else 0 := by
  rw [List.drop_eq_getElem_cons (List.getElem?_eq_some_iff.1 hy).1]
  have : M[j]'(List.getElem?_eq_some_iff.1 hy).1 = y := (List.getElem?_eq_some_iff.1 hy).2
  rw [this]
  rfl
set_option maxHeartbeats 8000000 in
theorem setR_any (rb k : Nat) (d : Int) (L : List (Nat × Int)) (ok : Nat → Prop) (w : World) (hR : HeldR w ok rb L) (hO : OrdL L) (hk : k < 18446744073709551616) (hok : ∀ b, w.heap.size ≤ b → ok b) (hnb : ¬ ok rb) (hL : L.length ≤ 900000) :
    Calls Try.prog 9 #[ptr rb, .int .u64 k, .int .i64 d] w fun e w' => e = .returned (.tuple #[]) ∧ HeldR w' ok rb (setL L k d) ∧ w.grownBy w' (some rb) := by
  have hst := stopR_any rb k L ok w hR hO hk hok (by omega)
  have hlt := hR.lt
  have HOM := Lib.hid (ordL_stop hO k)
  have hML : (stopL L k).length ≤ L.length := List.length_filter_le _ _
  obtain ⟨M, hM⟩ : ∃ M, stopL L k = M := ⟨_, rfl⟩
  have HSL : Hid (setL L k d = putL (k, d) M) := by refine (?_ : _ = _); unfold setL; rw [hM]
  rw [hM] at hst HOM hML
  rw [HSL.out]
  unfold ptr at *
  go_enter Try.func9, Try.ntmps9
  go_wp2_with fail
  refine hst.mono ?_
  rintro e W ⟨rfl, hRM, hg⟩
  obtain ⟨ao, c, c0, f0, ho, _⟩ := hRM
  have hltW : rb < W.heap.size := cell_lt c0
  have HG := Lib.hid hg
  have HC0 := Lib.hid c0
  have HF0 := Lib.hid f0
  have HS := Lib.hid ho.slT
  have hlc : M.length ≤ c := by obtain ⟨_, _, e, h, _⟩ := ho.slT; obtain ⟨_, _, rfl⟩ := Value.slice.inj e; exact h
  clear ho hst hg hR hO
  obtain ⟨n, hn⟩ : ∃ n, M.length = n := ⟨_, rfl⟩
  rw [hn] at c0 hlc HS HC0 hML
  have HN := Lib.hid hn
  have hL : n ≤ 900000 := by omega
  have HOK := Lib.hid hok
  clear hn hM hok f0
  go_wp2_with fail
  go_loopw [6] (fun i wr => ∃ (j : Nat), i = .int .i64 (j : Int) ∧ j ≤ n ∧ Hid (goes (k, d) M = j + goes (k, d) (M.drop j)) ∧ wr = W) (fun i _ => n - (intOf i).toNat)
  case atStart => exact ⟨0, rfl, Nat.zero_le _, Lib.hid (by simp), rfl⟩
  case round =>
    obtain ⟨j, rfl, hj, HJ, rfl⟩ := hrel
    have HEND : Hid (goes (k, d) (M.drop j) = 0 → putL (k, d) M = M.take j ++ (k, d) :: M.drop j) := by
      refine (?_ : _ → _)
      intro h0
      rw [put_goes, HJ.out, h0, Nat.add_zero]
    by_cases hlt9 : j < n
    · obtain ⟨x, hx⟩ : ∃ x, M[j]? = some x := ⟨_, List.getElem?_eq_getElem (by have := HN.out; omega)⟩
      have HX := Lib.hid hx
      obtain ⟨g, o, rfl, r0, r1⟩ := HS.out.at hx
      have hgd := goes_drop (x := (k, d)) hx
      clear hx
      by_cases hb : before x (k, d)
      · rw [if_pos hb] at hgd
        have HGD := Lib.hid hgd
        clear hgd
        by_cases hd1 : x.2 < d
        · clear hb HEND
          go_wp2_with fail
          go_roundw
          case rel => exact ⟨j + 1, by go_num, by omega, Lib.hid (by have := HJ.out; have := HGD.out; omega), by first | rfl | trivial⟩
          case measure => simp [intOf]; omega
        · have hd2 : decide (x.2 < d) = false := decide_eq_false hd1
          have hd3 : x.2 = d := by unfold before at hb; simp at hb; omega
          have hd4 : (x.1 : Int) < (k : Int) := by unfold before at hb; simp at hb; omega
          clear hb HEND hd1
          go_wp2_with fail
          go_roundw
          case rel => exact ⟨j + 1, by go_num, by omega, Lib.hid (by have := HJ.out; have := HGD.out; omega), by first | rfl | trivial⟩
          case measure => simp [intOf]; omega
      · rw [if_neg hb] at hgd
        have h0 := hgd
        clear hgd
        have hd1 : ¬ x.2 < d := fun h => hb (.inl h)
        have hd2 : decide (x.2 < d) = false := decide_eq_false hd1
        by_cases hd3 : x.2 = d
        · have hd4 : ¬ (x.1 : Int) < (k : Int) := fun h => hb (.inr ⟨hd3, by show x.1 < k; omega⟩)
          have hd5 : decide ((x.1 : Int) < (k : Int)) = false := decide_eq_false hd4
          have hd6 : k ≤ x.1 := by omega
          clear hb hd1 hd4
          have HPL := Lib.hid (HEND.out h0)
          have hj2 : (M.take j).length = j := by rw [List.length_take]; have := HN.out; omega
          go_wp2_with (at_builtin; refine wpT_append rfl (.tmp 56) (.tmp 62) rfl wr.heap.size (.slice none 0 0) (.slice (some ⟨g, o, none⟩) j c) [] (M.take j) rfl rfl (ownT_nil _ _) (slT_to HS.out j (by omega)) (by rw [hj2]; simp <;> omega) (Nat.le_refl _) ?_)
          intro v1 W1 ho1 hb1
          try rw [List.nil_append] at ho1
          obtain ⟨X, hX, hXc, hXb, hXs⟩ := box_new W1 #[.int .u64 k, .int .i64 d] 45
          go_wp2_with (at_builtin; refine wpT_append rfl (.tmp 64) (.tmp 68) rfl wr.heap.size v1 (.slice (some ⟨W1.heap.size, 0, none⟩) 1 1) (M.take j) [(k, d)] rfl rfl (ho1.old (fun g hg => hXb.block g (ho1.block hg).2) fun g hg => (ho1.block hg).1) (slT_one hXc) (by rw [hj2]; simp <;> omega) (Nat.le_trans hb1.size hXb.size) ?_)
          intro v2 W2 ho2 hb2
          have hB2 : Below wr.heap.size wr W2 := (hb1.trans (hXb.mono hb1.size)).trans hb2
          have c2 := (hB2.cell (p := ⟨rb, 0, none⟩) hltW).trans HC0.out
          have f2 := (hB2.frozen (p := ⟨rb, 0, none⟩) hltW).trans HF0.out
          have HS2 := Lib.hid ((slT_from HS.out j (by omega)).below hB2)
          clear hX hXc hXb hXs ho1 hb1 hb2 c0
          have h9 : (0 : Int) ≤ (j : Int) ∧ (j : Int) ≤ (n : Int) := by omega
          rw [cutT_some] at HS2
          have hcj : ¬ c = j := by omega
          rw [if_neg hcj] at HS2
          go_wp2_with (at_builtin; refine wpT_append rfl (.tmp 71) (.tmp 77) rfl wr.heap.size v2 (.slice (some ⟨g, o + j * 2, none⟩) (n - j) (c - j)) (M.take j ++ [(k, d)]) (M.drop j) rfl rfl ho2 HS2.out (by have := HN.out; simp <;> omega) hB2.size ?_)
          intro v3 W3 ho3 hb3
          have hB3 := hB2.trans hb3
          have hfin := heldR_store (ok := ok) hB3 hltW HC0.out HF0.out ho3 fun b hb => HOK.out b (Nat.le_trans HG.out.size hb)
          have hfin : HeldR (W3.setCell ⟨rb, 0, none⟩ v3) ok rb (putL (k, d) M) ∧ wr.grownBy (W3.setCell ⟨rb, 0, none⟩ v3) (some rb) := by rw [HPL.out]; simpa using hfin
          have c3 := (hB3.cell (p := ⟨rb, 0, none⟩) hltW).trans HC0.out
          have f3 := (hB3.frozen (p := ⟨rb, 0, none⟩) hltW).trans HF0.out
          obtain ⟨a3, m3, k3, hv3⟩ : ∃ a m k, v3 = .slice a m k := (by obtain ⟨a, k, h, _⟩ := ho3.slT; exact ⟨a, _, k, h⟩)
          subst hv3
          have HFIN := Lib.hid hfin
          clear hfin ho3 hb3 ho2 c2 f2
          go_wp2_with fail
          go_end0
          exact ⟨rfl, HFIN.out.1, HG.out.trans HFIN.out.2⟩
        · have hd4 : decide (x.2 = d) = false := decide_eq_false hd3
          clear hb hd1
          have HPL := Lib.hid (HEND.out h0)
          have hj2 : (M.take j).length = j := by rw [List.length_take]; have := HN.out; omega
          go_wp2_with (at_builtin; refine wpT_append rfl (.tmp 56) (.tmp 62) rfl wr.heap.size (.slice none 0 0) (.slice (some ⟨g, o, none⟩) j c) [] (M.take j) rfl rfl (ownT_nil _ _) (slT_to HS.out j (by omega)) (by rw [hj2]; simp <;> omega) (Nat.le_refl _) ?_)
          intro v1 W1 ho1 hb1
          try rw [List.nil_append] at ho1
          obtain ⟨X, hX, hXc, hXb, hXs⟩ := box_new W1 #[.int .u64 k, .int .i64 d] 45
          go_wp2_with (at_builtin; refine wpT_append rfl (.tmp 64) (.tmp 68) rfl wr.heap.size v1 (.slice (some ⟨W1.heap.size, 0, none⟩) 1 1) (M.take j) [(k, d)] rfl rfl (ho1.old (fun g hg => hXb.block g (ho1.block hg).2) fun g hg => (ho1.block hg).1) (slT_one hXc) (by rw [hj2]; simp <;> omega) (Nat.le_trans hb1.size hXb.size) ?_)
          intro v2 W2 ho2 hb2
          have hB2 : Below wr.heap.size wr W2 := (hb1.trans (hXb.mono hb1.size)).trans hb2
          have c2 := (hB2.cell (p := ⟨rb, 0, none⟩) hltW).trans HC0.out
          have f2 := (hB2.frozen (p := ⟨rb, 0, none⟩) hltW).trans HF0.out
          have HS2 := Lib.hid ((slT_from HS.out j (by omega)).below hB2)
          clear hX hXc hXb hXs ho1 hb1 hb2 c0
          have h9 : (0 : Int) ≤ (j : Int) ∧ (j : Int) ≤ (n : Int) := by omega
          rw [cutT_some] at HS2
          have hcj : ¬ c = j := by omega
          rw [if_neg hcj] at HS2
          go_wp2_with (at_builtin; refine wpT_append rfl (.tmp 71) (.tmp 77) rfl wr.heap.size v2 (.slice (some ⟨g, o + j * 2, none⟩) (n - j) (c - j)) (M.take j ++ [(k, d)]) (M.drop j) rfl rfl ho2 HS2.out (by have := HN.out; simp <;> omega) hB2.size ?_)
          intro v3 W3 ho3 hb3
          have hB3 := hB2.trans hb3
          have hfin := heldR_store (ok := ok) hB3 hltW HC0.out HF0.out ho3 fun b hb => HOK.out b (Nat.le_trans HG.out.size hb)
          have hfin : HeldR (W3.setCell ⟨rb, 0, none⟩ v3) ok rb (putL (k, d) M) ∧ wr.grownBy (W3.setCell ⟨rb, 0, none⟩ v3) (some rb) := by rw [HPL.out]; simpa using hfin
          have c3 := (hB3.cell (p := ⟨rb, 0, none⟩) hltW).trans HC0.out
          have f3 := (hB3.frozen (p := ⟨rb, 0, none⟩) hltW).trans HF0.out
          obtain ⟨a3, m3, k3, hv3⟩ : ∃ a m k, v3 = .slice a m k := (by obtain ⟨a, k, h, _⟩ := ho3.slT; exact ⟨a, _, k, h⟩)
          subst hv3
          have HFIN := Lib.hid hfin
          clear hfin ho3 hb3 ho2 c2 f2
          go_wp2_with fail
          go_end0
          exact ⟨rfl, HFIN.out.1, HG.out.trans HFIN.out.2⟩
    · have hlt2 : decide ((j : Int) < (n : Int)) = false := decide_eq_false (by omega)
      have h0 : goes (k, d) (M.drop j) = 0 := by rw [List.drop_of_length_le (by have := HN.out; omega)]; rfl
      rcases slT_form HS.out with ⟨rfl, rfl, rfl⟩ | ⟨g, o, rfl⟩
      · obtain rfl : j = 0 := by omega
        have HPL := Lib.hid (HEND.out h0)
        have hj2 : (M.take 0).length = 0 := by rw [List.length_take]; have := HN.out; omega
        go_wp2_with (at_builtin; refine wpT_append rfl (.tmp 56) (.tmp 62) rfl wr.heap.size (.slice none 0 0) (.slice none 0 0) [] (M.take 0) rfl rfl (ownT_nil _ _) (slT_to HS.out 0 (by omega)) (by rw [hj2]; simp <;> omega) (Nat.le_refl _) ?_)
        intro v1 W1 ho1 hb1
        try rw [List.nil_append] at ho1
        obtain ⟨X, hX, hXc, hXb, hXs⟩ := box_new W1 #[.int .u64 k, .int .i64 d] 45
        go_wp2_with (at_builtin; refine wpT_append rfl (.tmp 64) (.tmp 68) rfl wr.heap.size v1 (.slice (some ⟨W1.heap.size, 0, none⟩) 1 1) (M.take 0) [(k, d)] rfl rfl (ho1.old (fun g hg => hXb.block g (ho1.block hg).2) fun g hg => (ho1.block hg).1) (slT_one hXc) (by rw [hj2]; simp <;> omega) (Nat.le_trans hb1.size hXb.size) ?_)
        intro v2 W2 ho2 hb2
        have hB2 : Below wr.heap.size wr W2 := (hb1.trans (hXb.mono hb1.size)).trans hb2
        have c2 := (hB2.cell (p := ⟨rb, 0, none⟩) hltW).trans HC0.out
        have f2 := (hB2.frozen (p := ⟨rb, 0, none⟩) hltW).trans HF0.out
        have HS2 := Lib.hid ((slT_from HS.out 0 (by omega)).below hB2)
        clear hX hXc hXb hXs ho1 hb1 hb2 c0
        have h9 : (0 : Int) ≤ (0 : Int) ∧ (0 : Int) ≤ (0 : Int) := by omega
        go_wp2_with (at_builtin; refine wpT_append rfl (.tmp 71) (.tmp 77) rfl wr.heap.size v2 (.slice none 0 0) (M.take 0 ++ [(k, d)]) (M.drop 0) rfl rfl ho2 HS2.out (by have := HN.out; simp <;> omega) hB2.size ?_)
        intro v3 W3 ho3 hb3
        have hB3 := hB2.trans hb3
        have hfin := heldR_store (ok := ok) hB3 hltW HC0.out HF0.out ho3 fun b hb => HOK.out b (Nat.le_trans HG.out.size hb)
        have hfin : HeldR (W3.setCell ⟨rb, 0, none⟩ v3) ok rb (putL (k, d) M) ∧ wr.grownBy (W3.setCell ⟨rb, 0, none⟩ v3) (some rb) := by rw [HPL.out]; simpa using hfin
        have c3 := (hB3.cell (p := ⟨rb, 0, none⟩) hltW).trans HC0.out
        have f3 := (hB3.frozen (p := ⟨rb, 0, none⟩) hltW).trans HF0.out
        obtain ⟨a3, m3, k3, hv3⟩ : ∃ a m k, v3 = .slice a m k := (by obtain ⟨a, k, h, _⟩ := ho3.slT; exact ⟨a, _, k, h⟩)
        subst hv3
        have HFIN := Lib.hid hfin
        clear hfin ho3 hb3 ho2 c2 f2
        go_wp2_with fail
        go_end0
        exact ⟨rfl, HFIN.out.1, HG.out.trans HFIN.out.2⟩
      · have HPL := Lib.hid (HEND.out h0)
        have hj2 : (M.take j).length = j := by rw [List.length_take]; have := HN.out; omega
        go_wp2_with (at_builtin; refine wpT_append rfl (.tmp 56) (.tmp 62) rfl wr.heap.size (.slice none 0 0) (.slice (some ⟨g, o, none⟩) j c) [] (M.take j) rfl rfl (ownT_nil _ _) (slT_to HS.out j (by omega)) (by rw [hj2]; simp <;> omega) (Nat.le_refl _) ?_)
        intro v1 W1 ho1 hb1
        try rw [List.nil_append] at ho1
        obtain ⟨X, hX, hXc, hXb, hXs⟩ := box_new W1 #[.int .u64 k, .int .i64 d] 45
        go_wp2_with (at_builtin; refine wpT_append rfl (.tmp 64) (.tmp 68) rfl wr.heap.size v1 (.slice (some ⟨W1.heap.size, 0, none⟩) 1 1) (M.take j) [(k, d)] rfl rfl (ho1.old (fun g hg => hXb.block g (ho1.block hg).2) fun g hg => (ho1.block hg).1) (slT_one hXc) (by rw [hj2]; simp <;> omega) (Nat.le_trans hb1.size hXb.size) ?_)
        intro v2 W2 ho2 hb2
        have hB2 : Below wr.heap.size wr W2 := (hb1.trans (hXb.mono hb1.size)).trans hb2
        have c2 := (hB2.cell (p := ⟨rb, 0, none⟩) hltW).trans HC0.out
        have f2 := (hB2.frozen (p := ⟨rb, 0, none⟩) hltW).trans HF0.out
        have HS2 := Lib.hid ((slT_from HS.out j (by omega)).below hB2)
        clear hX hXc hXb hXs ho1 hb1 hb2 c0
        have h9 : (0 : Int) ≤ (j : Int) ∧ (j : Int) ≤ (n : Int) := by omega
        rw [cutT_some] at HS2
        by_cases hcj : c = j
        · rw [if_pos hcj] at HS2
          have hjn : j = n := by omega
          have hcn : c = n := by omega
          subst hcn
          subst hjn
          rw [Nat.sub_self] at HS2
          go_wp2_with (at_builtin; refine wpT_append rfl (.tmp 71) (.tmp 77) rfl wr.heap.size v2 (.slice (some ⟨g, o, none⟩) 0 0) (M.take j ++ [(k, d)]) (M.drop j) rfl rfl ho2 HS2.out (by have := HN.out; simp <;> omega) hB2.size ?_)
          intro v3 W3 ho3 hb3
          have hB3 := hB2.trans hb3
          have hfin := heldR_store (ok := ok) hB3 hltW HC0.out HF0.out ho3 fun b hb => HOK.out b (Nat.le_trans HG.out.size hb)
          have hfin : HeldR (W3.setCell ⟨rb, 0, none⟩ v3) ok rb (putL (k, d) M) ∧ wr.grownBy (W3.setCell ⟨rb, 0, none⟩ v3) (some rb) := by rw [HPL.out]; simpa using hfin
          have c3 := (hB3.cell (p := ⟨rb, 0, none⟩) hltW).trans HC0.out
          have f3 := (hB3.frozen (p := ⟨rb, 0, none⟩) hltW).trans HF0.out
          obtain ⟨a3, m3, k3, hv3⟩ : ∃ a m k, v3 = .slice a m k := (by obtain ⟨a, k, h, _⟩ := ho3.slT; exact ⟨a, _, k, h⟩)
          subst hv3
          have HFIN := Lib.hid hfin
          clear hfin ho3 hb3 ho2 c2 f2
          go_wp2_with fail
          go_end0
          exact ⟨rfl, HFIN.out.1, HG.out.trans HFIN.out.2⟩
        · rw [if_neg hcj] at HS2
          go_wp2_with (at_builtin; refine wpT_append rfl (.tmp 71) (.tmp 77) rfl wr.heap.size v2 (.slice (some ⟨g, o + j * 2, none⟩) (n - j) (c - j)) (M.take j ++ [(k, d)]) (M.drop j) rfl rfl ho2 HS2.out (by have := HN.out; simp <;> omega) hB2.size ?_)
          intro v3 W3 ho3 hb3
          have hB3 := hB2.trans hb3
          have hfin := heldR_store (ok := ok) hB3 hltW HC0.out HF0.out ho3 fun b hb => HOK.out b (Nat.le_trans HG.out.size hb)
          have hfin : HeldR (W3.setCell ⟨rb, 0, none⟩ v3) ok rb (putL (k, d) M) ∧ wr.grownBy (W3.setCell ⟨rb, 0, none⟩ v3) (some rb) := by rw [HPL.out]; simpa using hfin
          have c3 := (hB3.cell (p := ⟨rb, 0, none⟩) hltW).trans HC0.out
          have f3 := (hB3.frozen (p := ⟨rb, 0, none⟩) hltW).trans HF0.out
          obtain ⟨a3, m3, k3, hv3⟩ : ∃ a m k, v3 = .slice a m k := (by obtain ⟨a, k, h, _⟩ := ho3.slT; exact ⟨a, _, k, h⟩)
          subst hv3
          have HFIN := Lib.hid hfin
          clear hfin ho3 hb3 ho2 c2 f2
          go_wp2_with fail
          go_end0
          exact ⟨rfl, HFIN.out.1, HG.out.trans HFIN.out.2⟩
end Go.Proofs.Ytblebbmnlbmgiaa
