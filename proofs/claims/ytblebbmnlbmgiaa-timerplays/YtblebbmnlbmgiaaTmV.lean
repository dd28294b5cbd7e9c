/-
  The walk over the document's own Stop.
-/
import Derived.Test.YtblebbmnlbmgiaaTmU
import Derived.Test.YtblebbmnlbmgiaaTmW
namespace Go.Proofs.Ytblebbmnlbmgiaa
set_option linter.unusedVariables false
open Go.ChangeShapes Go.WideShapes Go.ChangeAt Go.RowKit

theorem stepT_append {w : World} {ops : Array Oper} {o : Oper} {a : Act} {K : Act → World → Prop} {Q : Exit → Act → World → Prop} {E : Prop} (hgd : o.guard = none) (s x : Operand)
    (ho : o.op = .call { callee := .builtin .append, args := #[s, x], argTypes := #[27, 27] })
    (base : Nat) (v xv : Value) (L M : List (Nat × Int)) (hs : a.eval s = v) (hx : a.eval x = xv) (hown : OwnT w base v L) (hsl : SlT w xv M) (hm : L.length + M.length ≤ 1000000) (hbase : base ≤ w.heap.size)
    (h : ∀ v' w', OwnT w' base v' (L ++ M) → Below base w w' → K (a.put o.dst v') w') : if Region.wanted o (yielded ops a.tmps) = true then Oper.wp Try.prog o a w K Q else E := by
  have hw : Region.wanted o (yielded ops a.tmps) = true := by simp [Region.wanted, hgd]
  rw [if_pos hw]
  obtain ⟨v', w', hrun, h1, h2⟩ := runT_append w o.type base v xv L M hown hsl hm hbase
  unfold Oper.wp
  simp [execOp, ho, resolve, invoke, builtin, hs, hx, hrun, Result.andThen]
  exact h v' w' h1 h2
theorem wpT_append {w : World} {ops : Array Oper} {rest : List Oper} {o : Oper} {a : Act} {Q : Exit → Act → World → Prop} (hgd : o.guard = none) (s x : Operand)
    (ho : o.op = .call { callee := .builtin .append, args := #[s, x], argTypes := #[27, 27] })
    (base : Nat) (v xv : Value) (L M : List (Nat × Int)) (hs : a.eval s = v) (hx : a.eval x = xv) (hown : OwnT w base v L) (hsl : SlT w xv M) (hm : L.length + M.length ≤ 1000000) (hbase : base ≤ w.heap.size)
    (h : ∀ v' w', OwnT w' base v' (L ++ M) → Below base w w' → wpList Try.prog ops Q rest (a.put o.dst v') w') : wpList Try.prog ops Q (o :: rest) a w := by
  refine wpList_plain hgd fun K hK => ?_
  obtain ⟨v', w', hrun, h1, h2⟩ := runT_append w o.type base v xv L M hown hsl hm hbase
  unfold Oper.wp
  simp [execOp, ho, resolve, invoke, builtin, hs, hx, hrun, Result.andThen]
  exact hK _ _ (h v' w' h1 h2)
/-- the new list is stored -/
theorem heldR_store {w W : World} {ok : Nat → Prop} {rb : Nat} {v u : Value} {L : List (Nat × Int)} (hb : Below w.heap.size w W) (hlt : rb < w.heap.size) (h0 : w.cell? ⟨rb, 0, none⟩ = some u) (f0 : w.frozen? ⟨rb, 0, none⟩ = false) (ho : OwnT W w.heap.size v L) (hok : ∀ b, w.heap.size ≤ b → ok b) :
    HeldR (W.setCell ⟨rb, 0, none⟩ v) ok rb L ∧ w.grownBy (W.setCell ⟨rb, 0, none⟩ v) (some rb) := by
  obtain ⟨ao, c, rfl, h1, h2, h3⟩ := ho.slT
  have c0 := (hb.cell (p := ⟨rb, 0, none⟩) hlt).trans h0
  have f0 := (hb.frozen (p := ⟨rb, 0, none⟩) hlt).trans f0
  refine ⟨⟨ao, c, set_same c0, by simpa using f0, ho.old (fun g hg => setCell_far W rb 0 g _ fun e => by have := (ho.block hg).1; omega) (fun _ _ => Nat.zero_le _), fun a ha => hok _ (ho.block (by rw [ha]; rfl)).1⟩, grown_set (grown_below hb)⟩
theorem SlT.below {w w' : World} {v : Value} {L : List (Nat × Int)} (h : SlT w v L) (hb : Below w.heap.size w w') : SlT w' v L := by
  obtain ⟨ao, c, rfl, h1, h2, h3 | ⟨g, o, rfl, h3⟩⟩ := h
  · exact ⟨ao, c, rfl, h1, h2, .inl h3⟩
  · exact ⟨_, c, rfl, h1, h2, .inr ⟨g, o, rfl, fun j u hu => (hb.cell (p := ⟨g, o + j, none⟩) (cell_lt (h3 j u hu))).trans (h3 j u hu)⟩⟩
set_option maxHeartbeats 8000000 in
theorem stopR_any (rb k : Nat) (L : List (Nat × Int)) (ok : Nat → Prop) (w : World) (hR : HeldR w ok rb L) (hO : OrdL L) (hk : k < 18446744073709551616) (hok : ∀ b, w.heap.size ≤ b → ok b) (hL : L.length ≤ 1000000) :
    Calls Try.prog 11 #[ptr rb, .int .u64 k] w fun e w' => e = .returned (.bool (dueL L k).isSome) ∧ HeldR w' ok rb (stopL L k) ∧ w.grownBy w' (some rb) := by
  have HR := Lib.hid hR
  have HOK := Lib.hid hok
  obtain ⟨ao, c, c0, f0, ho, _⟩ := hR
  have hlt := cell_lt c0
  have hc0 := c0
  have HC0 := Lib.hid hc0
  have HF0 := Lib.hid f0
  have HS := Lib.hid ho.slT
  have HO := Lib.hid hO
  have hlc : L.length ≤ c := by obtain ⟨_, _, e, h, _⟩ := ho.slT; obtain ⟨_, _, rfl⟩ := Value.slice.inj e; exact h
  clear ho hO hok hc0
  obtain ⟨n, hn⟩ : ∃ n, L.length = n := ⟨_, rfl⟩
  rw [hn] at c0 hlc
  have HN := Lib.hid hn
  have hL : n ≤ 1000000 := by omega
  rw [hn] at HS HC0
  clear hn
  obtain ⟨dd, hdd⟩ : ∃ dd, (dueL L k).isSome = dd := ⟨_, rfl⟩
  rw [hdd]
  have HD := Lib.hid hdd
  obtain ⟨M, hM⟩ : ∃ M, stopL L k = M := ⟨_, rfl⟩
  rw [hM]
  have HM := Lib.hid hM
  clear hdd hM
  unfold ptr
  go_enter Try.func11, Try.ntmps11
  go_wp2_with fail
  go_loopw [11] (fun i wr => ∃ (j : Nat), i = .int .i64 (j : Int) ∧ j ≤ n ∧ Hid (∀ (q : Nat) (x : Nat × Int), q < j → L[q]? = some x → x.1 ≠ k) ∧ wr = w) (fun i _ => n - (intOf i).toNat)
  case atStart => exact ⟨0, rfl, Nat.zero_le _, Lib.hid fun q x h => absurd h (Nat.not_lt_zero _), rfl⟩
  case round =>
    obtain ⟨j, rfl, hj, HI, rfl⟩ := hrel
    by_cases hlt9 : j < n
    · obtain ⟨x, hx⟩ : ∃ x, L[j]? = some x := ⟨_, List.getElem?_eq_getElem (by have := HN.out; omega)⟩
      have HX := Lib.hid hx
      obtain ⟨g, o, rfl, r0, r1⟩ := HS.out.at hx
      clear hx
      by_cases he : x.1 = k
      · have HDD : Hid (dd = true) := by refine (?_ : _ = _); rw [← HD.out, due_at HO.out (d := x.2) (by rw [HX.out, ← he])]; rfl
        have HMM : Hid (L.take j ++ L.drop (j + 1) = M) := by refine (?_ : _ = _); rw [← HM.out, stop_at HO.out (d := x.2) (by rw [HX.out, ← he])]
        subst he
        go_upto_region 5 with fail
        have HFIN : Hid (∀ (W : World) (v : Value), Below wr.heap.size wr W → OwnT W wr.heap.size v (L.take j ++ L.drop (j + 1)) → HeldR (W.setCell ⟨rb, 0, none⟩ v) ok rb M ∧ wr.grownBy (W.setCell ⟨rb, 0, none⟩ v) (some rb)) := by
          refine (?_ : ∀ (W : World) (v : Value), _ → _ → _)
          intro W v hB ho
          rw [← HMM.out]
          exact heldR_store hB hlt HC0.out HF0.out ho HOK.out
        have hB0 : Below wr.heap.size wr wr.drew := (Below.refl _ wr).drew
        have c1 : wr.drew.cell? ⟨rb, 0, none⟩ = some (.slice (some ⟨g, o, none⟩) n c) := c0
        refine wp_region_held_drew (S := fun _ => True) (by kernel_rfl) trivial (fun _ => ?_)
        generalize wr.drew = W0 at hB0 c1 ⊢
        clear c0 r0 r1 f0
        have c0 := c1
        clear c1
        refine T_on 0 (.pointer (some ⟨rb, 0, none⟩)) rfl (by kernel_rfl) (fun _ _ _ h => h) trivial (fun W hW => by go_simp) ?_
        refine T_on 2 (.pointer (some ⟨rb, 0, none⟩)) rfl (by kernel_rfl) (fun _ _ _ h => h) trivial (fun W hW => by go_simp) ?_
        refine T_on 3 (.pointer (some ⟨rb, 0, none⟩)) rfl (by kernel_rfl) (fun _ _ _ h => h) trivial (fun W hW => by go_simp) ?_
        refine T_on 4 (.pointer (some ⟨rb, 0, none⟩)) rfl (by kernel_rfl) (fun _ _ _ h => h) trivial (fun W hW => by go_simp) ?_
        refine T_on 6 (.int .i64 (j : Int)) rfl (by kernel_rfl) (fun _ _ _ h => h) trivial (fun W hW => by go_simp) ?_
        refine T_on 9 (.pointer (some ⟨rb, 0, none⟩)) rfl (by kernel_rfl) (fun _ _ _ h => h) trivial (fun W hW => by go_simp) ?_
        refine T_on 10 (.pointer (some ⟨rb, 0, none⟩)) rfl (by kernel_rfl) (fun _ _ _ h => h) trivial (fun W hW => by go_simp) ?_
        refine T_on 11 (.pointer (some ⟨rb, 0, none⟩)) rfl (by kernel_rfl) (fun _ _ _ h => h) trivial (fun W hW => by go_simp) ?_
        refine T_on 13 (.int .i64 (j : Int)) rfl (by kernel_rfl) (fun _ _ _ h => h) trivial (fun W hW => by go_simp) ?_
        refine T_on 14 (.int .i64 ((j + 1 : Nat) : Int)) rfl (by kernel_rfl) (fun _ _ _ h => h) trivial (fun W hW => by have hw : IntKind.i64.wrap ((j : Int) + 1) = (j : Int) + 1 := (by rw [IntKind.wrap_i64]; omega); go_simp) ?_
        refine wpAnyH_ready (rs := [1, 5, 12]) (by kernel_rfl) (by simp) (AllReadyH.cons rfl (fun K hK => ?_) (AllReadyH.cons rfl (fun K hK => ?_) (AllReadyH.cons rfl (fun K hK => ?_) (AllReadyH.nil))))
        · go_simp
          obtain ⟨W1, hX, hXc, hXb, hXs⟩ := box_new W0 #[] 45
          rw [hX]
          have ho0 := ownT_lit W1 wr.heap.size W0.heap.size hB0.size hXc
          have hB1 := hB0.trans (hXb.mono hB0.size)
          have c1 := (hXb.cell (p := ⟨rb, 0, none⟩) (by have := hB0.size; show rb < W0.heap.size; omega)).trans c0
          clear hX hXc hXb hXs
          refine hK.out _ _ trivial (fun _ => ?_)
          clear hK K
          refine wpAnyH_ready (rs := [5, 12]) (by kernel_rfl) (by simp) (AllReadyH.cons rfl (fun K hK => ?_) (AllReadyH.cons rfl (fun K hK => ?_) (AllReadyH.nil)))
          · go_simp
            refine hK.out _ _ trivial (fun _ => ?_)
            clear hK K
            refine T_on 7 (.slice (some ⟨g, o, none⟩) j c) rfl (by kernel_rfl) (fun _ _ _ h => h) trivial (fun W hW => by have h := cutT_to (some ⟨g, o, none⟩) n c j (by omega) hlc W; go_simp) ?_
            refine wpAnyH_ready (rs := [8, 12]) (by kernel_rfl) (by simp) (AllReadyH.cons rfl (fun K hK => ?_) (AllReadyH.cons rfl (fun K hK => ?_) (AllReadyH.nil)))
            · refine stepT_append rfl (.tmp 25) (.tmp 31) rfl wr.heap.size _ _ [] (L.take j) rfl rfl ho0 ((slT_to HS.out j (by omega)).below hB1) (by simp; have := HN.out; omega) hB1.size ?_
              intro v1 W2 ho1 hb1
              rw [List.nil_append] at ho1
              have hB2 := hB1.trans (hb1)
              have c2 := (hb1.cell (p := ⟨rb, 0, none⟩) hlt).trans c1
              clear hb1 ho0
              refine hK.out _ _ trivial (fun _ => ?_)
              clear hK K
              refine T_call 12 (by kernel_rfl) rfl (fun K hK => ?_)
              go_simp
              refine hK.out _ _ trivial (fun _ => ?_)
              clear hK K
              refine T_on 15 (.slice (cutT (some ⟨g, o, none⟩) c (j + 1)) (n - (j + 1)) (c - (j + 1))) rfl (by kernel_rfl) (fun _ _ _ h => h) trivial (fun W hW => by have h9 : (0 : Int) ≤ (j : Int) + 1 ∧ (j : Int) + 1 ≤ (n : Int) := (by omega); go_simp; unfold cutT; by_cases hc : c = j + 1 <;> simp [hc, Addr.add]) ?_
              refine T_call 16 (by kernel_rfl) rfl (fun K hK => ?_)
              refine stepT_append rfl (.tmp 32) (.tmp 39) rfl wr.heap.size _ _ (L.take j) (L.drop (j + 1)) rfl rfl ho1 ((slT_from HS.out (j + 1) (by omega)).below hB2) (by simp; have := HN.out; omega) hB2.size ?_
              intro v2 W3 ho2 hb1
              obtain ⟨a2, m2, k2, hv2⟩ : ∃ a m k, v2 = .slice a m k := (by obtain ⟨a, k, h, _⟩ := ho2.slT; exact ⟨a, _, k, h⟩)
              have hB3 := hB2.trans hb1
              have c3 := (hb1.cell (p := ⟨rb, 0, none⟩) hlt).trans c2
              have f2 := (hB3.frozen (p := ⟨rb, 0, none⟩) hlt).trans HF0.out
              clear hb1 ho1
              refine hK.out _ _ trivial (fun _ => ?_)
              clear hK K
              subst hv2
              refine T_on 17 (.pointer (some ⟨rb, 0, none⟩)) rfl (by kernel_rfl) (fun _ _ _ h => h) trivial (fun W hW => by go_simp) ?_
              refine T_on 18 (.pointer (some ⟨rb, 0, none⟩)) rfl (by kernel_rfl) (fun _ _ _ h => h) trivial (fun W hW => by go_simp) ?_
              refine T_call 19 (by kernel_rfl) rfl (fun K hK => ?_)
              go_simp
              refine hK.out _ _ trivial (fun _ => ?_)
              clear hK K
              refine wpAnyH_done (by kernel_rfl) ?_ _
              go_simp
              go_wp2_with fail
              go_ret
              exact ⟨by rw [HDD.out]; rfl, (HFIN.out _ _ hB3 ho2).1, (HFIN.out _ _ hB3 ho2).2⟩
            · go_simp
              refine hK.out _ _ trivial (fun _ => ?_)
              clear hK K
              refine T_on 15 (.slice (cutT (some ⟨g, o, none⟩) c (j + 1)) (n - (j + 1)) (c - (j + 1))) rfl (by kernel_rfl) (fun _ _ _ h => h) trivial (fun W hW => by have h9 : (0 : Int) ≤ (j : Int) + 1 ∧ (j : Int) + 1 ≤ (n : Int) := (by omega); go_simp; unfold cutT; by_cases hc : c = j + 1 <;> simp [hc, Addr.add]) ?_
              refine T_call 8 (by kernel_rfl) rfl (fun K hK => ?_)
              refine stepT_append rfl (.tmp 25) (.tmp 31) rfl wr.heap.size _ _ [] (L.take j) rfl rfl ho0 ((slT_to HS.out j (by omega)).below hB1) (by simp; have := HN.out; omega) hB1.size ?_
              intro v1 W2 ho1 hb1
              rw [List.nil_append] at ho1
              have hB2 := hB1.trans (hb1)
              have c2 := (hb1.cell (p := ⟨rb, 0, none⟩) hlt).trans c1
              clear hb1 ho0
              refine hK.out _ _ trivial (fun _ => ?_)
              clear hK K
              refine T_call 16 (by kernel_rfl) rfl (fun K hK => ?_)
              refine stepT_append rfl (.tmp 32) (.tmp 39) rfl wr.heap.size _ _ (L.take j) (L.drop (j + 1)) rfl rfl ho1 ((slT_from HS.out (j + 1) (by omega)).below hB2) (by simp; have := HN.out; omega) hB2.size ?_
              intro v2 W3 ho2 hb1
              obtain ⟨a2, m2, k2, hv2⟩ : ∃ a m k, v2 = .slice a m k := (by obtain ⟨a, k, h, _⟩ := ho2.slT; exact ⟨a, _, k, h⟩)
              have hB3 := hB2.trans hb1
              have c3 := (hb1.cell (p := ⟨rb, 0, none⟩) hlt).trans c2
              have f2 := (hB3.frozen (p := ⟨rb, 0, none⟩) hlt).trans HF0.out
              clear hb1 ho1
              refine hK.out _ _ trivial (fun _ => ?_)
              clear hK K
              subst hv2
              refine T_on 17 (.pointer (some ⟨rb, 0, none⟩)) rfl (by kernel_rfl) (fun _ _ _ h => h) trivial (fun W hW => by go_simp) ?_
              refine T_on 18 (.pointer (some ⟨rb, 0, none⟩)) rfl (by kernel_rfl) (fun _ _ _ h => h) trivial (fun W hW => by go_simp) ?_
              refine T_call 19 (by kernel_rfl) rfl (fun K hK => ?_)
              go_simp
              refine hK.out _ _ trivial (fun _ => ?_)
              clear hK K
              refine wpAnyH_done (by kernel_rfl) ?_ _
              go_simp
              go_wp2_with fail
              go_ret
              exact ⟨by rw [HDD.out]; rfl, (HFIN.out _ _ hB3 ho2).1, (HFIN.out _ _ hB3 ho2).2⟩
          · go_simp
            refine hK.out _ _ trivial (fun _ => ?_)
            clear hK K
            refine T_on 15 (.slice (cutT (some ⟨g, o, none⟩) c (j + 1)) (n - (j + 1)) (c - (j + 1))) rfl (by kernel_rfl) (fun _ _ _ h => h) trivial (fun W hW => by have h9 : (0 : Int) ≤ (j : Int) + 1 ∧ (j : Int) + 1 ≤ (n : Int) := (by omega); go_simp; unfold cutT; by_cases hc : c = j + 1 <;> simp [hc, Addr.add]) ?_
            refine T_call 5 (by kernel_rfl) rfl (fun K hK => ?_)
            go_simp
            refine hK.out _ _ trivial (fun _ => ?_)
            clear hK K
            refine T_on 7 (.slice (some ⟨g, o, none⟩) j c) rfl (by kernel_rfl) (fun _ _ _ h => h) trivial (fun W hW => by have h := cutT_to (some ⟨g, o, none⟩) n c j (by omega) hlc W; go_simp) ?_
            refine T_call 8 (by kernel_rfl) rfl (fun K hK => ?_)
            refine stepT_append rfl (.tmp 25) (.tmp 31) rfl wr.heap.size _ _ [] (L.take j) rfl rfl ho0 ((slT_to HS.out j (by omega)).below hB1) (by simp; have := HN.out; omega) hB1.size ?_
            intro v1 W2 ho1 hb1
            rw [List.nil_append] at ho1
            have hB2 := hB1.trans (hb1)
            have c2 := (hb1.cell (p := ⟨rb, 0, none⟩) hlt).trans c1
            clear hb1 ho0
            refine hK.out _ _ trivial (fun _ => ?_)
            clear hK K
            refine T_call 16 (by kernel_rfl) rfl (fun K hK => ?_)
            refine stepT_append rfl (.tmp 32) (.tmp 39) rfl wr.heap.size _ _ (L.take j) (L.drop (j + 1)) rfl rfl ho1 ((slT_from HS.out (j + 1) (by omega)).below hB2) (by simp; have := HN.out; omega) hB2.size ?_
            intro v2 W3 ho2 hb1
            obtain ⟨a2, m2, k2, hv2⟩ : ∃ a m k, v2 = .slice a m k := (by obtain ⟨a, k, h, _⟩ := ho2.slT; exact ⟨a, _, k, h⟩)
            have hB3 := hB2.trans hb1
            have c3 := (hb1.cell (p := ⟨rb, 0, none⟩) hlt).trans c2
            have f2 := (hB3.frozen (p := ⟨rb, 0, none⟩) hlt).trans HF0.out
            clear hb1 ho1
            refine hK.out _ _ trivial (fun _ => ?_)
            clear hK K
            subst hv2
            refine T_on 17 (.pointer (some ⟨rb, 0, none⟩)) rfl (by kernel_rfl) (fun _ _ _ h => h) trivial (fun W hW => by go_simp) ?_
            refine T_on 18 (.pointer (some ⟨rb, 0, none⟩)) rfl (by kernel_rfl) (fun _ _ _ h => h) trivial (fun W hW => by go_simp) ?_
            refine T_call 19 (by kernel_rfl) rfl (fun K hK => ?_)
            go_simp
            refine hK.out _ _ trivial (fun _ => ?_)
            clear hK K
            refine wpAnyH_done (by kernel_rfl) ?_ _
            go_simp
            go_wp2_with fail
            go_ret
            exact ⟨by rw [HDD.out]; rfl, (HFIN.out _ _ hB3 ho2).1, (HFIN.out _ _ hB3 ho2).2⟩
        · go_simp
          refine hK.out _ _ trivial (fun _ => ?_)
          clear hK K
          refine T_on 7 (.slice (some ⟨g, o, none⟩) j c) rfl (by kernel_rfl) (fun _ _ _ h => h) trivial (fun W hW => by have h := cutT_to (some ⟨g, o, none⟩) n c j (by omega) hlc W; go_simp) ?_
          refine wpAnyH_ready (rs := [1, 12]) (by kernel_rfl) (by simp) (AllReadyH.cons rfl (fun K hK => ?_) (AllReadyH.cons rfl (fun K hK => ?_) (AllReadyH.nil)))
          · go_simp
            obtain ⟨W1, hX, hXc, hXb, hXs⟩ := box_new W0 #[] 45
            rw [hX]
            have ho0 := ownT_lit W1 wr.heap.size W0.heap.size hB0.size hXc
            have hB1 := hB0.trans (hXb.mono hB0.size)
            have c1 := (hXb.cell (p := ⟨rb, 0, none⟩) (by have := hB0.size; show rb < W0.heap.size; omega)).trans c0
            clear hX hXc hXb hXs
            refine hK.out _ _ trivial (fun _ => ?_)
            clear hK K
            refine wpAnyH_ready (rs := [8, 12]) (by kernel_rfl) (by simp) (AllReadyH.cons rfl (fun K hK => ?_) (AllReadyH.cons rfl (fun K hK => ?_) (AllReadyH.nil)))
            · refine stepT_append rfl (.tmp 25) (.tmp 31) rfl wr.heap.size _ _ [] (L.take j) rfl rfl ho0 ((slT_to HS.out j (by omega)).below hB1) (by simp; have := HN.out; omega) hB1.size ?_
              intro v1 W2 ho1 hb1
              rw [List.nil_append] at ho1
              have hB2 := hB1.trans (hb1)
              have c2 := (hb1.cell (p := ⟨rb, 0, none⟩) hlt).trans c1
              clear hb1 ho0
              refine hK.out _ _ trivial (fun _ => ?_)
              clear hK K
              refine T_call 12 (by kernel_rfl) rfl (fun K hK => ?_)
              go_simp
              refine hK.out _ _ trivial (fun _ => ?_)
              clear hK K
              refine T_on 15 (.slice (cutT (some ⟨g, o, none⟩) c (j + 1)) (n - (j + 1)) (c - (j + 1))) rfl (by kernel_rfl) (fun _ _ _ h => h) trivial (fun W hW => by have h9 : (0 : Int) ≤ (j : Int) + 1 ∧ (j : Int) + 1 ≤ (n : Int) := (by omega); go_simp; unfold cutT; by_cases hc : c = j + 1 <;> simp [hc, Addr.add]) ?_
              refine T_call 16 (by kernel_rfl) rfl (fun K hK => ?_)
              refine stepT_append rfl (.tmp 32) (.tmp 39) rfl wr.heap.size _ _ (L.take j) (L.drop (j + 1)) rfl rfl ho1 ((slT_from HS.out (j + 1) (by omega)).below hB2) (by simp; have := HN.out; omega) hB2.size ?_
              intro v2 W3 ho2 hb1
              obtain ⟨a2, m2, k2, hv2⟩ : ∃ a m k, v2 = .slice a m k := (by obtain ⟨a, k, h, _⟩ := ho2.slT; exact ⟨a, _, k, h⟩)
              have hB3 := hB2.trans hb1
              have c3 := (hb1.cell (p := ⟨rb, 0, none⟩) hlt).trans c2
              have f2 := (hB3.frozen (p := ⟨rb, 0, none⟩) hlt).trans HF0.out
              clear hb1 ho1
              refine hK.out _ _ trivial (fun _ => ?_)
              clear hK K
              subst hv2
              refine T_on 17 (.pointer (some ⟨rb, 0, none⟩)) rfl (by kernel_rfl) (fun _ _ _ h => h) trivial (fun W hW => by go_simp) ?_
              refine T_on 18 (.pointer (some ⟨rb, 0, none⟩)) rfl (by kernel_rfl) (fun _ _ _ h => h) trivial (fun W hW => by go_simp) ?_
              refine T_call 19 (by kernel_rfl) rfl (fun K hK => ?_)
              go_simp
              refine hK.out _ _ trivial (fun _ => ?_)
              clear hK K
              refine wpAnyH_done (by kernel_rfl) ?_ _
              go_simp
              go_wp2_with fail
              go_ret
              exact ⟨by rw [HDD.out]; rfl, (HFIN.out _ _ hB3 ho2).1, (HFIN.out _ _ hB3 ho2).2⟩
            · go_simp
              refine hK.out _ _ trivial (fun _ => ?_)
              clear hK K
              refine T_on 15 (.slice (cutT (some ⟨g, o, none⟩) c (j + 1)) (n - (j + 1)) (c - (j + 1))) rfl (by kernel_rfl) (fun _ _ _ h => h) trivial (fun W hW => by have h9 : (0 : Int) ≤ (j : Int) + 1 ∧ (j : Int) + 1 ≤ (n : Int) := (by omega); go_simp; unfold cutT; by_cases hc : c = j + 1 <;> simp [hc, Addr.add]) ?_
              refine T_call 8 (by kernel_rfl) rfl (fun K hK => ?_)
              refine stepT_append rfl (.tmp 25) (.tmp 31) rfl wr.heap.size _ _ [] (L.take j) rfl rfl ho0 ((slT_to HS.out j (by omega)).below hB1) (by simp; have := HN.out; omega) hB1.size ?_
              intro v1 W2 ho1 hb1
              rw [List.nil_append] at ho1
              have hB2 := hB1.trans (hb1)
              have c2 := (hb1.cell (p := ⟨rb, 0, none⟩) hlt).trans c1
              clear hb1 ho0
              refine hK.out _ _ trivial (fun _ => ?_)
              clear hK K
              refine T_call 16 (by kernel_rfl) rfl (fun K hK => ?_)
              refine stepT_append rfl (.tmp 32) (.tmp 39) rfl wr.heap.size _ _ (L.take j) (L.drop (j + 1)) rfl rfl ho1 ((slT_from HS.out (j + 1) (by omega)).below hB2) (by simp; have := HN.out; omega) hB2.size ?_
              intro v2 W3 ho2 hb1
              obtain ⟨a2, m2, k2, hv2⟩ : ∃ a m k, v2 = .slice a m k := (by obtain ⟨a, k, h, _⟩ := ho2.slT; exact ⟨a, _, k, h⟩)
              have hB3 := hB2.trans hb1
              have c3 := (hb1.cell (p := ⟨rb, 0, none⟩) hlt).trans c2
              have f2 := (hB3.frozen (p := ⟨rb, 0, none⟩) hlt).trans HF0.out
              clear hb1 ho1
              refine hK.out _ _ trivial (fun _ => ?_)
              clear hK K
              subst hv2
              refine T_on 17 (.pointer (some ⟨rb, 0, none⟩)) rfl (by kernel_rfl) (fun _ _ _ h => h) trivial (fun W hW => by go_simp) ?_
              refine T_on 18 (.pointer (some ⟨rb, 0, none⟩)) rfl (by kernel_rfl) (fun _ _ _ h => h) trivial (fun W hW => by go_simp) ?_
              refine T_call 19 (by kernel_rfl) rfl (fun K hK => ?_)
              go_simp
              refine hK.out _ _ trivial (fun _ => ?_)
              clear hK K
              refine wpAnyH_done (by kernel_rfl) ?_ _
              go_simp
              go_wp2_with fail
              go_ret
              exact ⟨by rw [HDD.out]; rfl, (HFIN.out _ _ hB3 ho2).1, (HFIN.out _ _ hB3 ho2).2⟩
          · go_simp
            refine hK.out _ _ trivial (fun _ => ?_)
            clear hK K
            refine T_on 15 (.slice (cutT (some ⟨g, o, none⟩) c (j + 1)) (n - (j + 1)) (c - (j + 1))) rfl (by kernel_rfl) (fun _ _ _ h => h) trivial (fun W hW => by have h9 : (0 : Int) ≤ (j : Int) + 1 ∧ (j : Int) + 1 ≤ (n : Int) := (by omega); go_simp; unfold cutT; by_cases hc : c = j + 1 <;> simp [hc, Addr.add]) ?_
            refine T_call 1 (by kernel_rfl) rfl (fun K hK => ?_)
            go_simp
            obtain ⟨W1, hX, hXc, hXb, hXs⟩ := box_new W0 #[] 45
            rw [hX]
            have ho0 := ownT_lit W1 wr.heap.size W0.heap.size hB0.size hXc
            have hB1 := hB0.trans (hXb.mono hB0.size)
            have c1 := (hXb.cell (p := ⟨rb, 0, none⟩) (by have := hB0.size; show rb < W0.heap.size; omega)).trans c0
            clear hX hXc hXb hXs
            refine hK.out _ _ trivial (fun _ => ?_)
            clear hK K
            refine T_call 8 (by kernel_rfl) rfl (fun K hK => ?_)
            refine stepT_append rfl (.tmp 25) (.tmp 31) rfl wr.heap.size _ _ [] (L.take j) rfl rfl ho0 ((slT_to HS.out j (by omega)).below hB1) (by simp; have := HN.out; omega) hB1.size ?_
            intro v1 W2 ho1 hb1
            rw [List.nil_append] at ho1
            have hB2 := hB1.trans (hb1)
            have c2 := (hb1.cell (p := ⟨rb, 0, none⟩) hlt).trans c1
            clear hb1 ho0
            refine hK.out _ _ trivial (fun _ => ?_)
            clear hK K
            refine T_call 16 (by kernel_rfl) rfl (fun K hK => ?_)
            refine stepT_append rfl (.tmp 32) (.tmp 39) rfl wr.heap.size _ _ (L.take j) (L.drop (j + 1)) rfl rfl ho1 ((slT_from HS.out (j + 1) (by omega)).below hB2) (by simp; have := HN.out; omega) hB2.size ?_
            intro v2 W3 ho2 hb1
            obtain ⟨a2, m2, k2, hv2⟩ : ∃ a m k, v2 = .slice a m k := (by obtain ⟨a, k, h, _⟩ := ho2.slT; exact ⟨a, _, k, h⟩)
            have hB3 := hB2.trans hb1
            have c3 := (hb1.cell (p := ⟨rb, 0, none⟩) hlt).trans c2
            have f2 := (hB3.frozen (p := ⟨rb, 0, none⟩) hlt).trans HF0.out
            clear hb1 ho1
            refine hK.out _ _ trivial (fun _ => ?_)
            clear hK K
            subst hv2
            refine T_on 17 (.pointer (some ⟨rb, 0, none⟩)) rfl (by kernel_rfl) (fun _ _ _ h => h) trivial (fun W hW => by go_simp) ?_
            refine T_on 18 (.pointer (some ⟨rb, 0, none⟩)) rfl (by kernel_rfl) (fun _ _ _ h => h) trivial (fun W hW => by go_simp) ?_
            refine T_call 19 (by kernel_rfl) rfl (fun K hK => ?_)
            go_simp
            refine hK.out _ _ trivial (fun _ => ?_)
            clear hK K
            refine wpAnyH_done (by kernel_rfl) ?_ _
            go_simp
            go_wp2_with fail
            go_ret
            exact ⟨by rw [HDD.out]; rfl, (HFIN.out _ _ hB3 ho2).1, (HFIN.out _ _ hB3 ho2).2⟩
        · go_simp
          refine hK.out _ _ trivial (fun _ => ?_)
          clear hK K
          refine T_on 15 (.slice (cutT (some ⟨g, o, none⟩) c (j + 1)) (n - (j + 1)) (c - (j + 1))) rfl (by kernel_rfl) (fun _ _ _ h => h) trivial (fun W hW => by have h9 : (0 : Int) ≤ (j : Int) + 1 ∧ (j : Int) + 1 ≤ (n : Int) := (by omega); go_simp; unfold cutT; by_cases hc : c = j + 1 <;> simp [hc, Addr.add]) ?_
          refine wpAnyH_ready (rs := [1, 5]) (by kernel_rfl) (by simp) (AllReadyH.cons rfl (fun K hK => ?_) (AllReadyH.cons rfl (fun K hK => ?_) (AllReadyH.nil)))
          · go_simp
            obtain ⟨W1, hX, hXc, hXb, hXs⟩ := box_new W0 #[] 45
            rw [hX]
            have ho0 := ownT_lit W1 wr.heap.size W0.heap.size hB0.size hXc
            have hB1 := hB0.trans (hXb.mono hB0.size)
            have c1 := (hXb.cell (p := ⟨rb, 0, none⟩) (by have := hB0.size; show rb < W0.heap.size; omega)).trans c0
            clear hX hXc hXb hXs
            refine hK.out _ _ trivial (fun _ => ?_)
            clear hK K
            refine T_call 5 (by kernel_rfl) rfl (fun K hK => ?_)
            go_simp
            refine hK.out _ _ trivial (fun _ => ?_)
            clear hK K
            refine T_on 7 (.slice (some ⟨g, o, none⟩) j c) rfl (by kernel_rfl) (fun _ _ _ h => h) trivial (fun W hW => by have h := cutT_to (some ⟨g, o, none⟩) n c j (by omega) hlc W; go_simp) ?_
            refine T_call 8 (by kernel_rfl) rfl (fun K hK => ?_)
            refine stepT_append rfl (.tmp 25) (.tmp 31) rfl wr.heap.size _ _ [] (L.take j) rfl rfl ho0 ((slT_to HS.out j (by omega)).below hB1) (by simp; have := HN.out; omega) hB1.size ?_
            intro v1 W2 ho1 hb1
            rw [List.nil_append] at ho1
            have hB2 := hB1.trans (hb1)
            have c2 := (hb1.cell (p := ⟨rb, 0, none⟩) hlt).trans c1
            clear hb1 ho0
            refine hK.out _ _ trivial (fun _ => ?_)
            clear hK K
            refine T_call 16 (by kernel_rfl) rfl (fun K hK => ?_)
            refine stepT_append rfl (.tmp 32) (.tmp 39) rfl wr.heap.size _ _ (L.take j) (L.drop (j + 1)) rfl rfl ho1 ((slT_from HS.out (j + 1) (by omega)).below hB2) (by simp; have := HN.out; omega) hB2.size ?_
            intro v2 W3 ho2 hb1
            obtain ⟨a2, m2, k2, hv2⟩ : ∃ a m k, v2 = .slice a m k := (by obtain ⟨a, k, h, _⟩ := ho2.slT; exact ⟨a, _, k, h⟩)
            have hB3 := hB2.trans hb1
            have c3 := (hb1.cell (p := ⟨rb, 0, none⟩) hlt).trans c2
            have f2 := (hB3.frozen (p := ⟨rb, 0, none⟩) hlt).trans HF0.out
            clear hb1 ho1
            refine hK.out _ _ trivial (fun _ => ?_)
            clear hK K
            subst hv2
            refine T_on 17 (.pointer (some ⟨rb, 0, none⟩)) rfl (by kernel_rfl) (fun _ _ _ h => h) trivial (fun W hW => by go_simp) ?_
            refine T_on 18 (.pointer (some ⟨rb, 0, none⟩)) rfl (by kernel_rfl) (fun _ _ _ h => h) trivial (fun W hW => by go_simp) ?_
            refine T_call 19 (by kernel_rfl) rfl (fun K hK => ?_)
            go_simp
            refine hK.out _ _ trivial (fun _ => ?_)
            clear hK K
            refine wpAnyH_done (by kernel_rfl) ?_ _
            go_simp
            go_wp2_with fail
            go_ret
            exact ⟨by rw [HDD.out]; rfl, (HFIN.out _ _ hB3 ho2).1, (HFIN.out _ _ hB3 ho2).2⟩
          · go_simp
            refine hK.out _ _ trivial (fun _ => ?_)
            clear hK K
            refine T_on 7 (.slice (some ⟨g, o, none⟩) j c) rfl (by kernel_rfl) (fun _ _ _ h => h) trivial (fun W hW => by have h := cutT_to (some ⟨g, o, none⟩) n c j (by omega) hlc W; go_simp) ?_
            refine T_call 1 (by kernel_rfl) rfl (fun K hK => ?_)
            go_simp
            obtain ⟨W1, hX, hXc, hXb, hXs⟩ := box_new W0 #[] 45
            rw [hX]
            have ho0 := ownT_lit W1 wr.heap.size W0.heap.size hB0.size hXc
            have hB1 := hB0.trans (hXb.mono hB0.size)
            have c1 := (hXb.cell (p := ⟨rb, 0, none⟩) (by have := hB0.size; show rb < W0.heap.size; omega)).trans c0
            clear hX hXc hXb hXs
            refine hK.out _ _ trivial (fun _ => ?_)
            clear hK K
            refine T_call 8 (by kernel_rfl) rfl (fun K hK => ?_)
            refine stepT_append rfl (.tmp 25) (.tmp 31) rfl wr.heap.size _ _ [] (L.take j) rfl rfl ho0 ((slT_to HS.out j (by omega)).below hB1) (by simp; have := HN.out; omega) hB1.size ?_
            intro v1 W2 ho1 hb1
            rw [List.nil_append] at ho1
            have hB2 := hB1.trans (hb1)
            have c2 := (hb1.cell (p := ⟨rb, 0, none⟩) hlt).trans c1
            clear hb1 ho0
            refine hK.out _ _ trivial (fun _ => ?_)
            clear hK K
            refine T_call 16 (by kernel_rfl) rfl (fun K hK => ?_)
            refine stepT_append rfl (.tmp 32) (.tmp 39) rfl wr.heap.size _ _ (L.take j) (L.drop (j + 1)) rfl rfl ho1 ((slT_from HS.out (j + 1) (by omega)).below hB2) (by simp; have := HN.out; omega) hB2.size ?_
            intro v2 W3 ho2 hb1
            obtain ⟨a2, m2, k2, hv2⟩ : ∃ a m k, v2 = .slice a m k := (by obtain ⟨a, k, h, _⟩ := ho2.slT; exact ⟨a, _, k, h⟩)
            have hB3 := hB2.trans hb1
            have c3 := (hb1.cell (p := ⟨rb, 0, none⟩) hlt).trans c2
            have f2 := (hB3.frozen (p := ⟨rb, 0, none⟩) hlt).trans HF0.out
            clear hb1 ho1
            refine hK.out _ _ trivial (fun _ => ?_)
            clear hK K
            subst hv2
            refine T_on 17 (.pointer (some ⟨rb, 0, none⟩)) rfl (by kernel_rfl) (fun _ _ _ h => h) trivial (fun W hW => by go_simp) ?_
            refine T_on 18 (.pointer (some ⟨rb, 0, none⟩)) rfl (by kernel_rfl) (fun _ _ _ h => h) trivial (fun W hW => by go_simp) ?_
            refine T_call 19 (by kernel_rfl) rfl (fun K hK => ?_)
            go_simp
            refine hK.out _ _ trivial (fun _ => ?_)
            clear hK K
            refine wpAnyH_done (by kernel_rfl) ?_ _
            go_simp
            go_wp2_with fail
            go_ret
            exact ⟨by rw [HDD.out]; rfl, (HFIN.out _ _ hB3 ho2).1, (HFIN.out _ _ hB3 ho2).2⟩
      · have he2 : ¬ ((x.1 : Int) = (k : Int)) := by omega
        go_wp2_with fail
        go_roundw
        case rel => exact ⟨j + 1, by go_num, by omega, Lib.hid fun q y hq hy => by
            by_cases h : q = j
            · subst h; rw [HX.out] at hy; obtain rfl := Option.some.inj hy; exact he
            · exact HI.out q y (by omega) hy, by first | rfl | trivial⟩
        case measure => simp [intOf]; omega
    · have hlt2 : ¬ (j : Int) < (n : Int) := by omega
      have hno : ∀ z ∈ L, z.1 ≠ k := fun z hz => by
        obtain ⟨q, hq⟩ := List.getElem?_of_mem hz
        exact HI.out q z (by have := (List.getElem?_eq_some_iff.1 hq).1; have := HN.out; omega) hq
      have HDD : Hid (dd = false) := by refine (?_ : _ = _); rw [← HD.out, due_none hno]; rfl
      have HMM : Hid (M = L) := by refine (?_ : _ = _); rw [← HM.out, stop_none hno]
      go_wp2_with fail
      go_ret
      exact ⟨by rw [HDD.out]; rfl, by rw [HMM.out]; exact HR.out, World.grownBy.refl _ _⟩
end Go.Proofs.Ytblebbmnlbmgiaa
