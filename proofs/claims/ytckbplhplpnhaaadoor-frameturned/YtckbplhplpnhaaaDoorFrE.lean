/-
  The walk over Build, by the program.
-/
import Derived.Test.YtckbplhplpnhaaaDoorFrB
import Derived.Test.YtckbplhplpnhaaaDoorFrD
import Derived.Test.YtckbplhplpnhaaaDoorApp
namespace Go.Proofs.YtckbplhplpnhaaaDoor
set_option linter.unusedVariables false
open Go.ChangeShapes Go.WideShapes Go.ChangeAt Go.RowKit

/-- what Build answers -/
def BuildAns (f : Fr) (base : Nat) (e : Ending) (w' : World) : Prop :=
  (okF f = false ∧ e = .returned (.tuple #[.slice none 0 0, .int .i64 1])) ∨ (okF f = true ∧ ∃ v, e = .returned (.tuple #[v, .int .i64 0]) ∧ OwnB w' base v (bytesF f))
theorem vints_take {l : List Int} {j : Nat} {z : Int} (h : l[j]? = some z) : vints (l.take (j + 1)) = vints (l.take j) ++ vint z.toNat := by
  rw [List.take_add_one, h, vints_append]; simp [vints_cons, vints_nil]
theorem rn_take {l : List Int} (h : Rn l) (j : Nat) : Rn (l.take j) := fun n hn => h n (List.mem_of_mem_take hn)
/-- the sum's bytes, as they are reckoned -/
theorem four_int (s : Nat) (hs : s < 4294967296) : four s = [(s : Int) / 16777216 % 256, (s : Int) / 65536 % 256, (s : Int) / 256 % 256, (s : Int) % 256] := by
  unfold four
  simp only [List.cons.injEq, and_true]
  omega
theorem index9 {v0 v1 v2 v3 v4 v5 v6 v7 v8 z : Value} (W : World) : ∀ (j : Nat), [v0, v1, v2, v3, v4, v5, v6, v7, v8][j]? = some z → (Instr.index 37 (.agg #[v0, v1, v2, v3, v4, v5, v6, v7, v8]) (.int .i64 (j : Nat))).run Tryd.prog W = .ok z W
  | 0, h => by simp at h; subst h; rfl
  | 1, h => by simp at h; subst h; rfl
  | 2, h => by simp at h; subst h; rfl
  | 3, h => by simp at h; subst h; rfl
  | 4, h => by simp at h; subst h; rfl
  | 5, h => by simp at h; subst h; rfl
  | 6, h => by simp at h; subst h; rfl
  | 7, h => by simp at h; subst h; rfl
  | 8, h => by simp at h; subst h; rfl
  | j + 9, h => by simp at h
set_option maxHeartbeats 4000000 in
set_option maxRecDepth 20000 in
theorem build_any (k cl tk at1 fl me dl st : Int) (p : List Int) (a : Option Addr) (c : Nat) (w : World) (hT : Shf w) (hr : RngF ⟨k, cl, tk, at1, fl, me, dl, st, p⟩) (hB : IsB w a p.length p) (hc : a = none → p.length = 0 ∧ c = 0) :
    Calls Tryd.prog 10 #[.agg #[.int .i64 k, .int .i64 cl, .int .u64 tk, .int .i64 at1, .int .u64 fl, .int .i64 me, .int .i64 dl, .int .i64 st, .slice a p.length c]] w fun e w' => BuildAns ⟨k, cl, tk, at1, fl, me, dl, st, p⟩ w.heap.size e w' ∧ Below w.heap.size w w' := by
  have HT := Lib.hid hT
  have HB := Lib.hid hB
  have HC := Lib.hid hc
  have HF := fun wx => formed_any k cl tk at1 fl me dl st p a c wx
  have HR := Lib.hid hr
  clear hT hB hc hr
  obtain ⟨b, hb⟩ : ∃ b, okF ⟨k, cl, tk, at1, fl, me, dl, st, p⟩ = b := ⟨_, rfl⟩
  rw [hb] at HF
  have HO := Lib.hid hb
  clear hb
  obtain ⟨n, hn⟩ : ∃ n, p.length = n := ⟨_, rfl⟩
  have HN := Lib.hid hn
  rw [hn] at HB HC HF ⊢
  clear hn
  go_enter Tryd.func10, Tryd.ntmps10
  cases b with
  | false =>
    go_wp2_with (go_at_call 12; refine (HF _).mono ?_; rintro e w1 ⟨rfl, hb1⟩; have HX := Lib.hid hb1; clear hb1)
    go_ret2
    exact ⟨.inl ⟨HO.out, rfl⟩, below_two HX.out⟩
  | true =>
    have hok := (okF_iff _).1 HO.out
    simp only [HN.out] at hok
    have hrr := HR.out
    unfold RngF at hrr
    simp only at hrr
    have HNM := fun wx => numbers_any k cl tk at1 fl me dl st n a c wx (by omega) (by omega) (by omega) (by omega) (by omega) (by omega) (by omega) (by omega) (by omega)
    have HRN := Lib.hid (nums_rn HO.out (by show tk ≤ _; omega))
    have hn4 : n ≤ 4096 := by omega
    clear hok hrr
    obtain ⟨l, hl⟩ : ∃ l, numsF ⟨k, cl, tk, at1, fl, me, dl, st, p⟩ = l := ⟨_, rfl⟩
    rw [hl] at HRN
    have HL := Lib.hid hl
    have hl9 : l.length = 9 := by rw [← hl]; rfl
    have HL9 := Lib.hid hl9
    clear hl hl9
    go_wp2_with (first | (go_at_call 12; refine (HF _).mono ?_; rintro e w1 ⟨rfl, hb1⟩; have hb2 := hb1.alloc hb1.size (.cells #[.int .u8 199] 5); have HX := Lib.hid hb2; have HX0 := Lib.hid hb1; obtain ⟨q0, q1, q2, q3, q4, q5, q6, q7, q8⟩ := box9 hb2 (by simp); have HS := Lib.hid (own_blk w1 [199] (by simp [maxLen])); clear hb1 hb2) | (go_at_call 18; refine (HNM _).mono ?_; rintro e w2 ⟨rfl, hb3⟩; have HY := Lib.hid (HX.out.trans (hb3.mono HX.out.size)); have HS2 := Lib.hid (own_old HS.out hb3); clear hb3 q0 q1 q2 q3 q4 q5 q6 q7 q8 HS HX))
    have HOW : Hid (OwnB w2 (w.heap.size + 1) (.slice (some ⟨w1.heap.size, 0, none⟩) 1 1) (199 :: vints (l.take 0))) := by
      have h1 := own_mono HS2.out (by have := HX0.out.size; simp at this; omega : w.heap.size + 1 ≤ w1.heap.size)
      exact h1
    have HBE : Hid (Below (w.heap.size + 1) (w.alloc (.cells #[.int .i64 k, .int .i64 cl, .int .u64 tk, .int .i64 at1, .int .u64 fl, .int .i64 me, .int .i64 dl, .int .i64 st, .slice a n c] 25)) w2) := by
      have h1 := HY.out
      rw [World.size_alloc] at h1
      exact h1
    clear HS2 HY HX0
    have hL9 := HL9.out
    go_loopw [4, 14] (fun b i wr => ∃ (j : Nat), j ≤ 9 ∧ i = .int .i64 j ∧ OwnB wr (w.heap.size + 1) b (199 :: vints (l.take j)) ∧ Below (w.heap.size + 1) (w.alloc (.cells #[.int .i64 k, .int .i64 cl, .int .u64 tk, .int .i64 at1, .int .u64 fl, .int .i64 me, .int .i64 dl, .int .i64 st, .slice a n c] 25)) wr) (fun _ i _ => 9 - (intOf i).toNat)
    case atStart => exact ⟨0, by omega, rfl, HOW.out, HBE.out⟩
    case round =>
      obtain ⟨j, hj, rfl, how, hbe⟩ := hrel
      have HW := Lib.hid how
      have HE := Lib.hid hbe
      clear how hbe HOW HBE
      by_cases hj9 : j < 9
      · obtain ⟨z, hz⟩ : ∃ z, l[j]? = some z := ⟨_, List.getElem?_eq_getElem (by rw [hL9]; exact hj9)⟩
        have hzr := HRN.out z (List.mem_of_getElem? hz)
        have hzl : ([Value.int .u64 k, Value.int .u64 cl, Value.int .u64 tk, Value.int .u64 at1, Value.int .u64 fl, Value.int .u64 me, Value.int .u64 dl, Value.int .u64 st, Value.int .u64 (n : Nat)] : List Value)[j]? = some (.int .u64 z) := by
          have : (l.map (Value.int .u64))[j]? = some (.int .u64 z) := by rw [List.getElem?_map, hz]; rfl
          rw [← HL.out] at this
          unfold numsF at this
          simp only [HN.out, List.map_cons, List.map_nil] at this
          exact this
        have hix := fun W => index9 W j hzl
        have HV : Hid (vints (l.take (j + 1)) = vints (l.take j) ++ vint z.toNat) := vints_take hz
        have hvl := vints_len _ (rn_take HRN.out j)
        have hlen : (199 :: vints (l.take j)).length ≤ 100 := by
          have := List.length_take_le j l
          have h2 : (l.take j).length ≤ 9 := by rw [List.length_take]; omega
          simp only [List.length_cons]; omega
        have hby : ∀ x ∈ (199 :: vints (l.take j) : List Int), 0 ≤ x ∧ x ≤ 255 := by
          intro x hx
          rcases List.mem_cons.1 hx with rfl | hx
          · omega
          · exact vints_bytes _ x hx
        obtain ⟨a1, c1, rfl, hI, _, _⟩ := own_isB HW.out hby (by omega)
        have HI := Lib.hid hI
        obtain ⟨N, rfl⟩ : ∃ N : Nat, z = N := ⟨z.toNat, by omega⟩
        have HA := fun wx hI => append_any a1 (199 :: vints (l.take j)).length c1 (199 :: vints (l.take j)) N wx hI (by omega) (by omega)
        have HVL := Lib.hid (vint_ten (n := N) (by omega))
        obtain ⟨zs, hzs⟩ : ∃ zs, (199 :: vints (l.take j) : List Int) = zs := ⟨_, rfl⟩
        rw [hzs] at hlen HI HA hby HW ⊢
        obtain ⟨L, hLL⟩ : ∃ L, zs.length = L := ⟨_, rfl⟩
        have HLL := Lib.hid hLL
        rw [hLL] at hlen HI HA ⊢
        clear hLL
        have HZS := Lib.hid hzs
        have HBY := Lib.hid hby
        clear hz hzl hvl hby hzs hI
        go_wp2_with (go_at_call 19; refine (HA _ HI.out).mono ?_; rintro e w3 ⟨rfl, rfl⟩)
        go_roundw
        case rel =>
          refine ⟨j + 1, by omega, by go_num, ?_, ?_⟩
          · rw [HV.out, ← List.cons_append, HZS.out]
            have h1 := own_blk wr (zs ++ vint N) (by have := HVL.out; have := HLL.out; simp only [List.length_append, maxLen]; omega)
            rw [List.length_append, HLL.out] at h1
            exact own_mono h1 (by have := HE.out.size; simp at this; omega)
          · exact HE.out.trans ((blk_below wr 5 _).mono (by have := HE.out.size; simp at this; omega))
        case measure => simp [intOf]; omega
      · obtain rfl : j = 9 := by omega
        have hT9 : l.take 9 = l := List.take_of_length_le (by omega)
        rw [hT9] at HW
        have HBD : Hid ((199 :: vints l : List Int) ++ p = bodyF ⟨k, cl, tk, at1, fl, me, dl, st, p⟩) := by
          refine (?_ : _ = _)
          unfold bodyF
          rw [HL.out, List.cons_append]
        obtain ⟨q0, q1, q2, q3, q4, q5, q6, q7, q8⟩ := box9 HE.out (by simp)
        have hb0 : Below w.heap.size w wr := ((Below.refl w.heap.size w).alloc (Nat.le_refl _) _).trans (HE.out.mono (by omega))
        have HB0 := Lib.hid hb0
        have HPB := Lib.hid (isB_old HB.out hb0)
        have hvl := vints_len _ HRN.out
        have hlen : (199 :: vints l).length ≤ 100 := by
          simp only [List.length_cons]; omega
        have hby : ∀ x ∈ bodyF ⟨k, cl, tk, at1, fl, me, dl, st, p⟩, 0 ≤ x ∧ x ≤ 255 := body_bytes (isB_bt HB.out)
        have hsz : w.heap.size + 1 ≤ wr.heap.size := by have := HE.out.size; simp at this; omega
        clear hb0 hT9 hvl
        go_wp2_with (at_builtin; refine wpB_append rfl (.tmp 21) (.tmp 23) rfl (w.heap.size + 1) u4 (199 :: vints l) rfl HW.out a n c p rfl HPB.out HC.out (by omega) hsz ?_; intro v2 w3 hown2 hg2; rw [HBD.out] at hown2; have hb3 := HB0.out.grown hg2 HB0.out.size (fun k hk => by have := own_blockB HW.out k hk; omega); have HB3 := Lib.hid hb3; have hs3 := hb3.size; clear q0 q1 q2 q3 q4 q5 q6 q7 q8 hb3; obtain ⟨a2, c2, rfl, hI2, _, hn2⟩ := own_isB hown2 hby (by have := congrArg List.length HBD.out; rw [List.length_append, HN.out] at this; omega); have HI2 := Lib.hid hI2; have HOW2 := Lib.hid hown2; have HT3 := Lib.hid (HT.out.below HB3.out); clear hI2 hn2 hown2)
        refine (sum_any _ _ _ _ w3 HT3.out HI2.out).mono ?_
        rintro e w' ⟨rfl, rfl⟩
        have hS := sumC_lt hby
        obtain ⟨S, hSS⟩ : ∃ S, sumC (nats (bodyF ⟨k, cl, tk, at1, fl, me, dl, st, p⟩)) = S := ⟨_, rfl⟩
        rw [hSS] at hS ⊢
        have HSS := Lib.hid hSS
        clear hSS
        have hbl : (bodyF ⟨k, cl, tk, at1, fl, me, dl, st, p⟩).length ≤ 5000 := (body_len HO.out (by have := (HR.out).2.2.1; exact this.2)).2
        have H4 : Hid (IsB (w'.alloc (.cells #[.int .u8 ((S : Int) / 16777216), .int .u8 ((S : Int) / 65536 % 256), .int .u8 ((S : Int) / 256 % 256), .int .u8 ((S : Int) % 256)] 5)) (some ⟨w'.heap.size, 0, none⟩) 4 [(S : Int) / 16777216, (S : Int) / 65536 % 256, (S : Int) / 256 % 256, (S : Int) % 256]) := by
          refine isB_blk w' 5 [(S : Int) / 16777216, (S : Int) / 65536 % 256, (S : Int) / 256 % 256, (S : Int) % 256] ?_ (by simp)
          intro z hz
          simp only [List.mem_cons, List.not_mem_nil, or_false] at hz
          rcases hz with rfl | rfl | rfl | rfl <;> omega
        have HO4 := Lib.hid (own_alloc HOW2.out (.cells #[.int .u8 ((S : Int) / 16777216), .int .u8 ((S : Int) / 65536 % 256), .int .u8 ((S : Int) / 256 % 256), .int .u8 ((S : Int) % 256)] 5))
        have HFS : Hid ([(S : Int) / 16777216, (S : Int) / 65536 % 256, (S : Int) / 256 % 256, (S : Int) % 256] = four S) := by
          refine (?_ : _ = _)
          rw [four_int S hS, show (S : Int) / 16777216 % 256 = (S : Int) / 16777216 by omega]
        go_wp2_with (at_builtin; refine wpB_append rfl (.tmp 27) (.tmp 39) rfl (w.heap.size + 1) (.slice a2 (bodyF ⟨k, cl, tk, at1, fl, me, dl, st, p⟩).length c2) (bodyF ⟨k, cl, tk, at1, fl, me, dl, st, p⟩) rfl HO4.out (some ⟨w'.heap.size, 0, none⟩) 4 4 [(S : Int) / 16777216, (S : Int) / 65536 % 256, (S : Int) / 256 % 256, (S : Int) % 256] rfl H4.out (by simp) (by omega) (by simp; omega) ?_; intro v4 w4 hown4 hg4; have HO5 := Lib.hid hown4; have HB5 := Lib.hid ((HB3.out.alloc hs3 _).grown hg4 (by simp; omega) (fun k hk => by have := own_blockB HO4.out k hk; omega)); clear hown4 hg4)
        go_ret2
        refine ⟨.inr ⟨HO.out, v4, rfl, ?_⟩, HB5.out⟩
        have h5 := HO5.out
        rw [HFS.out, ← HSS.out] at h5
        exact own_mono h5 (by omega)
end Go.Proofs.YtckbplhplpnhaaaDoor
