/-
  The walk over the law TimerSorts.
-/
import Derived.Test.YtblebbmnlbmgiaaTmN
import Derived.Test.YtblebbmnlbmgiaaUpT
namespace Go.Proofs.Ytblebbmnlbmgiaa
set_option linter.unusedVariables false
open Go.ChangeShapes Go.WideShapes Go.ChangeAt Go.RowKit

theorem rows1_at {w : World} {S : Nat → Prop} {k : IntKind} {v : Value} {xs : List Int} (h : RowsIn w S 1 (fun z => [.int k z]) v xs) {q : Nat} {x : Int} (hx : xs[q]? = some x) :
    ∃ g o c, v = .slice (some ⟨g, o, none⟩) xs.length c ∧ S g ∧ w.cell? ⟨g, o + q, none⟩ = some (.int k x) := by
  obtain ⟨ad, c, hsl, hcc, hrows⟩ := h
  rcases hrows with h0 | ⟨g, o, had, hg, hrow⟩
  · rw [h0] at hx; simp at hx
  subst had
  exact ⟨g, o, c, hsl, hg, by have := hrow q x hx 0 _ rfl; simpa using this⟩
/-- whatever is in a list is a timer of the program's kinds -/
def InT (L : List (Nat × Int)) : Prop := ∀ x ∈ L, x.1 < 18446744073709551616 ∧ -9223372036854775808 ≤ x.2 ∧ x.2 ≤ 9223372036854775807
theorem inT_set {L : List (Nat × Int)} {k : Nat} {d : Int} (h : InT L) (hk : k < 18446744073709551616) (h0 : -9223372036854775808 ≤ d) (h1 : d ≤ 9223372036854775807) : InT (setL L k d) := by
  intro x hx
  rcases (mem_set L k d x).1 hx with rfl | hx
  · exact ⟨hk, h0, h1⟩
  · exact h x hx.1
theorem len_set_le (L : List (Nat × Int)) (k : Nat) (d : Int) : (setL L k d).length ≤ L.length + 1 := by
  unfold setL
  rw [len_put]
  have : (stopL L k).length ≤ L.length := List.length_filter_le _ _
  omega
theorem below_grown {w a b : World} {tb : Nat} (h : Below w.heap.size w a) (k : a.grownBy b (some tb)) (ht : w.heap.size ≤ tb) : Below w.heap.size w b :=
  h.grown k h.size fun j hj => by obtain rfl := Option.some.inj hj; exact ht
def lastT (L : List (Nat × Int)) (j : Nat) : Int := if j = 0 then -9223372036854775808 else (L.getD (j - 1) (0, 0)).2
def keyT (L : List (Nat × Int)) (j : Nat) : Nat := if j = 0 then 0 else (L.getD (j - 1) (0, 0)).1
theorem last_next {L : List (Nat × Int)} {j : Nat} {x : Nat × Int} (h : L[j]? = some x) : lastT L (j + 1) = x.2 ∧ keyT L (j + 1) = x.1 := by
  unfold lastT keyT
  rw [if_neg (by omega), if_neg (by omega), Nat.add_sub_cancel, List.getD_eq_getElem?_getD, h]
  exact ⟨rfl, rfl⟩
theorem last_before {L : List (Nat × Int)} (hO : OrdL L) {j : Nat} (hj : 0 < j) {x : Nat × Int} (h : L[j]? = some x) : lastT L j < x.2 ∨ lastT L j = x.2 ∧ keyT L j < x.1 := by
  obtain ⟨hl, e⟩ := List.getElem?_eq_some_iff.1 h
  have hy : L[j - 1]? = some (L[j - 1]'(by omega)) := List.getElem?_eq_getElem (by omega)
  have := List.pairwise_iff_getElem.1 hO.1 (j - 1) j (by omega) hl (by omega)
  rw [e] at this
  unfold lastT keyT
  rw [if_neg (by omega), if_neg (by omega), List.getD_eq_getElem?_getD, hy]
  exact this
set_option maxHeartbeats 8000000 in
theorem timerSorts_any (ka : Option Addr) (kc : Nat) (ks : List Int) (da : Option Addr) (dc : Nat) (ds : List Int) (w : World) (hK : RowsIn w (fun b => b < w.heap.size) 1 (fun z => [.int .u64 z]) (.slice ka ks.length kc) ks) (hk : ∀ x ∈ ks, 0 ≤ x ∧ x ≤ 18446744073709551615)
    (hD : RowsIn w (fun b => b < w.heap.size) 1 (fun z => [.int .i64 z]) (.slice da ds.length dc) ds) (hd : ∀ x ∈ ds, -9223372036854775808 ≤ x ∧ x ≤ 9223372036854775807) (hkl : ks.length ≤ 140737488355328) (hdl : ds.length ≤ 140737488355328) :
    Calls Try.prog 4 #[.slice ka ks.length kc, .slice da ds.length dc] w fun e w' => e = .returned (.bool true) ∧ Below w.heap.size w w' := by
  have HK := Lib.hid hK
  have HD := Lib.hid hD
  have HKR := Lib.hid hk
  have HDR := Lib.hid hd
  obtain ⟨n, hn⟩ : ∃ n, ks.length = n := ⟨_, rfl⟩
  obtain ⟨m, hm⟩ : ∃ m, ds.length = m := ⟨_, rfl⟩
  rw [hn] at HK ⊢
  rw [hm] at HD ⊢
  have HN := Lib.hid hn
  have HM := Lib.hid hm
  have hn2 : n ≤ 140737488355328 := by omega
  have hm2 : m ≤ 140737488355328 := by omega
  clear hK hD hk hd hn hm hkl hdl
  go_enter Try.func4, Try.ntmps4
  by_cases h200 : 200 < n
  · have h2 : (200 : Int) < (n : Int) := by omega
    go_wp2_with fail
    refine (awake17_any _).mono ?_
    rintro e w1 ⟨rfl, hb1⟩
    go_wp2_with fail
    refine (awake17_any _).mono ?_
    rintro e w2 ⟨rfl, hb2⟩
    have HB := Lib.hid (hb1.trans (hb2.mono hb1.size))
    clear hb1 hb2
    go_wp2_with fail
    go_ret
    exact ⟨rfl, HB.out⟩
  have h2 : ¬ (200 : Int) < (n : Int) := by omega
  go_wp2_with fail
  refine (awake17_any _).mono ?_
  rintro e w1 ⟨rfl, hb1⟩
  go_wp2_with fail
  refine (new_any (fun b => b ≠ w1.heap.size) w1).mono ?_
  rintro e w2 ⟨rfl, hP2, hb2, hs2⟩
  have HB2 : Hid (Below w.heap.size w w2) := hb1.trans (hb2.mono hb1.size)
  have hsz := hb1.size
  generalize w1.heap.size = tb at *
  have HP2 : Hid (∃ L, HoldP w2 (fun b => b ≠ tb) tb L ∧ InT L ∧ L.length ≤ 0) := ⟨[], hP2, fun x hx => (by cases hx), Nat.le_refl _⟩
  clear hP2 hb1 hb2
  unfold ptr
  go_wp2_with fail
  go_loopw [28, 6] (fun i c wr => ∃ (j q : Nat), i = .int .i64 (j : Int) ∧ c = .int .i64 (q : Int) ∧ j ≤ n ∧ q ≤ j ∧ Hid (∃ L, HoldP wr (fun b => b ≠ tb) tb L ∧ InT L ∧ L.length ≤ j) ∧ Hid (Below w.heap.size w wr)) (fun i c _ => n - (intOf i).toNat)
  case atStart => exact ⟨0, 0, rfl, rfl, Nat.zero_le _, Nat.le_refl _, HP2, HB2⟩
  case round =>
    obtain ⟨j, q, rfl, rfl, hj, hq, HS, HB⟩ := hrel
    by_cases hjn : j < n
    · obtain ⟨x, hx⟩ : ∃ x, ks[j]? = some x := ⟨_, List.getElem?_eq_getElem (by have := HN.out; omega)⟩
      by_cases hjm : j < m
      · obtain ⟨y, hy⟩ : ∃ y, ds[j]? = some y := ⟨_, List.getElem?_eq_getElem (by have := HM.out; omega)⟩
        have hK2 := HK.out
        have hD2 := HD.out
        rw [← HN.out] at hK2
        rw [← HM.out] at hD2
        obtain ⟨g1, o1, c1, e1, hg1, r1⟩ := rows1_at hK2 hx
        obtain ⟨g2, o2, c2, e2, hg2, r2⟩ := rows1_at hD2 hy
        obtain ⟨rfl, _, rfl⟩ := Value.slice.inj e1
        obtain ⟨rfl, _, rfl⟩ := Value.slice.inj e2
        have r1 := (HB.out.cell (p := ⟨g1, o1 + j, none⟩) hg1).trans r1
        have r2 := (HB.out.cell (p := ⟨g2, o2 + j, none⟩) hg2).trans r2
        have hxr := HKR.out x (List.mem_of_getElem? hx)
        have hyr := HDR.out y (List.mem_of_getElem? hy)
        have hge1 : g1 < w.heap.size := hg1
        have hge2 : g2 < w.heap.size := hg2
        clear hK2 hD2 hx hy e1 e2 hg1 hg2
        obtain ⟨K, rfl⟩ := Int.eq_ofNat_of_zero_le hxr.1
        obtain ⟨L, hP, hI, hlen⟩ := HS.out
        have hSA := fun W (hW : Below wr.heap.size wr W) => set_any tb K y L (fun b => b ≠ tb) W (hP.old hW) (by omega) (by simp) (fun b hb => by have := (hP.old hW).lt; omega) (by omega)
        have FIN : Hid (∀ (W w4 : World), Below wr.heap.size wr W → HoldP w4 (fun b => b ≠ tb) tb (setL L K y) → W.grownBy w4 (some tb) → Hid (∃ L, HoldP w4 (fun b => b ≠ tb) tb L ∧ InT L ∧ L.length ≤ j + 1) ∧ Hid (Below w.heap.size w w4)) := by
          refine (?_ : ∀ (W w4 : World), _ → _ → _ → _)
          intro W w4 hW h1 h2
          refine ⟨⟨_, h1, inT_set hI (by omega) hyr.1 hyr.2, by have := len_set_le L K y; omega⟩, ?_⟩
          have hb : Below w.heap.size w W := HB.out.trans (hW.mono HB.out.size)
          exact hb.grown h2 hb.size fun k hk => by obtain rfl := Option.some.inj hk; exact hsz
        clear hP hI HS
        unfold ptr at *
        have hjd : ¬ (m : Int) ≤ (j : Int) := by omega
        have hjd2 : (j : Int) < (m : Int) := by omega
        have hjd3 : (j : Int) < (n : Int) := by omega
        go_upto_region 9 with fail
        have HSA := Lib.hid hSA
        clear hSA
        have hS0 : wr.drew.cell? ⟨g1, o1 + j, none⟩ = some (.int .u64 K) ∧ wr.drew.cell? ⟨g2, o2 + j, none⟩ = some (.int .i64 y) := ⟨r1, r2⟩
        have hlt1 : g1 < wr.heap.size := cell_lt r1
        have hlt2 : g2 < wr.heap.size := cell_lt r2
        refine wp_region_held_drew (S := fun W => W.cell? ⟨g1, o1 + j, none⟩ = some (.int .u64 K) ∧ W.cell? ⟨g2, o2 + j, none⟩ = some (.int .i64 y)) (by kernel_rfl) hS0 (fun _ => ?_)
        refine T_on 0 (.pointer (some ⟨tb, 0, none⟩)) rfl (by kernel_rfl) (fun _ _ _ h => h) hS0 (fun W hW => by go_simp) ?_
        refine T_on 1 (.slice (some ⟨g1, o1, none⟩) n kc) rfl (by kernel_rfl) (fun _ _ _ h => h) hS0 (fun W hW => by go_simp) ?_
        refine T_on 2 (.int .i64 (j : Int)) rfl (by kernel_rfl) (fun _ _ _ h => h) hS0 (fun W hW => by go_simp) ?_
        refine T_on 3 (.pointer (some ⟨g1, o1 + j, none⟩)) rfl (by kernel_rfl) (fun _ _ _ h => h) hS0 (fun W hW => by go_simp) ?_
        refine T_on 4 (.int .u64 K) rfl (by kernel_rfl) (fun _ _ _ h => h) hS0 (fun W hW => by have c := hW.1; go_simp) ?_
        refine T_on 5 (.slice (some ⟨g2, o2, none⟩) m dc) rfl (by kernel_rfl) (fun _ _ _ h => h) hS0 (fun W hW => by go_simp) ?_
        refine T_on 6 (.int .i64 (j : Int)) rfl (by kernel_rfl) (fun _ _ _ h => h) hS0 (fun W hW => by go_simp) ?_
        refine T_on 7 (.pointer (some ⟨g2, o2 + j, none⟩)) rfl (by kernel_rfl) (fun _ _ _ h => h) hS0 (fun W hW => by go_simp) ?_
        refine T_on 8 (.int .i64 y) rfl (by kernel_rfl) (fun _ _ _ h => h) hS0 (fun W hW => by have c := hW.2; go_simp) ?_
        refine T_call 9 (by kernel_rfl) rfl (fun KK hKK => ?_)
        go_simp
        refine (HSA.out _ (Below.refl _ wr).drew).mono ?_
        rintro e w4 ⟨rfl, h1, h2⟩
        have hS1 : w4.cell? ⟨g1, o1 + j, none⟩ = some (.int .u64 K) ∧ w4.cell? ⟨g2, o2 + j, none⟩ = some (.int .i64 y) := ⟨h2.cell hS0.1 (fun e => by have := Option.some.inj e; simp at this; omega), h2.cell hS0.2 (fun e => by have := Option.some.inj e; simp at this; omega)⟩
        obtain ⟨H1, H2⟩ := FIN.out _ w4 (Below.refl _ wr).drew h1 h2
        clear h1 h2
        dsimp only
        refine hKK.out _ _ hS1 (fun _ => ?_)
        clear hKK KK
        refine wpAnyH_done (by kernel_rfl) ?_ _
        go_simp
        go_wp2_with fail
        go_roundw
        case rel => exact ⟨j + 1, q + 1, by go_num, by go_num, by omega, by omega, H1, H2⟩
        case measure => simp [intOf]; omega
      · have hjd : (m : Int) ≤ (j : Int) := by omega
        clear hx
        obtain ⟨L, hP, hI, hlen⟩ := HS.out
        have hO := hP.ord
        obtain ⟨N, hN⟩ : ∃ N, L.length = N := ⟨_, rfl⟩
        have hlenA := len_any tb L _ wr hP
        rw [hN] at hlenA hlen
        have HI := Lib.hid hI
        have HO := Lib.hid hO
        have HN2 := Lib.hid hN
        have HP := Lib.hid hP
        clear hI hO hN hP HS
        unfold ptr at hlenA
        go_wp2_with fail
        refine hlenA.mono ?_
        rintro e w3 ⟨rfl, rfl⟩
        clear hlenA
        have hNs : N ≤ 200 := by omega
        go_wp2_with fail
        go_loopw [10, 8, 9] (fun i la ke wr => ∃ (j : Nat), i = .int .i64 (j : Int) ∧ la = .int .i64 (lastT L j) ∧ ke = .int .u64 (keyT L j : Nat) ∧ j ≤ N ∧ Hid (HoldP wr (fun b => b ≠ tb) tb (L.drop j)) ∧ Hid (Below w.heap.size w wr)) (fun i _ _ _ => N - (intOf i).toNat)
        case atStart => exact ⟨0, rfl, rfl, rfl, Nat.zero_le _, HP.out, HB⟩
        case round =>
          obtain ⟨j, rfl, rfl, rfl, hj, HPJ, HB3⟩ := hrel
          by_cases hjn : j < N
          · obtain ⟨x, hx⟩ : ∃ x, L[j]? = some x := ⟨_, List.getElem?_eq_getElem (by have := HN2.out; omega)⟩
            have hdr : L.drop j = x :: L.drop (j + 1) := by rw [List.drop_eq_getElem_cons (List.getElem?_eq_some_iff.1 hx).1, (List.getElem?_eq_some_iff.1 hx).2]
            have hxr := HI.out x (List.mem_of_getElem? hx)
            have hPj := HPJ.out
            rw [hdr] at hPj
            have htw : tb < wr.heap.size := hPj.lt
            have hfA := first_any tb _ _ wr hPj
            have hnA := next_any tb 9223372036854775807 _ _ wr hPj (by simp) (fun b hb => by omega) (by have := congrArg List.length hdr; rw [List.length_drop] at this; have := HN2.out; omega)
            rw [nextL_yes hxr.2.2] at hnA
            have HXX := Lib.hid hx
            have hbf : 0 < j → lastT L j < x.2 ∨ lastT L j = x.2 ∧ keyT L j < x.1 := fun h0 => last_before HO.out h0 hx
            have hl0 : j = 0 → lastT L j = -9223372036854775808 := fun h => by subst h; rfl
            have hnx : lastT L (j + 1) = x.2 ∧ keyT L (j + 1) = x.1 := last_next hx
            have HNX := Lib.hid hnx
            clear hPj hdr hx hnx HPJ
            have hnlt : ¬ x.2 < lastT L j := by
              by_cases h0 : j = 0
              · rw [hl0 h0]; omega
              · have := hbf (by omega); omega
            have hnl2 : decide (x.2 < lastT L j) = false := decide_eq_false hnlt
            unfold ptr dueV at *
            have fin : ∀ (w4 : World), HoldP w4 (fun b => b ≠ tb) tb (L.drop (j + 1)) → wr.grownBy w4 (some tb) → Hid (HoldP w4 (fun b => b ≠ tb) tb (L.drop (j + 1))) ∧ Hid (Below w.heap.size w w4) := fun w4 h1 h2 => ⟨h1, below_grown HB3.out h2 hsz⟩
            have FIN := Lib.hid fin
            clear fin
            by_cases h0 : j = 0
            · subst h0
              have h02 : decide ((0 : Int) < ((0 : Nat) : Int)) = false := decide_eq_false (by omega)
              clear hbf hl0 hnlt
              go_wp2_with fail
              refine hfA.mono ?_
              rintro e w3 ⟨rfl, rfl⟩
              go_wp2_with fail
              refine hnA.mono ?_
              rintro e w4 ⟨rfl, h1, h2⟩
              obtain ⟨H1, H2⟩ := FIN.out w4 h1 h2
              clear h1 h2 hfA hnA
              go_wp2_with fail
              go_roundw
              case rel => exact ⟨0 + 1, by go_num, by rw [HNX.out.1] <;> rw [hb6], by rw [HNX.out.2], by omega, H1, H2⟩
              case measure => simp [intOf]; omega
            · have h02 : (0 : Int) < (j : Int) := by omega
              rcases hbf (by omega) with hb | ⟨hb, hb2⟩
              · have hb3 : ¬ x.2 = lastT L j := by omega
                have hb4 : decide (x.2 = lastT L j) = false := decide_eq_false hb3
                clear hbf hl0 hnlt hb
                go_wp2_with fail
                refine hfA.mono ?_
                rintro e w3 ⟨rfl, rfl⟩
                go_wp2_with fail
                refine hnA.mono ?_
                rintro e w4 ⟨rfl, h1, h2⟩
                obtain ⟨H1, H2⟩ := FIN.out w4 h1 h2
                clear h1 h2 hfA hnA
                go_wp2_with fail
                go_roundw
                case rel => exact ⟨j + 1, by go_num, by rw [HNX.out.1] <;> rw [hb6], by rw [HNX.out.2], by omega, H1, H2⟩
                case measure => simp [intOf]; omega
              · have hb3 : ¬ (x.1 : Int) ≤ (keyT L j : Int) := by omega
                have hb5 : keyT L j < x.1 := hb2
                have hb4 : decide ((x.1 : Int) ≤ (keyT L j : Int)) = false := decide_eq_false hb3
                have hb6 : x.2 = lastT L j := hb.symm
                clear hbf hl0 hnlt hb hb2
                go_wp2_with fail
                refine hfA.mono ?_
                rintro e w3 ⟨rfl, rfl⟩
                go_wp2_with fail
                refine hnA.mono ?_
                rintro e w4 ⟨rfl, h1, h2⟩
                obtain ⟨H1, H2⟩ := FIN.out w4 h1 h2
                clear h1 h2 hfA hnA
                go_wp2_with fail
                go_roundw
                case rel => exact ⟨j + 1, by go_num, by rw [HNX.out.1] <;> rw [hb6], by rw [HNX.out.2], by omega, H1, H2⟩
                case measure => simp [intOf]; omega
          · have hjN : j = N := by omega
            have hPj := HPJ.out
            rw [List.drop_of_length_le (by have := HN2.out; omega)] at hPj
            have hnA := next_any tb 9223372036854775807 [] _ wr hPj (by simp) (fun b hb => by have := hPj.lt; omega) (by simp)
            have hjd : decide ((j : Int) < (N : Int)) = false := decide_eq_false (by omega)
            clear hPj HPJ
            unfold ptr at *
            go_wp2_with fail
            refine hnA.mono ?_
            rintro e w4 ⟨rfl, h1, h2⟩
            have hlA := len_any tb _ _ w4 h1
            have HB4 := Lib.hid (below_grown HB3.out h2 hsz)
            clear h1 h2 hnA
            unfold ptr nextL at *
            go_wp2_with fail
            refine hlA.mono ?_
            rintro e w5 ⟨rfl, rfl⟩
            go_wp2_with fail
            go_ret
            exact ⟨rfl, HB4.out⟩
    · have hjd : ¬ (j : Int) < (n : Int) := by omega
      obtain ⟨L, hP, hI, hlen⟩ := HS.out
      have hO := hP.ord
      obtain ⟨N, hN⟩ : ∃ N, L.length = N := ⟨_, rfl⟩
      have hlenA := len_any tb L _ wr hP
      rw [hN] at hlenA hlen
      have HI := Lib.hid hI
      have HO := Lib.hid hO
      have HN2 := Lib.hid hN
      have HP := Lib.hid hP
      clear hI hO hN hP HS
      unfold ptr at hlenA
      go_wp2_with fail
      refine hlenA.mono ?_
      rintro e w3 ⟨rfl, rfl⟩
      clear hlenA
      have hNs : N ≤ 200 := by omega
      go_wp2_with fail
      go_loopw [10, 8, 9] (fun i la ke wr => ∃ (j : Nat), i = .int .i64 (j : Int) ∧ la = .int .i64 (lastT L j) ∧ ke = .int .u64 (keyT L j : Nat) ∧ j ≤ N ∧ Hid (HoldP wr (fun b => b ≠ tb) tb (L.drop j)) ∧ Hid (Below w.heap.size w wr)) (fun i _ _ _ => N - (intOf i).toNat)
      case atStart => exact ⟨0, rfl, rfl, rfl, Nat.zero_le _, HP.out, HB⟩
      case round =>
        obtain ⟨j, rfl, rfl, rfl, hj, HPJ, HB3⟩ := hrel
        by_cases hjn : j < N
        · obtain ⟨x, hx⟩ : ∃ x, L[j]? = some x := ⟨_, List.getElem?_eq_getElem (by have := HN2.out; omega)⟩
          have hdr : L.drop j = x :: L.drop (j + 1) := by rw [List.drop_eq_getElem_cons (List.getElem?_eq_some_iff.1 hx).1, (List.getElem?_eq_some_iff.1 hx).2]
          have hxr := HI.out x (List.mem_of_getElem? hx)
          have hPj := HPJ.out
          rw [hdr] at hPj
          have htw : tb < wr.heap.size := hPj.lt
          have hfA := first_any tb _ _ wr hPj
          have hnA := next_any tb 9223372036854775807 _ _ wr hPj (by simp) (fun b hb => by omega) (by have := congrArg List.length hdr; rw [List.length_drop] at this; have := HN2.out; omega)
          rw [nextL_yes hxr.2.2] at hnA
          have HXX := Lib.hid hx
          have hbf : 0 < j → lastT L j < x.2 ∨ lastT L j = x.2 ∧ keyT L j < x.1 := fun h0 => last_before HO.out h0 hx
          have hl0 : j = 0 → lastT L j = -9223372036854775808 := fun h => by subst h; rfl
          have hnx : lastT L (j + 1) = x.2 ∧ keyT L (j + 1) = x.1 := last_next hx
          have HNX := Lib.hid hnx
          clear hPj hdr hx hnx HPJ
          have hnlt : ¬ x.2 < lastT L j := by
            by_cases h0 : j = 0
            · rw [hl0 h0]; omega
            · have := hbf (by omega); omega
          have hnl2 : decide (x.2 < lastT L j) = false := decide_eq_false hnlt
          unfold ptr dueV at *
          have fin : ∀ (w4 : World), HoldP w4 (fun b => b ≠ tb) tb (L.drop (j + 1)) → wr.grownBy w4 (some tb) → Hid (HoldP w4 (fun b => b ≠ tb) tb (L.drop (j + 1))) ∧ Hid (Below w.heap.size w w4) := fun w4 h1 h2 => ⟨h1, below_grown HB3.out h2 hsz⟩
          have FIN := Lib.hid fin
          clear fin
          by_cases h0 : j = 0
          · subst h0
            have h02 : decide ((0 : Int) < ((0 : Nat) : Int)) = false := decide_eq_false (by omega)
            clear hbf hl0 hnlt
            go_wp2_with fail
            refine hfA.mono ?_
            rintro e w3 ⟨rfl, rfl⟩
            go_wp2_with fail
            refine hnA.mono ?_
            rintro e w4 ⟨rfl, h1, h2⟩
            obtain ⟨H1, H2⟩ := FIN.out w4 h1 h2
            clear h1 h2 hfA hnA
            go_wp2_with fail
            go_roundw
            case rel => exact ⟨0 + 1, by go_num, by rw [HNX.out.1] <;> rw [hb6], by rw [HNX.out.2], by omega, H1, H2⟩
            case measure => simp [intOf]; omega
          · have h02 : (0 : Int) < (j : Int) := by omega
            rcases hbf (by omega) with hb | ⟨hb, hb2⟩
            · have hb3 : ¬ x.2 = lastT L j := by omega
              have hb4 : decide (x.2 = lastT L j) = false := decide_eq_false hb3
              clear hbf hl0 hnlt hb
              go_wp2_with fail
              refine hfA.mono ?_
              rintro e w3 ⟨rfl, rfl⟩
              go_wp2_with fail
              refine hnA.mono ?_
              rintro e w4 ⟨rfl, h1, h2⟩
              obtain ⟨H1, H2⟩ := FIN.out w4 h1 h2
              clear h1 h2 hfA hnA
              go_wp2_with fail
              go_roundw
              case rel => exact ⟨j + 1, by go_num, by rw [HNX.out.1] <;> rw [hb6], by rw [HNX.out.2], by omega, H1, H2⟩
              case measure => simp [intOf]; omega
            · have hb3 : ¬ (x.1 : Int) ≤ (keyT L j : Int) := by omega
              have hb5 : keyT L j < x.1 := hb2
              have hb4 : decide ((x.1 : Int) ≤ (keyT L j : Int)) = false := decide_eq_false hb3
              have hb6 : x.2 = lastT L j := hb.symm
              clear hbf hl0 hnlt hb hb2
              go_wp2_with fail
              refine hfA.mono ?_
              rintro e w3 ⟨rfl, rfl⟩
              go_wp2_with fail
              refine hnA.mono ?_
              rintro e w4 ⟨rfl, h1, h2⟩
              obtain ⟨H1, H2⟩ := FIN.out w4 h1 h2
              clear h1 h2 hfA hnA
              go_wp2_with fail
              go_roundw
              case rel => exact ⟨j + 1, by go_num, by rw [HNX.out.1] <;> rw [hb6], by rw [HNX.out.2], by omega, H1, H2⟩
              case measure => simp [intOf]; omega
        · have hjN : j = N := by omega
          have hPj := HPJ.out
          rw [List.drop_of_length_le (by have := HN2.out; omega)] at hPj
          have hnA := next_any tb 9223372036854775807 [] _ wr hPj (by simp) (fun b hb => by have := hPj.lt; omega) (by simp)
          have hjd : decide ((j : Int) < (N : Int)) = false := decide_eq_false (by omega)
          clear hPj HPJ
          unfold ptr at *
          go_wp2_with fail
          refine hnA.mono ?_
          rintro e w4 ⟨rfl, h1, h2⟩
          have hlA := len_any tb _ _ w4 h1
          have HB4 := Lib.hid (below_grown HB3.out h2 hsz)
          clear h1 h2 hnA
          unfold ptr nextL at *
          go_wp2_with fail
          refine hlA.mono ?_
          rintro e w5 ⟨rfl, rfl⟩
          go_wp2_with fail
          go_ret
          exact ⟨rfl, HB4.out⟩
end Go.Proofs.Ytblebbmnlbmgiaa
