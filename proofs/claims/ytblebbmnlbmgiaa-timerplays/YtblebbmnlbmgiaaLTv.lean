/-
  The walk over the law TimerPlays: the script's calls, one behind the other, by the program and by the document.
-/
import Derived.Test.YtblebbmnlbmgiaaLTp
namespace Go.Proofs.Ytblebbmnlbmgiaa
set_option linter.unusedVariables false
open Go.ChangeShapes Go.WideShapes Go.ChangeAt Go.RowKit

theorem heldR_new {w : World} {tb rb : Nat} {T : TypeId} (h : w.heap[rb]? = some (.cells #[.slice none 0 0] T (0, 0))) : HeldR w (okB tb rb) rb [] :=
  ⟨none, 0, cell_at h 0 rfl, frozen_at h 0, ownT_nil _ _, fun a e => by cases e⟩
theorem nextL_mem {L : List (Nat × Int)} {now : Int} {x : Nat × Int} (h : x ∈ (nextL L now).2.2) : x ∈ L := by
  cases L with
  | nil => exact h
  | cons y r =>
    by_cases hd : y.2 ≤ now
    · rw [nextL_yes hd] at h; exact List.mem_cons_of_mem _ h
    · rw [nextL_no hd] at h; exact h
theorem nextL_len (L : List (Nat × Int)) (now : Int) : (nextL L now).2.2.length ≤ L.length := by
  cases L with
  | nil => exact Nat.le_refl _
  | cons y r =>
    by_cases hd : y.2 ≤ now
    · rw [nextL_yes hd]; simp
    · rw [nextL_no hd]; exact Nat.le_refl _
/-- what the loop keeps -/
def Kept17 (w wr : World) (tb rb j : Nat) : Prop := (∃ L, Both wr tb rb L ∧ InT L ∧ L.length ≤ j) ∧ Below w.heap.size w wr
set_option maxHeartbeats 64000000 in
set_option maxRecDepth 20000 in
theorem timerPlaysN_any (sa : Option Addr) (sc : Nat) (us : List (Int × Int × Int)) (w : World) (hU : RowsIn w (fun b => b < w.heap.size) 3 opRow (.slice sa us.length sc) us) (hl : us.length ≤ 140737488355328) (hu : ∀ x ∈ us, opFit x) :
    Calls Try.prog 3 #[.slice sa us.length sc, .bool false] w fun e w' => e = .returned (.bool true) ∧ Below w.heap.size w w' := by
  have HU := Lib.hid hU
  have HUR := Lib.hid hu
  obtain ⟨n, hn⟩ : ∃ n, us.length = n := ⟨_, rfl⟩
  rw [hn] at HU ⊢
  have HN := Lib.hid hn
  have hn2 : n ≤ 140737488355328 := by omega
  clear hU hu hn hl
  go_enter Try.func3, Try.ntmps3
  by_cases h200 : 200 < n
  · have h2 : (200 : Int) < (n : Int) := by omega
    go_wp2_with fail
    refine (awake17_any _).mono ?_
    rintro e w1 ⟨rfl, hb1⟩
    go_wp2_with fail
    refine (awake17_any _).mono ?_
    rintro e w2 ⟨rfl, hb2⟩
    have HB := Lib.hid (hb1.trans (hb2.mono hb1.size))
    clear hb1 hb2
    go_wp2_with fail
    go_ret
    exact ⟨rfl, HB.out⟩
  have h2 : ¬ (200 : Int) < (n : Int) := by omega
  go_wp2_with fail
  refine (awake17_any _).mono ?_
  rintro e w1 ⟨rfl, hb1⟩
  go_wp2_with fail
  refine (new_any (okB w1.heap.size (w1.heap.size + 1)) w1).mono ?_
  rintro e w2 ⟨rfl, hP2, hb2, hs2⟩
  have HB2 : Hid (Below w.heap.size w w2) := hb1.trans (hb2.mono hb1.size)
  have hsz := hb1.size
  clear hb1 hb2
  obtain ⟨X, hX, hXc, hXb, hXs⟩ := box_new w2 #[.slice none 0 0] 29
  rw [hs2] at hXc hXs
  unfold ptr
  go_wp2_with fail
  have HK0 : Hid (Kept17 w X w1.heap.size (w1.heap.size + 1) 0) := by
    exact ⟨⟨[], ⟨hP2.old hXb, heldR_new (tb := w1.heap.size) hXc, by omega⟩, fun x hx => (by cases hx), Nat.le_refl _⟩, HB2.out.trans (hXb.mono (by omega))⟩
  have htw : w.heap.size ≤ w1.heap.size := by omega
  have hrw : w.heap.size ≤ w1.heap.size + 1 := by omega
  clear hX hXc hXb hP2 hXs hs2 hsz HB2
  generalize w1.heap.size + 1 = rb at *
  generalize w1.heap.size = tb at *
  try clear w1
  have HTW := Lib.hid htw
  go_loopw [35] (fun i wr => ∃ (j : Nat), i = .int .i64 (j : Int) ∧ j ≤ n ∧ Hid (Kept17 w wr tb rb j)) (fun i _ => n - (intOf i).toNat)
  case atStart => exact ⟨0, rfl, Nat.zero_le _, HK0⟩
  case round =>
    obtain ⟨j, rfl, hj, HK⟩ := hrel
    by_cases hjn : j < n
    · obtain ⟨⟨kd, ki, at0⟩, hx⟩ : ∃ x, us[j]? = some x := ⟨_, List.getElem?_eq_getElem (by have := HN.out; omega)⟩
      have hU2 := HU.out
      rw [← HN.out] at hU2
      obtain ⟨g, o, c, e1, hg, r0, r1, r2⟩ := rows3_at hU2 hx
      obtain ⟨rfl, h9, rfl⟩ := Value.slice.inj e1
      clear h9
      have hfx := HUR.out _ (List.mem_of_getElem? hx)
      obtain ⟨hfk, ⟨hk0, hk1⟩, ha0, ha1⟩ := hfx
      simp only [] at ha0 ha1
      clear hfk
      obtain ⟨K, hKe⟩ := Int.eq_ofNat_of_zero_le hk0
      have hKf : ki = (K : Int) := hKe
      clear hKe
      subst hKf
      have hK : K < 18446744073709551616 := by simp at hk1; omega
      obtain ⟨⟨L, hBo0, hI0, hlen0⟩, hbw0⟩ := HK.out
      have hge : g < w.heap.size := hg
      have r0 := (hbw0.cell (p := ⟨g, o + j * 3, none⟩) hg).trans r0
      have r1 := (hbw0.cell (p := ⟨g, o + j * 3 + 1, none⟩) hg).trans r1
      have r2 := (hbw0.cell (p := ⟨g, o + j * 3 + 2, none⟩) hg).trans r2
      simp only [] at r0 r1 r2
      obtain ⟨B, hB, hBc, hBb, hBs⟩ := box_new wr #[.int .i64 kd, .int .u64 K, .int .i64 at0] 35
      have b0 := cell_at hBc 0 rfl
      have b1 := cell_at hBc 1 rfl
      have b2 := cell_at hBc 2 rfl
      have hobt : tb < wr.heap.size := hBo0.1.lt
      have hobr : rb < wr.heap.size := hBo0.2.1.lt
      have hBoB := hBo0.old hBb
      have hbwB := hbw0.trans (hBb.mono hbw0.size)
      have hlenL : L.length ≤ 200 := by omega
      have HBo := Lib.hid hBoB
      have HBW := Lib.hid hbwB
      have HI0 := Lib.hid hI0
      clear hU2 hx e1 hg hBoB hbwB hI0 hBo0 hbw0 HK hBc hBb hk0 hk1
      generalize hob : wr.heap.size = ob at *
      have hne0 : tb ≠ rb := HBo.out.2.2
      have hn1 : ¬ okB tb rb tb := fun h => h.1 rfl
      have hn2 : ¬ okB tb rb rb := fun h => h.2 rfl
      have hokB : ∀ W : World, ob < W.heap.size → ∀ b, W.heap.size ≤ b → okB tb rb b := fun W hW b hb => ⟨by omega, by omega⟩
      have hot : ob ≠ tb := by omega
      have hor : ob ≠ rb := by omega
      have hO0 := HBo.out.1.ord
      by_cases k1 : kd = 1
      · subst k1
        have hs1 := set_any tb K at0 L _ B HBo.out.1 hK hn1 (hokB B (by omega)) (by omega)
        unfold ptr at hs1
        go_wp2_with fail
        refine hs1.mono ?_
        rintro e V1 ⟨rfl, hP1, hg1⟩
        obtain ⟨hPa, hRa⟩ := HBo.out.stepP hP1 hg1
        have b1 := hg1.cell b1 (fun e => hot (Option.some.inj e))
        have b2 := hg1.cell b2 (fun e => hot (Option.some.inj e))
        have hv1 := hg1.size
        have hs2 := setR_any rb K at0 L _ V1 hRa hO0 hK (hokB V1 (by omega)) hn2 (by omega)
        have hbv := below_grown HBW.out hg1 htw
        unfold ptr at hs2
        clear hs1
        go_wp2_with fail
        refine hs2.mono ?_
        rintro e W ⟨rfl, hR2, hg2⟩
        have HT : Hid (Both W tb rb (setL L K at0) ∧ InT (setL L K at0) ∧ (setL L K at0).length ≤ j + 1 ∧ Below w.heap.size w W ∧ W.cell? ⟨ob, 1, none⟩ = some (.int .u64 K)) :=
          ⟨both_stepR hPa hne0 hR2 hg2, inT_set HI0.out hK ha0 ha1, by have := len_set_le L K at0; omega, below_grown hbv hg2 hrw, hg2.cell b1 (fun e => hor (Option.some.inj e))⟩
        have b1 := hg2.cell b1 (fun e => hor (Option.some.inj e))
        clear hs2 hR2 hg2 hg1 hP1 hPa hRa hbv b2
        generalize setL L K at0 = M at *
        obtain ⟨hBo, hI, hlen, hbw, o1⟩ := HT.out
        have hne := hBo.2.2
        have hd1 := due_any tb K M _ W hBo.1 hK
        unfold ptr at hd1
        go_wp2_with fail
        refine hd1.mono ?_
        rintro e W1 ⟨rfl, hb1⟩
        have hBo := hBo.old hb1
        have o1 := (hb1.cell (p := ⟨ob, 1, none⟩) (cell_lt o1)).trans o1
        have HB1 := Lib.hid (hbw.trans (hb1.mono hbw.size))
        have hO := hBo.1.ord
        have hd2 := dueR_any rb K M _ W1 hBo.2.1 hO hK (by omega)
        have hd3 := first_any tb M _ W1 hBo.1
        have hd4 := fun q => len_any tb M _ (W1.drewN q) (hBo.1.old (below_drewN W1 q))
        obtain ⟨ao, c, c0, _, ho, _⟩ := hBo.2.1
        have hs := ho.slT
        have HKN : Hid (∀ q, Kept17 w (W1.drewN q) tb rb (j + 1)) := fun q => ⟨⟨M, hBo.old (below_drewN W1 q), hI, by omega⟩, HB1.out.trans ((below_drewN W1 q).mono HB1.out.size)⟩
        clear hd1 hb1 hbw ho hO hBo HT
        unfold ptr dueV at *
        generalize (dueL M K).getD 0 = dv at *
        generalize (dueL M K).isSome = ds at *
        go_wp2_with fail
        refine hd2.mono ?_
        rintro e W2 ⟨rfl, rfl⟩
        go_wp2_with fail
        refine hd3.mono ?_
        rintro e W3 ⟨rfl, rfl⟩
        cases M with
        | nil =>
          have HD4 := Lib.hid hd4
          clear hd4
          go_wp2_with fail
          go_quiet (with_reducible exact Calls.quiet_of_same (HD4.out _))
          go_wp2_with fail
          go_roundw
          case rel => exact ⟨j + 1, by go_num, by omega, HKN.out _⟩
          case measure => simp [intOf]; omega
        | cons y r =>
          obtain ⟨g, o, rfl, _, q1⟩ := hs.at (i := 0) (x := y) rfl
          rw [Nat.zero_mul, Nat.add_zero] at q1
          have hlr : (y :: r).length = r.length + 1 := rfl
          rw [hlr] at c0 hd4
          have HD4 := Lib.hid hd4
          clear hd4
          clear hs
          go_wp2_with fail
          go_quiet (with_reducible exact Calls.quiet_of_same (HD4.out _))
          go_wp2_with fail
          go_roundw
          case rel => exact ⟨j + 1, by go_num, by omega, HKN.out _⟩
          case measure => simp [intOf]; omega
      by_cases k2 : kd = 2
      · subst k2
        go_upto_region 15 with fail
        have hs1 := stop_any tb K L _ B.drew (HBo.out.1.old (Below.refl _ B).drew) hK hn1 (hokB _ (by show ob < B.heap.size; omega)) (by omega)
        unfold ptr at hs1
        have HS1 := Lib.hid hs1
        clear hs1
        have hS0 : B.drew.cell? ⟨ob, 1, none⟩ = some (.int .u64 K) := b1
        refine wp_region_held_drew (S := fun W => W.cell? ⟨ob, 1, none⟩ = some (.int .u64 K)) (by kernel_rfl) hS0 (fun _ => ?_)
        refine T_on 0 (.pointer (some ⟨tb, 0, none⟩)) rfl (by kernel_rfl) (fun _ _ _ h => h) hS0 (fun W hW => by go_simp) ?_
        refine T_on 1 (.pointer (some ⟨ob, 1, none⟩)) rfl (by kernel_rfl) (fun _ _ _ h => h) hS0 (fun W hW => by go_simp) ?_
        refine T_on 2 (.int .u64 K) rfl (by kernel_rfl) (fun _ _ _ h => h) hS0 (fun W hW => by go_simp) ?_
        refine T_on 4 (.pointer (some ⟨rb, 0, none⟩)) rfl (by kernel_rfl) (fun _ _ _ h => h) hS0 (fun W hW => by go_simp) ?_
        refine T_on 5 (.pointer (some ⟨ob, 1, none⟩)) rfl (by kernel_rfl) (fun _ _ _ h => h) hS0 (fun W hW => by go_simp) ?_
        refine T_on 6 (.int .u64 K) rfl (by kernel_rfl) (fun _ _ _ h => h) hS0 (fun W hW => by go_simp) ?_
        refine T_call 3 (by kernel_rfl) rfl (fun KK hKK => ?_)
        go_simp
        refine HS1.out.mono ?_
        rintro e V1 ⟨rfl, hP1, hg1⟩
        have hB2 := HBo.out.old (Below.refl _ B).drew
        obtain ⟨hPa, hRa⟩ := hB2.stepP hP1 hg1
        have b1 := hg1.cell hS0 (fun e => hot (Option.some.inj e))
        have hv1 := hg1.size
        have hv2 : ob < V1.heap.size := Nat.lt_of_lt_of_le (by show ob < B.heap.size; omega) hv1
        have hs2 := stopR_any rb K L _ V1 hRa hO0 hK (hokB V1 hv2) (by omega)
        have hbv := below_grown HBW.out.drew hg1 htw
        unfold ptr at hs2
        clear HS1 hS0
        have hS0 := b1
        dsimp only
        refine hKK.out _ _ hS0 (fun _ => ?_)
        clear hKK KK
        refine T_call 7 (by kernel_rfl) rfl (fun KK hKK => ?_)
        go_simp
        refine hs2.mono ?_
        rintro e W ⟨rfl, hR2, hg2⟩
        have b1 := hg2.cell b1 (fun e => hor (Option.some.inj e))
        have HT : Hid (Both W tb rb (stopL L K) ∧ InT (stopL L K) ∧ (stopL L K).length ≤ j + 1 ∧ Below w.heap.size w W ∧ W.cell? ⟨ob, 1, none⟩ = some (.int .u64 K)) :=
          ⟨both_stepR hPa hne0 hR2 hg2, fun x hx => HI0.out x ((mem_stop _ _ _).1 hx).1, by have : (stopL L K).length ≤ L.length := List.length_filter_le _ _; omega, below_grown hbv hg2 hrw, b1⟩
        clear hs2 hR2 hg2 hg1 hP1 hPa hRa hbv hB2
        clear hS0
        have hS0 := b1
        dsimp only
        refine hKK.out _ _ hS0 (fun _ => ?_)
        clear hKK KK
        refine T_on 8 (.bool false) rfl (by kernel_rfl) (fun _ _ _ h => h) hS0 (fun W hW => by go_simp) ?_
        refine wpAnyH_done (by kernel_rfl) ?_ _
        go_simp
        clear hS0
        generalize stopL L K = M at *
        obtain ⟨hBo, hI, hlen, hbw, o1⟩ := HT.out
        have hne := hBo.2.2
        have hd1 := due_any tb K M _ W hBo.1 hK
        unfold ptr at hd1
        go_wp2_with fail
        refine hd1.mono ?_
        rintro e W1 ⟨rfl, hb1⟩
        have hBo := hBo.old hb1
        have o1 := (hb1.cell (p := ⟨ob, 1, none⟩) (cell_lt o1)).trans o1
        have HB1 := Lib.hid (hbw.trans (hb1.mono hbw.size))
        have hO := hBo.1.ord
        have hd2 := dueR_any rb K M _ W1 hBo.2.1 hO hK (by omega)
        have hd3 := first_any tb M _ W1 hBo.1
        have hd4 := fun q => len_any tb M _ (W1.drewN q) (hBo.1.old (below_drewN W1 q))
        obtain ⟨ao, c, c0, _, ho, _⟩ := hBo.2.1
        have hs := ho.slT
        have HKN : Hid (∀ q, Kept17 w (W1.drewN q) tb rb (j + 1)) := fun q => ⟨⟨M, hBo.old (below_drewN W1 q), hI, by omega⟩, HB1.out.trans ((below_drewN W1 q).mono HB1.out.size)⟩
        clear hd1 hb1 hbw ho hO hBo HT
        unfold ptr dueV at *
        generalize (dueL M K).getD 0 = dv at *
        generalize (dueL M K).isSome = ds at *
        go_wp2_with fail
        refine hd2.mono ?_
        rintro e W2 ⟨rfl, rfl⟩
        go_wp2_with fail
        refine hd3.mono ?_
        rintro e W3 ⟨rfl, rfl⟩
        cases M with
        | nil =>
          have HD4 := Lib.hid hd4
          clear hd4
          go_wp2_with fail
          go_quiet (with_reducible exact Calls.quiet_of_same (HD4.out _))
          go_wp2_with fail
          go_roundw
          case rel => exact ⟨j + 1, by go_num, by omega, HKN.out _⟩
          case measure => simp [intOf]; omega
        | cons y r =>
          obtain ⟨g, o, rfl, _, q1⟩ := hs.at (i := 0) (x := y) rfl
          rw [Nat.zero_mul, Nat.add_zero] at q1
          have hlr : (y :: r).length = r.length + 1 := rfl
          rw [hlr] at c0 hd4
          have HD4 := Lib.hid hd4
          clear hd4
          clear hs
          go_wp2_with fail
          go_quiet (with_reducible exact Calls.quiet_of_same (HD4.out _))
          go_wp2_with fail
          go_roundw
          case rel => exact ⟨j + 1, by go_num, by omega, HKN.out _⟩
          case measure => simp [intOf]; omega
      by_cases k3 : kd = 3
      · subst k3
        have hs1 := next_any tb at0 L _ B HBo.out.1 hn1 (hokB B (by omega)) (by omega)
        unfold ptr at hs1
        go_wp2_with fail
        refine hs1.mono ?_
        rintro e V1 ⟨rfl, hP1, hg1⟩
        obtain ⟨hPa, hRa⟩ := HBo.out.stepP hP1 hg1
        have b1 := hg1.cell b1 (fun e => hot (Option.some.inj e))
        have b2 := hg1.cell b2 (fun e => hot (Option.some.inj e))
        have hv1 := hg1.size
        have hs2 := nextR_any rb at0 L _ V1 hRa hO0 (fun x hx => (HI0.out x hx).1) (hokB V1 (by omega)) (by omega)
        have hbv := below_grown HBW.out hg1 htw
        unfold ptr at hs2
        clear hs1
        go_wp2_with fail
        refine hs2.mono ?_
        rintro e W ⟨rfl, hR2, hg2⟩
        have HT : Hid (Both W tb rb (nextL L at0).2.2 ∧ InT (nextL L at0).2.2 ∧ (nextL L at0).2.2.length ≤ j + 1 ∧ Below w.heap.size w W ∧ W.cell? ⟨ob, 1, none⟩ = some (.int .u64 K)) :=
          ⟨both_stepR hPa hne0 hR2 hg2, fun x hx => HI0.out x (nextL_mem hx), by have := nextL_len L at0; omega, below_grown hbv hg2 hrw, hg2.cell b1 (fun e => hor (Option.some.inj e))⟩
        have b1 := hg2.cell b1 (fun e => hor (Option.some.inj e))
        clear hs2 hR2 hg2 hg1 hP1 hPa hRa hbv b2
        generalize (nextL L at0).2.2 = M at *
        generalize (nextL L at0).1 = nk at *
        generalize (nextL L at0).2.1 = nb at *
        obtain ⟨hBo, hI, hlen, hbw, o1⟩ := HT.out
        have hne := hBo.2.2
        have hd1 := due_any tb K M _ W hBo.1 hK
        unfold ptr at hd1
        go_wp2_with fail
        refine hd1.mono ?_
        rintro e W1 ⟨rfl, hb1⟩
        have hBo := hBo.old hb1
        have o1 := (hb1.cell (p := ⟨ob, 1, none⟩) (cell_lt o1)).trans o1
        have HB1 := Lib.hid (hbw.trans (hb1.mono hbw.size))
        have hO := hBo.1.ord
        have hd2 := dueR_any rb K M _ W1 hBo.2.1 hO hK (by omega)
        have hd3 := first_any tb M _ W1 hBo.1
        have hd4 := fun q => len_any tb M _ (W1.drewN q) (hBo.1.old (below_drewN W1 q))
        obtain ⟨ao, c, c0, _, ho, _⟩ := hBo.2.1
        have hs := ho.slT
        have HKN : Hid (∀ q, Kept17 w (W1.drewN q) tb rb (j + 1)) := fun q => ⟨⟨M, hBo.old (below_drewN W1 q), hI, by omega⟩, HB1.out.trans ((below_drewN W1 q).mono HB1.out.size)⟩
        clear hd1 hb1 hbw ho hO hBo HT
        unfold ptr dueV at *
        generalize (dueL M K).getD 0 = dv at *
        generalize (dueL M K).isSome = ds at *
        go_wp2_with fail
        refine hd2.mono ?_
        rintro e W2 ⟨rfl, rfl⟩
        go_wp2_with fail
        refine hd3.mono ?_
        rintro e W3 ⟨rfl, rfl⟩
        cases M with
        | nil =>
          have HD4 := Lib.hid hd4
          clear hd4
          go_wp2_with fail
          go_quiet (with_reducible exact Calls.quiet_of_same (HD4.out _))
          go_wp2_with fail
          go_roundw
          case rel => exact ⟨j + 1, by go_num, by omega, HKN.out _⟩
          case measure => simp [intOf]; omega
        | cons y r =>
          obtain ⟨g, o, rfl, _, q1⟩ := hs.at (i := 0) (x := y) rfl
          rw [Nat.zero_mul, Nat.add_zero] at q1
          have hlr : (y :: r).length = r.length + 1 := rfl
          rw [hlr] at c0 hd4
          have HD4 := Lib.hid hd4
          clear hd4
          clear hs
          go_wp2_with fail
          go_quiet (with_reducible exact Calls.quiet_of_same (HD4.out _))
          go_wp2_with fail
          go_roundw
          case rel => exact ⟨j + 1, by go_num, by omega, HKN.out _⟩
          case measure => simp [intOf]; omega
      have HT : Hid (Both B tb rb L ∧ InT L ∧ L.length ≤ j + 1 ∧ Below w.heap.size w B ∧ B.cell? ⟨ob, 1, none⟩ = some (.int .u64 K)) := ⟨HBo.out, HI0.out, by omega, HBW.out, b1⟩
      clear hlenL hlen0
      generalize hW : B = W at *
      generalize hM : L = M at *
      go_wp2_with fail
      obtain ⟨hBo, hI, hlen, hbw, o1⟩ := HT.out
      have hne := hBo.2.2
      have hd1 := due_any tb K M _ W hBo.1 hK
      unfold ptr at hd1
      go_wp2_with fail
      refine hd1.mono ?_
      rintro e W1 ⟨rfl, hb1⟩
      have hBo := hBo.old hb1
      have o1 := (hb1.cell (p := ⟨ob, 1, none⟩) (cell_lt o1)).trans o1
      have HB1 := Lib.hid (hbw.trans (hb1.mono hbw.size))
      have hO := hBo.1.ord
      have hd2 := dueR_any rb K M _ W1 hBo.2.1 hO hK (by omega)
      have hd3 := first_any tb M _ W1 hBo.1
      have hd4 := fun q => len_any tb M _ (W1.drewN q) (hBo.1.old (below_drewN W1 q))
      obtain ⟨ao, c, c0, _, ho, _⟩ := hBo.2.1
      have hs := ho.slT
      have HKN : Hid (∀ q, Kept17 w (W1.drewN q) tb rb (j + 1)) := fun q => ⟨⟨M, hBo.old (below_drewN W1 q), hI, by omega⟩, HB1.out.trans ((below_drewN W1 q).mono HB1.out.size)⟩
      clear hd1 hb1 hbw ho hO hBo HT
      unfold ptr dueV at *
      generalize (dueL M K).getD 0 = dv at *
      generalize (dueL M K).isSome = ds at *
      go_wp2_with fail
      refine hd2.mono ?_
      rintro e W2 ⟨rfl, rfl⟩
      go_wp2_with fail
      refine hd3.mono ?_
      rintro e W3 ⟨rfl, rfl⟩
      cases M with
      | nil =>
        have HD4 := Lib.hid hd4
        clear hd4
        go_wp2_with fail
        go_quiet (with_reducible exact Calls.quiet_of_same (HD4.out _))
        go_wp2_with fail
        go_roundw
        case rel => exact ⟨j + 1, by go_num, by omega, HKN.out _⟩
        case measure => simp [intOf]; omega
      | cons y r =>
        obtain ⟨g, o, rfl, _, q1⟩ := hs.at (i := 0) (x := y) rfl
        rw [Nat.zero_mul, Nat.add_zero] at q1
        have hlr : (y :: r).length = r.length + 1 := rfl
        rw [hlr] at c0 hd4
        have HD4 := Lib.hid hd4
        clear hd4
        clear hs
        go_wp2_with fail
        go_quiet (with_reducible exact Calls.quiet_of_same (HD4.out _))
        go_wp2_with fail
        go_roundw
        case rel => exact ⟨j + 1, by go_num, by omega, HKN.out _⟩
        case measure => simp [intOf]; omega
    · have hjd : ¬ (j : Int) < (n : Int) := by omega
      have HB9 := Lib.hid HK.out.2
      go_wp2_with fail
      go_ret
      exact ⟨rfl, HB9.out⟩
end Go.Proofs.Ytblebbmnlbmgiaa
