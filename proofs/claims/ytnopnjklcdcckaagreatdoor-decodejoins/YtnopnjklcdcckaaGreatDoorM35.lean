/-
  What is decoded: how many, how long, within which bounds. Nothing is proved of the program here.
  The walk over the program's Decode.
  The walk over what the laws of layer 10 ask first: awake.
-/
import Derived.Test.YtnopnjklcdcckaaGreatDoorM29
import Derived.Test.YtnopnjklcdcckaaGreatDoorM34
import Derived.Test.YtnopnjklcdcckaaGreatDoorM28
import Derived.Test.YtnopnjklcdcckaaGreatDoorM2
import Derived.Laws.BytesArg
import Derived.Laws.BytesString
import Derived.Laws.Concat
import Derived.Laws.Strings
namespace Go.Proofs.YtnopnjklcdcckaaGreatDoor
set_option linter.unusedVariables false

theorem kindOK_of {s : SC} (hf : FitS s) (h : FormS s) : KindOK s.ms := by
  have h0 : formM s.es.length s.ms.length s.ms = true := by
    have h1 := h.1
    unfold formS at h1
    simp only [Bool.and_eq_true] at h1
    exact h1.2.2.1
  intro m hm
  obtain ⟨i, hi⟩ := List.getElem?_of_mem hm
  have h1 := allA_iff.1 h0 i m hi
  unfold goodM at h1
  rw [Bool.and_eq_true] at h1
  refine ⟨riseD_of h1.2, fun x hx => ((numOK_of hf h) m hm x hx).1.1, fun x hx => ⟨?_, ((numOK_of hf h) m hm x hx).2⟩⟩
  obtain ⟨j, hj⟩ := List.getElem?_of_mem hx
  have h2 := allA_iff.1 h1.2 j x hj
  unfold goodF at h2
  simp only [Bool.and_eq_true] at h2
  have h3 := h2.2.2.2.2
  unfold typB at h3
  split at h3
  · omega
  · split at h3
    · omega
    · have := of_decide_eq_true h3; omega
theorem fieldsLen_of {s : SC} (h : FormS s) : ∀ m ∈ s.ms, m.fields.length ≤ 32 := by
  have h0 : formM s.es.length s.ms.length s.ms = true := by
    have h1 := h.1
    unfold formS at h1
    simp only [Bool.and_eq_true] at h1
    exact h1.2.2.1
  intro m hm
  obtain ⟨i, hi⟩ := List.getElem?_of_mem hm
  have h1 := allA_iff.1 h0 i m hi
  unfold goodM at h1
  rw [Bool.and_eq_true] at h1
  exact of_decide_eq_true h1.1
theorem fitG_leaf {bs bf f : Nat} {y : Nd} (h1 : y.fields = []) (h2 : y.s.length ≤ bs) : FitG bs bf f y := by
  cases f with
  | zero => exact h2
  | succ f => exact ⟨h2, by rw [h1]; exact Nat.zero_le _, fun p hp => by rw [h1] at hp; cases hp⟩
theorem rngG_leaf {f : Nat} {y : Nd} (h1 : y.fields = []) (h2 : Rg1 y) : RngG f y := by
  cases f with
  | zero => exact h2
  | succ f => exact ⟨h2, fun p hp => by rw [h1] at hp; cases hp⟩
theorem numD_leaf (k n : Int) : (numD k n).fields = [] ∧ (numD k n).s = [] := by
  unfold numD
  repeat' split
  all_goals exact ⟨rfl, rfl⟩
theorem numD_rg {k n : Int} (h : 0 ≤ n ∧ n ≤ 18446744073709551615) : Rg1 (numD k n) := by
  unfold numD Rg1 zagI
  repeat' split
  all_goals simp only [IntKind.wrap_i64, IntKind.wrap_i32]
  all_goals omega
theorem exL_len {α β : Type} {g : α → Except Int (List β)} {c : α → Nat} : ∀ {l : List α} {a : List β}, (∀ x ∈ l, ∀ b, g x = .ok b → b.length ≤ c x) → exL g l = .ok a → a.length ≤ sumL c l
  | [], a, h, e => by
    have : a = [] := by injection e with e; exact e.symm
    rw [this]; exact Nat.zero_le _
  | x :: t, a, h, e => by
    rw [exL_cons] at e
    cases hg : g x with
    | error er => rw [hg] at e; cases e
    | ok b =>
      cases ht : exL g t with
      | error er => rw [hg, ht] at e; cases e
      | ok m =>
        rw [hg, ht] at e
        have ha : a = b ++ m := by injection e with e; exact e.symm
        have h1 := h x List.mem_cons_self b hg
        have h2 := exL_len (c := c) (fun y hy => h y (List.mem_cons_of_mem _ hy)) ht
        rw [ha, List.length_append]
        show _ ≤ c x + sumL c t
        omega
theorem sumL_const {α : Type} (l : List α) : sumL (fun _ => 1) l = l.length := by
  induction l with
  | nil => rfl
  | cons a t ih => show 1 + sumL _ t = _; rw [ih, List.length_cons]; omega
theorem known_sum {fs : List FD} {D : List (TF × List Int)} {zs : List Int} (hP : ∀ p ∈ D, PieceOK p) (hf : (D.flatMap fun p => p.2) = zs) : sumL (fun x : WF => x.d.length + 1) (knownL fs D) ≤ zs.length := by
  unfold knownL
  rw [sumL_map]
  have h1 := sumL_filter (fun p : TF × List Int => (wfOf p).d.length + 1) (isKn fs) D
  have h2 : sumL (fun p : TF × List Int => (wfOf p).d.length + 1) D ≤ sumL (fun p => p.2.length) D := sumL_le fun p hp => (hP p hp).dl
  have h3 : (D.flatMap fun p => p.2).length = sumL (fun p => p.2.length) D := flatLen _ _
  rw [hf] at h3
  omega
theorem read_sum {fd : FD} {l : List WF} : sumL (fun x : WF => x.d.length + 1) (toRead fd l) ≤ sumL (fun x : WF => x.d.length + 1) l := by
  have h1 := sumL_own (fun x : WF => x.d.length + 1) fd l
  unfold toRead
  split
  · exact h1
  · rename_i h
    split
    · exact Nat.zero_le _
    · rename_i y hy
      have hy' := List.mem_of_getLast? hy
      have h2 := sumL_mem (g := fun x : WF => x.d.length + 1) hy'
      show ((if fd.kind = 10 then (ownL fd l).flatMap WF.d else y.d).length + 1) + 0 ≤ _
      split
      · have h3 : ((ownL fd l).flatMap WF.d).length + 1 ≤ sumL (fun x : WF => x.d.length + 1) (ownL fd l) := by
          rw [flatLen]
          have : ∀ (m : List WF), y ∈ m → sumL (fun x : WF => x.d.length) m + 1 ≤ sumL (fun x : WF => x.d.length + 1) m := by
            intro m
            induction m with
            | nil => intro hm; cases hm
            | cons a t ih =>
              intro hm
              have h4 : sumL (fun x : WF => x.d.length) t ≤ sumL (fun x : WF => x.d.length + 1) t := sumL_le fun x _ => by omega
              show a.d.length + sumL _ t + 1 ≤ a.d.length + 1 + sumL _ t
              omega
          exact this _ hy'
        omega
      · omega
/-- lists and texts are short -/
theorem decM_small {ms : List MD} (hK : KindOK ms) (hml : ∀ m ∈ ms, m.fields.length ≤ 10000) : ∀ (f : Nat) (t : Int) (zs : List Int) (x : Nd), 0 ≤ t → t < (ms.length : Int) → IsBs zs → zs.length ≤ 10000 → decM ms f t zs = .ok x → FitG 100000 10000 f x ∧ RngG f x
  | 0, t, zs, x, h0, h1, hb, hl, h => by cases h
  | f + 1, t, zs, x, h0, h1, hb, hl, h => by
    obtain ⟨md, hmd⟩ : ∃ md, ms[t.toNat]? = some md := ⟨_, List.getElem?_eq_getElem (by omega)⟩
    have hmm := List.mem_of_getElem? hmd
    obtain ⟨hr, hn1, hk⟩ := hK md hmm
    have hfs : fieldsOf ms t = md.fields := by unfold fieldsOf; rw [hmd]
    unfold decM at h
    rw [hfs] at h
    cases hs : split zs with
    | none => rw [hs] at h; cases h
    | some D =>
      rw [hs] at h
      dsimp only at h
      cases hL : exL (decF (decM ms f) (knownL md.fields D)) md.fields with
      | error e => rw [hL] at h; cases h
      | ok fl =>
        rw [hL] at h
        have hx : x = ⟨7, 0, 0, false, u8s (unknL md.fields D), t, fl⟩ := by injection h with h; exact h.symm
        have hP := split_ok _ (Nat.le_refl _) hb hs
        have hF := split_flat zs D hs
        have hul : (unknL md.fields D).length ≤ zs.length := by
          have := unkn_len md.fields D D.length
          rw [List.take_length, hF] at this
          exact this
        have hfl : fl.length ≤ 10000 := by
          have := exL_len (c := fun _ => 1) (fun fd _ b hb => by
            obtain ⟨l, _, rfl⟩ := decF_one hb
            split <;> simp) hL
          rw [sumL_const] at this
          have := hml md hmm
          omega
        have hin : ∀ p ∈ fl, p.2.length ≤ 10000 ∧ ∀ y ∈ p.2, FitG 100000 10000 f y ∧ RngG f y := by
          intro p hp
          obtain ⟨fd, b, hfd, hg, hpb⟩ := exL_mem hL hp
          obtain ⟨l, hv, rfl⟩ := decF_one hg
          split at hpb
          · cases hpb
          · have hpe : p = (fd.num, l) := List.mem_singleton.1 hpb
            subst hpe
            have hok := read_ok hr hfd hP
            have hsum := Nat.le_trans (read_sum (fd := fd)) (known_sum (fs := md.fields) hP hF)
            refine ⟨?_, fun y hy => ?_⟩
            · have := exL_len (c := fun x : WF => x.d.length + 1) (fun x hx b hb => decV_len (hok x hx).db hb) hv
              dsimp only
              omega
            · obtain ⟨w, b, hw, hdv, hyb⟩ := exL_mem hv hy
              have hdl : w.d.length ≤ 10000 := by
                have := sumL_mem (g := fun x : WF => x.d.length + 1) hw
                omega
              have hO := hok w hw
              cases hnum : isNum fd.kind with
              | true =>
                unfold decV at hdv
                rw [if_pos hnum] at hdv
                have hN : NumOf fd.kind y ∨ ∃ n, y = numD fd.kind n ∧ 0 ≤ n ∧ n ≤ 18446744073709551615 := by
                  split at hdv
                  · cases hu : unpack fd.kind w.d with
                    | none => rw [hu] at hdv; cases hdv
                    | some l' =>
                      rw [hu] at hdv
                      have : b = l' := by injection hdv with hdv; exact hdv.symm
                      subst this
                      exact .inl (unpack_of _ (Nat.le_refl _) hO.db hu y hyb)
                  · have : b = [numD fd.kind w.n] := by injection hdv with hdv; exact hdv.symm
                    subst this
                    exact .inr ⟨w.n, List.mem_singleton.1 hyb, hO.n⟩
                obtain ⟨n, rfl, hn⟩ : ∃ n, y = numD fd.kind n ∧ 0 ≤ n ∧ n ≤ 18446744073709551615 := by
                  rcases hN with ⟨n, e, hn, _⟩ | h
                  · exact ⟨n, e, hn⟩
                  · exact h
                have hlf := numD_leaf fd.kind n
                exact ⟨fitG_leaf hlf.1 (by rw [hlf.2]; simp), rngG_leaf hlf.1 (numD_rg hn)⟩
              | false =>
                rw [decV_bytes hnum] at hdv
                cases hd : decB (decM ms f) fd w.d with
                | error e => rw [hd] at hdv; cases hdv
                | ok z =>
                  rw [hd] at hdv
                  have : b = [z] := by injection hdv with hdv; exact hdv.symm
                  subst this
                  have hyz : y = z := List.mem_singleton.1 hyb
                  subst hyz
                  have hsd : ∀ k, FitG 100000 10000 f (strD k w.d) ∧ RngG f (strD k w.d) := fun k => ⟨fitG_leaf rfl (by show (u8s w.d).length ≤ _; rw [u8s_len]; omega), rngG_leaf rfl (by unfold strD Rg1; dsimp only; omega)⟩
                  unfold decB at hd
                  split at hd
                  · rename_i h10
                    have hty := (hk fd hfd).2 h10
                    exact decM_small hK hml f fd.type w.d y hty.1 hty.2 hO.db hdl hd
                  · split at hd
                    · split at hd
                      · have : y = strD 4 w.d := by injection hd with hd; exact hd.symm
                        rw [this]; exact hsd 4
                      · cases hd
                    · have : y = strD 5 w.d := by injection hd with hd; exact hd.symm
                      rw [this]; exact hsd 5
        rw [hx]
        exact ⟨⟨by show (u8s (unknL md.fields D)).length ≤ _; rw [u8s_len]; omega, hfl, fun p hp => ⟨(hin p hp).1, fun y hy => ((hin p hp).2 y hy).1⟩⟩, ⟨by unfold Rg1; dsimp only; omega, fun p hp y hy => ((hin p hp).2 y hy).2⟩⟩
end Go.Proofs.YtnopnjklcdcckaaGreatDoor
namespace Go.Proofs.YtnopnjklcdcckaaGreatDoor
set_option linter.unusedVariables false
open Go.ChangeShapes Go.WideShapes Go.ChangeAt Go.RowKit

/-- there is that message, in a schema that is formed -/
def GoodM (s : SC) (t : Int) : Prop := FormS s ∧ 0 ≤ t ∧ t < (s.ms.length : Int)
/-- what Decode answers -/
def DcAns (s : SC) (t : Int) (zs : List Int) (w : World) (e : Ending) (w' : World) : Prop :=
  ((¬ GoodM s t ∧ e = .returned (.tuple #[.nilIface, .int .i64 1])) ∨ (GoodM s t ∧ 4096 < zs.length ∧ e = .returned (.tuple #[.nilIface, .int .i64 4])) ∨
    (GoodM s t ∧ zs.length ≤ 4096 ∧ ((∃ er, er ≠ 0 ∧ decM s.ms 16 t zs = .error er ∧ e = .returned (.tuple #[.nilIface, .int .i64 er])) ∨ ∃ x v, decM s.ms 16 t zs = .ok x ∧ e = .returned (.tuple #[v, .int .i64 0]) ∧ HeldV w' (fun b => w.heap.size ≤ b ∧ b < w'.heap.size) 16 v (normN s.ms 16 x)))) ∧ Below w.heap.size w w'
set_option maxHeartbeats 16000000 in
set_option maxRecDepth 20000 in
theorem decodeP_any (ma ea ta : Option Addr) (nm ne nt mc ec tc : Nat) (s : SC) (t : Int) (a : Option Addr) (len cap : Nat) (zs : List Int) (w : World) (hT : Tabs w) (hnm : s.ms.length = nm) (hne : s.es.length = ne) (hnt : s.ts.length = nt) (hf : FitS s) (hH : HeldSc w (fun b => b < w.heap.size) (.slice ma nm mc) (.slice ea ne ec) (.slice ta nt tc) s) (hB : IsB w a len zs) (hlc : len ≤ cap) (hcm : cap ≤ 9223372036854775807) (hval : TextIn s.ms → ValC w) :
    Calls Tryz.prog 8 #[.agg #[.slice ma nm mc, .slice ea ne ec, .slice ta nt tc], .int .i64 t, .slice a len cap] w fun e w' => DcAns s t zs w e w' := by
  obtain ⟨Y, hY, hC, hb, hYs⟩ := box_new w #[.slice ma nm mc, .slice ea ne ec, .slice ta nt tc] 26
  have HY := Lib.hid hY
  have HBY := Lib.hid hb
  have hYl : w.heap.size + 1 = Y.heap.size := by omega
  have hfo := formP_any ma ea ta nm ne nt mc ec tc s Y hnm hne hnt hf (heldSc_mv hH hb)
  have S0 : Hid (∀ W, Below Y.heap.size Y W → W.cell? ⟨w.heap.size, 0, none⟩ = some (.slice ma nm mc) ∧ W.cell? ⟨w.heap.size, 1, none⟩ = some (.slice ea ne ec) ∧ W.cell? ⟨w.heap.size, 2, none⟩ = some (.slice ta nt tc)) := fun W hW => ⟨(hW.cell (by simp; omega)).trans (cell_at hC 0 rfl), (hW.cell (by simp; omega)).trans (cell_at hC 1 rfl), (hW.cell (by simp; omega)).trans (cell_at hC 2 rfl)⟩
  have HMS : Hid (GoodM s t → len ≤ 4096 → ∀ W, Below Y.heap.size Y W → Calls Tryz.prog 19 #[.agg #[.slice ma nm mc, .slice ea ne ec, .slice ta nt tc], .int .i64 t, .slice a len cap, .int .i64 1] W fun e w' => MAns 16 (decM s.ms 16 t zs) W e w') := by
    refine (?_ : _ → _ → ∀ W, _ → _)
    intro hg hl W hW
    have hw := hb.trans (hW.mono hb.size)
    exact message_any ma ea ta nm ne nt mc ec tc s.ms hnm (kindOK_of hf hg.1) (fun m hm => by have := fieldsLen_of hg.1 m hm; omega) 16 t 1 a len cap zs W (by decide) (by decide) hg.2.1 (by rw [← hnm]; exact hg.2.2) (heldSc_mv hH hw).1 (isB_old hB hw) hlc hcm (by omega) (fun h => (hval h).mv hw)
  have HNR : Hid (GoodM s t → len ≤ 4096 → ∀ x, decM s.ms 16 t zs = .ok x → ∀ W v, Below Y.heap.size Y W → HeldV W (fun b => b < W.heap.size) 16 v x → Calls Tryz.prog 9 #[.agg #[.slice ma nm mc, .slice ea ne ec, .slice ta nt tc], .int .i64 t, v] W fun e w' => NmAns s 16 t x W e w') := by
    refine (?_ : _ → _ → ∀ x, _ → ∀ W v, _ → _ → _)
    intro hg hl x hx W v hW hv
    have hw := hb.trans (hW.mono hb.size)
    have hsm := decM_small (kindOK_of hf hg.1) (fun m hm => by have := fieldsLen_of hg.1 m hm; omega) 16 t zs x hg.2.1 hg.2.2 (fun z hz => isB_bytes hB z hz) (by have := hB.1; omega) hx
    exact normalP_any ma ea ta nm ne nt mc ec tc s 16 t W (tabs_below hT hw) hnm hne hnt hf (heldSc_mv hH hw) v x hv hsm.1
  have HFX : Hid (GoodM s t → ∀ x, decM s.ms 16 t zs = .ok x → FitX s 16 t x) := fun hg x hx => ⟨hg.1, hg.2.1, hg.2.2, decM_fit (kindOK_of hf hg.1) 16 1 t zs x (by decide) hg.2.1 hg.2.2 (fun z hz => isB_bytes hB z hz) hx⟩
  have HZL : Hid (zs.length = len) := hB.1
  have HNM := Lib.hid hnm
  obtain ⟨b0, b1, b2⟩ := S0.out Y (Below.refl _ _)
  clear hY hC hb hYs hT hnm hne hnt hf hH hB hval
  go_enter Tryz.func8, Tryz.ntmps8
  go_upto_region 1 with fail
  rw [HY.out]
  go_cut [23] (fun v wx => ∃ B : Bool, v = .bool B ∧ (B = false ↔ GoodM s t) ∧ Below Y.heap.size Y wx)
  case first =>
    go_wp2_with fail
    refine hfo.mono ?_
    rintro e W1 ⟨b, rfl, hbi, hb1⟩
    have HBI := Lib.hid hbi
    have HB1 := Lib.hid hb1
    obtain ⟨c0, c1, c2⟩ := S0.out W1 hb1
    clear hfo hbi hb1 b0 b1 b2
    cases b
    case false =>
      have HNF : Hid (¬ FormS s) := fun h => by have := HBI.out.2 h; cases this
      clear HBI
      go_wp2_with fail
      go_meet
      refine ⟨true, rfl, ?_, HB1.out⟩
      exact ⟨(fun h => by cases h), fun h => absurd h.1 HNF.out⟩
    case true =>
      have HF : Hid (FormS s) := HBI.out.1 rfl
      clear HBI
      by_cases ht0 : t < 0
      · go_wp2_with fail
        go_meet
        refine ⟨true, ?_, ⟨(fun h => by cases h), fun h => absurd h.2.1 (by omega)⟩, HB1.out⟩
        simp
      · by_cases ht1 : t < (nm : Int)
        · have ht2 : ¬ (nm : Int) ≤ t := by omega
          have hgm : GoodM s t := ⟨HF.out, by omega, by rw [HNM.out]; exact ht1⟩
          go_wp2_with fail
          go_meet
          refine ⟨false, ?_, ⟨fun _ => hgm, fun _ => rfl⟩, HB1.out⟩
          simp [ht0, ht2]
        · have ht2 : (nm : Int) ≤ t := by omega
          have hgm : ¬ GoodM s t := fun h => by have := h.2.2; rw [HNM.out] at this; omega
          go_wp2_with fail
          go_meet
          refine ⟨true, ?_, ⟨(fun h => by cases h), fun h => absurd h hgm⟩, HB1.out⟩
          simp
  case rest =>
  obtain ⟨B, rfl, hBi, hbc⟩ := hcut
  generalize wc = W1 at *
  have HBC := Lib.hid hbc
  have HWC := Lib.hid (HBY.out.trans (hbc.mono HBY.out.size))
  have HGI := Lib.hid hBi
  clear hfo hBi b0 b1 b2
  cases B
  case true =>
    have HRES : Hid (DcAns s t zs w (.returned (.tuple #[.nilIface, .int .i64 1])) W1) := ⟨.inl ⟨(fun h => by have := HGI.out.2 h; cases this), rfl⟩, HWC.out⟩
    clear hbc
    go_wp2_with fail
    go_ret2
    exact HRES.out
  case false =>
  have hg : GoodM s t := HGI.out.1 rfl
  have HG := Lib.hid hg
  by_cases hl : len ≤ 4096
  case neg =>
    have hl1 : (4096 : Int) < (len : Int) := by omega
    have HRES : Hid (DcAns s t zs w (.returned (.tuple #[.nilIface, .int .i64 4])) W1) := ⟨.inr (.inl ⟨hg, by rw [HZL.out]; omega, rfl⟩), HWC.out⟩
    clear hbc hg
    go_wp2_with fail
    go_ret2
    exact HRES.out
  have hl1 : ¬ (4096 : Int) < (len : Int) := by omega
  have HZ4 : Hid (zs.length ≤ 4096) := by
    refine (?_ : zs.length ≤ 4096)
    rw [HZL.out]; exact hl
  have hms := HMS.out hg hl W1 hbc
  obtain ⟨b0, b1, b2⟩ := S0.out W1 hbc
  clear hbc hg
  go_wp2_with fail
  refine hms.mono ?_
  intro e W2 hans
  clear hms b0 b1 b2
  cases hR : decM s.ms 16 t zs with
  | error er =>
    rw [hR] at hans
    obtain ⟨h0, rfl, hb2⟩ := hans
    have hE2 : (er == 0) = false := by simp [h0]
    have hE3 : (er != 0) = true := by simp [h0]
    have HRES : Hid (DcAns s t zs w (.returned (.tuple #[.nilIface, .int .i64 er])) W2) := ⟨.inr (.inr ⟨HG.out, HZ4.out, .inl ⟨er, h0, hR, rfl⟩⟩), HWC.out.trans (hb2.mono HWC.out.size)⟩
    clear hb2 hR
    go_wp2_with fail
    go_ret2
    exact HRES.out
  | ok x =>
    rw [hR] at hans
    obtain ⟨v, rfl, hv, hb2⟩ := hans
    have HR := Lib.hid hR
    have h12 := hb2.size
    have hbY2 := HBC.out.trans (hb2.mono HBC.out.size)
    have hnr := HNR.out HG.out hl x hR W2 v hbY2 (hv.mv (fun _ _ => rfl) (fun b hb => hb.2))
    have HW2 := Lib.hid (HWC.out.trans (hb2.mono HWC.out.size))
    obtain ⟨b0, b1, b2⟩ := S0.out W2 hbY2
    have HFT := Lib.hid (HFX.out HG.out x hR)
    clear hb2 hbY2 hv hR
    go_wp2_with fail
    refine hnr.mono ?_
    rintro e W3 ⟨hc | ⟨_, v', rfl, hv'⟩, hb3⟩
    · exact absurd HFT.out hc.1
    have h2s := HW2.out.size
    have HRES : Hid (DcAns s t zs w (.returned (.tuple #[v', .int .i64 0])) W3) := ⟨.inr (.inr ⟨HG.out, HZ4.out, .inr ⟨x, v', HR.out, rfl, hv'.mv (fun _ _ => rfl) (fun b hb => ⟨by have := hb.1; omega, hb.2⟩)⟩⟩), HW2.out.trans (hb3.mono HW2.out.size)⟩
    clear hnr hb3 hv' b0 b1 b2
    go_wp2_with fail
    go_ret2
    exact HRES.out
end Go.Proofs.YtnopnjklcdcckaaGreatDoor
namespace Go.Proofs.YtnopnjklcdcckaaGreatDoor
set_option linter.unusedVariables false
open Go.ChangeShapes Go.WideShapes Go.ChangeAt Go.RowKit

def fdB : FD := ⟨1, [120], 1, false, 0⟩
def scB : SC := ⟨[⟨[65], [fdB]⟩], [], []⟩
theorem formB : FormS scB := by
  refine ⟨by decide +kernel, fun i hi hr => ?_⟩
  have hno : ∀ x y, ¬ Goes scB.ms x y := by
    intro x y h
    unfold Goes at h
    obtain ⟨m, hm, f, hf, hk, _⟩ := h
    have hx : x = 0 := by
      have := (List.getElem?_eq_some_iff.1 hm).1
      simp [scB] at this; omega
    subst hx
    have e : m = ⟨[65], [fdB]⟩ := by simpa [scB] using hm.symm
    subst e
    have e2 : f = fdB := by simpa using hf
    subst e2
    exact absurd hk (by decide)
  unfold Ring at hr
  cases hr with
  | single h => exact hno _ _ h
  | tail _ h => exact hno _ _ h
theorem lst1 {α : Type} {a x : α} {j : Nat} (h : [a][j]? = some x) : j = 0 ∧ a = x := by
  have hj : j = 0 := by
    have := (List.getElem?_eq_some_iff.1 h).1
    simp at this; exact this
  subst hj
  exact ⟨rfl, by simpa using h⟩
def EnU (s : SC) (f : Nat) (t : Int) (x : Nd) (w0 w : World) (e : Ending) (w' : World) : Prop :=
  ∃ a zs c ee, e = .returned (.tuple #[.slice a zs.length c, .int .i64 ee]) ∧ BIn w' (fun b => b < w'.heap.size) a c zs ∧ ((¬ FitX s f t x ∧ zs = [] ∧ ee = 1) ∨ (FitX s f t x ∧ zs = encLz s f x ∧ ee = encE s f x)) ∧ Below w0.heap.size w0 w' ∧ Below w.heap.size w w'
theorem enU_of {s : SC} {f : Nat} {t : Int} {x : Nd} {w0 w : World} {e : Ending} {w' : World} (h : EncAns s f t x w e w') (hb : Below w0.heap.size w0 w) : EnU s f t x w0 w e w' := by
  obtain ⟨⟨h1, rfl⟩ | ⟨h1, a, c, rfl, h2⟩, h3⟩ := h
  · exact ⟨none, [], 0, 1, rfl, BIn.nil _ _, .inl ⟨h1, rfl, rfl⟩, hb.trans (h3.mono hb.size), h3⟩
  · exact ⟨a, _, c, _, rfl, h2.mv (fun _ _ => rfl) (fun b hb => hb.2), .inr ⟨h1, rfl, rfl⟩, hb.trans (h3.mono hb.size), h3⟩
end Go.Proofs.YtnopnjklcdcckaaGreatDoor
