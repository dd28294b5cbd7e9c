/-
  The law WireSplits returns true, and its argument reads as before, for every input of small bulk (the statement of the second form). No other condition.
-/
import Derived.Test.YthpaanjphpcfkaaRows
import Derived.WalkKit
import Derived.ProofKit
import Derived.OpenShut
import Derived.ShutString
import Derived.SizedLaws
import Derived.ChangeOld
import Derived.Below
import Derived.JoinedCond
import Derived.Deep.RegionWith
import Derived.Deep.RegionLaw
import Derived.Deep.DeepCutAuto
import Derived.Deep.RegionHeldLaw
import Derived.Test.YthpaanjphpcfkaaWApp
import Derived.Test.YthpaanjphpcfkaaWSp
import Derived.Test.YthpaanjphpcfkaaRSp
import Derived.Test.YthpaanjphpcfkaaUpt
import Derived.Test.YthpaanjphpcfkaaSpM
namespace Go.Proofs.Ythpaanjphpcfkaa.wireSplits
open Go.ChangeShapes Go.WideShapes Go.ChangeAt Go.RowKit
open Go.ChangeMaps (open_string shut_string)
set_option linter.unusedVariables false

theorem own : ownKnob Try.prog.godebug = none := by kernel_rfl
theorem laidOut : laidOutB Try.prog = true := by kernel_rfl

theorem sameB_refl (num ty n : Int) (d : List Int) : sameB num ty n num ty n d d = true := by simp [sameB]
set_option maxHeartbeats 4000000 in
theorem walk (a0 : Option Addr) (len0 cap0 : Nat) (z0 : List Int) (w : World) (w0 : ArgB w a0 len0 cap0 z0) (u0 : cap0 ≤ 1048576) :
    Calls Try.prog 6 #[.slice a0 len0 cap0] w fun e w' => e = .returned (.bool true) ∧ Below w.heap.size w w' := by
  have hlm : len0 ≤ 1048576 := by have := w0.2.1; omega
  have hlc : len0 ≤ cap0 := w0.2.1
  have HB0 : Hid (IsB w a0 len0 z0) := w0.isB
  have HL0 : Hid (z0.length = len0) := HB0.out.1
  have HSW : Hid (∀ W, Below w.heap.size w W → Calls Try.prog 18 #[.slice a0 len0 cap0] W fun e w' => SpAns 30 W w' e (split z0)) := fun W h => splitW_any a0 len0 cap0 z0 W (isB_old HB0.out h) hlc (by omega) (by omega)
  have HSR : Hid (∀ W, Below w.heap.size w W → Calls Try.prog 19 #[.slice a0 len0 cap0] W fun e w' => SpAns 25 W w' e (split z0)) := fun W h => splitR_any a0 len0 cap0 z0 W (isB_old HB0.out h) hlc (by omega) (by omega)
  have HSTR : Hid (∀ W, Below w.heap.size w W → (convert 22 9 (.slice a0 len0 cap0)).run Try.prog W = .ok (.string (strOfNums z0)) W) := fun W h => run_str _ _ _ _ _ (isB_old HB0.out h)
  have HOU : Hid (∀ (num ty n : Int) (a : Option Addr) (len cap : Nat) (W : World), Calls Try.prog 17 #[.agg #[.int .i64 num, .int .i64 ty, .int .u64 n, .slice a len cap]] W fun e w' => e = .returned (.agg #[.int .i64 num, .int .i64 ty, .int .u64 n, .slice a len cap]) ∧ Below W.heap.size W w') := ours_any
  have HSA : Hid (∀ (num ty n : Int) (a a' : Option Addr) (len cap len' cap' : Nat) (d : List Int) (W : World), IsB W a len d → IsB W a' len' d → Calls Try.prog 16 #[.agg #[.int .i64 num, .int .i64 ty, .int .u64 n, .slice a len cap], .agg #[.int .i64 num, .int .i64 ty, .int .u64 n, .slice a' len' cap']] W fun e w' => e = .returned (.bool true) ∧ Below W.heap.size W w') := by
    intro num ty n a a' len cap len' cap' d W h h'
    have := sameR_any num ty n num ty n a a' len cap len' cap' d d W h h'
    rw [sameB_refl] at this
    exact this
  clear w0
  cases hsp : split z0 with
  | none =>
    rw [hsp] at HSW HSR
    have HSW2 : Hid (∀ W, Below w.heap.size w W → Calls Try.prog 18 #[.slice a0 len0 cap0] W fun e w' => e = .returned (.tuple #[.slice none 0 0, .slice none 0 0, .int .i64 2]) ∧ Below W.heap.size W w') := HSW.out
    have HSR2 : Hid (∀ W, Below w.heap.size w W → Calls Try.prog 19 #[.slice a0 len0 cap0] W fun e w' => e = .returned (.tuple #[.slice none 0 0, .slice none 0 0, .int .i64 2]) ∧ Below W.heap.size W w') := HSR.out
    clear HSW HSR hsp HOU HSA HSTR
    go_enter Try.func6, Try.ntmps6
    go_wp2_with fail
    refine (awake_any _).mono ?_
    rintro e W1 ⟨rfl, hb1⟩
    go_wp2_with fail
    refine (HSW2.out _ hb1).mono ?_
    rintro e W2 ⟨rfl, hb2⟩
    have hb02 : Below w.heap.size w W2 := hb1.trans (hb2.mono hb1.size)
    go_wp2_with fail
    refine (HSR2.out _ hb02).mono ?_
    rintro e W3 ⟨rfl, hb3⟩
    have HB03 : Hid (Below w.heap.size w W3) := hb02.trans (hb3.mono hb02.size)
    clear hb1 hb2 hb3 hb02 HSW2 HSR2
    go_wp2_with fail
    go_loopw [51] (fun i wr => i = .int .i64 0 ∧ wr = W3) (fun _ _ => 0)
    case atStart => exact ⟨rfl, rfl⟩
    case round =>
      obtain ⟨rfl, rfl⟩ := hrel
      go_wp2_with fail
      go_ret
      exact ⟨rfl, HB03.out⟩
  | some D =>
    rw [hsp] at HSW HSR
    have HSW2 : Hid (∀ W, Below w.heap.size w W → Calls Try.prog 18 #[.slice a0 len0 cap0] W fun e w' => ∃ vF vR fs rs, e = .returned (.tuple #[vF, vR, .int .i64 0]) ∧ SplSt w' W.heap.size 30 vF vR fs rs ∧ FitsF fs D ∧ FitsR rs D ∧ Below W.heap.size W w') := HSW.out
    have HSR2 : Hid (∀ W, Below w.heap.size w W → Calls Try.prog 19 #[.slice a0 len0 cap0] W fun e w' => ∃ vF vR fs rs, e = .returned (.tuple #[vF, vR, .int .i64 0]) ∧ SplSt w' W.heap.size 25 vF vR fs rs ∧ FitsF fs D ∧ FitsR rs D ∧ Below W.heap.size W w') := HSR.out
    have HFLAT : Hid ((D.flatMap fun p => p.2) = z0) := split_flat z0 D hsp
    have hDl : D.length ≤ 1048576 := by
      have := spl_len _ z0 D (isB_bytes HB0.out) hsp
      have := HL0.out
      omega
    clear HSW HSR hsp
    go_enter Try.func6, Try.ntmps6
    go_wp2_with fail
    refine (awake_any _).mono ?_
    rintro e W1 ⟨rfl, hb1⟩
    go_wp2_with fail
    refine (HSW2.out _ hb1).mono ?_
    rintro e W2 ⟨vF, vR, fs, rs, rfl, hst, hFF, hFR, hb2⟩
    have hb02 : Below w.heap.size w W2 := hb1.trans (hb2.mono hb1.size)
    obtain ⟨aF, cF, aR, cR, rfl, rfl, hlF, hlR, hcF, hcR⟩ := st_shapes hst
    rw [hFF.len, hFR.len]
    rw [hFF.len] at hlF
    rw [hFR.len] at hlR
    have HFF : Hid (FitsF fs D) := hFF
    have HFR : Hid (FitsR rs D) := hFR
    have HCF : Hid _ := hcF
    have HCR : Hid _ := hcR
    clear hst hFF hFR hcF hcR
    go_wp2_with fail
    refine (HSR2.out _ hb02).mono ?_
    rintro e W3 ⟨vF', vR', fs', rs', rfl, hst', hFF', hFR', hb3⟩
    obtain ⟨aG, cG, aS, cS, rfl, rfl, hlG, hlS, hcG, hcS⟩ := st_shapes hst'
    rw [hFF'.len, hFR'.len]
    rw [hFF'.len] at hlG
    rw [hFR'.len] at hlS
    have HFF' : Hid (FitsF fs' D) := hFF'
    have HFR' : Hid (FitsR rs' D) := hFR'
    have HCG : Hid _ := hcG
    have HCS : Hid _ := hcS
    have HB23 : Hid (Below W2.heap.size W2 W3) := hb3
    have HB03 : Hid (Below w.heap.size w W3) := hb02.trans (hb3.mono hb02.size)
    clear hst' hFF' hFR' hcG hcS hb1 hb2 hb3 hb02 HSW2 HSR2
    obtain ⟨n, hn⟩ : ∃ n, D.length = n := ⟨_, rfl⟩
    rw [hn] at hDl hlF hlR hlG hlS ⊢
    have HN : Hid (D.length = n) := hn
    clear hn
    go_wp2_with fail
    go_loopw [9, 51] (fun s i wr => ∃ k : Nat, k ≤ n ∧ i = .int .i64 k ∧ s = .string (strOfNums ((D.take k).flatMap fun p => p.2)) ∧ Below W3.heap.size W3 wr) (fun _ i _ => n - (intOf i).toNat)
    case atStart => exact ⟨0, by omega, rfl, rfl, Below.refl _ _⟩
    case round =>
      obtain ⟨k, hk, rfl, rfl, hbel⟩ := hrel
      have HBL : Hid (Below W3.heap.size W3 wr) := hbel
      have HBW : Hid (Below w.heap.size w wr) := HB03.out.trans (hbel.mono HB03.out.size)
      by_cases hlt : k < n
      · obtain ⟨f, p, hf, hp, hfp⟩ := fits_at HFF.out k (by have := HN.out; omega)
        obtain ⟨f', p', hf', hp', hfp'⟩ := fits_at HFF'.out k (by have := HN.out; omega)
        obtain ⟨r, p2, hr, hp2, hrp⟩ := fitsR_at HFR.out k (by have := HN.out; omega)
        obtain ⟨r', p3, hr', hp3, hrp'⟩ := fitsR_at HFR'.out k (by have := HN.out; omega)
        rw [hp] at hp' hp2 hp3
        cases hp'
        cases hp2
        cases hp3
        obtain ⟨gF, rfl, x0, x1, x2, x3, xI, xg⟩ := HCF.out k f hf
        obtain ⟨gG, rfl, y0, y1, y2, y3, yI, yg⟩ := HCG.out k f' hf'
        obtain ⟨gR, rfl, t0, tI, tg⟩ := HCR.out k r hr
        obtain ⟨gS, rfl, s0, sI, sg⟩ := HCS.out k r' hr'
        have hsays : f'.says = f.says := hfp'.trans hfp.symm
        simp only [FR.says, Prod.mk.injEq] at hsays
        obtain ⟨q0, q1, q2, q3⟩ := hsays
        rw [q0] at y0
        rw [q1] at y1
        rw [q2] at y2
        rw [q3] at yI
        have hrr : r'.zs = r.zs := hrp'.trans hrp.symm
        rw [hrr] at sI
        have hb2 : Below W2.heap.size W2 wr := HB23.out.trans (HBL.out.mono HB23.out.size)
        have hz2 := hb2.size
        have hz3 := HBL.out.size
        have HXI : Hid (IsB wr f.a f.len f.d) := isB_old xI hb2
        have HYI : Hid (IsB wr f'.a f'.len f.d) := isB_old yI HBL.out
        have HTI : Hid (IsB wr r.a r.len r.zs) := isB_old tI hb2
        have HSI : Hid (IsB wr r'.a r'.len r.zs) := isB_old sI HBL.out
        have hx0 : ∀ W, Below wr.heap.size wr W → W.cell? ⟨gF, k * 4, none⟩ = some (.int .i64 f.num) := fun W h => (h.cell (show gF < wr.heap.size by omega)).trans ((hb2.cell xg).trans x0)
        have hx1 : ∀ W, Below wr.heap.size wr W → W.cell? ⟨gF, k * 4 + 1, none⟩ = some (.int .i64 f.ty) := fun W h => (h.cell (show gF < wr.heap.size by omega)).trans ((hb2.cell xg).trans x1)
        have hx2 : ∀ W, Below wr.heap.size wr W → W.cell? ⟨gF, k * 4 + 2, none⟩ = some (.int .u64 f.n) := fun W h => (h.cell (show gF < wr.heap.size by omega)).trans ((hb2.cell xg).trans x2)
        have hx3 : ∀ W, Below wr.heap.size wr W → W.cell? ⟨gF, k * 4 + 3, none⟩ = some (.slice f.a f.len f.cap) := fun W h => (h.cell (show gF < wr.heap.size by omega)).trans ((hb2.cell xg).trans x3)
        have hy0 : ∀ W, Below wr.heap.size wr W → W.cell? ⟨gG, k * 4, none⟩ = some (.int .i64 f.num) := fun W h => (h.cell (show gG < wr.heap.size by omega)).trans ((HBL.out.cell yg).trans y0)
        have hy1 : ∀ W, Below wr.heap.size wr W → W.cell? ⟨gG, k * 4 + 1, none⟩ = some (.int .i64 f.ty) := fun W h => (h.cell (show gG < wr.heap.size by omega)).trans ((HBL.out.cell yg).trans y1)
        have hy2 : ∀ W, Below wr.heap.size wr W → W.cell? ⟨gG, k * 4 + 2, none⟩ = some (.int .u64 f.n) := fun W h => (h.cell (show gG < wr.heap.size by omega)).trans ((HBL.out.cell yg).trans y2)
        have hy3 : ∀ W, Below wr.heap.size wr W → W.cell? ⟨gG, k * 4 + 3, none⟩ = some (.slice f'.a f'.len f'.cap) := fun W h => (h.cell (show gG < wr.heap.size by omega)).trans ((HBL.out.cell yg).trans y3)
        have ht0 : ∀ W, Below wr.heap.size wr W → W.cell? ⟨gR, k, none⟩ = some (.slice r.a r.len r.cap) := fun W h => (h.cell (show gR < wr.heap.size by omega)).trans ((hb2.cell tg).trans t0)
        have hs0 : ∀ W, Below wr.heap.size wr W → W.cell? ⟨gS, k, none⟩ = some (.slice r'.a r'.len r'.cap) := fun W h => (h.cell (show gS < wr.heap.size by omega)).trans ((HBL.out.cell sg).trans s0)
        have hct : ∀ W, Below wr.heap.size wr W → (convert 22 9 (.slice r.a r.len r.cap)).run Try.prog W = .ok (.string (strOfNums r.zs)) W := fun W h => run_str _ _ _ _ _ (isB_old HTI.out h)
        have hcs : ∀ W, Below wr.heap.size wr W → (convert 22 9 (.slice r'.a r'.len r'.cap)).run Try.prog W = .ok (.string (strOfNums r.zs)) W := fun W h => run_str _ _ _ _ _ (isB_old HSI.out h)
        have hltI : (k : Int) < (n : Int) := by omega
        have hk0 : (0 : Int) ≤ (k : Int) := by omega
        have HNX : Hid (((D.take (k + 1)).flatMap fun p => p.2) = ((D.take k).flatMap fun p => p.2) ++ r.zs) := by
          refine (?_ : _ = _)
          rw [flat_snoc hp, hrp]
        have HSM : Hid (((D.take (k + 1)).flatMap fun p => p.2).length ≤ 1048576) := by
          have h := flat_le D (k + 1)
          rw [HFLAT.out, HL0.out] at h
          exact Nat.le_trans h hlm
        clear x0 x1 x2 x3 xI xg y0 y1 y2 y3 yI yg t0 tI tg s0 sI sg q0 q1 q2 q3 hrr hfp hfp' hrp hrp' hf hf' hr hr' hp hb2 hbel
        generalize f.num = fnum at *
        generalize f.ty = fty at *
        generalize f.n = fn at *
        generalize f.a = fa at *
        generalize f.len = flen at *
        generalize f.cap = fcap at *
        generalize f.d = fd at *
        generalize f'.a = ga at *
        generalize f'.len = glen at *
        generalize f'.cap = gcap at *
        generalize r.a = ra at *
        generalize r.len = rlen at *
        generalize r.cap = rcap at *
        generalize r.zs = rzs at *
        generalize r'.a = sa at *
        generalize r'.len = slen' at *
        generalize r'.cap = scap at *
        have hbd : Below wr.heap.size wr wr.drew := (Below.refl _ _).drew
        have hcat := str_append ((D.take k).flatMap fun p => p.2) rzs
        have hsA : (strOfNums ((D.take k).flatMap fun p => p.2)).size = ((D.take k).flatMap fun p => p.2).length := strOfNums_size _
        have hsB : (strOfNums rzs).size = rzs.length := strOfNums_size _
        have hlen : ((D.take k).flatMap fun p => p.2).length + rzs.length ≤ 1048576 := by
          have := HSM.out
          rw [HNX.out, List.length_append] at this
          exact this
        rw [← HNX.out] at hcat
        clear HNX HSM
        generalize hnx : (D.take (k + 1)).flatMap (fun p => p.2) = nxt at *
        generalize (D.take k).flatMap (fun p => p.2) = acc at *
        generalize acc.length = la at *
        generalize rzs.length = lb at *
        go_wp2_with fail
        go_region_held_law (fun W' => Below wr.heap.size wr W') (first | exact hbd | assumption) (first
          | (go_at_call 17; refine (HOU.out _ _ _ _ _ _ _).mono ?_; rintro e X6 ⟨rfl, hb6⟩; have hb46 : Below wr.heap.size wr X6 := hbd.trans (hb6.mono (by simp)))
          | (go_at_call 16; refine (HSA.out _ _ _ _ _ _ _ _ _ fd _ (isB_old HXI.out hb46) (isB_old HYI.out hb46)).mono ?_; rintro e X7 ⟨rfl, hb7⟩; have hb47 : Below wr.heap.size wr X7 := hb46.trans (hb7.mono hb46.size)))
        all_goals
          go_wp2_with fail
          go_roundw
          case rel => exact ⟨k + 1, by omega, by go_num, by rw [hnx], HBL.out.trans (hb47.mono hz3)⟩
          case measure => simp [intOf]; omega
      · obtain rfl : k = n := by omega
        have hall : ((D.take k).flatMap fun p => p.2) = z0 := by
          rw [List.take_of_length_le (by have := HN.out; omega)]
          exact HFLAT.out
        rw [hall]
        have hst := HSTR.out wr HBW.out
        clear hall hbel HBL
        generalize strOfNums z0 = S at *
        go_wp2_with fail
        go_ret
        exact ⟨rfl, HBW.out⟩

theorem contract (H : Type) (enc : TypeId × Value → H) (W : World) (base : Nat) (args : Array Value) (ds gs : List (DataW H)) (before : List MemPlace)
    (hval0 : ∀ (j : Nat) t v, Try.f6.params[j]? = some t → args[j]? = some v → Value.okWide Try.prog W .any base t v)
    (hW : DataW.Whole enc Try.prog Try.f6.params.toList Rows.wireSplitsSpec.vars false W args.toList ds gs before) (hk : Rows.uptoSmall H (ds ++ gs) = true) :
    Calls Try.prog 6 args W fun e W' => ∃ v, e = .returned v ∧ Rows.wireSplitsSpec.post enc Try.prog Try.f6 false true false false W args v W' := by
  have hval : ∀ (j : Nat) t v, Try.f6.params[j]? = some t → args[j]? = some v → Value.okWide Try.prog W .any base t v := hval0
  have hu := bulk_bound hk
  clear hk
  have hW' := hW
  obtain ⟨p, q, hA0, hV, rfl, hfz, hnd⟩ := hW
  have hA : DataW.TrodAll enc Try.prog W 0 (fun _ => true) true Try.f6.params.toList args.toList ds p := hA0
  rw [Try.params6] at hA hval
  obtain ⟨v0, vs0, d0, ds0, p0, q0, hargs, rfl, rfl, h0, r0⟩ := trodAll_cons hA
  obtain ⟨rfl, rfl, rfl⟩ := trodAll_nil r0
  obtain rfl : args = #[v0] := by cases args; simp_all
  obtain ⟨rfl, rfl⟩ := trodVars_none hV
  have k0 := h0
  have lt0 : ∀ x ∈ p0, x.block < W.heap.size := by obtain ⟨m, hm⟩ := k0; exact DataW.trod_lt m _ _ _ hm
  have hu0 : Rows.uptoBulk d0 ≤ 1048576 := Nat.le_trans (bulk_part (by simp)) hu
  obtain ⟨a0, len0, cap0, z0, rfl, w0, u0⟩ := open_bytesU (hval 0 22 v0 rfl rfl) h0 hu0
  clear hA0 hval0
  refine (walk a0 len0 cap0 z0 W w0 u0).mono fun e W' ⟨he, bel⟩ => ?_
  subst he
  exact ⟨_, rfl, _, _, _, [], _, [], hW', trodAll_mk1 (shut_bool Try.underlying4 _), (trodAll_cons_mk (Below.trod laidOut (by kernel_rfl) (of_decide_eq_true (by kernel_rfl)) k0 bel lt0) trodAll_mk0), rfl, bel.frame _, fun h => by cases h⟩

set_option maxRecDepth 100000 in
theorem lifted (os : Os) (started : os.Started) (H : Type) (enc : TypeId × Value → H) (F : Stop.Interp) :
    ReturnsInHanded {} Try.checked os 6 .any ((Rows.OpenSpec.upto Rows.wireSplitsSpec).pre6 enc Try.prog Try.f6 Rows.wireSplitsUptoRow.domain false) (((Rows.OpenSpec.upto Rows.wireSplitsSpec).at F).post enc Try.prog Try.f6 false true false false) := by
  refine returnsInHanded_of_cond (C := Try.checked) (s := Rows.OpenSpec.upto Rows.wireSplitsSpec) (k := Rows.uptoSmall) rfl own started (by kernel_rfl) Try.func6
    (OpenSpec.witness (enc := enc) (C := Try.checked) (s := Rows.OpenSpec.upto Rows.wireSplitsSpec) (k := Rows.uptoSmall) rfl false ⟨#[], #[.slice none 0 0], []⟩ 8 (by kernel_rfl) (by kernel_rfl) (by kernel_rfl)
      (x := ([.nil], [], [])) (by kernel_rfl) rfl (by kernel_rfl)) ?_
  intro W base args ds gs before hval hW _ hk _
  exact contract H enc W base args ds gs before hval hW hk

theorem over : Rows.wireSplitsUptoRow.holds Try.pinned (Rows.OpenSpec.upto Rows.wireSplitsSpec) :=
  OpenClaim.holds_of_cond 6 Try.f6 rfl rfl rfl rfl rfl rfl rfl ⟨rfl, rfl, rfl, rfl, rfl⟩ rfl rfl rfl rfl rfl (by kernel_rfl) Try.func6 (by kernel_rfl)
    (of_decide_eq_true (by kernel_rfl)) (by unfold Func.isWrapper; first | (rw [if_pos (by decide +kernel)]; kernel_rfl) | (rw [if_neg (by decide +kernel)]; exact ⟨rfl, rfl⟩))
    (fun os started H enc _ F => lifted os started H enc F)

theorem proved : Rows.WireSplitsUptoSaid := over
end Go.Proofs.Ythpaanjphpcfkaa.wireSplits
namespace Go.Proofs.Ythpaanjphpcfkaa
theorem wireSplitsUpto_holds : Rows.WireSplitsUptoSaid := wireSplits.proved
end Go.Proofs.Ythpaanjphpcfkaa
