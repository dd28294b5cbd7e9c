/-
  The walk over the law DecodeBytes.
  Declarations that came in as an argument, of a size that a machine can hold: what their reading says. Nothing is proved of the program here.
-/
import Derived.Test.YteajlfgbmefncaaGreatDoorM40
import Derived.Test.YteajlfgbmefncaaGreatDoorM42
import Derived.Test.YteajlfgbmefncaaGreatDoorM41
import Derived.Test.YteajlfgbmefncaaGreatDoorM28
import Derived.Test.YteajlfgbmefncaaGreatDoorM7
import Derived.Test.YteajlfgbmefncaaGreatDoorM9
import Derived.Test.YteajlfgbmefncaaGreatDoorM43
import Derived.Test.YteajlfgbmefncaaGreatDoorM0
import Derived.Test.YteajlfgbmefncaaGreatDoorM6
import Derived.Test.YteajlfgbmefncaaGreatDoorChecked
import Derived.OpenShut
import Derived.ProofKit
import Derived.Lib.SmallJoins
import Derived.Lib.ItoaMem
import Derived.Lib.SlicesS
import Derived.Deep.Cut
import Derived.Deep.DeepCutAuto
import Derived.BigQuiet
import Derived.Deep.QuietTactic
import Derived.Deep.RegionLaw
import Derived.Deep.RegionHeldLaw
import Derived.Deep.AppendLies
import Derived.Laws.AppendOwn
import Derived.OwnWalk
import Derived.Maps.AppendAt
import Derived.Lib.Hide
namespace Go.Proofs.YteajlfgbmefncaaGreatDoor
set_option linter.unusedVariables false
open Go.ChangeShapes Go.WideShapes Go.ChangeAt Go.RowKit

/-- what the program's Decode answers, parted -/
def DkR (s : SC) (t : Int) (zs : List Int) (w' : World) (v : Value) (ee : Int) : Prop :=
  (¬ GoodM s t ∧ v = .nilIface ∧ ee = 1) ∨ (GoodM s t ∧ 4096 < zs.length ∧ v = .nilIface ∧ ee = 4) ∨
    (GoodM s t ∧ zs.length ≤ 4096 ∧ ((∃ er, er ≠ 0 ∧ decM s.ms 16 t zs = .error er ∧ v = .nilIface ∧ ee = er) ∨ ∃ x, decM s.ms 16 t zs = .ok x ∧ ee = 0 ∧ HeldV w' (fun b => b < w'.heap.size) 16 v (normN s.ms 16 x)))
theorem dk_of {s : SC} {t : Int} {zs : List Int} {w : World} {e : Ending} {w' : World} (h : DcAns s t zs w e w') : ∃ v ee, e = .returned (.tuple #[v, .int .i64 ee]) ∧ DkR s t zs w' v ee ∧ Below w.heap.size w w' := by
  obtain ⟨⟨hg, h1⟩ | ⟨hg, hl, h1⟩ | ⟨hg, hl, ⟨er, h0, hm, h1⟩ | ⟨x, v, hx, he, hv⟩⟩, h3⟩ := h
  · exact ⟨_, _, h1, .inl ⟨hg, rfl, rfl⟩, h3⟩
  · exact ⟨_, _, h1, .inr (.inl ⟨hg, hl, rfl, rfl⟩), h3⟩
  · exact ⟨_, _, h1, .inr (.inr ⟨hg, hl, .inl ⟨er, h0, hm, rfl, rfl⟩⟩), h3⟩
  · exact ⟨v, 0, he, .inr (.inr ⟨hg, hl, .inr ⟨x, hx, rfl, hv.mv (fun _ _ => rfl) (fun b hb => hb.2)⟩⟩), h3⟩
/-- the two answers together -/
def DbR (W : World) (v : Value) (ee : Int) (row : List Value) (er : Int) : Prop :=
  (er ≠ 0 ∧ v = .nilIface ∧ ee = er) ∨ (er = 0 ∧ ee = 0 ∧ ∃ y fsr, HeldV W (fun b => b < W.heap.size) 16 v y ∧ y.kind = 7 ∧ FitG 100000 10000 16 y ∧ row = clS.row y fsr ∧ HeldG clS W (fun b => b < W.heap.size) 16 fsr y.fields)
theorem db_both {s : SC} {t : Int} {zs : List Int} {W1 W2 : World} {v : Value} {ee : Int} {e : Ending} (hf : FitS s) (hb : IsBs zs) (h1 : DkR s t zs W1 v ee) (h2 : DrAns s t zs W1 e W2) :
    ∃ (a0 a1 a2 : Int) (a3 : Bool) (a4 : ByteArray) (a5 : Int) (sa : Option Addr) (sl sc : Nat) (er : Int), e = .returned (.tuple #[.agg #[.int .i64 a0, .int .i64 a1, .int .u64 a2, .bool a3, .string a4, .int .i64 a5, .slice sa sl sc], .int .i64 er]) ∧
      DbR W2 v ee [.int .i64 a0, .int .i64 a1, .int .u64 a2, .bool a3, .string a4, .int .i64 a5, .slice sa sl sc] er ∧ Below W1.heap.size W1 W2 := by
  rcases h2 with ⟨hg2, h2⟩ | ⟨hg2, hl2, h2⟩ | ⟨hg2, hl2, h2⟩
  · obtain ⟨a0, a1, a2, a3, a4, a5, sa, sl, sc, er, he, ⟨hx, rfl⟩, hbe⟩ := h2
    refine ⟨a0, a1, a2, a3, a4, a5, sa, sl, sc, 1, he, .inl ?_, hbe⟩
    rcases h1 with ⟨_, hv, hee⟩ | ⟨hg, _⟩ | ⟨hg, _⟩
    · exact ⟨by decide, hv, hee⟩
    · exact absurd hg hg2
    · exact absurd hg hg2
  · obtain ⟨a0, a1, a2, a3, a4, a5, sa, sl, sc, er, he, ⟨hx, rfl⟩, hbe⟩ := h2
    refine ⟨a0, a1, a2, a3, a4, a5, sa, sl, sc, 4, he, .inl ?_, hbe⟩
    rcases h1 with ⟨hg, _⟩ | ⟨_, _, hv, hee⟩ | ⟨_, hl, _⟩
    · exact absurd hg2 hg
    · exact ⟨by decide, hv, hee⟩
    · omega
  · have hK := kindOK_of hf hg2.1
    have hsm := fun x => decM_small hK (fun m hm => by have := fieldsLen_of hg2.1 m hm; omega) 16 t zs x hg2.2.1 hg2.2.2 hb (by omega)
    rw [decR_eq hK 16 t zs hg2.2.1 hg2.2.2 hb] at h2
    rcases h1 with ⟨hg, _⟩ | ⟨_, hl, _⟩ | ⟨_, _, ⟨er0, h0, hm, hv, hee⟩ | ⟨x, hx, hee, hv⟩⟩
    · exact absurd hg2 hg
    · omega
    · rw [hm] at h2
      obtain ⟨a0, a1, a2, a3, a4, a5, sa, sl, sc, er, he, ⟨hx, rfl⟩, hbe⟩ := h2
      exact ⟨a0, a1, a2, a3, a4, a5, sa, sl, sc, _, he, .inl ⟨h0, hv, hee⟩, hbe⟩
    · rw [hx] at h2
      obtain ⟨a0, a1, a2, a3, a4, a5, sa, sl, sc, er, he, ⟨rfl, h7, fsr, hrow, hh⟩, hbe⟩ := h2
      exact ⟨a0, a1, a2, a3, a4, a5, sa, sl, sc, 0, he, .inr ⟨rfl, hee, _, fsr, hv.mv (fun b hb => hbe.block b hb) (fun b hb => by have hb' : b < W1.heap.size := hb; have := hbe.size; omega), h7, norm_fitG _ 16 x (hsm x hx).1, hrow, HeldG.mv (fun _ _ => rfl) (fun b hb => hb.2) hh⟩, hbe⟩
set_option maxHeartbeats 32000000 in
set_option maxRecDepth 20000 in
theorem decodeBytes_any (ma ea ta : Option Addr) (nm ne nt mc ec tc : Nat) (s : SC) (t : Int) (a : Option Addr) (c : Nat) (zs : List Int) (w : World) (hT : Tabs w) (hnm : s.ms.length = nm) (hne : s.es.length = ne) (hnt : s.ts.length = nt) (hbig : BigS s) (hH : HeldSc w (fun b => b < w.heap.size) (.slice ma nm mc) (.slice ea ne ec) (.slice ta nt tc) s) (hB : BIn w (fun b => b < w.heap.size) a c zs) :
    Calls Tryz.prog 3 #[.agg #[.slice ma nm mc, .slice ea ne ec, .slice ta nt tc], .int .i64 t, .slice a zs.length c] w fun e w' => e = .returned (.bool true) ∧ Below w.heap.size w w' := by
  obtain ⟨V, hV, hC, hb, hVs⟩ := box_new w #[.slice ma nm mc, .slice ea ne ec, .slice ta nt tc] 26
  have HV := Lib.hid hV
  have HWB : Hid (∀ W, Below V.heap.size V W → Below w.heap.size w W) := fun W hW => hb.trans (hW.mono hb.size)
  have HA : Hid (∀ W, Below V.heap.size V W → Calls Tryz.prog 5 #[] W fun e w' => e = .returned (.bool true) ∧ Below V.heap.size V w') := fun W hW => (awake11_any W (tabs_below hT (HWB.out W hW))).mono fun e w' ⟨h1, h2⟩ => ⟨h1, hW.trans (h2.mono hW.size)⟩
  have HSM : Hid (∀ W, Below V.heap.size V W → Calls Tryz.prog 6 #[.agg #[.slice ma nm mc, .slice ea ne ec, .slice ta nt tc]] W fun e w' => SmAns s W e w') := fun W hW => smallS_any ma ea ta nm ne nt mc ec tc s W hnm hne hnt hbig (heldSc_mv hH (HWB.out W hW))
  have HZB : Hid (IsBs zs) := fun z hz => isB_bytes hB.isB z hz
  have HD1 : Hid (SmS s → ∀ W, Below V.heap.size V W → Calls Tryz.prog 7 #[.agg #[.slice ma nm mc, .slice ea ne ec, .slice ta nt tc], .int .i64 t, .slice a zs.length c] W fun e w' => ∃ v ee, e = .returned (.tuple #[v, .int .i64 ee]) ∧ DkR s t zs w' v ee ∧ Below W.heap.size W w') := by
    refine (?_ : _ → ∀ W, _ → _)
    intro hs W hW
    have hw := HWB.out W hW
    have hB2 : BIn W (fun b => b < W.heap.size) a c zs := hB.mv (fun b hb => hw.block b hb) (fun b hb => by have hb' : b < w.heap.size := hb; have := hw.size; omega)
    exact (decodeP_any ma ea ta nm ne nt mc ec tc s t a zs.length c zs W (tabs_below hT hw) hnm hne hnt (fitS_ofC hs) (heldSc_mv hH hw) hB2.isB hB2.2.2.2.1 hB2.2.2.2.2 (fun _ => valC_of (tabs_below hT hw))).mono fun e w' h => dk_of h
  have HD2 : Hid (SmS s → ∀ W, Below V.heap.size V W → Calls Tryz.prog 8 #[.agg #[.slice ma nm mc, .slice ea ne ec, .slice ta nt tc], .int .i64 t, .slice a zs.length c] W fun e w' => DrAns s t zs W e w') := by
    refine (?_ : _ → ∀ W, _ → _)
    intro hs W hW
    have hw := HWB.out W hW
    have hB2 : BIn W (fun b => b < W.heap.size) a c zs := hB.mv (fun b hb => hw.block b hb) (fun b hb => by have hb' : b < w.heap.size := hb; have := hw.size; omega)
    exact decodeD_any ma ea ta nm ne nt mc ec tc s t a zs.length c zs W (tabs_below hT hw) hnm hne hnt (fitS_ofC hs) (heldSc_mv hH hw) (bin_slS hB2) hB2.2.2.2.2 (fun _ => valC_of (tabs_below hT hw))
  have s0 : ∀ W, Below V.heap.size V W → W.cell? ⟨w.heap.size, 0, none⟩ = some (.slice ma nm mc) := fun W hW => (hW.cell (by simp; omega)).trans (cell_at hC 0 rfl)
  have s1 : ∀ W, Below V.heap.size V W → W.cell? ⟨w.heap.size, 1, none⟩ = some (.slice ea ne ec) := fun W hW => (hW.cell (by simp; omega)).trans (cell_at hC 1 rfl)
  have s2 : ∀ W, Below V.heap.size V W → W.cell? ⟨w.heap.size, 2, none⟩ = some (.slice ta nt tc) := fun W hW => (hW.cell (by simp; omega)).trans (cell_at hC 2 rfl)
  have hS0 : Below V.heap.size V V := Below.refl _ _
  clear hV hC hb hVs hH hB hbig hnm hne hnt hT
  go_enter Tryz.func3, Tryz.ntmps3
  go_upto_region 1 with fail
  rw [HV.out]
  go_wp2_with fail
  refine (HA.out _ hS0).mono ?_
  rintro e W1 ⟨rfl, hS1⟩
  clear hS0
  have b0 := s0 W1 hS1
  have b1 := s1 W1 hS1
  have b2 := s2 W1 hS1
  have hsm := HSM.out W1 hS1
  go_wp2_with fail
  refine hsm.mono ?_
  rintro e W2 ⟨b, rfl, hsb, hb2⟩
  have hS0 := hS1.trans (hb2.mono hS1.size)
  have HSB := Lib.hid hsb
  clear hS1 hsm hsb hb2 b0 b1 b2
  cases b
  case false =>
    go_wp2_with fail
    refine (HA.out _ hS0).mono ?_
    rintro e W3 ⟨rfl, hS1⟩
    have HE := Lib.hid (HWB.out _ hS1)
    go_wp2_with fail
    go_ret
    exact ⟨rfl, HE.out⟩
  have hss := HSB.out rfl
  by_cases hl5 : zs.length ≤ 5000
  case neg =>
    have hl6 : (5000 : Int) < (zs.length : Int) := by omega
    go_wp2_with fail
    refine (HA.out _ hS0).mono ?_
    rintro e W3 ⟨rfl, hS1⟩
    have HE := Lib.hid (HWB.out _ hS1)
    go_wp2_with fail
    go_ret
    exact ⟨rfl, HE.out⟩
  have hl6 : ¬ (5000 : Int) < (zs.length : Int) := by omega
  have HDD := Lib.hid (HD2.out hss)
  have HSS := Lib.hid hss
  have hd1 := HD1.out hss W2 hS0
  have b0 := s0 W2 hS0
  have b1 := s1 W2 hS0
  have b2 := s2 W2 hS0
  clear HA HSM HD1 HD2 hss HSB hl5
  go_wp2_with fail
  refine hd1.mono ?_
  rintro e U1 ⟨v, ee, rfl, hk, hb1⟩
  have hS1 := hS0.trans (hb1.mono hS0.size)
  have HK := Lib.hid hk
  have hd2 := HDD.out U1 hS1
  clear hd1 hb1 hS0 b0 b1 b2 hl6 hk HDD
  have b0 := s0 U1 hS1
  have b1 := s1 U1 hS1
  have b2 := s2 U1 hS1
  go_wp2_with fail
  refine hd2.mono ?_
  intro e U2 hans
  obtain ⟨a0, a1, a2, a3, a4, a5, sa, sl, sc, er, rfl, hor, hb2⟩ := db_both (fitS_ofC HSS.out) HZB.out HK.out hans
  have hS0 := hS1.trans (hb2.mono hS1.size)
  have HOR := Lib.hid hor
  clear hd2 hans hor hb2 hS1 b0 b1 b2 HK
  obtain ⟨Q, hQ, hQC, hQb, hQs⟩ := box_new U2 #[.int .i64 a0, .int .i64 a1, .int .u64 a2, .bool a3, .string a4, .int .i64 a5, .slice sa sl sc] 38
  have HQ := Lib.hid hQ
  have HQC := Lib.hid hQC
  have HQB := Lib.hid hQb
  have HSQ := Lib.hid (hS0.trans (hQb.mono hS0.size))
  have HQS : Hid (U2.heap.size + 1 = Q.heap.size) := hQs.symm
  clear hQ hQC hQb hQs
  go_upto_region 5 with fail
  rw [HQ.out]
  rcases HOR.out with ⟨hx, rfl, rfl⟩ | ⟨rfl, rfl, y, fsr, hv, h7, hfit, hrow, hh⟩
  · have hE2 : (ee == 0) = false := by simp [hx]
    have hE3 : (ee != 0) = true := by simp [hx]
    have HE := Lib.hid (HWB.out _ HSQ.out)
    clear hx hS0
    go_wp2_with fail
    go_ret
    exact ⟨by simp, HE.out⟩
  · have HVV := Lib.hid hv
    have HFIT := Lib.hid hfit
    have HROW := Lib.hid hrow
    have HHH := Lib.hid hh
    have H7 := Lib.hid h7
    have hvq : ∀ W, Below Q.heap.size Q W → HeldV W (fun b => b < W.heap.size) 16 v y := fun W hW => HVV.out.mv (fun b hb => (hW.block b (by have hb' : b < U2.heap.size := hb; have := HQS.out; omega)).trans (HQB.out.block b hb)) (fun b hb => by have hb' : b < U2.heap.size := hb; have := HQS.out; have := hW.size; omega)
    have HOU : Hid (∀ W, Below Q.heap.size Q W → Calls Tryz.prog 10 #[v] W fun e w' => OurAns 16 W y e w') := fun W hW => oursN_any 16 y v W HFIT.out (hvq W hW)
    have HGQ : Hid (∀ W, Below Q.heap.size Q W → HeldG clS W (fun b => b < W.heap.size) 16 fsr y.fields) := fun W hW => HeldG.mv (fun b hb => (hW.block b (by have hb' : b < U2.heap.size := hb; have := HQS.out; omega)).trans (HQB.out.block b hb)) (fun b hb => by have hb' : b < U2.heap.size := hb; have := HQS.out; have := hW.size; omega) HHH.out
    have HCL : Hid (∀ W, Below Q.heap.size Q W → W.cell? ⟨U2.heap.size, 0, none⟩ = some (.int .i64 a0) ∧ W.cell? ⟨U2.heap.size, 1, none⟩ = some (.int .i64 a1) ∧ W.cell? ⟨U2.heap.size, 2, none⟩ = some (.int .u64 a2) ∧ W.cell? ⟨U2.heap.size, 3, none⟩ = some (.bool a3) ∧ W.cell? ⟨U2.heap.size, 4, none⟩ = some (.string a4) ∧ W.cell? ⟨U2.heap.size, 5, none⟩ = some (.int .i64 a5) ∧ W.cell? ⟨U2.heap.size, 6, none⟩ = some (.slice sa sl sc)) := by
      refine (?_ : ∀ W, _ → _)
      intro W hW
      have h4 := (hW.block U2.heap.size (by have := HQS.out; omega)).trans HQC.out
      exact ⟨cell_at h4 0 rfl, cell_at h4 1 rfl, cell_at h4 2 rfl, cell_at h4 3 rfl, cell_at h4 4 rfl, cell_at h4 5 rfl, cell_at h4 6 rfl⟩
    clear hv h7 hfit hrow hh hvq hS0 HOR
    go_upto_region 7 with fail
    have hS0 : Below Q.heap.size Q Q.drew := (Below.refl _ _).drew
    refine wp_region_held_drew (S := fun W => Below Q.heap.size Q W) (by kernel_rfl) hS0 (fun _ => ?_)
    refine T_on 0 (.int .i64 0) rfl (by kernel_rfl) (fun _ _ _ h => h) hS0 (fun W hW => by go_simp) ?_
    refine T_on 1 (.int .i64 0) rfl (by kernel_rfl) (fun _ _ _ h => h) hS0 (fun W hW => by go_simp) ?_
    refine T_on 2 (.bool true) rfl (by kernel_rfl) (fun _ _ _ h => h) hS0 (fun W hW => by go_simp) ?_
    refine T_on 3 (.bool true) rfl (by kernel_rfl) (fun _ _ _ h => h) hS0 (fun W hW => by go_simp) ?_
    refine T_on 4 v rfl (by kernel_rfl) (fun _ _ _ h => h) hS0 (fun W hW => by go_simp) ?_
    refine T_on 6 (.agg #[.int .i64 a0, .int .i64 a1, .int .u64 a2, .bool a3, .string a4, .int .i64 a5, .slice sa sl sc]) rfl (by kernel_rfl) (fun _ _ _ h => h) hS0 (fun W hW => by obtain ⟨c0, c1, c2, c3, c4, c5, c6⟩ := HCL.out W hW; go_simp) ?_
    refine T_call 5 (by kernel_rfl) rfl (fun K' hK' => ?_)
    go_simp
    refine (HOU.out _ hS0).mono ?_
    rintro e U3 ⟨o0, o1, o2, o3, o4, o5, oa, ol, oc, of, rfl, orow, ohg, hb3⟩
    have hS1 : Below Q.heap.size Q U3 := hS0.trans (hb3.mono hS0.size)
    have hsame := sameO_any 16 y U3 o0 o1 o2 o3 o4 o5 oa ol oc of a0 a1 a2 a3 a4 a5 sa sl sc fsr H7.out HFIT.out orow (HeldG.mv (fun _ _ => rfl) (fun b hb => hb.2) (ohg H7.out)) HROW.out (HGQ.out U3 hS1)
    clear orow ohg hb3 hS0 HOU HVV
    dsimp only
    refine hK'.out _ _ hS1 (fun _ => ?_)
    clear hK' K'
    refine T_call 7 (by kernel_rfl) rfl (fun K' hK' => ?_)
    go_simp
    refine hsame.mono ?_
    rintro e U4 ⟨rfl, hb4⟩
    have hS0 : Below Q.heap.size Q U4 := hS1.trans (hb4.mono hS1.size)
    clear hb4 hS1 hsame
    dsimp only
    refine hK'.out _ _ hS0 (fun _ => ?_)
    clear hK' K'
    refine T_on 8 (.bool true) rfl (by kernel_rfl) (fun _ _ _ h => h) hS0 (fun W hW => by go_simp) ?_
    refine T_on 9 (.bool true) rfl (by kernel_rfl) (fun _ _ _ h => h) hS0 (fun W hW => by go_simp) ?_
    refine wpAnyH_done (by kernel_rfl) ?_ _
    go_simp
    have HE := Lib.hid (HWB.out _ (HSQ.out.trans (hS0.mono HSQ.out.size)))
    go_wp2_with fail
    go_ret
    exact ⟨rfl, HE.out⟩
end Go.Proofs.YteajlfgbmefncaaGreatDoor
namespace Go.Proofs.YteajlfgbmefncaaGreatDoor
set_option linter.unusedVariables false
open Go.ChangeShapes Go.WideShapes Go.ChangeAt Go.RowKit Go.Joins

/-- no text and no list of it is too long -/
def Wok2 {H : Type} (d : DataW H) (t : TypeId) : Prop := ∀ n ∈ DataW.weights Tryz.prog t d, n ≤ 140737488351232
theorem wok_all {H : Type} {e : TypeId} : ∀ {l : List (DataW H)} {d : DataW H}, d ∈ l → (∀ n ∈ DataW.weightsAll Tryz.prog e l, n ≤ 140737488351232) → Wok2 d e
  | x :: r, d, hd, h => by
    rw [DataW.weightsAll] at h
    rcases List.mem_cons.1 hd with rfl | hd
    · exact fun n hn => h n (List.mem_append_left _ hn)
    · exact wok_all hd (fun n hn => h n (List.mem_append_right _ hn))
theorem wok_slice {H : Type} {t e : TypeId} {elems spare : List (DataW H)} (ht : Tryz.prog.underlying t = some (.slice e)) (h : Wok2 (.slice elems spare) t) :
    (elems.length + spare.length) * Tryz.prog.bytesOf e ≤ 140737488351232 ∧ ∀ d ∈ elems, Wok2 d e := by
  unfold Wok2 at h
  rw [DataW.weights, ht] at h
  simp only at h
  refine ⟨h _ List.mem_cons_self, fun d hd => wok_all hd fun n hn => h n (List.mem_cons_of_mem _ (List.mem_append_left _ hn))⟩
theorem wok_string {H : Type} {t : TypeId} {l : List UInt8} (h : Wok2 (H := H) (.lit (.string l)) t) : l.length ≤ 140737488351232 := h _ (by rw [DataW.weights]; exact List.mem_singleton.2 rfl)
theorem wok_each {H : Type} : ∀ {ts : List TypeId} {l : List (DataW H)}, (∀ n ∈ DataW.weightsEach Tryz.prog ts l, n ≤ 140737488351232) → ∀ (i : Nat) (t : TypeId) (d : DataW H), ts[i]? = some t → l[i]? = some d → Wok2 d t
  | t0 :: ts, d0 :: l, h, 0, t, d, h1, h2 => by
    have e1 : t0 = t := by simpa using h1
    have e2 : d0 = d := by simpa using h2
    subst e1 e2
    rw [DataW.weightsEach] at h
    exact fun n hn => h n (List.mem_append_left _ hn)
  | t0 :: ts, d0 :: l, h, i + 1, t, d, h1, h2 => by
    rw [DataW.weightsEach] at h
    exact wok_each (ts := ts) (l := l) (fun n hn => h n (List.mem_append_right _ hn)) i t d (by simpa using h1) (by simpa using h2)
  | [], l, h, i, t, d, h1, h2 => by simp at h1
  | t0 :: ts, [], h, i, t, d, h1, h2 => by simp at h2
theorem wok_struct {H : Type} {t : TypeId} {fs : Array Field} {parts : List (DataW H)} (ht : Tryz.prog.underlying t = some (.struct fs)) (h : Wok2 (.agg parts) t) (i : Nat) (f : Field) (d : DataW H) (hf : fs[i]? = some f) (hd : parts[i]? = some d) : Wok2 d f.type := by
  unfold Wok2 at h
  rw [DataW.weights, ht] at h
  simp only at h
  refine wok_each h i f.type d ?_ hd
  rw [List.getElem?_map, Array.getElem?_toList, hf]; rfl
theorem list_choiceD {α : Type} {P : Nat → α → Prop} : ∀ n : Nat, (∀ k, k < n → ∃ f, P k f) → ∃ fs : List α, fs.length = n ∧ ∀ k f, fs[k]? = some f → P k f
  | 0, _ => ⟨[], rfl, fun k f h => by simp at h⟩
  | n + 1, h => by
    obtain ⟨fs, hl, hP⟩ := list_choiceD n (fun k hk => h k (by omega))
    obtain ⟨f, hf⟩ := h n (by omega)
    refine ⟨fs ++ [f], by simp [hl], fun k g hg => ?_⟩
    by_cases hk : k < n
    · rw [List.getElem?_append_left (by omega)] at hg
      exact hP k g hg
    · have hlt := (List.getElem?_eq_some_iff.1 hg).1
      rw [List.length_append, List.length_singleton] at hlt
      obtain rfl : k = n := by omega
      rw [List.getElem?_append_right (by omega), hl, Nat.sub_self] at hg
      simp at hg
      subst hg
      exact hf
theorem cell_ltD {w : World} {g o : Nat} {v : Value} (h : w.cell? ⟨g, o, none⟩ = some v) : g < w.heap.size := by
  by_cases hl : g < w.heap.size
  · exact hl
  · have : w.heap[g]? = none := Array.getElem?_eq_none (by omega)
    simp [World.cell?, this] at h
/-- a slice whose elements are read as rows -/
theorem slice_rows {H : Type} {enc : TypeId × Value → H} {W : World} {α : Type} (T E : TypeId) (k : Nat) (row : α → List Value) (fit : α → Prop) (hT : Tryz.prog.underlying T = some (.slice E)) (hk : Tryz.prog.cellsOf E = k) (hk1 : 1 ≤ k) (hrl : ∀ x, (row x).length = k) (hby : 1 ≤ Tryz.prog.bytesOf E)
    {fuel : Nat} {cs : List Value} {y : DataW H × List MemPlace} (helem : ∀ n, fuel = n + 1 → ∀ cs y, DataW.trod enc Tryz.prog W 0 (fun _ => true) true n E cs = some y → Wok2 y.1 E → ∃ x, cs = row x ∧ fit x)
    (h : DataW.trod enc Tryz.prog W 0 (fun _ => true) true fuel T cs = some y) (hw : Wok2 y.1 T) :
    ∃ v xs, cs = [v] ∧ RowsIn W (fun b => b < W.heap.size) k row v xs ∧ xs.length ≤ 140737488355328 ∧ ∀ x ∈ xs, fit x := by
  rcases DataW.trod_slice hT h with ⟨hcs, hd⟩ | ⟨x, l, c, elems, rest, m, hm, hcs, hd, hb, hl, hmx, hlen, hel, hsp, _⟩
  · exact ⟨_, [], hcs, RowsIn.nil _ _ _ _ _ _, by simp, fun x hx => by cases hx⟩
  · subst hd
    obtain ⟨hbytes, hparts⟩ := wok_slice hT hw
    have hcount : elems.length ≤ 140737488355328 := by
      rw [List.length_map, List.length_map] at hbytes
      have h2 : elems.length * 1 ≤ (elems.length + rest.length) * Tryz.prog.bytesOf E := Nat.mul_le_mul (by omega) hby
      omega
    rw [hk] at hel
    have hP : ∀ i, i < l → ∃ a : α, fit a ∧ ∃ cs, W.cells? 0 (x.add (i * k)) k = some cs ∧ cs = row a := fun i hi => by
      have h1 := hel i hi
      obtain ⟨yy, hy⟩ : ∃ yy, elems[i]? = some yy := ⟨_, List.getElem?_eq_getElem (by omega)⟩
      rw [hy] at h1
      obtain ⟨cs1, hcs1, htr⟩ := Option.bind_eq_some_iff.1 h1
      obtain ⟨a, ha, hf⟩ := helem m hm cs1 yy htr (hparts yy.1 (List.mem_map.2 ⟨yy, List.mem_of_getElem? hy, rfl⟩))
      exact ⟨a, hf, cs1, hcs1, ha⟩
    obtain ⟨zs, hal, hap⟩ := list_choiceD (P := fun i a => fit a ∧ ∃ cs, W.cells? 0 (x.add (i * k)) k = some cs ∧ cs = row a) l hP
    refine ⟨_, zs, hcs, ⟨some x, c, by rw [hal], by omega, ?_⟩, by omega, fun a ha => ?_⟩
    · by_cases hz : zs = []
      · exact .inl hz
      · right
        have hpos := List.length_pos_iff.2 hz
        obtain ⟨g, off, spot⟩ := x
        obtain ⟨a0, ha0⟩ : ∃ a, zs[0]? = some a := ⟨_, List.getElem?_eq_getElem (by omega)⟩
        obtain ⟨_, cs0, hcs0, hr0⟩ := hap 0 a0 ha0
        have hc0 := (World.cells?_some hcs0).2.2 0 (by omega)
        have hr1 : cs0[0]? = some (cs0[0]'(by rw [hr0, hrl]; omega)) := List.getElem?_eq_getElem _
        rw [hr1] at hc0
        have hspot : spot = none := by
          have h3 := World.cell?_spot hc0
          simpa [Addr.add] using h3
        subst hspot
        refine ⟨g, off, rfl, ?_, fun j a hj i u hu => ?_⟩
        · have e : ((Addr.mk g off none).add (0 * k)).add 0 = ⟨g, off, none⟩ := by simp [Addr.add]
          rw [e] at hc0
          exact cell_ltD hc0
        · obtain ⟨_, cs1, hcs1, hr1⟩ := hap j a hj
          have hi : i < k := by
            have := (List.getElem?_eq_some_iff.1 hu).1
            rw [hrl] at this; exact this
          have h3 := (World.cells?_some hcs1).2.2 i hi
          rw [hr1, hu] at h3
          have e : ((Addr.mk g off none).add (j * k)).add i = ⟨g, off + (j * k + i), none⟩ := by rw [Lib.add_plain, Lib.add_plain, Nat.add_assoc]
          rw [e] at h3
          exact h3
    · obtain ⟨i, hi⟩ := List.getElem?_of_mem ha
      exact (hap i a hi).1
set_option maxRecDepth 100000 in
theorem trodS3 {H : Type} {enc : TypeId × Value → H} {W : World} {t : TypeId} {f0 f1 f2 : Field} {fuel : Nat} {cs : List Value} {y : DataW H × List MemPlace} (ht : Tryz.prog.underlying t = some (.struct #[f0, f1, f2])) (h : DataW.trod enc Tryz.prog W 0 (fun _ => true) true fuel t cs = some y) (hw : Wok2 y.1 t) :
    ∃ (y0 y1 y2 : DataW H × List MemPlace) (n : Nat), fuel = n + 1 ∧ cs.length = Tryz.prog.cellsOf t ∧ (DataW.trod enc Tryz.prog W 0 (fun _ => true) true n f0.type ((cs.drop f0.offset).take (Tryz.prog.cellsOf f0.type)) = some y0 ∧ Wok2 y0.1 f0.type) ∧ (DataW.trod enc Tryz.prog W 0 (fun _ => true) true n f1.type ((cs.drop f1.offset).take (Tryz.prog.cellsOf f1.type)) = some y1 ∧ Wok2 y1.1 f1.type) ∧ (DataW.trod enc Tryz.prog W 0 (fun _ => true) true n f2.type ((cs.drop f2.offset).take (Tryz.prog.cellsOf f2.type)) = some y2 ∧ Wok2 y2.1 f2.type) := by
  obtain ⟨xs, n, hn, rfl, hl, hlen, hf⟩ := DataW.trod_struct ht h
  match xs, hlen with
  | [y0, y1, y2], _ => exact ⟨y0, y1, y2, n, hn, hl, ⟨by simpa using hf 0 f0 rfl, wok_struct ht hw 0 f0 y0.1 rfl rfl⟩, ⟨by simpa using hf 1 f1 rfl, wok_struct ht hw 1 f1 y1.1 rfl rfl⟩, ⟨by simpa using hf 2 f2 rfl, wok_struct ht hw 2 f2 y2.1 rfl rfl⟩⟩
set_option maxRecDepth 100000 in
theorem trodS5 {H : Type} {enc : TypeId × Value → H} {W : World} {t : TypeId} {f0 f1 f2 f3 f4 : Field} {fuel : Nat} {cs : List Value} {y : DataW H × List MemPlace} (ht : Tryz.prog.underlying t = some (.struct #[f0, f1, f2, f3, f4])) (h : DataW.trod enc Tryz.prog W 0 (fun _ => true) true fuel t cs = some y) (hw : Wok2 y.1 t) :
    ∃ (y0 y1 y2 y3 y4 : DataW H × List MemPlace) (n : Nat), fuel = n + 1 ∧ cs.length = Tryz.prog.cellsOf t ∧ (DataW.trod enc Tryz.prog W 0 (fun _ => true) true n f0.type ((cs.drop f0.offset).take (Tryz.prog.cellsOf f0.type)) = some y0 ∧ Wok2 y0.1 f0.type) ∧ (DataW.trod enc Tryz.prog W 0 (fun _ => true) true n f1.type ((cs.drop f1.offset).take (Tryz.prog.cellsOf f1.type)) = some y1 ∧ Wok2 y1.1 f1.type) ∧ (DataW.trod enc Tryz.prog W 0 (fun _ => true) true n f2.type ((cs.drop f2.offset).take (Tryz.prog.cellsOf f2.type)) = some y2 ∧ Wok2 y2.1 f2.type) ∧ (DataW.trod enc Tryz.prog W 0 (fun _ => true) true n f3.type ((cs.drop f3.offset).take (Tryz.prog.cellsOf f3.type)) = some y3 ∧ Wok2 y3.1 f3.type) ∧ (DataW.trod enc Tryz.prog W 0 (fun _ => true) true n f4.type ((cs.drop f4.offset).take (Tryz.prog.cellsOf f4.type)) = some y4 ∧ Wok2 y4.1 f4.type) := by
  obtain ⟨xs, n, hn, rfl, hl, hlen, hf⟩ := DataW.trod_struct ht h
  match xs, hlen with
  | [y0, y1, y2, y3, y4], _ => exact ⟨y0, y1, y2, y3, y4, n, hn, hl, ⟨by simpa using hf 0 f0 rfl, wok_struct ht hw 0 f0 y0.1 rfl rfl⟩, ⟨by simpa using hf 1 f1 rfl, wok_struct ht hw 1 f1 y1.1 rfl rfl⟩, ⟨by simpa using hf 2 f2 rfl, wok_struct ht hw 2 f2 y2.1 rfl rfl⟩, ⟨by simpa using hf 3 f3 rfl, wok_struct ht hw 3 f3 y3.1 rfl rfl⟩, ⟨by simpa using hf 4 f4 rfl, wok_struct ht hw 4 f4 y4.1 rfl rfl⟩⟩
abbrev N47 : Nat := 140737488355328
theorem str_of_trod {H : Type} {enc : TypeId × Value → H} {W : World} {fuel : Nat} {cs : List Value} {y : DataW H × List MemPlace} (h : DataW.trod enc Tryz.prog W 0 (fun _ => true) true fuel 9 cs = some y) (hw : Wok2 y.1 9) : ∃ l : List UInt8, cs = [.string (mkB l)] ∧ l.length ≤ N47 := by
  obtain ⟨s, e, rfl, _⟩ := DataW.trod_string Tryz.underlying9 h
  exact ⟨s.data.toList, by rw [e, mkB_data], by have := wok_string hw; unfold N47; omega⟩
end Go.Proofs.YteajlfgbmefncaaGreatDoor
