/-
  The walk over the law DecodeBack.
  The walk over the law DecodeFits.
  Declarations that came in as an argument, of a size that a machine can hold: what their reading says. Nothing is proved of the program here.
-/
import Derived.Test.YtnopnjklcdcckaaGreatDoorM43
import Derived.Test.YtnopnjklcdcckaaGreatDoorM41
import Derived.Test.YtnopnjklcdcckaaGreatDoorM30
import Derived.Test.YtnopnjklcdcckaaGreatDoorM7
import Derived.Test.YtnopnjklcdcckaaGreatDoorM11
import Derived.Test.YtnopnjklcdcckaaGreatDoorM45
import Derived.Test.YtnopnjklcdcckaaGreatDoorM44
import Derived.Test.YtnopnjklcdcckaaGreatDoorM0
import Derived.Test.YtnopnjklcdcckaaGreatDoorProg
import Derived.Test.YtnopnjklcdcckaaGreatDoorM1
import Derived.Test.YtnopnjklcdcckaaGreatDoorChecked
import Derived.OpenShut
import Derived.ProofKit
import Derived.Lib.SmallJoins
import Derived.Lib.ItoaMem
import Derived.Lib.SlicesS
import Derived.Deep.Cut
import Derived.Deep.DeepCutAuto
import Derived.BigQuiet
import Derived.Deep.QuietTactic
import Derived.Deep.RegionLaw
import Derived.Deep.RegionHeldLaw
import Derived.Deep.AppendLies
import Derived.Laws.AppendOwn
import Derived.OwnWalk
import Derived.Maps.AppendAt
import Derived.Lib.Hide
namespace Go.Proofs.YtnopnjklcdcckaaGreatDoor
set_option linter.unusedVariables false
open Go.ChangeShapes Go.WideShapes Go.ChangeAt Go.RowKit

/-- what Decode answers of what was encoded -/
def BkAns (F : Nat) (z : Nd) (w0 w : World) (e : Ending) (w' : World) : Prop := ∃ v, e = .returned (.tuple #[v, .int .i64 0]) ∧ HeldV w' (fun b => b < w'.heap.size) F v z ∧ Below w0.heap.size w0 w' ∧ Below w.heap.size w w'
theorem bk_of {s : SC} {t : Int} {zs : List Int} {w0 w : World} {e : Ending} {w' : World} {z y : Nd} {F : Nat} (hF : 16 ≤ F) (hg : GoodM s t) (hl : zs.length ≤ 4096) (hz : decM s.ms 16 t zs = .ok z) (hn : normN s.ms 16 z = y) (h : DcAns s t zs w e w') (hb : Below w0.heap.size w0 w) : BkAns F y w0 w e w' := by
  obtain ⟨⟨h1, _⟩ | ⟨_, h1, _⟩ | ⟨_, _, ⟨er, _, h1, _⟩ | ⟨x, v, h1, he, hv⟩⟩, h3⟩ := h
  · exact absurd hg h1
  · omega
  · rw [hz] at h1; cases h1
  · rw [hz] at h1
    have e1 : z = x := by injection h1
    subst e1
    rw [hn] at hv
    exact ⟨v, he, heldV_upTo hF (hv.mv (fun _ _ => rfl) (fun b hb => hb.2)), hb.trans (h3.mono hb.size), h3⟩
end Go.Proofs.YtnopnjklcdcckaaGreatDoor
namespace Go.Proofs.YtnopnjklcdcckaaGreatDoor
set_option linter.unusedVariables false
open Go.ChangeShapes Go.WideShapes Go.ChangeAt Go.RowKit

/-- what Decode answers, in one form -/
def DfAns (s : SC) (t : Int) (zs : List Int) (w : World) (e : Ending) (w' : World) : Prop := ∃ v ee, e = .returned (.tuple #[v, .int .i64 ee]) ∧ ((ee ≠ 0 ∧ v = .nilIface) ∨ (ee = 0 ∧ ∃ y, DecY s t y ∧ HeldV w' (fun b => b < w'.heap.size) 16 v y)) ∧ Below w.heap.size w w'
theorem df_of {s : SC} (hf : FitS s) {t : Int} {zs : List Int} {w : World} {e : Ending} {w' : World} (hb : IsBs zs) (h : DcAns s t zs w e w') : DfAns s t zs w e w' := by
  obtain ⟨⟨_, h1⟩ | ⟨_, _, h1⟩ | ⟨hg, hl, ⟨er, h0, _, h1⟩ | ⟨x, v, hx, he, hv⟩⟩, h3⟩ := h
  · exact ⟨_, _, h1, .inl ⟨by decide, rfl⟩, h3⟩
  · exact ⟨_, _, h1, .inl ⟨by decide, rfl⟩, h3⟩
  · exact ⟨_, _, h1, .inl ⟨h0, rfl⟩, h3⟩
  · exact ⟨v, 0, he, .inr ⟨rfl, _, decY_of hf hg hb hl hx, hv.mv (fun _ _ => rfl) (fun b hb => hb.2)⟩, h3⟩
set_option maxHeartbeats 32000000 in
set_option maxRecDepth 20000 in
theorem decodeFits_any (ma ea ta : Option Addr) (nm ne nt mc ec tc : Nat) (s : SC) (t : Int) (a : Option Addr) (c : Nat) (zs : List Int) (w : World) (hT : Tabs w) (hnm : s.ms.length = nm) (hne : s.es.length = ne) (hnt : s.ts.length = nt) (hbig : BigS s) (hH : HeldSc w (fun b => b < w.heap.size) (.slice ma nm mc) (.slice ea ne ec) (.slice ta nt tc) s) (hB : BIn w (fun b => b < w.heap.size) a c zs) :
    Calls Tryz.prog 3 #[.agg #[.slice ma nm mc, .slice ea ne ec, .slice ta nt tc], .int .i64 t, .slice a zs.length c] w fun e w' => e = .returned (.bool true) ∧ Below w.heap.size w w' := by
  obtain ⟨V, hV, hC, hb, hVs⟩ := box_new w #[.slice ma nm mc, .slice ea ne ec, .slice ta nt tc] 26
  have HV := Lib.hid hV
  have HWB : Hid (∀ W, Below V.heap.size V W → Below w.heap.size w W) := fun W hW => hb.trans (hW.mono hb.size)
  have HA : Hid (∀ W, Below V.heap.size V W → Calls Tryz.prog 6 #[] W fun e w' => e = .returned (.bool true) ∧ Below V.heap.size V w') := fun W hW => (awake11_any W (tabs_below hT (HWB.out W hW))).mono fun e w' ⟨h1, h2⟩ => ⟨h1, hW.trans (h2.mono hW.size)⟩
  have HSM : Hid (∀ W, Below V.heap.size V W → Calls Tryz.prog 7 #[.agg #[.slice ma nm mc, .slice ea ne ec, .slice ta nt tc]] W fun e w' => SmAns s W e w') := fun W hW => smallS_any ma ea ta nm ne nt mc ec tc s W hnm hne hnt hbig (heldSc_mv hH (HWB.out W hW))
  have HNO : Hid (SmS s → ∀ (y : Nd) (W : World) (v : Value), FitG 100000 10000 16 y → Below V.heap.size V W → HeldV W (fun b => b < W.heap.size) 16 v y → Calls Tryz.prog 9 #[.agg #[.slice ma nm mc, .slice ea ne ec, .slice ta nt tc], .int .i64 t, v] W fun e w' => NmU s 16 t y W e w') := fun hs y W v hf hW hv => (normalP_any ma ea ta nm ne nt mc ec tc s 16 t W (tabs_below hT (HWB.out W hW)) hnm hne hnt (fitS_of hs) (heldSc_mv hH (HWB.out W hW)) v y hv hf).mono fun e w' h => nmU_of h (Below.refl _ _)
  have HFP : Hid (SmS s → ∀ (y : Nd) (W : World) (v : Value), FitG 100000 10000 16 y → Below V.heap.size V W → HeldV W (fun b => b < W.heap.size) 16 v y → Calls Tryz.prog 11 #[.agg #[.slice ma nm mc, .slice ea ne ec, .slice ta nt tc], .int .i64 t, v] W fun e w' => FvAns s 16 t y W e w') := fun hs y W v hf hW hv => fitsPV_any ma ea ta nm ne nt mc ec tc s 16 t W (tabs_below hT (HWB.out W hW)) hnm hne hnt (fitS_of hs) (heldSc_mv hH (HWB.out W hW)) v y hv hf
  have HEN : Hid (SmS s → ∀ (y : Nd) (W : World) (v : Value), DecY s t y → Below V.heap.size V W → HeldV W (fun b => b < W.heap.size) 16 v y → Calls Tryz.prog 12 #[.agg #[.slice ma nm mc, .slice ea ne ec, .slice ta nt tc], .int .i64 t, v] W fun e w' => EnU s 16 t y V W e w') := fun hs y W v hy hW hv => (encode_any ma ea ta nm ne nt mc ec tc s 16 t W (tabs_below hT (HWB.out W hW)) hnm hne hnt (fitS_of hs) (heldSc_mv hH (HWB.out W hW)) v y hv hy.fitG hy.rng hy.bnd).mono fun e w' h => enU_of h hW
  have HD1 : Hid (SmS s → ∀ W, Below V.heap.size V W → Calls Tryz.prog 8 #[.agg #[.slice ma nm mc, .slice ea ne ec, .slice ta nt tc], .int .i64 t, .slice a zs.length c] W fun e w' => DfAns s t zs W e w') := by
    refine (?_ : _ → ∀ W, _ → _)
    intro hs W hW
    have hw := HWB.out W hW
    have hB2 : BIn W (fun b => b < W.heap.size) a c zs := hB.mv (fun b hb => hw.block b hb) (fun b hb => by have hb' : b < w.heap.size := hb; have := hw.size; omega)
    exact (decodeP_any ma ea ta nm ne nt mc ec tc s t a zs.length c zs W (tabs_below hT hw) hnm hne hnt (fitS_of hs) (heldSc_mv hH hw) hB2.isB hB2.2.2.2.1 hB2.2.2.2.2 (fun _ => valC_of (tabs_below hT hw))).mono fun e w' h => df_of (fitS_of hs) (fun z hz => isB_bytes hB2.isB z hz) h
  have HDC : Hid (SmS s → ∀ (F : Nat) (z y : Nd) (zs : List Int) (a : Option Addr) (c : Nat) (W : World), 16 ≤ F → GoodM s t → zs.length ≤ 4096 → decM s.ms 16 t zs = .ok z → normN s.ms 16 z = y → Below V.heap.size V W → BIn W (fun b => b < W.heap.size) a c zs → Calls Tryz.prog 8 #[.agg #[.slice ma nm mc, .slice ea ne ec, .slice ta nt tc], .int .i64 t, .slice a zs.length c] W fun e w' => BkAns F y V W e w') := by
    refine (?_ : _ → ∀ (F : Nat) (z y : Nd) (zs : List Int) (a : Option Addr) (c : Nat) (W : World), _ → _ → _ → _ → _ → _ → _ → _)
    intro hs F z y zs a c W hF hg hl hz hn hW hB
    exact (decodeP_any ma ea ta nm ne nt mc ec tc s t a zs.length c zs W (tabs_below hT (HWB.out W hW)) hnm hne hnt (fitS_of hs) (heldSc_mv hH (HWB.out W hW)) hB.isB hB.2.2.2.1 hB.2.2.2.2 (fun _ => valC_of (tabs_below hT (HWB.out W hW)))).mono fun e w' h => bk_of hF hg hl hz hn h hW
  have s0 : ∀ W, Below V.heap.size V W → W.cell? ⟨w.heap.size, 0, none⟩ = some (.slice ma nm mc) := fun W hW => (hW.cell (by simp; omega)).trans (cell_at hC 0 rfl)
  have s1 : ∀ W, Below V.heap.size V W → W.cell? ⟨w.heap.size, 1, none⟩ = some (.slice ea ne ec) := fun W hW => (hW.cell (by simp; omega)).trans (cell_at hC 1 rfl)
  have s2 : ∀ W, Below V.heap.size V W → W.cell? ⟨w.heap.size, 2, none⟩ = some (.slice ta nt tc) := fun W hW => (hW.cell (by simp; omega)).trans (cell_at hC 2 rfl)
  have hS0 : Below V.heap.size V V := Below.refl _ _
  clear hV hC hb hVs hH hB hbig hnm hne hnt hT
  go_enter Tryz.func3, Tryz.ntmps3
  go_upto_region 1 with fail
  rw [HV.out]
  go_wp2_with fail
  refine (HA.out _ hS0).mono ?_
  rintro e W1 ⟨rfl, hS1⟩
  clear hS0
  have b0 := s0 W1 hS1
  have b1 := s1 W1 hS1
  have b2 := s2 W1 hS1
  have hsm := HSM.out W1 hS1
  go_wp2_with fail
  refine hsm.mono ?_
  rintro e W2 ⟨b, rfl, hsb, hb2⟩
  have hS0 := hS1.trans (hb2.mono hS1.size)
  have HSB := Lib.hid hsb
  clear hS1 hsm hsb hb2 b0 b1 b2
  cases b
  case false =>
    go_wp2_with fail
    refine (HA.out _ hS0).mono ?_
    rintro e W3 ⟨rfl, hS1⟩
    have HE := Lib.hid (HWB.out _ hS1)
    go_wp2_with fail
    go_ret
    exact ⟨rfl, HE.out⟩
  have hss := HSB.out rfl
  by_cases hl5 : zs.length ≤ 5000
  case neg =>
    have hl6 : (5000 : Int) < (zs.length : Int) := by omega
    go_wp2_with fail
    refine (HA.out _ hS0).mono ?_
    rintro e W3 ⟨rfl, hS1⟩
    have HE := Lib.hid (HWB.out _ hS1)
    go_wp2_with fail
    go_ret
    exact ⟨rfl, HE.out⟩
  have hl6 : ¬ (5000 : Int) < (zs.length : Int) := by omega
  have HNO2 := Lib.hid (HNO.out hss)
  have HFP2 := Lib.hid (HFP.out hss)
  have HEN2 := Lib.hid (HEN.out hss)
  have HDC2 := Lib.hid (HDC.out hss)
  have HSS := Lib.hid hss
  have hd1 := HD1.out hss W2 hS0
  have b0 := s0 W2 hS0
  have b1 := s1 W2 hS0
  have b2 := s2 W2 hS0
  clear HA HSM HNO HFP HEN HD1 HDC hss HSB hl5
  go_wp2_with fail
  refine hd1.mono ?_
  rintro e U1 ⟨v, ee, rfl, hor, hb1⟩
  have hS1 := hS0.trans (hb1.mono hS0.size)
  clear hd1 hb1 hS0 b0 b1 b2 hl6
  rcases hor with ⟨hne, rfl⟩ | ⟨rfl, y, hy, hv⟩
  · have hne0 : (ee == 0) = false := by simp; exact hne
    have HE := Lib.hid (HWB.out _ hS1)
    clear hne hS1 HNO2 HFP2 HEN2 HDC2
    go_wp2_with fail
    go_ret
    exact ⟨rfl, HE.out⟩
  have HY := Lib.hid hy
  have HV1 := Lib.hid hv
  have hno := HNO2.out y U1 v hy.fitG hS1 hv
  have b0 := s0 U1 hS1
  have b1 := s1 U1 hS1
  have b2 := s2 U1 hS1
  clear hy hv HNO2
  go_wp2_with fail
  refine hno.mono ?_
  rintro e U2 ⟨vv, ee, rfl, hor, hb2⟩
  obtain ⟨hee, hhv⟩ : ee = 0 ∧ HeldV U2 (fun b => b < U2.heap.size) 16 vv y := by
    rcases hor with ⟨hno, _⟩ | ⟨_, h2, hhv⟩
    · exact absurd HY.out.fit hno
    · rw [HY.out.norm] at hhv; exact ⟨h2, hhv⟩
  subst hee
  have hv2 : HeldV U2 (fun b => b < U2.heap.size) 16 v y := HV1.out.mv (fun b hb => hb2.block b hb) (fun b hb => by have hb' : b < U1.heap.size := hb; have := hb2.size; omega)
  have hS0 := hS1.trans (hb2.mono hS1.size)
  have hsv := sameV_any 16 y vv v U2 HY.out.fitG (by have := HY.out.seven; omega) (fun _ => HY.out.kt) hhv hv2
  have HV2 := Lib.hid hv2
  clear hno hor hb2 hhv hv2 hS1 b0 b1 b2 HV1
  go_wp2_with fail
  refine hsv.mono ?_
  rintro e U3 ⟨rfl, hb3⟩
  have hv3 : HeldV U3 (fun b => b < U3.heap.size) 16 v y := HV2.out.mv (fun b hb => hb3.block b hb) (fun b hb => by have hb' : b < U2.heap.size := hb; have := hb3.size; omega)
  have hS1 := hS0.trans (hb3.mono hS0.size)
  have hfp := HFP2.out y U3 v HY.out.fitG hS1 hv3
  have HV3 := Lib.hid hv3
  have b0 := s0 U3 hS1
  have b1 := s1 U3 hS1
  have b2 := s2 U3 hS1
  clear hsv hb3 hv3 hS0 HV2 HFP2
  go_wp2_with fail
  refine hfp.mono ?_
  rintro e U4 ⟨pb, rfl, hpb, hb4⟩
  have hpt : pb = true := hpb.2 HY.out.fit
  subst hpt
  have hv4 : HeldV U4 (fun b => b < U4.heap.size) 16 v y := HV3.out.mv (fun b hb => hb4.block b hb) (fun b hb => by have hb' : b < U3.heap.size := hb; have := hb4.size; omega)
  have hS0 := hS1.trans (hb4.mono hS1.size)
  have hen := HEN2.out y U4 v HY.out hS0 hv4
  have HV4 := Lib.hid hv4
  clear hfp hpb hb4 hv4 hS1 HV3 HEN2 b0 b1 b2
  have b0 := s0 U4 hS0
  have b1 := s1 U4 hS0
  have b2 := s2 U4 hS0
  go_wp2_with fail
  refine hen.mono ?_
  rintro e U5 ⟨ab, zb, cb, eb, rfl, hbi, hsp, hS1, hb5⟩
  obtain ⟨hzb, heb⟩ : zb = encLz s 16 y ∧ eb = encE s 16 y := by
    rcases hsp with ⟨h, _⟩ | ⟨_, h1, h2⟩
    · exact absurd HY.out.fit h
    · exact ⟨h1, h2⟩
  have hv5 : HeldV U5 (fun b => b < U5.heap.size) 16 v y := HV4.out.mv (fun b hb => hb5.block b hb) (fun b hb => by have hb' : b < U4.heap.size := hb; have := hb5.size; omega)
  have HV5 := Lib.hid hv5
  have HBI := Lib.hid hbi
  clear hen hsp hb5 hS0 hv5 hbi HV4 b0 b1 b2
  by_cases hl : (encB s 16 y).length ≤ 4096
  case neg =>
    have he4 : eb = 4 := by rw [heb]; unfold encE; rw [if_neg hl]
    have hz0 : zb = [] := by rw [hzb]; unfold encLz; rw [if_neg hl]
    subst he4 hz0
    have HE := Lib.hid (HWB.out _ hS1)
    clear hzb heb hl hS1 HBI
    go_wp2_with fail
    go_ret
    exact ⟨rfl, HE.out⟩
  have he0 : eb = 0 := by rw [heb]; unfold encE; rw [if_pos hl]
  have hz0 : zb = encB s 16 y := by rw [hzb]; unfold encLz; rw [if_pos hl]
  subst he0
  obtain ⟨F, z, hz, hF, hfF, hn, hfg, hkt, h7⟩ := back_all (fitS_of HSS.out) HY.out.fit HY.out.rng HY.out.bnd HY.out.dp HY.out.fitG hl
  rw [HY.out.norm] at hn hfg hkt h7
  rw [← hz0] at hz hl
  obtain ⟨y2, hy2⟩ : ∃ y2, dn 16 y = y2 := ⟨_, rfl⟩
  rw [hy2] at hn hfg hkt h7
  have hvd := heldV_upTo hfF (heldV_dn HV5.out)
  rw [hy2] at hvd
  have HVD := Lib.hid hvd
  have HFG := Lib.hid hfg
  have HKT := Lib.hid hkt
  have H7 := Lib.hid h7
  have hdc := HDC2.out F z y2 zb ab cb U5 hF ⟨HY.out.fit.1, HY.out.fit.2.1, HY.out.fit.2.2.1⟩ hl hz hn hS1 HBI.out
  have b0 := s0 U5 hS1
  have b1 := s1 U5 hS1
  have b2 := s2 U5 hS1
  clear hzb heb hz0 hz hF hfF hn hfg hkt h7 hy2 hvd HV5 HBI HDC2 hl hS1
  go_wp2_with fail
  refine hdc.mono ?_
  rintro e U6 ⟨v3, rfl, hv3, hS0, hb6⟩
  have hsv := sameV_any F y2 v3 v U6 HFG.out (by have := H7.out; omega) (fun _ => HKT.out) hv3 (HVD.out.mv (fun b hb => hb6.block b hb) (fun b hb => by have hb' : b < U5.heap.size := hb; have := hb6.size; omega))
  have HS6 := Lib.hid hS0
  clear hdc hv3 hb6 hS0 b0 b1 b2
  go_wp2_with fail
  refine hsv.mono ?_
  rintro e U7 ⟨rfl, hb7⟩
  have HE := Lib.hid (HWB.out _ (HS6.out.trans (hb7.mono HS6.out.size)))
  clear hsv hb7
  go_wp2_with fail
  go_ret
  exact ⟨rfl, HE.out⟩
end Go.Proofs.YtnopnjklcdcckaaGreatDoor
namespace Go.Proofs.YtnopnjklcdcckaaGreatDoor
set_option linter.unusedVariables false
open Go.ChangeShapes Go.WideShapes Go.ChangeAt Go.RowKit Go.Joins

/-- no text and no list of it is too long -/
def Wok2 {H : Type} (d : DataW H) (t : TypeId) : Prop := ∀ n ∈ DataW.weights Tryz.prog t d, n ≤ 140737488351232
theorem wok_all {H : Type} {e : TypeId} : ∀ {l : List (DataW H)} {d : DataW H}, d ∈ l → (∀ n ∈ DataW.weightsAll Tryz.prog e l, n ≤ 140737488351232) → Wok2 d e
  | x :: r, d, hd, h => by
    rw [DataW.weightsAll] at h
    rcases List.mem_cons.1 hd with rfl | hd
    · exact fun n hn => h n (List.mem_append_left _ hn)
    · exact wok_all hd (fun n hn => h n (List.mem_append_right _ hn))
theorem wok_slice {H : Type} {t e : TypeId} {elems spare : List (DataW H)} (ht : Tryz.prog.underlying t = some (.slice e)) (h : Wok2 (.slice elems spare) t) :
    (elems.length + spare.length) * Tryz.prog.bytesOf e ≤ 140737488351232 ∧ ∀ d ∈ elems, Wok2 d e := by
  unfold Wok2 at h
  rw [DataW.weights, ht] at h
  simp only at h
  refine ⟨h _ List.mem_cons_self, fun d hd => wok_all hd fun n hn => h n (List.mem_cons_of_mem _ (List.mem_append_left _ hn))⟩
theorem wok_string {H : Type} {t : TypeId} {l : List UInt8} (h : Wok2 (H := H) (.lit (.string l)) t) : l.length ≤ 140737488351232 := h _ (by rw [DataW.weights]; exact List.mem_singleton.2 rfl)
theorem wok_each {H : Type} : ∀ {ts : List TypeId} {l : List (DataW H)}, (∀ n ∈ DataW.weightsEach Tryz.prog ts l, n ≤ 140737488351232) → ∀ (i : Nat) (t : TypeId) (d : DataW H), ts[i]? = some t → l[i]? = some d → Wok2 d t
  | t0 :: ts, d0 :: l, h, 0, t, d, h1, h2 => by
    have e1 : t0 = t := by simpa using h1
    have e2 : d0 = d := by simpa using h2
    subst e1 e2
    rw [DataW.weightsEach] at h
    exact fun n hn => h n (List.mem_append_left _ hn)
  | t0 :: ts, d0 :: l, h, i + 1, t, d, h1, h2 => by
    rw [DataW.weightsEach] at h
    exact wok_each (ts := ts) (l := l) (fun n hn => h n (List.mem_append_right _ hn)) i t d (by simpa using h1) (by simpa using h2)
  | [], l, h, i, t, d, h1, h2 => by simp at h1
  | t0 :: ts, [], h, i, t, d, h1, h2 => by simp at h2
theorem wok_struct {H : Type} {t : TypeId} {fs : Array Field} {parts : List (DataW H)} (ht : Tryz.prog.underlying t = some (.struct fs)) (h : Wok2 (.agg parts) t) (i : Nat) (f : Field) (d : DataW H) (hf : fs[i]? = some f) (hd : parts[i]? = some d) : Wok2 d f.type := by
  unfold Wok2 at h
  rw [DataW.weights, ht] at h
  simp only at h
  refine wok_each h i f.type d ?_ hd
  rw [List.getElem?_map, Array.getElem?_toList, hf]; rfl
theorem list_choiceD {α : Type} {P : Nat → α → Prop} : ∀ n : Nat, (∀ k, k < n → ∃ f, P k f) → ∃ fs : List α, fs.length = n ∧ ∀ k f, fs[k]? = some f → P k f
  | 0, _ => ⟨[], rfl, fun k f h => by simp at h⟩
  | n + 1, h => by
    obtain ⟨fs, hl, hP⟩ := list_choiceD n (fun k hk => h k (by omega))
    obtain ⟨f, hf⟩ := h n (by omega)
    refine ⟨fs ++ [f], by simp [hl], fun k g hg => ?_⟩
    by_cases hk : k < n
    · rw [List.getElem?_append_left (by omega)] at hg
      exact hP k g hg
    · have hlt := (List.getElem?_eq_some_iff.1 hg).1
      rw [List.length_append, List.length_singleton] at hlt
      obtain rfl : k = n := by omega
      rw [List.getElem?_append_right (by omega), hl, Nat.sub_self] at hg
      simp at hg
      subst hg
      exact hf
theorem cell_ltD {w : World} {g o : Nat} {v : Value} (h : w.cell? ⟨g, o, none⟩ = some v) : g < w.heap.size := by
  by_cases hl : g < w.heap.size
  · exact hl
  · have : w.heap[g]? = none := Array.getElem?_eq_none (by omega)
    simp [World.cell?, this] at h
/-- a slice whose elements are read as rows -/
theorem slice_rows {H : Type} {enc : TypeId × Value → H} {W : World} {α : Type} (T E : TypeId) (k : Nat) (row : α → List Value) (fit : α → Prop) (hT : Tryz.prog.underlying T = some (.slice E)) (hk : Tryz.prog.cellsOf E = k) (hk1 : 1 ≤ k) (hrl : ∀ x, (row x).length = k) (hby : 1 ≤ Tryz.prog.bytesOf E)
    {fuel : Nat} {cs : List Value} {y : DataW H × List MemPlace} (helem : ∀ n, fuel = n + 1 → ∀ cs y, DataW.trod enc Tryz.prog W 0 (fun _ => true) true n E cs = some y → Wok2 y.1 E → ∃ x, cs = row x ∧ fit x)
    (h : DataW.trod enc Tryz.prog W 0 (fun _ => true) true fuel T cs = some y) (hw : Wok2 y.1 T) :
    ∃ v xs, cs = [v] ∧ RowsIn W (fun b => b < W.heap.size) k row v xs ∧ xs.length ≤ 140737488355328 ∧ ∀ x ∈ xs, fit x := by
  rcases DataW.trod_slice hT h with ⟨hcs, hd⟩ | ⟨x, l, c, elems, rest, m, hm, hcs, hd, hb, hl, hmx, hlen, hel, hsp, _⟩
  · exact ⟨_, [], hcs, RowsIn.nil _ _ _ _ _ _, by simp, fun x hx => by cases hx⟩
  · subst hd
    obtain ⟨hbytes, hparts⟩ := wok_slice hT hw
    have hcount : elems.length ≤ 140737488355328 := by
      rw [List.length_map, List.length_map] at hbytes
      have h2 : elems.length * 1 ≤ (elems.length + rest.length) * Tryz.prog.bytesOf E := Nat.mul_le_mul (by omega) hby
      omega
    rw [hk] at hel
    have hP : ∀ i, i < l → ∃ a : α, fit a ∧ ∃ cs, W.cells? 0 (x.add (i * k)) k = some cs ∧ cs = row a := fun i hi => by
      have h1 := hel i hi
      obtain ⟨yy, hy⟩ : ∃ yy, elems[i]? = some yy := ⟨_, List.getElem?_eq_getElem (by omega)⟩
      rw [hy] at h1
      obtain ⟨cs1, hcs1, htr⟩ := Option.bind_eq_some_iff.1 h1
      obtain ⟨a, ha, hf⟩ := helem m hm cs1 yy htr (hparts yy.1 (List.mem_map.2 ⟨yy, List.mem_of_getElem? hy, rfl⟩))
      exact ⟨a, hf, cs1, hcs1, ha⟩
    obtain ⟨zs, hal, hap⟩ := list_choiceD (P := fun i a => fit a ∧ ∃ cs, W.cells? 0 (x.add (i * k)) k = some cs ∧ cs = row a) l hP
    refine ⟨_, zs, hcs, ⟨some x, c, by rw [hal], by omega, ?_⟩, by omega, fun a ha => ?_⟩
    · by_cases hz : zs = []
      · exact .inl hz
      · right
        have hpos := List.length_pos_iff.2 hz
        obtain ⟨g, off, spot⟩ := x
        obtain ⟨a0, ha0⟩ : ∃ a, zs[0]? = some a := ⟨_, List.getElem?_eq_getElem (by omega)⟩
        obtain ⟨_, cs0, hcs0, hr0⟩ := hap 0 a0 ha0
        have hc0 := (World.cells?_some hcs0).2.2 0 (by omega)
        have hr1 : cs0[0]? = some (cs0[0]'(by rw [hr0, hrl]; omega)) := List.getElem?_eq_getElem _
        rw [hr1] at hc0
        have hspot : spot = none := by
          have h3 := World.cell?_spot hc0
          simpa [Addr.add] using h3
        subst hspot
        refine ⟨g, off, rfl, ?_, fun j a hj i u hu => ?_⟩
        · have e : ((Addr.mk g off none).add (0 * k)).add 0 = ⟨g, off, none⟩ := by simp [Addr.add]
          rw [e] at hc0
          exact cell_ltD hc0
        · obtain ⟨_, cs1, hcs1, hr1⟩ := hap j a hj
          have hi : i < k := by
            have := (List.getElem?_eq_some_iff.1 hu).1
            rw [hrl] at this; exact this
          have h3 := (World.cells?_some hcs1).2.2 i hi
          rw [hr1, hu] at h3
          have e : ((Addr.mk g off none).add (j * k)).add i = ⟨g, off + (j * k + i), none⟩ := by rw [Lib.add_plain, Lib.add_plain, Nat.add_assoc]
          rw [e] at h3
          exact h3
    · obtain ⟨i, hi⟩ := List.getElem?_of_mem ha
      exact (hap i a hi).1
set_option maxRecDepth 100000 in
theorem trodS3 {H : Type} {enc : TypeId × Value → H} {W : World} {t : TypeId} {f0 f1 f2 : Field} {fuel : Nat} {cs : List Value} {y : DataW H × List MemPlace} (ht : Tryz.prog.underlying t = some (.struct #[f0, f1, f2])) (h : DataW.trod enc Tryz.prog W 0 (fun _ => true) true fuel t cs = some y) (hw : Wok2 y.1 t) :
    ∃ (y0 y1 y2 : DataW H × List MemPlace) (n : Nat), fuel = n + 1 ∧ cs.length = Tryz.prog.cellsOf t ∧ (DataW.trod enc Tryz.prog W 0 (fun _ => true) true n f0.type ((cs.drop f0.offset).take (Tryz.prog.cellsOf f0.type)) = some y0 ∧ Wok2 y0.1 f0.type) ∧ (DataW.trod enc Tryz.prog W 0 (fun _ => true) true n f1.type ((cs.drop f1.offset).take (Tryz.prog.cellsOf f1.type)) = some y1 ∧ Wok2 y1.1 f1.type) ∧ (DataW.trod enc Tryz.prog W 0 (fun _ => true) true n f2.type ((cs.drop f2.offset).take (Tryz.prog.cellsOf f2.type)) = some y2 ∧ Wok2 y2.1 f2.type) := by
  obtain ⟨xs, n, hn, rfl, hl, hlen, hf⟩ := DataW.trod_struct ht h
  match xs, hlen with
  | [y0, y1, y2], _ => exact ⟨y0, y1, y2, n, hn, hl, ⟨by simpa using hf 0 f0 rfl, wok_struct ht hw 0 f0 y0.1 rfl rfl⟩, ⟨by simpa using hf 1 f1 rfl, wok_struct ht hw 1 f1 y1.1 rfl rfl⟩, ⟨by simpa using hf 2 f2 rfl, wok_struct ht hw 2 f2 y2.1 rfl rfl⟩⟩
set_option maxRecDepth 100000 in
theorem trodS5 {H : Type} {enc : TypeId × Value → H} {W : World} {t : TypeId} {f0 f1 f2 f3 f4 : Field} {fuel : Nat} {cs : List Value} {y : DataW H × List MemPlace} (ht : Tryz.prog.underlying t = some (.struct #[f0, f1, f2, f3, f4])) (h : DataW.trod enc Tryz.prog W 0 (fun _ => true) true fuel t cs = some y) (hw : Wok2 y.1 t) :
    ∃ (y0 y1 y2 y3 y4 : DataW H × List MemPlace) (n : Nat), fuel = n + 1 ∧ cs.length = Tryz.prog.cellsOf t ∧ (DataW.trod enc Tryz.prog W 0 (fun _ => true) true n f0.type ((cs.drop f0.offset).take (Tryz.prog.cellsOf f0.type)) = some y0 ∧ Wok2 y0.1 f0.type) ∧ (DataW.trod enc Tryz.prog W 0 (fun _ => true) true n f1.type ((cs.drop f1.offset).take (Tryz.prog.cellsOf f1.type)) = some y1 ∧ Wok2 y1.1 f1.type) ∧ (DataW.trod enc Tryz.prog W 0 (fun _ => true) true n f2.type ((cs.drop f2.offset).take (Tryz.prog.cellsOf f2.type)) = some y2 ∧ Wok2 y2.1 f2.type) ∧ (DataW.trod enc Tryz.prog W 0 (fun _ => true) true n f3.type ((cs.drop f3.offset).take (Tryz.prog.cellsOf f3.type)) = some y3 ∧ Wok2 y3.1 f3.type) ∧ (DataW.trod enc Tryz.prog W 0 (fun _ => true) true n f4.type ((cs.drop f4.offset).take (Tryz.prog.cellsOf f4.type)) = some y4 ∧ Wok2 y4.1 f4.type) := by
  obtain ⟨xs, n, hn, rfl, hl, hlen, hf⟩ := DataW.trod_struct ht h
  match xs, hlen with
  | [y0, y1, y2, y3, y4], _ => exact ⟨y0, y1, y2, y3, y4, n, hn, hl, ⟨by simpa using hf 0 f0 rfl, wok_struct ht hw 0 f0 y0.1 rfl rfl⟩, ⟨by simpa using hf 1 f1 rfl, wok_struct ht hw 1 f1 y1.1 rfl rfl⟩, ⟨by simpa using hf 2 f2 rfl, wok_struct ht hw 2 f2 y2.1 rfl rfl⟩, ⟨by simpa using hf 3 f3 rfl, wok_struct ht hw 3 f3 y3.1 rfl rfl⟩, ⟨by simpa using hf 4 f4 rfl, wok_struct ht hw 4 f4 y4.1 rfl rfl⟩⟩
abbrev N47 : Nat := 140737488355328
theorem str_of_trod {H : Type} {enc : TypeId × Value → H} {W : World} {fuel : Nat} {cs : List Value} {y : DataW H × List MemPlace} (h : DataW.trod enc Tryz.prog W 0 (fun _ => true) true fuel 9 cs = some y) (hw : Wok2 y.1 9) : ∃ l : List UInt8, cs = [.string (mkB l)] ∧ l.length ≤ N47 := by
  obtain ⟨s, e, rfl, _⟩ := DataW.trod_string Tryz.underlying9 h
  exact ⟨s.data.toList, by rw [e, mkB_data], by have := wok_string hw; unfold N47; omega⟩
end Go.Proofs.YtnopnjklcdcckaaGreatDoor
