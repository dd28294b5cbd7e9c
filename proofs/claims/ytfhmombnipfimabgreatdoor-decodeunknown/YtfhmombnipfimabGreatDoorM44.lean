/-
  The walk over the law DecodeUnknown.
-/
import Derived.Test.YtfhmombnipfimabGreatDoorM42
import Derived.Test.YtfhmombnipfimabGreatDoorM43
import Derived.Laws.Concat
namespace Go.Proofs.YtfhmombnipfimabGreatDoor
set_option linter.unusedVariables false
open Go.ChangeShapes Go.WideShapes Go.ChangeAt Go.RowKit

theorem str_two (a b : List Int) : mkB (u8s a) ++ mkB (u8s b) = mkB (u8s (a ++ b)) := by
  show strOfNums a ++ strOfNums b = strOfNums (a ++ b)
  unfold strOfNums
  rw [ByteArray.mk_append_mk, List.map_append]
/-- what is put together of the first k fields -/
def allV (x : Int) (l : List WF) : List Int := if l = [] then [] else (allW x l).flatMap WF.bytes
theorem allV_first (x : Int) (f : WF) : allV x [f] = f.bytes ++ (ownW x).bytes := by
  unfold allV
  rw [if_neg (by simp)]
  show f.bytes ++ ((ownW x).bytes ++ []) = _
  rw [List.append_nil]
theorem allV_next {x : Int} {l : List WF} (h : l ≠ []) (f : WF) : allV x (l ++ [f]) = allV x l ++ f.bytes := by
  unfold allV
  rw [if_neg h, if_neg (by simp)]
  cases l with
  | nil => exact absurd rfl h
  | cons a t =>
    unfold allW
    simp only [List.cons_append, List.take_succ_cons, List.take_zero, List.drop_succ_cons, List.drop_zero, List.nil_append, List.flatMap_cons, List.flatMap_append, List.flatMap_nil, List.append_nil, List.append_assoc]
set_option maxHeartbeats 64000000 in
set_option maxRecDepth 20000 in
theorem decodeUnknown_any (ad : Option Addr) (n c : Nat) (ws : List WF) (x : Int) (w : World) (hT : Tabs w) (hn : ws.length = n) (hn1 : n ≤ 140737488355328) (hW : WfIn w (fun b => b < w.heap.size) (.slice ad n c) ws) (hr : ∀ f ∈ ws, 0 ≤ f.n ∧ f.n ≤ 18446744073709551615) (hx : -9223372036854775808 ≤ x ∧ x ≤ 9223372036854775807) :
    Calls Tryz.prog 5 #[.slice ad n c, .int .i64 x] w fun e w' => e = .returned (.bool true) ∧ Below w.heap.size w w' := by
  have hA := fun W (hW : Below w.heap.size w W) => awake11_any W (tabs_below hT hW)
  have HWI := Lib.hid hW
  have HN := Lib.hid hn
  have HR := Lib.hid hr
  have HT := Lib.hid hT
  have ha0 := hA w (Below.refl _ _)
  clear hW hn hr hT
  go_enter Tryz.func5, Tryz.ntmps5
  go_wp2_with fail
  refine ha0.mono ?_
  rintro e w0 ⟨rfl, hb0⟩
  have HB0 := Lib.hid hb0
  have h0s := hb0.size
  clear ha0
  by_cases h40 : n ≤ 40
  case neg =>
    have h41 : (40 : Int) < (n : Int) := by omega
    have ha1 := hA w0 hb0
    clear hA hb0
    go_wp2_with fail
    refine ha1.mono ?_
    rintro e W1 ⟨rfl, hb1⟩
    have HB1 := Lib.hid (HB0.out.trans (hb1.mono HB0.out.size))
    clear ha1 hb1
    go_wp2_with fail
    go_ret
    exact ⟨rfl, HB1.out⟩
  have h41 : ¬ (40 : Int) < (n : Int) := by omega
  clear hA hb0
  obtain ⟨Y1, hY1, cY1, bY1, sY1⟩ := box_new w0 #[.int .i64 1, .string ⟨#[120]⟩, .int .i64 1, .bool false, .int .i64 0] 46
  obtain ⟨Y2, hY2, cY2, bY2, sY2⟩ := box_new Y1 #[.string ⟨#[65]⟩, .slice (some ⟨w0.heap.size, 0, none⟩) 1 1] 44
  obtain ⟨Y3, hY3, cY3, bY3, sY3⟩ := box_new Y2 #[.slice (some ⟨w0.heap.size + 1, 0, none⟩) 1 1, .slice none 0 0, .slice none 0 0] 26
  have t2 := bY1.trans (bY2.mono bY1.size)
  have t3 := t2.trans (bY3.mono t2.size)
  rw [sY2, sY1] at cY3
  rw [sY1] at cY2
  have d1 := (bY3.block _ (by omega)).trans ((bY2.block _ (by omega)).trans cY1)
  have d2 := (bY3.block _ (by omega)).trans cY2
  have hH : HeldSc Y3 (fun b => b < Y3.heap.size) (.slice (some ⟨w0.heap.size + 1, 0, none⟩) 1 1) (.slice none 0 0) (.slice none 0 0) scB := by
    refine ⟨⟨_, _, rfl, Nat.le_refl _, .inr ⟨w0.heap.size + 1, 0, rfl, by show w0.heap.size + 1 < Y3.heap.size; omega, fun j x hj => ?_⟩⟩, HeldN.nil _ _, RowsIn.nil _ _ _ _ _ _⟩
    obtain ⟨rfl, rfl⟩ := lst1 hj
    refine ⟨some ⟨w0.heap.size, 0, none⟩, 1, cell_at d2 0 rfl, cell_at d2 1 rfl, ⟨_, _, rfl, Nat.le_refl _, .inr ⟨w0.heap.size, 0, rfl, by show w0.heap.size < Y3.heap.size; omega, fun k y hk => ?_⟩⟩⟩
    obtain ⟨rfl, rfl⟩ := lst1 hk
    intro i u hu
    simp only [World.cell?, d1]
    simpa [fdrow, fdB, mkB] using hu
  have HH := Lib.hid hH
  have HBY := Lib.hid (HB0.out.trans (t3.mono HB0.out.size))
  have HCY := Lib.hid cY3
  have HY1 := Lib.hid hY1
  have HY2 := Lib.hid hY2
  have HY3 := Lib.hid hY3
  have hz3 : Y3.heap.size = w0.heap.size + 3 := by omega
  obtain ⟨X, hX⟩ : ∃ X, IntKind.u64.wrap x = X := ⟨_, rfl⟩
  have HX := Lib.hid hX
  have hX0 := wrapU x
  rw [hX] at hX0
  have hbo := bytesR_any 1 0 X none 0 0 [] Y3 ⟨rfl, by decide, .inl rfl⟩ hX0.1 hX0.2 (by decide) (by decide) (.inl rfl) (by decide) (fun _ => ⟨rfl, rfl⟩)
  clear hY1 hY2 hY3 cY1 cY2 cY3 bY1 bY2 bY3 sY1 sY2 sY3 t2 t3 d1 d2 hH
  go_wp2_with fail
  rw [HY1.out, HY2.out, HY3.out]
  refine hbo.mono ?_
  rintro e Z ⟨v1, rfl, hov, hbz⟩
  have hOB : fbytes 1 0 X [] = (ownW x).bytes := by rw [← HX.out]; rfl
  rw [hOB] at hov
  have hOBs : IsBs (ownW x).bytes := fbytes_ok _ _ _ (fun z hz => by cases hz)
  have hOL := own_len2 x
  obtain ⟨oa, oc, rfl, hoI⟩ := own_BIn hov hOBs (by omega)
  have hBZ := HBY.out.trans (hbz.mono HBY.out.size)
  have HBZ := Lib.hid hBZ
  have HHZ := Lib.hid (heldSc_mv HH.out hbz)
  have HCZ := Lib.hid ((hbz.block _ (by omega)).trans HCY.out)
  have HOI : Hid (BIn Z (fun b => b < Z.heap.size) oa oc (ownW x).bytes) := hoI.mv (fun _ _ => rfl) (fun b hb => hb.2)
  obtain ⟨ob, hob⟩ : ∃ ob, (ownW x).bytes = ob := ⟨_, rfl⟩
  have HOBE := Lib.hid hob
  rw [hob] at HOI hOL ⊢
  have hzs := hbz.size
  clear hbo hov hOB hOBs hoI hbz hBZ hob hX HX HCY HH
  go_wp2_with fail
  go_loopw [7, 8, 35] (fun av uv i wr => ∃ (k : Nat) (al un : Value), al = av ∧ un = uv ∧ i = .int .i64 (k : Int) ∧ k ≤ n ∧ Below Z.heap.size Z wr ∧ OwnB wr Z.heap.size al (allV x (ws.take k)) ∧ OwnB wr Z.heap.size un ((ws.take k).flatMap WF.bytes) ∧ (∀ b, al.ownBlock = some b → un.ownBlock ≠ some b) ∧ (∀ f ∈ ws.take k, OkU f)) (fun _ _ i _ => n - (intOf i).toNat)
  case atStart => exact ⟨0, _, _, rfl, rfl, rfl, Nat.zero_le _, Below.refl _ _, own_nil _ _, own_nil _ _, (fun b h => by simp [Value.ownBlock] at h), (fun f hf => by simp at hf)⟩
  case round =>
    generalize wr = w1 at *
    obtain ⟨k, al, un, rfl, rfl, rfl, hk, hbel, hal, hun, hap, hgood⟩ := hrel
    have HBE := Lib.hid hbel
    have HAL := Lib.hid hal
    have HUN := Lib.hid hun
    have HAP := Lib.hid hap
    have HGD := Lib.hid hgood
    have hws := hbel.size
    have hBw := HBZ.out.trans (hbel.mono HBZ.out.size)
    have HBW := Lib.hid hBw
    have hG2 : ∀ f ∈ ws.take k, OkU f ∧ (0 ≤ f.n ∧ f.n ≤ 18446744073709551615) := fun f hf => ⟨hgood f hf, HR.out f (List.mem_of_mem_take hf)⟩
    have hul : ((ws.take k).flatMap WF.bytes).length ≤ 4000 := by
      have h1 := flat_len80 hG2
      rw [List.length_take] at h1
      have h2 : min k ws.length * 80 ≤ 40 * 80 := Nat.mul_le_mul_right _ (by omega)
      omega
    have hall : (allV x (ws.take k)).length ≤ 4000 := by
      unfold allV
      split
      · simp
      · have h1 := all_len (x := x) hG2
        rw [List.length_take] at h1
        have h2 : min k ws.length * 80 ≤ 40 * 80 := Nat.mul_le_mul_right _ (by omega)
        omega
    clear hal hun hap hgood hG2
    by_cases hkn : k < n
    · obtain ⟨f, hf⟩ : ∃ f, ws[k]? = some f := ⟨_, List.getElem?_eq_getElem (by have := HN.out; omega)⟩
      obtain ⟨g, go, gc, hsl, hg, da, dc, hcl, hbi⟩ := SlIn.at HWI.out hf
      rw [HN.out] at hsl
      obtain ⟨rfl, rfl⟩ := slice_two hsl
      have hgN : g < w.heap.size := hg
      have hcl2 := fun W (hW : Below w.heap.size w W) => hcl.old (hW.block g hgN)
      have hfn := HR.out f (List.mem_of_getElem? hf)
      have HTK : Hid (ws.take (k + 1) = ws.take k ++ [f]) := take_snoc hf
      obtain ⟨fnum, fty, fn, fd⟩ := f
      dsimp only at hcl2 hbi hfn
      obtain ⟨dl, hdl⟩ : ∃ n, fd.length = n := ⟨_, rfl⟩
      have HDL := Lib.hid hdl
      have HCC : Hid (∀ W, Below w.heap.size w W → W.cell? ⟨g, go + k * 4, none⟩ = some (.int .i64 fnum) ∧ W.cell? ⟨g, go + k * 4 + 1, none⟩ = some (.int .i64 fty) ∧ W.cell? ⟨g, go + k * 4 + 2, none⟩ = some (.int .u64 fn) ∧ W.cell? ⟨g, go + k * 4 + 3, none⟩ = some (.slice da dl dc)) := by
        refine (?_ : ∀ W, _ → _)
        intro W hW
        have h := hcl2 W hW
        refine ⟨?_, ?_, ?_, ?_⟩
        · have := h 0 _ rfl; simpa using this
        · have := h 1 _ rfl; simpa using this
        · have := h 2 _ rfl; simpa using this
        · have := h 3 _ rfl; rw [hdl] at this; simpa using this
      have HBI : Hid (∀ W, Below w.heap.size w W → BIn W (fun b => b < W.heap.size) da dc fd) := fun W hW => hbi.mv (fun b hb => hW.block b hb) (fun b hb => by have hb' : b < w.heap.size := hb; have := hW.size; omega)
      have hfo := formedRB_any fnum fty fn da dl dc w1
      unfold fv at hfo
      obtain ⟨e0, e1, e2, e3⟩ := HCC.out w1 hBw
      have hk0 : (0 : Int) ≤ (k : Int) := by omega
      have hk1 : (k : Int) < (n : Int) := by omega
      have hwk : IntKind.i64.wrap ((k : Int) + 1) = (k : Int) + 1 := by rw [IntKind.wrap_i64]; omega
      obtain ⟨B, hB⟩ : ∃ B, fmd fnum fty fn dl = B := ⟨_, rfl⟩
      rw [hB] at hfo
      have HFM := Lib.hid hB
      have HNOK : Hid (OkU ⟨fnum, fty, fn, fd⟩ ↔ B = true ∧ dl ≤ 60 ∧ ¬ (fnum = 1 ∧ fty = 0)) := by
        refine (?_ : _ ↔ _)
        unfold OkU
        dsimp only
        rw [HDL.out, HFM.out]
      clear hsl hg hcl hcl2 hbi hf hdl hB hBw hbel
      go_upto_region 9 with fail
      go_cut [68] (fun v wx => ∃ Bv : Bool, v = .bool Bv ∧ (Bv = false → OkU ⟨fnum, fty, fn, fd⟩) ∧ Below w1.heap.size w1 wx)
      case first =>
        go_wp2_with fail
        refine hfo.mono ?_
        rintro e W2 ⟨rfl, hb2⟩
        have hB2 := HBW.out.trans (hb2.mono HBW.out.size)
        have H12 := Lib.hid hb2
        clear hfo e0 e1 e2 e3 hb2
        obtain ⟨e0, e1, e2, e3⟩ := HCC.out W2 hB2
        clear hB2
        cases B
        case false =>
          go_wp2_with fail
          go_meet
          exact ⟨true, rfl, (fun h => by cases h), H12.out⟩
        case true =>
          by_cases h60 : dl ≤ 60
          case neg =>
            have h61 : (60 : Int) < (dl : Int) := by omega
            go_wp2_with fail
            go_meet
            refine ⟨true, ?_, (fun h => by cases h), H12.out⟩
            simp
          case pos =>
            have h61 : ¬ (60 : Int) < (dl : Int) := by omega
            by_cases h1 : fnum = 1
            · subst h1
              by_cases h2 : fty = 0
              · subst h2
                go_wp2_with fail
                go_meet
                refine ⟨true, ?_, (fun h => by cases h), H12.out⟩
                simp
              · have d2 : (fty == 0) = false := by simp [h2]
                have HH2 := Lib.hid h2
                clear h2
                go_wp2_with fail
                go_meet
                refine ⟨false, ?_, fun _ => HNOK.out.2 ⟨by trivial, h60, fun h => HH2.out h.2⟩, H12.out⟩
                simp [h61]
            · have d1 : (fnum == 1) = false := by simp [h1]
              have HH1 := Lib.hid h1
              clear h1
              go_wp2_with fail
              go_meet
              refine ⟨false, ?_, fun _ => HNOK.out.2 ⟨by trivial, h60, fun h => HH1.out h.1⟩, H12.out⟩
              simp [h61]
      case rest =>
      obtain ⟨Bv, rfl, hbv, h12⟩ := hcut
      generalize wc = W2 at *
      have H12 := Lib.hid h12
      have h2s := h12.size
      have HB2 := Lib.hid (HBW.out.trans (h12.mono HBW.out.size))
      clear hfo e0 e1 e2 e3
      obtain ⟨e0, e1, e2, e3⟩ := HCC.out W2 HB2.out
      cases Bv
      case true =>
        clear hbv h12
        go_wp2_with fail
        go_ret
        exact ⟨rfl, HB2.out⟩
      case false =>
      have HOK := Lib.hid (hbv rfl)
      have h60 : dl ≤ 60 := (HNOK.out.1 HOK.out).2.1
      clear hbv h12
      have hs := fmd_spec HOK.out.1
      dsimp only at hs
      have hbR := bytesR_any fnum fty fn da dl dc fd W2 (by have := (HBI.out W2 HB2.out).isB; rw [HDL.out] at this; exact this) hfn.1 hfn.2 hs.1 hs.2.1 (by rcases hs.2.2 with h | h | h <;> omega) (by omega) (by have := (HBI.out W2 HB2.out).2.1; rw [HDL.out] at this; exact this)
      unfold fv at hbR
      have hbl := bytes_len HOK.out hfn
      have HBY2 : Hid (IsBs (fbytes fnum fty fn fd)) := fbytes_ok _ _ _ (fun z hz => isB_bytes (HBI.out W2 HB2.out).isB z hz)
      unfold WF.bytes at hbl
      dsimp only at hbl
      have HTK1 : Hid ((ws.take (k + 1)).flatMap WF.bytes = (ws.take k).flatMap WF.bytes ++ fbytes fnum fty fn fd) := by
        refine (?_ : _ = _)
        rw [HTK.out, List.flatMap_append]
        show _ ++ (fbytes fnum fty fn fd ++ []) = _
        rw [List.append_nil]
      have HGD1 : Hid (∀ f ∈ ws.take (k + 1), OkU f) := by
        refine (?_ : ∀ f, _ → _)
        intro f hf
        rw [HTK.out] at hf
        rcases List.mem_append.1 hf with hf | hf
        · exact HGD.out f hf
        · have : f = ⟨fnum, fty, fn, fd⟩ := by simpa using hf
          rw [this]; exact HOK.out
      have HAN : Hid (k ≠ 0 → allV x (ws.take (k + 1)) = allV x (ws.take k) ++ fbytes fnum fty fn fd) := by
        refine (?_ : _ → _)
        intro h0
        rw [HTK.out]
        exact allV_next (fun e => by have := congrArg List.length e; rw [List.length_take, HN.out] at this; simp at this; omega) _
      have HAF : Hid (k = 0 → allV x (ws.take (k + 1)) = (allV x (ws.take k) ++ fbytes fnum fty fn fd) ++ ob) := by
        refine (?_ : _ → _)
        intro h0
        rw [HTK.out]
        subst h0
        rw [List.take_zero, List.nil_append, allV_first, ← HOBE.out]
        rfl
      clear hs HCC HBI HTK HOK HFM HDL HNOK
      go_wp2_with fail
      refine hbR.mono ?_
      rintro e W3 ⟨v3, rfl, hov3, hb3⟩
      obtain ⟨fb, hfb⟩ : ∃ fb, fbytes fnum fty fn fd = fb := ⟨_, rfl⟩
      rw [hfb] at hov3 hbl HBY2 HTK1 HAN HAF
      obtain ⟨ba, bc, rfl, hbI⟩ := own_BIn hov3 HBY2.out (by omega)
      have h3s := hb3.size
      have h13 := H12.out.trans (hb3.mono H12.out.size)
      have hZ3 : Below Z.heap.size Z W3 := HBE.out.trans (h13.mono hws)
      have HZ3 := Lib.hid hZ3
      have HAL3 := Lib.hid (own_old HAL.out h13)
      have HUN3 := Lib.hid (own_old HUN.out h13)
      have hz3' : Z.heap.size ≤ W3.heap.size := hZ3.size
      have HBI3 := Lib.hid hbI
      have HI3 := Lib.hid hbI.isB
      clear hbR hov3 hb3 hbI e0 e1 e2 e3 hfb hZ3
      go_wp2_with (at_builtin; refine wpB_at rfl _ _ rfl Z.heap.size un _ rfl HUN3.out ba fb.length bc fb rfl HI3.out HBI3.out.2.1 (by omega) hz3' ?_)
      intro u6 W6 hown6 hgr6 hat6
      have hub : ∀ b, un.ownBlock = some b → b < w1.heap.size := fun b hb => (owns_lt HUN.out b hb).1
      have hab : ∀ b, al.ownBlock = some b → b < w1.heap.size := fun b hb => (owns_lt HAL.out b hb).1
      have hw13 : w1.heap.size ≤ W3.heap.size := h13.size
      have h6s := hgr6.size
      have HBI6 : Hid (BIn W6 (fun b => W2.heap.size ≤ b ∧ b < W6.heap.size) ba bc fb) := HBI3.out.mv (fun b hb => hgr6.block b hb.2 (fun e => by have := hub b e.symm; have := hb.1; omega)) (fun b hb => ⟨hb.1, by have := hb.2; omega⟩)
      have HI6 := Lib.hid HBI6.out.isB
      have HUN6 : Hid (OwnB W6 Z.heap.size u6 ((ws.take (k + 1)).flatMap WF.bytes)) := by
        refine (?_ : OwnB _ _ _ _)
        rw [HTK1.out]; exact hown6
      have HAL6 : Hid (OwnB W6 Z.heap.size al (allV x (ws.take k))) := owns_grown HAL3.out hgr6 HAP.out
      have HZ6 : Hid (Below Z.heap.size Z W6) := HZ3.out.grown hgr6 (by omega) (fun b hb => own_blockB HUN3.out b hb)
      have HAP6 : Hid (∀ b, al.ownBlock = some b → u6.ownBlock ≠ some b) := by
        refine (?_ : ∀ b, _ → _)
        intro b hb e
        rcases hat6 with h | h
        · rw [h] at e; exact HAP.out b hb e
        · rw [h] at e
          have e2 : W3.heap.size = b := by simpa using e
          have := hab b hb
          omega
      have HU6L : Hid (∀ b, u6.ownBlock = some b → b < W6.heap.size) := fun b hb => (owns_lt HUN6.out b hb).1
      have hz6 : Z.heap.size ≤ W6.heap.size := by omega
      clear hown6 hgr6 hat6
      go_wp2_with (at_builtin; refine wpB_at rfl _ _ rfl Z.heap.size al _ rfl HAL6.out ba fb.length bc fb rfl HI6.out HBI6.out.2.1 (by omega) hz6 ?_)
      intro a7 W7 hown7 hgr7 hat7
      have h7s := hgr7.size
      have HUN7 : Hid (OwnB W7 Z.heap.size u6 ((ws.take (k + 1)).flatMap WF.bytes)) := owns_grown HUN6.out hgr7 (fun b hb e => HAP6.out b e hb)
      have HAL7 : Hid (OwnB W7 Z.heap.size a7 (allV x (ws.take k) ++ fb)) := hown7
      have HZ7 : Hid (Below Z.heap.size Z W7) := HZ6.out.grown hgr7 (by omega) (fun b hb => own_blockB HAL6.out b hb)
      have HAP7 : Hid (∀ b, a7.ownBlock = some b → u6.ownBlock ≠ some b) := by
        refine (?_ : ∀ b, _ → _)
        intro b hb e
        rcases hat7 with h | h
        · rw [h] at hb; exact HAP6.out b hb e
        · rw [h] at hb
          have e2 : W6.heap.size = b := by simpa using hb
          have := HU6L.out b e
          omega
      have HU7L : Hid (∀ b, u6.ownBlock = some b → b < W7.heap.size) := fun b hb => (owns_lt HUN7.out b hb).1
      have hz7 : Z.heap.size ≤ W7.heap.size := by omega
      clear hown7 hgr7 hat7
      by_cases hk00 : k = 0
      · have HA1 := Lib.hid (HAF.out hk00)
        have hkz : ((k : Int) == 0) = true := by simp [hk00]
        clear hk00
        have hOI7 : BIn W7 (fun b => b < W7.heap.size) oa oc ob := HOI.out.mv (fun b hb => HZ7.out.block b hb) (fun b hb => by have hb' : b < Z.heap.size := hb; omega)
        have HOI7 := Lib.hid hOI7
        have HIO7 := Lib.hid hOI7.isB
        clear hOI7
        go_wp2_with (at_builtin; refine wpB_at rfl _ _ rfl Z.heap.size a7 _ rfl HAL7.out oa ob.length oc ob rfl HIO7.out HOI7.out.2.1 (by rw [List.length_append]; omega) hz7 ?_)
        intro a8 W8 hown8 hgr8 hat8
        have HUN8 : Hid (OwnB W8 Z.heap.size u6 ((ws.take (k + 1)).flatMap WF.bytes)) := owns_grown HUN7.out hgr8 (fun b hb e => HAP7.out b e hb)
        have HAL8 : Hid (OwnB W8 Z.heap.size a8 (allV x (ws.take (k + 1)))) := by
          refine (?_ : OwnB _ _ _ _)
          rw [HA1.out, List.append_assoc]; exact hown8
        have HZ8 : Hid (Below Z.heap.size Z W8) := HZ7.out.grown hgr8 (by omega) (fun b hb => own_blockB HAL7.out b hb)
        have HAP8 : Hid (∀ b, a8.ownBlock = some b → u6.ownBlock ≠ some b) := by
          refine (?_ : ∀ b, _ → _)
          intro b hb e
          rcases hat8 with h | h
          · rw [h] at hb; exact HAP7.out b hb e
          · rw [h] at hb
            have e2 : W7.heap.size = b := by simpa using hb
            have := HU7L.out b e
            omega
        clear hown8 hgr8 hat8
        go_wp2_with fail
        go_roundw
        case rel => exact ⟨k + 1, _, _, rfl, rfl, by go_num, by omega, HZ8.out, HAL8.out, HUN8.out, HAP8.out, HGD1.out⟩
        case measure => simp [intOf]; omega
      · have HA1 := Lib.hid (HAN.out hk00)
        have hkz : ((k : Int) == 0) = false := by simp; omega
        have HAL8 : Hid (OwnB W7 Z.heap.size a7 (allV x (ws.take (k + 1)))) := by
          refine (?_ : OwnB _ _ _ _)
          rw [HA1.out]; exact HAL7.out
        go_wp2_with fail
        go_roundw
        case rel => exact ⟨k + 1, _, _, rfl, rfl, by go_num, by omega, HZ7.out, HAL8.out, HUN7.out, HAP7.out, HGD1.out⟩
        case measure => simp [intOf]; omega
    · have hkn' : ¬ (k : Int) < (n : Int) := by omega
      have hte : ws.take k = ws := List.take_of_length_le (by have := HN.out; omega)
      rw [hte] at HAL HUN HGD hul hall
      have hW3 : ∀ f ∈ ws, OkU f ∧ (0 ≤ f.n ∧ f.n ≤ 18446744073709551615) ∧ IsBs f.d := fun f hf => by
        obtain ⟨j, hj⟩ := List.getElem?_of_mem hf
        obtain ⟨_, _, _, _, _, _, _, _, hbi⟩ := SlIn.at HWI.out hj
        exact ⟨HGD.out f hf, HR.out f hf, fun z hz => isB_bytes hbi.isB z hz⟩
      have hW2 : ∀ f ∈ ws, OkU f ∧ (0 ≤ f.n ∧ f.n ≤ 18446744073709551615) := fun f hf => ⟨(hW3 f hf).1, (hW3 f hf).2.1⟩
      have hWb : ∀ f ∈ ws, IsBs f.d := fun f hf => (hW3 f hf).2.2
      have HDEC0 := Lib.hid (dec_all hx hW3)
      have HAL40 := Lib.hid (all_len (x := x) hW2)
      have hABs : IsBs ((allW x ws).flatMap WF.bytes) := by
        have h1 := flat_bs (all_split (x := x) hW3).2
        rw [List.flatMap_map] at h1
        exact h1
      have HENC0 := Lib.hid (enc_out (x := x) hWb)
      have hk16 := kindOK_of fitSB formB
      have hml16 : ∀ m ∈ scB.ms, m.fields.length ≤ 10000 := fun m hm => by have := fieldsLen_of formB m hm; omega
      have hALn : ((allW x ws).flatMap WF.bytes).length ≤ 4000 := by
        have h1 := all_len (x := x) hW2
        have h2 : ws.length * 80 ≤ 40 * 80 := Nat.mul_le_mul_right _ (by have := HN.out; omega)
        omega
      have hsm := decM_small hk16 hml16 16 0 _ _ (by decide) (by decide) hABs (by omega) HDEC0.out
      have hfit := decM_fit hk16 16 1 0 _ _ (by decide) (by decide) (by decide) hABs HDEC0.out
      have HFG : Hid (FitG 100000 10000 16 (outN x ws)) := by
        refine (?_ : FitG _ _ _ _)
        rw [← norm_out]; exact norm_fitG scB.ms (bs := 100000) (bf := 10000) 16 _ hsm.1
      have HRG : Hid (RngG 16 (outN x ws)) := by
        refine (?_ : RngG _ _)
        rw [← norm_out]; exact norm_rng scB.ms 16 _ hsm.2
      have HBN : Hid (bndN 16 (outN x ws) ≤ 1000000000) := by
        refine (?_ : bndN 16 (outN x ws) ≤ 1000000000)
        have h1 := norm_bnd scB.ms 16 (outX x ws)
        rw [norm_out] at h1
        have h2 := bnd_out x ws
        omega
      have HFX : Hid (FitX scB 16 0 (outN x ws)) := by
        refine (?_ : FitX _ _ _ _)
        rw [← norm_out]
        exact ⟨formB, by decide, by decide, norm_fit (numOK_of fitSB formB) 16 1 0 _ (by decide) (by decide) hfit⟩
      obtain ⟨U, hU⟩ : ∃ U, ws.flatMap WF.bytes = U := ⟨_, rfl⟩
      obtain ⟨A, hA⟩ : ∃ A, (allW x ws).flatMap WF.bytes = A := ⟨_, rfl⟩
      have hUb : IsBs U := by rw [← hU]; exact u_bytes hWb
      have HDEC : Hid (decM scB.ms 16 0 A = .ok (outX x ws)) := by
        refine (?_ : _ = _)
        rw [← hA]; exact HDEC0.out
      have HENC : Hid (encB scB 16 (outN x ws) = (if x = 0 then [] else ob) ++ U) := by
        refine (?_ : _ = _)
        rw [HENC0.out, hU, HOBE.out]
      rw [hU] at HUN hul
      have hAll : A.length ≤ 4000 := by rw [← hA]; exact hALn
      have HAL4 := Lib.hid hAll
      have HEL : Hid ((encB scB 16 (outN x ws)).length ≤ 4096) := by
        refine (?_ : (encB scB 16 (outN x ws)).length ≤ 4096)
        have h80 := flat_len80 hW2
        rw [hU] at h80
        have h2 : ws.length * 80 ≤ 40 * 80 := Nat.mul_le_mul_right _ (by have := HN.out; omega)
        rw [HENC.out, List.length_append]
        split
        · simp; omega
        · omega
      obtain ⟨ua, uc, hue, huI⟩ := own_BIn HUN.out hUb (by omega)
      subst hue
      have HUI := Lib.hid huI
      have HQ : Hid (∀ W, Below Z.heap.size Z W → W.cell? ⟨w0.heap.size + 2, 0, none⟩ = some (.slice (some ⟨w0.heap.size + 1, 0, none⟩) 1 1) ∧ W.cell? ⟨w0.heap.size + 2, 1, none⟩ = some (.slice none 0 0) ∧ W.cell? ⟨w0.heap.size + 2, 2, none⟩ = some (.slice none 0 0)) := by
        refine (?_ : ∀ W, _ → _)
        intro W hW
        have hc := (hW.block _ (by omega)).trans HCZ.out
        exact ⟨cell_at hc 0 rfl, cell_at hc 1 rfl, cell_at hc 2 rfl⟩
      by_cases hn0 : n = 0
      · have hws0 : ws = [] := List.eq_nil_of_length_eq_zero (by have := HN.out; omega)
        have hAo : A = ob := by
          rw [← hA, hws0, ← HOBE.out]
          show (ownW x).bytes ++ [] = _
          rw [List.append_nil]
        have hz0 : ((n : Int) == 0) = true := by simp [hn0]
        subst hAo
        have HBA : Hid (BIn w1 (fun b => b < w1.heap.size) oa oc A) := HOI.out.mv (fun b hb => HBE.out.block b hb) (fun b hb => by have hb' : b < Z.heap.size := hb; omega)
        clear hws0 hn0 hte hW3 hW2 hWb hABs hk16 hml16 hALn hsm hfit hU hA hUb hAll huI HDEC0 HAL40 HENC0 HAL HUN
        have HIA := Lib.hid HBA.out.isB
        have hde := decodeP_any (some ⟨w0.heap.size + 1, 0, none⟩) none none 1 0 0 1 0 0 scB 0 oa A.length oc A w1 (tabs_below HT.out HBW.out) rfl rfl rfl fitSB (heldSc_mv HHZ.out HBE.out) HBA.out.isB HBA.out.2.2.2.1 HBA.out.2.2.2.2 (fun h => absurd h noText)
        obtain ⟨q0, q1, q2⟩ := HQ.out w1 HBE.out
        
        go_wp2_with fail
        refine hde.mono ?_
        rintro e V1 ⟨hor, hbv⟩
        clear hde q0 q1 q2
        rcases hor with ⟨hno, rfl⟩ | ⟨_, hlt, rfl⟩ | ⟨_, _, ⟨er, _, hde, _⟩ | ⟨y, v, hde, rfl, hv⟩⟩
        · exact absurd (⟨formB, by decide, by decide⟩ : GoodM scB 0) hno
        · exact absurd hlt (by have := HAL4.out; omega)
        · rw [HDEC.out] at hde; cases hde
        rw [HDEC.out] at hde
        have hy : outX x ws = y := by injection hde
        subst hy
        rw [norm_out] at hv
        have hvb := hbv.size
        have HV1 := Lib.hid hbv
        have hZV := HBE.out.trans (hbv.mono HBE.out.size)
        have HZV := Lib.hid hZV
        have HWV := Lib.hid (HBW.out.trans (hbv.mono HBW.out.size))
        have hen := encode_any (some ⟨w0.heap.size + 1, 0, none⟩) none none 1 0 0 1 0 0 scB 16 0 V1 (tabs_below HT.out HWV.out) rfl rfl rfl fitSB (heldSc_mv HHZ.out hZV) v (outN x ws) (hv.mv (fun _ _ => rfl) (fun b hb => hb.2)) HFG.out HRG.out HBN.out
        have hfm := val_form hv
        obtain ⟨q0, q1, q2⟩ := HQ.out V1 hZV
        clear hv hde hbv hZV hfm
        go_wp2_with fail
        refine hen.mono ?_
        rintro e V2 ⟨hor, hb2⟩
        rcases hor with ⟨hno, rfl⟩ | ⟨_, ea, ec, rfl, heb⟩
        · exact absurd HFX.out hno
        have e1 : encE scB 16 (outN x ws) = 0 := by unfold encE; rw [if_pos HEL.out]
        have e2 : encLz scB 16 (outN x ws) = encB scB 16 (outN x ws) := by unfold encLz; rw [if_pos HEL.out]
        rw [e1, e2]
        rw [e2] at heb
        obtain ⟨EB, hEB⟩ : ∃ E, encB scB 16 (outN x ws) = E := ⟨_, rfl⟩
        rw [hEB] at heb ⊢
        have hEE := HENC.out
        rw [hEB] at hEE
        have h2v := HZV.out.trans (hb2.mono HZV.out.size)
        have h1v := HWV.out.trans (hb2.mono HWV.out.size)
        have HV2 := Lib.hid h1v
        have hcE := run_strT 9 Tryz.underlying9 V2 ea EB.length ec EB heb.isB
        have hcO := run_strT 9 Tryz.underlying9 V2 oa A.length oc A (isB_old HOI.out.isB h2v)
        have hw2 : Below w1.heap.size w1 V2 := HV1.out.trans (hb2.mono HV1.out.size)
        have hcU := run_strT 9 Tryz.underlying9 V2 ua U.length uc U (isB_old HUI.out.isB hw2)
        have hst := str_two A U
        have hsz : (mkB (u8s A)).size + (mkB (u8s U)).size ≤ 9223372036854775807 := by rw [mkB_size, mkB_size, u8s_len, u8s_len]; omega
        clear hen q0 q1 q2 e1 e2 hEB heb hb2 h2v h1v hw2
        by_cases hx0 : x = 0
        · subst hx0
          rw [if_pos rfl, List.nil_append] at hEE
          subst hEE
          generalize mkB (u8s EB) = SE at *
          generalize mkB (u8s A) = SO at *
          clear hst
          go_wp2_with fail
          go_ret
          exact ⟨rfl, HV2.out⟩
        · have dx : (x == 0) = false := by simp [hx0]
          rw [if_neg hx0] at hEE
          rw [← hEE] at hst
          generalize mkB (u8s EB) = SE at *
          generalize mkB (u8s A) = SO at *
          generalize mkB (u8s U) = SU at *
          clear hEE
          go_wp2_with fail
          go_ret
          exact ⟨rfl, HV2.out⟩
      · have hne : ws ≠ [] := fun e => hn0 (by rw [← HN.out, e]; rfl)
        have hAV : allV x ws = A := by unfold allV; rw [if_neg hne]; exact hA
        rw [hAV] at HAL
        have hz0 : ((n : Int) == 0) = false := by simp [hn0]
        obtain ⟨aa, ac, hae, haI⟩ := own_BIn HAL.out (by rw [← hA]; exact hABs) (by omega)
        subst hae
        have HBA : Hid (BIn w1 (fun b => b < w1.heap.size) aa ac A) := haI.mv (fun _ _ => rfl) (fun b hb => hb.2)
        clear hne hAV hte hW3 hW2 hWb hABs hk16 hml16 hALn hsm hfit hU hA hUb hAll huI HDEC0 HAL40 HENC0 HAL HUN haI
        have HIA := Lib.hid HBA.out.isB
        have hde := decodeP_any (some ⟨w0.heap.size + 1, 0, none⟩) none none 1 0 0 1 0 0 scB 0 aa A.length ac A w1 (tabs_below HT.out HBW.out) rfl rfl rfl fitSB (heldSc_mv HHZ.out HBE.out) HBA.out.isB HBA.out.2.2.2.1 HBA.out.2.2.2.2 (fun h => absurd h noText)
        obtain ⟨q0, q1, q2⟩ := HQ.out w1 HBE.out
        
        go_wp2_with fail
        refine hde.mono ?_
        rintro e V1 ⟨hor, hbv⟩
        clear hde q0 q1 q2
        rcases hor with ⟨hno, rfl⟩ | ⟨_, hlt, rfl⟩ | ⟨_, _, ⟨er, _, hde, _⟩ | ⟨y, v, hde, rfl, hv⟩⟩
        · exact absurd (⟨formB, by decide, by decide⟩ : GoodM scB 0) hno
        · exact absurd hlt (by have := HAL4.out; omega)
        · rw [HDEC.out] at hde; cases hde
        rw [HDEC.out] at hde
        have hy : outX x ws = y := by injection hde
        subst hy
        rw [norm_out] at hv
        have hvb := hbv.size
        have HV1 := Lib.hid hbv
        have hZV := HBE.out.trans (hbv.mono HBE.out.size)
        have HZV := Lib.hid hZV
        have HWV := Lib.hid (HBW.out.trans (hbv.mono HBW.out.size))
        have hen := encode_any (some ⟨w0.heap.size + 1, 0, none⟩) none none 1 0 0 1 0 0 scB 16 0 V1 (tabs_below HT.out HWV.out) rfl rfl rfl fitSB (heldSc_mv HHZ.out hZV) v (outN x ws) (hv.mv (fun _ _ => rfl) (fun b hb => hb.2)) HFG.out HRG.out HBN.out
        have hfm := val_form hv
        obtain ⟨q0, q1, q2⟩ := HQ.out V1 hZV
        clear hv hde hbv hZV hfm
        go_wp2_with fail
        refine hen.mono ?_
        rintro e V2 ⟨hor, hb2⟩
        rcases hor with ⟨hno, rfl⟩ | ⟨_, ea, ec, rfl, heb⟩
        · exact absurd HFX.out hno
        have e1 : encE scB 16 (outN x ws) = 0 := by unfold encE; rw [if_pos HEL.out]
        have e2 : encLz scB 16 (outN x ws) = encB scB 16 (outN x ws) := by unfold encLz; rw [if_pos HEL.out]
        rw [e1, e2]
        rw [e2] at heb
        obtain ⟨EB, hEB⟩ : ∃ E, encB scB 16 (outN x ws) = E := ⟨_, rfl⟩
        rw [hEB] at heb ⊢
        have hEE := HENC.out
        rw [hEB] at hEE
        have h2v := HZV.out.trans (hb2.mono HZV.out.size)
        have h1v := HWV.out.trans (hb2.mono HWV.out.size)
        have HV2 := Lib.hid h1v
        have hcE := run_strT 9 Tryz.underlying9 V2 ea EB.length ec EB heb.isB
        have hcO := run_strT 9 Tryz.underlying9 V2 oa ob.length oc ob (isB_old HOI.out.isB h2v)
        have hw2 : Below w1.heap.size w1 V2 := HV1.out.trans (hb2.mono HV1.out.size)
        have hcU := run_strT 9 Tryz.underlying9 V2 ua U.length uc U (isB_old HUI.out.isB hw2)
        have hst := str_two ob U
        have hsz : (mkB (u8s ob)).size + (mkB (u8s U)).size ≤ 9223372036854775807 := by rw [mkB_size, mkB_size, u8s_len, u8s_len]; omega
        clear hen q0 q1 q2 e1 e2 hEB heb hb2 h2v h1v hw2
        by_cases hx0 : x = 0
        · subst hx0
          rw [if_pos rfl, List.nil_append] at hEE
          subst hEE
          generalize mkB (u8s EB) = SE at *
          generalize mkB (u8s ob) = SO at *
          clear hst
          go_wp2_with fail
          go_ret
          exact ⟨rfl, HV2.out⟩
        · have dx : (x == 0) = false := by simp [hx0]
          rw [if_neg hx0] at hEE
          rw [← hEE] at hst
          generalize mkB (u8s EB) = SE at *
          generalize mkB (u8s ob) = SO at *
          generalize mkB (u8s U) = SU at *
          clear hEE
          go_wp2_with fail
          go_ret
          exact ⟨rfl, HV2.out⟩
end Go.Proofs.YtfhmombnipfimabGreatDoor
