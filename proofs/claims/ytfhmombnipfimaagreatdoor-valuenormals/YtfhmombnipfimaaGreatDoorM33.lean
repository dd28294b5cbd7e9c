/-
  The walk over the document's Normal.
-/
import Derived.Test.YtfhmombnipfimaaGreatDoorM27
import Derived.Test.YtfhmombnipfimaaGreatDoorM10
import Derived.Test.YtfhmombnipfimaaGreatDoorM28
import Derived.Test.YtfhmombnipfimaaGreatDoorM32
import Derived.Test.YtfhmombnipfimaaGreatDoorM16
import Derived.Test.YtfhmombnipfimaaGreatDoorM30
import Derived.Deep.Cut
import Derived.Deep.DeepCutAuto
import Derived.Deep.RegionHeldLaw
namespace Go.Proofs.YtfhmombnipfimaaGreatDoor
set_option linter.unusedVariables false
open Go.ChangeShapes Go.WideShapes Go.ChangeAt Go.RowKit

theorem norm_not {ms : List MD} {f : Nat} {x : Nd} (h : x.kind ≠ 7) : normN ms f x = x := norm_else ms f x h
set_option maxHeartbeats 64000000 in
set_option maxRecDepth 20000 in
theorem normR_any (ma ea ta : Option Addr) (nm ne nt mc ec tc : Nat) (ms : List MD) (hnm : ms.length = nm) (hok : TyOK ms) : ∀ (f : Nat) (x z : Nd) (la : Option Addr) (ln lc : Nat) (w : World), z = cn x → x.kind = 7 → GoodT ms f x → HeldM w (fun b => b < w.heap.size) (.slice ma nm mc) ms → FitG 100000 10000 f x → HeldG clS w (fun b => b < w.heap.size) f (.slice la ln lc) x.fields → x.fields.length = ln →
    Calls Tryz.prog 17 #[.agg #[.slice ma nm mc, .slice ea ne ec, .slice ta nt tc], .agg #[.int .i64 z.kind, .int .i64 z.n, .int .u64 z.u, .bool z.b, .string (mkB z.s), .int .i64 z.type, .slice la ln lc]] w fun e w' => OurAns f w (normN ms f x) e w' := by
  intro f
  induction f using Nat.strongRecOn with
  | _ f ih =>
  intro x z la ln lc w hz hx7 hgood hHM hfit hHG hln
  have hzk : z.kind = 7 := by rw [hz, cn_kind (by decide) (by decide)]; exact hx7
  have hzf : z.fields = x.fields := by rw [hz]; exact cn_fields hx7
  have hzs : z.s = x.s := by rw [hz]; exact cn_s (.inr (.inr hx7))
  have hzt : z.type = x.type := by rw [hz]; exact cn_type hx7
  have hNI := norm_is (ms := ms) (f := f) hx7 (fun h0 => by subst h0; exact hHG.1)
  have hg0 : 0 ≤ x.type ∧ x.type < (ms.length : Int) := by
    cases f with
    | zero => exact hgood
    | succ f => exact hgood.1
  obtain ⟨zk, zn, zu, zb, zs, zt, zf⟩ := z
  dsimp only at hzk hzf hzs hzt ⊢
  subst hzk
  obtain ⟨q, hq⟩ : ∃ q : Nat, zt = (q : Int) := ⟨zt.toNat, by rw [hzt]; omega⟩
  subst hq
  have HRN : Hid (normN ms f x = ⟨7, x.n, x.u, x.b, zs, (q : Int), keptL ms (normF ms f) (q : Int) zf⟩) := by
    refine (?_ : _ = _)
    rw [hNI, hx7, hzs, hzt, hzf]
  have HGD : Hid (∀ p ∈ zf, ∀ f', f = f' + 1 → (∃ (i : Nat) (fd : FD), isFirst (fieldsOf ms (q : Int)) p.1 i fd) ∧ p.2 ≠ [] ∧ ∀ y ∈ p.2, (1 ≤ y.kind ∧ y.kind ≤ 7) ∧ (y.kind = 7 → GoodT ms f' y)) := by
    refine (?_ : ∀ p ∈ zf, _)
    rintro p hp f' rfl
    rw [hzf] at hp
    have := hgood.2 p hp
    rw [← hzt] at this
    exact this
  have HFT : Hid (∀ p ∈ zf, ∀ f', f = f' + 1 → p.2.length ≤ 10000 ∧ ∀ y ∈ p.2, FitG 100000 10000 f' y) := by
    refine (?_ : ∀ p ∈ zf, _)
    rintro p hp f' rfl
    rw [hzf] at hp
    exact hfit.2.2 p hp
  have HL1 : Hid (∀ f', f = f' + 1 → ln ≤ 10000) := by
    refine (?_ : ∀ f', _)
    rintro f' rfl
    have := hfit.2.1
    omega
  rw [← hzf] at hHG hln
  have hqn : q < nm := by have := hg0.2; rw [← hzt, hnm] at this; omega
  obtain ⟨Y, hY, hC, hb, hYs⟩ := box_new w #[.slice ma nm mc, .slice ea ne ec, .slice ta nt tc] 26
  obtain ⟨U, hU, hE, hUb, hUs⟩ := box_new Y #[.int .i64 7, .int .i64 zn, .int .u64 zu, .bool zb, .string (mkB zs), .int .i64 (q : Int), .slice la ln lc] 30
  obtain ⟨T, hTq, hG, hTb, hTs⟩ := box_new U #[.int .i64 0, .int .i64 0, .int .u64 0, .bool false, .string ⟨#[]⟩, .int .i64 0, .slice none 0 0] 30
  obtain ⟨V, hV, hD, hVb, hVs⟩ := box_new T #[.int .i64 7, .int .i64 0, .int .u64 0, .bool false, .string (mkB zs), .int .i64 (q : Int), .slice none 0 0] 30
  have HY := Lib.hid hY
  have HU := Lib.hid hU
  have HTT := Lib.hid hTq
  have HV := Lib.hid hV
  have HTS : Hid (T.heap.size = w.heap.size + 3) := by
    refine (?_ : _ = _)
    omega
  rw [hYs] at hE
  rw [hUs, hYs] at hG
  rw [hTs, hUs, hYs] at hD
  have HTV := Lib.hid hVb
  have hBV := hb.trans ((hUb.trans ((hTb.trans (hVb.mono hTb.size)).mono hUb.size)).mono hb.size)
  have HBV := Lib.hid hBV
  have HCV : Hid (V.heap[w.heap.size]? = some (.cells #[.slice ma nm mc, .slice ea ne ec, .slice ta nt tc] 26 (0, 0))) := (hVb.block _ (by omega)).trans ((hTb.block _ (by omega)).trans ((hUb.block _ (by omega)).trans hC))
  have HEV : Hid (V.heap[w.heap.size + 1]? = some (.cells #[.int .i64 7, .int .i64 zn, .int .u64 zu, .bool zb, .string (mkB zs), .int .i64 (q : Int), .slice la ln lc] 30 (0, 0))) := (hVb.block _ (by omega)).trans ((hTb.block _ (by omega)).trans hE)
  have HZV : Hid (V.heap[w.heap.size + 2]? = some (.cells #[.int .i64 0, .int .i64 0, .int .u64 0, .bool false, .string ⟨#[]⟩, .int .i64 0, .slice none 0 0] 30 (0, 0))) := (hVb.block _ (by omega)).trans hG
  have HDV : Hid (V.heap[w.heap.size + 3]? = some (.cells #[.int .i64 7, .int .i64 0, .int .u64 0, .bool false, .string (mkB zs), .int .i64 (q : Int), .slice none 0 0] 30 (0, 0))) := hD
  have hVl : w.heap.size + 4 ≤ V.heap.size := by omega
  have u5 : T.cell? ⟨w.heap.size + 1, 5, none⟩ = some (.int .i64 (q : Int)) := cell_at ((hTb.block _ (by omega)).trans hE) 5 rfl
  have u4 : T.cell? ⟨w.heap.size + 1, 4, none⟩ = some (.string (mkB zs)) := cell_at ((hTb.block _ (by omega)).trans hE) 4 rfl
  have v6 : V.cell? ⟨w.heap.size + 1, 6, none⟩ = some (.slice la ln lc) := cell_at HEV.out 6 rfl
  obtain ⟨m, hm⟩ : ∃ m, ms[q]? = some m := ⟨_, List.getElem?_eq_getElem (by omega)⟩
  have HFO : Hid (fieldsOf ms (q : Int) = m.fields) := by
    refine (?_ : _ = _)
    unfold fieldsOf
    rw [Int.toNat_natCast, hm]
  have hmm := List.mem_of_getElem? hm
  obtain ⟨g, oo, c0, ka, kc, hsl, hg, e0, e1, hrow⟩ := HeldN.at hHM (W := V) (fun b hb => hBV.block b hb) hm
  rw [hnm] at hsl
  obtain ⟨rfl, rfl⟩ := slice_two hsl
  obtain ⟨hml, hmt⟩ := hok m hmm
  obtain ⟨mname, mfs⟩ := m
  dsimp only at hrow e0 e1 hml HFO
  obtain ⟨nf, hnf⟩ : ∃ n, mfs.length = n := ⟨_, rfl⟩
  have HNF := Lib.hid hnf
  rw [hnf] at hrow e1 hml
  have hgN : g < w.heap.size := hg
  have HSO : Hid (∀ W, Below (w.heap.size + 3) V W → W.cell? ⟨w.heap.size, 0, none⟩ = some (.slice (some ⟨g, oo, none⟩) nm mc) ∧ W.cell? ⟨w.heap.size, 1, none⟩ = some (.slice ea ne ec) ∧ W.cell? ⟨w.heap.size, 2, none⟩ = some (.slice ta nt tc) ∧ W.cell? ⟨w.heap.size + 1, 5, none⟩ = some (.int .i64 (q : Int)) ∧ W.cell? ⟨w.heap.size + 1, 6, none⟩ = some (.slice la ln lc) ∧ W.cell? ⟨g, oo + q * 2, none⟩ = some (.string (mkB mname)) ∧ W.cell? ⟨g, oo + q * 2 + 1, none⟩ = some (.slice ka nf kc)) := by
    refine (?_ : ∀ W, _ → _)
    intro W hW
    have h1 := (hW.block _ (by omega)).trans HCV.out
    have h2 := (hW.block _ (by omega)).trans HEV.out
    exact ⟨cell_at h1 0 rfl, cell_at h1 1 rfl, cell_at h1 2 rfl, cell_at h2 5 rfl, cell_at h2 6 rfl, (hW.cell (by show g < _; omega)).trans e0, (hW.cell (by show g < _; omega)).trans e1⟩
  have HROW : Hid (∀ W, Below (w.heap.size + 3) V W → RowsIn W (fun b => b < W.heap.size) 5 fdrow (.slice ka nf kc) mfs) := fun W hW => (RowsIn.old hrow fun b hb => hW.block b (by have hb' : b < w.heap.size := hb; omega)).more fun b hb => by have hb' : b < w.heap.size := hb; have := hW.size; omega
  have HHG := Lib.hid hHG
  have HLN := Lib.hid hln
  have HHM := Lib.hid hHM
  have HIH := Lib.hid ih
  have hq0 : (0 : Int) ≤ (q : Int) := by omega
  have hq1 : (q : Int) < (nm : Int) := by omega
  clear hC hY hb hYs hU hE hUb hUs hTq hG hTb hTs hV hD hVb hVs hBV hsl hrow hnf hm hmm hmt hg e0 e1 hHG hln hHM ih hz hx7 hgood hfit hzf hzs hzt hNI hg0 hok hqn hnm
  go_enter Tryz.func17, Tryz.ntmps17
  go_upto_region 1 with fail
  rw [HY.out, HU.out, HTT.out]
  go_upto_region 2 with fail
  rw [HV.out, HTS.out]
  clear u5 u4
  go_wp2_with fail
  clear v6
  go_loopw [20] (fun i wr => ∃ (k : Nat) (fv : Value) (rs : List (List Value)), i = .int .i64 (k : Int) ∧ k ≤ ln ∧ Below (w.heap.size + 3) V wr ∧ w.heap.size + 4 ≤ wr.heap.size ∧ wr.heap[w.heap.size + 3]? = some (.cells #[.int .i64 7, .int .i64 0, .int .u64 0, .bool false, .string (mkB zs), .int .i64 (q : Int), fv] 30 (0, 0)) ∧ Gr (FRs clS (f - 1)) wr (w.heap.size + 4) 81 2 fv (keptL ms (normF ms f) (q : Int) (zf.take k)) rs) (fun i _ => ln - (intOf i).toNat)
  case atStart => exact ⟨0, _, [], rfl, Nat.zero_le _, Below.refl _ _, hVl, HDV.out, Gr.nil _ _ _ _ _⟩
  case round =>
    generalize wr = w1 at *
    obtain ⟨k, fv, rs, rfl, hk, hbel, hws, hbx, hgr⟩ := hrel
    obtain ⟨fva, fvc, hfv⟩ := own_slice hgr.own
    obtain ⟨fm, hfm⟩ : ∃ n, (keptL ms (normF ms f) (q : Int) (zf.take k)).length = n := ⟨_, rfl⟩
    have hfmk : fm ≤ k := by
      have h1 := keptL_len ms (normF ms f) (q : Int) (zf.take k)
      rw [hfm] at h1
      have h2 := List.length_take_le k zf
      omega
    rw [hfm] at hfv
    subst hfv
    have HFM := Lib.hid hfm
    have HBE := Lib.hid hbel
    have HBX := Lib.hid hbx
    have HGR := Lib.hid hgr
    have hBw := HBV.out.trans (hbel.mono (by omega))
    have HBW := Lib.hid hBw
    have HFB : Hid (∀ b, (Value.slice fva fm fvc).ownBlock = some b → w.heap.size + 4 ≤ b ∧ b < w1.heap.size) := hgr.blk
    clear hbx hgr hfm HDV
    by_cases hkn : k < ln
    · obtain ⟨y, hy⟩ : ∃ y, zf[k]? = some y := ⟨_, List.getElem?_eq_getElem (by have := HLN.out; omega)⟩
      obtain ⟨f', gg, go, gc, va, vc, hf', hsl, hgg, e0, e1, hvals⟩ := HeldG.at HHG.out (W := w1) (fun b hb => hBw.block b hb) hy
      subst hf'
      rw [HLN.out] at hsl
      obtain ⟨rfl, rfl⟩ := slice_two hsl
      have HTK := Lib.hid (keptL_step (ms := ms) (g := normF ms (f' + 1)) (t := (q : Int)) hy)
      obtain ⟨⟨at', fd, hfi⟩, hne, hkid⟩ := HGD.out y (List.mem_of_getElem? hy) f' rfl
      rw [HFO.out] at hfi
      obtain ⟨hfl1, hfl2⟩ := HFT.out y (List.mem_of_getElem? hy) f' rfl
      have hln1 := HL1.out f' rfl
      have HKE : Hid (keepB (fieldsOf ms (q : Int)) y = (fd.rep || !(match y.2[0]? with
          | none => true
          | some y => defP y))) := by
        refine (?_ : _ = _)
        unfold keepB
        rw [HFO.out, firstF_is hfi]
        rfl
      obtain ⟨ynum, ys⟩ := y
      dsimp only at hvals e0 e1 hfl1 hfl2 hne hkid HTK HKE hfi
      obtain ⟨mv, hmv⟩ : ∃ n, ys.length = n := ⟨_, rfl⟩
      have HMV := Lib.hid hmv
      have hmv1 : 0 < mv := by
        rw [← hmv]
        exact List.length_pos_iff.2 hne
      rw [hmv] at e1 hvals hfl1
      have HFL2 := Lib.hid hfl2
      have HKD := Lib.hid hkid
      have HVA := Lib.hid hvals
      have HFI := Lib.hid hfi
      have hatl : at' < nf := by have := (List.getElem?_eq_some_iff.1 hfi.1).1; have := HNF.out; omega
      have hk0 : (0 : Int) ≤ (k : Int) := by omega
      have hk1 : (k : Int) < (ln : Int) := by omega
      have hwq : IntKind.i64.wrap ((k : Int) + 1) = (k : Int) + 1 := by rw [IntKind.wrap_i64]; omega
      obtain ⟨z0, z1, z2, z5, z6, z7, z8⟩ := HSO.out w1 hbel
      have hggN : gg < w.heap.size := hgg
      clear hsl hy hgg hvals hmv hfl2 hne hkid hfi hbel hBw
      have hC : (w1.alloc (.cells #[.int .i64 ynum, .slice va mv vc] 81)).heap[w1.heap.size]? = some (.cells #[.int .i64 ynum, .slice va mv vc] 81 (0, 0)) := alloc_heap_new _ _
      have hCb : Below w1.heap.size w1 (w1.alloc (.cells #[.int .i64 ynum, .slice va mv vc] 81)) := (Below.refl _ w1).alloc (Nat.le_refl _) _
      go_upto_region 6 with fail
      generalize (w1.alloc (.cells #[.int .i64 ynum, .slice va mv vc] 81)) = X at *
      have HX := Lib.hid hC
      have hXs : w1.heap.size + 1 ≤ X.heap.size := by have := (Array.getElem?_eq_some_iff.1 hC).1; omega
      have HWX := Lib.hid hCb
      have HVX : Hid (Below (w.heap.size + 3) V X) := HBE.out.trans (hCb.mono (by omega))
      have HSX : Hid (∀ W, Below X.heap.size X W → Below (w.heap.size + 3) V W) := fun W hW => HVX.out.trans (hW.mono (by omega))
      have hfin : ∀ W, Below X.heap.size X W → Calls Tryz.prog 36 #[.agg #[.string (mkB mname), .slice ka nf kc], .int .i64 ynum] W fun e w' => e = .returned (.int .i64 (at' : Int)) ∧ Below X.heap.size X w' := fun W hW => (find_any mname ka nf kc mfs ynum W HNF.out hml (HROW.out W (HSX.out W hW))).mono fun e w' ⟨r, h1, h2, h3⟩ => by
        rcases h2 with ⟨_, hno⟩ | ⟨j, x', hr, hf⟩
        · exact absurd HFI.out.2.1 (hno _ _ HFI.out.1)
        · obtain ⟨rfl, _⟩ := isFirst_one hf HFI.out
          exact ⟨by rw [h1, hr], hW.trans (h3.mono hW.size)⟩
      obtain ⟨gf, of, cf, hslf, hgf, -⟩ := fd_at (HROW.out X HVX.out) (W := X) (fun b hb => rfl) HFI.out.1
      rw [HNF.out] at hslf
      obtain ⟨rfl, rfl⟩ := slice_two hslf
      have HFDC : Hid (∀ W, Below X.heap.size X W → W.cell? ⟨gf, of + at' * 5, none⟩ = some (.int .i64 fd.num) ∧ W.cell? ⟨gf, of + at' * 5 + 1, none⟩ = some (.string (mkB fd.name)) ∧ W.cell? ⟨gf, of + at' * 5 + 2, none⟩ = some (.int .i64 fd.kind) ∧ W.cell? ⟨gf, of + at' * 5 + 3, none⟩ = some (.bool fd.rep) ∧ W.cell? ⟨gf, of + at' * 5 + 4, none⟩ = some (.int .i64 fd.type)) := by
        refine (?_ : ∀ W, _ → _)
        intro W hW
        obtain ⟨g9, o9, c9, hs9, _, q0, q1, q2, q3, q4⟩ := fd_at (HROW.out W (HSX.out W hW)) (W := W) (fun b hb => rfl) HFI.out.1
        obtain ⟨ha9, _⟩ := slice_two hs9
        injection ha9 with ha9
        injection ha9 with h1 h2
        subst h1 h2
        exact ⟨q0, q1, q2, q3, q4⟩
      have s0 : ∀ W, Below X.heap.size X W → W.cell? ⟨w.heap.size, 0, none⟩ = some (.slice (some ⟨g, oo, none⟩) nm mc) := fun W hW => (HSO.out W (HSX.out W hW)).1
      have s5 : ∀ W, Below X.heap.size X W → W.cell? ⟨w.heap.size + 1, 5, none⟩ = some (.int .i64 (q : Int)) := fun W hW => (HSO.out W (HSX.out W hW)).2.2.2.1
      have s7 : ∀ W, Below X.heap.size X W → W.cell? ⟨g, oo + q * 2, none⟩ = some (.string (mkB mname)) := fun W hW => (HSO.out W (HSX.out W hW)).2.2.2.2.2.1
      have s8 : ∀ W, Below X.heap.size X W → W.cell? ⟨g, oo + q * 2 + 1, none⟩ = some (.slice (some ⟨gf, of, none⟩) nf kc) := fun W hW => (HSO.out W (HSX.out W hW)).2.2.2.2.2.2
      have x0 : ∀ W, Below X.heap.size X W → W.cell? ⟨w1.heap.size, 0, none⟩ = some (.int .i64 ynum) := fun W hW => (hW.cell (by simp; omega)).trans (cell_at HX.out 0 rfl)
      have d0 : ∀ W, Below X.heap.size X W → W.cell? ⟨gf, of + at' * 5, none⟩ = some (.int .i64 fd.num) := fun W hW => (HFDC.out W hW).1
      have d1 : ∀ W, Below X.heap.size X W → W.cell? ⟨gf, of + at' * 5 + 1, none⟩ = some (.string (mkB fd.name)) := fun W hW => (HFDC.out W hW).2.1
      have d2 : ∀ W, Below X.heap.size X W → W.cell? ⟨gf, of + at' * 5 + 2, none⟩ = some (.int .i64 fd.kind) := fun W hW => (HFDC.out W hW).2.2.1
      have d3 : ∀ W, Below X.heap.size X W → W.cell? ⟨gf, of + at' * 5 + 3, none⟩ = some (.bool fd.rep) := fun W hW => (HFDC.out W hW).2.2.2.1
      have d4 : ∀ W, Below X.heap.size X W → W.cell? ⟨gf, of + at' * 5 + 4, none⟩ = some (.int .i64 fd.type) := fun W hW => (HFDC.out W hW).2.2.2.2
      have hat1 : (0 : Int) ≤ (at' : Int) := by omega
      have hat2 : (at' : Int) < (nf : Int) := by omega
      have hbr : Below X.heap.size X X.drew := (Below.refl _ _).drew
      have hba : ∀ W o, Below X.heap.size X W → Below X.heap.size X (W.alloc o) := fun W o h => h.alloc h.size o
      have hbd : ∀ o, Below X.heap.size X (X.alloc o).drew := fun o => ((Below.refl _ X).alloc (Nat.le_refl _) o).drew
      clear hC hCb e0 e1 z0 z1 z2 z5 z6 z7 z8 hslf hgf
      go_cut [8] (fun v wx => ∃ D : Nat, v = .pointer (some ⟨D, 0, none⟩) ∧ wx.heap[D]? = some (.cells #[.int .i64 fd.num, .string (mkB fd.name), .int .i64 fd.kind, .bool fd.rep, .int .i64 fd.type] 84 (0, 0)) ∧ Below X.heap.size X wx)
      case first =>
        clear HIH
        have hS0 := hbr
        clear hbr hba hbd
        refine wp_region_held_drew (S := fun W => Below X.heap.size X W) (by kernel_rfl) hS0 (fun _ => ?_)
        refine T_on 0 (.pointer (some ⟨w.heap.size, 0, none⟩)) rfl (by kernel_rfl) (fun _ _ _ h => h) hS0 (fun W hW => by go_simp) ?_
        refine T_on 1 (.slice (some ⟨g, oo, none⟩) nm mc) rfl (by kernel_rfl) (fun _ _ _ h => h) hS0 (fun W hW => by have c := s0 W hW; go_simp) ?_
        refine T_on 2 (.pointer (some ⟨w.heap.size + 1, 5, none⟩)) rfl (by kernel_rfl) (fun _ _ _ h => h) hS0 (fun W hW => by go_simp) ?_
        refine T_on 3 (.int .i64 (q : Int)) rfl (by kernel_rfl) (fun _ _ _ h => h) hS0 (fun W hW => by have c := s5 W hW; go_simp) ?_
        refine T_on 4 (.pointer (some ⟨g, oo + q * 2, none⟩)) rfl (by kernel_rfl) (fun _ _ _ h => h) hS0 (fun W hW => by go_simp) ?_
        refine T_on 5 (.pointer (some ⟨g, oo + q * 2 + 1, none⟩)) rfl (by kernel_rfl) (fun _ _ _ h => h) hS0 (fun W hW => by go_simp) ?_
        refine T_on 6 (.slice (some ⟨gf, of, none⟩) nf kc) rfl (by kernel_rfl) (fun _ _ _ h => h) hS0 (fun W hW => by have c := s8 W hW; go_simp) ?_
        refine T_on 7 (.pointer (some ⟨w.heap.size, 0, none⟩)) rfl (by kernel_rfl) (fun _ _ _ h => h) hS0 (fun W hW => by go_simp) ?_
        refine T_on 8 (.slice (some ⟨g, oo, none⟩) nm mc) rfl (by kernel_rfl) (fun _ _ _ h => h) hS0 (fun W hW => by have c := s0 W hW; go_simp) ?_
        refine T_on 9 (.pointer (some ⟨w.heap.size + 1, 5, none⟩)) rfl (by kernel_rfl) (fun _ _ _ h => h) hS0 (fun W hW => by go_simp) ?_
        refine T_on 10 (.int .i64 (q : Int)) rfl (by kernel_rfl) (fun _ _ _ h => h) hS0 (fun W hW => by have c := s5 W hW; go_simp) ?_
        refine T_on 11 (.pointer (some ⟨g, oo + q * 2, none⟩)) rfl (by kernel_rfl) (fun _ _ _ h => h) hS0 (fun W hW => by go_simp) ?_
        refine T_on 12 (.agg #[.string (mkB mname), .slice (some ⟨gf, of, none⟩) nf kc]) rfl (by kernel_rfl) (fun _ _ _ h => h) hS0 (fun W hW => by have c := s7 W hW; have c2 := s8 W hW; go_simp) ?_
        refine T_on 13 (.pointer (some ⟨w1.heap.size, 0, none⟩)) rfl (by kernel_rfl) (fun _ _ _ h => h) hS0 (fun W hW => by go_simp) ?_
        refine T_on 14 (.int .i64 ynum) rfl (by kernel_rfl) (fun _ _ _ h => h) hS0 (fun W hW => by have c := x0 W hW; go_simp) ?_
        refine T_two 15 18 (by kernel_rfl) rfl rfl (fun K hK => ?_) (fun K hK => ?_)
        · go_simp
          refine (hfin _ hS0).mono ?_
          rintro e W9 ⟨rfl, hW9⟩
          clear hS0
          have hS0 := hW9
          clear hW9
          dsimp only
          refine hK.out _ _ hS0 (fun _ => ?_)
          clear hK K
          refine T_on 16 (.pointer (some ⟨gf, of + at' * 5, none⟩)) rfl (by kernel_rfl) (fun _ _ _ h => h) hS0 (fun W hW => by go_simp) ?_
          refine T_on 17 (.agg #[.int .i64 fd.num, .string (mkB fd.name), .int .i64 fd.kind, .bool fd.rep, .int .i64 fd.type]) rfl (by kernel_rfl) (fun _ _ _ h => h) hS0 (fun W hW => by have c0 := d0 W hW; have c1 := d1 W hW; have c2 := d2 W hW; have c3 := d3 W hW; have c4 := d4 W hW; go_simp) ?_
          refine T_call 18 (by kernel_rfl) rfl (fun K hK => ?_)
          go_simp
          have hS1 : Below X.heap.size X (W9.alloc (.cells #[.int .i64 0, .string ⟨#[]⟩, .int .i64 0, .bool false, .int .i64 0] 84)) := hS0.alloc hS0.size _
          refine hK.out _ _ hS1 (fun _ => ?_)
          clear hK K
          have hA := alloc_heap_new W9 (.cells #[.int .i64 0, .string ⟨#[]⟩, .int .i64 0, .bool false, .int .i64 0] 84)
          have k0 : (W9.alloc (.cells #[.int .i64 0, .string ⟨#[]⟩, .int .i64 0, .bool false, .int .i64 0] 84)).cell? ⟨W9.heap.size, 0, none⟩ = some (.int .i64 0) := cell_at hA 0 rfl
          have kf0 : (W9.alloc (.cells #[.int .i64 0, .string ⟨#[]⟩, .int .i64 0, .bool false, .int .i64 0] 84)).frozen? ⟨W9.heap.size, 0, none⟩ = false := frz_at hA 0
          have k1 : (W9.alloc (.cells #[.int .i64 0, .string ⟨#[]⟩, .int .i64 0, .bool false, .int .i64 0] 84)).cell? ⟨W9.heap.size, 1, none⟩ = some (.string ⟨#[]⟩) := cell_at hA 1 rfl
          have kf1 : (W9.alloc (.cells #[.int .i64 0, .string ⟨#[]⟩, .int .i64 0, .bool false, .int .i64 0] 84)).frozen? ⟨W9.heap.size, 1, none⟩ = false := frz_at hA 1
          have k2 : (W9.alloc (.cells #[.int .i64 0, .string ⟨#[]⟩, .int .i64 0, .bool false, .int .i64 0] 84)).cell? ⟨W9.heap.size, 2, none⟩ = some (.int .i64 0) := cell_at hA 2 rfl
          have kf2 : (W9.alloc (.cells #[.int .i64 0, .string ⟨#[]⟩, .int .i64 0, .bool false, .int .i64 0] 84)).frozen? ⟨W9.heap.size, 2, none⟩ = false := frz_at hA 2
          have k3 : (W9.alloc (.cells #[.int .i64 0, .string ⟨#[]⟩, .int .i64 0, .bool false, .int .i64 0] 84)).cell? ⟨W9.heap.size, 3, none⟩ = some (.bool false) := cell_at hA 3 rfl
          have kf3 : (W9.alloc (.cells #[.int .i64 0, .string ⟨#[]⟩, .int .i64 0, .bool false, .int .i64 0] 84)).frozen? ⟨W9.heap.size, 3, none⟩ = false := frz_at hA 3
          have k4 : (W9.alloc (.cells #[.int .i64 0, .string ⟨#[]⟩, .int .i64 0, .bool false, .int .i64 0] 84)).cell? ⟨W9.heap.size, 4, none⟩ = some (.int .i64 0) := cell_at hA 4 rfl
          have kf4 : (W9.alloc (.cells #[.int .i64 0, .string ⟨#[]⟩, .int .i64 0, .bool false, .int .i64 0] 84)).frozen? ⟨W9.heap.size, 4, none⟩ = false := frz_at hA 4
          obtain ⟨Qw, hQ, hQc, _, _, hQb⟩ := set5_all hA (.int .i64 fd.num) (.string (mkB fd.name)) (.int .i64 fd.kind) (.bool fd.rep) (.int .i64 fd.type)
          have hS2 : Below X.heap.size X Qw := hS1.trans (hQb.mono hS0.size)
          have HQ := Lib.hid hQ
          clear hQ hA
          generalize W9.alloc (.cells #[.int .i64 0, .string ⟨#[]⟩, .int .i64 0, .bool false, .int .i64 0] 84) = WA at *
          refine T_call 19 (by kernel_rfl) rfl (fun K hK => ?_)
          go_simp
          rw [HQ.out]
          refine hK.out _ _ hS2 (fun _ => ?_)
          clear hK K
          refine wpAnyH_done (by kernel_rfl) ?_ _
          go_simp
          go_wp2_with fail
          go_meet
          exact ⟨W9.heap.size, rfl, hQc, hS2⟩
        · go_simp
          have hA := alloc_heap_new X (.cells #[.int .i64 0, .string ⟨#[]⟩, .int .i64 0, .bool false, .int .i64 0] 84)
          have hS1 : Below X.heap.size X ((X.alloc (.cells #[.int .i64 0, .string ⟨#[]⟩, .int .i64 0, .bool false, .int .i64 0] 84)).drew) := ((Below.refl _ X).alloc (Nat.le_refl _) _).drew
          have hAs : ((X.alloc (.cells #[.int .i64 0, .string ⟨#[]⟩, .int .i64 0, .bool false, .int .i64 0] 84)).drew).heap.size = X.heap.size + 1 := by simp
          have hA : ((X.alloc (.cells #[.int .i64 0, .string ⟨#[]⟩, .int .i64 0, .bool false, .int .i64 0] 84)).drew).heap[X.heap.size]? = some (.cells #[.int .i64 0, .string ⟨#[]⟩, .int .i64 0, .bool false, .int .i64 0] 84 (0, 0)) := hA
          refine hK.out _ _ hS1 (fun _ => ?_)
          clear hK K
          generalize (X.alloc (.cells #[.int .i64 0, .string ⟨#[]⟩, .int .i64 0, .bool false, .int .i64 0] 84)).drew = WA at *
          have hcl := find_any mname (some ⟨gf, of, none⟩) nf kc mfs ynum WA HNF.out hml (HROW.out WA (HSX.out WA hS1))
          refine T_call 15 (by kernel_rfl) rfl (fun K hK => ?_)
          go_simp
          refine hcl.mono ?_
          rintro e W9 ⟨r, rfl, h2, h3⟩
          obtain rfl : r = (at' : Int) := by
            rcases h2 with ⟨_, hno⟩ | ⟨jx, x', hr, hf⟩
            · exact absurd HFI.out.2.1 (hno _ _ HFI.out.1)
            · obtain ⟨rfl, _⟩ := isFirst_one hf HFI.out
              exact hr
          have hS2 : Below X.heap.size X W9 := hS1.trans (h3.mono (by omega))
          have hA2 := (h3.block X.heap.size (by omega)).trans hA
          clear h2 h3 hcl hA
          dsimp only
          refine hK.out _ _ hS2 (fun _ => ?_)
          clear hK K
          refine T_on 16 (.pointer (some ⟨gf, of + at' * 5, none⟩)) rfl (by kernel_rfl) (fun _ _ _ h => h) hS2 (fun W hW => by go_simp) ?_
          refine T_on 17 (.agg #[.int .i64 fd.num, .string (mkB fd.name), .int .i64 fd.kind, .bool fd.rep, .int .i64 fd.type]) rfl (by kernel_rfl) (fun _ _ _ h => h) hS2 (fun W hW => by have c0 := d0 W hW; have c1 := d1 W hW; have c2 := d2 W hW; have c3 := d3 W hW; have c4 := d4 W hW; go_simp) ?_
          have k0 : W9.cell? ⟨X.heap.size, 0, none⟩ = some (.int .i64 0) := cell_at hA2 0 rfl
          have kf0 : W9.frozen? ⟨X.heap.size, 0, none⟩ = false := frz_at hA2 0
          have k1 : W9.cell? ⟨X.heap.size, 1, none⟩ = some (.string ⟨#[]⟩) := cell_at hA2 1 rfl
          have kf1 : W9.frozen? ⟨X.heap.size, 1, none⟩ = false := frz_at hA2 1
          have k2 : W9.cell? ⟨X.heap.size, 2, none⟩ = some (.int .i64 0) := cell_at hA2 2 rfl
          have kf2 : W9.frozen? ⟨X.heap.size, 2, none⟩ = false := frz_at hA2 2
          have k3 : W9.cell? ⟨X.heap.size, 3, none⟩ = some (.bool false) := cell_at hA2 3 rfl
          have kf3 : W9.frozen? ⟨X.heap.size, 3, none⟩ = false := frz_at hA2 3
          have k4 : W9.cell? ⟨X.heap.size, 4, none⟩ = some (.int .i64 0) := cell_at hA2 4 rfl
          have kf4 : W9.frozen? ⟨X.heap.size, 4, none⟩ = false := frz_at hA2 4
          obtain ⟨Qw, hQ, hQc, _, _, hQb⟩ := set5_all hA2 (.int .i64 fd.num) (.string (mkB fd.name)) (.int .i64 fd.kind) (.bool fd.rep) (.int .i64 fd.type)
          have hS3 : Below X.heap.size X Qw := hS2.trans hQb
          have HQ := Lib.hid hQ
          clear hQ hA2
          refine T_call 19 (by kernel_rfl) rfl (fun K hK => ?_)
          go_simp
          rw [HQ.out]
          refine hK.out _ _ hS3 (fun _ => ?_)
          clear hK K
          refine wpAnyH_done (by kernel_rfl) ?_ _
          go_simp
          go_wp2_with fail
          go_meet
          exact ⟨X.heap.size, rfl, hQc, hS3⟩
      case rest =>
      obtain ⟨D, rfl, hDq, hS1⟩ := hcut
      generalize wc = U2 at *
      have HX2 := Lib.hid hS1
      have hU2s := hS1.size
      have hDl := (Array.getElem?_eq_some_iff.1 hDq).1
      have q3 : U2.cell? ⟨D, 3, none⟩ = some (.bool fd.rep) := cell_at hDq 3 rfl
      have q1 : U2.cell? ⟨w1.heap.size, 1, none⟩ = some (.slice va mv vc) := (hS1.cell (by simp; omega)).trans (cell_at HX.out 1 rfl)
      obtain ⟨KB, hKB⟩ : ∃ b, keepB (fieldsOf ms (q : Int)) (ynum, ys) = b := ⟨_, rfl⟩
      rw [hKB] at HTK HKE
      have HWU : Hid (Below w.heap.size w U2) := HBV.out.trans (((HSX.out U2 hS1)).mono (by omega))
      clear hKB hDq hfin s0 s5 s7 s8 x0 d0 d1 d2 d3 d4 hbr hba hbd hS1
      go_upto_region 7 with fail
      go_cut [55] (fun v wx => v = .bool (!KB) ∧ Below U2.heap.size U2 wx)
      case first =>
        clear HIH
        obtain ⟨rp, hrp⟩ : ∃ b, fd.rep = b := ⟨_, rfl⟩
        rw [hrp] at q3 HKE
        clear hrp
        cases rp
        case true =>
          have e : KB = true := by have := HKE.out; simpa using this
          subst e
          go_wp2_with fail
          go_meet
          exact ⟨rfl, Below.refl _ _⟩
        case false =>
          obtain ⟨c, hc⟩ : ∃ c, ys[0]? = some c := ⟨_, List.getElem?_eq_getElem (by have := HMV.out; omega)⟩
          obtain ⟨g2, o2, c2, fs2, hsl2, hg2, hcl, hheld⟩ := ValsG.at HVA.out hc
          rw [HMV.out] at hsl2
          obtain ⟨rfl, rfl⟩ := slice_two hsl2
          have hcl2 := hcl.old (HWU.out.block g2 hg2)
          obtain ⟨hkk, _⟩ := HKD.out c (List.mem_of_getElem? hc)
          have hze := zero_eq hkk.1 hkk.2
          obtain ⟨sa, sl, sc, hL⟩ : ∃ sa sl sc, (if c.kind = 7 then fs2 else .slice none 0 0) = .slice sa sl sc := by
            by_cases h7 : c.kind = 7
            · rw [if_pos h7]
              obtain ⟨sa, sc, h⟩ := HeldG.isSl (hheld (by simpa [clS] using h7))
              exact ⟨_, _, _, h⟩
            · rw [if_neg h7]; exact ⟨_, _, _, rfl⟩
          have hrowc : clS.row c fs2 = nrow (cn c) (.slice sa sl sc) := by
            show nrow (cn c) (if c.kind = 7 then fs2 else .slice none 0 0) = _
            rw [hL]
          rw [hrowc] at hcl2
          have HKB : Hid ((!zeroR (cn c)) = KB) := by
            refine (?_ : _ = _)
            have h1 := HKE.out
            rw [hc] at h1
            rw [h1, hze]; rfl
          generalize cn c = zc at *
          obtain ⟨ck, cnn, cu, cb, cs, ct, cf⟩ := zc
          have y0 : U2.cell? ⟨g2, o2, none⟩ = some (.int .i64 ck) := by have := hcl2 0 _ rfl; simpa [clS] using this
          have y1 : U2.cell? ⟨g2, o2 + 1, none⟩ = some (.int .i64 cnn) := by have := hcl2 1 _ rfl; simpa [clS] using this
          have y2 : U2.cell? ⟨g2, o2 + 2, none⟩ = some (.int .u64 cu) := by have := hcl2 2 _ rfl; simpa [clS] using this
          have y3 : U2.cell? ⟨g2, o2 + 3, none⟩ = some (.bool cb) := by have := hcl2 3 _ rfl; simpa [clS] using this
          have y4 : U2.cell? ⟨g2, o2 + 4, none⟩ = some (.string (mkB cs)) := by have := hcl2 4 _ rfl; simpa [clS] using this
          have y5 : U2.cell? ⟨g2, o2 + 5, none⟩ = some (.int .i64 ct) := by have := hcl2 5 _ rfl; simpa [clS] using this
          have y6 : U2.cell? ⟨g2, o2 + 6, none⟩ = some (.slice sa sl sc) := by have := hcl2 6 _ rfl; simpa [clS] using this
          have h := zeroR_any ck cnn cu cb cs ct cf sa sl sc U2
          have hm0 : (0 : Int) < (mv : Int) := by omega
          obtain ⟨B, hB⟩ : ∃ b, zeroR ⟨ck, cnn, cu, cb, cs, ct, cf⟩ = b := ⟨_, rfl⟩
          rw [hB] at h HKB
          clear hsl2 hc hg2 hcl hheld hcl2 hkk hze hL hrowc hB HKE
          go_wp2_with fail
          refine h.mono ?_
          rintro e W5 ⟨rfl, hb5⟩
          have HB5 := Lib.hid hb5
          clear h hb5 y0 y1 y2 y3 y4 y5 y6
          go_wp2_with fail
          go_meet
          refine ⟨?_, HB5.out⟩
          rw [← HKB.out]; simp
      case rest =>
      obtain ⟨rfl, hS1⟩ := hcut
      generalize wc = U3 at *
      have hX3 := HX2.out.trans (hS1.mono hU2s)
      have HX3 := Lib.hid hX3
      have hw13 := HWX.out.trans (hX3.mono HWX.out.size)
      have HW13 := Lib.hid hw13
      have HV3 := Lib.hid (HSX.out U3 hX3)
      have HWU3 : Hid (Below w.heap.size w U3) := HBV.out.trans (((HSX.out U3 hX3)).mono (by omega))
      have h3s := hX3.size
      have h13s := hw13.size
      have HB3 : Hid (U3.heap[w.heap.size + 3]? = some (.cells #[.int .i64 7, .int .i64 0, .int .u64 0, .bool false, .string (mkB zs), .int .i64 (q : Int), .slice fva fm fvc] 30 (0, 0))) := (hw13.block _ (by omega)).trans HBX.out
      have HG3 : Hid (Gr (FRs clS (f' + 1 - 1)) U3 (w.heap.size + 4) 81 2 (.slice fva fm fvc) (keptL ms (normF ms (f' + 1)) (q : Int) (zf.take k)) rs) := Gr.keep (mvsF clS _) HGR.out (fun b _ hb => hw13.block b hb) h13s
      have q1 : U3.cell? ⟨w1.heap.size, 1, none⟩ = some (.slice va mv vc) := (hX3.cell (by simp; omega)).trans (cell_at HX.out 1 rfl)
      have q0 : U3.cell? ⟨w1.heap.size, 0, none⟩ = some (.int .i64 ynum) := (hX3.cell (by simp; omega)).trans (cell_at HX.out 0 rfl)
      clear hS1 q3 HX2 HWU hU2s hDl HGR HBX hX3 hw13
      cases KB
      case false =>
        have HKN : Hid ((keptL ms (normF ms (f' + 1)) (q : Int) (zf.take (k + 1))) = (keptL ms (normF ms (f' + 1)) (q : Int) (zf.take k))) := by
          refine (?_ : _ = _)
          rw [HTK.out]; simp
        clear HIH
        go_wp2_with fail
        go_roundw
        case rel => exact ⟨k + 1, _, _, by go_num, by omega, HV3.out, by omega, HB3.out, by rw [HKN.out]; exact HG3.out⟩
        case measure => simp [intOf]; omega
      have HKN : Hid ((keptL ms (normF ms (f' + 1)) (q : Int) (zf.take (k + 1))) = (keptL ms (normF ms (f' + 1)) (q : Int) (zf.take k)) ++ [(ynum, ys.map (normN ms f'))]) := by
        refine (?_ : _ = _)
        rw [HTK.out]; rfl
      clear HTK HKE
      have hC : (U3.alloc (.cells #[.int .i64 ynum, .slice none 0 0] 81)).heap[U3.heap.size]? = some (.cells #[.int .i64 ynum, .slice none 0 0] 81 (0, 0)) := alloc_heap_new _ _
      have hCb : Below U3.heap.size U3 (U3.alloc (.cells #[.int .i64 ynum, .slice none 0 0] 81)) := (Below.refl _ U3).alloc (Nat.le_refl _) _
      go_upto_region 9 with fail
      generalize (U3.alloc (.cells #[.int .i64 ynum, .slice none 0 0] 81)) = R9 at *
      have HR9 := Lib.hid hC
      have HRB := Lib.hid hCb
      have hR9s : U3.heap.size + 1 ≤ R9.heap.size := by have := (Array.getElem?_eq_some_iff.1 hC).1; omega
      have r1 : R9.cell? ⟨w1.heap.size, 1, none⟩ = some (.slice va mv vc) := (hCb.cell (by simp; omega)).trans q1
      have HQ1 := Lib.hid q1
      clear hC hCb q0 q1
      go_wp2_with fail
      clear r1
      go_loopw [62] (fun i wr => ∃ (a : Nat) (vv : Value) (rs2 : List (List Value)), i = .int .i64 (a : Int) ∧ a ≤ mv ∧ Below U3.heap.size U3 wr ∧ U3.heap.size + 1 ≤ wr.heap.size ∧ wr.heap[U3.heap.size]? = some (.cells #[.int .i64 ynum, vv] 81 (0, 0)) ∧ Gr (VRs clS f') wr (U3.heap.size + 1) 30 7 vv ((ys.take a).map (normN ms f')) rs2) (fun i _ => mv - (intOf i).toNat)
      case atStart => exact ⟨0, _, [], rfl, Nat.zero_le _, HRB.out, hR9s, HR9.out, Gr.nil _ _ _ _ _⟩
      case round =>
        generalize wr = w3 at *
        obtain ⟨a, vv, rs2, rfl, hal, hbel, hws3, hbx3, hgr3⟩ := hrel
        obtain ⟨vva, vvc, hvv⟩ := own_slice hgr3.own
        have hql : ((ys.take a).map (normN ms f')).length = a := by rw [List.length_map, List.length_take, HMV.out]; omega
        rw [hql] at hvv
        subst hvv
        have HQL := Lib.hid hql
        have HB3' := Lib.hid hbel
        have HX3' := Lib.hid hbx3
        have HG3' := Lib.hid hgr3
        have hBw3 := HWU3.out.trans (hbel.mono HWU3.out.size)
        have HBW3 := Lib.hid hBw3
        have HVB : Hid (∀ b, (Value.slice vva a vvc).ownBlock = some b → U3.heap.size + 1 ≤ b ∧ b < w3.heap.size) := hgr3.blk
        have r1 : w3.cell? ⟨w1.heap.size, 1, none⟩ = some (.slice va mv vc) := (hbel.cell (by simp; omega)).trans HQ1.out
        have hV3 := HV3.out.trans (hbel.mono (by omega))
        have HV3' := Lib.hid hV3
        clear hbel hbx3 hgr3 hql hV3
        by_cases han : a < mv
        · obtain ⟨c, hc⟩ : ∃ c, ys[a]? = some c := ⟨_, List.getElem?_eq_getElem (by have := HMV.out; omega)⟩
          obtain ⟨g2, o2, c2, fs2, hsl2, hg2, hcl, hheld⟩ := ValsG.at HVA.out hc
          rw [HMV.out] at hsl2
          obtain ⟨rfl, rfl⟩ := slice_two hsl2
          have hg2N : g2 < w.heap.size := hg2
          have hcl2 := hcl.old (hBw3.block g2 hg2N)
          have HTK2 : Hid ((ys.take (a + 1)).map (normN ms f') = (ys.take a).map (normN ms f') ++ [normN ms f' c]) := by
            refine (?_ : _ = _)
            rw [show ys.take (a + 1) = ys.take a ++ [c] from take_snoc hc, List.map_append]; rfl
          have hfitc := HFL2.out c (List.mem_of_getElem? hc)
          obtain ⟨hkk, hgdc⟩ := HKD.out c (List.mem_of_getElem? hc)
          obtain ⟨sa, sl, sc, hL⟩ : ∃ sa sl sc, (if c.kind = 7 then fs2 else .slice none 0 0) = .slice sa sl sc := by
            by_cases h7 : c.kind = 7
            · rw [if_pos h7]
              obtain ⟨sa, sc, h⟩ := HeldG.isSl (hheld (by simpa [clS] using h7))
              exact ⟨_, _, _, h⟩
            · rw [if_neg h7]; exact ⟨_, _, _, rfl⟩
          have HHC : Hid (c.kind = 7 → HeldG clS w (fun b => b < w.heap.size) f' (.slice sa sl sc) c.fields ∧ c.fields.length = sl) := by
            refine (?_ : _ → _)
            intro h7
            rw [if_pos h7] at hL
            have h8 := hheld (by simpa [clS] using h7)
            obtain ⟨sa', sc', h9⟩ := HeldG.isSl h8
            refine ⟨by rw [← hL]; exact h8, ?_⟩
            rw [hL] at h9
            injection h9 with _ h10 _
            exact h10.symm
          have hrowc : clS.row c fs2 = nrow (cn c) (.slice sa sl sc) := by
            show nrow (cn c) (if c.kind = 7 then fs2 else .slice none 0 0) = _
            rw [hL]
          have HROWC := Lib.hid hrowc
          rw [hrowc] at hcl2
          obtain ⟨zc, hzc⟩ : ∃ z, z = cn c := ⟨_, rfl⟩
          rw [← hzc] at hcl2 HROWC
          have HZC := Lib.hid hzc
          have hck7 : zc.kind = 7 ↔ c.kind = 7 := by rw [hzc, cn_kind (by decide) (by decide)]
          obtain ⟨ck, cnn, cu, cb, cs, ct, cf⟩ := zc
          dsimp only at hck7
          have HCK := Lib.hid hck7
          have y0 : w3.cell? ⟨g2, o2 + a * 7, none⟩ = some (.int .i64 ck) := by have := hcl2 0 _ rfl; simpa [clS] using this
          have y1 : w3.cell? ⟨g2, o2 + a * 7 + 1, none⟩ = some (.int .i64 cnn) := by have := hcl2 1 _ rfl; simpa [clS] using this
          have y2 : w3.cell? ⟨g2, o2 + a * 7 + 2, none⟩ = some (.int .u64 cu) := by have := hcl2 2 _ rfl; simpa [clS] using this
          have y3 : w3.cell? ⟨g2, o2 + a * 7 + 3, none⟩ = some (.bool cb) := by have := hcl2 3 _ rfl; simpa [clS] using this
          have y4 : w3.cell? ⟨g2, o2 + a * 7 + 4, none⟩ = some (.string (mkB cs)) := by have := hcl2 4 _ rfl; simpa [clS] using this
          have y5 : w3.cell? ⟨g2, o2 + a * 7 + 5, none⟩ = some (.int .i64 ct) := by have := hcl2 5 _ rfl; simpa [clS] using this
          have y6 : w3.cell? ⟨g2, o2 + a * 7 + 6, none⟩ = some (.slice sa sl sc) := by have := hcl2 6 _ rfl; simpa [clS] using this
          have ha0 : (0 : Int) ≤ (a : Int) := by omega
          have ha1 : (a : Int) < (mv : Int) := by omega
          have hwa : IntKind.i64.wrap ((a : Int) + 1) = (a : Int) + 1 := by rw [IntKind.wrap_i64]; omega
          have HFC := Lib.hid hfitc
          have HGC := Lib.hid hgdc
          clear hsl2 hc hg2 hcl hheld hcl2 hfitc hgdc hkk hL hrowc hzc hck7 hBw3
          have hC : (w3.alloc (.cells #[.int .i64 ck, .int .i64 cnn, .int .u64 cu, .bool cb, .string (mkB cs), .int .i64 ct, .slice sa sl sc] 30)).heap[w3.heap.size]? = some (.cells #[.int .i64 ck, .int .i64 cnn, .int .u64 cu, .bool cb, .string (mkB cs), .int .i64 ct, .slice sa sl sc] 30 (0, 0)) := alloc_heap_new _ _
          have hCb : Below w3.heap.size w3 (w3.alloc (.cells #[.int .i64 ck, .int .i64 cnn, .int .u64 cu, .bool cb, .string (mkB cs), .int .i64 ct, .slice sa sl sc] 30)) := (Below.refl _ w3).alloc (Nat.le_refl _) _
          go_upto_region 13 with fail
          generalize (w3.alloc (.cells #[.int .i64 ck, .int .i64 cnn, .int .u64 cu, .bool cb, .string (mkB cs), .int .i64 ct, .slice sa sl sc] 30)) = Z at *
          have HZ := Lib.hid hC
          have HZb := Lib.hid hCb
          have hZs : w3.heap.size + 1 ≤ Z.heap.size := by have := (Array.getElem?_eq_some_iff.1 hC).1; omega
          have p0 : Z.cell? ⟨w3.heap.size, 0, none⟩ = some (.int .i64 ck) := cell_at hC 0 rfl
          clear hC hCb y0 y1 y2 y3 y4 y5 y6 r1
          have hlt3 : U3.heap.size < w3.heap.size := by omega
          by_cases hc7 : ck = 7
          case neg =>
            have hc7' : (ck == 7) = false := by simp [hc7]
            have HCN : Hid (c.kind ≠ 7) := fun h => hc7 (HCK.out.2 h)
            clear hc7
            have HPt := HZ
            have HFt : Hid (Z.heap[U3.heap.size]? = some (.cells #[.int .i64 ynum, .slice vva a vvc] 81 (0, 0))) := (HZb.out.block _ (by omega)).trans HX3'.out
            have HGt : Hid (Gr (VRs clS f') Z (U3.heap.size + 1) 30 7 (.slice vva a vvc) ((ys.take a).map (normN ms f')) rs2) := Gr.keep (mvsV clS f') HG3'.out (fun b _ hb => HZb.out.block b hb) HZb.out.size
            have HBt : Hid (Below U3.heap.size U3 Z) := HB3'.out.trans (HZb.out.mono (by omega))
            have HRt : Hid (VRs clS f' (Z.alloc (.cells #[.int .i64 ck, .int .i64 cnn, .int .u64 cu, .bool cb, .string (mkB cs), .int .i64 ct, .slice sa sl sc] 30)) (FarV (Z.alloc (.cells #[.int .i64 ck, .int .i64 cnn, .int .u64 cu, .bool cb, .string (mkB cs), .int .i64 ct, .slice sa sl sc] 30)) (U3.heap.size + 1) (.slice vva a vvc)) (normN ms f' c) [.int .i64 ck, .int .i64 cnn, .int .u64 cu, .bool cb, .string (mkB cs), .int .i64 ct, .slice sa sl sc]) := by
              refine (?_ : VRs _ _ _ _ _ _)
              rw [norm_not HCN.out]
              exact ⟨fs2, HROWC.out.symm, fun h => absurd (by simpa [clS] using h) HCN.out⟩
            clear HIH
            have p0 : Z.cell? ⟨w3.heap.size, 0, none⟩ = some (.int .i64 ck) := cell_at HPt.out 0 rfl
            have p1 : Z.cell? ⟨w3.heap.size, 1, none⟩ = some (.int .i64 cnn) := cell_at HPt.out 1 rfl
            have p2 : Z.cell? ⟨w3.heap.size, 2, none⟩ = some (.int .u64 cu) := cell_at HPt.out 2 rfl
            have p3 : Z.cell? ⟨w3.heap.size, 3, none⟩ = some (.bool cb) := cell_at HPt.out 3 rfl
            have p4 : Z.cell? ⟨w3.heap.size, 4, none⟩ = some (.string (mkB cs)) := cell_at HPt.out 4 rfl
            have p5 : Z.cell? ⟨w3.heap.size, 5, none⟩ = some (.int .i64 ct) := cell_at HPt.out 5 rfl
            have p6 : Z.cell? ⟨w3.heap.size, 6, none⟩ = some (.slice sa sl sc) := cell_at HPt.out 6 rfl
            have f1 : Z.cell? ⟨U3.heap.size, 1, none⟩ = some (.slice vva a vvc) := cell_at HFt.out 1 rfl
            have hAs : (Z.alloc (.cells #[.int .i64 ck, .int .i64 cnn, .int .u64 cu, .bool cb, .string (mkB cs), .int .i64 ct, .slice sa sl sc] 30)).heap.size = Z.heap.size + 1 := by simp
            have HAN : Hid ((Z.alloc (.cells #[.int .i64 ck, .int .i64 cnn, .int .u64 cu, .bool cb, .string (mkB cs), .int .i64 ct, .slice sa sl sc] 30)).heap[Z.heap.size]? = some (.cells #[.int .i64 ck, .int .i64 cnn, .int .u64 cu, .bool cb, .string (mkB cs), .int .i64 ct, .slice sa sl sc] 30 (0, 0))) := alloc_heap_new _ _
            have hGA : Gr (VRs clS f') (Z.alloc (.cells #[.int .i64 ck, .int .i64 cnn, .int .u64 cu, .bool cb, .string (mkB cs), .int .i64 ct, .slice sa sl sc] 30)) (U3.heap.size + 1) 30 7 (.slice vva a vvc) ((ys.take a).map (normN ms f')) rs2 := Gr.keep (mvsV clS f') HGt.out (fun b _ hb => alloc_heap_old _ _ _ hb) (by simp)
            have HGA := Lib.hid hGA
            have HOW : Hid ((Z.alloc (.cells #[.int .i64 ck, .int .i64 cnn, .int .u64 cu, .bool cb, .string (mkB cs), .int .i64 ct, .slice sa sl sc] 30)).ownsRow (U3.heap.size + 1) 30 7 (.slice vva a vvc) a (rs2.flatMap id)) := by
              refine (?_ : World.ownsRow _ _ _ _ _ _ _)
              have := hGA.own
              rw [HQL.out] at this
              exact this
            clear hGA
            go_wp2_with (at_builtin; refine row_pushL (T := 30) (t := 79) Tryz.underlying79 infoNN rfl (by decide) HOW.out (by rw [hAs]; omega) [.int .i64 ck, .int .i64 cnn, .int .u64 cu, .bool cb, .string (mkB cs), .int .i64 ct, .slice sa sl sc] rfl (by simp [Value.oneCell']) Z.heap.size HAN.out rfl _ _ rfl rfl rfl (by unfold maxLen; omega) (by omega) ?_)
            intro g6 cap6 W6 hown6 hgr6 hat6 hlt6
            have hgrA : Z.grownBy W6 (Value.slice vva a vvc).ownBlock := ((World.grownBy_alloc _ _ _).trans hgr6)
            have hp6 : W6.heap[U3.heap.size]? = some (.cells #[.int .i64 ynum, .slice vva a vvc] 81 (0, 0)) := ((hgrA.block _ (by omega) (fun e => by have := HVB.out _ e.symm; omega)).trans HFt.out)
            have c61 : W6.cell? ⟨U3.heap.size, 1, none⟩ = some (.slice vva a vvc) := (cell_at hp6 1 rfl)
            have f61 : W6.frozen? ⟨U3.heap.size, 1, none⟩ = false := (frz_at hp6 1)
            have HGP := Lib.hid (HGA.out.push (mvsV clS f') (x := normN ms f' c) (r := [.int .i64 ck, .int .i64 cnn, .int .u64 cu, .bool cb, .string (mkB cs), .int .i64 ct, .slice sa sl sc]) rfl HRt.out HQL.out (by rw [List.flatMap_id]; simpa using hown6) hgr6 (by simpa using hat6))
            have hg6 : U3.heap.size + 1 ≤ g6 := by
              rcases hat6 with h | h
              · exact (HVB.out _ h).1
              · rw [show g6 = Z.heap.size + 1 by simpa using h]; omega
            obtain ⟨Q, hQ⟩ : ∃ Q, W6.setCell ⟨U3.heap.size, 1, none⟩ (.slice (some ⟨g6, 0, none⟩) (a + 1) cap6) = Q := ⟨_, rfl⟩
            have hQp : Q.heap[U3.heap.size]? = some (.cells #[.int .i64 ynum, .slice (some ⟨g6, 0, none⟩) (a + 1) cap6] 81 (0, 0)) := by rw [← hQ, setCell_heap hp6]; rfl
            have hQo : ∀ b, b ≠ U3.heap.size → Q.heap[b]? = W6.heap[b]? := fun b hb => by rw [← hQ]; exact Below.heap_setCell _ _ _ _ hb
            have hQs : Q.heap.size = W6.heap.size := by rw [← hQ]; simp
            have hB6 : Below U3.heap.size U3 W6 := HBt.out.grown hgrA (by omega) (fun b hb => by have := (HVB.out b hb).1; omega)
            have hQb : Below U3.heap.size U3 Q := by rw [← hQ]; exact hB6.setCell (p := ⟨U3.heap.size, 1, none⟩) (Nat.le_refl _) _
            have HQ := Lib.hid hQ
            have HQP := Lib.hid hQp
            have HQB := Lib.hid hQb
            have h4s : U3.heap.size + 1 ≤ Q.heap.size := by have := hgrA.size; omega
            have HGQ : Hid (Gr (VRs clS f') Q (U3.heap.size + 1) 30 7 (.slice (some ⟨g6, 0, none⟩) (a + 1) cap6) ((ys.take a).map (normN ms f') ++ [normN ms f' c]) (rs2 ++ [[.int .i64 ck, .int .i64 cnn, .int .u64 cu, .bool cb, .string (mkB cs), .int .i64 ct, .slice sa sl sc]])) := HGP.out.keep (mvsV clS f') (fun b hb _ => hQo b (by omega)) (by omega)
            clear hQ hQp hQo hQs hQb hB6 hown6 hgr6 hgrA hat6 hp6
            try go_wp2_with fail
            rw [HQ.out]
            clear c61 f61 p0 p1 p2 p3 p4 p5 p6 f1
            try go_wp2_with fail
            go_roundw
            case rel =>
              have e1 : a + 1 ≤ mv := by omega
              (repeat apply Exists.intro)
              exact ⟨⟨a + 1, .slice (some ⟨g6, 0, none⟩) (a + 1) cap6, rs2 ++ [[.int .i64 ck, .int .i64 cnn, .int .u64 cu, .bool cb, .string (mkB cs), .int .i64 ct, .slice sa sl sc]], by go_num, e1, HQB.out, h4s, HQP.out, by rw [HTK2.out]; exact HGQ.out⟩, rfl⟩
            case measure => simp [intOf]; omega
          subst hc7
          have hcn : c.kind = 7 := HCK.out.1 rfl
          obtain ⟨hhc1, hhc2⟩ := HHC.out hcn
          have hwz := HBW3.out.trans (HZb.out.mono HBW3.out.size)
          have h := HIH.out f' (by omega) c ⟨7, cnn, cu, cb, cs, ct, cf⟩ sa sl sc Z HZC.out hcn (HGC.out hcn) ((HeldN.old HHM.out fun b hb => hwz.block b hb).more fun b hb => by have hb' : b < w.heap.size := hb; have := hwz.size; omega) HFC.out (HeldG.mv (fun b hb => hwz.block b hb) (fun b hb => by have hb' : b < w.heap.size := hb; have := hwz.size; omega) hhc1) hhc2
          dsimp only at h
          obtain ⟨t0, t1, t2, -, -, -, -⟩ := HSO.out Z (HV3'.out.trans (HZb.out.mono (by omega)))
          have p1 : Z.cell? ⟨w3.heap.size, 1, none⟩ = some (.int .i64 cnn) := cell_at HZ.out 1 rfl
          have p2 : Z.cell? ⟨w3.heap.size, 2, none⟩ = some (.int .u64 cu) := cell_at HZ.out 2 rfl
          have p3 : Z.cell? ⟨w3.heap.size, 3, none⟩ = some (.bool cb) := cell_at HZ.out 3 rfl
          have p4 : Z.cell? ⟨w3.heap.size, 4, none⟩ = some (.string (mkB cs)) := cell_at HZ.out 4 rfl
          have p5 : Z.cell? ⟨w3.heap.size, 5, none⟩ = some (.int .i64 ct) := cell_at HZ.out 5 rfl
          have p6 : Z.cell? ⟨w3.heap.size, 6, none⟩ = some (.slice sa sl sc) := cell_at HZ.out 6 rfl
          clear hhc1 hhc2 hwz HIH
          go_wp2_with fail
          refine h.mono ?_
          rintro e W5 ⟨a0, a1, a2, a3, a4, a5, sa5, sl5, sc5, fsr, rfl, hrow5, hv5, hb5⟩
          have HR5 := Lib.hid hrow5
          have HV5 := Lib.hid (hv5 (by rw [norm_kind]; exact hcn))
          have h5s := hb5.size
          have hP5 := (hb5.block _ (by omega)).trans HZ.out
          have HB5 : Hid (Below U3.heap.size U3 W5) := HB3'.out.trans ((HZb.out.trans (hb5.mono HZb.out.size)).mono (by omega))
          have HF5 : Hid (W5.heap[U3.heap.size]? = some (.cells #[.int .i64 ynum, .slice vva a vvc] 81 (0, 0))) := (hb5.block _ (by omega)).trans ((HZb.out.block _ (by omega)).trans HX3'.out)
          have HG5 : Hid (Gr (VRs clS f') W5 (U3.heap.size + 1) 30 7 (.slice vva a vvc) ((ys.take a).map (normN ms f')) rs2) := Gr.keep (mvsV clS f') HG3'.out (fun b _ hb => (hb5.block b (by omega)).trans (HZb.out.block b hb)) (by omega)
          have HKW0 : Hid (∀ b, b < w3.heap.size → W5.heap[b]? = w3.heap[b]?) := fun b hb => (hb5.block b (by omega)).trans (HZb.out.block b hb)
          clear h hrow5 hv5 hb5 p0 p1 p2 p3 p4 p5 p6 t0 t1 t2
          have k0 : W5.cell? ⟨w3.heap.size, 0, none⟩ = some (.int .i64 7) := cell_at hP5 0 rfl
          have kf0 : W5.frozen? ⟨w3.heap.size, 0, none⟩ = false := frz_at hP5 0
          have k1 : W5.cell? ⟨w3.heap.size, 1, none⟩ = some (.int .i64 cnn) := cell_at hP5 1 rfl
          have kf1 : W5.frozen? ⟨w3.heap.size, 1, none⟩ = false := frz_at hP5 1
          have k2 : W5.cell? ⟨w3.heap.size, 2, none⟩ = some (.int .u64 cu) := cell_at hP5 2 rfl
          have kf2 : W5.frozen? ⟨w3.heap.size, 2, none⟩ = false := frz_at hP5 2
          have k3 : W5.cell? ⟨w3.heap.size, 3, none⟩ = some (.bool cb) := cell_at hP5 3 rfl
          have kf3 : W5.frozen? ⟨w3.heap.size, 3, none⟩ = false := frz_at hP5 3
          have k4 : W5.cell? ⟨w3.heap.size, 4, none⟩ = some (.string (mkB cs)) := cell_at hP5 4 rfl
          have kf4 : W5.frozen? ⟨w3.heap.size, 4, none⟩ = false := frz_at hP5 4
          have k5 : W5.cell? ⟨w3.heap.size, 5, none⟩ = some (.int .i64 ct) := cell_at hP5 5 rfl
          have kf5 : W5.frozen? ⟨w3.heap.size, 5, none⟩ = false := frz_at hP5 5
          have k6 : W5.cell? ⟨w3.heap.size, 6, none⟩ = some (.slice sa sl sc) := cell_at hP5 6 rfl
          have kf6 : W5.frozen? ⟨w3.heap.size, 6, none⟩ = false := frz_at hP5 6
          have HKW : Hid (∀ b, b < w3.heap.size → W5.heap[b]? = w3.heap[b]?) := fun b hb => HKW0.out b hb
          obtain ⟨Q5, hQ5, hQc, hQo, hQs, hQb⟩ := set7_all hP5 (.int .i64 a0) (.int .i64 a1) (.int .u64 a2) (.bool a3) (.string a4) (.int .i64 a5) (.slice sa5 sl5 sc5)
          have HQ5 := Lib.hid hQ5
          have HPt := Lib.hid hQc
          have HFt : Hid (Q5.heap[U3.heap.size]? = some (.cells #[.int .i64 ynum, .slice vva a vvc] 81 (0, 0))) := (hQo _ (by omega)).trans HF5.out
          have HGt : Hid (Gr (VRs clS f') Q5 (U3.heap.size + 1) 30 7 (.slice vva a vvc) ((ys.take a).map (normN ms f')) rs2) := ⟨own_keep HG5.out.own (fun b hb => hQo b (by have := (HVB.out b hb).2; omega)), HG5.out.len, HG5.out.row, fun jx xx rr h1 h2 => mvsV clS f' _ _ _ _ xx rr (HG3'.out.kids jx xx rr h1 h2) (fun b hF => (hQo b (by have := hF.2.1; omega)).trans ((HKW.out b hF.2.1))) (fun b hF => ⟨hF.1, by have := hF.2.1; omega, hF.2.2⟩)⟩
          have HBt : Hid (Below U3.heap.size U3 Q5) := HB5.out.trans (hQb.mono (by omega))
          have HRt : Hid (VRs clS f' (Q5.alloc (.cells #[.int .i64 a0, .int .i64 a1, .int .u64 a2, .bool a3, .string a4, .int .i64 a5, .slice sa5 sl5 sc5] 30)) (FarV (Q5.alloc (.cells #[.int .i64 a0, .int .i64 a1, .int .u64 a2, .bool a3, .string a4, .int .i64 a5, .slice sa5 sl5 sc5] 30)) (U3.heap.size + 1) (.slice vva a vvc)) (normN ms f' c) [.int .i64 a0, .int .i64 a1, .int .u64 a2, .bool a3, .string a4, .int .i64 a5, .slice sa5 sl5 sc5]) := by
            refine (?_ : VRs _ _ _ _ _ _)
            refine ⟨fsr, HR5.out, fun _ => HeldG.mv (fun b hb => (alloc_heap_old _ _ _ (by have := hb.2; omega)).trans (hQo b (by have h1 : Z.heap.size ≤ b := hb.1; omega))) (fun b hb => ⟨by have h1 : Z.heap.size ≤ b := hb.1; omega, by simp; have := hb.2; omega, fun e => by have := HVB.out _ e; have h1 : Z.heap.size ≤ b := hb.1; omega⟩) HV5.out⟩
          have hQ5s : w3.heap.size + 1 ≤ Q5.heap.size := by omega
          clear hQ5 hQc hQo hQs hQb hP5
          go_upto_region 15 with fail
          rw [HQ5.out]
          clear k0 kf0 k1 kf1 k2 kf2 k3 kf3 k4 kf4 k5 kf5 k6 kf6
          have p0 : Q5.cell? ⟨w3.heap.size, 0, none⟩ = some (.int .i64 a0) := cell_at HPt.out 0 rfl
          have p1 : Q5.cell? ⟨w3.heap.size, 1, none⟩ = some (.int .i64 a1) := cell_at HPt.out 1 rfl
          have p2 : Q5.cell? ⟨w3.heap.size, 2, none⟩ = some (.int .u64 a2) := cell_at HPt.out 2 rfl
          have p3 : Q5.cell? ⟨w3.heap.size, 3, none⟩ = some (.bool a3) := cell_at HPt.out 3 rfl
          have p4 : Q5.cell? ⟨w3.heap.size, 4, none⟩ = some (.string a4) := cell_at HPt.out 4 rfl
          have p5 : Q5.cell? ⟨w3.heap.size, 5, none⟩ = some (.int .i64 a5) := cell_at HPt.out 5 rfl
          have p6 : Q5.cell? ⟨w3.heap.size, 6, none⟩ = some (.slice sa5 sl5 sc5) := cell_at HPt.out 6 rfl
          have f1 : Q5.cell? ⟨U3.heap.size, 1, none⟩ = some (.slice vva a vvc) := cell_at HFt.out 1 rfl
          have hAs : (Q5.alloc (.cells #[.int .i64 a0, .int .i64 a1, .int .u64 a2, .bool a3, .string a4, .int .i64 a5, .slice sa5 sl5 sc5] 30)).heap.size = Q5.heap.size + 1 := by simp
          have HAN : Hid ((Q5.alloc (.cells #[.int .i64 a0, .int .i64 a1, .int .u64 a2, .bool a3, .string a4, .int .i64 a5, .slice sa5 sl5 sc5] 30)).heap[Q5.heap.size]? = some (.cells #[.int .i64 a0, .int .i64 a1, .int .u64 a2, .bool a3, .string a4, .int .i64 a5, .slice sa5 sl5 sc5] 30 (0, 0))) := alloc_heap_new _ _
          have hGA : Gr (VRs clS f') (Q5.alloc (.cells #[.int .i64 a0, .int .i64 a1, .int .u64 a2, .bool a3, .string a4, .int .i64 a5, .slice sa5 sl5 sc5] 30)) (U3.heap.size + 1) 30 7 (.slice vva a vvc) ((ys.take a).map (normN ms f')) rs2 := Gr.keep (mvsV clS f') HGt.out (fun b _ hb => alloc_heap_old _ _ _ hb) (by simp)
          have HGA := Lib.hid hGA
          have HOW : Hid ((Q5.alloc (.cells #[.int .i64 a0, .int .i64 a1, .int .u64 a2, .bool a3, .string a4, .int .i64 a5, .slice sa5 sl5 sc5] 30)).ownsRow (U3.heap.size + 1) 30 7 (.slice vva a vvc) a (rs2.flatMap id)) := by
            refine (?_ : World.ownsRow _ _ _ _ _ _ _)
            have := hGA.own
            rw [HQL.out] at this
            exact this
          clear hGA
          go_wp2_with (at_builtin; refine row_pushL (T := 30) (t := 79) Tryz.underlying79 infoNN rfl (by decide) HOW.out (by rw [hAs]; omega) [.int .i64 a0, .int .i64 a1, .int .u64 a2, .bool a3, .string a4, .int .i64 a5, .slice sa5 sl5 sc5] rfl (by simp [Value.oneCell']) Q5.heap.size HAN.out rfl _ _ rfl rfl rfl (by unfold maxLen; omega) (by omega) ?_)
          intro g6 cap6 W6 hown6 hgr6 hat6 hlt6
          have hgrA : Q5.grownBy W6 (Value.slice vva a vvc).ownBlock := ((World.grownBy_alloc _ _ _).trans hgr6)
          have hp6 : W6.heap[U3.heap.size]? = some (.cells #[.int .i64 ynum, .slice vva a vvc] 81 (0, 0)) := ((hgrA.block _ (by omega) (fun e => by have := HVB.out _ e.symm; omega)).trans HFt.out)
          have c61 : W6.cell? ⟨U3.heap.size, 1, none⟩ = some (.slice vva a vvc) := (cell_at hp6 1 rfl)
          have f61 : W6.frozen? ⟨U3.heap.size, 1, none⟩ = false := (frz_at hp6 1)
          have HGP := Lib.hid (HGA.out.push (mvsV clS f') (x := normN ms f' c) (r := [.int .i64 a0, .int .i64 a1, .int .u64 a2, .bool a3, .string a4, .int .i64 a5, .slice sa5 sl5 sc5]) rfl HRt.out HQL.out (by rw [List.flatMap_id]; simpa using hown6) hgr6 (by simpa using hat6))
          have hg6 : U3.heap.size + 1 ≤ g6 := by
            rcases hat6 with h | h
            · exact (HVB.out _ h).1
            · rw [show g6 = Q5.heap.size + 1 by simpa using h]; omega
          obtain ⟨Q, hQ⟩ : ∃ Q, W6.setCell ⟨U3.heap.size, 1, none⟩ (.slice (some ⟨g6, 0, none⟩) (a + 1) cap6) = Q := ⟨_, rfl⟩
          have hQp : Q.heap[U3.heap.size]? = some (.cells #[.int .i64 ynum, .slice (some ⟨g6, 0, none⟩) (a + 1) cap6] 81 (0, 0)) := by rw [← hQ, setCell_heap hp6]; rfl
          have hQo : ∀ b, b ≠ U3.heap.size → Q.heap[b]? = W6.heap[b]? := fun b hb => by rw [← hQ]; exact Below.heap_setCell _ _ _ _ hb
          have hQs : Q.heap.size = W6.heap.size := by rw [← hQ]; simp
          have hB6 : Below U3.heap.size U3 W6 := HBt.out.grown hgrA (by omega) (fun b hb => by have := (HVB.out b hb).1; omega)
          have hQb : Below U3.heap.size U3 Q := by rw [← hQ]; exact hB6.setCell (p := ⟨U3.heap.size, 1, none⟩) (Nat.le_refl _) _
          have HQ := Lib.hid hQ
          have HQP := Lib.hid hQp
          have HQB := Lib.hid hQb
          have h4s : U3.heap.size + 1 ≤ Q.heap.size := by have := hgrA.size; omega
          have HGQ : Hid (Gr (VRs clS f') Q (U3.heap.size + 1) 30 7 (.slice (some ⟨g6, 0, none⟩) (a + 1) cap6) ((ys.take a).map (normN ms f') ++ [normN ms f' c]) (rs2 ++ [[.int .i64 a0, .int .i64 a1, .int .u64 a2, .bool a3, .string a4, .int .i64 a5, .slice sa5 sl5 sc5]])) := HGP.out.keep (mvsV clS f') (fun b hb _ => hQo b (by omega)) (by omega)
          clear hQ hQp hQo hQs hQb hB6 hown6 hgr6 hgrA hat6 hp6
          try go_wp2_with fail
          rw [HQ.out]
          clear c61 f61 p0 p1 p2 p3 p4 p5 p6 f1
          try go_wp2_with fail
          go_roundw
          case rel =>
            have e1 : a + 1 ≤ mv := by omega
            (repeat apply Exists.intro)
            exact ⟨⟨a + 1, .slice (some ⟨g6, 0, none⟩) (a + 1) cap6, rs2 ++ [[.int .i64 a0, .int .i64 a1, .int .u64 a2, .bool a3, .string a4, .int .i64 a5, .slice sa5 sl5 sc5]], by go_num, e1, HQB.out, h4s, HQP.out, by rw [HTK2.out]; exact HGQ.out⟩, rfl⟩
          case measure => simp [intOf]; omega
        · have han' : ¬ (a : Int) < (mv : Int) := by omega
          have hte : ys.take a = ys := List.take_of_length_le (by have := HMV.out; omega)
          rw [hte] at HG3'
          have hVF := HG3'.out.vals (fun b => U3.heap.size + 1 ≤ b ∧ b < w3.heap.size) (fun b h1 h2 => ⟨h1, h2⟩)
          have hbx2 : w3.heap[w.heap.size + 3]? = some (.cells #[.int .i64 7, .int .i64 0, .int .u64 0, .bool false, .string (mkB zs), .int .i64 (q : Int), .slice fva fm fvc] 30 (0, 0)) := (HB3'.out.block _ (by omega)).trans HB3.out
          have HBX2 := Lib.hid hbx2
          have r0 : w3.cell? ⟨U3.heap.size, 0, none⟩ = some (.int .i64 ynum) := cell_at HX3'.out 0 rfl
          have r2 : w3.cell? ⟨U3.heap.size, 1, none⟩ = some (.slice vva a vvc) := cell_at HX3'.out 1 rfl
          have p6 : w3.cell? ⟨w.heap.size + 3, 6, none⟩ = some (.slice fva fm fvc) := cell_at hbx2 6 rfl
          have h33 := HB3'.out.size
          have hGW : Gr (FRs clS f') (w3.alloc (.cells #[.int .i64 ynum, .slice vva a vvc] 81)) (w.heap.size + 4) 81 2 (.slice fva fm fvc) (keptL ms (normF ms (f' + 1)) (q : Int) (zf.take k)) rs := Gr.keep (mvsF clS f') HG3.out (fun b _ hb => (alloc_heap_old _ _ _ (by omega)).trans (HB3'.out.block b hb)) (by simp; omega)
          have hxr : FRs clS f' (w3.alloc (.cells #[.int .i64 ynum, .slice vva a vvc] 81)) (FarV (w3.alloc (.cells #[.int .i64 ynum, .slice vva a vvc] 81)) (w.heap.size + 4) (.slice fva fm fvc)) (ynum, ys.map (normN ms f')) [.int .i64 ynum, .slice vva a vvc] := ⟨_, rfl, ValsG.mv (fun b hb => alloc_heap_old _ _ _ hb.2) (fun b hb => ⟨by have := hb.1; omega, by simp; have := hb.2; omega, fun e => by have := HFB.out _ e; have := hb.1; omega⟩) hVF⟩
          have HGW := Lib.hid hGW
          have HXR := Lib.hid hxr
          have hAs : (w3.alloc (.cells #[.int .i64 ynum, .slice vva a vvc] 81)).heap.size = w3.heap.size + 1 := by simp
          have HAN : Hid ((w3.alloc (.cells #[.int .i64 ynum, .slice vva a vvc] 81)).heap[w3.heap.size]? = some (.cells #[.int .i64 ynum, .slice vva a vvc] 81 (0, 0))) := alloc_heap_new _ _
          have HFM2 : Hid ((keptL ms (normF ms (f' + 1)) (q : Int) (zf.take k)).length = fm) := HFM.out
          have HOW : Hid ((w3.alloc (.cells #[.int .i64 ynum, .slice vva a vvc] 81)).ownsRow (w.heap.size + 4) 81 2 (.slice fva fm fvc) fm (rs.flatMap id)) := by
            refine (?_ : World.ownsRow _ _ _ _ _ _ _)
            have := hGW.own
            rw [HFM2.out] at this
            exact this
          clear hte hVF hbx2 hGW hxr HIH HVA HFL2 HG3' r1
          go_wp2_with (at_builtin; refine row_pushL (T := 81) (t := 28) Tryz.underlying28 infoNF rfl (by decide) HOW.out (by rw [hAs]; omega) [.int .i64 ynum, .slice vva a vvc] rfl (by simp [Value.oneCell']) w3.heap.size HAN.out rfl _ _ rfl rfl rfl (by unfold maxLen; omega) (by omega) ?_)
          intro g6 cap6 W6 hown6 hgr6 hat6 hlt6
          have hgrA : w3.grownBy W6 (Value.slice fva fm fvc).ownBlock := ((World.grownBy_alloc _ _ _).trans hgr6)
          have hp6 : W6.heap[w.heap.size + 3]? = some (.cells #[.int .i64 7, .int .i64 0, .int .u64 0, .bool false, .string (mkB zs), .int .i64 (q : Int), .slice fva fm fvc] 30 (0, 0)) := ((hgrA.block _ (by omega) (fun e => by have := HFB.out _ e.symm; omega)).trans HBX2.out)
          have c61 : W6.cell? ⟨w.heap.size + 3, 6, none⟩ = some (.slice fva fm fvc) := (cell_at hp6 6 rfl)
          have f61 : W6.frozen? ⟨w.heap.size + 3, 6, none⟩ = false := (frz_at hp6 6)
          have HGP := Lib.hid (HGW.out.push (mvsF clS f') (x := (ynum, ys.map (normN ms f'))) (r := [.int .i64 ynum, .slice vva a vvc]) rfl HXR.out HFM2.out (by rw [List.flatMap_id]; exact hown6) hgr6 (by rw [hAs]; exact hat6))
          have hg6 : w.heap.size + 4 ≤ g6 := by
            rcases hat6 with h | h
            · exact (HFB.out _ h).1
            · omega
          obtain ⟨Q, hQ⟩ : ∃ Q, W6.setCell ⟨w.heap.size + 3, 6, none⟩ (.slice (some ⟨g6, 0, none⟩) (fm + 1) cap6) = Q := ⟨_, rfl⟩
          have hQp : Q.heap[w.heap.size + 3]? = some (.cells #[.int .i64 7, .int .i64 0, .int .u64 0, .bool false, .string (mkB zs), .int .i64 (q : Int), .slice (some ⟨g6, 0, none⟩) (fm + 1) cap6] 30 (0, 0)) := by rw [← hQ, setCell_heap hp6]; rfl
          have hQo : ∀ b, b ≠ w.heap.size + 3 → Q.heap[b]? = W6.heap[b]? := fun b hb => by rw [← hQ]; exact Below.heap_setCell _ _ _ _ hb
          have hQs : Q.heap.size = W6.heap.size := by rw [← hQ]; simp
          have hB6 : Below (w.heap.size + 3) w3 W6 := (Below.refl _ w3).grown hgrA (by omega) (fun b hb => by have := (HFB.out b hb).1; omega)
          have hQb : Below (w.heap.size + 3) w3 Q := by rw [← hQ]; exact hB6.setCell (p := ⟨w.heap.size + 3, 6, none⟩) (Nat.le_refl _) _
          have HQ := Lib.hid hQ
          have HQP := Lib.hid hQp
          have HQB := Lib.hid (HV3'.out.trans hQb)
          have h4s : w.heap.size + 4 ≤ Q.heap.size := by have := hgrA.size; omega
          have HGQ : Hid (Gr (FRs clS f') Q (w.heap.size + 4) 81 2 (.slice (some ⟨g6, 0, none⟩) (fm + 1) cap6) ((keptL ms (normF ms (f' + 1)) (q : Int) (zf.take k)) ++ [(ynum, ys.map (normN ms f'))]) (rs ++ [[.int .i64 ynum, .slice vva a vvc]])) := HGP.out.keep (mvsF clS f') (fun b hb _ => hQo b (by omega)) (by omega)
          clear hQ hQp hQo hQs hQb hB6 hown6 hgr6 hgrA hat6 hp6 hg6
          try go_wp2_with fail
          rw [HQ.out]
          clear c61 f61 r0 r2 p6
          try go_wp2_with fail
          go_roundw
          case rel =>
            have e1 : k + 1 ≤ ln := by omega
            first
            | exact ⟨k + 1, .slice (some ⟨g6, 0, none⟩) (fm + 1) cap6, rs ++ [[.int .i64 ynum, .slice vva a vvc]], by go_num, e1, HQB.out, h4s, HQP.out, by rw [HKN.out]; exact HGQ.out⟩
            | (repeat apply Exists.intro)
              exact ⟨⟨k + 1, .slice (some ⟨g6, 0, none⟩) (fm + 1) cap6, rs ++ [[.int .i64 ynum, .slice vva a vvc]], by go_num, e1, HQB.out, h4s, HQP.out, by rw [HKN.out]; exact HGQ.out⟩, rfl⟩
          case measure => simp [intOf]; omega
    · have hkn' : ¬ (k : Int) < (ln : Int) := by omega
      have hte : zf.take k = zf := List.take_of_length_le (by have := HLN.out; omega)
      rw [hte] at HGR
      have hZ1 := (hbel.block (w.heap.size + 2) (by omega)).trans HZV.out
      have b0 : w1.cell? ⟨w.heap.size + 3, 0, none⟩ = some (.int .i64 7) := cell_at HBX.out 0 rfl
      have b1 : w1.cell? ⟨w.heap.size + 3, 1, none⟩ = some (.int .i64 0) := cell_at HBX.out 1 rfl
      have b2 : w1.cell? ⟨w.heap.size + 3, 2, none⟩ = some (.int .u64 0) := cell_at HBX.out 2 rfl
      have b3 : w1.cell? ⟨w.heap.size + 3, 3, none⟩ = some (.bool false) := cell_at HBX.out 3 rfl
      have b4 : w1.cell? ⟨w.heap.size + 3, 4, none⟩ = some (.string (mkB zs)) := cell_at HBX.out 4 rfl
      have b5 : w1.cell? ⟨w.heap.size + 3, 5, none⟩ = some (.int .i64 (q : Int)) := cell_at HBX.out 5 rfl
      have b6 : w1.cell? ⟨w.heap.size + 3, 6, none⟩ = some (.slice fva fm fvc) := cell_at HBX.out 6 rfl
      have k0 : w1.cell? ⟨w.heap.size + 2, 0, none⟩ = some (.int .i64 0) := cell_at hZ1 0 rfl
      have kf0 : w1.frozen? ⟨w.heap.size + 2, 0, none⟩ = false := frz_at hZ1 0
      have k1 : w1.cell? ⟨w.heap.size + 2, 1, none⟩ = some (.int .i64 0) := cell_at hZ1 1 rfl
      have kf1 : w1.frozen? ⟨w.heap.size + 2, 1, none⟩ = false := frz_at hZ1 1
      have k2 : w1.cell? ⟨w.heap.size + 2, 2, none⟩ = some (.int .u64 0) := cell_at hZ1 2 rfl
      have kf2 : w1.frozen? ⟨w.heap.size + 2, 2, none⟩ = false := frz_at hZ1 2
      have k3 : w1.cell? ⟨w.heap.size + 2, 3, none⟩ = some (.bool false) := cell_at hZ1 3 rfl
      have kf3 : w1.frozen? ⟨w.heap.size + 2, 3, none⟩ = false := frz_at hZ1 3
      have k4 : w1.cell? ⟨w.heap.size + 2, 4, none⟩ = some (.string ⟨#[]⟩) := cell_at hZ1 4 rfl
      have kf4 : w1.frozen? ⟨w.heap.size + 2, 4, none⟩ = false := frz_at hZ1 4
      have k5 : w1.cell? ⟨w.heap.size + 2, 5, none⟩ = some (.int .i64 0) := cell_at hZ1 5 rfl
      have kf5 : w1.frozen? ⟨w.heap.size + 2, 5, none⟩ = false := frz_at hZ1 5
      have k6 : w1.cell? ⟨w.heap.size + 2, 6, none⟩ = some (.slice none 0 0) := cell_at hZ1 6 rfl
      have kf6 : w1.frozen? ⟨w.heap.size + 2, 6, none⟩ = false := frz_at hZ1 6
      obtain ⟨Q, hQ, hQc, hQo, hQs, hQb⟩ := set7_all hZ1 (.int .i64 7) (.int .i64 0) (.int .u64 0) (.bool false) (.string (mkB zs)) (.int .i64 (q : Int)) (.slice fva fm fvc)
      have HQ := Lib.hid hQ
      have HQC := Lib.hid hQc
      have HRES : Hid (OurAns f w (normN ms f x) (.returned (.agg #[.int .i64 7, .int .i64 0, .int .u64 0, .bool false, .string (mkB zs), .int .i64 (q : Int), .slice fva fm fvc])) Q) := by
        refine (?_ : OurAns _ _ _ _ _)
        rw [HRN.out]
        refine ⟨7, 0, 0, false, mkB zs, (q : Int), fva, fm, fvc, .slice fva fm fvc, rfl, rfl, fun _ => ?_, HBW.out.trans (hQb.mono (by omega))⟩
        have h9 := HGR.out.fields (f := f) (fun h0 => by
          subst h0
          have h8 : zf = [] := HHG.out.1
          rw [h8]; rfl) (fun b => w.heap.size + 4 ≤ b ∧ b < w1.heap.size) (fun b h1 h2 => ⟨h1, h2⟩)
        exact HeldG.mv (fun b hb => hQo b (by have := hb.1; omega)) (fun b hb => ⟨by have := hb.1; omega, by rw [hQs]; exact hb.2⟩) h9
      clear hte hZ1 hQ hQc hQo hQs hQb hbel hBw
      go_wp2_with fail
      rw [HQ.out]
      have q0 := cell_at HQC.out 0 rfl
      have q1 := cell_at HQC.out 1 rfl
      have q2 := cell_at HQC.out 2 rfl
      have q3 := cell_at HQC.out 3 rfl
      have q4 := cell_at HQC.out 4 rfl
      have q5 := cell_at HQC.out 5 rfl
      have q6 := cell_at HQC.out 6 rfl
      refine bodyPost_ret (v := .agg #[.int .i64 7, .int .i64 0, .int .u64 0, .bool false, .string (mkB zs), .int .i64 (q : Int), .slice fva fm fvc]) (by simp [results, Tryz.results17, go_sem, q0, q1, q2, q3, q4, q5, q6]) rfl ?_
      exact HRES.out
end Go.Proofs.YtfhmombnipfimaaGreatDoor
