/-
  The walk over the document's bytes: a message's bytes.
-/
import Derived.Test.YtfhmombnipfimaaGreatDoorM26
import Derived.Test.YtfhmombnipfimaaGreatDoorM30
import Derived.Test.YtfhmombnipfimaaGreatDoorM31
namespace Go.Proofs.YtfhmombnipfimaaGreatDoor
set_option linter.unusedVariables false
open Go.ChangeShapes Go.WideShapes Go.ChangeAt Go.RowKit

theorem stepB_at {w : World} {ops : Array Oper} {o : Oper} {a : Act} {K : Act → World → Prop} {Q : Exit → Act → World → Prop} {E : Prop} (hgd : o.guard = none) (s x : Operand)
    (ho : o.op = .call { callee := .builtin .append, args := #[s, x], argTypes := #[46, 46] })
    (base : Nat) (v : Value) (xs : List Int) (hs : a.eval s = v) (hown : OwnB w base v xs)
    (ad : Addr) (m c : Nat) (zs : List Int) (hx : a.eval x = .slice (some ad) m c) (hB : IsB w (some ad) m zs)
    (hbd : xs.length + m ≤ 140737488355328) (hbase : base ≤ w.heap.size)
    (h : ∀ v' w', OwnB w' base v' (xs ++ zs) → w.grownBy w' v.ownBlock → (v'.ownBlock = v.ownBlock ∨ v'.ownBlock = some w.heap.size) → K (a.put o.dst v') w') : if Region.wanted o (yielded ops a.tmps) = true then Oper.wp Tryz.prog o a w K Q else E := by
  have hw : Region.wanted o (yielded ops a.tmps) = true := by simp [Region.wanted, hgd]
  rw [if_pos hw]
  obtain ⟨i0, hi, hz0, hz1, hz2⟩ := info_parts info5B
  obtain ⟨v', w', hr, h2, h3, h4, h5⟩ := run_append_own_at (P := Tryz.prog) w base 46 o.type 5 i0 (.int .u8 0) 1 1 Tryz.underlying46 hi hz0 hz1 hz2 rfl (by decide) v _ _ hown ad m c (zs.map (Value.int .u8)) (by simp [hB.1]) (isB_cells hB) (by intro u hu; simp at hu; obtain ⟨z, _, rfl⟩ := hu; rfl) (by unfold maxLen; omega) (by omega) hbase
  unfold Oper.wp
  simp [execOp, ho, resolve, invoke, builtin, hs, hx, hr, Result.andThen]
  refine h v' w' ?_ h3 h5
  unfold OwnB
  rw [List.length_append, hB.1, List.map_append]
  exact h2
theorem own_someB {w : World} {base : Nat} {v : Value} {xs : List Int} (h : OwnB w base v xs) (hb : ∀ z ∈ xs, 0 ≤ z ∧ z ≤ 255) (hm : xs.length ≤ 281474976710656) (hp : 1 ≤ xs.length) : ∃ g c, v = .slice (some ⟨g, 0, none⟩) xs.length c ∧ IsB w (some ⟨g, 0, none⟩) xs.length xs := by
  obtain ⟨a, c, rfl, h1, _, h3⟩ := own_isB h hb hm
  obtain ⟨_, ⟨h5, h6⟩ | ⟨g, cap, cur, h5, _⟩⟩ := h
  · omega
  · have e := (Value.slice.inj h5).1
    subst e
    exact ⟨g, c, rfl, h1⟩
theorem fbytes_pos (num ty n : Int) (d : List Int) : 1 ≤ (fbytes num ty n d).length := by
  unfold fbytes
  rw [List.length_append]
  have := vint_pos (8 * num + ty).toNat
  omega
set_option maxHeartbeats 64000000 in
set_option maxRecDepth 20000 in
theorem bytesN_any (ma ea ta : Option Addr) (nm ne nt mc ec tc : Nat) (ms : List MD) (hnm : ms.length = nm) (hml : ∀ m ∈ ms, m.fields.length ≤ 100000) : ∀ (f : Nat) (x z : Nd) (la : Option Addr) (ln lc : Nat) (w : World), z = cn x → EncK ms f x → EncG ms f x → RngG f x → FitG 100000 10000 f x → bndN f x ≤ 1000000000 → HeldM w (fun b => b < w.heap.size) (.slice ma nm mc) ms → HeldG clS w (fun b => b < w.heap.size) f (.slice la ln lc) x.fields → x.fields.length = ln →
    Calls Tryz.prog 42 #[.agg #[.slice ma nm mc, .slice ea ne ec, .slice ta nt tc], .agg #[.int .i64 z.kind, .int .i64 z.n, .int .u64 z.u, .bool z.b, .string (mkB z.s), .int .i64 z.type, .slice la ln lc]] w fun e w' => BAns (msgB ms f x) w e w' := by
  intro f
  induction f using Nat.strongRecOn with
  | _ f ih =>
  intro x z la ln lc w hz henk henc hrng hfit hbnd hHM hHG hln
  have hx7 := henk.one.1
  have hzk : z.kind = 7 := by rw [hz, cn_kind (by decide) (by decide)]; exact hx7
  have hzs : z.s = x.s := by rw [hz]; exact cn_s (.inr (.inr hx7))
  have hzt : z.type = x.type := by rw [hz]; exact cn_type hx7
  obtain ⟨R, hR⟩ : ∃ R, msgB ms f x = R := ⟨_, rfl⟩
  have hRL := msg_len f x henc hrng (by omega)
  have HROK := Lib.hid (msgB_ok ms f x)
  rw [hR] at hRL HROK ⊢
  have ht := henk.one.2
  obtain ⟨xkind, xn, xu, xb, xs, xt, zf⟩ := x
  obtain ⟨zk, zn, zu, zb, zs, zt, zf0⟩ := z
  dsimp only at hzk hzs hzt hx7 hHG hln ht ⊢
  subst hzk hzs hzt
  obtain ⟨q, hq⟩ : ∃ q : Nat, zt = (q : Int) := ⟨zt.toNat, by omega⟩
  subst hq
  have hqn : q < ms.length := by omega
  obtain ⟨md, hmd⟩ : ∃ md, ms[q]? = some md := ⟨_, List.getElem?_eq_getElem hqn⟩
  have HFO : Hid (fieldsOf ms (q : Int) = md.fields) := by
    refine (?_ : _ = _)
    unfold fieldsOf
    rw [Int.toNat_natCast, hmd]
  have hmlm := hml md (List.mem_of_getElem? hmd)
  obtain ⟨fb, hfb⟩ : ∃ g, fldB (contB (msgB ms (f - 1))) md.fields = g := ⟨_, rfl⟩
  have HFBB := Lib.hid hfb
  have HRE : Hid (zf.flatMap fb ++ ints zs = R) := by
    refine (?_ : _ = _)
    rw [← hR]
    cases f with
    | zero =>
      have h0 : zf = [] := hHG.1
      rw [h0]; rfl
    | succ f =>
      unfold msgB
      rw [HFO.out, ← hfb]
      rfl
  have HRL : Hid (R.length ≤ 1000000000) := Nat.le_trans hRL hbnd
  have hxs : zs.length ≤ 100000 := hfit.s
  have HHG := Lib.hid hHG
  have HLN := Lib.hid hln
  have HFIT := Lib.hid hfit
  have HENK := Lib.hid henk
  have HENC := Lib.hid henc
  have HRNG := Lib.hid hrng
  have HBND := Lib.hid hbnd
  have HIH := Lib.hid ih
  have HHM := Lib.hid hHM
  obtain ⟨g, oo, c0, ka, kc, hsl, hg, e0, e1, hrow⟩ := HeldN.at hHM (W := w) (fun b hb => rfl) hmd
  rw [hnm] at hsl
  obtain ⟨rfl, rfl⟩ := slice_two hsl
  obtain ⟨mname, mfs⟩ := md
  dsimp only at hrow e0 e1 hmlm HFBB HFO hfb
  obtain ⟨nf, hnf⟩ : ∃ n, mfs.length = n := ⟨_, rfl⟩
  have HNF := Lib.hid hnf
  rw [hnf] at hrow e1 hmlm
  have hgN : g < w.heap.size := hg
  have hq0 : (0 : Int) ≤ (q : Int) := by omega
  have hq1 : (q : Int) < (nm : Int) := by omega
  obtain ⟨Y, hY, hC, hb, hYs⟩ := box_new w #[.slice (some ⟨g, oo, none⟩) nm mc, .slice ea ne ec, .slice ta nt tc] 26
  obtain ⟨V, hV', hD, hVb, hVs⟩ := box_new Y #[.int .i64 7, .int .i64 zn, .int .u64 zu, .bool zb, .string (mkB zs), .int .i64 (q : Int), .slice la ln lc] 30
  have HY := Lib.hid hY
  have HV := Lib.hid hV'
  rw [hYs] at hD
  have hC2 := (hVb.block _ (by omega)).trans hC
  have hBV := hb.trans (hVb.mono hb.size)
  have HBV := Lib.hid hBV
  have hVl : w.heap.size + 2 = V.heap.size := by omega
  have HSO : Hid (∀ W, Below V.heap.size V W → W.cell? ⟨w.heap.size, 0, none⟩ = some (.slice (some ⟨g, oo, none⟩) nm mc) ∧ W.cell? ⟨w.heap.size, 1, none⟩ = some (.slice ea ne ec) ∧ W.cell? ⟨w.heap.size, 2, none⟩ = some (.slice ta nt tc) ∧ W.cell? ⟨w.heap.size + 1, 5, none⟩ = some (.int .i64 (q : Int)) ∧ W.cell? ⟨w.heap.size + 1, 6, none⟩ = some (.slice la ln lc) ∧ W.cell? ⟨g, oo + q * 2, none⟩ = some (.string (mkB mname)) ∧ W.cell? ⟨g, oo + q * 2 + 1, none⟩ = some (.slice ka nf kc) ∧ W.cell? ⟨w.heap.size + 1, 4, none⟩ = some (.string (mkB zs))) := by
    refine (?_ : ∀ W, _ → _)
    intro W hW
    have h1 := (hW.block _ (by omega)).trans hC2
    have h2 := (hW.block _ (by omega)).trans hD
    exact ⟨cell_at h1 0 rfl, cell_at h1 1 rfl, cell_at h1 2 rfl, cell_at h2 5 rfl, cell_at h2 6 rfl, (hW.cell (by show g < _; omega)).trans ((hBV.cell (by simpa using hgN)).trans e0), (hW.cell (by show g < _; omega)).trans ((hBV.cell (by simpa using hgN)).trans e1), cell_at h2 4 rfl⟩
  have HROW : Hid (∀ W, Below V.heap.size V W → RowsIn W (fun b => b < W.heap.size) 5 fdrow (.slice ka nf kc) mfs) := by
    refine (?_ : ∀ W, _ → _)
    intro W hW
    have hw := hBV.trans (hW.mono hBV.size)
    exact (RowsIn.old hrow fun b hb => hw.block b hb).more fun b hb => by have hb' : b < w.heap.size := hb; have := hw.size; omega
  have v6 : V.cell? ⟨w.heap.size + 1, 6, none⟩ = some (.slice la ln lc) := cell_at hD 6 rfl
  clear hln hHG hfit ih hC hb hYs hY hmd hqn hHM hR hRL hfb hnf hrow hsl hg e0 e1 henc hrng hbnd ht hV' hVb hVs hC2 hD hBV hz henk hx7
  go_enter Tryz.func42, Tryz.ntmps42
  go_upto_region 1 with fail
  rw [HY.out, HV.out]
  go_wp2_with fail
  clear v6
  go_loopw [5, 16] (fun ov i wr => ∃ (k : Nat) (o' : Value), o' = ov ∧ i = .int .i64 (k : Int) ∧ k ≤ ln ∧ Below V.heap.size V wr ∧ OwnB wr V.heap.size o' ((zf.take k).flatMap fb)) (fun _ i _ => ln - (intOf i).toNat)
  case atStart => exact ⟨0, _, rfl, rfl, Nat.zero_le _, Below.refl _ _, own_nil _ _⟩
  case round =>
    generalize wr = w1 at *
    obtain ⟨k, o', rfl, rfl, hk, hbel, hown⟩ := hrel
    have HBE := Lib.hid hbel
    have HOW := Lib.hid hown
    have hBw := HBV.out.trans (hbel.mono HBV.out.size)
    have HBW := Lib.hid hBw
    have hws := hbel.size
    have HOB : Hid (∀ b, o'.ownBlock = some b → b < w1.heap.size) := by
      refine (?_ : ∀ b, _ → _)
      intro b hb
      obtain ⟨_, ⟨rfl, _⟩ | ⟨g', cap, cur, rfl, hg', hh, _⟩⟩ := hown
      · simp [Value.ownBlock] at hb
      · have e : g' = b := by simpa [Value.ownBlock] using hb
        subst e
        exact (Array.getElem?_eq_some_iff.1 hh).1
    clear hown
    by_cases hkn : k < ln
    · obtain ⟨y, hy⟩ : ∃ y, zf[k]? = some y := ⟨_, List.getElem?_eq_getElem (by have := HLN.out; omega)⟩
      obtain ⟨f', gg, go, gc, va, vc, hf', hsl, hgg, e0, e1, hvals⟩ := HeldG.at HHG.out (W := w1) (fun b hb => hBw.block b hb) hy
      subst hf'
      rw [HLN.out] at hsl
      obtain ⟨rfl, rfl⟩ := slice_two hsl
      have hym := List.mem_of_getElem? hy
      have HTK := Lib.hid (flat_snocB fb hy)
      have HLE : Hid (((zf.take k).flatMap fb).length + (fb y).length ≤ 1000000000) := by
        refine (?_ : (_ : Nat) ≤ _)
        have h1 := flat_take fb zf (k + 1)
        rw [HTK.out, List.length_append] at h1
        have h2 := HRL.out
        rw [← HRE.out, List.length_append] at h2
        omega
      obtain ⟨hfl1, hfl2⟩ := HFIT.out.2.2 y hym
      obtain ⟨fd, hfd, ⟨⟨hfn1, hfn2⟩, hkd1, hkd2⟩, hkk⟩ := HENK.out.2 y hym
      obtain ⟨fd', hfd', _, hgk⟩ := HENC.out.2 y hym
      obtain rfl : fd = fd' := by rw [hfd] at hfd'; exact Option.some.inj hfd'
      have hln1 : ln ≤ 10000 := by have h1 := HFIT.out.2.1; have h2 := HLN.out; dsimp only at h1; omega
      have hrg := HRNG.out.2 y hym
      have HBYC : Hid (∀ c ∈ y.2, bndN f' c ≤ 1000000000) := by
        refine (?_ : ∀ c ∈ y.2, _)
        intro c hc
        have h1 : bndN f' c + 30 ≤ sumL (fun y => bndN f' y + 30) y.2 := sumL_mem (g := fun y => bndN f' y + 30) hc
        have h2 : 30 + sumL (fun y => bndN f' y + 30) y.2 ≤ sumL (fun p : Int × List Nd => 30 + sumL (fun y => bndN f' y + 30) p.2) zf := sumL_mem (g := fun p : Int × List Nd => 30 + sumL (fun y => bndN f' y + 30) p.2) hym
        have h3 := HBND.out
        unfold bndN at h3
        dsimp only at h3
        omega
      rw [HFO.out] at hfd
      obtain ⟨at', hfi⟩ := isFirst_of hfd
      obtain ⟨ynum, ys⟩ := y
      dsimp only at hvals e0 e1 hfl1 hfl2 hkk hgk hrg HBYC hfd hfi
      have HFY : Hid (fb (ynum, ys) = (wireL (contB (msgB ms f')) fd ys).flatMap WF.bytes) := by
        refine (?_ : _ = _)
        rw [← HFBB.out]
        unfold fldB
        dsimp only
        rw [hfd]
        rfl
      rw [HFY.out] at HTK HLE
      obtain ⟨mv, hmv⟩ : ∃ n, ys.length = n := ⟨_, rfl⟩
      have HMV := Lib.hid hmv
      rw [hmv] at e1 hvals hfl1
      have HFL2 := Lib.hid hfl2
      have HKK := Lib.hid hkk
      have HGK := Lib.hid hgk
      have HRG := Lib.hid hrg
      have HVA := Lib.hid hvals
      have HFI := Lib.hid hfi
      have hatl : at' < nf := by have := (List.getElem?_eq_some_iff.1 hfi.1).1; have := HNF.out; omega
      have hk0 : (0 : Int) ≤ (k : Int) := by omega
      have hk1 : (k : Int) < (ln : Int) := by omega
      have hwq : IntKind.i64.wrap ((k : Int) + 1) = (k : Int) + 1 := by rw [IntKind.wrap_i64]; omega
      obtain ⟨z0, z1, z2, z5, z6, z7, z8, z9⟩ := HSO.out w1 hbel
      have hggN : gg < w.heap.size := hgg
      clear hsl hy hym hgg hvals hmv hfl2 hkk hgk hrg hfd hfd' hfi hbel hBw HFY
      have hC : (w1.alloc (.cells #[.int .i64 ynum, .slice va mv vc] 81)).heap[w1.heap.size]? = some (.cells #[.int .i64 ynum, .slice va mv vc] 81 (0, 0)) := alloc_heap_new _ _
      have hCb : Below w1.heap.size w1 (w1.alloc (.cells #[.int .i64 ynum, .slice va mv vc] 81)) := (Below.refl _ w1).alloc (Nat.le_refl _) _
      go_upto_region 6 with fail
      generalize (w1.alloc (.cells #[.int .i64 ynum, .slice va mv vc] 81)) = X at *
      have HX := Lib.hid hC
      have hXs : w1.heap.size + 1 ≤ X.heap.size := by have := (Array.getElem?_eq_some_iff.1 hC).1; omega
      have HWX := Lib.hid hCb
      have HVX : Hid (Below V.heap.size V X) := HBE.out.trans (hCb.mono (by omega))
      have HSX : Hid (∀ W, Below X.heap.size X W → Below V.heap.size V W) := fun W hW => HVX.out.trans (hW.mono (by omega))
      have hfin : ∀ W, Below X.heap.size X W → Calls Tryz.prog 36 #[.agg #[.string (mkB mname), .slice ka nf kc], .int .i64 ynum] W fun e w' => e = .returned (.int .i64 (at' : Int)) ∧ Below X.heap.size X w' := fun W hW => (find_any mname ka nf kc mfs ynum W HNF.out hmlm (HROW.out W (HSX.out W hW))).mono fun e w' ⟨r, h1, h2, h3⟩ => by
        rcases h2 with ⟨_, hno⟩ | ⟨j, x', hr, hf⟩
        · exact absurd HFI.out.2.1 (hno _ _ HFI.out.1)
        · obtain ⟨rfl, _⟩ := isFirst_one hf HFI.out
          exact ⟨by rw [h1, hr], hW.trans (h3.mono hW.size)⟩
      obtain ⟨gf, of, cf, hslf, hgf, -⟩ := fd_at (HROW.out X HVX.out) (W := X) (fun b hb => rfl) HFI.out.1
      rw [HNF.out] at hslf
      obtain ⟨rfl, rfl⟩ := slice_two hslf
      have HFDC : Hid (∀ W, Below X.heap.size X W → W.cell? ⟨gf, of + at' * 5, none⟩ = some (.int .i64 fd.num) ∧ W.cell? ⟨gf, of + at' * 5 + 1, none⟩ = some (.string (mkB fd.name)) ∧ W.cell? ⟨gf, of + at' * 5 + 2, none⟩ = some (.int .i64 fd.kind) ∧ W.cell? ⟨gf, of + at' * 5 + 3, none⟩ = some (.bool fd.rep) ∧ W.cell? ⟨gf, of + at' * 5 + 4, none⟩ = some (.int .i64 fd.type)) := by
        refine (?_ : ∀ W, _ → _)
        intro W hW
        obtain ⟨g9, o9, c9, hs9, _, q0, q1, q2, q3, q4⟩ := fd_at (HROW.out W (HSX.out W hW)) (W := W) (fun b hb => rfl) HFI.out.1
        obtain ⟨ha9, _⟩ := slice_two hs9
        injection ha9 with ha9
        injection ha9 with h1 h2
        subst h1 h2
        exact ⟨q0, q1, q2, q3, q4⟩
      have s0 : ∀ W, Below X.heap.size X W → W.cell? ⟨w.heap.size, 0, none⟩ = some (.slice (some ⟨g, oo, none⟩) nm mc) := fun W hW => (HSO.out W (HSX.out W hW)).1
      have s5 : ∀ W, Below X.heap.size X W → W.cell? ⟨w.heap.size + 1, 5, none⟩ = some (.int .i64 (q : Int)) := fun W hW => (HSO.out W (HSX.out W hW)).2.2.2.1
      have s7 : ∀ W, Below X.heap.size X W → W.cell? ⟨g, oo + q * 2, none⟩ = some (.string (mkB mname)) := fun W hW => (HSO.out W (HSX.out W hW)).2.2.2.2.2.1
      have s8 : ∀ W, Below X.heap.size X W → W.cell? ⟨g, oo + q * 2 + 1, none⟩ = some (.slice (some ⟨gf, of, none⟩) nf kc) := fun W hW => (HSO.out W (HSX.out W hW)).2.2.2.2.2.2.1
      have x0 : ∀ W, Below X.heap.size X W → W.cell? ⟨w1.heap.size, 0, none⟩ = some (.int .i64 ynum) := fun W hW => (hW.cell (by simp; omega)).trans (cell_at HX.out 0 rfl)
      have d0 : ∀ W, Below X.heap.size X W → W.cell? ⟨gf, of + at' * 5, none⟩ = some (.int .i64 fd.num) := fun W hW => (HFDC.out W hW).1
      have d1 : ∀ W, Below X.heap.size X W → W.cell? ⟨gf, of + at' * 5 + 1, none⟩ = some (.string (mkB fd.name)) := fun W hW => (HFDC.out W hW).2.1
      have d2 : ∀ W, Below X.heap.size X W → W.cell? ⟨gf, of + at' * 5 + 2, none⟩ = some (.int .i64 fd.kind) := fun W hW => (HFDC.out W hW).2.2.1
      have d3 : ∀ W, Below X.heap.size X W → W.cell? ⟨gf, of + at' * 5 + 3, none⟩ = some (.bool fd.rep) := fun W hW => (HFDC.out W hW).2.2.2.1
      have d4 : ∀ W, Below X.heap.size X W → W.cell? ⟨gf, of + at' * 5 + 4, none⟩ = some (.int .i64 fd.type) := fun W hW => (HFDC.out W hW).2.2.2.2
      have hat1 : (0 : Int) ≤ (at' : Int) := by omega
      have hat2 : (at' : Int) < (nf : Int) := by omega
      have hbr : Below X.heap.size X X.drew := (Below.refl _ _).drew
      have hba : ∀ W o, Below X.heap.size X W → Below X.heap.size X (W.alloc o) := fun W o h => h.alloc h.size o
      have hbd : ∀ o, Below X.heap.size X (X.alloc o).drew := fun o => ((Below.refl _ X).alloc (Nat.le_refl _) o).drew
      clear hC hCb e0 e1 z0 z1 z2 z5 z6 z7 z8 z9 hslf hgf
      go_cut [8] (fun v wx => ∃ D : Nat, v = .pointer (some ⟨D, 0, none⟩) ∧ wx.heap[D]? = some (.cells #[.int .i64 fd.num, .string (mkB fd.name), .int .i64 fd.kind, .bool fd.rep, .int .i64 fd.type] 84 (0, 0)) ∧ X.heap.size ≤ D ∧ Below X.heap.size X wx)
      case first =>
        clear HIH
        have hS0 := hbr
        clear hbr hba hbd
        refine wp_region_held_drew (S := fun W => Below X.heap.size X W) (by kernel_rfl) hS0 (fun _ => ?_)
        refine T_on 0 (.pointer (some ⟨w.heap.size, 0, none⟩)) rfl (by kernel_rfl) (fun _ _ _ h => h) hS0 (fun W hW => by go_simp) ?_
        refine T_on 1 (.slice (some ⟨g, oo, none⟩) nm mc) rfl (by kernel_rfl) (fun _ _ _ h => h) hS0 (fun W hW => by have c := s0 W hW; go_simp) ?_
        refine T_on 2 (.pointer (some ⟨w.heap.size + 1, 5, none⟩)) rfl (by kernel_rfl) (fun _ _ _ h => h) hS0 (fun W hW => by go_simp) ?_
        refine T_on 3 (.int .i64 (q : Int)) rfl (by kernel_rfl) (fun _ _ _ h => h) hS0 (fun W hW => by have c := s5 W hW; go_simp) ?_
        refine T_on 4 (.pointer (some ⟨g, oo + q * 2, none⟩)) rfl (by kernel_rfl) (fun _ _ _ h => h) hS0 (fun W hW => by go_simp) ?_
        refine T_on 5 (.pointer (some ⟨g, oo + q * 2 + 1, none⟩)) rfl (by kernel_rfl) (fun _ _ _ h => h) hS0 (fun W hW => by go_simp) ?_
        refine T_on 6 (.slice (some ⟨gf, of, none⟩) nf kc) rfl (by kernel_rfl) (fun _ _ _ h => h) hS0 (fun W hW => by have c := s8 W hW; go_simp) ?_
        refine T_on 7 (.pointer (some ⟨w.heap.size, 0, none⟩)) rfl (by kernel_rfl) (fun _ _ _ h => h) hS0 (fun W hW => by go_simp) ?_
        refine T_on 8 (.slice (some ⟨g, oo, none⟩) nm mc) rfl (by kernel_rfl) (fun _ _ _ h => h) hS0 (fun W hW => by have c := s0 W hW; go_simp) ?_
        refine T_on 9 (.pointer (some ⟨w.heap.size + 1, 5, none⟩)) rfl (by kernel_rfl) (fun _ _ _ h => h) hS0 (fun W hW => by go_simp) ?_
        refine T_on 10 (.int .i64 (q : Int)) rfl (by kernel_rfl) (fun _ _ _ h => h) hS0 (fun W hW => by have c := s5 W hW; go_simp) ?_
        refine T_on 11 (.pointer (some ⟨g, oo + q * 2, none⟩)) rfl (by kernel_rfl) (fun _ _ _ h => h) hS0 (fun W hW => by go_simp) ?_
        refine T_on 12 (.agg #[.string (mkB mname), .slice (some ⟨gf, of, none⟩) nf kc]) rfl (by kernel_rfl) (fun _ _ _ h => h) hS0 (fun W hW => by have c := s7 W hW; have c2 := s8 W hW; go_simp) ?_
        refine T_on 13 (.pointer (some ⟨w1.heap.size, 0, none⟩)) rfl (by kernel_rfl) (fun _ _ _ h => h) hS0 (fun W hW => by go_simp) ?_
        refine T_on 14 (.int .i64 ynum) rfl (by kernel_rfl) (fun _ _ _ h => h) hS0 (fun W hW => by have c := x0 W hW; go_simp) ?_
        refine T_two 15 18 (by kernel_rfl) rfl rfl (fun K hK => ?_) (fun K hK => ?_)
        · go_simp
          refine (hfin _ hS0).mono ?_
          rintro e W9 ⟨rfl, hW9⟩
          clear hS0
          have hS0 := hW9
          clear hW9
          dsimp only
          refine hK.out _ _ hS0 (fun _ => ?_)
          clear hK K
          refine T_on 16 (.pointer (some ⟨gf, of + at' * 5, none⟩)) rfl (by kernel_rfl) (fun _ _ _ h => h) hS0 (fun W hW => by go_simp) ?_
          refine T_on 17 (.agg #[.int .i64 fd.num, .string (mkB fd.name), .int .i64 fd.kind, .bool fd.rep, .int .i64 fd.type]) rfl (by kernel_rfl) (fun _ _ _ h => h) hS0 (fun W hW => by have c0 := d0 W hW; have c1 := d1 W hW; have c2 := d2 W hW; have c3 := d3 W hW; have c4 := d4 W hW; go_simp) ?_
          refine T_call 18 (by kernel_rfl) rfl (fun K hK => ?_)
          go_simp
          have hS1 : Below X.heap.size X (W9.alloc (.cells #[.int .i64 0, .string ⟨#[]⟩, .int .i64 0, .bool false, .int .i64 0] 84)) := hS0.alloc hS0.size _
          refine hK.out _ _ hS1 (fun _ => ?_)
          clear hK K
          have hA := alloc_heap_new W9 (.cells #[.int .i64 0, .string ⟨#[]⟩, .int .i64 0, .bool false, .int .i64 0] 84)
          have k0 : (W9.alloc (.cells #[.int .i64 0, .string ⟨#[]⟩, .int .i64 0, .bool false, .int .i64 0] 84)).cell? ⟨W9.heap.size, 0, none⟩ = some (.int .i64 0) := cell_at hA 0 rfl
          have kf0 : (W9.alloc (.cells #[.int .i64 0, .string ⟨#[]⟩, .int .i64 0, .bool false, .int .i64 0] 84)).frozen? ⟨W9.heap.size, 0, none⟩ = false := frz_at hA 0
          have k1 : (W9.alloc (.cells #[.int .i64 0, .string ⟨#[]⟩, .int .i64 0, .bool false, .int .i64 0] 84)).cell? ⟨W9.heap.size, 1, none⟩ = some (.string ⟨#[]⟩) := cell_at hA 1 rfl
          have kf1 : (W9.alloc (.cells #[.int .i64 0, .string ⟨#[]⟩, .int .i64 0, .bool false, .int .i64 0] 84)).frozen? ⟨W9.heap.size, 1, none⟩ = false := frz_at hA 1
          have k2 : (W9.alloc (.cells #[.int .i64 0, .string ⟨#[]⟩, .int .i64 0, .bool false, .int .i64 0] 84)).cell? ⟨W9.heap.size, 2, none⟩ = some (.int .i64 0) := cell_at hA 2 rfl
          have kf2 : (W9.alloc (.cells #[.int .i64 0, .string ⟨#[]⟩, .int .i64 0, .bool false, .int .i64 0] 84)).frozen? ⟨W9.heap.size, 2, none⟩ = false := frz_at hA 2
          have k3 : (W9.alloc (.cells #[.int .i64 0, .string ⟨#[]⟩, .int .i64 0, .bool false, .int .i64 0] 84)).cell? ⟨W9.heap.size, 3, none⟩ = some (.bool false) := cell_at hA 3 rfl
          have kf3 : (W9.alloc (.cells #[.int .i64 0, .string ⟨#[]⟩, .int .i64 0, .bool false, .int .i64 0] 84)).frozen? ⟨W9.heap.size, 3, none⟩ = false := frz_at hA 3
          have k4 : (W9.alloc (.cells #[.int .i64 0, .string ⟨#[]⟩, .int .i64 0, .bool false, .int .i64 0] 84)).cell? ⟨W9.heap.size, 4, none⟩ = some (.int .i64 0) := cell_at hA 4 rfl
          have kf4 : (W9.alloc (.cells #[.int .i64 0, .string ⟨#[]⟩, .int .i64 0, .bool false, .int .i64 0] 84)).frozen? ⟨W9.heap.size, 4, none⟩ = false := frz_at hA 4
          obtain ⟨Qw, hQ, hQc, _, _, hQb⟩ := set5_all hA (.int .i64 fd.num) (.string (mkB fd.name)) (.int .i64 fd.kind) (.bool fd.rep) (.int .i64 fd.type)
          have hS2 : Below X.heap.size X Qw := hS1.trans (hQb.mono hS0.size)
          have HQ := Lib.hid hQ
          clear hQ hA
          generalize W9.alloc (.cells #[.int .i64 0, .string ⟨#[]⟩, .int .i64 0, .bool false, .int .i64 0] 84) = WA at *
          refine T_call 19 (by kernel_rfl) rfl (fun K hK => ?_)
          go_simp
          rw [HQ.out]
          refine hK.out _ _ hS2 (fun _ => ?_)
          clear hK K
          refine wpAnyH_done (by kernel_rfl) ?_ _
          go_simp
          go_wp2_with fail
          go_meet
          exact ⟨W9.heap.size, rfl, hQc, hS0.size, hS2⟩
        · go_simp
          have hA := alloc_heap_new X (.cells #[.int .i64 0, .string ⟨#[]⟩, .int .i64 0, .bool false, .int .i64 0] 84)
          have hS1 : Below X.heap.size X ((X.alloc (.cells #[.int .i64 0, .string ⟨#[]⟩, .int .i64 0, .bool false, .int .i64 0] 84)).drew) := ((Below.refl _ X).alloc (Nat.le_refl _) _).drew
          have hAs : ((X.alloc (.cells #[.int .i64 0, .string ⟨#[]⟩, .int .i64 0, .bool false, .int .i64 0] 84)).drew).heap.size = X.heap.size + 1 := by simp
          have hA : ((X.alloc (.cells #[.int .i64 0, .string ⟨#[]⟩, .int .i64 0, .bool false, .int .i64 0] 84)).drew).heap[X.heap.size]? = some (.cells #[.int .i64 0, .string ⟨#[]⟩, .int .i64 0, .bool false, .int .i64 0] 84 (0, 0)) := hA
          refine hK.out _ _ hS1 (fun _ => ?_)
          clear hK K
          generalize (X.alloc (.cells #[.int .i64 0, .string ⟨#[]⟩, .int .i64 0, .bool false, .int .i64 0] 84)).drew = WA at *
          have hcl := find_any mname (some ⟨gf, of, none⟩) nf kc mfs ynum WA HNF.out hmlm (HROW.out WA (HSX.out WA hS1))
          refine T_call 15 (by kernel_rfl) rfl (fun K hK => ?_)
          go_simp
          refine hcl.mono ?_
          rintro e W9 ⟨r, rfl, h2, h3⟩
          obtain rfl : r = (at' : Int) := by
            rcases h2 with ⟨_, hno⟩ | ⟨jx, x', hr, hf⟩
            · exact absurd HFI.out.2.1 (hno _ _ HFI.out.1)
            · obtain ⟨rfl, _⟩ := isFirst_one hf HFI.out
              exact hr
          have hS2 : Below X.heap.size X W9 := hS1.trans (h3.mono (by omega))
          have hA2 := (h3.block X.heap.size (by omega)).trans hA
          clear h2 h3 hcl hA
          dsimp only
          refine hK.out _ _ hS2 (fun _ => ?_)
          clear hK K
          refine T_on 16 (.pointer (some ⟨gf, of + at' * 5, none⟩)) rfl (by kernel_rfl) (fun _ _ _ h => h) hS2 (fun W hW => by go_simp) ?_
          refine T_on 17 (.agg #[.int .i64 fd.num, .string (mkB fd.name), .int .i64 fd.kind, .bool fd.rep, .int .i64 fd.type]) rfl (by kernel_rfl) (fun _ _ _ h => h) hS2 (fun W hW => by have c0 := d0 W hW; have c1 := d1 W hW; have c2 := d2 W hW; have c3 := d3 W hW; have c4 := d4 W hW; go_simp) ?_
          have k0 : W9.cell? ⟨X.heap.size, 0, none⟩ = some (.int .i64 0) := cell_at hA2 0 rfl
          have kf0 : W9.frozen? ⟨X.heap.size, 0, none⟩ = false := frz_at hA2 0
          have k1 : W9.cell? ⟨X.heap.size, 1, none⟩ = some (.string ⟨#[]⟩) := cell_at hA2 1 rfl
          have kf1 : W9.frozen? ⟨X.heap.size, 1, none⟩ = false := frz_at hA2 1
          have k2 : W9.cell? ⟨X.heap.size, 2, none⟩ = some (.int .i64 0) := cell_at hA2 2 rfl
          have kf2 : W9.frozen? ⟨X.heap.size, 2, none⟩ = false := frz_at hA2 2
          have k3 : W9.cell? ⟨X.heap.size, 3, none⟩ = some (.bool false) := cell_at hA2 3 rfl
          have kf3 : W9.frozen? ⟨X.heap.size, 3, none⟩ = false := frz_at hA2 3
          have k4 : W9.cell? ⟨X.heap.size, 4, none⟩ = some (.int .i64 0) := cell_at hA2 4 rfl
          have kf4 : W9.frozen? ⟨X.heap.size, 4, none⟩ = false := frz_at hA2 4
          obtain ⟨Qw, hQ, hQc, _, _, hQb⟩ := set5_all hA2 (.int .i64 fd.num) (.string (mkB fd.name)) (.int .i64 fd.kind) (.bool fd.rep) (.int .i64 fd.type)
          have hS3 : Below X.heap.size X Qw := hS2.trans hQb
          have HQ := Lib.hid hQ
          clear hQ hA2
          refine T_call 19 (by kernel_rfl) rfl (fun K hK => ?_)
          go_simp
          rw [HQ.out]
          refine hK.out _ _ hS3 (fun _ => ?_)
          clear hK K
          refine wpAnyH_done (by kernel_rfl) ?_ _
          go_simp
          go_wp2_with fail
          go_meet
          exact ⟨X.heap.size, rfl, hQc, Nat.le_refl _, hS3⟩
      case rest =>
      obtain ⟨D, rfl, hDq, hXD, hS1⟩ := hcut
      generalize wc = U2 at *
      have HX2 := Lib.hid hS1
      have hU2s := hS1.size
      have hDl := (Array.getElem?_eq_some_iff.1 hDq).1
      have HDQ := Lib.hid hDq
      have HXU : Hid (U2.heap[w1.heap.size]? = some (.cells #[.int .i64 ynum, .slice va mv vc] 81 (0, 0))) := (hS1.block _ (by omega)).trans HX.out
      have HVU := Lib.hid (HSX.out U2 hS1)
      have HWU : Hid (Below w.heap.size w U2) := HBV.out.trans ((HSX.out U2 hS1).mono HBV.out.size)
      have HOU : Hid (OwnB U2 V.heap.size o' ((zf.take k).flatMap fb)) := own_old (own_old HOW.out HWX.out) hS1
      have q3 : U2.cell? ⟨D, 3, none⟩ = some (.bool fd.rep) := cell_at hDq 3 rfl
      have q2 : U2.cell? ⟨D, 2, none⟩ = some (.int .i64 fd.kind) := cell_at hDq 2 rfl
      clear hDq hfin s0 s5 s7 s8 x0 d0 d1 d2 d3 d4 hbr hba hbd hS1 HOW
      obtain ⟨PB, hPB⟩ : ∃ b, (fd.rep && isNum fd.kind) = b := ⟨_, rfl⟩
      have hpk : ∀ W, Calls Tryz.prog 70 #[.int .i64 fd.kind] W fun e w' => e = .returned (.bool (isNum fd.kind)) ∧ w' = W := fun W => by
        have h := packed_any fd.kind W
        rw [wireT_two] at h
        exact h
      have HPB := Lib.hid hPB
      obtain ⟨RP, hRP⟩ : ∃ b, fd.rep = b := ⟨_, rfl⟩
      obtain ⟨NM, hNM⟩ : ∃ b, isNum fd.kind = b := ⟨_, rfl⟩
      have HNMM := Lib.hid hNM
      rw [hRP] at q3
      rw [hRP, hNM] at hPB
      rw [hNM] at hpk
      clear hRP hNM
      go_upto_region 7 with fail
      go_cut [48] (fun v wx => v = .bool PB ∧ wx = U2)
      case first =>
        clear HIH
        cases RP
        case false =>
          have e : PB = false := by rw [← hPB]; rfl
          subst e
          go_wp2_with fail
          go_meet
          exact ⟨rfl, rfl⟩
        case true =>
          have e : PB = NM := by rw [← hPB]; rfl
          subst e
          go_wp2_with fail
          refine (hpk _).mono ?_
          rintro e W9 ⟨rfl, hW9⟩
          have hW9 := hW9.symm
          subst hW9
          go_wp2_with fail
          go_meet
          exact ⟨rfl, rfl⟩
      case rest =>
      obtain ⟨rfl, hwc⟩ := hcut
      subst hwc
      clear q3 q2 hpk hPB
      cases PB
      case true =>
        have hrn : fd.rep = true ∧ isNum fd.kind = true := by
          have h := HPB.out
          rwa [Bool.and_eq_true] at h
        have HIN : Hid (isNum fd.kind = true) := hrn.2
        have HWL : Hid ((wireL (contB (msgB ms f')) fd ys).flatMap WF.bytes = fbytes fd.num 2 0 (packL fd.kind ys)) := by
          refine (?_ : _ = _)
          unfold wireL
          rw [HPB.out, if_pos rfl]
          simp [WF.bytes]
        rw [HWL.out] at HTK HLE
        have HPL : Hid (∀ a, (packL fd.kind (ys.take a)).length ≤ 1000000) := by
          refine (?_ : ∀ a, _)
          intro a
          exact pack_take (fun y hy => (HRG.out y hy).one) (by have := HMV.out; omega)
        have h10 : fd.kind ≠ 10 := fun e => by have h := hrn.2; rw [e] at h; cases h
        have H10 := Lib.hid h10
        have u1 : wc.cell? ⟨w1.heap.size, 1, none⟩ = some (.slice va mv vc) := cell_at HXU.out 1 rfl
        clear HWL HPB hrn h10 HIH
        go_wp2_with fail
        clear u1
        go_loopw [9, 52] (fun bv i wr => ∃ (a : Nat) (b' : Value), b' = bv ∧ i = .int .i64 (a : Int) ∧ a ≤ mv ∧ OwnE wr wc.heap.size b' (packL fd.kind (ys.take a)) ∧ Below wc.heap.size wc wr) (fun _ i _ => mv - (intOf i).toNat)
        case atStart => exact ⟨0, _, rfl, rfl, Nat.zero_le _, .inl (own_nil _ _), Below.refl _ _⟩
        case round =>
          generalize wr = w3 at *
          obtain ⟨a, b', rfl, rfl, hal, hown, hb3⟩ := hrel
          have HB3 := Lib.hid hb3
          have HOW3 := Lib.hid hown
          have hs3 := hb3.size
          have hBw3 := HWU.out.trans (hb3.mono HWU.out.size)
          have HBW3 := Lib.hid hBw3
          have HPA := Lib.hid (HPL.out a)
          clear hown
          by_cases han : a < mv
          · obtain ⟨c, hc⟩ : ∃ c, ys[a]? = some c := ⟨_, List.getElem?_eq_getElem (by have := HMV.out; omega)⟩
            obtain ⟨g2, o4, c4, fs2, hsl2, hg2, hcl, hheld⟩ := ValsG.at HVA.out hc
            rw [HMV.out] at hsl2
            obtain ⟨rfl, rfl⟩ := slice_two hsl2
            have hg2N : g2 < w.heap.size := hg2
            have hcm := List.mem_of_getElem? hc
            have hcl2 := hcl.old (hBw3.block g2 hg2N)
            have HST := Lib.hid (pack_step (k := fd.kind) hc)
            obtain ⟨sa, sl, sc, hL⟩ : ∃ sa sl sc, (if c.kind = 7 then fs2 else .slice none 0 0) = .slice sa sl sc := by
              by_cases h7 : c.kind = 7
              · rw [if_pos h7]
                obtain ⟨sa, sc, h⟩ := HeldG.isSl (hheld (by simpa [clS] using h7))
                exact ⟨_, _, _, h⟩
              · rw [if_neg h7]; exact ⟨_, _, _, rfl⟩
            have hrowc : clS.row c fs2 = nrow (cn c) (.slice sa sl sc) := by
              show nrow (cn c) (if c.kind = 7 then fs2 else .slice none 0 0) = _
              rw [hL]
            rw [hrowc] at hcl2
            have hrgc := (HRG.out c hcm).one
            have hnq := num_eq ((HKK.out c hcm).1 H10.out) HIN.out
            have hnum : ∀ W, Calls Tryz.prog 71 #[.int .i64 fd.kind, .agg #[.int .i64 (cn c).kind, .int .i64 (cn c).n, .int .u64 (cn c).u, .bool (cn c).b, .string (mkB (cn c).s), .int .i64 (cn c).type, .slice sa sl sc]] W fun e w' => e = .returned (.int .u64 (numP fd.kind c)) ∧ Below W.heap.size W w' := fun W => by
              rw [← hnq]
              exact numberR_any fd.kind (cn c) sa sl sc W (cn_rg hrgc)
            have hnr := num_rg fd.kind hrgc
            have HN7 : Hid (fd.kind = 7 → numP fd.kind c < 4294967296) := by
              refine (?_ : _ → _)
              intro h
              have := (HGK.out c hcm).1 h
              rw [h]; exact this
            obtain ⟨N, hN⟩ : ∃ n, numP fd.kind c = n := ⟨_, rfl⟩
            rw [hN] at hnum hnr HST HN7
            obtain ⟨zc, hzc⟩ : ∃ z, z = cn c := ⟨_, rfl⟩
            rw [← hzc] at hcl2 hnum
            obtain ⟨ck, cnn, cu, cb, cs, ct, cf⟩ := zc
            dsimp only at hnum
            have HNUM := Lib.hid hnum
            have y0 : w3.cell? ⟨g2, o4 + a * 7, none⟩ = some (.int .i64 ck) := by have := hcl2 0 _ rfl; simpa [clS] using this
            have y1 : w3.cell? ⟨g2, o4 + a * 7 + 1, none⟩ = some (.int .i64 cnn) := by have := hcl2 1 _ rfl; simpa [clS] using this
            have y2 : w3.cell? ⟨g2, o4 + a * 7 + 2, none⟩ = some (.int .u64 cu) := by have := hcl2 2 _ rfl; simpa [clS] using this
            have y3 : w3.cell? ⟨g2, o4 + a * 7 + 3, none⟩ = some (.bool cb) := by have := hcl2 3 _ rfl; simpa [clS] using this
            have y4 : w3.cell? ⟨g2, o4 + a * 7 + 4, none⟩ = some (.string (mkB cs)) := by have := hcl2 4 _ rfl; simpa [clS] using this
            have y5 : w3.cell? ⟨g2, o4 + a * 7 + 5, none⟩ = some (.int .i64 ct) := by have := hcl2 5 _ rfl; simpa [clS] using this
            have y6 : w3.cell? ⟨g2, o4 + a * 7 + 6, none⟩ = some (.slice sa sl sc) := by have := hcl2 6 _ rfl; simpa [clS] using this
            have n0 : ∀ W : World, Below w3.heap.size w3 W → W.cell? ⟨g2, o4 + a * 7, none⟩ = some (.int .i64 ck) := fun W hW => (hW.cell (by simp; have := hBw3.size; omega)).trans y0
            have n1 : ∀ W : World, Below w3.heap.size w3 W → W.cell? ⟨g2, o4 + a * 7 + 1, none⟩ = some (.int .i64 cnn) := fun W hW => (hW.cell (by simp; have := hBw3.size; omega)).trans y1
            have n2 : ∀ W : World, Below w3.heap.size w3 W → W.cell? ⟨g2, o4 + a * 7 + 2, none⟩ = some (.int .u64 cu) := fun W hW => (hW.cell (by simp; have := hBw3.size; omega)).trans y2
            have n3 : ∀ W : World, Below w3.heap.size w3 W → W.cell? ⟨g2, o4 + a * 7 + 3, none⟩ = some (.bool cb) := fun W hW => (hW.cell (by simp; have := hBw3.size; omega)).trans y3
            have n4 : ∀ W : World, Below w3.heap.size w3 W → W.cell? ⟨g2, o4 + a * 7 + 4, none⟩ = some (.string (mkB cs)) := fun W hW => (hW.cell (by simp; have := hBw3.size; omega)).trans y4
            have n5 : ∀ W : World, Below w3.heap.size w3 W → W.cell? ⟨g2, o4 + a * 7 + 5, none⟩ = some (.int .i64 ct) := fun W hW => (hW.cell (by simp; have := hBw3.size; omega)).trans y5
            have n6 : ∀ W : World, Below w3.heap.size w3 W → W.cell? ⟨g2, o4 + a * 7 + 6, none⟩ = some (.slice sa sl sc) := fun W hW => (hW.cell (by simp; have := hBw3.size; omega)).trans y6
            have d2 : ∀ W : World, Below w3.heap.size w3 W → W.cell? ⟨D, 2, none⟩ = some (.int .i64 fd.kind) := fun W hW => (hW.cell (by simp; omega)).trans ((hb3.cell (by simpa using hDl)).trans (cell_at HDQ.out 2 rfl))
            have x1 : ∀ W : World, Below w3.heap.size w3 W → W.cell? ⟨w1.heap.size, 1, none⟩ = some (.slice (some ⟨g2, o4, none⟩) mv vc) := fun W hW => (hW.cell (by simp; omega)).trans ((hb3.cell (by simp; omega)).trans (cell_at HXU.out 1 rfl))
            have ha0 : (0 : Int) ≤ (a : Int) := by omega
            have ha1 : (a : Int) < (mv : Int) := by omega
            have hwa : IntKind.i64.wrap ((a : Int) + 1) = (a : Int) + 1 := by rw [IntKind.wrap_i64]; omega
            have hS0 : Below w3.heap.size w3 w3.drew := (Below.refl _ _).drew
            clear hsl2 hc hg2 hcl hheld hcl2 hrowc hL hrgc hzc hN hcm y0 y1 y2 y3 y4 y5 y6 hBw3 hb3 hnq hnum
            go_upto_region 12 with fail
            refine wp_region_held_drew (S := fun W => Below w3.heap.size w3 W) (by kernel_rfl) hS0 (fun _ => ?_)
            refine T_on 0 (.pointer (some ⟨D, 2, none⟩)) rfl (by kernel_rfl) (fun _ _ _ h => h) hS0 (fun W hW => by go_simp) ?_
            refine T_on 1 (.int .i64 fd.kind) rfl (by kernel_rfl) (fun _ _ _ h => h) hS0 (fun W hW => by have c := d2 W hW; go_simp) ?_
            refine T_on 2 (.pointer (some ⟨w1.heap.size, 1, none⟩)) rfl (by kernel_rfl) (fun _ _ _ h => h) hS0 (fun W hW => by go_simp) ?_
            refine T_on 3 (.slice (some ⟨g2, o4, none⟩) mv vc) rfl (by kernel_rfl) (fun _ _ _ h => h) hS0 (fun W hW => by have c := x1 W hW; go_simp) ?_
            refine T_on 4 (.int .i64 (a : Int)) rfl (by kernel_rfl) (fun _ _ _ h => h) hS0 (fun W hW => by go_simp) ?_
            refine T_on 5 (.pointer (some ⟨g2, o4 + a * 7, none⟩)) rfl (by kernel_rfl) (fun _ _ _ h => h) hS0 (fun W hW => by go_simp) ?_
            refine T_on 6 (.agg #[.int .i64 ck, .int .i64 cnn, .int .u64 cu, .bool cb, .string (mkB cs), .int .i64 ct, .slice sa sl sc]) rfl (by kernel_rfl) (fun _ _ _ h => h) hS0 (fun W hW => by have c0 := n0 W hW; have c1 := n1 W hW; have c2 := n2 W hW; have c3 := n3 W hW; have c4 := n4 W hW; have c5 := n5 W hW; have c6 := n6 W hW; go_simp) ?_
            refine T_call 7 (by kernel_rfl) rfl (fun K hK => ?_)
            go_simp
            refine (HNUM.out _).mono ?_
            rintro e U8 ⟨rfl, hb8⟩
            have hS1 := hS0.trans (hb8.mono hS0.size)
            clear hS0 hb8
            have hS0 := hS1
            clear hS1
            dsimp only
            refine hK.out _ _ hS0 (fun _ => ?_)
            clear hK K
            refine T_on 8 (.int .u64 N) rfl (by kernel_rfl) (fun _ _ _ h => h) hS0 (fun W hW => by go_simp) ?_
            refine wpAnyH_done (by kernel_rfl) ?_ _
            go_simp
            have q2 := d2 U8 hS0
            have HU8 := Lib.hid hS0
            have hU8s := hS0.size
            have HB8 := Lib.hid (HB3.out.trans (hS0.mono HB3.out.size))
            have HO8 : Hid (OwnE U8 wc.heap.size b' (packL fd.kind (ys.take a))) := ownE_old HOW3.out hS0
            have hwt := wireT_any fd.kind U8
            clear hS0 n0 n1 n2 n3 n4 n5 n6 d2 x1 HNUM
            by_cases h7 : fd.kind = 7
            · skip
              have e7 : wireT fd.kind = 5 := by rw [h7]; rfl
              rw [e7] at hwt
              have hlo := lowR_any N 4 U8 hnr.1 hnr.2 (by omega)
              have HNB : Hid (nbytes fd.kind N = lob N 4) := by
                refine (?_ : _ = _)
                unfold nbytes
                rw [if_pos h7, show N % 4294967296 = N by have := HN7.out h7; omega]
              clear h7 e7
              go_wp2_with fail
              refine hwt.mono ?_
              rintro e W9 ⟨rfl, hW9⟩
              have hW9 := hW9.symm
              subst hW9
              clear hwt
              go_wp2_with fail
              refine hlo.mono ?_
              rintro e W9 ⟨v9, rfl, ho9, hb9⟩
              obtain ⟨a9, c9, rfl, hI9, _, hno9⟩ := own_isB ho9 (lob_bytes _ _) (by rw [lob_length]; omega)
              rw [lob_length] at hI9 hno9 ⊢
              have HI9 := Lib.hid hI9
              have HN9 := Lib.hid hno9
              have HO9 : Hid (OwnE W9 wc.heap.size b' (packL fd.kind (ys.take a))) := ownE_old HO8.out hb9
              have hW9s := hb9.size
              have HB9 := Lib.hid (HB8.out.trans (hb9.mono HB8.out.size))
              clear hlo ho9 hb9 hI9 hno9 q2
              go_wp2_with (at_builtin; refine wpE_append rfl (.tmp 71) (.tmp 73) rfl wc.heap.size b' (packL fd.kind (ys.take a)) rfl HO9.out a9 4 c9 (lob N 4) rfl HI9.out HN9.out (by have := HPA.out; omega) (by omega) ?_; intro v3 w9 hown9 hb10)
              have HO10 : Hid (OwnE w9 wc.heap.size v3 (packL fd.kind (ys.take (a + 1)))) := by
                refine (?_ : OwnE _ _ _ _)
                rw [HST.out, HNB.out]
                exact hown9
              have HB10 := Lib.hid (HB9.out.trans hb10)
              clear hown9 hb10
              try go_wp2_with fail
              go_roundw
              case rel =>
                have e1 : a + 1 ≤ mv := by omega
                exact ⟨a + 1, v3, rfl, by go_num, e1, HO10.out, HB10.out⟩
              case measure => simp [intOf]; omega
            by_cases h8 : fd.kind = 8
            · skip
              have e7 : wireT fd.kind = 1 := by rw [h8]; rfl
              rw [e7] at hwt
              have hlo := lowR_any N 8 U8 hnr.1 hnr.2 (by omega)
              have HNB : Hid (nbytes fd.kind N = lob N 8) := by
                refine (?_ : _ = _)
                unfold nbytes
                rw [if_neg h7, if_pos h8]
              clear h8 e7
              go_wp2_with fail
              refine hwt.mono ?_
              rintro e W9 ⟨rfl, hW9⟩
              have hW9 := hW9.symm
              subst hW9
              clear hwt
              go_wp2_with fail
              refine hlo.mono ?_
              rintro e W9 ⟨v9, rfl, ho9, hb9⟩
              obtain ⟨a9, c9, rfl, hI9, _, hno9⟩ := own_isB ho9 (lob_bytes _ _) (by rw [lob_length]; omega)
              rw [lob_length] at hI9 hno9 ⊢
              have HI9 := Lib.hid hI9
              have HN9 := Lib.hid hno9
              have HO9 : Hid (OwnE W9 wc.heap.size b' (packL fd.kind (ys.take a))) := ownE_old HO8.out hb9
              have hW9s := hb9.size
              have HB9 := Lib.hid (HB8.out.trans (hb9.mono HB8.out.size))
              clear hlo ho9 hb9 hI9 hno9 q2
              go_wp2_with (at_builtin; refine wpE_append rfl (.tmp 77) (.tmp 79) rfl wc.heap.size b' (packL fd.kind (ys.take a)) rfl HO9.out a9 8 c9 (lob N 8) rfl HI9.out HN9.out (by have := HPA.out; omega) (by omega) ?_; intro v3 w9 hown9 hb10)
              have HO10 : Hid (OwnE w9 wc.heap.size v3 (packL fd.kind (ys.take (a + 1)))) := by
                refine (?_ : OwnE _ _ _ _)
                rw [HST.out, HNB.out]
                exact hown9
              have HB10 := Lib.hid (HB9.out.trans hb10)
              clear hown9 hb10
              try go_wp2_with fail
              go_roundw
              case rel =>
                have e1 : a + 1 ≤ mv := by omega
                exact ⟨a + 1, v3, rfl, by go_num, e1, HO10.out, HB10.out⟩
              case measure => simp [intOf]; omega
            have e7 : wireT fd.kind = 0 := by
              rw [wireT_ty, HIN.out, if_pos rfl, if_neg h7, if_neg h8]
            rw [e7] at hwt
            have hva := varintR_int b' wc.heap.size (packL fd.kind (ys.take a)) N U8 HO8.out hnr.1 hnr.2 (by have := HPA.out; omega) (by omega)
            have HNB : Hid (nbytes fd.kind N = vint N.toNat) := by
              refine (?_ : _ = _)
              unfold nbytes
              rw [if_neg h7, if_neg h8]
            go_wp2_with fail
            refine hwt.mono ?_
            rintro e W9 ⟨rfl, hW9⟩
            have hW9 := hW9.symm
            subst hW9
            clear hwt
            go_wp2_with fail
            refine hva.mono ?_
            rintro e W9 ⟨v9, rfl, ho9, hb9⟩
            have HO10 : Hid (OwnE W9 wc.heap.size v9 (packL fd.kind (ys.take (a + 1)))) := by
              refine (?_ : OwnE _ _ _ _)
              rw [HST.out, HNB.out]
              exact .inl ho9
            have HB10 := Lib.hid (HB8.out.trans hb9)
            clear hva ho9 hb9 q2
            go_wp2_with fail
            go_roundw
            case rel =>
              have e1 : a + 1 ≤ mv := by omega
              exact ⟨a + 1, v9, rfl, by go_num, e1, HO10.out, HB10.out⟩
            case measure => simp [intOf]; omega
          · have han' : ¬ (a : Int) < (mv : Int) := by omega
            have hte : ys.take a = ys := List.take_of_length_le (by have := HMV.out; omega)
            rw [hte] at HOW3 HPA
            obtain ⟨ab, cb, rfl, hbi⟩ := ownE_BIn HOW3.out (pack_ok _ _) (by have := HPA.out; omega)
            have hby := bytesR_any fd.num 2 0 ab (packL fd.kind ys).length cb (packL fd.kind ys) w3 hbi.isB (by omega) (by omega) hfn1 hfn2 (by omega) (by have := HPA.out; omega) hbi.2.1
            unfold fv at hby
            have q0 : w3.cell? ⟨D, 0, none⟩ = some (.int .i64 fd.num) := (hb3.cell (by simpa using hDl)).trans (cell_at HDQ.out 0 rfl)
            have HO3 : Hid (OwnB w3 V.heap.size o' ((zf.take k).flatMap fb)) := own_old HOU.out hb3
            have HFB9 := Lib.hid (fbytes_ok fd.num 2 0 (pack_ok fd.kind ys))
            have HV3 := Lib.hid (HVU.out.trans (hb3.mono HVU.out.size))
            clear hte hbi hb3 hBw3
            go_wp2_with fail
            refine hby.mono ?_
            rintro e W6 ⟨v6, rfl, hov, hb6⟩
            obtain ⟨a9, c9, rfl, hI9, _, hno9⟩ := own_isB hov HFB9.out (by have := HLE.out; omega)
            have HI9 := Lib.hid hI9
            have HN9 := Lib.hid hno9
            have HO6 : Hid (OwnB W6 V.heap.size o' ((zf.take k).flatMap fb)) := own_old HO3.out hb6
            have HV6 := Lib.hid (HV3.out.trans (hb6.mono HV3.out.size))
            have hV6s := HV6.out.size
            clear hby hov hb6 hI9 hno9 q0
            go_wp2_with (at_builtin; refine wpB_at rfl _ _ rfl V.heap.size o' ((zf.take k).flatMap fb) rfl HO6.out a9 (fbytes fd.num 2 0 (packL fd.kind ys)).length c9 (fbytes fd.num 2 0 (packL fd.kind ys)) rfl HI9.out HN9.out (by have := HLE.out; omega) hV6s ?_)
            intro v7 W7 hown7 hgr7 _
            have HB7 : Hid (Below V.heap.size V W7) := HV6.out.grown hgr7 hV6s (fun b hb => own_blockB HO6.out b hb)
            rw [← HTK.out] at hown7
            have HO7 := Lib.hid hown7
            clear hown7 hgr7
            try go_wp2_with fail
            go_roundw
            case rel =>
              have e1 : k + 1 ≤ ln := by omega
              first
              | exact ⟨k + 1, _, rfl, by go_num, e1, HB7.out, HO7.out⟩
              | (repeat apply Exists.intro)
                exact ⟨⟨k + 1, _, rfl, by go_num, e1, HB7.out, HO7.out⟩, rfl⟩
            case measure => simp [intOf]; omega
      case false =>
        have HWL : Hid ((wireL (contB (msgB ms f')) fd ys).flatMap WF.bytes = ys.flatMap (fun y => (singW (contB (msgB ms f')) fd y).bytes)) := by
          refine (?_ : _ = _)
          unfold wireL
          rw [HPB.out, if_neg (by simp), List.flatMap_map]
        rw [HWL.out] at HTK HLE
        obtain ⟨sb, hsb⟩ : ∃ g : Nd → List Int, (fun y => (singW (contB (msgB ms f')) fd y).bytes) = g := ⟨_, rfl⟩
        rw [hsb] at HTK HLE
        have HSB := Lib.hid hsb
        have u1 : wc.cell? ⟨w1.heap.size, 1, none⟩ = some (.slice va mv vc) := cell_at HXU.out 1 rfl
        have HWM : Hid (∀ y ∈ ys, fmd (singW (contB (msgB ms f')) fd y).num (singW (contB (msgB ms f')) fd y).ty (singW (contB (msgB ms f')) fd y).n (singW (contB (msgB ms f')) fd y).d.length = true ∧ 0 ≤ (singW (contB (msgB ms f')) fd y).n ∧ (singW (contB (msgB ms f')) fd y).n ≤ 18446744073709551615 ∧ (singW (contB (msgB ms f')) fd y).d.length ≤ (singW (contB (msgB ms f')) fd y).bytes.length) := by
          refine (?_ : ∀ y ∈ ys, _)
          intro y hy
          refine wire_fmd (rec := contB (msgB ms f')) (fd := fd) (vs := ys) hfn1 hfn2 (fun y hy => (HRG.out y hy).one) (fun y hy => (HGK.out y hy).1) _ ?_
          unfold wireL
          rw [HPB.out, if_neg (by simp)]
          exact List.mem_map.2 ⟨y, hy, rfl⟩
        clear hsb HWL HPB
        go_wp2_with fail
        clear u1
        go_loopw [5, 92] (fun ov i wr => ∃ (a : Nat) (o2 : Value), o2 = ov ∧ i = .int .i64 (a : Int) ∧ a ≤ mv ∧ Below V.heap.size V wr ∧ wc.heap.size ≤ wr.heap.size ∧ (∀ b, w1.heap.size ≤ b → b < wc.heap.size → wr.heap[b]? = wc.heap[b]?) ∧ (∀ b, o2.ownBlock = some b → b < w1.heap.size ∨ wc.heap.size ≤ b) ∧ OwnB wr V.heap.size o2 ((zf.take k).flatMap fb ++ (ys.take a).flatMap sb)) (fun _ i _ => mv - (intOf i).toNat)
        case atStart => exact ⟨0, _, rfl, rfl, Nat.zero_le _, HVU.out, Nat.le_refl _, fun _ _ _ => rfl, fun b hb => .inl (HOB.out b hb), by simpa using HOU.out⟩
        case round =>
          generalize wr = w3 at *
          obtain ⟨a, o2, rfl, rfl, hal, hb3, hs3, hk3, hob, hown⟩ := hrel
          have HB3 := Lib.hid hb3
          have HK3 := Lib.hid hk3
          have HOB3 := Lib.hid hob
          have HOW3 := Lib.hid hown
          have hBw3 := HBV.out.trans (hb3.mono HBV.out.size)
          have HBW3 := Lib.hid hBw3
          clear hk3 hob hown
          by_cases han : a < mv
          · obtain ⟨c, hc⟩ : ∃ c, ys[a]? = some c := ⟨_, List.getElem?_eq_getElem (by have := HMV.out; omega)⟩
            obtain ⟨g2, o4, c4, fs2, hsl2, hg2, hcl, hheld⟩ := ValsG.at HVA.out hc
            rw [HMV.out] at hsl2
            obtain ⟨rfl, rfl⟩ := slice_two hsl2
            have hg2N : g2 < w.heap.size := hg2
            have hcm := List.mem_of_getElem? hc
            have hcl2 := hcl.old (hBw3.block g2 hg2N)
            have HTP := Lib.hid (flat_snocB sb hc)
            have HL3 : Hid (((zf.take k).flatMap fb ++ (ys.take a).flatMap sb).length + (sb c).length ≤ 1000000000) := by
              refine (?_ : (_ : Nat) ≤ _)
              have h1 := flat_take sb ys (a + 1)
              rw [HTP.out, List.length_append] at h1
              have h2 := HLE.out
              rw [List.length_append]
              omega
            obtain ⟨sa, sl, sc, hL⟩ : ∃ sa sl sc, (if c.kind = 7 then fs2 else .slice none 0 0) = .slice sa sl sc := by
              by_cases h7 : c.kind = 7
              · rw [if_pos h7]
                obtain ⟨sa, sc, h⟩ := HeldG.isSl (hheld (by simpa [clS] using h7))
                exact ⟨_, _, _, h⟩
              · rw [if_neg h7]; exact ⟨_, _, _, rfl⟩
            have hrowc : clS.row c fs2 = nrow (cn c) (.slice sa sl sc) := by
              show nrow (cn c) (if c.kind = 7 then fs2 else .slice none 0 0) = _
              rw [hL]
            rw [hrowc] at hcl2
            have hrgc := HRG.out c hcm
            have hkc := HKK.out c hcm
            have hfc := HFL2.out c hcm
            have HONE : Hid (∀ W, Below w.heap.size w W → Calls Tryz.prog 76 #[.agg #[.slice (some ⟨g, oo, none⟩) nm mc, .slice ea ne ec, .slice ta nt tc], .agg #[.int .i64 fd.num, .string (mkB fd.name), .int .i64 fd.kind, .bool fd.rep, .int .i64 fd.type], .agg #[.int .i64 (cn c).kind, .int .i64 (cn c).n, .int .u64 (cn c).u, .bool (cn c).b, .string (mkB (cn c).s), .int .i64 (cn c).type, .slice sa sl sc]] W fun e w' => WfAns (singW (contB (msgB ms f')) fd c) W e w') := by
              refine (?_ : ∀ W, _ → _)
              intro W hW
              rw [← sing_eq (ms := ms) (f := f') hkc.1 (contB (msgB ms f') c) (fun _ => rfl)]
              refine oneR_any (some ⟨g, oo, none⟩) ea ta nm ne nt mc ec tc fd (cn c) sa sl sc (contB (msgB ms f') c) W (cn_rg hrgc.one) ?_ (fun h10 W2 hW2 => ?_) (fun h56 => ?_)
              · have h1 := hfc.s
                unfold cn
                dsimp only
                split
                · exact h1
                · simp
              · have h7 := (hkc.2 h10).one.1
                rw [if_pos h7] at hL
                have hW3 := hW.trans (hW2.mono hW.size)
                have h8 := hheld (by simpa [clS] using h7)
                rw [hL] at h8
                obtain ⟨sa', sc', h9⟩ := HeldG.isSl h8
                have hl : c.fields.length = sl := ((Value.slice.inj h9).2.1).symm
                have e : contB (msgB ms f') c = msgB ms f' c := by unfold contB; rw [if_neg (by omega), if_pos h7]
                rw [e]
                exact HIH.out f' (by omega) c (cn c) sa sl sc W2 rfl (hkc.2 h10) ((HGK.out c hcm).2 h7) hrgc hfc (HBYC.out c hcm) ((HeldN.old HHM.out fun b hb => hW3.block b hb).more fun b hb => by have hb' : b < w.heap.size := hb; have := hW3.size; omega) (HeldG.mv (fun b hb => hW3.block b hb) (fun b hb => by have hb' : b < w.heap.size := hb; have := hW3.size; omega) h8) hl
              · have h45 : c.kind = 4 ∨ c.kind = 5 := by
                  have h1 := hkc.1 (by omega)
                  unfold kindB at h1
                  rcases h56 with h | h
                  · rw [h] at h1; simp at h1; exact .inl h1.1
                  · rw [h] at h1; simp at h1; exact .inr h1
                unfold contB
                rw [if_pos h45, cn_s (by omega)]
            obtain ⟨zc, hzc⟩ : ∃ z, z = cn c := ⟨_, rfl⟩
            rw [← hzc] at hcl2 HONE
            obtain ⟨ck, cnn, cu, cb, cs, ct, cf⟩ := zc
            dsimp only at HONE
            have y0 : w3.cell? ⟨g2, o4 + a * 7, none⟩ = some (.int .i64 ck) := by have := hcl2 0 _ rfl; simpa [clS] using this
            have y1 : w3.cell? ⟨g2, o4 + a * 7 + 1, none⟩ = some (.int .i64 cnn) := by have := hcl2 1 _ rfl; simpa [clS] using this
            have y2 : w3.cell? ⟨g2, o4 + a * 7 + 2, none⟩ = some (.int .u64 cu) := by have := hcl2 2 _ rfl; simpa [clS] using this
            have y3 : w3.cell? ⟨g2, o4 + a * 7 + 3, none⟩ = some (.bool cb) := by have := hcl2 3 _ rfl; simpa [clS] using this
            have y4 : w3.cell? ⟨g2, o4 + a * 7 + 4, none⟩ = some (.string (mkB cs)) := by have := hcl2 4 _ rfl; simpa [clS] using this
            have y5 : w3.cell? ⟨g2, o4 + a * 7 + 5, none⟩ = some (.int .i64 ct) := by have := hcl2 5 _ rfl; simpa [clS] using this
            have y6 : w3.cell? ⟨g2, o4 + a * 7 + 6, none⟩ = some (.slice sa sl sc) := by have := hcl2 6 _ rfl; simpa [clS] using this
            have hcw : Cells w g2 (o4 + a * clS.k) (nrow ⟨ck, cnn, cu, cb, cs, ct, cf⟩ (.slice sa sl sc)) := by
              rw [hzc, ← hrowc]; exact hcl
            have hS0 : Below V.heap.size V w3.drew ∧ ∀ b, w1.heap.size ≤ b → b < wc.heap.size → w3.drew.heap[b]? = wc.heap[b]? := ⟨hb3.drew, fun b h1 h2 => HK3.out b h1 h2⟩
            have HSW : Hid (∀ W : World, Below V.heap.size V W → Below w.heap.size w W) := fun W hW => HBV.out.trans (hW.mono HBV.out.size)
            have n0 : ∀ W : World, (Below V.heap.size V W ∧ ∀ b, w1.heap.size ≤ b → b < wc.heap.size → W.heap[b]? = wc.heap[b]?) → W.cell? ⟨g2, o4 + a * 7, none⟩ = some (.int .i64 ck) := fun W hW => ((HSW.out W hW.1).cell (by simpa using hg2N)).trans (by have := hcw 0 _ rfl; simpa [clS] using this)
            have n1 : ∀ W : World, (Below V.heap.size V W ∧ ∀ b, w1.heap.size ≤ b → b < wc.heap.size → W.heap[b]? = wc.heap[b]?) → W.cell? ⟨g2, o4 + a * 7 + 1, none⟩ = some (.int .i64 cnn) := fun W hW => ((HSW.out W hW.1).cell (by simpa using hg2N)).trans (by have := hcw 1 _ rfl; simpa [clS] using this)
            have n2 : ∀ W : World, (Below V.heap.size V W ∧ ∀ b, w1.heap.size ≤ b → b < wc.heap.size → W.heap[b]? = wc.heap[b]?) → W.cell? ⟨g2, o4 + a * 7 + 2, none⟩ = some (.int .u64 cu) := fun W hW => ((HSW.out W hW.1).cell (by simpa using hg2N)).trans (by have := hcw 2 _ rfl; simpa [clS] using this)
            have n3 : ∀ W : World, (Below V.heap.size V W ∧ ∀ b, w1.heap.size ≤ b → b < wc.heap.size → W.heap[b]? = wc.heap[b]?) → W.cell? ⟨g2, o4 + a * 7 + 3, none⟩ = some (.bool cb) := fun W hW => ((HSW.out W hW.1).cell (by simpa using hg2N)).trans (by have := hcw 3 _ rfl; simpa [clS] using this)
            have n4 : ∀ W : World, (Below V.heap.size V W ∧ ∀ b, w1.heap.size ≤ b → b < wc.heap.size → W.heap[b]? = wc.heap[b]?) → W.cell? ⟨g2, o4 + a * 7 + 4, none⟩ = some (.string (mkB cs)) := fun W hW => ((HSW.out W hW.1).cell (by simpa using hg2N)).trans (by have := hcw 4 _ rfl; simpa [clS] using this)
            have n5 : ∀ W : World, (Below V.heap.size V W ∧ ∀ b, w1.heap.size ≤ b → b < wc.heap.size → W.heap[b]? = wc.heap[b]?) → W.cell? ⟨g2, o4 + a * 7 + 5, none⟩ = some (.int .i64 ct) := fun W hW => ((HSW.out W hW.1).cell (by simpa using hg2N)).trans (by have := hcw 5 _ rfl; simpa [clS] using this)
            have n6 : ∀ W : World, (Below V.heap.size V W ∧ ∀ b, w1.heap.size ≤ b → b < wc.heap.size → W.heap[b]? = wc.heap[b]?) → W.cell? ⟨g2, o4 + a * 7 + 6, none⟩ = some (.slice sa sl sc) := fun W hW => ((HSW.out W hW.1).cell (by simpa using hg2N)).trans (by have := hcw 6 _ rfl; simpa [clS] using this)
            have b0 : ∀ W : World, (Below V.heap.size V W ∧ ∀ b, w1.heap.size ≤ b → b < wc.heap.size → W.heap[b]? = wc.heap[b]?) → W.cell? ⟨w.heap.size, 0, none⟩ = some (.slice (some ⟨g, oo, none⟩) nm mc) := fun W hW => (HSO.out W hW.1).1
            have b1 : ∀ W : World, (Below V.heap.size V W ∧ ∀ b, w1.heap.size ≤ b → b < wc.heap.size → W.heap[b]? = wc.heap[b]?) → W.cell? ⟨w.heap.size, 1, none⟩ = some (.slice ea ne ec) := fun W hW => (HSO.out W hW.1).2.1
            have b2 : ∀ W : World, (Below V.heap.size V W ∧ ∀ b, w1.heap.size ≤ b → b < wc.heap.size → W.heap[b]? = wc.heap[b]?) → W.cell? ⟨w.heap.size, 2, none⟩ = some (.slice ta nt tc) := fun W hW => (HSO.out W hW.1).2.2.1
            have d0 : ∀ W : World, (Below V.heap.size V W ∧ ∀ b, w1.heap.size ≤ b → b < wc.heap.size → W.heap[b]? = wc.heap[b]?) → W.cell? ⟨D, 0, none⟩ = some (.int .i64 fd.num) := fun W hW => (World.cell?_of_block (hW.2 D (by omega) hDl)).trans (cell_at HDQ.out 0 rfl)
            have d1 : ∀ W : World, (Below V.heap.size V W ∧ ∀ b, w1.heap.size ≤ b → b < wc.heap.size → W.heap[b]? = wc.heap[b]?) → W.cell? ⟨D, 1, none⟩ = some (.string (mkB fd.name)) := fun W hW => (World.cell?_of_block (hW.2 D (by omega) hDl)).trans (cell_at HDQ.out 1 rfl)
            have d2 : ∀ W : World, (Below V.heap.size V W ∧ ∀ b, w1.heap.size ≤ b → b < wc.heap.size → W.heap[b]? = wc.heap[b]?) → W.cell? ⟨D, 2, none⟩ = some (.int .i64 fd.kind) := fun W hW => (World.cell?_of_block (hW.2 D (by omega) hDl)).trans (cell_at HDQ.out 2 rfl)
            have d3 : ∀ W : World, (Below V.heap.size V W ∧ ∀ b, w1.heap.size ≤ b → b < wc.heap.size → W.heap[b]? = wc.heap[b]?) → W.cell? ⟨D, 3, none⟩ = some (.bool fd.rep) := fun W hW => (World.cell?_of_block (hW.2 D (by omega) hDl)).trans (cell_at HDQ.out 3 rfl)
            have d4 : ∀ W : World, (Below V.heap.size V W ∧ ∀ b, w1.heap.size ≤ b → b < wc.heap.size → W.heap[b]? = wc.heap[b]?) → W.cell? ⟨D, 4, none⟩ = some (.int .i64 fd.type) := fun W hW => (World.cell?_of_block (hW.2 D (by omega) hDl)).trans (cell_at HDQ.out 4 rfl)
            have x1 : ∀ W : World, (Below V.heap.size V W ∧ ∀ b, w1.heap.size ≤ b → b < wc.heap.size → W.heap[b]? = wc.heap[b]?) → W.cell? ⟨w1.heap.size, 1, none⟩ = some (.slice (some ⟨g2, o4, none⟩) mv vc) := fun W hW => (World.cell?_of_block (hW.2 w1.heap.size (Nat.le_refl _) (by omega))).trans (cell_at HXU.out 1 rfl)
            obtain ⟨hfm, hn0, hn1, hdl⟩ := HWM.out c hcm
            have HSBC : Hid (sb c = (singW (contB (msgB ms f')) fd c).bytes) := by
              refine (?_ : _ = _)
              rw [← HSB.out]
            have HWOK : Hid (∀ z ∈ (singW (contB (msgB ms f')) fd c).d, 0 ≤ z ∧ z ≤ 255) := by
              refine (?_ : ∀ z, _ → _)
              unfold singW
              split
              · intro z hz; cases hz
              · unfold contB
                split
                · exact ints_ok _
                · split
                  · exact msgB_ok ms f' c
                  · intro z hz; cases hz
            obtain ⟨X9, hX9⟩ : ∃ x, singW (contB (msgB ms f')) fd c = x := ⟨_, rfl⟩
            rw [hX9] at HONE hfm hn0 hn1 hdl HSBC HWOK
            obtain ⟨xnum, xty, xnn, xd⟩ := X9
            dsimp only at hfm hn0 hn1 hdl HWOK
            have ha0 : (0 : Int) ≤ (a : Int) := by omega
            have ha1 : (a : Int) < (mv : Int) := by omega
            have hwa : IntKind.i64.wrap ((a : Int) + 1) = (a : Int) + 1 := by rw [IntKind.wrap_i64]; omega
            have hfm2 : 1 ≤ xnum ∧ xnum ≤ 536870911 ∧ (((xty = 0 ∨ xty = 1) ∧ xd.length = 0) ∨ (xty = 5 ∧ xd.length = 0 ∧ xnn < 4294967296) ∨ (xty = 2 ∧ xnn = 0)) := by
              unfold fmd at hfm; simpa using hfm
            have hxdl : xd.length ≤ 1000000000 := by
              have h1 := HL3.out
              rw [HSBC.out] at h1
              omega
            have HL4 : Hid (((zf.take k).flatMap fb ++ (ys.take a).flatMap sb).length + (fbytes xnum xty xnn xd).length ≤ 1000000000) := by
              refine (?_ : (_ : Nat) ≤ _)
              have h1 := HL3.out
              rw [HSBC.out] at h1
              exact h1
            have HFB9 := Lib.hid (fbytes_ok xnum xty xnn HWOK.out)
            clear hsl2 hc hg2 hcl hheld hcl2 hrowc hL hrgc hkc hfc hzc hcw hX9 hcm y0 y1 y2 y3 y4 y5 y6 hBw3 hb3 HIH
            go_upto_region 24 with fail
            refine wp_region_held_drew (S := fun W => (Below V.heap.size V W ∧ ∀ b, w1.heap.size ≤ b → b < wc.heap.size → W.heap[b]? = wc.heap[b]?)) (by kernel_rfl) hS0 (fun _ => ?_)
            refine T_on 0 (o2) rfl (by kernel_rfl) (fun _ _ _ h => h) hS0 (fun W hW => by go_simp) ?_
            refine T_on 1 (.agg #[.slice (some ⟨g, oo, none⟩) nm mc, .slice ea ne ec, .slice ta nt tc]) rfl (by kernel_rfl) (fun _ _ _ h => h) hS0 (fun W hW => by have c0 := b0 W hW; have c1 := b1 W hW; have c2 := b2 W hW; go_simp) ?_
            refine T_on 2 (.agg #[.int .i64 fd.num, .string (mkB fd.name), .int .i64 fd.kind, .bool fd.rep, .int .i64 fd.type]) rfl (by kernel_rfl) (fun _ _ _ h => h) hS0 (fun W hW => by have c0 := d0 W hW; have c1 := d1 W hW; have c2 := d2 W hW; have c3 := d3 W hW; have c4 := d4 W hW; go_simp) ?_
            refine T_on 3 (.pointer (some ⟨w1.heap.size, 1, none⟩)) rfl (by kernel_rfl) (fun _ _ _ h => h) hS0 (fun W hW => by go_simp) ?_
            refine T_on 4 (.slice (some ⟨g2, o4, none⟩) mv vc) rfl (by kernel_rfl) (fun _ _ _ h => h) hS0 (fun W hW => by have c := x1 W hW; go_simp) ?_
            refine T_on 5 (.int .i64 (a : Int)) rfl (by kernel_rfl) (fun _ _ _ h => h) hS0 (fun W hW => by go_simp) ?_
            refine T_on 6 (.pointer (some ⟨g2, o4 + a * 7, none⟩)) rfl (by kernel_rfl) (fun _ _ _ h => h) hS0 (fun W hW => by go_simp) ?_
            refine T_on 7 (.agg #[.int .i64 ck, .int .i64 cnn, .int .u64 cu, .bool cb, .string (mkB cs), .int .i64 ct, .slice sa sl sc]) rfl (by kernel_rfl) (fun _ _ _ h => h) hS0 (fun W hW => by have c0 := n0 W hW; have c1 := n1 W hW; have c2 := n2 W hW; have c3 := n3 W hW; have c4 := n4 W hW; have c5 := n5 W hW; have c6 := n6 W hW; go_simp) ?_
            refine T_call 8 (by kernel_rfl) rfl (fun K hK => ?_)
            go_simp
            refine (HONE.out _ (HSW.out _ hS0.1)).mono ?_
            rintro e W5 ⟨xa5, xc5, rfl, hbi5, hb5⟩
            dsimp only at hbi5 ⊢
            have hS5 : Below V.heap.size V W5 ∧ ∀ b, w1.heap.size ≤ b → b < wc.heap.size → W5.heap[b]? = wc.heap[b]? := ⟨hS0.1.trans (hb5.mono hS0.1.size), fun b h1 h2 => (hb5.block b (by show b < w3.heap.size; omega)).trans (hS0.2 b h1 h2)⟩
            have HB5 : Hid (Below w3.heap.size w3 W5) := (Below.refl _ w3).drew.trans hb5
            have hW5s := HB5.out.size
            have hby := bytesR_any xnum xty xnn xa5 xd.length xc5 xd W5 hbi5.isB hn0 hn1 hfm2.1 hfm2.2.1 (by omega) (by omega) hbi5.2.1
            unfold fv at hby
            clear hb5 hbi5 hS0
            refine hK.out _ _ hS5 (fun _ => ?_)
            clear hK K
            refine T_call 9 (by kernel_rfl) rfl (fun K hK => ?_)
            go_simp
            refine hby.mono ?_
            rintro e W6 ⟨v6, rfl, hov, hb6⟩
            have hS6 : Below V.heap.size V W6 ∧ ∀ b, w1.heap.size ≤ b → b < wc.heap.size → W6.heap[b]? = wc.heap[b]? := ⟨hS5.1.trans (hb6.mono hS5.1.size), fun b h1 h2 => (hb6.block b (by omega)).trans (hS5.2 b h1 h2)⟩
            have HB6 : Hid (Below w3.heap.size w3 W6) := HB5.out.trans (hb6.mono HB5.out.size)
            have hW6s := HB6.out.size
            obtain ⟨g9, c9, rfl, hI9⟩ := own_someB hov HFB9.out (by have := HL4.out; omega) (fbytes_pos _ _ _ _)
            have HI9 := Lib.hid hI9
            have HO6 : Hid (OwnB W6 V.heap.size o2 ((zf.take k).flatMap fb ++ (ys.take a).flatMap sb)) := own_old HOW3.out HB6.out
            clear hby hov hb6 hI9 hS5
            dsimp only
            refine hK.out _ _ hS6 (fun _ => ?_)
            clear hK K
            refine T_call 10 (by kernel_rfl) rfl (fun K hK => ?_)
            refine stepB_at rfl (.tmp 95) (.tmp 104) rfl V.heap.size o2 ((zf.take k).flatMap fb ++ (ys.take a).flatMap sb) rfl HO6.out ⟨g9, 0, none⟩ (fbytes xnum xty xnn xd).length c9 (fbytes xnum xty xnn xd) rfl HI9.out (by have := HL4.out; omega) hS6.1.size ?_
            intro v7 W7 hown7 hgr7 hat7
            have hw7 := hgr7.size
            have hS7 : Below V.heap.size V W7 ∧ ∀ b, w1.heap.size ≤ b → b < wc.heap.size → W7.heap[b]? = wc.heap[b]? := ⟨hS6.1.grown hgr7 hS6.1.size (fun b hb => own_blockB HO6.out b hb), fun b h1 h2 => (hgr7.block b (by omega) (fun e => by rcases HOB3.out b e.symm with h | h <;> omega)).trans (hS6.2 b h1 h2)⟩
            have HOB7 : Hid (∀ b, v7.ownBlock = some b → b < w1.heap.size ∨ wc.heap.size ≤ b) := by
              refine (?_ : ∀ b, _ → _)
              intro b hb
              rcases hat7 with h | h
              · exact HOB3.out b (by rw [← h]; exact hb)
              · rw [h] at hb
                have e : W6.heap.size = b := by simpa using hb
                right; omega
            have HO7 : Hid (OwnB W7 V.heap.size v7 ((zf.take k).flatMap fb ++ (ys.take (a + 1)).flatMap sb)) := by
              refine (?_ : OwnB _ _ _ _)
              rw [HTP.out, HSBC.out, ← List.append_assoc]
              exact hown7
            have HS7 := Lib.hid hS7
            have hs7 : wc.heap.size ≤ W7.heap.size := by omega
            clear hown7 hgr7 hat7 hS6
            refine hK.out _ _ hS7 (fun _ => ?_)
            clear hK K
            refine T_on 11 v7 rfl (by kernel_rfl) (fun _ _ _ h => h) hS7 (fun W hW => by go_simp) ?_
            refine wpAnyH_done (by kernel_rfl) ?_ _
            clear hS7 n0 n1 n2 n3 n4 n5 n6 b0 b1 b2 d0 d1 d2 d3 d4 x1
            go_simp
            go_wp2_with fail
            go_roundw
            case rel =>
              have e1 : a + 1 ≤ mv := by omega
              exact ⟨a + 1, v7, rfl, by go_num, e1, HS7.out.1, hs7, HS7.out.2, HOB7.out, HO7.out⟩
            case measure => simp [intOf]; omega
          · have han' : ¬ (a : Int) < (mv : Int) := by omega
            have hte : ys.take a = ys := List.take_of_length_le (by have := HMV.out; omega)
            rw [hte, ← HTK.out] at HOW3
            clear hte hb3 hBw3
            go_wp2_with fail
            go_roundw
            case rel =>
              have e1 : k + 1 ≤ ln := by omega
              first
              | exact ⟨k + 1, _, rfl, by go_num, e1, HB3.out, HOW3.out⟩
              | (repeat apply Exists.intro)
                exact ⟨⟨k + 1, _, rfl, by go_num, e1, HB3.out, HOW3.out⟩, rfl⟩
            case measure => simp [intOf]; omega
    · have hkn' : ¬ (k : Int) < (ln : Int) := by omega
      have hte : zf.take k = zf := List.take_of_length_le (by have := HLN.out; omega)
      rw [hte] at HOW
      have c2 := (HSO.out w1 hbel).2.2.2.2.2.2.2
      have HLL : Hid ((zf.flatMap fb).length + zs.length ≤ 1000000000) := by
        refine (?_ : (_ : Nat) ≤ _)
        have h2 := HRL.out
        rw [← HRE.out, List.length_append, ints_len] at h2
        omega
      clear hte hbel hBw
      go_wp2_with (at_builtin; refine wpB_str rfl _ _ rfl V.heap.size o' (zf.flatMap fb) rfl HOW.out zs rfl (by have := HLL.out; omega) hws ?_)
      intro v5 w5 hown5 hgr5
      have hB5 : Below V.heap.size V w5 := HBE.out.grown hgr5 hws (fun b hb => own_blockB HOW.out b hb)
      rw [HRE.out] at hown5
      obtain ⟨ab, cb, rfl, hbi⟩ := own_BIn hown5 HROK.out (by have := HRL.out; omega)
      have HRES : Hid (BAns R w (.returned (.slice ab R.length cb)) w5) := ⟨ab, cb, rfl, hbi.mv (fun _ _ => rfl) (fun b hb => ⟨by have := hb.1; omega, hb.2⟩), HBV.out.trans (hB5.mono HBV.out.size)⟩
      clear hown5 hgr5 hB5 hbi c2
      try go_wp2_with fail
      go_ret
      exact HRES.out
end Go.Proofs.YtfhmombnipfimaaGreatDoor
