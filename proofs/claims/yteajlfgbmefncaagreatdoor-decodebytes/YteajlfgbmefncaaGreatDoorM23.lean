/-
  The walks over the program's search for rings.
-/
import Derived.Test.YteajlfgbmefncaaGreatDoorM6
import Derived.Test.YteajlfgbmefncaaGreatDoorM1
import Derived.Deep.OwnRows
import Derived.Deep.RegionHeldLaw
namespace Go.Proofs.YteajlfgbmefncaaGreatDoor
set_option linter.unusedVariables false
open Go.ChangeShapes Go.WideShapes Go.ChangeAt Go.RowKit Go.Maps

def lenV : Value → Nat
  | .slice _ n _ => n
  | _ => 0
def vFalse : Value → Bool
  | .bool b => !b
  | _ => false
def natV (x : Nat) : Value := .int .i64 (x : Int)
def unsM (w : World) (B : Nat) : Nat := match w.heap[B]? with
  | some (.cells cs _ _) => (cs.toList.filter vFalse).length
  | _ => 0
theorem unsM_eq {w : World} {B : Nat} {s : List Bool} {T : TypeId} {fr : Nat × Nat} (h : w.heap[B]? = some (.cells (s.map Value.bool).toArray T fr)) : unsM w B = uns s := by
  unfold unsM uns
  rw [h]
  show (((s.map Value.bool).toArray.toList).filter vFalse).length = _
  rw [List.toList_toArray, List.filter_map, List.length_map]
  rfl
def ringM (B : Nat) (v : Value) (w : World) : Nat := 2 * unsM w B + lenV v
def RingAns (ms : List MD) (t : Nat) (w : World) (e : Ending) (w' : World) : Prop := ∃ b, e = .returned (.bool b) ∧ (b = true ↔ Ring ms t) ∧ Below w.heap.size w w'
theorem cut_ints (g n c q : Nat) (h : q ≤ c) (W : World) : (Instr.slice 136 (.slice (some ⟨g, 0, none⟩) n c) none (some (.int .i64 (q : Int))) none).run Tryz.prog W = .ok (.slice (some ⟨g, 0, none⟩) q c) W := by
  have hsz : (sizeOf (Tryz.prog.elem 136)).run Tryz.prog W = .ok 1 W := by
    have : (Tryz.prog.info? (Tryz.prog.elem 136)).map (fun i => i.size) = some 1 := by kernel_rfl
    obtain ⟨i, hi, hs⟩ := Option.map_eq_some_iff.1 this
    simp [sizeOf, typeInfo, hi, hs]
  rw [run_slice_h (P := Tryz.prog) W 136 _ _ _ (by kernel_rfl) .i64 (q : Int) (by omega) (by omega), hsz]
  have ea : (⟨g, 0, none⟩ : Addr).add 0 = ⟨g, 0, none⟩ := by unfold Addr.add; split <;> simp_all
  simp [Result.andThen, sliced, ea]
theorem info3I : (Tryz.prog.info? 3).map (fun i => (i.zero, i.size, i.bytes)) = some (some (.int .i64 0), 1, 8) := by kernel_rfl
theorem info4B : (Tryz.prog.info? 4).map (fun i => (i.zero, i.size, i.bytes)) = some (some (.bool false), 1, 1) := by kernel_rfl
theorem made_false (n : Nat) : madeCells #[.bool false] n = ((List.replicate n false).map Value.bool).toArray := by
  apply Array.ext
  · simp [size_madeCells]
  · intro i h1 h2
    simp [madeCells, Nat.mod_one]
/-- numbers that messages' fields name are messages' numbers; nothing is too long -/
def RingFit (ms : List MD) : Prop := ms.length ≤ 100000 ∧ ∀ m ∈ ms, m.fields.length ≤ 100000 ∧ ∀ f ∈ m.fields, f.kind = 10 → f.rep = false → 0 ≤ f.type ∧ f.type < (ms.length : Int)
theorem set_bools {s : List Bool} {y : Nat} (hy : y < s.length) : ((s.map Value.bool).toArray).setIfInBounds y (.bool true) = ((s.set y true).map Value.bool).toArray := by
  apply Array.ext
  · simp
  · intro i h1 h2
    simp [List.getElem_set]
set_option maxHeartbeats 16000000 in
set_option maxRecDepth 20000 in
theorem ringP_any (ms : List MD) (v : Value) (t : Nat) (w : World) (hf : RingFit ms) (ht : t < ms.length) (hH : HeldM w (fun b => b < w.heap.size) v ms) :
    Calls Tryz.prog 51 #[v, .int .i64 (t : Int)] w fun e w' => RingAns ms t w e w' := by
  have HF := Lib.hid hf
  have HH := Lib.hid hH
  obtain ⟨ad, cc, rfl⟩ := HeldN.isSl hH
  have hn0 := hf.1
  have hst := rinv_start ms t ht
  obtain ⟨n, hn⟩ : ∃ n, ms.length = n := ⟨_, rfl⟩
  have HN := Lib.hid hn
  rw [hn] at hn0 ht hst ⊢
  have HST := Lib.hid hst
  have hmk := run_make_row' (P := Tryz.prog) 150 4 (.bool false) 1 Tryz.underlying150 info4B rfl .i64 .i64 n (by omega) (by omega)
  rw [made_false] at hmk
  clear hf hH hn hst
  obtain ⟨s0, hs0⟩ : ∃ s, List.replicate n false = s := ⟨_, rfl⟩
  rw [hs0] at hmk HST
  clear hs0
  have hM : (w.alloc (.cells (s0.map Value.bool).toArray 4)).heap[w.heap.size]? = some (.cells (s0.map Value.bool).toArray 4 (0, 0)) := alloc_heap_new _ _
  have hMb : Below w.heap.size w (w.alloc (.cells (s0.map Value.bool).toArray 4)) := (Below.refl _ w).alloc (Nat.le_refl _) _
  go_enter Tryz.func51, Tryz.ntmps51
  go_upto_region 2 with fail
  generalize (w.alloc (.cells (s0.map Value.bool).toArray 4)) = V at *
  have hlV := blk_lt hM
  have HVB := Lib.hid hMb
  have HVM := Lib.hid hM
  have hVs := hMb.size
  clear hM hMb hmk
  go_wp2_with fail
  go_loopw [6] (fun u wr => ∃ (s : List Bool) (wt : List Nat), RInv ms t s wt ∧ wr.ownsRow V.heap.size 3 1 u wt.length (wt.map natV) ∧ wr.heap[w.heap.size]? = some (.cells (s.map Value.bool).toArray 4 (0, 0)) ∧ Below w.heap.size w wr ∧ V.heap.size ≤ wr.heap.size ∧ wt.length + uns s ≤ n + 1) (fun u wr => ringM w.heap.size u wr)
  case atStart =>
    refine ⟨s0, [t], HST.out, ?_, (alloc_heap_old _ _ _ hlV).trans HVM.out, HVB.out.alloc hVs _, by simp, ?_⟩
    · exact ⟨rfl, .inr ⟨V.heap.size, 1, #[.int .i64 (t : Int)], rfl, Nat.le_refl _, alloc_heap_new _ _, Nat.le_refl _, by unfold maxLen; omega, rfl, rfl⟩⟩
    · have h1 : uns s0 ≤ s0.length := List.length_filter_le _ _
      have := HST.out.len
      rw [HN.out] at this
      simp; omega
  case round =>
    generalize wr = w1 at *
    obtain ⟨s, wt, hinv, hown, hseen, hbel, hsz, hcnt⟩ := hrel
    obtain ⟨ua, uc, huv⟩ := own_slice hown
    subst huv
    have HI := Lib.hid hinv
    have HO := Lib.hid hown
    have HS := Lib.hid hseen
    have HB := Lib.hid hbel
    have hsw := hbel.size
    have hls := blk_lt hseen
    clear hinv hown hseen hbel
    rcases List.eq_nil_or_concat wt with hnil | ⟨wt', c, hcat⟩
    · subst hnil
      have hnr := HI.out.stop
      go_wp2_with fail
      go_ret
      exact ⟨false, rfl, by simp [hnr], HB.out⟩
    · rw [List.concat_eq_append] at hcat
      subst hcat
      obtain ⟨q, hq⟩ : ∃ q, wt'.length = q := ⟨_, rfl⟩
      have hcl : (wt' ++ [c]).length = q + 1 := by simp [hq]
      have hmap : (wt' ++ [c]).map natV = wt'.map natV ++ [natV c] := by simp
      rw [hcl, hmap] at HO
      rw [hcl] at hcnt ⊢
      obtain ⟨g, huad⟩ : ∃ g, ua = some ⟨g, 0, none⟩ := by
        obtain ⟨_, ⟨hv, h0⟩ | ⟨g, cap, cur, hv, _⟩⟩ := HO.out
        · cases h0
        · injection hv with h1 _ _
          exact ⟨g, h1⟩
      subst huad
      obtain ⟨hlast0, hcap⟩ := own_last HO.out
      have hlast : w1.cell? ⟨g, q, none⟩ = some (.int .i64 (c : Int)) := hlast0
      clear hlast0
      have hgb := own_block HO.out g rfl
      have hcw := HI.out.wait c (by simp)
      rw [HN.out] at hcw
      obtain ⟨m, hm⟩ : ∃ m, ms[c]? = some m := ⟨_, List.getElem?_eq_getElem (by have := HN.out; omega)⟩
      obtain ⟨gm, om, cm, ka, kc, hsl, hgm, e0, e1, hrows⟩ := HeldN.at HH.out (W := w1) (fun b hb => HB.out.block b hb) hm
      rw [HN.out] at hsl
      obtain ⟨rfl, rfl⟩ : ad = some ⟨gm, om, none⟩ ∧ cc = cm := by
        injection hsl with h1 _ h3
        exact ⟨h1, h3⟩
      obtain ⟨hfl, hft⟩ := HF.out.2 m (List.mem_of_getElem? hm)
      have HFT := Lib.hid hft
      have HRIN := Lib.hid (HI.out.pop hm)
      have HROW := Lib.hid hrows
      have hun := unsM_eq HS.out
      have HMEA : Hid (ringM w.heap.size (.slice (some ⟨g, 0, none⟩) (q + 1) uc) w1 = 2 * uns s + (q + 1)) := by
        refine (?_ : _ = _)
        unfold ringM; rw [hun]; rfl
      obtain ⟨M0, hM0⟩ : ∃ M, 2 * uns s + (q + 1) = M := ⟨_, rfl⟩
      rw [hM0] at HMEA
      have HM0 := Lib.hid hM0
      have HOC := Lib.hid (own_cut HO.out)
      have hw1 : IntKind.i64.wrap (((q + 1 : Nat) : Int) - 1) = (q : Int) := by rw [IntKind.wrap_i64]; omega
      have hw1' : IntKind.i64.wrap ((q : Int) + 1 - 1) = (q : Int) := by rw [IntKind.wrap_i64]; omega
      have hq0 : (0 : Int) ≤ (q : Int) := by omega
      have hq1 : (q : Int) < (q : Int) + 1 := by omega
      have hqp : (0 : Int) < (q : Int) + 1 := by omega
      have hc0 : (0 : Int) ≤ (c : Int) := by omega
      have hc1 : (c : Int) < (n : Int) := by omega
      have hcut := cut_ints g (q + 1) uc q (by omega)
      obtain ⟨nf, hnf⟩ : ∃ n, m.fields.length = n := ⟨_, rfl⟩
      rw [hnf] at e1 HROW hfl
      have HNF := Lib.hid hnf
      have HQ := Lib.hid hq
      have hcq : c < n := hcw.1
      clear hcl hmap hsl hrows hun hM0 hnf hq hcw hft HI HO
      have hC : (w1.alloc (.cells #[.string (mkB m.name), .slice ka nf kc] 54)).heap[w1.heap.size]? = some (.cells #[.string (mkB m.name), .slice ka nf kc] 54 (0, 0)) := alloc_heap_new _ _
      have hCb : Below w1.heap.size w1 (w1.alloc (.cells #[.string (mkB m.name), .slice ka nf kc] 54)) := (Below.refl _ w1).alloc (Nat.le_refl _) _
      go_upto_region 5 with fail
      generalize (w1.alloc (.cells #[.string (mkB m.name), .slice ka nf kc] 54)) = Y at *
      have HBY := Lib.hid (HB.out.trans (hCb.mono hsw))
      have HSY : Hid (Y.heap[w.heap.size]? = some (.cells (s.map Value.bool).toArray 4 (0, 0))) := (hCb.block _ hls).trans HS.out
      have HOY : Hid (Y.ownsRow V.heap.size 3 1 (.slice (some ⟨g, 0, none⟩) q uc) wt'.length (wt'.map natV)) := by
        refine (?_ : World.ownsRow _ _ _ _ _ _ _)
        rw [HQ.out]
        exact own_keep HOC.out fun b hb => hCb.block b (own_block HOC.out b hb).2
      have l1 : Y.cell? ⟨w1.heap.size, 1, none⟩ = some (.slice ka nf kc) := by simp [World.cell?, hC]
      have hYs := hCb.size
      have HRY : Hid (RowsIn Y (fun b => b < w.heap.size) 5 fdrow (.slice ka nf kc) m.fields) := HROW.out.old fun b hb => hCb.block b (by have hb' : b < w.heap.size := hb; omega)
      clear hC hCb e0 e1 hlast HOC HROW
      go_wp2_with fail
      clear l1 hcut hw1 hw1'
      go_loopw [6, 35] (fun u i wr => ∃ (k : Nat) (s : List Bool) (wt : List Nat), i = .int .i64 (k : Int) ∧ k ≤ nf ∧ RIn ms t s wt c m.fields k ∧ wr.ownsRow V.heap.size 3 1 u wt.length (wt.map natV) ∧ wr.heap[w.heap.size]? = some (.cells (s.map Value.bool).toArray 4 (0, 0)) ∧ Below w.heap.size w wr ∧ V.heap.size ≤ wr.heap.size ∧ 2 * uns s + wt.length < M0 ∧ wt.length + uns s ≤ n + 1) (fun _ i _ => nf - (intOf i).toNat)
      case atStart => exact ⟨0, s, wt', rfl, Nat.zero_le _, HRIN.out, HOY.out, HSY.out, HBY.out, by omega, by have := HM0.out; have := HQ.out; omega, by have := HQ.out; omega⟩
      case round =>
        generalize wr = w2 at *
        clear HSY HOY HRIN HS hls hgb hcap hcnt
        obtain ⟨k, s2, wt2, rfl, hk, hin, hown, hseen, hbel, hsz2, hmea, hcnt⟩ := hrel
        obtain ⟨va, vc, huv⟩ := own_slice hown
        subst huv
        have HI := Lib.hid hin
        have HO := Lib.hid hown
        have HS := Lib.hid hseen
        have HB2 := Lib.hid hbel
        have hsw2 := hbel.size
        have hls := blk_lt hseen
        have hlen := hin.len
        rw [HN.out] at hlen
        clear hin hown hseen hbel
        by_cases hkn : k < nf
        · obtain ⟨y, hy⟩ : ∃ y, m.fields[k]? = some y := ⟨_, List.getElem?_eq_getElem (by have := HNF.out; omega)⟩
          obtain ⟨g2, o2, c2, hsl, hg2, e0, e1, e2, e3, e4⟩ := fd_at HRY.out (W := w2) (fun b hb => (HB2.out.block b hb).trans (HBY.out.block b hb).symm) hy
          rw [HNF.out] at hsl
          obtain ⟨rfl, rfl⟩ : ka = some ⟨g2, o2, none⟩ ∧ kc = c2 := by
            injection hsl with h1 _ h3
            exact ⟨h1, h3⟩
          have hk0 : (0 : Int) ≤ (k : Int) := by omega
          have hk1 : (k : Int) < (nf : Int) := by omega
          have hwk : IntKind.i64.wrap ((k : Int) + 1) = (k : Int) + 1 := by rw [IntKind.wrap_i64]; omega
          have HTY : Hid (y.kind = 10 → y.rep = false → 0 ≤ y.type ∧ y.type < (n : Int)) := by
            refine (?_ : _ → _)
            have := HFT.out y (List.mem_of_getElem? hy)
            rw [HN.out] at this
            exact this
          have HY := Lib.hid hy
          clear hsl hy
          have hC : (w2.alloc (.cells #[.int .i64 y.num, .string (mkB y.name), .int .i64 y.kind, .bool y.rep, .int .i64 y.type] 51)).heap[w2.heap.size]? = some (.cells #[.int .i64 y.num, .string (mkB y.name), .int .i64 y.kind, .bool y.rep, .int .i64 y.type] 51 (0, 0)) := alloc_heap_new _ _
          have hCb : Below w2.heap.size w2 (w2.alloc (.cells #[.int .i64 y.num, .string (mkB y.name), .int .i64 y.kind, .bool y.rep, .int .i64 y.type] 51)) := (Below.refl _ w2).alloc (Nat.le_refl _) _
          go_upto_region 9 with fail
          generalize (w2.alloc (.cells #[.int .i64 y.num, .string (mkB y.name), .int .i64 y.kind, .bool y.rep, .int .i64 y.type] 51)) = U at *
          have l0 : U.cell? ⟨w2.heap.size, 0, none⟩ = some (.int .i64 y.num) := by simp [World.cell?, hC]
          have l1 : U.cell? ⟨w2.heap.size, 1, none⟩ = some (.string (mkB y.name)) := by simp [World.cell?, hC]
          have l2 : U.cell? ⟨w2.heap.size, 2, none⟩ = some (.int .i64 y.kind) := by simp [World.cell?, hC]
          have l3 : U.cell? ⟨w2.heap.size, 3, none⟩ = some (.bool y.rep) := by simp [World.cell?, hC]
          have l4 : U.cell? ⟨w2.heap.size, 4, none⟩ = some (.int .i64 y.type) := by simp [World.cell?, hC]
          have HBU := Lib.hid (HB2.out.trans (hCb.mono hsw2))
          have HSU : Hid (U.heap[w.heap.size]? = some (.cells (s2.map Value.bool).toArray 4 (0, 0))) := (hCb.block _ hls).trans HS.out
          have HOU : Hid (U.ownsRow V.heap.size 3 1 (.slice va wt2.length vc) wt2.length (wt2.map natV)) := own_keep HO.out fun b hb => hCb.block b (own_block HO.out b hb).2
          have hUs := hCb.size
          have hUl := blk_lt hC
          have HCU := Lib.hid hC
          have HOB : Hid (∀ b, (Value.slice va wt2.length vc).ownBlock = some b → V.heap.size ≤ b ∧ b < w2.heap.size) := fun b hb => own_block HO.out b hb
          clear hC hCb e0 e1 e2 e3 e4 HO HS
          have hskip : ∀ (hs : y.kind = 10 → y.rep = false → ∀ z : Nat, y.type = (z : Int) → Seen s2 z), RIn ms t s2 wt2 c m.fields (k + 1) := fun hs => HI.out.skip HY.out hs
          by_cases hkd : y.kind = 10
          · rw [hkd] at l2
            cases hrp : y.rep
            case true =>
              rw [hrp] at l3
              have HN1 := Lib.hid (hskip (fun _ h => by rw [hrp] at h; cases h))
              clear hskip hrp hkd
              go_wp2_with fail
              go_roundw
              case rel => exact ⟨k + 1, s2, wt2, by go_num, by omega, HN1.out, HOU.out, HSU.out, HBU.out, by omega, by omega, by omega⟩
              case measure => simp [intOf]; omega
            case false =>
              rw [hrp] at l3
              obtain ⟨ht0, ht1⟩ := HTY.out hkd hrp
              obtain ⟨z, hz⟩ : ∃ z : Nat, y.type = (z : Int) := ⟨y.type.toNat, by omega⟩
              have hzn : z < n := by omega
              rw [hz] at l4
              have HZ := Lib.hid hz
              have HKD := Lib.hid hkd
              have HRP := Lib.hid hrp
              have hz0 : (0 : Int) ≤ (z : Int) := by omega
              have hz1 : (z : Int) < (n : Int) := by omega
              obtain ⟨b, hb⟩ : ∃ b, s2[z]? = some b := ⟨_, List.getElem?_eq_getElem (by omega)⟩
              have q0 : U.cell? ⟨w.heap.size, z, none⟩ = some (.bool b) := by simp [World.cell?, HSU.out, hb]
              have qf : U.frozen? ⟨w.heap.size, z, none⟩ = false := by simp [World.frozen?, HSU.out]
              have HBZ := Lib.hid hb
              clear hz hkd hrp hb ht0 ht1
              cases b
              case true =>
                have HN1 := Lib.hid (hskip (fun _ _ z' hz' => by have : z' = z := (by have := HZ.out; omega); subst this; exact HBZ.out))
                clear hskip
                go_wp2_with fail
                go_roundw
                case rel => exact ⟨k + 1, s2, wt2, by go_num, by omega, HN1.out, HOU.out, HSU.out, HBU.out, by omega, by omega, by omega⟩
                case measure => simp [intOf]; omega
              case false =>
                clear hskip
                by_cases hzt : z = t
                · have hr : Ring ms t := HI.out.found HY.out HKD.out HRP.out (by rw [HZ.out, hzt])
                  have hzt' : (z : Int) = (t : Int) := by omega
                  rw [hzt] at l4 q0 qf
                  have ht0 : (0 : Int) ≤ (t : Int) := by omega
                  have ht1 : (t : Int) < (n : Int) := by omega
                  clear hzt hzt' hz0 hz1
                  go_wp2_with fail
                  go_ret
                  exact ⟨true, rfl, by simp [hr], HBU.out⟩
                · have hzt' : ((z : Int) == (t : Int)) = false := by simp; omega
                  have hzt2 : ¬ (z : Int) = (t : Int) := by omega
                  have HN1 := Lib.hid (HI.out.mark HY.out HKD.out HRP.out HZ.out (by rw [HN.out]; exact hzn) hzt)
                  have hu := uns_set s2 z HBZ.out
                  have hQs : (U.setCell ⟨w.heap.size, z, none⟩ (.bool true)).heap[w.heap.size]? = some (.cells ((s2.set z true).map Value.bool).toArray 4 (0, 0)) := by rw [setCell_heap HSU.out, set_bools (by omega)]
                  have hQb : Below w.heap.size w (U.setCell ⟨w.heap.size, z, none⟩ (.bool true)) := HBU.out.setCell (p := ⟨w.heap.size, z, none⟩) (Nat.le_refl _) _
                  have hQo : ∀ b, b ≠ w.heap.size → (U.setCell ⟨w.heap.size, z, none⟩ (.bool true)).heap[b]? = U.heap[b]? := fun b hb => Below.heap_setCell _ _ _ _ hb
                  have hQz : (U.setCell ⟨w.heap.size, z, none⟩ (.bool true)).heap.size = U.heap.size := by simp
                  go_upto_region 13 with fail
                  generalize (U.setCell ⟨w.heap.size, z, none⟩ (.bool true)) = R at *
                  have hQ1 : R.heap.size ≤ U.heap.size := by omega
                  have hQ2 : U.heap.size ≤ R.heap.size := by omega
                  clear hQz
                  have HRC : Hid (R.heap[w2.heap.size]? = _) := (hQo _ (by omega)).trans HCU.out
                  have r4 : R.cell? ⟨w2.heap.size, 4, none⟩ = some (.int .i64 (z : Int)) := by have := HZ.out; simp [World.cell?, HRC.out, this]
                  have HOR : Hid (R.ownsRow V.heap.size 3 1 (.slice va wt2.length vc) wt2.length (wt2.map natV)) := own_keep HOU.out fun b hb => hQo b (by have := HOB.out b hb; omega)
                  have HSR := Lib.hid hQs
                  have HBR := Lib.hid hQb
                  clear l0 l1 l2 l3 l4 q0 qf hQs hQb hQo hzt hzt' hzt2 HOU HSU HBU HRC
                  go_wp2_with (at_builtin; refine row_pushL (T := 3) Tryz.underlying136 info3I rfl (by decide) (HOR.out.alloc _) (by simp; omega) [.int .i64 (z : Int)] rfl (by intro u hu; have : u = .int .i64 (z : Int) := (by simpa using hu); subst this; rfl) R.heap.size (alloc_heap_new _ _) rfl _ _ rfl rfl rfl (by unfold maxLen; omega) (by omega) ?_)
                  intro g3 cap3 W3 hown3 hgr3 hat3 hlt3
                  have hgR : R.grownBy W3 (Value.slice va wt2.length vc).ownBlock := (World.grownBy_alloc _ _ _).trans hgr3
                  have hne : ∀ b, b < V.heap.size → (some b ≠ (Value.slice va wt2.length vc).ownBlock) := fun b hb e => by have := HOB.out b e.symm; omega
                  have HS3 : Hid (W3.heap[w.heap.size]? = _) := (hgR.block _ (by omega) (hne _ hlV)).trans HSR.out
                  have HB3 : Hid (Below w.heap.size w W3) := HBR.out.grown hgR (by omega) (fun b hb => by have := HOB.out b hb; omega)
                  have HO3 : Hid (W3.ownsRow V.heap.size 3 1 (.slice (some ⟨g3, 0, none⟩) (wt2.length + 1) cap3) (wt2 ++ [z]).length ((wt2 ++ [z]).map natV)) := by
                    refine (?_ : World.ownsRow _ _ _ _ _ _ _)
                    rw [List.length_append, List.map_append]
                    exact hown3
                  have hs3 := hgR.size
                  clear hown3 hgr3 hat3 hgR hne r4
                  go_wp2_with fail
                  go_roundw
                  case rel => exact ⟨k + 1, s2.set z true, wt2 ++ [z], by go_num, by omega, HN1.out, HO3.out, HS3.out, HB3.out, by omega, by simp; omega, by simp; omega⟩
                  case measure => simp [intOf]; omega
          · have hkd' : (y.kind != 10) = true := by simp [hkd]
            have HN1 := Lib.hid (hskip (fun h => absurd h hkd))
            clear hskip
            go_wp2_with fail
            go_roundw
            case rel => exact ⟨k + 1, s2, wt2, by go_num, by omega, HN1.out, HOU.out, HSU.out, HBU.out, by omega, by omega, by omega⟩
            case measure => simp [intOf]; omega
        · have hkn' : ¬ (k : Int) < (nf : Int) := by omega
          have HIV := Lib.hid (HI.out.fin (by rw [HNF.out]; omega))
          have hun := unsM_eq HS.out
          have HME : Hid (ringM w.heap.size (.slice va wt2.length vc) w2 < M0) := by
            refine (?_ : (_ : Nat) < _)
            unfold ringM; rw [hun]; exact hmea
          clear hun hkn
          go_wp2_with fail
          go_roundw
          case rel => exact ⟨s2, wt2, HIV.out, HO.out, HS.out, HB2.out, hsz2, by omega⟩
          case measure => first | exact HME.out | (rw [HMEA.out]; exact HME.out) | (have h1 := HMEA.out; have h2 := HME.out; omega)
end Go.Proofs.YteajlfgbmefncaaGreatDoor
