/-
  One bit turned, anywhere, makes another sum.
-/
import Derived.Test.YtjjkijoabcjmmaaDoorCards
import Derived.Test.YtjjkijoabcjmmaaDoorTie
import Derived.WalkKit
import Derived.ProofKit
import Derived.OpenShut
import Derived.ShutString
import Derived.SizedLaws
import Derived.Below
import Derived.ChangeOld
import Derived.Lib.LaidIn
import Derived.Deep.DeepHandedRow
import Derived.Deep.DeepWitnessRowRef
import Derived.Deep.RegionWith
import Derived.Deep.RegionLaw
import Derived.Deep.DeepCutAuto
import Derived.Deep.RegionHeldLaw
import Derived.WalkSmall
import Derived.Stop.LaidErr
import Derived.Deep.DeepLaidRun
import Derived.Test.YtjjkijoabcjmmaaDoorCrS
namespace Go.Proofs.YtjjkijoabcjmmaaDoor.crcTurns

open Go.ChangeShapes Go.WideShapes Go.ChangeAt Go.RowKit
open Go.ChangeMaps (open_string shut_string)
set_option linter.unusedVariables false

theorem own : ownKnob Tryd.prog.godebug = none := by kernel_rfl
theorem laidOut : laidOutB Tryd.prog = true := by kernel_rfl

set_option maxHeartbeats 4000000 in
set_option maxRecDepth 20000 in
theorem walk (a0 : Option Addr) (len0 cap0 : Nat) (z0 : List Int) (a1 : Int) (a2 : Int) (w : World) (hT : Shf w) (w0 : ArgB w a0 len0 cap0 z0) (w1 : (Lit.int .u64 a1).wf = true) (w2 : (Lit.int .u8 a2).wf = true) :
    Calls Tryd.prog 6 #[.slice a0 len0 cap0, .int .u64 a1, .int .u8 a2] w fun e w' => e = .returned (.bool true) ∧ Below w.heap.size w w' := by
  have HT := Lib.hid hT
  have HA := Lib.hid w0
  have hlm : len0 ≤ 140737488351232 := by have := w0.2.1; have := w0.2.2.1; omega
  obtain ⟨hn0, hn1⟩ := bd_u64 w1
  obtain ⟨hb0, hb1⟩ := bd_u8 w2
  clear hT w0 w1 w2
  go_enter Tryd.func6, Tryd.ntmps6
  by_cases h0 : len0 = 0
  · subst h0
    have hz : z0 = [] := List.eq_nil_of_length_eq_zero HA.out.1
    have hb1' : Below w.heap.size w (w.alloc (.cells #[.int .u8 1] 5)) := (Below.refl _ _).alloc (Nat.le_refl _) _
    have hb2' : Below w.heap.size w ((w.alloc (.cells #[.int .u8 1] 5)).alloc (.cells #[.int .u8 3] 5)) := hb1'.alloc hb1'.size _
    have HB2 := Lib.hid hb2'
    have HT1 := Lib.hid (HT.out.below hb1')
    have HT2 := Lib.hid (HT.out.below hb2')
    have HA1 := Lib.hid (isB_one w 1 (by omega) (by omega))
    have HA2 : Hid (IsB ((w.alloc (.cells #[.int .u8 1] 5)).alloc (.cells #[.int .u8 3] 5)) (some ⟨w.heap.size + 1, 0, none⟩) 1 [3]) := by
      have := isB_one (w.alloc (.cells #[.int .u8 1] 5)) 3 (by omega) (by omega)
      rw [World.size_alloc] at this
      exact this
    have HV1 : Hid (((sumC (nats [1]) : Nat) : Int) = 2768625435) := by
      refine (?_ : _ = _)
      decide +kernel
    have HV2 : Hid (((sumC (nats [3]) : Nat) : Int) = 1259060791) := by
      refine (?_ : _ = _)
      decide +kernel
    clear hb1' hb2'
    go_wp2_with fail
    refine (sum_any _ _ _ _ _ HT1.out HA1.out).mono ?_
    rintro e w' ⟨rfl, rfl⟩
    rw [HV1.out]
    go_wp2_with fail
    refine (sum_any _ _ _ _ _ HT2.out HA2.out).mono ?_
    rintro e w' ⟨rfl, rfl⟩
    rw [HV2.out]
    go_wp2_with fail
    go_ret
    exact ⟨rfl, HB2.out⟩
  · have hne : ((len0 : Int) == 0) = false := by simp; omega
    have HO : Hid (OwnB (w.alloc (.cells #[] 5)) w.heap.size (.slice (some ⟨w.heap.size, 0, none⟩) 0 0) []) := own_blk w [] (by simp)
    have HB : Hid (IsB (w.alloc (.cells #[] 5)) a0 len0 z0) := isB_old HA.out.isB ((Below.refl _ _).alloc (Nat.le_refl _) _)
    obtain ⟨k, hk⟩ := Int.eq_ofNat_of_zero_le (Int.emod_nonneg a1 (show (len0 : Int) ≠ 0 by omega))
    have hkL : k < len0 := by
      have := Int.emod_lt_of_pos a1 (show (0 : Int) < len0 by omega)
      rw [hk] at this; omega
    have hpos : (0 : Int) < len0 := by omega
    have hnz : ¬ (len0 : Int) = 0 := by omega
    obtain ⟨m, hm⟩ := Int.eq_ofNat_of_zero_le (Int.emod_nonneg a2 (show (8 : Int) ≠ 0 by omega))
    have hm8 : m < 8 := by omega
    clear h0
    go_wp2_with (at_builtin; refine wpB_append rfl (.tmp 17) (.tmp 18) rfl w.heap.size (.slice (some ⟨w.heap.size, 0, none⟩) 0 0) [] rfl HO.out a0 len0 cap0 z0 rfl HB.out HA.out.none_of (by simp; omega) (by simp) ?_; intro v2 w2 hown2 hg2; simp only [List.nil_append] at hown2; obtain ⟨g, c, rfl, hg, hgl, hcl, hfr, hst⟩ := own_setB hown2 (by rw [HA.out.1]; omega); rw [HA.out.1] at hfr hst ⊢; obtain ⟨z, hz⟩ : ∃ z, z0[k]? = some z := ⟨_, List.getElem?_eq_getElem (by rw [HA.out.1]; exact hkL)⟩; have hzb := isB_bt HA.out.isB z (List.mem_of_getElem? hz); have hzc := hcl k z hz; have hzf := hfr k hkL; have HST := Lib.hid (hst k); have HZ := Lib.hid hz; clear hst hfr hcl hz)
    obtain ⟨hy0, hy1, hyn⟩ := bit_turned z m hzb.1 hzb.2 hm8
    generalize bits .xor .u8 z ((2 : Int) ^ m % 256) = y at *
    have hb2 : Below w.heap.size w w2 := ((Below.refl _ _).alloc (Nat.le_refl _) _).grown hg2 (by simp) (by intro k hk; simp [Value.ownBlock] at hk; omega)
    have HB3 : Hid (Below w.heap.size w (w2.setCell ⟨g, k, none⟩ (.int .u8 y))) := hb2.setCell (by simpa using hg) _
    have HO3 := HST.out y hkL
    obtain ⟨a3, c3, hv3, hI3, _, _⟩ := own_isB HO3 (fun x hx => by rcases List.mem_or_eq_of_mem_set hx with h | rfl; exact isB_bt HA.out.isB x h; exact ⟨hy0, hy1⟩) (by rw [List.length_set, HA.out.1]; omega)
    rw [List.length_set, HA.out.1] at hI3 hv3
    obtain ⟨ha3, _, hc3⟩ := Value.slice.inj hv3
    subst ha3 hc3
    have HI3 := Lib.hid hI3
    have HN := Lib.hid (sums_differ (isB_bt HA.out.isB) HZ.out hy0 hy1 hyn)
    clear hI3 hv3 HO3 HST hown2 hzc hzf hy0 hy1 hyn hg2 hb2 HB HO
    generalize w2.setCell ⟨g, k, none⟩ (.int .u8 y) = w3 at *
    refine (sum_any _ _ _ _ w3 (HT.out.below HB3.out) HI3.out).mono ?_
    rintro e w' ⟨rfl, rfl⟩
    have HB4 := Lib.hid (isB_old HA.out.isB HB3.out)
    go_wp2_with fail
    refine (sum_any _ _ _ _ _ (HT.out.below HB3.out) HB4.out).mono ?_
    rintro e w' ⟨rfl, rfl⟩
    have hne2 : (((sumC (nats (z0.set k y)) : Nat) : Int) != ((sumC (nats z0) : Nat) : Int)) = true := bne_iff_ne.2 fun e => HN.out (by omega)
    go_wp2_with fail
    go_ret
    exact ⟨rfl, HB3.out⟩

set_option maxRecDepth 100000 in
theorem contract (H : Type) (enc : TypeId × Value → H) (W : World) (base : Nat) (args : Array Value) (ds gs : List (DataW H)) (before : List MemPlace)
    (hval0 : ∀ (j : Nat) t v, Tryd.f6.params[j]? = some t → args[j]? = some v → Value.okWide Tryd.prog W .any base t v)
    (hW : DataW.Whole enc Tryd.prog Tryd.f6.params.toList Rows.crcTurnsSpec.vars false W args.toList ds gs before) (hWt : (DataW.weightsEach Tryd.prog (Tryd.f6.params.toList ++ (OpenSpec.ofChange Rows.crcTurnsSpec).bare.plain.varTypes Tryd.prog) (ds ++ gs)).all (· ≤ reachBytes) = true) (hL : laidMet Tryd.prog Rows.crcTurnsRow.laid W) :
    Calls Tryd.prog 6 args W fun e W' => ∃ v, e = .returned v ∧ Rows.crcTurnsSpec.post enc Tryd.prog Tryd.f6 false true false false W args v W' := by
  have hval : ∀ (j : Nat) t v, Tryd.f6.params[j]? = some t → args[j]? = some v → Value.okWide Tryd.prog W .any base t v := hval0
  have htS : Shf W := Lib.tabIs_of_head (g := 0) (t := 32) (e := 23) (n := 16) (k := .u32) (zs := tabI) (by kernel_rfl) (by kernel_rfl) Tryd.underlying32 Tryd.underlying23 (by kernel_rfl) (by kernel_rfl) (hL)
  have htab : Shf W := htS
  have hW' := hW
  obtain ⟨p, q, hA0, hV, rfl, hfz, hnd⟩ := hW
  have hA : DataW.TrodAll enc Tryd.prog W 0 (fun _ => true) true Tryd.f6.params.toList args.toList ds p := hA0
  have hwt : ∀ n ∈ DataW.weightsEach Tryd.prog (Tryd.f6.params.toList ++ (OpenSpec.ofChange Rows.crcTurnsSpec).bare.plain.varTypes Tryd.prog) (ds ++ gs), n ≤ 140737488351232 := fun n hn => of_decide_eq_true (List.all_eq_true.1 hWt n hn)
  have hsz := hWt
  rw [Tryd.params6] at hA hval hwt hsz
  obtain ⟨v0, vs0, d0, ds0, p0, q0, hargs, rfl, rfl, h0, r0⟩ := trodAll_cons hA
  obtain ⟨v1, vs1, d1, ds1, p1, q1, rfl, rfl, rfl, h1, r1⟩ := trodAll_cons r0
  obtain ⟨v2, vs2, d2, ds2, p2, q2, rfl, rfl, rfl, h2, r2⟩ := trodAll_cons r1
  obtain ⟨rfl, rfl, rfl⟩ := trodAll_nil r2
  obtain rfl : args = #[v0, v1, v2] := by cases args; simp_all
  obtain ⟨rfl, rfl⟩ := trodVars_none hV
  have k0 := h0
  have lt0 : ∀ x ∈ p0, x.block < W.heap.size := by obtain ⟨m, hm⟩ := k0; exact DataW.trod_lt m _ _ _ hm
  obtain ⟨a0, len0, cap0, rfl⟩ := okWide_slice Tryd.underlying22 (hval 0 22 v0 rfl rfl)
  obtain ⟨z0, w0⟩ : ∃ zs, ArgB W a0 len0 cap0 zs := by
    obtain ⟨fuel, hf⟩ := h0
    rcases open_ints Tryd.underlying22 Tryd.underlying5 (by kernel_rfl) hf with ⟨hcs, _⟩ | ⟨x, l, c, zs, hcs, _, hl, hm, hz, hx, hcell, hwz⟩
    · simp [Value.cells] at hcs
      obtain ⟨rfl, rfl, rfl⟩ := hcs
      exact ⟨[], argB_nil _⟩
    · simp [Value.cells] at hcs
      obtain ⟨rfl, rfl, rfl⟩ := hcs
      simp only [Prod.mk.injEq] at hx
      obtain ⟨rfl, _⟩ := hx
      simp only [if_true] at hz
      have hreach : cap0 ≤ 140737488351232 := by
        have := sized_slice hsz (j := 0) (t := 22) (e := 5) rfl rfl Tryd.underlying22
        rw [show Tryd.prog.bytesOf 5 = 1 by kernel_rfl] at this
        simp only [lits, List.length_map, List.length_take, List.length_drop, reachBytes] at this
        omega
      exact ⟨zs.take len0, argB_of hl hreach hz hcell hwz⟩
  have k1 := h1
  have lt1 : ∀ x ∈ p1, x.block < W.heap.size := by obtain ⟨m, hm⟩ := k1; exact DataW.trod_lt m _ _ _ hm
  obtain ⟨a1, rfl, _, _, w1⟩ := open_int Tryd.underlying30 (hval 1 30 v1 rfl rfl) h1
  have k2 := h2
  have lt2 : ∀ x ∈ p2, x.block < W.heap.size := by obtain ⟨m, hm⟩ := k2; exact DataW.trod_lt m _ _ _ hm
  obtain ⟨a2, rfl, _, _, w2⟩ := open_int Tryd.underlying5 (hval 2 5 v2 rfl rfl) h2
  clear hA0 hval0
  refine (walk a0 len0 cap0 z0 a1 a2 W htab w0 w1 w2).mono fun e W' ⟨he, bel⟩ => ?_
  subst he
  exact ⟨_, rfl, _, _, _, [], _, [], hW', trodAll_mk1 (shut_bool Tryd.underlying4 _), (trodAll_cons_mk (Below.trod laidOut (by kernel_rfl) (of_decide_eq_true (by kernel_rfl)) k0 bel lt0) (trodAll_cons_mk (Below.trod laidOut (by kernel_rfl) (of_decide_eq_true (by kernel_rfl)) k1 bel lt1) (trodAll_cons_mk (Below.trod laidOut (by kernel_rfl) (of_decide_eq_true (by kernel_rfl)) k2 bel lt2) trodAll_mk0))), rfl, bel.frame _, fun h => by cases h⟩

set_option maxRecDepth 100000 in
set_option maxHeartbeats 2000000 in
theorem wit_row (os : Os) {H : Type} (enc : TypeId × Value → H) :
    (OpenSpec.ofChange Rows.crcTurnsSpec).preRow enc Tryd.prog Tryd.f6 Rows.crcTurnsRow.domain false Rows.crcTurnsRow.laid (({ World.holding Tryd.prog os ⟨#[], #[], []⟩ with heap := (((World.holding Tryd.prog os ⟨#[], #[], []⟩).heap).modify 0 fun | .cells _ t frozen => .cells (#[.int .u32 0, .int .u32 498536548, .int .u32 997073096, .int .u32 651767980, .int .u32 1994146192, .int .u32 1802195444, .int .u32 1303535960, .int .u32 1342533948, .int .u32 3988292384, .int .u32 4027552580, .int .u32 3604390888, .int .u32 3412177804, .int .u32 2607071920, .int .u32 2262029012, .int .u32 2685067896, .int .u32 3183342108]) t frozen | o => o) } : World).forCall (fun _ _ => 0) ⟨#[], #[.slice none 0 0, .int .u64 0, .int .u8 0], []⟩).memory #[.slice none 0 0, .int .u64 0, .int .u8 0] := by
  have hl : laidMet Tryd.prog Rows.crcTurnsRow.laid (({ World.holding Tryd.prog os ⟨#[], #[], []⟩ with heap := (((World.holding Tryd.prog os ⟨#[], #[], []⟩).heap).modify 0 fun | .cells _ t frozen => .cells (#[.int .u32 0, .int .u32 498536548, .int .u32 997073096, .int .u32 651767980, .int .u32 1994146192, .int .u32 1802195444, .int .u32 1303535960, .int .u32 1342533948, .int .u32 3988292384, .int .u32 4027552580, .int .u32 3604390888, .int .u32 3412177804, .int .u32 2607071920, .int .u32 2262029012, .int .u32 2685067896, .int .u32 3183342108]) t frozen | o => o) } : World).forCall (fun _ _ => 0) ⟨#[], #[.slice none 0 0, .int .u64 0, .int .u8 0], []⟩).memory :=
    (LaidIn.of_run (l := Rows.crcTurnsRow.laid) [0] 8 (by kernel_rfl) (by kernel_rfl) (by kernel_rfl) (by kernel_rfl)).met
  have hw : (DataW.whole enc Tryd.prog (({ World.holding Tryd.prog os ⟨#[], #[], []⟩ with heap := (((World.holding Tryd.prog os ⟨#[], #[], []⟩).heap).modify 0 fun | .cells _ t frozen => .cells (#[.int .u32 0, .int .u32 498536548, .int .u32 997073096, .int .u32 651767980, .int .u32 1994146192, .int .u32 1802195444, .int .u32 1303535960, .int .u32 1342533948, .int .u32 3988292384, .int .u32 4027552580, .int .u32 3604390888, .int .u32 3412177804, .int .u32 2607071920, .int .u32 2262029012, .int .u32 2685067896, .int .u32 3183342108]) t frozen | o => o) } : World).forCall (fun _ _ => 0) ⟨#[], #[.slice none 0 0, .int .u64 0, .int .u8 0], []⟩).memory Tryd.f6.params.toList Rows.crcTurnsSpec.vars false (#[.slice none 0 0, .int .u64 0, .int .u8 0] : Array Value).toList 8).map (fun x => (x.1, x.2.1)) =
      some ([.nil, .lit (.int .u64 0), .lit (.int .u8 0)], []) := by kernel_rfl
  obtain ⟨⟨x1, x2, x3⟩, hx, hx1⟩ := Option.map_eq_some_iff.1 hw
  simp only [Prod.mk.injEq] at hx1
  obtain ⟨rfl, rfl⟩ := hx1
  exact OpenSpec.preRow_of_cond 8 hx (by kernel_rfl) (fun k hk => by cases hk) (by kernel_rfl) hl

set_option maxRecDepth 100000 in
set_option maxHeartbeats 2000000 in
theorem lifted (os : Os) (started : os.Started) (H : Type) (enc : TypeId × Value → H) (F : Stop.Interp) :
    ReturnsInHanded {} Tryd.checked os 6 .any ((OpenSpec.ofChange Rows.crcTurnsSpec).preRow enc Tryd.prog Tryd.f6 Rows.crcTurnsRow.domain false Rows.crcTurnsRow.laid) (((OpenSpec.ofChange Rows.crcTurnsSpec).at F).post enc Tryd.prog Tryd.f6 false true false false) := by
  refine returnsInHanded_of_row (C := Tryd.checked) (s := OpenSpec.ofChange Rows.crcTurnsSpec) own started (by kernel_rfl) Tryd.func6
    (witness_row_atRef (enc := enc) (C := Tryd.checked) false ({ World.holding Tryd.prog os ⟨#[], #[], []⟩ with heap := (((World.holding Tryd.prog os ⟨#[], #[], []⟩).heap).modify 0 fun | .cells _ t frozen => .cells (#[.int .u32 0, .int .u32 498536548, .int .u32 997073096, .int .u32 651767980, .int .u32 1994146192, .int .u32 1802195444, .int .u32 1303535960, .int .u32 1342533948, .int .u32 3988292384, .int .u32 4027552580, .int .u32 3604390888, .int .u32 3412177804, .int .u32 2607071920, .int .u32 2262029012, .int .u32 2685067896, .int .u32 3183342108]) t frozen | o => o) }) #[.slice none 0 0, .int .u64 0, .int .u8 0] rfl (by kernel_rfl) (by kernel_rfl) (by kernel_rfl) (wit_row os enc)) ?_
  intro W base args ds gs before hval hW _ hcond hWt hL _ _
  exact contract H enc W base args ds gs before hval hW hWt hL

theorem said : Rows.CrcTurnsSaid :=
  OpenClaim.holds_of_cond 6 Tryd.f6 rfl rfl rfl rfl rfl rfl rfl ⟨rfl, rfl, rfl, rfl, rfl⟩ rfl rfl rfl rfl rfl (by kernel_rfl) Tryd.func6 (by kernel_rfl)
    (of_decide_eq_true (by kernel_rfl)) (by unfold Func.isWrapper; first | (rw [if_pos (by decide +kernel)]; kernel_rfl) | (rw [if_neg (by decide +kernel)]; exact ⟨rfl, rfl⟩))
    (fun os started H enc _ F => by rw [OpenClaim.pre_eq_preRow]; exact lifted os started H enc F)

theorem plain (f : FuncId) (fn : Func) (hf : Tryd.pinned.checked.prog.funcNamed Rows.crcTurnsRow.func = some f) (hfn : Tryd.pinned.checked.prog.funcs[f]? = some fn) :
    false = Tryd.pinned.checked.prog.looks [] ∧ ∀ (j : Nat) t, fn.params[j]? = some t → Tryd.pinned.checked.prog.wantsStandIn t = false := by
  obtain rfl : f = 6 := Option.some.inj ((show Tryd.prog.funcNamed Rows.crcTurnsRow.func = some 6 by kernel_rfl).symm.trans hf) |>.symm
  obtain rfl : fn = Tryd.f6 := (Option.some.inj (Tryd.func6.symm.trans hfn)).symm
  refine ⟨by kernel_rfl, fun j t ht => ?_⟩
  rw [Tryd.params6] at ht
  have ht2 := Array.mem_of_getElem? ht
  simp only [List.mem_toArray, List.mem_cons, List.not_mem_nil, or_false] at ht2
  rcases ht2 with rfl | rfl | rfl
  · exact (show Tryd.prog.wantsStandIn 22 = false by kernel_rfl)
  · exact (show Tryd.prog.wantsStandIn 30 = false by kernel_rfl)
  · exact (show Tryd.prog.wantsStandIn 5 = false by kernel_rfl)

theorem proved : Rows.CrcTurnsCardSaid :=
  Claim7.holds_tied_plain_at .later [] _ _ _ _ said (fun _ h => by cases h) (by kernel_rfl) (fun _ h => by cases h) crcTurns_row_tie rfl ⟨rfl, rfl⟩ (by kernel_rfl) rfl plain (by kernel_rfl)
end Go.Proofs.YtjjkijoabcjmmaaDoor.crcTurns
namespace Go.Proofs.YtjjkijoabcjmmaaDoor
theorem crcTurns_holds : Rows.CrcTurnsCardSaid := crcTurns.proved
end Go.Proofs.YtjjkijoabcjmmaaDoor
