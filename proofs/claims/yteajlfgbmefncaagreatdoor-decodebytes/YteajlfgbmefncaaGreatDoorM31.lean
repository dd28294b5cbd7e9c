/-
  Slices of bytes that are cut, at the level of one operation.
  The walk over the document's unpack: all values that packed bytes are.
-/
import Derived.Test.YteajlfgbmefncaaGreatDoorM3
import Derived.Test.YteajlfgbmefncaaGreatDoorM8
import Derived.Test.YteajlfgbmefncaaGreatDoorM30
import Derived.Test.YteajlfgbmefncaaGreatDoorM2
import Derived.Test.YteajlfgbmefncaaGreatDoorM1
import Derived.Test.YteajlfgbmefncaaGreatDoorM15
import Derived.Test.YteajlfgbmefncaaGreatDoorM13
import Derived.Deep.RegionHeldLaw
namespace Go.Proofs.YteajlfgbmefncaaGreatDoor
set_option linter.unusedVariables false
open Go.ChangeShapes Go.WideShapes Go.ChangeAt Go.RowKit

/-- where a slice lies that is cut off ahead -/
def cutS (a : Option Addr) (c k : Nat) : Option Addr := if c = k then a else a.map (·.add k)
/-- bytes that lie in a slice with room -/
def SlS (w : World) (a : Option Addr) (len cap : Nat) (zs : List Int) : Prop := IsB w a len zs ∧ len ≤ cap ∧ (a = none → len = 0 ∧ cap = 0)
theorem cutS_from (a : Option Addr) (n c k : Nat) (hk : k ≤ n) (hn : n ≤ c) (W : World) :
    (Instr.slice 27 (.slice a n c) (some (.int .i64 (k : Int))) none none).run Tryz.prog W = .ok (.slice (cutS a c k) (n - k) (c - k)) W := by
  have h0 : (0 : Int) ≤ (k : Int) := by omega
  unfold cutS
  by_cases h : c = k
  · simp [go_sem, Instr.slice, Instr.sliceBounds, Instr.sliceBound, h, h0, hk]
  · simp [go_sem, Instr.slice, Instr.sliceBounds, Instr.sliceBound, h, h0, hk]
theorem cutS_to (a : Option Addr) (n c m : Nat) (hm : m ≤ n) (hn : n ≤ c) (W : World) :
    (Instr.slice 27 (.slice a n c) none (some (.int .i64 (m : Int))) none).run Tryz.prog W = .ok (.slice a m c) W := by
  have h2 : (0 : Int) ≤ (m : Int) := by omega
  have h4 : m ≤ c := by omega
  simp [go_sem, Instr.slice, Instr.sliceBounds, Instr.sliceBound, h2, h4]
theorem slS_cut {w : World} {a : Option Addr} {n c : Nat} {zs : List Int} (h : SlS w a n c zs) (k m : Nat) (hk : k ≤ m) (hm : m ≤ n) : SlS w (cutS a c k) (m - k) (c - k) ((zs.drop k).take (m - k)) := by
  obtain ⟨⟨h1, h2, h3⟩, h4, h6⟩ := h
  refine ⟨⟨by rw [List.length_take, List.length_drop]; omega, by omega, ?_⟩, by omega, ?_⟩
  · rcases h3 with rfl | ⟨b, off, rfl, hh⟩
    · left; simp
    · by_cases hc : c = k
      · left
        have : m - k = 0 := by omega
        rw [this, List.take_zero]
      · right
        refine ⟨b, off + k, by unfold cutS; rw [if_neg hc]; simp [add_off], fun j z hj => ?_, fun z hz => hh.2 z (List.mem_of_mem_drop (List.mem_of_mem_take hz))⟩
        rw [List.getElem?_take] at hj
        split at hj
        · rw [List.getElem?_drop] at hj
          have := hh.1 (k + j) z hj
          rwa [Nat.add_assoc]
        · cases hj
  · intro e
    unfold cutS at e
    split at e
    · have := h6 e; omega
    · cases a with
      | none => have := h6 rfl; omega
      | some x => simp at e
theorem slS_drop {w : World} {a : Option Addr} {n c : Nat} {zs : List Int} (h : SlS w a n c zs) (k : Nat) (hk : k ≤ n) : SlS w (cutS a c k) (n - k) (c - k) (zs.drop k) := by
  have h1 := slS_cut h k n hk (Nat.le_refl _)
  rwa [List.take_of_length_le (by rw [List.length_drop, h.1.1]; omega)] at h1
theorem slS_take {w : World} {a : Option Addr} {n c : Nat} {zs : List Int} (h : SlS w a n c zs) (m : Nat) (hm : m ≤ n) : IsB w a m (zs.take m) := by
  have h1 := (slS_cut h 0 m (Nat.zero_le _) hm).1
  have e : cutS a c 0 = a := by
    unfold cutS
    split
    · rfl
    · cases a with
      | none => rfl
      | some x => simp [Addr.add]
  rw [e] at h1
  simpa using h1
theorem slS_old {w w' : World} {a : Option Addr} {n c : Nat} {zs : List Int} (h : SlS w a n c zs) (hb : Below w.heap.size w w') : SlS w' a n c zs := ⟨isB_old h.1 hb, h.2⟩
end Go.Proofs.YteajlfgbmefncaaGreatDoor
namespace Go.Proofs.YteajlfgbmefncaaGreatDoor
set_option linter.unusedVariables false
open Go.ChangeShapes Go.WideShapes Go.ChangeAt Go.RowKit

def slenU : Value → Nat
  | .slice _ n _ => n
  | _ => 0
/-- what unpack answers -/
def NsAns (f : Nat) (r : Option (List Nd)) (w : World) (e : Ending) (w' : World) : Prop := match r with
  | none => e = .returned (.tuple #[.slice none 0 0, .bool false]) ∧ Below w.heap.size w w'
  | some l => ∃ a c, e = .returned (.tuple #[.slice a l.length c, .bool true]) ∧ (l = [] → a = none ∧ c = 0) ∧ ValsG clS w' (fun b => w.heap.size ≤ b ∧ b < w'.heap.size) f (.slice a l.length c) l ∧ Below w.heap.size w w'
theorem wrap_twoR (n : Int) : IntKind.i32.wrap (IntKind.i32.wrap n) = IntKind.i32.wrap n := by
  rw [IntKind.wrap_i32, IntKind.wrap_i32]; omega
theorem num_row (K n : Int) (fs : Value) : clS.row (numD K n) fs = [.int .i64 (numD K n).kind, .int .i64 (numD K n).n, .int .u64 (numD K n).u, .bool (numD K n).b, .string ⟨#[]⟩, .int .i64 0, .slice none 0 0] := by
  have e0 : mkB [] = ⟨#[]⟩ := rfl
  unfold numD
  repeat' split
  all_goals simp [clS, crow, nrow, cn, e0, wrap_twoR]
set_option maxHeartbeats 16000000 in
set_option maxRecDepth 20000 in
theorem unpackR_any (K : Int) (f : Nat) (a : Option Addr) (len cap : Nat) (zs : List Int) (w : World) (hK : NumK K) (hB : SlS w a len cap zs) (hcm : cap ≤ 9223372036854775807) (hlm : len ≤ 100000) :
    Calls Tryz.prog 69 #[.int .i64 K, .slice a len cap] w fun e w' => NsAns f (unpack K zs) w e w' := by
  obtain ⟨R, hR⟩ : ∃ R, unpack K zs = R := ⟨_, rfl⟩
  have HR := Lib.hid hR
  have HB := Lib.hid hB
  have HK := Lib.hid hK
  have hwt := fun W => wireT_any K W
  obtain ⟨wt, hw⟩ : ∃ t, wireT K = t := ⟨_, rfl⟩
  have HW : Hid ((wt = 0 ∧ ∀ ys, takeN K ys = dec 0 0 ys) ∨ (wt = 5 ∧ ∀ ys, takeN K ys = if ys.length < 4 then (0, 4, 5) else (low (ys.take 4), 4, 0)) ∨ (wt = 1 ∧ ∀ ys, takeN K ys = if ys.length < 8 then (0, 8, 5) else (low (ys.take 8), 8, 0))) := by
    refine (?_ : _ ∨ _)
    rw [← hw]
    rcases hK with rfl | rfl | rfl | rfl | rfl | rfl | rfl
    all_goals first
      | exact .inl ⟨rfl, fun ys => rfl⟩
      | exact .inr (.inl ⟨rfl, fun ys => rfl⟩)
      | exact .inr (.inr ⟨rfl, fun ys => rfl⟩)
  rw [hR]
  rw [hw] at hwt
  clear hB hR hK hw
  go_enter Tryz.func69, Tryz.ntmps69
  go_wp2_with fail
  go_loopw [1, 6] (fun bv ov wr => ∃ (ax : Option Addr) (l c : Nat) (ys : List Int) (vs : List Nd) (rs : List (List Value)), bv = .slice ax l c ∧ SlS w ax l c ys ∧ c ≤ cap ∧ vs.length + l ≤ len ∧ IsBs ys ∧ R = (unpack K ys).map (vs ++ ·) ∧ Below w.heap.size w wr ∧ Gr (VRs clS f) wr w.heap.size 38 7 ov vs rs ∧ (vs = [] → ov = .slice none 0 0)) (fun bv _ _ => slenU bv)
  case atStart => exact ⟨a, len, cap, zs, [], [], rfl, HB.out, Nat.le_refl _, by simp, isB_bytes HB.out.1, by rw [← HR.out]; simp, Below.refl _ _, Gr.nil _ _ _ _ _, fun _ => rfl⟩
  case round =>
    generalize wr = w1 at *
    obtain ⟨ax, l, c, ys, vs, rs, rfl, hI, hc1, hvl, hbs, hun, hbel, hgr, hnil⟩ := hrel
    obtain ⟨oa, oc, hov⟩ := own_slice hgr.own
    obtain ⟨n, hn⟩ : ∃ n, vs.length = n := ⟨_, rfl⟩
    rw [hn] at hov hvl
    subst hov
    have HNIL := Lib.hid hnil
    clear hnil
    have HBE := Lib.hid hbel
    have HGR := Lib.hid hgr
    have HN := Lib.hid hn
    have HUN := Lib.hid hun
    have HI := Lib.hid hI
    have hws := hbel.size
    have HFB : Hid (∀ b, (Value.slice oa n oc).ownBlock = some b → w.heap.size ≤ b ∧ b < w1.heap.size) := hgr.blk
    have hlc : l ≤ c := hI.2.1
    clear hgr hn hun hI hbel
    by_cases hl : 0 < l
    · have hyl := HI.out.1.1
      have hne : ys ≠ [] := by
        intro h
        rw [h] at hyl; simp at hyl; omega
      have HKE : Hid ((takeN K ys).2.2 = 0 → (1 ≤ (takeN K ys).2.1 ∧ (takeN K ys).2.1 ≤ (l : Int)) ∧ (0 ≤ (takeN K ys).1 ∧ (takeN K ys).1 ≤ 18446744073709551615)) := by
        refine (?_ : _ → _)
        intro h
        have h1 := takeN_k K ys hbs h
        rw [hyl] at h1
        exact ⟨h1, (takeN_bd hbs h).1⟩
      have HON : Hid ((takeN K ys).2.2 = 0 → R = (unpack K (ys.drop (takeN K ys).2.1.toNat)).map ((vs ++ [numD K (takeN K ys).1]) ++ ·)) := by
        refine (?_ : _ → _)
        intro h
        rw [HUN.out, unpack_on hbs hne h, Option.map_map]
        congr 1
        funext l
        simp
      have HER : Hid ((takeN K ys).2.2 ≠ 0 → R = none) := by
        refine (?_ : _ → _)
        intro h
        rw [HUN.out, unpack_err hne h]; rfl
      have HBS := Lib.hid hbs
      have hl0 : (0 : Int) < (l : Int) := by omega
      clear hne hbs HUN
      rcases HW.out with ⟨rfl, hT⟩ | ⟨rfl, hT⟩ | ⟨rfl, hT⟩
      · have hT0 := takeRB_any ax l c ys w1 (slS_old HI.out HBE.out).1
        rw [← hT ys] at hT0
        clear hT
        generalize takeN K ys = r at *
        obtain ⟨rn, rk, re⟩ := r
        dsimp only at hT0 HKE HON HER
        by_cases hE : re = 0
        · subst hE
          obtain ⟨⟨hs1, hs2⟩, hr1, hr2⟩ := HKE.out rfl
          have hON := HON.out rfl
          obtain ⟨q, rfl⟩ := Int.eq_ofNat_of_zero_le (show 0 ≤ rk by omega)
          rw [Int.toNat_natCast] at hON
          have HON2 := Lib.hid hON
          have hq1 : 1 ≤ q := by omega
          have hq2 : q ≤ l := by omega
          have HVL : Hid (∀ W, Calls Tryz.prog 70 #[.int .i64 K, .int .u64 rn] W fun e w' => e = .returned (numC (numD K rn)) ∧ Below W.heap.size W w') := fun W => valueR_any K rn W HK.out hr1 hr2
          have HRW := Lib.hid (num_row K rn)
          have HY7 := Lib.hid (numD_kind K rn)
          clear HKE HON HER hON hs1 hs2
          generalize numD K rn = Y at *
          unfold numC at HVL
          go_wp2_with fail
          refine (hwt _).mono ?_
          rintro e w9 ⟨rfl, h9⟩
          have h9 := h9.symm
          subst h9
          go_wp2_with fail
          refine hT0.mono ?_
          rintro e w9 ⟨rfl, h9⟩
          have h9 := h9.symm
          subst h9
          clear hT0
          go_upto_region 9 with fail
          have hS0 : Below w.heap.size w w1.drew := HBE.out.drew
          have h1s : w1.drew.heap.size = w1.heap.size := rfl
          have hG0 : Gr (VRs clS f) w1.drew w.heap.size 38 7 (.slice oa n oc) vs rs := HGR.out.keep (mvsV clS f) (fun b _ hb => rfl) (Nat.le_refl _)
          have HG0 := Lib.hid hG0
          clear hG0
          refine wp_region_held_drew (S := fun W => Below w.heap.size w W) (by kernel_rfl) hS0 (fun _ => ?_)
          refine T_on 0 (.slice oa n oc) rfl (by kernel_rfl) (fun _ _ _ h => h) hS0 (fun W hW => by go_simp) ?_
          refine T_on 1 (.int .i64 K) rfl (by kernel_rfl) (fun _ _ _ h => h) hS0 (fun W hW => by go_simp) ?_
          refine T_on 2 (.int .u64 rn) rfl (by kernel_rfl) (fun _ _ _ h => h) hS0 (fun W hW => by go_simp) ?_
          refine T_on 6 (.slice ax l c) rfl (by kernel_rfl) (fun _ _ _ h => h) hS0 (fun W hW => by go_simp) ?_
          refine T_on 7 (.int .i64 (q : Int)) rfl (by kernel_rfl) (fun _ _ _ h => h) hS0 (fun W hW => by go_simp) ?_
          refine T_on 8 (.slice (cutS ax c q) (l - q) (c - q)) rfl (by kernel_rfl) (fun _ _ _ h => h) hS0 (fun W hW => by have c0 := cutS_from ax l c q hq2 hlc W; go_simp) ?_
          refine T_call 3 (by kernel_rfl) rfl (fun K' hK' => ?_)
          go_simp
          refine (HVL.out _).mono ?_
          rintro e U3 ⟨rfl, hb3⟩
          have h3s := hb3.size
          have hS1 : Below w.heap.size w U3 := hS0.trans (hb3.mono (by omega))
          have hG3 : Gr (VRs clS f) U3 w.heap.size 38 7 (.slice oa n oc) vs rs := HG0.out.keep (mvsV clS f) (fun b _ hb => hb3.block b hb) h3s
          clear hS0
          dsimp only
          refine hK'.out _ _ hS1 (fun _ => ?_)
          clear hK' K'
          refine T_call 4 (by kernel_rfl) rfl (fun K' hK' => ?_)
          go_simp
          have hAN := alloc_heap_new U3 (.cells #[.int .i64 Y.kind, .int .i64 Y.n, .int .u64 Y.u, .bool Y.b, .string ⟨#[]⟩, .int .i64 0, .slice none 0 0] 38)
          have hAb : Below U3.heap.size U3 (U3.alloc (.cells #[.int .i64 Y.kind, .int .i64 Y.n, .int .u64 Y.u, .bool Y.b, .string ⟨#[]⟩, .int .i64 0, .slice none 0 0] 38)) := (Below.refl _ _).alloc (Nat.le_refl _) _
          have hAs : (U3.alloc (.cells #[.int .i64 Y.kind, .int .i64 Y.n, .int .u64 Y.u, .bool Y.b, .string ⟨#[]⟩, .int .i64 0, .slice none 0 0] 38)).heap.size = U3.heap.size + 1 := by simp
          have hS2 : Below w.heap.size w (U3.alloc (.cells #[.int .i64 Y.kind, .int .i64 Y.n, .int .u64 Y.u, .bool Y.b, .string ⟨#[]⟩, .int .i64 0, .slice none 0 0] 38)) := hS1.trans (hAb.mono (by omega))
          refine hK'.out _ _ hS2 (fun _ => ?_)
          clear hK' K'
          generalize U3.alloc (.cells #[.int .i64 Y.kind, .int .i64 Y.n, .int .u64 Y.u, .bool Y.b, .string ⟨#[]⟩, .int .i64 0, .slice none 0 0] 38) = WA at *
          have hGA : Gr (VRs clS f) WA w.heap.size 38 7 (.slice oa n oc) vs rs := hG3.keep (mvsV clS f) (fun b _ hb => hAb.block b hb) (by omega)
          refine T_call 5 (by kernel_rfl) rfl (fun K' hK' => ?_)
          refine vpushS (T := 38) Tryz.underlying55 infoNN rfl (by decide) ((by have := hGA.own; rw [HN.out] at this; exact this : WA.ownsRow w.heap.size 38 7 (.slice oa n oc) n (rs.flatMap id))) (by omega) [.int .i64 Y.kind, .int .i64 Y.n, .int .u64 Y.u, .bool Y.b, .string ⟨#[]⟩, .int .i64 0, .slice none 0 0] rfl (by simp [Value.oneCell']) U3.heap.size hAN rfl _ _ rfl rfl rfl (by unfold maxLen; omega) (by omega) ?_
          intro g6 cap6 W6 hown6 hgr6 hat6 hlt6
          have hG6 : Gr (VRs clS f) W6 w.heap.size 38 7 (.slice (some ⟨g6, 0, none⟩) (n + 1) cap6) (vs ++ [Y]) (rs ++ [[.int .i64 Y.kind, .int .i64 Y.n, .int .u64 Y.u, .bool Y.b, .string ⟨#[]⟩, .int .i64 0, .slice none 0 0]]) := hGA.push (mvsV clS f) (x := Y) (r := [.int .i64 Y.kind, .int .i64 Y.n, .int .u64 Y.u, .bool Y.b, .string ⟨#[]⟩, .int .i64 0, .slice none 0 0]) rfl ⟨.nilFunc, (HRW.out .nilFunc).symm, fun h => absurd (by simpa [clS] using h) HY7.out⟩ HN.out hown6 hgr6 hat6
          have HG6 := Lib.hid hG6
          have hS3 : Below w.heap.size w W6 := hS2.grown hgr6 (by omega) (fun b hb => (HFB.out b hb).1)
          refine hK'.out _ _ hS3 (fun _ => ?_)
          clear hK' K' hG6 hown6 hgr6 hat6 hAN hAb hAs hS2 hGA hG3 hS1 hb3
          refine T_on 9 (.slice (some ⟨g6, 0, none⟩) (n + 1) cap6) rfl (by kernel_rfl) (fun _ _ _ h => h) hS3 (fun W hW => by go_simp) ?_
          refine T_on 10 (.slice (cutS ax c q) (l - q) (c - q)) rfl (by kernel_rfl) (fun _ _ _ h => h) hS3 (fun W hW => by go_simp) ?_
          refine wpAnyH_done (by kernel_rfl) ?_ _
          go_simp
          go_wp2_with fail
          go_roundw
          case rel => exact ⟨_, _, _, ys.drop q, vs ++ [Y], _, rfl, slS_drop HI.out q hq2, by omega, by rw [List.length_append, HN.out]; simp; omega, fun z hz => HBS.out z (List.mem_of_mem_drop hz), HON2.out, hS3, HG6.out, fun h => absurd h (by simp)⟩
          case measure => simp [slenU]; omega
        · have hER := HER.out hE
          subst hER
          have hE2 : (re == 0) = false := by simp [hE]
          have hE3 : (re != 0) = true := by simp [hE]
          clear HKE HON HER
          go_wp2_with fail
          refine (hwt _).mono ?_
          rintro e w9 ⟨rfl, h9⟩
          have h9 := h9.symm
          subst h9
          go_wp2_with fail
          refine hT0.mono ?_
          rintro e w9 ⟨rfl, h9⟩
          have h9 := h9.symm
          subst h9
          go_wp2_with fail
          go_ret2
          exact ⟨rfl, HBE.out⟩
      · by_cases hlq : l < 4
        · have hER : R = none := HER.out (by rw [hT ys, if_pos (by omega)]; decide)
          subst hER
          have hcmp : (l : Int) < 4 := by omega
          clear HKE HON HER hT
          go_wp2_with fail
          refine (hwt _).mono ?_
          rintro e w9 ⟨rfl, h9⟩
          have h9 := h9.symm
          subst h9
          go_wp2_with fail
          go_ret2
          exact ⟨rfl, HBE.out⟩
        · have hT := hT ys
          rw [if_neg (by omega)] at hT
          rw [hT] at HKE HON HER
          dsimp only at HKE HON HER
          obtain ⟨_, hr1, hr2⟩ := HKE.out rfl
          have hq2 : 4 ≤ l := by omega
          have hNU := fun W (hW : Below w.heap.size w W) => number_any ax 4 c (ys.take 4) W (slS_take (slS_old HI.out hW) 4 hq2) (by omega)
          have HON2 : Hid (R = (unpack K (ys.drop 4)).map ((vs ++ [numD K (low (ys.take 4))]) ++ ·)) := HON.out rfl
          clear HKE HON HER hT
          generalize low (ys.take 4) = rn at *
          have hcmp : ¬ (l : Int) < 4 := by omega
          have HVL : Hid (∀ W, Calls Tryz.prog 70 #[.int .i64 K, .int .u64 rn] W fun e w' => e = .returned (numC (numD K rn)) ∧ Below W.heap.size W w') := fun W => valueR_any K rn W HK.out hr1 hr2
          have HRW := Lib.hid (num_row K rn)
          have HY7 := Lib.hid (numD_kind K rn)
          have HNU := Lib.hid hNU
          clear hNU
          generalize numD K rn = Y at *
          unfold numC at HVL
          go_wp2_with fail
          refine (hwt _).mono ?_
          rintro e w9 ⟨rfl, h9⟩
          have h9 := h9.symm
          subst h9
          go_upto_region 14 with fail
          have hS0 : Below w.heap.size w w1.drew := HBE.out.drew
          have h1s : w1.drew.heap.size = w1.heap.size := rfl
          have hG0 : Gr (VRs clS f) w1.drew w.heap.size 38 7 (.slice oa n oc) vs rs := HGR.out.keep (mvsV clS f) (fun b _ hb => rfl) (Nat.le_refl _)
          have HG0 := Lib.hid hG0
          clear hG0
          refine wp_region_held_drew (S := fun W => Below w.heap.size w W) (by kernel_rfl) hS0 (fun _ => ?_)
          refine T_on 0 (.slice oa n oc) rfl (by kernel_rfl) (fun _ _ _ h => h) hS0 (fun W hW => by go_simp) ?_
          refine T_on 1 (.int .i64 K) rfl (by kernel_rfl) (fun _ _ _ h => h) hS0 (fun W hW => by go_simp) ?_
          refine T_on 2 (.slice ax l c) rfl (by kernel_rfl) (fun _ _ _ h => h) hS0 (fun W hW => by go_simp) ?_
          refine T_on 3 (.int .i64 4) rfl (by kernel_rfl) (fun _ _ _ h => h) hS0 (fun W hW => by go_simp) ?_
          refine T_on 4 (.slice ax 4 c) rfl (by kernel_rfl) (fun _ _ _ h => h) hS0 (fun W hW => by have c0 : (Instr.slice 27 (.slice ax l c) none (some (.int .i64 4)) none).run Tryz.prog W = .ok (.slice ax 4 c) W := cutS_to ax l c 4 hq2 hlc W; go_simp) ?_
          refine T_on 9 (.slice ax l c) rfl (by kernel_rfl) (fun _ _ _ h => h) hS0 (fun W hW => by go_simp) ?_
          refine T_on 10 (.int .i64 4) rfl (by kernel_rfl) (fun _ _ _ h => h) hS0 (fun W hW => by go_simp) ?_
          refine T_on 11 (.slice (cutS ax c 4) (l - 4) (c - 4)) rfl (by kernel_rfl) (fun _ _ _ h => h) hS0 (fun W hW => by have c0 : (Instr.slice 27 (.slice ax l c) (some (.int .i64 4)) none none).run Tryz.prog W = .ok (.slice (cutS ax c 4) (l - 4) (c - 4)) W := cutS_from ax l c 4 hq2 hlc W; go_simp) ?_
          refine T_call 5 (by kernel_rfl) rfl (fun K' hK' => ?_)
          go_simp
          refine (HNU.out _ hS0).mono ?_
          rintro e w9 ⟨rfl, h9⟩
          have h9 := h9.symm
          subst h9
          dsimp only
          refine hK'.out _ _ hS0 (fun _ => ?_)
          clear hK' K'
          refine T_call 6 (by kernel_rfl) rfl (fun K' hK' => ?_)
          go_simp
          refine (HVL.out _).mono ?_
          rintro e U3 ⟨rfl, hb3⟩
          have h3s := hb3.size
          have hS1 : Below w.heap.size w U3 := hS0.trans (hb3.mono (by omega))
          have hG3 : Gr (VRs clS f) U3 w.heap.size 38 7 (.slice oa n oc) vs rs := HG0.out.keep (mvsV clS f) (fun b _ hb => hb3.block b hb) h3s
          clear hS0
          dsimp only
          refine hK'.out _ _ hS1 (fun _ => ?_)
          clear hK' K'
          refine T_call 7 (by kernel_rfl) rfl (fun K' hK' => ?_)
          go_simp
          have hAN := alloc_heap_new U3 (.cells #[.int .i64 Y.kind, .int .i64 Y.n, .int .u64 Y.u, .bool Y.b, .string ⟨#[]⟩, .int .i64 0, .slice none 0 0] 38)
          have hAb : Below U3.heap.size U3 (U3.alloc (.cells #[.int .i64 Y.kind, .int .i64 Y.n, .int .u64 Y.u, .bool Y.b, .string ⟨#[]⟩, .int .i64 0, .slice none 0 0] 38)) := (Below.refl _ _).alloc (Nat.le_refl _) _
          have hAs : (U3.alloc (.cells #[.int .i64 Y.kind, .int .i64 Y.n, .int .u64 Y.u, .bool Y.b, .string ⟨#[]⟩, .int .i64 0, .slice none 0 0] 38)).heap.size = U3.heap.size + 1 := by simp
          have hS2 : Below w.heap.size w (U3.alloc (.cells #[.int .i64 Y.kind, .int .i64 Y.n, .int .u64 Y.u, .bool Y.b, .string ⟨#[]⟩, .int .i64 0, .slice none 0 0] 38)) := hS1.trans (hAb.mono (by omega))
          refine hK'.out _ _ hS2 (fun _ => ?_)
          clear hK' K'
          generalize U3.alloc (.cells #[.int .i64 Y.kind, .int .i64 Y.n, .int .u64 Y.u, .bool Y.b, .string ⟨#[]⟩, .int .i64 0, .slice none 0 0] 38) = WA at *
          have hGA : Gr (VRs clS f) WA w.heap.size 38 7 (.slice oa n oc) vs rs := hG3.keep (mvsV clS f) (fun b _ hb => hAb.block b hb) (by omega)
          refine T_call 8 (by kernel_rfl) rfl (fun K' hK' => ?_)
          refine vpushS (T := 38) Tryz.underlying55 infoNN rfl (by decide) ((by have := hGA.own; rw [HN.out] at this; exact this : WA.ownsRow w.heap.size 38 7 (.slice oa n oc) n (rs.flatMap id))) (by omega) [.int .i64 Y.kind, .int .i64 Y.n, .int .u64 Y.u, .bool Y.b, .string ⟨#[]⟩, .int .i64 0, .slice none 0 0] rfl (by simp [Value.oneCell']) U3.heap.size hAN rfl _ _ rfl rfl rfl (by unfold maxLen; omega) (by omega) ?_
          intro g6 cap6 W6 hown6 hgr6 hat6 hlt6
          have hG6 : Gr (VRs clS f) W6 w.heap.size 38 7 (.slice (some ⟨g6, 0, none⟩) (n + 1) cap6) (vs ++ [Y]) (rs ++ [[.int .i64 Y.kind, .int .i64 Y.n, .int .u64 Y.u, .bool Y.b, .string ⟨#[]⟩, .int .i64 0, .slice none 0 0]]) := hGA.push (mvsV clS f) (x := Y) (r := [.int .i64 Y.kind, .int .i64 Y.n, .int .u64 Y.u, .bool Y.b, .string ⟨#[]⟩, .int .i64 0, .slice none 0 0]) rfl ⟨.nilFunc, (HRW.out .nilFunc).symm, fun h => absurd (by simpa [clS] using h) HY7.out⟩ HN.out hown6 hgr6 hat6
          have HG6 := Lib.hid hG6
          have hS3 : Below w.heap.size w W6 := hS2.grown hgr6 (by omega) (fun b hb => (HFB.out b hb).1)
          refine hK'.out _ _ hS3 (fun _ => ?_)
          clear hK' K' hG6 hown6 hgr6 hat6 hAN hAb hAs hS2 hGA hG3 hS1 hb3
          refine T_on 12 (.slice (some ⟨g6, 0, none⟩) (n + 1) cap6) rfl (by kernel_rfl) (fun _ _ _ h => h) hS3 (fun W hW => by go_simp) ?_
          refine T_on 13 (.slice (cutS ax c 4) (l - 4) (c - 4)) rfl (by kernel_rfl) (fun _ _ _ h => h) hS3 (fun W hW => by go_simp) ?_
          refine wpAnyH_done (by kernel_rfl) ?_ _
          go_simp
          go_wp2_with fail
          go_roundw
          case rel => exact ⟨_, _, _, ys.drop 4, vs ++ [Y], _, rfl, slS_drop HI.out 4 hq2, by omega, by rw [List.length_append, HN.out]; simp; omega, fun z hz => HBS.out z (List.mem_of_mem_drop hz), HON2.out, hS3, HG6.out, fun h => absurd h (by simp)⟩
          case measure => simp [slenU]; omega
      · by_cases hlq : l < 8
        · have hER : R = none := HER.out (by rw [hT ys, if_pos (by omega)]; decide)
          subst hER
          have hcmp : (l : Int) < 8 := by omega
          clear HKE HON HER hT
          go_wp2_with fail
          refine (hwt _).mono ?_
          rintro e w9 ⟨rfl, h9⟩
          have h9 := h9.symm
          subst h9
          go_wp2_with fail
          go_ret2
          exact ⟨rfl, HBE.out⟩
        · have hT := hT ys
          rw [if_neg (by omega)] at hT
          rw [hT] at HKE HON HER
          dsimp only at HKE HON HER
          obtain ⟨_, hr1, hr2⟩ := HKE.out rfl
          have hq2 : 8 ≤ l := by omega
          have hNU := fun W (hW : Below w.heap.size w W) => number_any ax 8 c (ys.take 8) W (slS_take (slS_old HI.out hW) 8 hq2) (by omega)
          have HON2 : Hid (R = (unpack K (ys.drop 8)).map ((vs ++ [numD K (low (ys.take 8))]) ++ ·)) := HON.out rfl
          clear HKE HON HER hT
          generalize low (ys.take 8) = rn at *
          have hcmp : ¬ (l : Int) < 8 := by omega
          have HVL : Hid (∀ W, Calls Tryz.prog 70 #[.int .i64 K, .int .u64 rn] W fun e w' => e = .returned (numC (numD K rn)) ∧ Below W.heap.size W w') := fun W => valueR_any K rn W HK.out hr1 hr2
          have HRW := Lib.hid (num_row K rn)
          have HY7 := Lib.hid (numD_kind K rn)
          have HNU := Lib.hid hNU
          clear hNU
          generalize numD K rn = Y at *
          unfold numC at HVL
          go_wp2_with fail
          refine (hwt _).mono ?_
          rintro e w9 ⟨rfl, h9⟩
          have h9 := h9.symm
          subst h9
          go_upto_region 14 with fail
          have hS0 : Below w.heap.size w w1.drew := HBE.out.drew
          have h1s : w1.drew.heap.size = w1.heap.size := rfl
          have hG0 : Gr (VRs clS f) w1.drew w.heap.size 38 7 (.slice oa n oc) vs rs := HGR.out.keep (mvsV clS f) (fun b _ hb => rfl) (Nat.le_refl _)
          have HG0 := Lib.hid hG0
          clear hG0
          refine wp_region_held_drew (S := fun W => Below w.heap.size w W) (by kernel_rfl) hS0 (fun _ => ?_)
          refine T_on 0 (.slice oa n oc) rfl (by kernel_rfl) (fun _ _ _ h => h) hS0 (fun W hW => by go_simp) ?_
          refine T_on 1 (.int .i64 K) rfl (by kernel_rfl) (fun _ _ _ h => h) hS0 (fun W hW => by go_simp) ?_
          refine T_on 2 (.slice ax l c) rfl (by kernel_rfl) (fun _ _ _ h => h) hS0 (fun W hW => by go_simp) ?_
          refine T_on 3 (.int .i64 8) rfl (by kernel_rfl) (fun _ _ _ h => h) hS0 (fun W hW => by go_simp) ?_
          refine T_on 4 (.slice ax 8 c) rfl (by kernel_rfl) (fun _ _ _ h => h) hS0 (fun W hW => by have c0 : (Instr.slice 27 (.slice ax l c) none (some (.int .i64 8)) none).run Tryz.prog W = .ok (.slice ax 8 c) W := cutS_to ax l c 8 hq2 hlc W; go_simp) ?_
          refine T_on 9 (.slice ax l c) rfl (by kernel_rfl) (fun _ _ _ h => h) hS0 (fun W hW => by go_simp) ?_
          refine T_on 10 (.int .i64 8) rfl (by kernel_rfl) (fun _ _ _ h => h) hS0 (fun W hW => by go_simp) ?_
          refine T_on 11 (.slice (cutS ax c 8) (l - 8) (c - 8)) rfl (by kernel_rfl) (fun _ _ _ h => h) hS0 (fun W hW => by have c0 : (Instr.slice 27 (.slice ax l c) (some (.int .i64 8)) none none).run Tryz.prog W = .ok (.slice (cutS ax c 8) (l - 8) (c - 8)) W := cutS_from ax l c 8 hq2 hlc W; go_simp) ?_
          refine T_call 5 (by kernel_rfl) rfl (fun K' hK' => ?_)
          go_simp
          refine (HNU.out _ hS0).mono ?_
          rintro e w9 ⟨rfl, h9⟩
          have h9 := h9.symm
          subst h9
          dsimp only
          refine hK'.out _ _ hS0 (fun _ => ?_)
          clear hK' K'
          refine T_call 6 (by kernel_rfl) rfl (fun K' hK' => ?_)
          go_simp
          refine (HVL.out _).mono ?_
          rintro e U3 ⟨rfl, hb3⟩
          have h3s := hb3.size
          have hS1 : Below w.heap.size w U3 := hS0.trans (hb3.mono (by omega))
          have hG3 : Gr (VRs clS f) U3 w.heap.size 38 7 (.slice oa n oc) vs rs := HG0.out.keep (mvsV clS f) (fun b _ hb => hb3.block b hb) h3s
          clear hS0
          dsimp only
          refine hK'.out _ _ hS1 (fun _ => ?_)
          clear hK' K'
          refine T_call 7 (by kernel_rfl) rfl (fun K' hK' => ?_)
          go_simp
          have hAN := alloc_heap_new U3 (.cells #[.int .i64 Y.kind, .int .i64 Y.n, .int .u64 Y.u, .bool Y.b, .string ⟨#[]⟩, .int .i64 0, .slice none 0 0] 38)
          have hAb : Below U3.heap.size U3 (U3.alloc (.cells #[.int .i64 Y.kind, .int .i64 Y.n, .int .u64 Y.u, .bool Y.b, .string ⟨#[]⟩, .int .i64 0, .slice none 0 0] 38)) := (Below.refl _ _).alloc (Nat.le_refl _) _
          have hAs : (U3.alloc (.cells #[.int .i64 Y.kind, .int .i64 Y.n, .int .u64 Y.u, .bool Y.b, .string ⟨#[]⟩, .int .i64 0, .slice none 0 0] 38)).heap.size = U3.heap.size + 1 := by simp
          have hS2 : Below w.heap.size w (U3.alloc (.cells #[.int .i64 Y.kind, .int .i64 Y.n, .int .u64 Y.u, .bool Y.b, .string ⟨#[]⟩, .int .i64 0, .slice none 0 0] 38)) := hS1.trans (hAb.mono (by omega))
          refine hK'.out _ _ hS2 (fun _ => ?_)
          clear hK' K'
          generalize U3.alloc (.cells #[.int .i64 Y.kind, .int .i64 Y.n, .int .u64 Y.u, .bool Y.b, .string ⟨#[]⟩, .int .i64 0, .slice none 0 0] 38) = WA at *
          have hGA : Gr (VRs clS f) WA w.heap.size 38 7 (.slice oa n oc) vs rs := hG3.keep (mvsV clS f) (fun b _ hb => hAb.block b hb) (by omega)
          refine T_call 8 (by kernel_rfl) rfl (fun K' hK' => ?_)
          refine vpushS (T := 38) Tryz.underlying55 infoNN rfl (by decide) ((by have := hGA.own; rw [HN.out] at this; exact this : WA.ownsRow w.heap.size 38 7 (.slice oa n oc) n (rs.flatMap id))) (by omega) [.int .i64 Y.kind, .int .i64 Y.n, .int .u64 Y.u, .bool Y.b, .string ⟨#[]⟩, .int .i64 0, .slice none 0 0] rfl (by simp [Value.oneCell']) U3.heap.size hAN rfl _ _ rfl rfl rfl (by unfold maxLen; omega) (by omega) ?_
          intro g6 cap6 W6 hown6 hgr6 hat6 hlt6
          have hG6 : Gr (VRs clS f) W6 w.heap.size 38 7 (.slice (some ⟨g6, 0, none⟩) (n + 1) cap6) (vs ++ [Y]) (rs ++ [[.int .i64 Y.kind, .int .i64 Y.n, .int .u64 Y.u, .bool Y.b, .string ⟨#[]⟩, .int .i64 0, .slice none 0 0]]) := hGA.push (mvsV clS f) (x := Y) (r := [.int .i64 Y.kind, .int .i64 Y.n, .int .u64 Y.u, .bool Y.b, .string ⟨#[]⟩, .int .i64 0, .slice none 0 0]) rfl ⟨.nilFunc, (HRW.out .nilFunc).symm, fun h => absurd (by simpa [clS] using h) HY7.out⟩ HN.out hown6 hgr6 hat6
          have HG6 := Lib.hid hG6
          have hS3 : Below w.heap.size w W6 := hS2.grown hgr6 (by omega) (fun b hb => (HFB.out b hb).1)
          refine hK'.out _ _ hS3 (fun _ => ?_)
          clear hK' K' hG6 hown6 hgr6 hat6 hAN hAb hAs hS2 hGA hG3 hS1 hb3
          refine T_on 12 (.slice (some ⟨g6, 0, none⟩) (n + 1) cap6) rfl (by kernel_rfl) (fun _ _ _ h => h) hS3 (fun W hW => by go_simp) ?_
          refine T_on 13 (.slice (cutS ax c 8) (l - 8) (c - 8)) rfl (by kernel_rfl) (fun _ _ _ h => h) hS3 (fun W hW => by go_simp) ?_
          refine wpAnyH_done (by kernel_rfl) ?_ _
          go_simp
          go_wp2_with fail
          go_roundw
          case rel => exact ⟨_, _, _, ys.drop 8, vs ++ [Y], _, rfl, slS_drop HI.out 8 hq2, by omega, by rw [List.length_append, HN.out]; simp; omega, fun z hz => HBS.out z (List.mem_of_mem_drop hz), HON2.out, hS3, HG6.out, fun h => absurd h (by simp)⟩
          case measure => simp [slenU]; omega
    · have hl0 : ¬ (0 : Int) < (l : Int) := by omega
      have hre : R = some vs := by
        rw [HUN.out, List.eq_nil_of_length_eq_zero (by have := HI.out.1.1; omega : ys.length = 0), unpack_nil]
        simp
      subst hre
      have HVS := Lib.hid (HGR.out.vals (s := clS) (fun b => w.heap.size ≤ b ∧ b < w1.heap.size) (fun b h1 h2 => ⟨h1, h2⟩))
      have HNL : Hid (vs = [] → oa = none ∧ oc = 0) := by
        refine (?_ : _ → _)
        intro h
        have h0 := Value.slice.inj (HNIL.out h)
        exact ⟨h0.1, h0.2.2⟩
      go_wp2_with fail
      go_ret2
      exact ⟨oa, oc, by rw [HN.out]; rfl, HNL.out, by rw [HN.out]; exact HVS.out, HBE.out⟩
end Go.Proofs.YteajlfgbmefncaaGreatDoor
