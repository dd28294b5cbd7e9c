/-
  The walk over the program's unpacked: all values that bytes are.
-/
import Derived.Test.YtfhmombnipfimabGreatDoorM28
import Derived.Test.YtfhmombnipfimabGreatDoorM27
namespace Go.Proofs.YtfhmombnipfimabGreatDoor
set_option linter.unusedVariables false
open Go.ChangeShapes Go.WideShapes Go.ChangeAt Go.RowKit

def exO : Option (List Nd) → Except Int (List Nd)
  | none => .error 2
  | some l => .ok l
def unpR (k : Int) (zs : List Int) : Except Int (List Nd) := exO (unpack k zs)
theorem numD_kind (k n : Int) : (numD k n).kind ≠ 7 := by
  unfold numD
  repeat' split
  all_goals simp
theorem ival_num (k n : Int) : ∃ U u, ival (numD k n) .nilFunc = .iface U u := by
  unfold numD
  repeat' split
  all_goals exact ⟨_, _, rfl⟩
set_option maxHeartbeats 8000000 in
set_option maxRecDepth 20000 in
theorem unpacked_any (K : Int) (f : Nat) (a : Option Addr) (len cap : Nat) (zs : List Int) (w : World) (hB : IsB w a len zs) (hlc : len ≤ cap) (hcm : cap ≤ 9223372036854775807) (hlm : len ≤ 100000) :
    Calls Tryz.prog 81 #[.int .i64 K, .slice a len cap] w fun e w' => VsAns f (unpR K zs) w e w' := by
  obtain ⟨R, hR⟩ : ∃ R, unpack K zs = R := ⟨_, rfl⟩
  have HR := Lib.hid hR
  have HB := Lib.hid hB
  have HU : Hid (unpR K zs = exO R) := by
    refine (?_ : _ = _)
    unfold unpR; rw [hR]
  rw [HU.out]
  clear hB hR HU
  go_enter Tryz.func81, Tryz.ntmps81
  go_wp2_with fail
  go_loopw [6, 7] (fun ov i wr => ∃ (k : Nat) (o' : Value) (vs : List Nd) (rs : List (List Value)), o' = ov ∧ i = .int .i64 (k : Int) ∧ k ≤ len ∧ vs.length ≤ k ∧ R = (unpack K (zs.drop k)).map (vs ++ ·) ∧ Below w.heap.size w wr ∧ Gr (VRs valS f) wr w.heap.size 38 1 o' vs rs ∧ (vs = [] → o' = .slice none 0 0)) (fun _ i _ => len - (intOf i).toNat)
  case atStart => exact ⟨0, _, [], [], rfl, rfl, Nat.zero_le _, Nat.le_refl _, by rw [← HR.out]; simp, Below.refl _ _, Gr.nil _ _ _ _ _, fun _ => rfl⟩
  case round =>
    generalize wr = w1 at *
    obtain ⟨k, o', vs, rs, rfl, rfl, hk, hvl, hun, hbel, hgr, hnil⟩ := hrel
    obtain ⟨oa, oc, hov⟩ := own_slice hgr.own
    obtain ⟨n, hn⟩ : ∃ n, vs.length = n := ⟨_, rfl⟩
    rw [hn] at hov hvl
    subst hov
    have HNIL := Lib.hid hnil
    clear hnil
    have HBE := Lib.hid hbel
    have HGR := Lib.hid hgr
    have HN := Lib.hid hn
    have HUN := Lib.hid hun
    have hws := hbel.size
    have HFB : Hid (∀ b, (Value.slice oa n oc).ownBlock = some b → w.heap.size ≤ b ∧ b < w1.heap.size) := hgr.blk
    clear hgr hn hun
    by_cases hkn : k < len
    · have hzl := HB.out.1
      obtain ⟨b, off, _, rfl, _⟩ := isB_at HB.out hkn
      have hck : ¬ cap = k := by omega
      have hIk : IsB w1 (some ⟨b, off + k, none⟩) (len - k) (zs.drop k) := by
        have := isB_cut (isB_old HB.out hbel) hlc k (by omega)
        rw [cutAt_in hck] at this
        exact this
      have hT := takeNumber_any K (some ⟨b, off + k, none⟩) (len - k) (cap - k) (zs.drop k) w1 hIk
      have hne : zs.drop k ≠ [] := by
        intro h
        have := congrArg List.length h
        rw [List.length_drop] at this
        simp at this; omega
      have hbs : IsBs (zs.drop k) := fun z hz => isB_bytes HB.out z (List.mem_of_mem_drop hz)
      have HKE : Hid ((takeN K (zs.drop k)).2.2 = 0 → (1 ≤ (takeN K (zs.drop k)).2.1 ∧ (takeN K (zs.drop k)).2.1 ≤ ((len - k : Nat) : Int)) ∧ (0 ≤ (takeN K (zs.drop k)).1 ∧ (takeN K (zs.drop k)).1 ≤ 18446744073709551615)) := by
        refine (?_ : _ → _)
        intro h
        have h1 := takeN_k K (zs.drop k) hbs h
        rw [List.length_drop, hzl] at h1
        exact ⟨h1, (takeN_bd hbs h).1⟩
      have HON : Hid ((takeN K (zs.drop k)).2.2 = 0 → R = (unpack K ((zs.drop k).drop (takeN K (zs.drop k)).2.1.toNat)).map ((vs ++ [numD K (takeN K (zs.drop k)).1]) ++ ·)) := by
        refine (?_ : _ → _)
        intro h
        rw [HUN.out, unpack_on hbs hne h, Option.map_map]
        congr 1
        funext l
        simp
      have HER : Hid ((takeN K (zs.drop k)).2.2 ≠ 0 → R = none) := by
        refine (?_ : _ → _)
        intro h
        rw [HUN.out, unpack_err hne h]; rfl
      have hk0 : (0 : Int) ≤ (k : Int) := by omega
      have hk1 : (k : Int) < (len : Int) := by omega
      clear hzl hne hbs hIk hbel HUN
      generalize takeN K (zs.drop k) = r at *
      obtain ⟨rn, rs', re⟩ := r
      dsimp only at hT HKE HON HER
      by_cases hE : re = 0
      · subst hE
        obtain ⟨⟨hs1, hs2⟩, hr1, hr2⟩ := HKE.out rfl
        have hON := HON.out rfl
        obtain ⟨q, rfl⟩ := Int.eq_ofNat_of_zero_le (show 0 ≤ rs' by omega)
        rw [Int.toNat_natCast, List.drop_drop] at hON
        have HON2 := Lib.hid hON
        have hq1 : 1 ≤ q := by omega
        have hof := ofNumber_any K rn w1 hr1 hr2
        have hvk : (numD K rn).kind ≠ 7 := numD_kind _ _
        obtain ⟨U, u, hV⟩ := ival_num K rn
        generalize numD K rn = Y at *
        have hone := ival_one Y .nilFunc
        rw [hV] at hof hone
        have HVY := Lib.hid hV
        have HY7 := Lib.hid hvk
        obtain ⟨X, hX, hXC, hXb, hXs⟩ := box_new w1 #[.iface U u] 38
        have HX := Lib.hid hX
        have hGX : Gr (VRs valS f) X w.heap.size 38 1 (.slice oa n oc) vs rs := HGR.out.keep (mvsV valS f) (fun b _ hb => hXb.block b hb) hXb.size
        have HGX := Lib.hid hGX
        have HXC := Lib.hid hXC
        have HXB := Lib.hid (HBE.out.trans (hXb.mono hws))
        have hwq : IntKind.i64.wrap ((k : Int) + (q : Int)) = (k : Int) + (q : Int) := by rw [IntKind.wrap_i64]; omega
        have hOW : X.ownsRow w.heap.size 38 1 (.slice oa n oc) n (rs.flatMap id) := by have := hGX.own; rw [HN.out] at this; exact this
        have HOW := Lib.hid hOW
        have hn1 : n ≤ 100000 := by omega
        clear HKE HON HER hON hV hvk hX hXC hXb hGX hOW hs1
        go_wp2_with fail
        refine hT.mono ?_
        rintro e w9 ⟨rfl, h9⟩
        have h9 := h9.symm
        subst h9
        clear hT
        go_wp2_with fail
        refine hof.mono ?_
        rintro e w9 ⟨rfl, h9⟩
        have h9 := h9.symm
        subst h9
        clear hof
        go_wp2_with (at_builtin; rw [HX.out]; refine wpushL (T := 38) (base := w.heap.size) (n := n) (v := .slice oa n oc) (xs := rs.flatMap id) Tryz.underlying47 infoVV rfl (by decide) HOW.out (by omega) ⟨w1.heap.size, 0, none⟩ 1 1 [.iface U u] rfl (by intro q hu; have e : q = .iface U u := (by simpa using hu); rw [e]; exact hone) (fun j u hu => World.news_of_block HXC.out j u hu) (by decide) rfl _ _ rfl rfl rfl (by unfold maxLen; omega) (by omega) ?_; intro g cap' W3 hown3 hg3 hat3 hlt3)
        have hG3 : Gr (VRs valS f) W3 w.heap.size 38 1 (.slice (some ⟨g, 0, none⟩) (n + 1) cap') (vs ++ [Y]) (rs ++ [[.iface U u]]) := HGX.out.push (mvsV valS f) (x := Y) (r := [.iface U u]) rfl ⟨.nilFunc, by rw [← HVY.out]; rfl, fun h => absurd (by simpa [valS] using h) HY7.out⟩ HN.out hown3 hg3 hat3
        have HG3 := Lib.hid hG3
        have HB3 : Hid (Below w.heap.size w W3) := HXB.out.grown hg3 (by omega) (fun b hb => (HFB.out b hb).1)
        clear hG3 hown3 hg3 hat3 hlt3
        go_wp2_with fail
        go_roundw
        case rel => exact ⟨k + q, _, vs ++ [Y], _, rfl, by go_num, by omega, by rw [List.length_append, HN.out]; simp; omega, HON2.out, HB3.out, HG3.out, fun h => absurd h (by simp)⟩
        case measure => simp [intOf]; omega
      · have hER := HER.out hE
        subst hER
        have hE2 : (re == 0) = false := by simp [hE]
        have hE3 : (re != 0) = true := by simp [hE]
        clear HKE HON HER
        go_wp2_with fail
        refine hT.mono ?_
        rintro e w9 ⟨rfl, h9⟩
        have h9 := h9.symm
        subst h9
        clear hT
        go_wp2_with fail
        go_ret2
        exact ⟨by decide, ⟨_, rfl⟩, HBE.out⟩
    · have hkn' : ¬ (k : Int) < (len : Int) := by omega
      have hre : R = some vs := by
        rw [HUN.out, List.drop_eq_nil_of_le (by have := HB.out.1; omega), unpack_nil]
        simp
      subst hre
      have HVS := Lib.hid (HGR.out.vals (s := valS) (fun b => w.heap.size ≤ b ∧ b < w1.heap.size) (fun b h1 h2 => ⟨h1, h2⟩))
      have HNL : Hid (vs = [] → oa = none ∧ oc = 0) := by
        refine (?_ : _ → _)
        intro h
        have h0 := Value.slice.inj (HNIL.out h)
        exact ⟨h0.1, h0.2.2⟩
      go_wp2_with fail
      go_ret2
      refine ⟨oa, oc, by rw [HN.out]; rfl, HNL.out, by rw [HN.out]; exact HVS.out, HBE.out⟩
end Go.Proofs.YtfhmombnipfimabGreatDoor
