/-
  The walk over the document's own TakeField where the field has bytes of its own (type 2).
  The walks over the library's slices.Grow (of no slice) and slices.Concat at slices of bytes: the bytes of all slices, one behind the other, in new memory; nothing that was there is changed. No condition but that all together are at most 2^48 bytes.
-/
import Derived.Test.YtpnlbmobnopnoaaGreatDoorM3
import Derived.Deep.DeepCutAuto
import Derived.Test.YtpnlbmobnopnoaaGreatDoorM2
import Derived.Laws.OwnMore
import Derived.Lib.AppendZeros
namespace Go.Proofs.YtpnlbmobnopnoaaGreatDoor
set_option linter.unusedVariables false
open Go.ChangeShapes Go.WideShapes Go.ChangeAt Go.RowKit

theorem below_rules {B : Nat} {W w1 : World} (hb : Below B W w1) : (∀ b o, b < B → w1.cell? ⟨b, o, none⟩ = W.cell? ⟨b, o, none⟩) ∧ (∀ b o, b < B → w1.frozen? ⟨b, o, none⟩ = W.frozen? ⟨b, o, none⟩) :=
  ⟨fun b o h => hb.cell (p := ⟨b, o, none⟩) h, fun b o h => hb.frozen (p := ⟨b, o, none⟩) h⟩
theorem ownE_isB {w : World} {base : Nat} {v : Value} {xs : List Int} (h : OwnE w base v xs) (hb : ∀ z ∈ xs, 0 ≤ z ∧ z ≤ 255) (hm : xs.length ≤ 281474976710656) :
    ∃ a c, v = .slice a xs.length c ∧ (a = none → xs.length = 0 ∧ c = 0) ∧ ∀ w', (∀ b o, base ≤ b → w'.cell? ⟨b, o, none⟩ = w.cell? ⟨b, o, none⟩) → IsB w' a xs.length xs := by
  rcases h with h | ⟨rfl, g, rfl⟩
  · obtain ⟨a, c, hv, hI, _, hno⟩ := own_isB h hb hm
    refine ⟨a, c, hv, hno, ?_⟩
    intro w' hw
    obtain ⟨h1, h2, h3⟩ := hI
    refine ⟨h1, h2, ?_⟩
    rcases h3 with h3 | ⟨g, off, ha, hh⟩
    · exact .inl h3
    · by_cases hx : xs = []
      · exact .inl hx
      · refine .inr ⟨g, off, ha, ?_, hh.2⟩
        intro j z hj
        rw [hw g _ ?_]
        · exact hh.1 j z hj
        · refine own_blockB h g ?_
          rw [hv, ha]; rfl
  · exact ⟨_, 0, rfl, fun h => by simp at h, fun w' _ => ⟨rfl, by simp, .inl rfl⟩⟩
set_option maxHeartbeats 2000000 in
theorem takeFieldR_2err (b off len cap : Nat) (w : World) (N : Int) (k : Nat)
    (HT : ∀ W, Below w.heap.size w W → Calls Tryz.prog 48 #[.slice (some ⟨b, off, none⟩) len cap] W fun e w' =>
      e = .returned (.tuple #[.int .u64 N, .int .i64 k, .int .i64 0]) ∧ w' = W)
    (X Q F : Int) (HT2 : ∀ W, Below w.heap.size w W → Calls Tryz.prog 48 #[.slice (some (cutAt b off cap k)) (len - k) (cap - k)] W fun e w' =>
      e = .returned (.tuple #[.int .u64 X, .int .i64 Q, .int .i64 F]) ∧ w' = W)
    (hN0 : 0 ≤ N) (hN1 : N ≤ 18446744073709551615) (h1 : 1 ≤ N / 8) (h2 : N / 8 ≤ 536870911) (hty : N % 8 = 2) (hk : k ≤ len) (hlc : len ≤ cap) (hcm : cap ≤ 9223372036854775807) (hk10 : k ≤ 10) (hF : F ≠ 0) :
    Calls Tryz.prog 29 #[.slice (some ⟨b, off, none⟩) len cap] w fun e w' => TfAns w w' e (tfErr F) := by
  have HTT : Hid _ := HT
  have HTT2 : Hid _ := HT2
  clear HT HT2
  have hFb : (F != 0) = true := by simpa using hF
  by_cases hck : cap = k
  · obtain rfl : len = k := by omega
    subst hck
    rw [cutAt_end, Nat.sub_self] at HTT2
    clear hlc
    go_enter Tryz.func29, Tryz.ntmps29
    go_wp2_with fail
    refine (HTT.out _ ((Below.refl _ _).alloc (Nat.le_refl _) _)).mono ?_
    rintro e w' ⟨rfl, rfl⟩
    clear HTT
    go_wp2_with fail
    refine (HTT2.out _ (((Below.refl _ _).alloc (Nat.le_refl _) _).alloc (by simp) _)).mono ?_
    rintro e w' ⟨rfl, rfl⟩
    clear HTT2
    go_wp2_with fail
    exact bodyPost_ret (v := .tuple #[.agg #[.int .i64 0, .int .i64 0, .int .u64 0, .slice none 0 0], .int .i64 0, .int .i64 F]) (by simp [results, Tryz.results29, go_sem]) rfl (tfErr_ans _ _ _ (((Below.refl _ _).alloc (Nat.le_refl _) _).alloc (by simp) _))
  · rw [cutAt_in hck] at HTT2
    go_enter Tryz.func29, Tryz.ntmps29
    go_wp2_with fail
    refine (HTT.out _ ((Below.refl _ _).alloc (Nat.le_refl _) _)).mono ?_
    rintro e w' ⟨rfl, rfl⟩
    clear HTT
    go_wp2_with fail
    refine (HTT2.out _ (((Below.refl _ _).alloc (Nat.le_refl _) _).alloc (by simp) _)).mono ?_
    rintro e w' ⟨rfl, rfl⟩
    clear HTT2
    go_wp2_with fail
    exact bodyPost_ret (v := .tuple #[.agg #[.int .i64 0, .int .i64 0, .int .u64 0, .slice none 0 0], .int .i64 0, .int .i64 F]) (by simp [results, Tryz.results29, go_sem]) rfl (tfErr_ans _ _ _ (((Below.refl _ _).alloc (Nat.le_refl _) _).alloc (by simp) _))
set_option maxHeartbeats 2000000 in
theorem takeFieldR_2short (b off len cap : Nat) (w : World) (N : Int) (k : Nat)
    (HT : ∀ W, Below w.heap.size w W → Calls Tryz.prog 48 #[.slice (some ⟨b, off, none⟩) len cap] W fun e w' =>
      e = .returned (.tuple #[.int .u64 N, .int .i64 k, .int .i64 0]) ∧ w' = W)
    (X : Int) (q : Nat) (HT2 : ∀ W, Below w.heap.size w W → Calls Tryz.prog 48 #[.slice (some (cutAt b off cap k)) (len - k) (cap - k)] W fun e w' =>
      e = .returned (.tuple #[.int .u64 X, .int .i64 q, .int .i64 0]) ∧ w' = W)
    (hN0 : 0 ≤ N) (hN1 : N ≤ 18446744073709551615) (h1 : 1 ≤ N / 8) (h2 : N / 8 ≤ 536870911) (hty : N % 8 = 2) (hk : k ≤ len) (hlc : len ≤ cap) (hcm : cap ≤ 9223372036854775807) (hk10 : k ≤ 10) (hq : 1 ≤ q) (hkq : k + q ≤ len) (hX0 : 0 ≤ X) (hX1 : X ≤ 18446744073709551615) (hs : (len : Int) - (k : Int) - (q : Int) < X) :
    Calls Tryz.prog 29 #[.slice (some ⟨b, off, none⟩) len cap] w fun e w' => TfAns w w' e (tfErr 5) := by
  have HTT : Hid _ := HT
  have HTT2 : Hid _ := HT2
  clear HT HT2
  have hck : ¬ cap = k := by omega
  rw [cutAt_in hck] at HTT2
  go_enter Tryz.func29, Tryz.ntmps29
  go_wp2_with fail
  refine (HTT.out _ ((Below.refl _ _).alloc (Nat.le_refl _) _)).mono ?_
  rintro e w' ⟨rfl, rfl⟩
  clear HTT
  go_wp2_with fail
  refine (HTT2.out _ (((Below.refl _ _).alloc (Nat.le_refl _) _).alloc (by simp) _)).mono ?_
  rintro e w' ⟨rfl, rfl⟩
  clear HTT2
  go_wp2_with fail
  exact bodyPost_ret (v := .tuple #[.agg #[.int .i64 0, .int .i64 0, .int .u64 0, .slice none 0 0], .int .i64 0, .int .i64 5]) (by simp [results, Tryz.results29, go_sem]) rfl (tfErr_ans _ _ _ (((Below.refl _ _).alloc (Nat.le_refl _) _).alloc (by simp) _))
set_option maxRecDepth 20000 in
set_option maxHeartbeats 4000000 in
theorem takeFieldR_2ok (zs : List Int) (b off len cap : Nat) (w : World) (N : Int) (k : Nat)
    (HT : ∀ W, Below w.heap.size w W → Calls Tryz.prog 48 #[.slice (some ⟨b, off, none⟩) len cap] W fun e w' =>
      e = .returned (.tuple #[.int .u64 N, .int .i64 k, .int .i64 0]) ∧ w' = W)
    (hB : IsB w (some ⟨b, off, none⟩) len zs) (X : Int) (q : Nat) (HT2 : ∀ W, Below w.heap.size w W → Calls Tryz.prog 48 #[.slice (some (cutAt b off cap k)) (len - k) (cap - k)] W fun e w' =>
      e = .returned (.tuple #[.int .u64 X, .int .i64 q, .int .i64 0]) ∧ w' = W)
    (hN0 : 0 ≤ N) (hN1 : N ≤ 18446744073709551615) (h1 : 1 ≤ N / 8) (h2 : N / 8 ≤ 536870911) (hty : N % 8 = 2) (hk : k ≤ len) (hlc : len ≤ cap) (hcm : cap ≤ 9223372036854775807) (hlm : len ≤ 140737488351232) (hk10 : k ≤ 10) (hq : 1 ≤ q) (hkq : k + q ≤ len) (x : Nat) (hX : X = (x : Int)) (hx : k + q + x ≤ len) (hc2 : ¬ cap = k + q) :
    Calls Tryz.prog 29 #[.slice (some ⟨b, off, none⟩) len cap] w fun e w' => TfAns w w' e ⟨N / 8, 2, 0, (zs.drop (k + q)).take x, k + q + x, 0⟩ := by
  subst hX
  have HTT : Hid _ := HT
  have HTT2 : Hid _ := HT2
  have HBB : Hid (IsB w (some ⟨b, off, none⟩) len zs) := hB
  have HDL : Hid (((zs.drop (k + q)).take x).length = x) := by
    refine (?_ : ((zs.drop (k + q)).take x).length = x)
    rw [List.length_take, List.length_drop, hB.1]; omega
  have HDB : Hid (∀ z ∈ (zs.drop (k + q)).take x, 0 ≤ z ∧ z ≤ 255) := fun z hz => isB_bytes hB z (List.mem_of_mem_drop (List.mem_of_mem_take hz))
  clear HT HT2 hB
  have hck : ¬ cap = k := by omega
  rw [cutAt_in hck] at HTT2
  go_enter Tryz.func29, Tryz.ntmps29
  go_wp2_with fail
  refine (HTT.out _ ((Below.refl _ _).alloc (Nat.le_refl _) _)).mono ?_
  rintro e w' ⟨rfl, rfl⟩
  clear HTT
  go_wp2_with fail
  refine (HTT2.out _ (((Below.refl _ _).alloc (Nat.le_refl _) _).alloc (by simp) _)).mono ?_
  rintro e w' ⟨rfl, rfl⟩
  clear HTT2
  go_wp2_with fail
  have HW : Hid (∀ W, Below w.heap.size w W → IsB W (some (cutAt b off cap (k + q))) x ((zs.drop (k + q)).take x)) := fun W hW =>
    isB_take (isB_cut (isB_old HBB.out hW) hlc (k + q) hkq) x (by omega)
  obtain ⟨D, hD⟩ : ∃ D, (zs.drop (k + q)).take x = D := ⟨_, rfl⟩
  have HD : Hid ((zs.drop (k + q)).take x = D) := hD
  rw [hD] at HW HDL HDB
  clear hD
  rw [cutAt_in hc2] at HW
  go_cut [] (fun wx => ∃ a3 c3, wx.cell? ⟨w.heap.size + 1, 0, none⟩ = some (.int .i64 (N / 8)) ∧ wx.cell? ⟨w.heap.size + 1, 1, none⟩ = some (.int .i64 2) ∧ wx.cell? ⟨w.heap.size + 1, 2, none⟩ = some (.int .u64 0) ∧ wx.cell? ⟨w.heap.size + 1, 3, none⟩ = some (.slice a3 x c3) ∧
    (∀ o, o < 4 → ∃ v, wx.cell? ⟨w.heap.size, o, none⟩ = some v) ∧ (∀ o, wx.frozen? ⟨w.heap.size, o, none⟩ = false) ∧ Below w.heap.size w wx ∧ w.heap.size + 2 ≤ wx.heap.size ∧ (a3 = none → x = 0 ∧ c3 = 0) ∧
    (∀ w', (∀ b o, w.heap.size + 2 ≤ b → w'.cell? ⟨b, o, none⟩ = wx.cell? ⟨b, o, none⟩) → IsB w' a3 x D))
  case first =>
    have hw1 : IntKind.i64.wrap (x : Int) = (x : Int) := by rw [IntKind.wrap_i64]; omega
    have hw2 : IntKind.i64.wrap ((k : Int) + (q : Int) + (x : Int)) = (k : Int) + (q : Int) + (x : Int) := by rw [IntKind.wrap_i64]; omega
    have hA1 : 0 ≤ (k : Int) + (q : Int) + (x : Int) := by omega
    have hA2 : (k : Int) + (q : Int) + (x : Int) ≤ (cap : Int) := by omega
    have hA3 : 0 ≤ (k : Int) + (q : Int) := by omega
    have hA4 : (k : Int) + (q : Int) ≤ (k : Int) + (q : Int) + (x : Int) := by omega
    have hmx : max ((k : Int) + (q : Int) + (x : Int)) 0 = (k : Int) + (q : Int) + (x : Int) := by omega
    have hT1 : ((k : Int) + (q : Int) + (x : Int)).toNat = k + q + x := by omega
    have hT2 : ((k : Int) + (q : Int)).toNat = k + q := by omega
    have hT3 : k + q + x - (k + q) = x := by omega
    have HBW : Hid (Below w.heap.size w ((w.alloc (.cells #[.int .i64 0, .int .i64 0, .int .u64 0, .slice none 0 0] 56)).alloc (.cells #[.int .i64 (N / 8), .int .i64 2, .int .u64 0, .slice none 0 0] 56)).drew) := (((Below.refl _ _).alloc (Nat.le_refl _) _).alloc (by simp) _).drew
    go_region_law (refine stepE_append rfl (.tmp 107) (.tmp 114) rfl (w.heap.size + 2) (.slice none 0 0) [] rfl (.inl (own_nil _ _)) (some ⟨b, off + (k + q), none⟩) x (cap - (k + q)) D rfl (by exact HW.out _ (((Below.refl _ _).alloc (Nat.le_refl _) _).alloc (by simp) _).drew) (by simp) (by simp; omega) (by simp) ?_; intro v3 w3 hown3 hb3; simp only [List.nil_append] at hown3; obtain ⟨a3, c3, rfl, hno3, hst3⟩ := ownE_isB hown3 HDB.out (by rw [HDL.out]; omega); rw [HDL.out] at hno3 hst3 ⊢; have hb03 : Below w.heap.size w w3 := HBW.out.trans (hb3.mono (by omega)); obtain ⟨hcc, hff⟩ := below_rules hb3; have hz3 : w.heap.size + 2 ≤ w3.heap.size := (by have := hb3.size; simp at this; omega))
    all_goals
      have HCC : Hid (∀ b o, b < w.heap.size + 2 → w3.cell? ⟨b, o, none⟩ = _) := hcc
      have HFF : Hid (∀ b o, b < w.heap.size + 2 → w3.frozen? ⟨b, o, none⟩ = _) := hff
      have HST3 : Hid _ := hst3
      have HN3 : Hid _ := hno3
      clear hcc hff hst3 hno3 hw1 hw2 hA1 hA2 hA3 hA4 hmx hT1 hT2 hT3 hown3 hb3
      go_wp2_with fail
      go_meet
      have hcc := HCC.out
      have hff := HFF.out
      have hst3 := HST3.out
      have hno3 := HN3.out
      refine ⟨a3, c3, ?_, ?_, ?_, ?_, ?_, ?_, hb03.setCell (by simp) _, by simpa using hz3, hno3, ?_⟩
      · rw [World.cell?_setCell_other _ _ _ _ (by simp), hcc _ _ (by omega)]; simp
      · rw [World.cell?_setCell_other _ _ _ _ (by simp), hcc _ _ (by omega)]; simp
      · rw [World.cell?_setCell_other _ _ _ _ (by simp), hcc _ _ (by omega)]; simp
      · refine World.cell?_setCell_same _ _ _ (u := .slice none 0 0) ?_
        rw [hcc _ _ (by omega)]; simp
      · intro o ho
        rw [World.cell?_setCell_other _ _ _ _ (by simp), hcc _ _ (by omega)]
        match o, ho with
        | 0, _ => exact ⟨_, by simp; rfl⟩
        | 1, _ => exact ⟨_, by simp; rfl⟩
        | 2, _ => exact ⟨_, by simp; rfl⟩
        | 3, _ => exact ⟨_, by simp; rfl⟩
      · intro o
        rw [World.frozen?_setCell, hff _ _ (by omega)]; simp
      · intro w' h
        exact hst3 w' (fun b o hb => (h b o hb).trans (World.cell?_setCell_other _ _ _ _ (by simp <;> omega)))
  case rest =>
    obtain ⟨a3, c3, e0, e1, e2, e3, hex, hfr, hbx, hzx, hno3, hst⟩ := hcut
    obtain ⟨v0, r0⟩ := hex 0 (by omega)
    obtain ⟨v1, r1⟩ := hex 1 (by omega)
    obtain ⟨v2, r2⟩ := hex 2 (by omega)
    obtain ⟨v3, r3⟩ := hex 3 (by omega)
    have HBX : Hid (Below w.heap.size w wc) := hbx
    have HST : Hid (∀ w', (∀ b o, w.heap.size + 2 ≤ b → w'.cell? ⟨b, o, none⟩ = wc.cell? ⟨b, o, none⟩) → IsB w' a3 x D) := hst
    have HN3 : Hid (a3 = none → x = 0 ∧ c3 = 0) := hno3
    clear hex hbx hst hno3 HW HBB HDL HDB
    go_wp2_with fail
    refine bodyPost_ret (v := .tuple #[.agg #[.int .i64 (N / 8), .int .i64 2, .int .u64 0, .slice a3 x c3], .int .i64 (k + q + x), .int .i64 0]) ?_ rfl ⟨a3, x, c3, rfl, ?_, HN3.out, ?_⟩
    · simp [results, Tryz.results29, go_sem, r0, r1, r2, r3]
    · refine stable_newB ?_
      intro w2 h2
      rw [HD.out]
      refine HST.out _ (fun b o hb => ?_)
      rw [h2 b o (by omega), World.cell?_setCell_other _ _ _ _ (by simp <;> omega), World.cell?_setCell_other _ _ _ _ (by simp <;> omega), World.cell?_setCell_other _ _ _ _ (by simp <;> omega), World.cell?_setCell_other _ _ _ _ (by simp <;> omega)]
    · exact (((HBX.out.setCell (by simp) _).setCell (by simp) _).setCell (by simp) _).setCell (by simp) _
end Go.Proofs.YtpnlbmobnopnoaaGreatDoor
namespace Go.Proofs.YtpnlbmobnopnoaaGreatDoor
set_option linter.unusedVariables false
open Go.ChangeShapes Go.WideShapes Go.ChangeAt Go.RowKit

/-- a slice that the call has made: xs, with room for n in all -/
def Fits (w : World) (base : Nat) (v : Value) (xs : List Int) (n : Nat) : Prop :=
  OwnB w base v xs ∧ ((v = .slice none 0 0 ∧ n = 0) ∨ ∃ g cap, v = .slice (some ⟨g, 0, none⟩) xs.length cap ∧ n ≤ cap)

theorem runF_append (w : World) (ty : TypeId) (base : Nat) (v : Value) (xs : List Int) (n : Nat) (hf : Fits w base v xs n)
    (ao : Option Addr) (m c : Nat) (zs : List Int) (hB : IsB w ao m zs) (hno : ao = none → m = 0 ∧ c = 0)
    (hbd : xs.length + m ≤ n) (hbase : base ≤ w.heap.size) :
    ∃ v' w', (Builtin.append_ #[33, 33] ty #[v, .slice ao m c]).run Tryz.prog w = .ok v' w' ∧ Fits w' base v' (xs ++ zs) n ∧ Below base w w' := by
  obtain ⟨i0, hi, hz0, hz1, hz2⟩ := info_parts info5B
  obtain ⟨hown, hv⟩ := hf
  have h1c : ∀ u ∈ zs.map (Value.int .u8), u.oneCell' = true := by intro u hu; simp at hu; obtain ⟨z, _, rfl⟩ := hu; rfl
  cases ao with
  | none =>
    obtain ⟨rfl, rfl⟩ := hno rfl
    have hz : zs = [] := List.eq_nil_of_length_eq_zero hB.1
    subst hz
    refine ⟨v, w, run_append_owned_none (P := Tryz.prog) (w := w) base 33 ty 5 i0 1 Tryz.underlying33 hi v _ _ hown, ?_, Below.refl _ _⟩
    rw [List.append_nil]
    exact ⟨hown, hv⟩
  | some ad =>
    rcases hv with ⟨rfl, rfl⟩ | ⟨g, cap, rfl, hn⟩
    · obtain rfl : m = 0 := by omega
      have hz : zs = [] := List.eq_nil_of_length_eq_zero hB.1
      subst hz
      obtain ⟨v', w', hr, h2, h3, h4⟩ := run_append_own (P := Tryz.prog) w base 33 ty 5 i0 (.int .u8 0) 1 1 Tryz.underlying33 hi hz0 hz1 hz2 rfl (by decide) _ _ _ hown ad 0 c [] (by simp) (by simp) (by simp) (by unfold maxLen; omega) (by omega) hbase
      obtain rfl := h4.2 ⟨rfl, rfl⟩
      refine ⟨_, w', hr, ⟨?_, .inl ⟨rfl, rfl⟩⟩, (Below.refl _ _).grown h3 hbase (own_blockB hown)⟩
      rw [List.append_nil] at h2 ⊢
      exact h2
    · obtain ⟨w', hr, h2, h3⟩ := run_append_fits (P := Tryz.prog) w base 33 ty 5 i0 1 Tryz.underlying33 hi hz1 g xs.length cap (xs.map (Value.int .u8)) hown ad m c (zs.map (Value.int .u8)) (by simp [hB.1]) (isB_cells hB) h1c (by omega)
      refine ⟨_, w', hr, ⟨?_, .inr ⟨g, cap, ?_, hn⟩⟩, (Below.refl _ _).grown h3 hbase ?_⟩
      · unfold OwnB
        rw [List.length_append, hB.1, List.map_append]
        exact h2
      · rw [List.length_append, hB.1]
      · intro k hk
        exact own_blockB hown k hk
theorem wpF_append {w : World} {ops : Array Oper} {rest : List Oper} {o : Oper} {a : Act} {Q : Exit → Act → World → Prop} (hgd : o.guard = none) (s x : Operand)
    (ho : o.op = .call { callee := .builtin .append, args := #[s, x], argTypes := #[33, 33] })
    (base : Nat) (v : Value) (xs : List Int) (n : Nat) (hs : a.eval s = v) (hown : Fits w base v xs n)
    (ao : Option Addr) (m c : Nat) (zs : List Int) (hx : a.eval x = .slice ao m c) (hB : IsB w ao m zs) (hno : ao = none → m = 0 ∧ c = 0)
    (hbd : xs.length + m ≤ n) (hbase : base ≤ w.heap.size)
    (h : ∀ v' w', Fits w' base v' (xs ++ zs) n → Below base w w' → wpList Tryz.prog ops Q rest (a.put o.dst v') w') : wpList Tryz.prog ops Q (o :: rest) a w := by
  obtain ⟨v', w', hrun, h1, h2⟩ := runF_append w o.type base v xs n hown ao m c zs hB hno hbd hbase
  refine wpList_plain hgd fun K hK => ?_
  unfold Oper.wp
  simp [execOp, ho, resolve, invoke, builtin, hs, hx, hrun, Result.andThen]
  exact hK _ _ (h v' w' h1 h2)

set_option maxHeartbeats 1000000 in
theorem growS_any (n : Nat) (w : World) (h : n ≤ 281474976710656) :
    Calls Tryz.prog 115 #[.slice none 0 0, .int .i64 n] w fun e w' =>
      ∃ v', e = .returned v' ∧ Fits w' w.heap.size v' [] n ∧ Below w.heap.size w w' := by
  by_cases h0 : n = 0
  · subst h0
    go_enter Tryz.func115, Tryz.ntmps115
    go_wp2_with fail
    go_ret
    exact ⟨_, rfl, ⟨own_nil _ _, .inl ⟨rfl, rfl⟩⟩, Below.refl _ _⟩
  · obtain ⟨i0, hi, hz0, hz1, hz2⟩ := info_parts info5B
    have hr := fun ty => Lib.run_append_nil_zeros (P := Tryz.prog) w 33 3 ty 5 i0 (.int .u8 0) .i64 .i64 Tryz.underlying33 Tryz.underlying3 hi hz0 n (by omega) (by omega) (by omega) (by rw [hz2]; omega)
    have hge := grownCap_ge w n 0 5
    have hle := grownCap_le_maxLen w n 0 5 (by unfold maxLen; omega)
    have HF : Hid (Fits (w.drew.alloc (.cells (Builtin.zeroCells (Value.int .u8 0).cells n ++ Builtin.zeroCells (Value.int .u8 0).cells (grownCap w n 0 5 - n)) 5)) w.heap.size (.slice (some ⟨w.heap.size, 0, none⟩) 0 (grownCap w n 0 5)) [] n) := by
      refine (?_ : Fits _ _ _ _ _)
      refine ⟨World.ownsRow_made w.drew _ _ (by simp) hle ?_, .inr ⟨_, _, rfl, hge⟩⟩
      simp only [Array.size_append, size_zeroCells]
      show n * 1 + (grownCap w n 0 5 - n) * 1 = _
      omega
    have HB : Hid (Below w.heap.size w (w.drew.alloc (.cells (Builtin.zeroCells (Value.int .u8 0).cells n ++ Builtin.zeroCells (Value.int .u8 0).cells (grownCap w n 0 5 - n)) 5))) :=
      ((Below.refl _ _).drew).alloc (by simp) _
    have hle2 : (grownCap w n 0 5 : Int) ≤ 9223372036854775807 := by unfold maxLen at hle; omega
    generalize grownCap w n 0 5 = G at *
    generalize w.drew.alloc (.cells (Builtin.zeroCells (Value.int .u8 0).cells n ++ Builtin.zeroCells (Value.int .u8 0).cells (G - n)) 5) = W at *
    clear hle hi hz0 hz1 hz2
    go_enter Tryz.func115, Tryz.ntmps115
    go_wp2_with (at_builtin; refine Lib.wpList_append_run _ rfl _ _ _ _ rfl _ _ rfl rfl _ _ (hr _) ?_)
    go_ret
    exact ⟨_, rfl, HF.out, HB.out⟩

/-- a slice of bytes, with its elements -/
structure Row3 where
  a : Option Addr
  len : Nat
  cap : Nat
  zs : List Int
def RowOk (w : World) (r : Row3) : Prop := IsB w r.a r.len r.zs ∧ (r.a = none → r.len = 0 ∧ r.cap = 0)
def total (rs : List Row3) : Nat := (rs.map (·.len)).sum
def joined (rs : List Row3) : List Int := rs.flatMap (·.zs)
theorem total_take {rs : List Row3} {k : Nat} {r : Row3} (h : rs[k]? = some r) : total (rs.take (k + 1)) = total (rs.take k) + r.len := by
  unfold total
  rw [List.take_add_one, h]
  simp
theorem joined_take {rs : List Row3} {k : Nat} {r : Row3} (h : rs[k]? = some r) : joined (rs.take (k + 1)) = joined (rs.take k) ++ r.zs := by
  unfold joined
  rw [List.take_add_one, h]
  simp
theorem total_le (rs : List Row3) (k : Nat) : total (rs.take k) ≤ total rs := by
  unfold total
  rw [show (rs.map (·.len)).sum = ((rs.take k ++ rs.drop k).map (·.len)).sum by rw [List.take_append_drop], List.map_append, List.sum_append]
  omega
theorem joined_length {w : World} : ∀ {rs : List Row3} (h : ∀ r ∈ rs, RowOk w r), (joined rs).length = total rs
  | [], _ => rfl
  | r :: rs, h => by
    have ih := joined_length (w := w) (rs := rs) (fun x hx => h x (List.mem_cons_of_mem _ hx))
    have hr := (h r List.mem_cons_self).1.1
    unfold joined total at *
    simp only [List.flatMap_cons, List.length_append, List.map_cons, List.sum_cons]
    omega

set_option maxHeartbeats 2000000 in
theorem concat_any (rs : List Row3) (g N : Nat) (w : World) (hN : rs.length = N) (hN2 : N ≤ 1000) (hc : ∀ k r, rs[k]? = some r → w.cell? ⟨g, k, none⟩ = some (.slice r.a r.len r.cap))
    (hok : ∀ r ∈ rs, RowOk w r) (ht : total rs ≤ 281474976710656) :
    Calls Tryz.prog 100 #[.slice (some ⟨g, 0, none⟩) N N] w fun e w' =>
      ∃ v', e = .returned v' ∧ OwnB w' w.heap.size v' (joined rs) ∧ Below w.heap.size w w' := by
  have HC : Hid (∀ k r, rs[k]? = some r → w.cell? ⟨g, k, none⟩ = some (.slice r.a r.len r.cap)) := hc
  have HK : Hid (∀ r ∈ rs, RowOk w r) := hok
  have HN : Hid (rs.length = N) := hN
  have HT : Hid (total rs ≤ 281474976710656) := ht
  clear hc hok hN ht
  go_enter Tryz.func100, Tryz.ntmps100
  go_wp2_with fail
  go_loop [3, 11] (fun s i => ∃ (k t : Nat), k ≤ N ∧ total (rs.take k) = t ∧ i = .int .i64 k ∧ s = .int .i64 t) (fun _ i => N - (intOf i).toNat)
  case atStart => exact ⟨0, 0, by omega, rfl, rfl, rfl⟩
  case round =>
    obtain ⟨k, t, hk, htk, rfl, rfl⟩ := hrel
    have HTK : Hid (total (rs.take k) = t) := htk
    clear htk
    have htl : t ≤ 281474976710656 := by have := HTK.out; have := total_le rs k; have := HT.out; omega
    by_cases hlt : k < N
    · obtain ⟨r, hr⟩ : ∃ r, rs[k]? = some r := ⟨_, List.getElem?_eq_getElem (by have := HN.out; omega)⟩
      have hcell := HC.out k r hr
      have HR : Hid (total (rs.take (k + 1)) = t + r.len) := by
        refine (?_ : total (rs.take (k + 1)) = t + r.len)
        rw [total_take hr, HTK.out]
      have hrl : t + r.len ≤ 281474976710656 := by have := HR.out; have := total_le rs (k + 1); have := HT.out; omega
      clear hr
      generalize r.len = rl at *
      generalize r.a = ra at *
      generalize r.cap = rc at *
      go_wp2_with fail
      go_round
      case rel => exact ⟨k + 1, t + rl, by omega, HR.out, by go_num, by go_num⟩
      case measure => simp [intOf]; omega
    · obtain rfl : k = N := by omega
      have HTT : Hid (total rs = t) := by
        refine (?_ : total rs = t)
        rw [← HTK.out, List.take_of_length_le (by have := HN.out; omega)]
      clear HTK
      go_wp2_with fail
      refine (growS_any t _ htl).mono ?_
      rintro e w1 ⟨v1, rfl, hf1, hb1⟩
      have HF1 : Hid (Fits w1 w.heap.size v1 [] t) := hf1
      have HB1 : Hid (Below w.heap.size w w1) := hb1
      clear hf1 hb1
      go_wp2_with fail
      go_loopw [6, 27] (fun v i wr => ∃ (q : Nat), q ≤ k ∧ i = .int .i64 q ∧ Fits wr w.heap.size v (joined (rs.take q)) t ∧ Below w.heap.size w wr) (fun _ i _ => k - (intOf i).toNat)
      case atStart => exact ⟨0, by omega, rfl, HF1.out, HB1.out⟩
      case round =>
        obtain ⟨q, hq, rfl, hfq, hbq⟩ := hrel
        have HFQ : Hid (Fits wr w.heap.size u6 (joined (rs.take q)) t) := hfq
        have HBQ : Hid (Below w.heap.size w wr) := hbq
        have hszq := hbq.size
        clear hfq hbq
        by_cases hlq : q < k
        · obtain ⟨r, hr⟩ : ∃ r, rs[q]? = some r := ⟨_, List.getElem?_eq_getElem (by have := HN.out; omega)⟩
          have hcell : wr.cell? ⟨g, q, none⟩ = some (.slice r.a r.len r.cap) := (HBQ.out.cell (cell_ltB (HC.out q r hr))).trans (HC.out q r hr)
          have HRK : Hid (RowOk w r) := HK.out r (List.mem_of_getElem? hr)
          have HJ : Hid (joined (rs.take (q + 1)) = joined (rs.take q) ++ r.zs) := joined_take hr
          have HLJ : Hid ((joined (rs.take q)).length + r.len ≤ t) := by
            refine (?_ : (joined (rs.take q)).length + r.len ≤ t)
            rw [joined_length (w := w) (fun x hx => HK.out x (List.mem_of_mem_take hx)), ← total_take hr, ← HTT.out]
            exact total_le _ _
          clear hr
          have HRB : Hid (IsB wr r.a r.len r.zs) := isB_old HRK.out.1 HBQ.out
          have HRN : Hid (r.a = none → r.len = 0 ∧ r.cap = 0) := HRK.out.2
          clear HRK
          generalize r.len = rl at *
          generalize r.a = ra at *
          generalize r.cap = rc at *
          generalize r.zs = rz at *
          go_wp2_with (at_builtin; refine wpF_append rfl (.tmp 31) (.tmp 32) rfl w.heap.size u6 (joined (rs.take q)) t rfl HFQ.out ra rl rc rz rfl HRB.out HRN.out HLJ.out hszq ?_; intro v2 w2 hf2 hb2)
          go_roundw
          case rel => exact ⟨q + 1, by omega, by go_num, by rw [HJ.out]; exact hf2, HBQ.out.trans hb2⟩
          case measure => simp [intOf]; omega
        · obtain rfl : q = k := by omega
          go_wp2_with fail
          go_ret
          refine ⟨_, rfl, ?_, HBQ.out⟩
          have := HFQ.out.1
          rw [List.take_of_length_le (by have := HN.out; omega)] at this
          exact this
end Go.Proofs.YtpnlbmobnopnoaaGreatDoor
