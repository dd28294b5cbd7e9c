/-
  The walk over the document's own TakeField where the field has bytes of its own (type 2).
-/
import Derived.Test.YtpnlbmobnopnoaaGreatDoorM5
import Derived.Deep.DeepCutAuto
namespace Go.Proofs.YtpnlbmobnopnoaaGreatDoor
set_option linter.unusedVariables false
open Go.ChangeShapes Go.WideShapes Go.ChangeAt Go.RowKit

theorem below_rules {B : Nat} {W w1 : World} (hb : Below B W w1) : (∀ b o, b < B → w1.cell? ⟨b, o, none⟩ = W.cell? ⟨b, o, none⟩) ∧ (∀ b o, b < B → w1.frozen? ⟨b, o, none⟩ = W.frozen? ⟨b, o, none⟩) :=
  ⟨fun b o h => hb.cell (p := ⟨b, o, none⟩) h, fun b o h => hb.frozen (p := ⟨b, o, none⟩) h⟩
theorem ownE_isB {w : World} {base : Nat} {v : Value} {xs : List Int} (h : OwnE w base v xs) (hb : ∀ z ∈ xs, 0 ≤ z ∧ z ≤ 255) (hm : xs.length ≤ 281474976710656) :
    ∃ a c, v = .slice a xs.length c ∧ (a = none → xs.length = 0 ∧ c = 0) ∧ ∀ w', (∀ b o, base ≤ b → w'.cell? ⟨b, o, none⟩ = w.cell? ⟨b, o, none⟩) → IsB w' a xs.length xs := by
  rcases h with h | ⟨rfl, g, rfl⟩
  · obtain ⟨a, c, hv, hI, _, hno⟩ := own_isB h hb hm
    refine ⟨a, c, hv, hno, ?_⟩
    intro w' hw
    obtain ⟨h1, h2, h3⟩ := hI
    refine ⟨h1, h2, ?_⟩
    rcases h3 with h3 | ⟨g, off, ha, hh⟩
    · exact .inl h3
    · by_cases hx : xs = []
      · exact .inl hx
      · refine .inr ⟨g, off, ha, ?_, hh.2⟩
        intro j z hj
        rw [hw g _ ?_]
        · exact hh.1 j z hj
        · refine own_blockB h g ?_
          rw [hv, ha]; rfl
  · exact ⟨_, 0, rfl, fun h => by simp at h, fun w' _ => ⟨rfl, by simp, .inl rfl⟩⟩
set_option maxHeartbeats 2000000 in
theorem takeFieldR_2err (b off len cap : Nat) (w : World) (N : Int) (k : Nat)
    (HT : ∀ W, Below w.heap.size w W → Calls Tryz.prog 48 #[.slice (some ⟨b, off, none⟩) len cap] W fun e w' =>
      e = .returned (.tuple #[.int .u64 N, .int .i64 k, .int .i64 0]) ∧ w' = W)
    (X Q F : Int) (HT2 : ∀ W, Below w.heap.size w W → Calls Tryz.prog 48 #[.slice (some (cutAt b off cap k)) (len - k) (cap - k)] W fun e w' =>
      e = .returned (.tuple #[.int .u64 X, .int .i64 Q, .int .i64 F]) ∧ w' = W)
    (hN0 : 0 ≤ N) (hN1 : N ≤ 18446744073709551615) (h1 : 1 ≤ N / 8) (h2 : N / 8 ≤ 536870911) (hty : N % 8 = 2) (hk : k ≤ len) (hlc : len ≤ cap) (hcm : cap ≤ 9223372036854775807) (hk10 : k ≤ 10) (hF : F ≠ 0) :
    Calls Tryz.prog 29 #[.slice (some ⟨b, off, none⟩) len cap] w fun e w' => TfAns w w' e (tfErr F) := by
  have HTT : Hid _ := HT
  have HTT2 : Hid _ := HT2
  clear HT HT2
  have hFb : (F != 0) = true := by simpa using hF
  by_cases hck : cap = k
  · obtain rfl : len = k := by omega
    subst hck
    rw [cutAt_end, Nat.sub_self] at HTT2
    clear hlc
    go_enter Tryz.func29, Tryz.ntmps29
    go_wp2_with fail
    refine (HTT.out _ ((Below.refl _ _).alloc (Nat.le_refl _) _)).mono ?_
    rintro e w' ⟨rfl, rfl⟩
    clear HTT
    go_wp2_with fail
    refine (HTT2.out _ (((Below.refl _ _).alloc (Nat.le_refl _) _).alloc (by simp) _)).mono ?_
    rintro e w' ⟨rfl, rfl⟩
    clear HTT2
    go_wp2_with fail
    exact bodyPost_ret (v := .tuple #[.agg #[.int .i64 0, .int .i64 0, .int .u64 0, .slice none 0 0], .int .i64 0, .int .i64 F]) (by simp [results, Tryz.results29, go_sem]) rfl (tfErr_ans _ _ _ (((Below.refl _ _).alloc (Nat.le_refl _) _).alloc (by simp) _))
  · rw [cutAt_in hck] at HTT2
    go_enter Tryz.func29, Tryz.ntmps29
    go_wp2_with fail
    refine (HTT.out _ ((Below.refl _ _).alloc (Nat.le_refl _) _)).mono ?_
    rintro e w' ⟨rfl, rfl⟩
    clear HTT
    go_wp2_with fail
    refine (HTT2.out _ (((Below.refl _ _).alloc (Nat.le_refl _) _).alloc (by simp) _)).mono ?_
    rintro e w' ⟨rfl, rfl⟩
    clear HTT2
    go_wp2_with fail
    exact bodyPost_ret (v := .tuple #[.agg #[.int .i64 0, .int .i64 0, .int .u64 0, .slice none 0 0], .int .i64 0, .int .i64 F]) (by simp [results, Tryz.results29, go_sem]) rfl (tfErr_ans _ _ _ (((Below.refl _ _).alloc (Nat.le_refl _) _).alloc (by simp) _))
set_option maxHeartbeats 2000000 in
theorem takeFieldR_2short (b off len cap : Nat) (w : World) (N : Int) (k : Nat)
    (HT : ∀ W, Below w.heap.size w W → Calls Tryz.prog 48 #[.slice (some ⟨b, off, none⟩) len cap] W fun e w' =>
      e = .returned (.tuple #[.int .u64 N, .int .i64 k, .int .i64 0]) ∧ w' = W)
    (X : Int) (q : Nat) (HT2 : ∀ W, Below w.heap.size w W → Calls Tryz.prog 48 #[.slice (some (cutAt b off cap k)) (len - k) (cap - k)] W fun e w' =>
      e = .returned (.tuple #[.int .u64 X, .int .i64 q, .int .i64 0]) ∧ w' = W)
    (hN0 : 0 ≤ N) (hN1 : N ≤ 18446744073709551615) (h1 : 1 ≤ N / 8) (h2 : N / 8 ≤ 536870911) (hty : N % 8 = 2) (hk : k ≤ len) (hlc : len ≤ cap) (hcm : cap ≤ 9223372036854775807) (hk10 : k ≤ 10) (hq : 1 ≤ q) (hkq : k + q ≤ len) (hX0 : 0 ≤ X) (hX1 : X ≤ 18446744073709551615) (hs : (len : Int) - (k : Int) - (q : Int) < X) :
    Calls Tryz.prog 29 #[.slice (some ⟨b, off, none⟩) len cap] w fun e w' => TfAns w w' e (tfErr 5) := by
  have HTT : Hid _ := HT
  have HTT2 : Hid _ := HT2
  clear HT HT2
  have hck : ¬ cap = k := by omega
  rw [cutAt_in hck] at HTT2
  go_enter Tryz.func29, Tryz.ntmps29
  go_wp2_with fail
  refine (HTT.out _ ((Below.refl _ _).alloc (Nat.le_refl _) _)).mono ?_
  rintro e w' ⟨rfl, rfl⟩
  clear HTT
  go_wp2_with fail
  refine (HTT2.out _ (((Below.refl _ _).alloc (Nat.le_refl _) _).alloc (by simp) _)).mono ?_
  rintro e w' ⟨rfl, rfl⟩
  clear HTT2
  go_wp2_with fail
  exact bodyPost_ret (v := .tuple #[.agg #[.int .i64 0, .int .i64 0, .int .u64 0, .slice none 0 0], .int .i64 0, .int .i64 5]) (by simp [results, Tryz.results29, go_sem]) rfl (tfErr_ans _ _ _ (((Below.refl _ _).alloc (Nat.le_refl _) _).alloc (by simp) _))
set_option maxRecDepth 20000 in
set_option maxHeartbeats 4000000 in
theorem takeFieldR_2ok (zs : List Int) (b off len cap : Nat) (w : World) (N : Int) (k : Nat)
    (HT : ∀ W, Below w.heap.size w W → Calls Tryz.prog 48 #[.slice (some ⟨b, off, none⟩) len cap] W fun e w' =>
      e = .returned (.tuple #[.int .u64 N, .int .i64 k, .int .i64 0]) ∧ w' = W)
    (hB : IsB w (some ⟨b, off, none⟩) len zs) (X : Int) (q : Nat) (HT2 : ∀ W, Below w.heap.size w W → Calls Tryz.prog 48 #[.slice (some (cutAt b off cap k)) (len - k) (cap - k)] W fun e w' =>
      e = .returned (.tuple #[.int .u64 X, .int .i64 q, .int .i64 0]) ∧ w' = W)
    (hN0 : 0 ≤ N) (hN1 : N ≤ 18446744073709551615) (h1 : 1 ≤ N / 8) (h2 : N / 8 ≤ 536870911) (hty : N % 8 = 2) (hk : k ≤ len) (hlc : len ≤ cap) (hcm : cap ≤ 9223372036854775807) (hlm : len ≤ 140737488351232) (hk10 : k ≤ 10) (hq : 1 ≤ q) (hkq : k + q ≤ len) (x : Nat) (hX : X = (x : Int)) (hx : k + q + x ≤ len) (hc2 : ¬ cap = k + q) :
    Calls Tryz.prog 29 #[.slice (some ⟨b, off, none⟩) len cap] w fun e w' => TfAns w w' e ⟨N / 8, 2, 0, (zs.drop (k + q)).take x, k + q + x, 0⟩ := by
  subst hX
  have HTT : Hid _ := HT
  have HTT2 : Hid _ := HT2
  have HBB : Hid (IsB w (some ⟨b, off, none⟩) len zs) := hB
  have HDL : Hid (((zs.drop (k + q)).take x).length = x) := by
    refine (?_ : ((zs.drop (k + q)).take x).length = x)
    rw [List.length_take, List.length_drop, hB.1]; omega
  have HDB : Hid (∀ z ∈ (zs.drop (k + q)).take x, 0 ≤ z ∧ z ≤ 255) := fun z hz => isB_bytes hB z (List.mem_of_mem_drop (List.mem_of_mem_take hz))
  clear HT HT2 hB
  have hck : ¬ cap = k := by omega
  rw [cutAt_in hck] at HTT2
  go_enter Tryz.func29, Tryz.ntmps29
  go_wp2_with fail
  refine (HTT.out _ ((Below.refl _ _).alloc (Nat.le_refl _) _)).mono ?_
  rintro e w' ⟨rfl, rfl⟩
  clear HTT
  go_wp2_with fail
  refine (HTT2.out _ (((Below.refl _ _).alloc (Nat.le_refl _) _).alloc (by simp) _)).mono ?_
  rintro e w' ⟨rfl, rfl⟩
  clear HTT2
  go_wp2_with fail
  have HW : Hid (∀ W, Below w.heap.size w W → IsB W (some (cutAt b off cap (k + q))) x ((zs.drop (k + q)).take x)) := fun W hW =>
    isB_take (isB_cut (isB_old HBB.out hW) hlc (k + q) hkq) x (by omega)
  obtain ⟨D, hD⟩ : ∃ D, (zs.drop (k + q)).take x = D := ⟨_, rfl⟩
  have HD : Hid ((zs.drop (k + q)).take x = D) := hD
  rw [hD] at HW HDL HDB
  clear hD
  rw [cutAt_in hc2] at HW
  go_cut [] (fun wx => ∃ a3 c3, wx.cell? ⟨w.heap.size + 1, 0, none⟩ = some (.int .i64 (N / 8)) ∧ wx.cell? ⟨w.heap.size + 1, 1, none⟩ = some (.int .i64 2) ∧ wx.cell? ⟨w.heap.size + 1, 2, none⟩ = some (.int .u64 0) ∧ wx.cell? ⟨w.heap.size + 1, 3, none⟩ = some (.slice a3 x c3) ∧
    (∀ o, o < 4 → ∃ v, wx.cell? ⟨w.heap.size, o, none⟩ = some v) ∧ (∀ o, wx.frozen? ⟨w.heap.size, o, none⟩ = false) ∧ Below w.heap.size w wx ∧ w.heap.size + 2 ≤ wx.heap.size ∧ (a3 = none → x = 0 ∧ c3 = 0) ∧
    (∀ w', (∀ b o, w.heap.size + 2 ≤ b → w'.cell? ⟨b, o, none⟩ = wx.cell? ⟨b, o, none⟩) → IsB w' a3 x D))
  case first =>
    have hw1 : IntKind.i64.wrap (x : Int) = (x : Int) := by rw [IntKind.wrap_i64]; omega
    have hw2 : IntKind.i64.wrap ((k : Int) + (q : Int) + (x : Int)) = (k : Int) + (q : Int) + (x : Int) := by rw [IntKind.wrap_i64]; omega
    have hA1 : 0 ≤ (k : Int) + (q : Int) + (x : Int) := by omega
    have hA2 : (k : Int) + (q : Int) + (x : Int) ≤ (cap : Int) := by omega
    have hA3 : 0 ≤ (k : Int) + (q : Int) := by omega
    have hA4 : (k : Int) + (q : Int) ≤ (k : Int) + (q : Int) + (x : Int) := by omega
    have hmx : max ((k : Int) + (q : Int) + (x : Int)) 0 = (k : Int) + (q : Int) + (x : Int) := by omega
    have hT1 : ((k : Int) + (q : Int) + (x : Int)).toNat = k + q + x := by omega
    have hT2 : ((k : Int) + (q : Int)).toNat = k + q := by omega
    have hT3 : k + q + x - (k + q) = x := by omega
    have HBW : Hid (Below w.heap.size w ((w.alloc (.cells #[.int .i64 0, .int .i64 0, .int .u64 0, .slice none 0 0] 56)).alloc (.cells #[.int .i64 (N / 8), .int .i64 2, .int .u64 0, .slice none 0 0] 56)).drew) := (((Below.refl _ _).alloc (Nat.le_refl _) _).alloc (by simp) _).drew
    go_region_law (refine stepE_append rfl (.tmp 107) (.tmp 114) rfl (w.heap.size + 2) (.slice none 0 0) [] rfl (.inl (own_nil _ _)) (some ⟨b, off + (k + q), none⟩) x (cap - (k + q)) D rfl (by exact HW.out _ (((Below.refl _ _).alloc (Nat.le_refl _) _).alloc (by simp) _).drew) (by simp) (by simp; omega) (by simp) ?_; intro v3 w3 hown3 hb3; simp only [List.nil_append] at hown3; obtain ⟨a3, c3, rfl, hno3, hst3⟩ := ownE_isB hown3 HDB.out (by rw [HDL.out]; omega); rw [HDL.out] at hno3 hst3 ⊢; have hb03 : Below w.heap.size w w3 := HBW.out.trans (hb3.mono (by omega)); obtain ⟨hcc, hff⟩ := below_rules hb3; have hz3 : w.heap.size + 2 ≤ w3.heap.size := (by have := hb3.size; simp at this; omega))
    all_goals
      have HCC : Hid (∀ b o, b < w.heap.size + 2 → w3.cell? ⟨b, o, none⟩ = _) := hcc
      have HFF : Hid (∀ b o, b < w.heap.size + 2 → w3.frozen? ⟨b, o, none⟩ = _) := hff
      have HST3 : Hid _ := hst3
      have HN3 : Hid _ := hno3
      clear hcc hff hst3 hno3 hw1 hw2 hA1 hA2 hA3 hA4 hmx hT1 hT2 hT3 hown3 hb3
      go_wp2_with fail
      go_meet
      have hcc := HCC.out
      have hff := HFF.out
      have hst3 := HST3.out
      have hno3 := HN3.out
      refine ⟨a3, c3, ?_, ?_, ?_, ?_, ?_, ?_, hb03.setCell (by simp) _, by simpa using hz3, hno3, ?_⟩
      · rw [World.cell?_setCell_other _ _ _ _ (by simp), hcc _ _ (by omega)]; simp
      · rw [World.cell?_setCell_other _ _ _ _ (by simp), hcc _ _ (by omega)]; simp
      · rw [World.cell?_setCell_other _ _ _ _ (by simp), hcc _ _ (by omega)]; simp
      · refine World.cell?_setCell_same _ _ _ (u := .slice none 0 0) ?_
        rw [hcc _ _ (by omega)]; simp
      · intro o ho
        rw [World.cell?_setCell_other _ _ _ _ (by simp), hcc _ _ (by omega)]
        match o, ho with
        | 0, _ => exact ⟨_, by simp; rfl⟩
        | 1, _ => exact ⟨_, by simp; rfl⟩
        | 2, _ => exact ⟨_, by simp; rfl⟩
        | 3, _ => exact ⟨_, by simp; rfl⟩
      · intro o
        rw [World.frozen?_setCell, hff _ _ (by omega)]; simp
      · intro w' h
        exact hst3 w' (fun b o hb => (h b o hb).trans (World.cell?_setCell_other _ _ _ _ (by simp <;> omega)))
  case rest =>
    obtain ⟨a3, c3, e0, e1, e2, e3, hex, hfr, hbx, hzx, hno3, hst⟩ := hcut
    obtain ⟨v0, r0⟩ := hex 0 (by omega)
    obtain ⟨v1, r1⟩ := hex 1 (by omega)
    obtain ⟨v2, r2⟩ := hex 2 (by omega)
    obtain ⟨v3, r3⟩ := hex 3 (by omega)
    have HBX : Hid (Below w.heap.size w wc) := hbx
    have HST : Hid (∀ w', (∀ b o, w.heap.size + 2 ≤ b → w'.cell? ⟨b, o, none⟩ = wc.cell? ⟨b, o, none⟩) → IsB w' a3 x D) := hst
    have HN3 : Hid (a3 = none → x = 0 ∧ c3 = 0) := hno3
    clear hex hbx hst hno3 HW HBB HDL HDB
    go_wp2_with fail
    refine bodyPost_ret (v := .tuple #[.agg #[.int .i64 (N / 8), .int .i64 2, .int .u64 0, .slice a3 x c3], .int .i64 (k + q + x), .int .i64 0]) ?_ rfl ⟨a3, x, c3, rfl, ?_, HN3.out, ?_⟩
    · simp [results, Tryz.results29, go_sem, r0, r1, r2, r3]
    · refine stable_newB ?_
      intro w2 h2
      rw [HD.out]
      refine HST.out _ (fun b o hb => ?_)
      rw [h2 b o (by omega), World.cell?_setCell_other _ _ _ _ (by simp <;> omega), World.cell?_setCell_other _ _ _ _ (by simp <;> omega), World.cell?_setCell_other _ _ _ _ (by simp <;> omega), World.cell?_setCell_other _ _ _ _ (by simp <;> omega)]
    · exact (((HBX.out.setCell (by simp) _).setCell (by simp) _).setCell (by simp) _).setCell (by simp) _
end Go.Proofs.YtpnlbmobnopnoaaGreatDoor
