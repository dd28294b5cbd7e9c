/-
  The walk over the document's own TakeField where the field has bytes of its own (type 2).
  The walks over the library's slices.Grow (of no slice) and slices.Concat at slices of bytes: the bytes of all slices, one behind the other, in new memory; nothing that was there is changed. No condition but that all together are at most 2^48 bytes.
  Two slices that a call makes and grows, one of fields and one of slices of bytes, and the bytes that their elements lead to: words and laws for them. Nothing is proved of the program here.
-/
import Derived.Test.YteajlfgbmefncaaGreatDoorM3
import Derived.Deep.DeepCutAuto
import Derived.Test.YteajlfgbmefncaaGreatDoorM2
import Derived.Laws.OwnMore
import Derived.Lib.AppendZeros
import Derived.Maps.AppendAt
namespace Go.Proofs.YteajlfgbmefncaaGreatDoor
set_option linter.unusedVariables false
open Go.ChangeShapes Go.WideShapes Go.ChangeAt Go.RowKit

theorem below_rules {B : Nat} {W w1 : World} (hb : Below B W w1) : (∀ b o, b < B → w1.cell? ⟨b, o, none⟩ = W.cell? ⟨b, o, none⟩) ∧ (∀ b o, b < B → w1.frozen? ⟨b, o, none⟩ = W.frozen? ⟨b, o, none⟩) :=
  ⟨fun b o h => hb.cell (p := ⟨b, o, none⟩) h, fun b o h => hb.frozen (p := ⟨b, o, none⟩) h⟩
theorem ownE_isB {w : World} {base : Nat} {v : Value} {xs : List Int} (h : OwnE w base v xs) (hb : ∀ z ∈ xs, 0 ≤ z ∧ z ≤ 255) (hm : xs.length ≤ 281474976710656) :
    ∃ a c, v = .slice a xs.length c ∧ NoA a xs.length c ∧ ∀ w', (∀ b o, base ≤ b → w'.cell? ⟨b, o, none⟩ = w.cell? ⟨b, o, none⟩) → IsB w' a xs.length xs := by
  rcases h with h | ⟨rfl, g, rfl⟩
  · obtain ⟨a, c, hv, hI, hlc, hno⟩ := own_isB h hb hm
    have hcm : c ≤ 9223372036854775807 := by
      obtain ⟨_, ⟨h5, _⟩ | ⟨g, cap, cur, h5, _, _, _, h4, _⟩⟩ := h
      · have := (Value.slice.inj (hv.symm.trans h5)).2.2; omega
      · have := (Value.slice.inj (hv.symm.trans h5)).2.2; unfold maxLen at h4; omega
    refine ⟨a, c, hv, ⟨hno, hlc, hcm⟩, ?_⟩
    intro w' hw
    obtain ⟨h1, h2, h3⟩ := hI
    refine ⟨h1, h2, ?_⟩
    rcases h3 with h3 | ⟨g, off, ha, hh⟩
    · exact .inl h3
    · by_cases hx : xs = []
      · exact .inl hx
      · refine .inr ⟨g, off, ha, ?_, hh.2⟩
        intro j z hj
        rw [hw g _ ?_]
        · exact hh.1 j z hj
        · refine own_blockB h g ?_
          rw [hv, ha]; rfl
  · exact ⟨_, 0, rfl, ⟨fun h => by simp at h, Nat.le_refl _, by omega⟩, fun w' _ => ⟨rfl, by simp, .inl rfl⟩⟩
set_option maxHeartbeats 2000000 in
theorem takeFieldR_2err (b off len cap : Nat) (w : World) (N : Int) (k : Nat)
    (HT : ∀ W, Below w.heap.size w W → Calls Tryz.prog 92 #[.slice (some ⟨b, off, none⟩) len cap] W fun e w' =>
      e = .returned (.tuple #[.int .u64 N, .int .i64 k, .int .i64 0]) ∧ w' = W)
    (X Q F : Int) (HT2 : ∀ W, Below w.heap.size w W → Calls Tryz.prog 92 #[.slice (some (cutAt b off cap k)) (len - k) (cap - k)] W fun e w' =>
      e = .returned (.tuple #[.int .u64 X, .int .i64 Q, .int .i64 F]) ∧ w' = W)
    (hN0 : 0 ≤ N) (hN1 : N ≤ 18446744073709551615) (h1 : 1 ≤ N / 8) (h2 : N / 8 ≤ 536870911) (hty : N % 8 = 2) (hk : k ≤ len) (hlc : len ≤ cap) (hcm : cap ≤ 9223372036854775807) (hk10 : k ≤ 10) (hF : F ≠ 0) :
    Calls Tryz.prog 64 #[.slice (some ⟨b, off, none⟩) len cap] w fun e w' => TfAns w w' e (tfErr F) := by
  have HTT : Hid _ := HT
  have HTT2 : Hid _ := HT2
  clear HT HT2
  have hFb : (F != 0) = true := by simpa using hF
  by_cases hck : cap = k
  · obtain rfl : len = k := by omega
    subst hck
    rw [cutAt_end, Nat.sub_self] at HTT2
    clear hlc
    go_enter Tryz.func64, Tryz.ntmps64
    go_wp2_with fail
    refine (HTT.out _ ((Below.refl _ _).alloc (Nat.le_refl _) _)).mono ?_
    rintro e w' ⟨rfl, rfl⟩
    clear HTT
    go_wp2_with fail
    refine (HTT2.out _ (((Below.refl _ _).alloc (Nat.le_refl _) _).alloc (by simp) _)).mono ?_
    rintro e w' ⟨rfl, rfl⟩
    clear HTT2
    go_wp2_with fail
    exact bodyPost_ret (v := .tuple #[.agg #[.int .i64 0, .int .i64 0, .int .u64 0, .slice none 0 0], .int .i64 0, .int .i64 F]) (by simp [results, Tryz.results64, go_sem]) rfl (tfErr_ans _ _ _ (((Below.refl _ _).alloc (Nat.le_refl _) _).alloc (by simp) _))
  · rw [cutAt_in hck] at HTT2
    go_enter Tryz.func64, Tryz.ntmps64
    go_wp2_with fail
    refine (HTT.out _ ((Below.refl _ _).alloc (Nat.le_refl _) _)).mono ?_
    rintro e w' ⟨rfl, rfl⟩
    clear HTT
    go_wp2_with fail
    refine (HTT2.out _ (((Below.refl _ _).alloc (Nat.le_refl _) _).alloc (by simp) _)).mono ?_
    rintro e w' ⟨rfl, rfl⟩
    clear HTT2
    go_wp2_with fail
    exact bodyPost_ret (v := .tuple #[.agg #[.int .i64 0, .int .i64 0, .int .u64 0, .slice none 0 0], .int .i64 0, .int .i64 F]) (by simp [results, Tryz.results64, go_sem]) rfl (tfErr_ans _ _ _ (((Below.refl _ _).alloc (Nat.le_refl _) _).alloc (by simp) _))
set_option maxHeartbeats 2000000 in
theorem takeFieldR_2short (b off len cap : Nat) (w : World) (N : Int) (k : Nat)
    (HT : ∀ W, Below w.heap.size w W → Calls Tryz.prog 92 #[.slice (some ⟨b, off, none⟩) len cap] W fun e w' =>
      e = .returned (.tuple #[.int .u64 N, .int .i64 k, .int .i64 0]) ∧ w' = W)
    (X : Int) (q : Nat) (HT2 : ∀ W, Below w.heap.size w W → Calls Tryz.prog 92 #[.slice (some (cutAt b off cap k)) (len - k) (cap - k)] W fun e w' =>
      e = .returned (.tuple #[.int .u64 X, .int .i64 q, .int .i64 0]) ∧ w' = W)
    (hN0 : 0 ≤ N) (hN1 : N ≤ 18446744073709551615) (h1 : 1 ≤ N / 8) (h2 : N / 8 ≤ 536870911) (hty : N % 8 = 2) (hk : k ≤ len) (hlc : len ≤ cap) (hcm : cap ≤ 9223372036854775807) (hk10 : k ≤ 10) (hq : 1 ≤ q) (hkq : k + q ≤ len) (hX0 : 0 ≤ X) (hX1 : X ≤ 18446744073709551615) (hs : (len : Int) - (k : Int) - (q : Int) < X) :
    Calls Tryz.prog 64 #[.slice (some ⟨b, off, none⟩) len cap] w fun e w' => TfAns w w' e (tfErr 5) := by
  have HTT : Hid _ := HT
  have HTT2 : Hid _ := HT2
  clear HT HT2
  have hck : ¬ cap = k := by omega
  rw [cutAt_in hck] at HTT2
  go_enter Tryz.func64, Tryz.ntmps64
  go_wp2_with fail
  refine (HTT.out _ ((Below.refl _ _).alloc (Nat.le_refl _) _)).mono ?_
  rintro e w' ⟨rfl, rfl⟩
  clear HTT
  go_wp2_with fail
  refine (HTT2.out _ (((Below.refl _ _).alloc (Nat.le_refl _) _).alloc (by simp) _)).mono ?_
  rintro e w' ⟨rfl, rfl⟩
  clear HTT2
  go_wp2_with fail
  exact bodyPost_ret (v := .tuple #[.agg #[.int .i64 0, .int .i64 0, .int .u64 0, .slice none 0 0], .int .i64 0, .int .i64 5]) (by simp [results, Tryz.results64, go_sem]) rfl (tfErr_ans _ _ _ (((Below.refl _ _).alloc (Nat.le_refl _) _).alloc (by simp) _))
set_option maxRecDepth 20000 in
set_option maxHeartbeats 4000000 in
theorem takeFieldR_2ok (zs : List Int) (b off len cap : Nat) (w : World) (N : Int) (k : Nat)
    (HT : ∀ W, Below w.heap.size w W → Calls Tryz.prog 92 #[.slice (some ⟨b, off, none⟩) len cap] W fun e w' =>
      e = .returned (.tuple #[.int .u64 N, .int .i64 k, .int .i64 0]) ∧ w' = W)
    (hB : IsB w (some ⟨b, off, none⟩) len zs) (X : Int) (q : Nat) (HT2 : ∀ W, Below w.heap.size w W → Calls Tryz.prog 92 #[.slice (some (cutAt b off cap k)) (len - k) (cap - k)] W fun e w' =>
      e = .returned (.tuple #[.int .u64 X, .int .i64 q, .int .i64 0]) ∧ w' = W)
    (hN0 : 0 ≤ N) (hN1 : N ≤ 18446744073709551615) (h1 : 1 ≤ N / 8) (h2 : N / 8 ≤ 536870911) (hty : N % 8 = 2) (hk : k ≤ len) (hlc : len ≤ cap) (hcm : cap ≤ 9223372036854775807) (hlm : len ≤ 140737488351232) (hk10 : k ≤ 10) (hq : 1 ≤ q) (hkq : k + q ≤ len) (x : Nat) (hX : X = (x : Int)) (hx : k + q + x ≤ len) (hc2 : ¬ cap = k + q) :
    Calls Tryz.prog 64 #[.slice (some ⟨b, off, none⟩) len cap] w fun e w' => TfAns w w' e ⟨N / 8, 2, 0, (zs.drop (k + q)).take x, k + q + x, 0⟩ := by
  subst hX
  have HTT : Hid _ := HT
  have HTT2 : Hid _ := HT2
  have HBB : Hid (IsB w (some ⟨b, off, none⟩) len zs) := hB
  have HDL : Hid (((zs.drop (k + q)).take x).length = x) := by
    refine (?_ : ((zs.drop (k + q)).take x).length = x)
    rw [List.length_take, List.length_drop, hB.1]; omega
  have HDB : Hid (∀ z ∈ (zs.drop (k + q)).take x, 0 ≤ z ∧ z ≤ 255) := fun z hz => isB_bytes hB z (List.mem_of_mem_drop (List.mem_of_mem_take hz))
  clear HT HT2 hB
  have hck : ¬ cap = k := by omega
  rw [cutAt_in hck] at HTT2
  go_enter Tryz.func64, Tryz.ntmps64
  go_wp2_with fail
  refine (HTT.out _ ((Below.refl _ _).alloc (Nat.le_refl _) _)).mono ?_
  rintro e w' ⟨rfl, rfl⟩
  clear HTT
  go_wp2_with fail
  refine (HTT2.out _ (((Below.refl _ _).alloc (Nat.le_refl _) _).alloc (by simp) _)).mono ?_
  rintro e w' ⟨rfl, rfl⟩
  clear HTT2
  go_wp2_with fail
  have HW : Hid (∀ W, Below w.heap.size w W → IsB W (some (cutAt b off cap (k + q))) x ((zs.drop (k + q)).take x)) := fun W hW =>
    isB_take (isB_cut (isB_old HBB.out hW) hlc (k + q) hkq) x (by omega)
  obtain ⟨D, hD⟩ : ∃ D, (zs.drop (k + q)).take x = D := ⟨_, rfl⟩
  have HD : Hid ((zs.drop (k + q)).take x = D) := hD
  rw [hD] at HW HDL HDB
  clear hD
  rw [cutAt_in hc2] at HW
  go_cut [] (fun wx => ∃ a3 c3, wx.cell? ⟨w.heap.size + 1, 0, none⟩ = some (.int .i64 (N / 8)) ∧ wx.cell? ⟨w.heap.size + 1, 1, none⟩ = some (.int .i64 2) ∧ wx.cell? ⟨w.heap.size + 1, 2, none⟩ = some (.int .u64 0) ∧ wx.cell? ⟨w.heap.size + 1, 3, none⟩ = some (.slice a3 x c3) ∧
    (∀ o, o < 4 → ∃ v, wx.cell? ⟨w.heap.size, o, none⟩ = some v) ∧ (∀ o, wx.frozen? ⟨w.heap.size, o, none⟩ = false) ∧ Below w.heap.size w wx ∧ w.heap.size + 2 ≤ wx.heap.size ∧ NoA a3 x c3 ∧
    (∀ w', (∀ b o, w.heap.size + 2 ≤ b → w'.cell? ⟨b, o, none⟩ = wx.cell? ⟨b, o, none⟩) → IsB w' a3 x D))
  case first =>
    have hw1 : IntKind.i64.wrap (x : Int) = (x : Int) := by rw [IntKind.wrap_i64]; omega
    have hw2 : IntKind.i64.wrap ((k : Int) + (q : Int) + (x : Int)) = (k : Int) + (q : Int) + (x : Int) := by rw [IntKind.wrap_i64]; omega
    have hA1 : 0 ≤ (k : Int) + (q : Int) + (x : Int) := by omega
    have hA2 : (k : Int) + (q : Int) + (x : Int) ≤ (cap : Int) := by omega
    have hA3 : 0 ≤ (k : Int) + (q : Int) := by omega
    have hA4 : (k : Int) + (q : Int) ≤ (k : Int) + (q : Int) + (x : Int) := by omega
    have hmx : max ((k : Int) + (q : Int) + (x : Int)) 0 = (k : Int) + (q : Int) + (x : Int) := by omega
    have hT1 : ((k : Int) + (q : Int) + (x : Int)).toNat = k + q + x := by omega
    have hT2 : ((k : Int) + (q : Int)).toNat = k + q := by omega
    have hT3 : k + q + x - (k + q) = x := by omega
    have HBW : Hid (Below w.heap.size w ((w.alloc (.cells #[.int .i64 0, .int .i64 0, .int .u64 0, .slice none 0 0] 106)).alloc (.cells #[.int .i64 (N / 8), .int .i64 2, .int .u64 0, .slice none 0 0] 106)).drew) := (((Below.refl _ _).alloc (Nat.le_refl _) _).alloc (by simp) _).drew
    go_region_law (refine stepE_append rfl (.tmp 107) (.tmp 114) rfl (w.heap.size + 2) (.slice none 0 0) [] rfl (.inl (own_nil _ _)) (some ⟨b, off + (k + q), none⟩) x (cap - (k + q)) D rfl (by exact HW.out _ (((Below.refl _ _).alloc (Nat.le_refl _) _).alloc (by simp) _).drew) (by simp) (by simp; omega) (by simp) ?_; intro v3 w3 hown3 hb3; simp only [List.nil_append] at hown3; obtain ⟨a3, c3, rfl, hno3, hst3⟩ := ownE_isB hown3 HDB.out (by rw [HDL.out]; omega); rw [HDL.out] at hno3 hst3 ⊢; have hb03 : Below w.heap.size w w3 := HBW.out.trans (hb3.mono (by omega)); obtain ⟨hcc, hff⟩ := below_rules hb3; have hz3 : w.heap.size + 2 ≤ w3.heap.size := (by have := hb3.size; simp at this; omega))
    all_goals
      have HCC : Hid (∀ b o, b < w.heap.size + 2 → w3.cell? ⟨b, o, none⟩ = _) := hcc
      have HFF : Hid (∀ b o, b < w.heap.size + 2 → w3.frozen? ⟨b, o, none⟩ = _) := hff
      have HST3 : Hid _ := hst3
      have HN3 : Hid _ := hno3
      clear hcc hff hst3 hno3 hw1 hw2 hA1 hA2 hA3 hA4 hmx hT1 hT2 hT3 hown3 hb3
      go_wp2_with fail
      go_meet
      have hcc := HCC.out
      have hff := HFF.out
      have hst3 := HST3.out
      have hno3 := HN3.out
      refine ⟨a3, c3, ?_, ?_, ?_, ?_, ?_, ?_, hb03.setCell (by simp) _, by simpa using hz3, hno3, ?_⟩
      · rw [World.cell?_setCell_other _ _ _ _ (by simp), hcc _ _ (by omega)]; simp
      · rw [World.cell?_setCell_other _ _ _ _ (by simp), hcc _ _ (by omega)]; simp
      · rw [World.cell?_setCell_other _ _ _ _ (by simp), hcc _ _ (by omega)]; simp
      · refine World.cell?_setCell_same _ _ _ (u := .slice none 0 0) ?_
        rw [hcc _ _ (by omega)]; simp
      · intro o ho
        rw [World.cell?_setCell_other _ _ _ _ (by simp), hcc _ _ (by omega)]
        match o, ho with
        | 0, _ => exact ⟨_, by simp; rfl⟩
        | 1, _ => exact ⟨_, by simp; rfl⟩
        | 2, _ => exact ⟨_, by simp; rfl⟩
        | 3, _ => exact ⟨_, by simp; rfl⟩
      · intro o
        rw [World.frozen?_setCell, hff _ _ (by omega)]; simp
      · intro w' h
        exact hst3 w' (fun b o hb => (h b o hb).trans (World.cell?_setCell_other _ _ _ _ (by simp <;> omega)))
  case rest =>
    obtain ⟨a3, c3, e0, e1, e2, e3, hex, hfr, hbx, hzx, hno3, hst⟩ := hcut
    obtain ⟨v0, r0⟩ := hex 0 (by omega)
    obtain ⟨v1, r1⟩ := hex 1 (by omega)
    obtain ⟨v2, r2⟩ := hex 2 (by omega)
    obtain ⟨v3, r3⟩ := hex 3 (by omega)
    have HBX : Hid (Below w.heap.size w wc) := hbx
    have HST : Hid (∀ w', (∀ b o, w.heap.size + 2 ≤ b → w'.cell? ⟨b, o, none⟩ = wc.cell? ⟨b, o, none⟩) → IsB w' a3 x D) := hst
    have HN3 : Hid (NoA a3 x c3) := hno3
    clear hex hbx hst hno3 HW HBB HDL HDB
    go_wp2_with fail
    refine bodyPost_ret (v := .tuple #[.agg #[.int .i64 (N / 8), .int .i64 2, .int .u64 0, .slice a3 x c3], .int .i64 (k + q + x), .int .i64 0]) ?_ rfl ⟨a3, x, c3, rfl, ?_, HN3.out, ?_⟩
    · simp [results, Tryz.results64, go_sem, r0, r1, r2, r3]
    · refine stable_newB ?_
      intro w2 h2
      rw [HD.out]
      refine HST.out _ (fun b o hb => ?_)
      rw [h2 b o (by omega), World.cell?_setCell_other _ _ _ _ (by simp <;> omega), World.cell?_setCell_other _ _ _ _ (by simp <;> omega), World.cell?_setCell_other _ _ _ _ (by simp <;> omega), World.cell?_setCell_other _ _ _ _ (by simp <;> omega)]
    · exact (((HBX.out.setCell (by simp) _).setCell (by simp) _).setCell (by simp) _).setCell (by simp) _
end Go.Proofs.YteajlfgbmefncaaGreatDoor
namespace Go.Proofs.YteajlfgbmefncaaGreatDoor
set_option linter.unusedVariables false
open Go.ChangeShapes Go.WideShapes Go.ChangeAt Go.RowKit

/-- a slice that the call has made: xs, with room for n in all -/
def Fits (w : World) (base : Nat) (v : Value) (xs : List Int) (n : Nat) : Prop :=
  OwnB w base v xs ∧ ((v = .slice none 0 0 ∧ n = 0) ∨ ∃ g cap, v = .slice (some ⟨g, 0, none⟩) xs.length cap ∧ n ≤ cap)

/-- a slice of bytes, with its elements -/
structure Row3 where
  a : Option Addr
  len : Nat
  cap : Nat
  zs : List Int
def joined (rs : List Row3) : List Int := rs.flatMap (·.zs)
end Go.Proofs.YteajlfgbmefncaaGreatDoor
namespace Go.Proofs.YteajlfgbmefncaaGreatDoor
set_option linter.unusedVariables false
open Go.ChangeShapes Go.WideShapes Go.ChangeAt Go.RowKit

/-- a field in memory, with its bytes -/
structure FR where
  num : Int
  ty : Int
  n : Int
  a : Option Addr
  len : Nat
  cap : Nat
  d : List Int
def FR.cells (f : FR) : List Value := [.int .i64 f.num, .int .i64 f.ty, .int .u64 f.n, .slice f.a f.len f.cap]
def Row3.val (r : Row3) : Value := .slice r.a r.len r.cap
/-- bytes in memory, in neither of two blocks -/
def FarB (w : World) (x y : Option Nat) (a : Option Addr) (len : Nat) (zs : List Int) : Prop :=
  zs.length = len ∧ len ≤ 281474976710656 ∧ (zs = [] ∨ ∃ b off, a = some ⟨b, off, none⟩ ∧ Held w b off zs ∧ x ≠ some b ∧ y ≠ some b)
theorem FarB.isB {w : World} {x y : Option Nat} {a : Option Addr} {len : Nat} {zs : List Int} (h : FarB w x y a len zs) : IsB w a len zs :=
  ⟨h.1, h.2.1, h.2.2.imp id fun ⟨b, off, h1, h2, _⟩ => ⟨b, off, h1, h2⟩⟩
theorem FarB.old {w w' : World} {x y : Option Nat} {a : Option Addr} {len : Nat} {zs : List Int} (h : FarB w x y a len zs) (hb : Below w.heap.size w w') : FarB w' x y a len zs :=
  ⟨h.1, h.2.1, h.2.2.imp id fun ⟨b, off, h1, h2, h3⟩ => ⟨b, off, h1, held_old h2 hb, h3⟩⟩
theorem held_lt {w : World} {b off : Nat} {z : Int} {zs : List Int} (h : Held w b off (z :: zs)) : b < w.heap.size := cell_ltB (h.1 0 z rfl)
theorem held_grown {w w' : World} {row : Option Nat} {b off : Nat} {zs : List Int} (h : Held w b off zs) (hg : w.grownBy w' row) (hne : row ≠ some b) : Held w' b off zs :=
  ⟨fun j z hj => by have hc := h.1 j z hj; rw [World.cell?_of_block (hg.block b (cell_ltB hc) (fun e => hne e.symm))]; exact hc, h.2⟩
theorem FarB.grow1 {w w' : World} {x x' y : Option Nat} {a : Option Addr} {len : Nat} {zs : List Int} (h : FarB w x y a len zs) (hg : w.grownBy w' x) (hx : x' = x ∨ x' = some w.heap.size) : FarB w' x' y a len zs := by
  refine ⟨h.1, h.2.1, ?_⟩
  rcases h.2.2 with h0 | ⟨b, off, h1, h2, h3, h4⟩
  · exact .inl h0
  · cases zs with
    | nil => exact .inl rfl
    | cons z zs =>
      have hlt := held_lt h2
      refine .inr ⟨b, off, h1, held_grown h2 hg h3, ?_, h4⟩
      rcases hx with rfl | rfl
      · exact h3
      · simp; omega
theorem FarB.grow2 {w w' : World} {x y y' : Option Nat} {a : Option Addr} {len : Nat} {zs : List Int} (h : FarB w x y a len zs) (hg : w.grownBy w' y) (hx : y' = y ∨ y' = some w.heap.size) : FarB w' x y' a len zs := by
  refine ⟨h.1, h.2.1, ?_⟩
  rcases h.2.2 with h0 | ⟨b, off, h1, h2, h3, h4⟩
  · exact .inl h0
  · cases zs with
    | nil => exact .inl rfl
    | cons z zs =>
      have hlt := held_lt h2
      refine .inr ⟨b, off, h1, held_grown h2 hg h4, h3, ?_⟩
      rcases hx with rfl | rfl
      · exact h4
      · simp; omega
theorem FarB.of_new {w : World} {B : Nat} {x y : Option Nat} {a : Option Addr} {len : Nat} {zs : List Int} (h : NewB w B a len zs) (hx : ∀ k, x = some k → k < B) (hy : ∀ k, y = some k → k < B) : FarB w x y a len zs :=
  ⟨h.1, h.2.1, h.2.2.imp id fun ⟨b, off, h1, h2, h3⟩ => ⟨b, off, h1, h3, fun e => by have := hx b e; omega, fun e => by have := hy b e; omega⟩⟩

theorem owns_old {w w' : World} {base : Nat} {e : TypeId} {size : Nat} {v : Value} {n : Nat} {xs : List Value} (h : w.ownsRow base e size v n xs) (hb : Below w.heap.size w w') : w'.ownsRow base e size v n xs := by
  obtain ⟨h1, h2 | ⟨g, cap, cur, hv, hg, hh, r⟩⟩ := h
  · exact ⟨h1, .inl h2⟩
  · exact ⟨h1, .inr ⟨g, cap, cur, hv, hg, by rw [hb.block g (Array.getElem?_eq_some_iff.1 hh).1]; exact hh, r⟩⟩
theorem owns_lt {w : World} {base : Nat} {e : TypeId} {size : Nat} {v : Value} {n : Nat} {xs : List Value} (h : w.ownsRow base e size v n xs) : ∀ k, v.ownBlock = some k → k < w.heap.size ∧ base ≤ k := by
  intro k hk
  obtain ⟨h1, ⟨rfl, _⟩ | ⟨g, cap, cur, rfl, hg, hh, r⟩⟩ := h
  · simp [Value.ownBlock] at hk
  · simp [Value.ownBlock] at hk
    subst hk
    exact ⟨(Array.getElem?_eq_some_iff.1 hh).1, hg⟩
theorem owns_grown {w w' : World} {row : Option Nat} {base : Nat} {e : TypeId} {size : Nat} {v : Value} {n : Nat} {xs : List Value} (h : w.ownsRow base e size v n xs) (hg : w.grownBy w' row) (hne : ∀ k, v.ownBlock = some k → row ≠ some k) : w'.ownsRow base e size v n xs := by
  obtain ⟨h1, h2 | ⟨g, cap, cur, rfl, hgb, hh, r⟩⟩ := h
  · exact ⟨h1, .inl h2⟩
  · have := hne g (by simp [Value.ownBlock])
    exact ⟨h1, .inr ⟨g, cap, cur, rfl, hgb, by rw [hg.block g (Array.getElem?_eq_some_iff.1 hh).1 (fun e => this e.symm)]; exact hh, r⟩⟩

/-- the two slices, and the bytes that their elements lead to; nothing shares memory with the slices' own rows -/
structure SplSt (w : World) (B : Nat) (e : TypeId) (vF vR : Value) (fs : List FR) (rs : List Row3) : Prop where
  ownF : w.ownsRow B e 4 vF fs.length (fs.flatMap FR.cells)
  ownR : w.ownsRow B 27 1 vR rs.length (rs.map Row3.val)
  apart : ∀ k, vF.ownBlock = some k → vR.ownBlock ≠ some k
  farF : ∀ f ∈ fs, FarB w vF.ownBlock vR.ownBlock f.a f.len f.d
  farR : ∀ r ∈ rs, FarB w vF.ownBlock vR.ownBlock r.a r.len r.zs

theorem SplSt.nil (w : World) (B : Nat) (e : TypeId) : SplSt w B e (.slice none 0 0) (.slice none 0 0) [] [] :=
  ⟨World.ownsRow_nil _ _ _ _, World.ownsRow_nil _ _ _ _, by simp [Value.ownBlock], by simp, by simp⟩
theorem SplSt.old {w w' : World} {B : Nat} {e : TypeId} {vF vR : Value} {fs : List FR} {rs : List Row3} (h : SplSt w B e vF vR fs rs) (hb : Below w.heap.size w w') : SplSt w' B e vF vR fs rs :=
  ⟨owns_old h.ownF hb, owns_old h.ownR hb, h.apart, fun f hf => (h.farF f hf).old hb, fun r hr => (h.farR r hr).old hb⟩
theorem SplSt.addF {w w' : World} {B : Nat} {e : TypeId} {vF vR vF' : Value} {fs : List FR} {rs : List Row3} (h : SplSt w B e vF vR fs rs) (f : FR) (hf : FarB w vF.ownBlock vR.ownBlock f.a f.len f.d)
    (ho : w'.ownsRow B e 4 vF' (fs.length + 1) (fs.flatMap FR.cells ++ f.cells)) (hg : w.grownBy w' vF.ownBlock) (hx : vF'.ownBlock = vF.ownBlock ∨ vF'.ownBlock = some w.heap.size) : SplSt w' B e vF' vR (fs ++ [f]) rs := by
  refine ⟨by simpa using ho, owns_grown h.ownR hg (fun k hk e => h.apart k e hk), ?_, ?_, fun r hr => (h.farR r hr).grow1 hg hx⟩
  · intro k hk hr
    rcases hx with hx | hx
    · exact h.apart k (hx ▸ hk) hr
    · have := (owns_lt h.ownR k hr).1
      rw [hx] at hk
      simp at hk
      omega
  · intro f' hf'
    rcases List.mem_append.1 hf' with h1 | h1
    · exact (h.farF f' h1).grow1 hg hx
    · simp at h1
      subst h1
      exact hf.grow1 hg hx
theorem SplSt.addR {w w' : World} {B : Nat} {e : TypeId} {vF vR vR' : Value} {fs : List FR} {rs : List Row3} (h : SplSt w B e vF vR fs rs) (r : Row3) (hr : FarB w vF.ownBlock vR.ownBlock r.a r.len r.zs)
    (ho : w'.ownsRow B 27 1 vR' (rs.length + 1) (rs.map Row3.val ++ [r.val])) (hg : w.grownBy w' vR.ownBlock) (hx : vR'.ownBlock = vR.ownBlock ∨ vR'.ownBlock = some w.heap.size) : SplSt w' B e vF vR' fs (rs ++ [r]) := by
  refine ⟨owns_grown h.ownF hg (fun k hk e => h.apart k hk e), by simpa using ho, ?_, fun f hf => (h.farF f hf).grow2 hg hx, ?_⟩
  · intro k hk hrr
    rcases hx with hx | hx
    · exact h.apart k hk (hx ▸ hrr)
    · have := (owns_lt h.ownF k hk).1
      rw [hx] at hrr
      simp at hrr
      omega
  · intro r' hr'
    rcases List.mem_append.1 hr' with h1 | h1
    · exact (h.farR r' h1).grow2 hg hx
    · simp at h1
      subst h1
      exact hr.grow2 hg hx

theorem info22 : (Tryz.prog.info? 27).map (fun i => (i.zero, i.size, i.bytes)) = some (some (.slice none 0 0), 1, 24) := by kernel_rfl
/-- what the laws ask of a type of fields -/
def FieldType (t e : TypeId) : Prop := Tryz.prog.underlying t = some (.slice e) ∧ (Tryz.prog.info? e).map (fun i => (i.zero, i.size, i.bytes)) = some (some (.agg #[.int .i64 0, .int .i64 0, .int .u64 0, .slice none 0 0]), 4, 48)

theorem runF1_append (w : World) (t e ty : TypeId) (hT : FieldType t e) (B : Nat) (vF vR : Value) (fs : List FR) (rs : List Row3) (h : SplSt w B e vF vR fs rs) (f : FR) (hf : FarB w vF.ownBlock vR.ownBlock f.a f.len f.d)
    (ad : Addr) (c : Nat) (hc : ∀ j u, f.cells[j]? = some u → w.cell? (ad.add j) = some u) (hB : B ≤ w.heap.size) (hn : fs.length ≤ 2097152) :
    ∃ vF' w', (Builtin.append_ #[t, t] ty #[vF, .slice (some ad) 1 c]).run Tryz.prog w = .ok vF' w' ∧ SplSt w' B e vF' vR (fs ++ [f]) rs ∧ Below B w w' := by
  obtain ⟨i0, hi, hz0, hz1, hz2⟩ := info_parts hT.2
  obtain ⟨v', w', hr, h1, h2, _, h4⟩ := run_append_own_at (P := Tryz.prog) w B t ty e i0 _ 4 48 hT.1 hi hz0 hz1 hz2 rfl (by decide) vF fs.length _ h.ownF ad 1 c f.cells rfl hc (by intro u hu; simp [FR.cells] at hu; rcases hu with rfl | rfl | rfl | rfl <;> rfl) (by unfold maxLen; omega) (by omega) hB
  exact ⟨v', w', hr, h.addF f hf h1 h2 h4, (Below.refl _ _).grown h2 hB (fun k hk => (owns_lt h.ownF k hk).2)⟩
theorem runR1_append (w : World) (e ty : TypeId) (B : Nat) (vF vR : Value) (fs : List FR) (rs : List Row3) (h : SplSt w B e vF vR fs rs) (r : Row3) (hr : FarB w vF.ownBlock vR.ownBlock r.a r.len r.zs)
    (ad : Addr) (c : Nat) (hc : w.cell? (ad.add 0) = some r.val) (hB : B ≤ w.heap.size) (hn : rs.length ≤ 2097152) :
    ∃ vR' w', (Builtin.append_ #[101, 101] ty #[vR, .slice (some ad) 1 c]).run Tryz.prog w = .ok vR' w' ∧ SplSt w' B e vF vR' fs (rs ++ [r]) ∧ Below B w w' := by
  obtain ⟨i0, hi, hz0, hz1, hz2⟩ := info_parts info22
  obtain ⟨v', w', hr2, h1, h2, _, h4⟩ := run_append_own_at (P := Tryz.prog) w B 101 ty 27 i0 _ 1 24 Tryz.underlying101 hi hz0 hz1 hz2 rfl (by decide) vR rs.length _ h.ownR ad 1 c [r.val] rfl (by intro j u hj; cases j with | zero => simp at hj; subst hj; exact hc | succ j => simp at hj) (by intro u hu; simp at hu; subst hu; rfl) (by unfold maxLen; omega) (by omega) hB
  exact ⟨v', w', hr2, h.addR r hr h1 h2 h4, (Below.refl _ _).grown h2 hB (fun k hk => (owns_lt h.ownR k hk).2)⟩

theorem wpS_F {w : World} {ops : Array Oper} {rest : List Oper} {o : Oper} {a : Act} {Q : Exit → Act → World → Prop} (hgd : o.guard = none) (s x : Operand) (t e : TypeId)
    (ho : o.op = .call { callee := .builtin .append, args := #[s, x], argTypes := #[t, t] }) (hT : FieldType t e) (B : Nat) (vF vR : Value) (fs : List FR) (rs : List Row3) (hs : a.eval s = vF) (h : SplSt w B e vF vR fs rs)
    (f : FR) (hf : FarB w vF.ownBlock vR.ownBlock f.a f.len f.d) (ad : Addr) (c : Nat) (hx : a.eval x = .slice (some ad) 1 c) (hc : ∀ j u, f.cells[j]? = some u → w.cell? (ad.add j) = some u) (hB : B ≤ w.heap.size) (hn : fs.length ≤ 2097152)
    (hk : ∀ v' w', SplSt w' B e v' vR (fs ++ [f]) rs → Below B w w' → wpList Tryz.prog ops Q rest (a.put o.dst v') w') : wpList Tryz.prog ops Q (o :: rest) a w := by
  obtain ⟨v', w', hrun, h1, h2⟩ := runF1_append w t e o.type hT B vF vR fs rs h f hf ad c hc hB hn
  exact Lib.wpList_append_run _ hgd s x t t ho vF _ hs hx v' w' hrun (hk v' w' h1 h2)
theorem wpS_R {w : World} {ops : Array Oper} {rest : List Oper} {o : Oper} {a : Act} {Q : Exit → Act → World → Prop} (hgd : o.guard = none) (s x : Operand) (e : TypeId)
    (ho : o.op = .call { callee := .builtin .append, args := #[s, x], argTypes := #[101, 101] }) (B : Nat) (vF vR : Value) (fs : List FR) (rs : List Row3) (hs : a.eval s = vR) (h : SplSt w B e vF vR fs rs)
    (r : Row3) (hr : FarB w vF.ownBlock vR.ownBlock r.a r.len r.zs) (ad : Addr) (c : Nat) (hx : a.eval x = .slice (some ad) 1 c) (hc : w.cell? (ad.add 0) = some r.val) (hB : B ≤ w.heap.size) (hn : rs.length ≤ 2097152)
    (hk : ∀ v' w', SplSt w' B e vF v' fs (rs ++ [r]) → Below B w w' → wpList Tryz.prog ops Q rest (a.put o.dst v') w') : wpList Tryz.prog ops Q (o :: rest) a w := by
  obtain ⟨v', w', hrun, h1, h2⟩ := runR1_append w e o.type B vF vR fs rs h r hr ad c hc hB hn
  exact Lib.wpList_append_run _ hgd s x 101 101 ho vR _ hs hx v' w' hrun (hk v' w' h1 h2)
theorem stepS_F {w : World} {ops : Array Oper} {o : Oper} {a : Act} {K : Act → World → Prop} {Q : Exit → Act → World → Prop} {E : Prop} (hgd : o.guard = none) (s x : Operand) (t e : TypeId)
    (ho : o.op = .call { callee := .builtin .append, args := #[s, x], argTypes := #[t, t] }) (hT : FieldType t e) (B : Nat) (vF vR : Value) (fs : List FR) (rs : List Row3) (hs : a.eval s = vF) (h : SplSt w B e vF vR fs rs)
    (f : FR) (hf : FarB w vF.ownBlock vR.ownBlock f.a f.len f.d) (ad : Addr) (c : Nat) (hx : a.eval x = .slice (some ad) 1 c) (hc : ∀ j u, f.cells[j]? = some u → w.cell? (ad.add j) = some u) (hB : B ≤ w.heap.size) (hn : fs.length ≤ 2097152)
    (hk : ∀ v' w', SplSt w' B e v' vR (fs ++ [f]) rs → Below B w w' → w.grownBy w' vF.ownBlock → K (a.put o.dst v') w') : if Region.wanted o (yielded ops a.tmps) = true then Oper.wp Tryz.prog o a w K Q else E := by
  have hw : Region.wanted o (yielded ops a.tmps) = true := by simp [Region.wanted, hgd]
  rw [if_pos hw]
  obtain ⟨i0, hi, hz0, hz1, hz2⟩ := info_parts hT.2
  obtain ⟨v', w', hr, h1, h2, _, h4⟩ := run_append_own_at (P := Tryz.prog) w B t o.type e i0 _ 4 48 hT.1 hi hz0 hz1 hz2 rfl (by decide) vF fs.length _ h.ownF ad 1 c f.cells rfl hc (by intro u hu; simp [FR.cells] at hu; rcases hu with rfl | rfl | rfl | rfl <;> rfl) (by unfold maxLen; omega) (by omega) hB
  exact Lib.wp_append_run _ s x t t ho vF _ hs hx v' w' hr (hk v' w' (h.addF f hf h1 h2 h4) ((Below.refl _ _).grown h2 hB (fun k hk => (owns_lt h.ownF k hk).2)) h2)
theorem stepS_R {w : World} {ops : Array Oper} {o : Oper} {a : Act} {K : Act → World → Prop} {Q : Exit → Act → World → Prop} {E : Prop} (hgd : o.guard = none) (s x : Operand) (e : TypeId)
    (ho : o.op = .call { callee := .builtin .append, args := #[s, x], argTypes := #[101, 101] }) (B : Nat) (vF vR : Value) (fs : List FR) (rs : List Row3) (hs : a.eval s = vR) (h : SplSt w B e vF vR fs rs)
    (r : Row3) (hr : FarB w vF.ownBlock vR.ownBlock r.a r.len r.zs) (ad : Addr) (c : Nat) (hx : a.eval x = .slice (some ad) 1 c) (hc : w.cell? (ad.add 0) = some r.val) (hB : B ≤ w.heap.size) (hn : rs.length ≤ 2097152)
    (hk : ∀ v' w', SplSt w' B e vF v' fs (rs ++ [r]) → Below B w w' → K (a.put o.dst v') w') : if Region.wanted o (yielded ops a.tmps) = true then Oper.wp Tryz.prog o a w K Q else E := by
  have hw : Region.wanted o (yielded ops a.tmps) = true := by simp [Region.wanted, hgd]
  rw [if_pos hw]
  obtain ⟨v', w', hrun, h1, h2⟩ := runR1_append w e o.type B vF vR fs rs h r hr ad c hc hB hn
  exact Lib.wp_append_run _ s x 101 101 ho vR _ hs hx v' w' hrun (hk v' w' h1 h2)
end Go.Proofs.YteajlfgbmefncaaGreatDoor
