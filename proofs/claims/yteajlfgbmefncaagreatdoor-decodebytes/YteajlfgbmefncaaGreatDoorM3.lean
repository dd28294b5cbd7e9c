/-
  The walk over the document's own TakeField: of any bytes the field that stands at their beginning, or an error; it makes new memory alone.
-/
import Derived.Test.YteajlfgbmefncaaGreatDoorM1
import Derived.Test.YteajlfgbmefncaaGreatDoorM2
import Derived.Deep.RegionLaw
namespace Go.Proofs.YteajlfgbmefncaaGreatDoor
set_option linter.unusedVariables false
open Go.ChangeShapes Go.WideShapes Go.ChangeAt Go.RowKit

/-- what is taken of bytes as a field -/
structure TF where
  num : Int
  ty : Int
  n : Int
  data : List Int
  k : Int
  e : Int
def tfErr (e : Int) : TF := ⟨0, 0, 0, [], 0, e⟩
/-- what belongs to a field, behind its first varint: key: that; k0: how many bytes it had; rest: what stands behind it -/
def tfBody (key k0 : Int) (rest : List Int) : TF :=
  if key / 8 < 1 ∨ 536870911 < key / 8 ∨ ¬(key % 8 = 0 ∨ key % 8 = 1 ∨ key % 8 = 2 ∨ key % 8 = 5) then tfErr 2
  else if key % 8 = 0 then
    if (dec 0 0 rest).2.2 ≠ 0 then tfErr (dec 0 0 rest).2.2 else ⟨key / 8, 0, (dec 0 0 rest).1, [], k0 + (dec 0 0 rest).2.1, 0⟩
  else if key % 8 = 2 then
    if (dec 0 0 rest).2.2 ≠ 0 then tfErr (dec 0 0 rest).2.2
    else if (rest.length : Int) - (dec 0 0 rest).2.1 < (dec 0 0 rest).1 then tfErr 5
    else ⟨key / 8, 2, 0, (rest.drop (dec 0 0 rest).2.1.toNat).take (dec 0 0 rest).1.toNat, k0 + (dec 0 0 rest).2.1 + (dec 0 0 rest).1, 0⟩
  else if key % 8 = 5 then
    if rest.length < 4 then tfErr 5 else ⟨key / 8, 5, low (rest.take 4), [], k0 + 4, 0⟩
  else
    if rest.length < 8 then tfErr 5 else ⟨key / 8, 1, low (rest.take 8), [], k0 + 8, 0⟩
def tf (zs : List Int) : TF :=
  if (dec 0 0 zs).2.2 ≠ 0 then tfErr (dec 0 0 zs).2.2 else tfBody (dec 0 0 zs).1 (dec 0 0 zs).2.1 (zs.drop (dec 0 0 zs).2.1.toNat)

/-- a slice of bytes, whose elements are zs, in a block whose number is base or more -/
def NewB (w : World) (base : Nat) (a : Option Addr) (len : Nat) (zs : List Int) : Prop :=
  zs.length = len ∧ len ≤ 281474976710656 ∧ (zs = [] ∨ ∃ b off, a = some ⟨b, off, none⟩ ∧ base ≤ b ∧ Held w b off zs)
theorem NewB.isB {w : World} {base : Nat} {a : Option Addr} {len : Nat} {zs : List Int} (h : NewB w base a len zs) : IsB w a len zs :=
  ⟨h.1, h.2.1, h.2.2.imp id fun ⟨b, off, h1, _, h3⟩ => ⟨b, off, h1, h3⟩⟩
theorem NewB.mono {w : World} {base base' : Nat} {a : Option Addr} {len : Nat} {zs : List Int} (h : NewB w base a len zs) (hb : base' ≤ base) : NewB w base' a len zs :=
  ⟨h.1, h.2.1, h.2.2.imp id fun ⟨b, off, h1, h2, h3⟩ => ⟨b, off, h1, Nat.le_trans hb h2, h3⟩⟩
/-- the same bytes lie in a world in which the cells from base on that were there are as they were -/
theorem NewB.cells {w w2 : World} {base : Nat} {a : Option Addr} {len : Nat} {zs : List Int} (h : NewB w base a len zs)
    (hc : ∀ b o v, base ≤ b → b < w.heap.size → w.cell? ⟨b, o, none⟩ = some v → w2.cell? ⟨b, o, none⟩ = some v) : NewB w2 base a len zs :=
  ⟨h.1, h.2.1, h.2.2.imp id fun ⟨b, off, h1, h2, h3⟩ => ⟨b, off, h1, h2, fun j z hj => hc _ _ _ h2 (cell_ltB (h3.1 j z hj)) (h3.1 j z hj), h3.2⟩⟩
/-- the world with nothing in the blocks below -/
def blank (w : World) (B : Nat) : World := { w with heap := w.heap.mapIdx fun i o => if i < B then .cells #[] 0 else o }
theorem blank_high (w : World) (B b o : Nat) (h : B ≤ b) : (blank w B).cell? ⟨b, o, none⟩ = w.cell? ⟨b, o, none⟩ := by
  have hn : ¬ b < B := by omega
  simp [World.cell?, blank, Array.getElem?_mapIdx, hn]
theorem blank_low (w : World) (B b o : Nat) (h : b < B) : (blank w B).cell? ⟨b, o, none⟩ = none := by
  simp [World.cell?, blank, Array.getElem?_mapIdx, h]
  cases w.heap[b]? <;> simp
theorem stable_newB {w : World} {B : Nat} {a : Option Addr} {len : Nat} {zs : List Int} (h : ∀ w2, (∀ b o, B ≤ b → w2.cell? ⟨b, o, none⟩ = w.cell? ⟨b, o, none⟩) → IsB w2 a len zs) : NewB w B a len zs := by
  obtain ⟨h1, h2, h3⟩ := h w (fun _ _ _ => rfl)
  refine ⟨h1, h2, ?_⟩
  rcases h3 with h3 | ⟨b, off, rfl, hh⟩
  · exact .inl h3
  · by_cases h0 : zs = []
    · exact .inl h0
    · refine .inr ⟨b, off, rfl, ?_, hh⟩
      obtain ⟨_, _, h5 | ⟨b', off', hab, hh'⟩⟩ := h (blank w B) (fun b o hb => blank_high w B b o hb)
      · exact absurd h5 h0
      · cases hab
        cases zs with
        | nil => exact absurd rfl h0
        | cons z zs =>
          have hc := hh'.1 0 z rfl
          by_cases hb : b < B
          · rw [blank_low _ _ _ _ hb] at hc; simp at hc
          · omega

/-- a slice without an address is empty; and how far a slice can grow -/
def NoA (a : Option Addr) (l c : Nat) : Prop := (a = none → l = 0 ∧ c = 0) ∧ l ≤ c ∧ c ≤ 9223372036854775807
theorem NoA.zero : NoA none 0 0 := ⟨fun _ => ⟨rfl, rfl⟩, by omega, by omega⟩
/-- what a call that takes a field answers; its bytes lie in memory that the call has made -/
def TfAns (w w' : World) (e : Ending) (r : TF) : Prop :=
  ∃ a len cap, e = .returned (.tuple #[fv r.num r.ty r.n a len cap, .int .i64 r.k, .int .i64 r.e]) ∧ NewB w' w.heap.size a len r.data ∧ NoA a len cap ∧ Below w.heap.size w w'

theorem tfErr_ans (w w' : World) (x : Int) (hb : Below w.heap.size w w') :
    TfAns w w' (.returned (.tuple #[.agg #[.int .i64 0, .int .i64 0, .int .u64 0, .slice none 0 0], .int .i64 0, .int .i64 x])) (tfErr x) :=
  ⟨none, 0, 0, rfl, ⟨rfl, by simp, .inl rfl⟩, NoA.zero, hb⟩

theorem isB_dropAt {w : World} {b off len : Nat} {zs : List Int} (hB : IsB w (some ⟨b, off, none⟩) len zs) (k : Nat) (hk : k < len) : IsB w (some ⟨b, off + k, none⟩) (len - k) (zs.drop k) := by
  obtain ⟨h1, h2, h3⟩ := hB
  refine ⟨by rw [List.length_drop]; omega, by omega, ?_⟩
  rcases h3 with h3 | ⟨b', off', hab, hh⟩
  · rw [h3] at h1; simp at h1; omega
  · cases hab
    refine .inr ⟨_, _, rfl, ?_, fun z hz => hh.2 z (List.mem_of_mem_drop hz)⟩
    intro j z hj
    rw [List.getElem?_drop] at hj
    have := hh.1 (k + j) z hj
    rw [Nat.add_assoc]; exact this
theorem isB_end {w : World} {a : Option Addr} {len : Nat} {zs : List Int} (hB : IsB w a len zs) (a' : Option Addr) : IsB w a' 0 (zs.drop len) :=
  ⟨by rw [List.length_drop]; have := hB.1; omega, by omega, .inl (List.drop_eq_nil_of_le (by have := hB.1; omega))⟩

set_option maxHeartbeats 2000000 in
theorem takeFieldR_err (a : Option Addr) (len cap : Nat) (zs : List Int) (w : World) (hB : IsB w a len zs) (N K E : Int) (hd : dec 0 0 zs = (N, K, E)) (hE : E ≠ 0) :
    Calls Tryz.prog 64 #[.slice a len cap] w fun e w' => TfAns w w' e (tfErr E) := by
  have HT := fun W (h : Below w.heap.size w W) => takeRB_any a len cap zs W (isB_old hB h)
  rw [hd] at HT
  have HTT : Hid _ := HT
  have hEb : (E != 0) = true := by simpa using hE
  clear HT hd hB
  go_enter Tryz.func64, Tryz.ntmps64
  go_wp2_with fail
  refine (HTT.out _ ((Below.refl _ _).alloc (Nat.le_refl _) _)).mono ?_
  rintro e w' ⟨rfl, rfl⟩
  go_wp2_with fail
  exact bodyPost_ret (v := .tuple #[.agg #[.int .i64 0, .int .i64 0, .int .u64 0, .slice none 0 0], .int .i64 0, .int .i64 E]) (by simp [results, Tryz.results64, go_sem]) rfl (tfErr_ans _ _ _ ((Below.refl _ _).alloc (Nat.le_refl _) _))

/-- the elements of a slice from the k-th on, as Go cuts it: at the end of its room the address stays -/
def cutAt (b off cap k : Nat) : Addr := if cap = k then ⟨b, off, none⟩ else ⟨b, off + k, none⟩
theorem cutAt_end (b off m : Nat) : cutAt b off m m = ⟨b, off, none⟩ := by unfold cutAt; rw [if_pos rfl]
theorem cutAt_in {b off m k : Nat} (h : ¬ m = k) : cutAt b off m k = ⟨b, off + k, none⟩ := by unfold cutAt; rw [if_neg h]
theorem isB_cut {w : World} {b off len cap : Nat} {zs : List Int} (hB : IsB w (some ⟨b, off, none⟩) len zs) (hc : len ≤ cap) (k : Nat) (hk : k ≤ len) : IsB w (some (cutAt b off cap k)) (len - k) (zs.drop k) := by
  by_cases h : k = len
  · subst h
    rw [Nat.sub_self]; exact isB_end hB _
  · unfold cutAt
    rw [if_neg (by omega)]
    exact isB_dropAt hB k (by omega)

set_option maxHeartbeats 2000000 in
theorem takeFieldR_low (a : Option Addr) (len cap : Nat) (w : World) (N K : Int) (HT : ∀ W, Below w.heap.size w W → Calls Tryz.prog 92 #[.slice a len cap] W fun e w' =>
      e = .returned (.tuple #[.int .u64 N, .int .i64 K, .int .i64 0]) ∧ w' = W) (hN0 : 0 ≤ N) (hN1 : N ≤ 18446744073709551615) (h : N / 8 < 1) :
    Calls Tryz.prog 64 #[.slice a len cap] w fun e w' => TfAns w w' e (tfErr 2) := by
  have HTT : Hid _ := HT
  clear HT
  go_enter Tryz.func64, Tryz.ntmps64
  go_wp2_with fail
  refine (HTT.out _ ((Below.refl _ _).alloc (Nat.le_refl _) _)).mono ?_
  rintro e w' ⟨rfl, rfl⟩
  clear HTT
  go_wp2_with fail
  exact bodyPost_ret (v := .tuple #[.agg #[.int .i64 0, .int .i64 0, .int .u64 0, .slice none 0 0], .int .i64 0, .int .i64 2]) (by simp [results, Tryz.results64, go_sem]) rfl (tfErr_ans _ _ _ ((Below.refl _ _).alloc (Nat.le_refl _) _))
set_option maxHeartbeats 2000000 in
theorem takeFieldR_high (a : Option Addr) (len cap : Nat) (w : World) (N K : Int) (HT : ∀ W, Below w.heap.size w W → Calls Tryz.prog 92 #[.slice a len cap] W fun e w' =>
      e = .returned (.tuple #[.int .u64 N, .int .i64 K, .int .i64 0]) ∧ w' = W) (hN0 : 0 ≤ N) (hN1 : N ≤ 18446744073709551615) (h : 536870911 < N / 8) :
    Calls Tryz.prog 64 #[.slice a len cap] w fun e w' => TfAns w w' e (tfErr 2) := by
  have HTT : Hid _ := HT
  clear HT
  go_enter Tryz.func64, Tryz.ntmps64
  go_wp2_with fail
  refine (HTT.out _ ((Below.refl _ _).alloc (Nat.le_refl _) _)).mono ?_
  rintro e w' ⟨rfl, rfl⟩
  clear HTT
  go_wp2_with fail
  exact bodyPost_ret (v := .tuple #[.agg #[.int .i64 0, .int .i64 0, .int .u64 0, .slice none 0 0], .int .i64 0, .int .i64 2]) (by simp [results, Tryz.results64, go_sem]) rfl (tfErr_ans _ _ _ ((Below.refl _ _).alloc (Nat.le_refl _) _))
set_option maxHeartbeats 2000000 in
theorem takeFieldR_form (a : Option Addr) (len cap : Nat) (zs : List Int) (w : World) (hB : IsB w a len zs) (N K : Int) (hd : dec 0 0 zs = (N, K, 0)) (hN0 : 0 ≤ N) (hN1 : N ≤ 18446744073709551615)
    (hbad : N / 8 < 1 ∨ 536870911 < N / 8 ∨ ¬(N % 8 = 0 ∨ N % 8 = 1 ∨ N % 8 = 2 ∨ N % 8 = 5)) :
    Calls Tryz.prog 64 #[.slice a len cap] w fun e w' => TfAns w w' e (tfErr 2) := by
  have HT := fun W (h : Below w.heap.size w W) => takeRB_any a len cap zs W (isB_old hB h)
  rw [hd] at HT
  have HTT : Hid _ := HT
  clear HT hd hB
  rcases hbad with h | h | h
  · exact takeFieldR_low a len cap w N K HTT.out hN0 hN1 h
  · exact takeFieldR_high a len cap w N K HTT.out hN0 hN1 h
  · by_cases h1 : N / 8 < 1
    · exact takeFieldR_low a len cap w N K HTT.out hN0 hN1 h1
    · by_cases h2 : 536870911 < N / 8
      · exact takeFieldR_high a len cap w N K HTT.out hN0 hN1 h2
      · have t0 : (N % 8 != 0) = true := by simp; omega
        have t1 : (N % 8 != 1) = true := by simp; omega
        have t2 : (N % 8 != 2) = true := by simp; omega
        have t5 : (N % 8 != 5) = true := by simp; omega
        have h1' : 1 ≤ N / 8 := by omega
        have h2' : N / 8 ≤ 536870911 := by omega
        clear h h1 h2
        go_enter Tryz.func64, Tryz.ntmps64
        go_wp2_with fail
        refine (HTT.out _ ((Below.refl _ _).alloc (Nat.le_refl _) _)).mono ?_
        rintro e w' ⟨rfl, rfl⟩
        clear HTT
        go_wp2_with fail
        exact bodyPost_ret (v := .tuple #[.agg #[.int .i64 0, .int .i64 0, .int .u64 0, .slice none 0 0], .int .i64 0, .int .i64 2]) (by simp [results, Tryz.results64, go_sem]) rfl (tfErr_ans _ _ _ ((Below.refl _ _).alloc (Nat.le_refl _) _))

set_option maxHeartbeats 2000000 in
theorem takeFieldR_0 (b off len cap : Nat) (zs : List Int) (w : World) (N : Int) (k : Nat)
    (HT : ∀ W, Below w.heap.size w W → Calls Tryz.prog 92 #[.slice (some ⟨b, off, none⟩) len cap] W fun e w' =>
      e = .returned (.tuple #[.int .u64 N, .int .i64 k, .int .i64 0]) ∧ w' = W)
    (X Q F : Int) (HT2 : ∀ W, Below w.heap.size w W → Calls Tryz.prog 92 #[.slice (some (cutAt b off cap k)) (len - k) (cap - k)] W fun e w' =>
      e = .returned (.tuple #[.int .u64 X, .int .i64 Q, .int .i64 F]) ∧ w' = W)
    (hN0 : 0 ≤ N) (hN1 : N ≤ 18446744073709551615) (h1 : 1 ≤ N / 8) (h2 : N / 8 ≤ 536870911) (hty : N % 8 = 0) (hk : k ≤ len) (hlc : len ≤ cap) (hcm : cap ≤ 9223372036854775807) (hk10 : k ≤ 10) (hQ0 : 0 ≤ Q) (hQ1 : Q ≤ 10) :
    Calls Tryz.prog 64 #[.slice (some ⟨b, off, none⟩) len cap] w fun e w' => TfAns w w' e (if F ≠ 0 then tfErr F else ⟨N / 8, 0, X, [], k + Q, 0⟩) := by
  have HTT : Hid _ := HT
  have HTT2 : Hid _ := HT2
  clear HT HT2
  by_cases hF : F = 0
  · rw [if_neg (by simpa using hF)]
    subst hF
    by_cases hck : cap = k
    · obtain rfl : len = k := by omega
      subst hck
      rw [cutAt_end, Nat.sub_self] at HTT2
      clear hlc
      go_enter Tryz.func64, Tryz.ntmps64
      go_wp2_with fail
      refine (HTT.out _ ((Below.refl _ _).alloc (Nat.le_refl _) _)).mono ?_
      rintro e w' ⟨rfl, rfl⟩
      clear HTT
      go_wp2_with fail
      refine (HTT2.out _ (((Below.refl _ _).alloc (Nat.le_refl _) _).alloc (by simp) _)).mono ?_
      rintro e w' ⟨rfl, rfl⟩
      clear HTT2
      go_wp2_with fail
      exact bodyPost_ret (v := .tuple #[.agg #[.int .i64 (N / 8), .int .i64 0, .int .u64 X, .slice none 0 0], .int .i64 (cap + Q), .int .i64 0]) (by simp [results, Tryz.results64, go_sem]) rfl ⟨none, 0, 0, rfl, ⟨rfl, by simp, .inl rfl⟩, NoA.zero, (((Below.refl _ _).alloc (Nat.le_refl _) _).alloc (by simp) _)⟩
    · rw [cutAt_in hck] at HTT2
      go_enter Tryz.func64, Tryz.ntmps64
      go_wp2_with fail
      refine (HTT.out _ ((Below.refl _ _).alloc (Nat.le_refl _) _)).mono ?_
      rintro e w' ⟨rfl, rfl⟩
      clear HTT
      go_wp2_with fail
      refine (HTT2.out _ (((Below.refl _ _).alloc (Nat.le_refl _) _).alloc (by simp) _)).mono ?_
      rintro e w' ⟨rfl, rfl⟩
      clear HTT2
      go_wp2_with fail
      exact bodyPost_ret (v := .tuple #[.agg #[.int .i64 (N / 8), .int .i64 0, .int .u64 X, .slice none 0 0], .int .i64 (k + Q), .int .i64 0]) (by simp [results, Tryz.results64, go_sem]) rfl ⟨none, 0, 0, rfl, ⟨rfl, by simp, .inl rfl⟩, NoA.zero, (((Below.refl _ _).alloc (Nat.le_refl _) _).alloc (by simp) _)⟩
  · rw [if_pos (by simpa using hF)]
    have hFb : (F != 0) = true := by simpa using hF
    by_cases hck : cap = k
    · obtain rfl : len = k := by omega
      subst hck
      rw [cutAt_end, Nat.sub_self] at HTT2
      clear hlc
      go_enter Tryz.func64, Tryz.ntmps64
      go_wp2_with fail
      refine (HTT.out _ ((Below.refl _ _).alloc (Nat.le_refl _) _)).mono ?_
      rintro e w' ⟨rfl, rfl⟩
      clear HTT
      go_wp2_with fail
      refine (HTT2.out _ (((Below.refl _ _).alloc (Nat.le_refl _) _).alloc (by simp) _)).mono ?_
      rintro e w' ⟨rfl, rfl⟩
      clear HTT2
      go_wp2_with fail
      exact bodyPost_ret (v := .tuple #[.agg #[.int .i64 0, .int .i64 0, .int .u64 0, .slice none 0 0], .int .i64 0, .int .i64 F]) (by simp [results, Tryz.results64, go_sem]) rfl (tfErr_ans _ _ _ (((Below.refl _ _).alloc (Nat.le_refl _) _).alloc (by simp) _))
    · rw [cutAt_in hck] at HTT2
      go_enter Tryz.func64, Tryz.ntmps64
      go_wp2_with fail
      refine (HTT.out _ ((Below.refl _ _).alloc (Nat.le_refl _) _)).mono ?_
      rintro e w' ⟨rfl, rfl⟩
      clear HTT
      go_wp2_with fail
      refine (HTT2.out _ (((Below.refl _ _).alloc (Nat.le_refl _) _).alloc (by simp) _)).mono ?_
      rintro e w' ⟨rfl, rfl⟩
      clear HTT2
      go_wp2_with fail
      exact bodyPost_ret (v := .tuple #[.agg #[.int .i64 0, .int .i64 0, .int .u64 0, .slice none 0 0], .int .i64 0, .int .i64 F]) (by simp [results, Tryz.results64, go_sem]) rfl (tfErr_ans _ _ _ (((Below.refl _ _).alloc (Nat.le_refl _) _).alloc (by simp) _))
set_option maxHeartbeats 2000000 in
theorem takeFieldR_5 (b off len cap : Nat) (zs : List Int) (w : World) (N : Int) (k : Nat) (hB : IsB w (some ⟨b, off, none⟩) len zs)
    (HT : ∀ W, Below w.heap.size w W → Calls Tryz.prog 92 #[.slice (some ⟨b, off, none⟩) len cap] W fun e w' =>
      e = .returned (.tuple #[.int .u64 N, .int .i64 k, .int .i64 0]) ∧ w' = W)
    (hN0 : 0 ≤ N) (hN1 : N ≤ 18446744073709551615) (h1 : 1 ≤ N / 8) (h2 : N / 8 ≤ 536870911) (hty : N % 8 = 5) (hk : k ≤ len) (hlc : len ≤ cap) (hcm : cap ≤ 9223372036854775807) (hk10 : k ≤ 10) :
    Calls Tryz.prog 64 #[.slice (some ⟨b, off, none⟩) len cap] w fun e w' => TfAns w w' e (if (zs.drop k).length < 4 then tfErr 5 else ⟨N / 8, 5, low ((zs.drop k).take 4), [], k + 4, 0⟩) := by
  have HTT : Hid _ := HT
  have hdl : (zs.drop k).length = len - k := by rw [List.length_drop, hB.1]
  clear HT
  by_cases hs : len - k < 4
  · rw [if_pos (by omega)]
    have hs' : (len : Int) - (k : Int) < 4 := by omega
    clear hdl hB
    go_enter Tryz.func64, Tryz.ntmps64
    go_wp2_with fail
    refine (HTT.out _ ((Below.refl _ _).alloc (Nat.le_refl _) _)).mono ?_
    rintro e w' ⟨rfl, rfl⟩
    clear HTT
    go_wp2_with fail
    exact bodyPost_ret (v := .tuple #[.agg #[.int .i64 0, .int .i64 0, .int .u64 0, .slice none 0 0], .int .i64 0, .int .i64 5]) (by simp [results, Tryz.results64, go_sem]) rfl (tfErr_ans _ _ _ (((Below.refl _ _).alloc (Nat.le_refl _) _).alloc (by simp) _))
  · rw [if_neg (by omega)]
    have hs' : 4 ≤ (len : Int) - (k : Int) := by omega
    have hck : ¬ cap = k := by omega
    have HNB : Hid (∀ W c, Below w.heap.size w W → Calls Tryz.prog 93 #[.slice (some ⟨b, off + k, none⟩) 4 c] W fun e w' => e = .returned (.int .u64 (low ((zs.drop k).take 4))) ∧ w' = W) := by
      intro W c hW
      exact number_any _ 4 c _ W (isB_take (isB_dropAt (isB_old hB hW) k (by omega)) 4 (by omega)) (by omega)
    clear hdl hB
    generalize low ((zs.drop k).take 4) = X at *
    go_enter Tryz.func64, Tryz.ntmps64
    go_wp2_with fail
    refine (HTT.out _ ((Below.refl _ _).alloc (Nat.le_refl _) _)).mono ?_
    rintro e w' ⟨rfl, rfl⟩
    clear HTT
    go_wp2_with fail
    refine (HNB.out _ _ (((Below.refl _ _).alloc (Nat.le_refl _) _).alloc (by simp) _)).mono ?_
    rintro e w' ⟨rfl, rfl⟩
    clear HNB
    go_wp2_with fail
    exact bodyPost_ret (v := .tuple #[.agg #[.int .i64 (N / 8), .int .i64 5, .int .u64 X, .slice none 0 0], .int .i64 (k + 4), .int .i64 0]) (by simp [results, Tryz.results64, go_sem]) rfl ⟨none, 0, 0, rfl, ⟨rfl, by simp, .inl rfl⟩, NoA.zero, (((Below.refl _ _).alloc (Nat.le_refl _) _).alloc (by simp) _)⟩
set_option maxHeartbeats 2000000 in
theorem takeFieldR_1 (b off len cap : Nat) (zs : List Int) (w : World) (N : Int) (k : Nat) (hB : IsB w (some ⟨b, off, none⟩) len zs)
    (HT : ∀ W, Below w.heap.size w W → Calls Tryz.prog 92 #[.slice (some ⟨b, off, none⟩) len cap] W fun e w' =>
      e = .returned (.tuple #[.int .u64 N, .int .i64 k, .int .i64 0]) ∧ w' = W)
    (hN0 : 0 ≤ N) (hN1 : N ≤ 18446744073709551615) (h1 : 1 ≤ N / 8) (h2 : N / 8 ≤ 536870911) (hty : N % 8 = 1) (hk : k ≤ len) (hlc : len ≤ cap) (hcm : cap ≤ 9223372036854775807) (hk10 : k ≤ 10) :
    Calls Tryz.prog 64 #[.slice (some ⟨b, off, none⟩) len cap] w fun e w' => TfAns w w' e (if (zs.drop k).length < 8 then tfErr 5 else ⟨N / 8, 1, low ((zs.drop k).take 8), [], k + 8, 0⟩) := by
  have HTT : Hid _ := HT
  have hdl : (zs.drop k).length = len - k := by rw [List.length_drop, hB.1]
  clear HT
  by_cases hs : len - k < 8
  · rw [if_pos (by omega)]
    have hs' : (len : Int) - (k : Int) < 8 := by omega
    clear hdl hB
    go_enter Tryz.func64, Tryz.ntmps64
    go_wp2_with fail
    refine (HTT.out _ ((Below.refl _ _).alloc (Nat.le_refl _) _)).mono ?_
    rintro e w' ⟨rfl, rfl⟩
    clear HTT
    go_wp2_with fail
    exact bodyPost_ret (v := .tuple #[.agg #[.int .i64 0, .int .i64 0, .int .u64 0, .slice none 0 0], .int .i64 0, .int .i64 5]) (by simp [results, Tryz.results64, go_sem]) rfl (tfErr_ans _ _ _ (((Below.refl _ _).alloc (Nat.le_refl _) _).alloc (by simp) _))
  · rw [if_neg (by omega)]
    have hs' : 8 ≤ (len : Int) - (k : Int) := by omega
    have hck : ¬ cap = k := by omega
    have HNB : Hid (∀ W c, Below w.heap.size w W → Calls Tryz.prog 93 #[.slice (some ⟨b, off + k, none⟩) 8 c] W fun e w' => e = .returned (.int .u64 (low ((zs.drop k).take 8))) ∧ w' = W) := by
      intro W c hW
      exact number_any _ 8 c _ W (isB_take (isB_dropAt (isB_old hB hW) k (by omega)) 8 (by omega)) (by omega)
    clear hdl hB
    generalize low ((zs.drop k).take 8) = X at *
    go_enter Tryz.func64, Tryz.ntmps64
    go_wp2_with fail
    refine (HTT.out _ ((Below.refl _ _).alloc (Nat.le_refl _) _)).mono ?_
    rintro e w' ⟨rfl, rfl⟩
    clear HTT
    go_wp2_with fail
    refine (HNB.out _ _ (((Below.refl _ _).alloc (Nat.le_refl _) _).alloc (by simp) _)).mono ?_
    rintro e w' ⟨rfl, rfl⟩
    clear HNB
    go_wp2_with fail
    exact bodyPost_ret (v := .tuple #[.agg #[.int .i64 (N / 8), .int .i64 1, .int .u64 X, .slice none 0 0], .int .i64 (k + 8), .int .i64 0]) (by simp [results, Tryz.results64, go_sem]) rfl ⟨none, 0, 0, rfl, ⟨rfl, by simp, .inl rfl⟩, NoA.zero, (((Below.refl _ _).alloc (Nat.le_refl _) _).alloc (by simp) _)⟩
end Go.Proofs.YteajlfgbmefncaaGreatDoor
