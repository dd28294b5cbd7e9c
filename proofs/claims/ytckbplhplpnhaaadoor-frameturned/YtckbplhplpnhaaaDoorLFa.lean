/-
  The walks over the laws' awake and Few; and what Build and Parse answer, in one form.
-/
import Derived.Test.YtckbplhplpnhaaaDoorFrJ
import Derived.Test.YtckbplhplpnhaaaDoorFrSP
import Derived.Test.YtckbplhplpnhaaaDoorFrSD
namespace Go.Proofs.YtckbplhplpnhaaaDoor
set_option linter.unusedVariables false
open Go.ChangeShapes Go.WideShapes Go.ChangeAt Go.RowKit

/-- the frame that lies where there is none -/
def zeroF : Fr := ⟨0, 0, 0, 0, 0, 0, 0, 0, []⟩
/-- what bytes are, and with which error -/
def PB (b : List Int) (f : Fr) (E : Int) : Prop := (IsF f b ∧ E = 0) ∨ ((∀ g, ¬ IsF g b) ∧ f = zeroF ∧ E = 2)
theorem PB.one {b : List Int} {f g : Fr} {E E2 : Int} (h : PB b f E) (k : PB b g E2) : f = g ∧ E = E2 := by
  rcases h with ⟨h1, rfl⟩ | ⟨h1, rfl, rfl⟩
  · rcases k with ⟨k1, rfl⟩ | ⟨k1, _, _⟩
    · exact ⟨is_one h1 k1, rfl⟩
    · exact absurd h1 (k1 f)
  · rcases k with ⟨k1, rfl⟩ | ⟨k1, rfl, rfl⟩
    · exact absurd k1 (h1 g)
    · exact ⟨rfl, rfl⟩
theorem parse_form {b : List Int} {e : Ending} {w' : World} (h : ParseAns b e w') : ∃ (f : Fr) (a : Option Addr) (c : Nat) (E : Int), e = .returned (.tuple #[.agg #[.int .i64 f.kind, .int .i64 f.client, .int .u64 f.token, .int .i64 f.attempt, .int .u64 f.floor, .int .i64 f.method, .int .i64 f.deadline, .int .i64 f.status, .slice a f.pay.length c], .int .i64 E]) ∧ SlB w' a f.pay.length c f.pay ∧ PB b f E := by
  rcases h with ⟨f, a, c, h1, h2, h3⟩ | ⟨h1, h2⟩
  · exact ⟨f, a, c, 0, h2, h3, .inl ⟨h1, rfl⟩⟩
  · exact ⟨zeroF, none, 0, 2, h2, ⟨⟨rfl, by simp [zeroF], .inl rfl⟩, Nat.le_refl _, fun _ => ⟨rfl, rfl⟩⟩, .inr ⟨h1, rfl, rfl⟩⟩
/-- the bytes that Build answers, and its error -/
def bldX (f : Fr) : List Int := if okF f then bytesF f else []
def bldE (f : Fr) : Int := if okF f then 0 else 1
theorem bld_len {f : Fr} (ht : f.token ≤ 18446744073709551615) : (bldX f).length ≤ 5004 := by
  unfold bldX
  cases h : okF f with
  | false => simp
  | true =>
    have := body_len h ht
    simp only [if_true]
    rw [bytes_len]; omega
theorem bld_bytes {f : Fr} (h : RngF f) : ∀ z ∈ bldX f, 0 ≤ z ∧ z ≤ 255 := by
  have hp := h.2.2.2.2.2.2.2.2
  unfold bldX
  cases okF f with
  | false => intro z hz; simp at hz
  | true => exact bytes_bytes hp
theorem build_form {f : Fr} {base : Nat} {e : Ending} {w' : World} (hr : RngF f) (h : BuildAns f base e w') : ∃ v, e = .returned (.tuple #[v, .int .i64 (bldE f)]) ∧ OwnB w' base v (bldX f) := by
  rcases h with ⟨h1, rfl⟩ | ⟨h1, v, rfl, h2⟩
  · unfold bldX bldE
    rw [h1]
    exact ⟨_, rfl, own_nil _ _⟩
  · unfold bldX bldE
    rw [h1]
    exact ⟨v, rfl, h2⟩
theorem bld_slB {f : Fr} {w : World} {base : Nat} {v : Value} (hr : RngF f) (h : OwnB w base v (bldX f)) : ∃ a c, v = .slice a (bldX f).length c ∧ SlB w a (bldX f).length c (bldX f) :=
  own_slB h (bld_bytes hr) (by have := bld_len hr.2.2.1.2; omega)
/-- the frame that the laws' awake builds -/
def awF : Fr := ⟨3, 1, 1, 0, 1, 1, 0, 0, []⟩
theorem aw_ok : okF awF = true := by decide +kernel
theorem aw_len : (bytesF awF).length = 14 := by decide +kernel
theorem aw_rng : RngF awF := by
  unfold RngF awF
  refine ⟨by simp, by simp, by simp, by simp, by simp, by simp, by simp, by simp, by simp⟩
set_option maxHeartbeats 2000000 in
set_option maxRecDepth 20000 in
theorem awake15_any (w : World) (hT : Shf w) : Calls Tryd.prog 8 #[] w fun e w' => e = .returned (.bool true) ∧ Below w.heap.size w w' := by
  have HBU := Lib.hid (build_any 3 1 1 0 1 1 0 0 [] none 0 w hT aw_rng ⟨rfl, by simp, .inl rfl⟩ (fun _ => ⟨rfl, rfl⟩))
  clear hT
  go_enter Tryd.func8, Tryd.ntmps8
  go_wp2_with fail
  refine HBU.out.mono ?_
  rintro e w1 ⟨hans, hb⟩
  have HB := Lib.hid hb
  clear hb HBU
  rcases hans with ⟨hno, _⟩ | ⟨_, v, rfl, how⟩
  · exact absurd aw_ok (by rw [show awF = ⟨3, 1, 1, 0, 1, 1, 0, 0, []⟩ from rfl, hno]; simp)
  · have how2 : OwnB w1 w.heap.size v (bytesF awF) := how
    obtain ⟨a, c, rfl, hs⟩ := own_slB how2 (bytes_bytes (by intro z hz; cases hz)) (by rw [aw_len]; decide)
    have hat := isB_at hs.1 (k := 0) (by rw [aw_len]; decide)
    obtain ⟨b, off, z, rfl, hc, _, _, _, hz⟩ := hat
    have hz2 : z = 199 := by
      have : (bytesF awF)[0]? = some 199 := rfl
      rw [hz] at this
      exact Option.some.inj this
    subst hz2
    rw [aw_len]
    rw [Nat.add_zero] at hc
    clear how how2 hs hz
    go_wp2
    go_ret
    exact ⟨rfl, HB.out⟩
set_option maxHeartbeats 1000000 in
theorem few15_any (k cl tk at1 fl me dl st : Int) (n : Nat) (a : Option Addr) (c : Nat) (w : World) : Calls Tryd.prog 9 #[.agg #[.int .i64 k, .int .i64 cl, .int .u64 tk, .int .i64 at1, .int .u64 fl, .int .i64 me, .int .i64 dl, .int .i64 st, .slice a n c]] w fun e w' => e = .returned (.bool (decide (n ≤ 6000))) ∧ Below w.heap.size w w' := by
  by_cases h : n ≤ 6000
  · rw [decide_eq_true h]
    have hI : (n : Int) ≤ 6000 := by omega
    clear h
    go_enter Tryd.func9, Tryd.ntmps9
    go_wp2
    go_ret
    exact ⟨okB_ret (by simp), ((Below.refl _ _).alloc (Nat.le_refl _) _)⟩
  · rw [decide_eq_false h]
    have hI : decide ((n : Int) ≤ 6000) = false := decide_eq_false (by omega)
    clear h
    go_enter Tryd.func9, Tryd.ntmps9
    go_wp2
    go_ret
    exact ⟨okB_ret (by simp), ((Below.refl _ _).alloc (Nat.le_refl _) _)⟩
end Go.Proofs.YtckbplhplpnhaaaDoor
