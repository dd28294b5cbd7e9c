/-
  The walks over what the laws ask first: awake.
  The normal value, as a plain tree. Nothing is proved of the program here.
  A value's bytes, as plain functions, and what its normal value keeps. Nothing is proved of the program here.
  The walks over the document's zero and the program's byDefault.
-/
import Derived.Test.YtfhmombnipfimaaGreatDoorM26
import Derived.Test.YtfhmombnipfimaaGreatDoorM8
import Derived.Test.YtfhmombnipfimaaGreatDoorM2
import Derived.Test.YtfhmombnipfimaaGreatDoorM14
import Derived.Test.YtfhmombnipfimaaGreatDoorM23
namespace Go.Proofs.YtfhmombnipfimaaGreatDoor
set_option linter.unusedVariables false
open Go.ChangeShapes Go.WideShapes Go.ChangeAt Go.RowKit

theorem kindU_any (n : Int) (w : World) : Calls Tryz.prog 29 #[.int .u64 n] w fun e w' => e = .returned (.int .i64 2) ∧ w' = w := by
  go_enter Tryz.func29, Tryz.ntmps29
  go_wp2_with fail
  go_ret
  exact ⟨rfl, rfl⟩
def scA : SC := ⟨[⟨[65], []⟩], [], []⟩
def ndA : Nd := ⟨7, 0, 0, false, [], 0, []⟩
theorem formA : FormS scA := by
  refine ⟨by decide +kernel, fun i hi hr => ?_⟩
  have hno : ∀ x y, ¬ Goes scA.ms x y := by
    intro x y h
    unfold Goes at h
    obtain ⟨m, hm, f, hf, _⟩ := h
    have hx : x = 0 := by
      have := (List.getElem?_eq_some_iff.1 hm).1
      simp [scA] at this; omega
    subst hx
    have e : m = ⟨[65], []⟩ := by simpa [scA] using hm.symm
    subst e
    cases hf
  unfold Ring at hr
  cases hr with
  | single h => exact hno _ _ h
  | tail _ h => exact hno _ _ h
theorem fitA : fitP scA.ms 0 1 0 ndA = true := by decide +kernel
set_option maxHeartbeats 8000000 in
set_option maxRecDepth 20000 in
theorem awake9_any (w : World) (hT : Tabs w) : Calls Tryz.prog 9 #[] w fun e w' => e = .returned (.bool true) ∧ Below w.heap.size w w' := by
  obtain ⟨Y, hY, hC, hb, hYs⟩ := box_new w #[.string ⟨#[65]⟩, .slice none 0 0] 61
  have HY := Lib.hid hY
  have HB := Lib.hid hb
  have hH : HeldSc Y (fun b => b < Y.heap.size) (.slice (some ⟨w.heap.size, 0, none⟩) 1 1) (.slice none 0 0) (.slice none 0 0) scA := by
    refine ⟨⟨_, _, rfl, Nat.le_refl _, .inr ⟨w.heap.size, 0, rfl, by show w.heap.size < Y.heap.size; omega, fun j x hj => ?_⟩⟩, HeldN.nil _ _, RowsIn.nil _ _ _ _ _ _⟩
    have hj0 : j = 0 := by
      have := (List.getElem?_eq_some_iff.1 hj).1
      simp [scA] at this; omega
    subst hj0
    have e : x = ⟨[65], []⟩ := by simpa [scA] using hj.symm
    subst e
    exact ⟨none, 0, cell_at hC 0 rfl, cell_at hC 1 rfl, RowsIn.nil _ _ _ _ _ _⟩
  have hfs : FitS scA := fitS_of ⟨by decide, (fun m hm => by
    have e : m = ⟨[65], []⟩ := by simpa [scA] using hm
    subst e
    exact ⟨by decide, by decide, fun f hf => by cases hf⟩), (fun m hm => by cases hm), (fun m hm => by cases hm)⟩
  have h := fitsPV_any (some ⟨w.heap.size, 0, none⟩) none none 1 0 0 1 0 0 scA 0 0 Y (tabs_below hT hb) rfl rfl rfl hfs hH (.iface 64 (.agg #[.int .i64 0, .slice none 0 0, .string ⟨#[]⟩])) ndA ⟨.slice none 0 0, rfl, fun _ => ⟨rfl, _, _, rfl⟩⟩ (by show ([] : List UInt8).length ≤ 100000; decide)
  clear hY hC hb hYs hH hfs hT
  go_enter Tryz.func9, Tryz.ntmps9
  go_upto_region 1 with fail
  go_wp2_with (rw [HY.out]; refine h.mono ?_)
  rintro e W ⟨b, rfl, hbi, hb1⟩
  have eb : b = true := hbi.2 ⟨formA, by decide, by decide, fitA⟩
  subst eb
  have HB1 := Lib.hid (HB.out.trans (hb1.mono HB.out.size))
  have hk := kindU_any 5 W
  clear h hbi hb1
  go_wp2_with fail
  refine hk.mono ?_
  rintro e W2 ⟨rfl, hW⟩
  have hW := hW.symm
  subst hW
  go_wp2_with fail
  go_ret
  exact ⟨rfl, HB1.out⟩
end Go.Proofs.YtfhmombnipfimaaGreatDoor
namespace Go.Proofs.YtfhmombnipfimaaGreatDoor
set_option linter.unusedVariables false

/-- what a field without a value is read as: the program's, and the document's of a clean node -/
def defP (y : Nd) : Bool := if y.kind = 1 then decide (y.n = 0) else if y.kind = 2 then decide (y.u = 0) else if y.kind = 3 then !y.b else if y.kind = 4 ∨ y.kind = 5 then decide (y.s = []) else if y.kind = 6 then decide (IntKind.i32.wrap y.n = 0) else false
def zeroR (z : Nd) : Bool := decide (z.kind ≠ 7) && (decide (z.n = 0) && (decide (z.u = 0) && (!z.b && decide (z.s = []))))
theorem zero_eq {y : Nd} (h1 : 1 ≤ y.kind) (h2 : y.kind ≤ 7) : zeroR (cn y) = defP y := by
  obtain ⟨kind, n, u, b, s, type, fields⟩ := y
  simp only at h1 h2
  rcases (by omega : kind = 1 ∨ kind = 2 ∨ kind = 3 ∨ kind = 4 ∨ kind = 5 ∨ kind = 6 ∨ kind = 7) with rfl | rfl | rfl | rfl | rfl | rfl | rfl <;>
    simp [zeroR, cn, defP]
def fieldsOf (ms : List MD) (t : Int) : List FD := match ms[t.toNat]? with
  | none => []
  | some m => m.fields
/-- does a field stay? -/
def keepB (fs : List FD) (p : Int × List Nd) : Bool := (match firstF fs p.1 with
  | none => false
  | some f => f.rep) || !(match p.2[0]? with
  | none => true
  | some y => defP y)
def keptL (ms : List MD) (g : Nd → Nd) (t : Int) (l : List (Int × List Nd)) : List (Int × List Nd) := (l.filter (keepB (fieldsOf ms t))).map fun p => (p.1, p.2.map g)
def normN (ms : List MD) : Nat → Nd → Nd
  | 0, x => x
  | f + 1, x => if x.kind = 7 then ⟨x.kind, x.n, x.u, x.b, x.s, x.type, keptL ms (normN ms f) x.type x.fields⟩ else x
/-- what lies in a value, made normal -/
def normF (ms : List MD) : Nat → Nd → Nd
  | 0 => id
  | f + 1 => normN ms f
theorem keptL_step {ms : List MD} {g : Nd → Nd} {t : Int} {l : List (Int × List Nd)} {k : Nat} {p : Int × List Nd} (h : l[k]? = some p) : keptL ms g t (l.take (k + 1)) = keptL ms g t (l.take k) ++ (if keepB (fieldsOf ms t) p = true then [(p.1, p.2.map g)] else []) := by
  unfold keptL
  rw [show l.take (k + 1) = l.take k ++ [p] from take_snoc h, List.filter_append, List.map_append]
  congr 1
  cases hk : keepB (fieldsOf ms t) p <;> simp [hk]
/-- a value that fits, as far as its normal value needs it -/
def GoodT (ms : List MD) : Nat → Nd → Prop
  | 0, x => 0 ≤ x.type ∧ x.type < (ms.length : Int)
  | f + 1, x => (0 ≤ x.type ∧ x.type < (ms.length : Int)) ∧ ∀ p ∈ x.fields, (∃ (i : Nat) (fd : FD), isFirst (fieldsOf ms x.type) p.1 i fd) ∧ p.2 ≠ [] ∧ ∀ y ∈ p.2, (1 ≤ y.kind ∧ y.kind ≤ 7) ∧ (y.kind = 7 → GoodT ms f y)
theorem isFirst_one {fs : List FD} {n : Int} {i j : Nat} {a b : FD} (h : isFirst fs n i a) (h' : isFirst fs n j b) : i = j ∧ a = b := by
  rcases Nat.lt_trichotomy i j with hl | hl | hl
  · exact absurd h.2.1 (h'.2.2 i a hl h.1)
  · subst hl; have := h.1.symm.trans h'.1; exact ⟨rfl, Option.some.inj this⟩
  · exact absurd h'.2.1 (h.2.2 j b hl h'.1)
theorem isFirst_of : ∀ {fs : List FD} {num : Int} {f : FD}, firstF fs num = some f → ∃ i, isFirst fs num i f
  | x :: t, num, f, h => by
    rw [firstF] at h
    split at h
    · rename_i hx
      cases h
      exact ⟨0, rfl, hx, fun j g hj => absurd hj (Nat.not_lt_zero _)⟩
    · rename_i hx
      obtain ⟨i, h1, h2, h3⟩ := isFirst_of h
      refine ⟨i + 1, by simpa using h1, h2, fun j g hj hg => ?_⟩
      cases j with
      | zero => have e : x = g := by simpa using hg
                rw [← e]; exact hx
      | succ j => exact h3 j g (by omega) (by simpa using hg)
theorem val_kind {rec : Int → Nd → Bool} {f : FD} {y : Nd} (hr : ∀ t y, rec t y = true → y.kind = 7) (h : valP rec f y = true) : 1 ≤ y.kind ∧ y.kind ≤ 7 := by
  unfold valP at h
  split at h
  · have := hr _ _ h; omega
  · unfold kindB at h
    repeat' split at h
    all_goals first
      | (have := of_decide_eq_true h; omega)
      | (rw [Bool.and_eq_true] at h; have := of_decide_eq_true h.1; omega)
      | cases h
theorem good_of_fit {ms : List MD} (hk : ∀ m ∈ ms, ∀ x ∈ m.fields, x.kind = 10 → 0 ≤ x.type ∧ x.type < (ms.length : Int)) : ∀ (f : Nat) (dep t : Int) (x : Nd), 0 ≤ t → t < (ms.length : Int) → fitP ms f dep t x = true → x.kind = 7 ∧ GoodT ms f x := by
  intro f
  induction f with
  | zero =>
    intro dep t x h0 h1 h
    rw [fitP_eq, topP, Bool.and_eq_true, decide_eq_true_eq] at h
    obtain ⟨⟨hk7, ht, _⟩, _⟩ := h
    exact ⟨hk7, by rw [ht]; exact h0, by rw [ht]; exact h1⟩
  | succ f ih =>
    intro dep t x h0 h1 h
    rw [fitP_eq, topP, Bool.and_eq_true, decide_eq_true_eq] at h
    obtain ⟨⟨hk7, ht, _⟩, hb⟩ := h
    refine ⟨hk7, ⟨by rw [ht]; exact h0, by rw [ht]; exact h1⟩, fun p hp => ?_⟩
    unfold fieldsOf
    rw [ht]
    cases hm : ms[t.toNat]? with
    | none => rw [hm] at hb; cases hb
    | some m =>
      rw [hm] at hb
      simp only at hb
      unfold bodyP at hb
      rw [Bool.and_eq_true] at hb
      obtain ⟨j, hj⟩ := List.getElem?_of_mem hp
      have h2 := allA_iff.1 hb.1 j p hj
      rw [Bool.and_eq_true] at h2
      have h3 := h2.2
      unfold fldP at h3
      cases hf : firstF m.fields p.1 with
      | none => rw [hf] at h3; cases h3
      | some fd =>
        rw [hf] at h3
        simp only [Bool.and_eq_true] at h3
        obtain ⟨h4, _, h5⟩ := h3
        refine ⟨?_, ?_, fun y hy => ?_⟩
        · obtain ⟨i, hi⟩ := isFirst_of hf
          exact ⟨i, fd, hi⟩
        · intro e; rw [e] at h4; cases h4
        · obtain ⟨a, ha⟩ := List.getElem?_of_mem hy
          have h6 := allA_iff.1 h5 a y ha
          have hr : ∀ t y, recP ms dep (f + 1) t y = true → y.kind = 7 := fun t y h => by
            have h' : fitP ms f (dep + 1) t y = true := h
            rw [fitP_eq, topP, Bool.and_eq_true, decide_eq_true_eq] at h'
            exact h'.1.1
          refine ⟨val_kind hr h6, fun hy7 => ?_⟩
          unfold valP at h6
          split at h6
          · rename_i h10
            obtain ⟨q0, q1⟩ := hk m (List.mem_of_getElem? hm) fd (firstF_some hf).1 h10
            exact (ih (dep + 1) fd.type y q0 q1 h6).2
          · unfold kindB at h6
            rw [hy7] at h6
            repeat' split at h6
            all_goals simp at h6
end Go.Proofs.YtfhmombnipfimaaGreatDoor
namespace Go.Proofs.YtfhmombnipfimaaGreatDoor
set_option linter.unusedVariables false

def NumOK (ms : List MD) : Prop := ∀ m ∈ ms, ∀ x ∈ m.fields, (1 ≤ x.num ∧ x.num ≤ 536870911) ∧ (x.kind = 10 → 0 ≤ x.type ∧ x.type < (ms.length : Int))
/-- the normal value: it fits, it is its own, and it weighs no more -/
theorem norm_kind (ms : List MD) (f : Nat) (x : Nd) : (normN ms f x).kind = x.kind := by
  cases f with
  | zero => rfl
  | succ f => unfold normN; split <;> rfl
theorem norm_else (ms : List MD) (f : Nat) (x : Nd) (h : x.kind ≠ 7) : normN ms f x = x := by
  cases f with
  | zero => rfl
  | succ f => unfold normN; rw [if_neg h]
theorem norm_msg (ms : List MD) (f : Nat) (x : Nd) (h : x.kind = 7) : normN ms (f + 1) x = ⟨x.kind, x.n, x.u, x.b, x.s, x.type, keptL ms (normN ms f) x.type x.fields⟩ := by rw [normN, if_pos h]
theorem norm_def (ms : List MD) (f : Nat) (x : Nd) : defP (normN ms f x) = defP x := by
  by_cases h : x.kind = 7
  · unfold defP; rw [norm_kind]; simp [h]
  · rw [norm_else ms f x h]
theorem keep_norm (ms : List MD) (fs : List FD) (f : Nat) (p : Int × List Nd) : keepB fs (p.1, p.2.map (normN ms f)) = keepB fs p := by
  unfold keepB
  dsimp only
  rw [List.getElem?_map]
  cases p.2[0]? with
  | none => rfl
  | some y => simp only [Option.map_some, norm_def]
theorem kept_mem {ms : List MD} {g : Nd → Nd} {t : Int} {l : List (Int × List Nd)} {q : Int × List Nd} (h : q ∈ keptL ms g t l) : ∃ p ∈ l, keepB (fieldsOf ms t) p = true ∧ q = (p.1, p.2.map g) := by
  unfold keptL at h
  obtain ⟨p, hp, rfl⟩ := List.mem_map.1 h
  rw [List.mem_filter] at hp
  exact ⟨p, hp.1, hp.2, rfl⟩
theorem norm_norm (ms : List MD) : ∀ (f : Nat) (x : Nd), normN ms f (normN ms f x) = normN ms f x
  | 0, x => rfl
  | f + 1, x => by
    by_cases h : x.kind = 7
    · rw [norm_msg ms f x h]
      refine (norm_msg ms f ⟨x.kind, x.n, x.u, x.b, x.s, x.type, keptL ms (normN ms f) x.type x.fields⟩ h).trans ?_
      dsimp only
      congr 1
      unfold keptL
      rw [List.filter_map, List.map_map]
      have e1 : List.filter (keepB (fieldsOf ms x.type) ∘ fun p => (p.1, p.2.map (normN ms f))) (List.filter (keepB (fieldsOf ms x.type)) x.fields) = List.filter (keepB (fieldsOf ms x.type)) x.fields := by
        rw [List.filter_eq_self]
        intro p hp
        rw [Function.comp, keep_norm]
        exact (List.mem_filter.1 hp).2
      rw [e1]
      apply List.map_congr_left
      intro p hp
      simp only [Function.comp, List.map_map, Prod.mk.injEq, true_and]
      apply List.map_congr_left
      intro y hy
      exact norm_norm ms f y
    · rw [norm_else ms _ x h]
      exact norm_else ms _ x h
theorem norm_fitG (ms : List MD) {bs bf : Nat} : ∀ (f : Nat) (x : Nd), FitG bs bf f x → FitG bs bf f (normN ms f x)
  | 0, x, h => h
  | f + 1, x, h => by
    by_cases h7 : x.kind = 7
    · rw [norm_msg ms f x h7]
      refine ⟨h.1, ?_, fun q hq => ?_⟩
      · refine Nat.le_trans ?_ h.2.1
        unfold keptL
        rw [List.length_map]
        exact List.length_filter_le _ _
      · obtain ⟨p, hp, _, rfl⟩ := kept_mem hq
        refine ⟨by rw [List.length_map]; exact (h.2.2 p hp).1, fun y hy => ?_⟩
        obtain ⟨z, hz, rfl⟩ := List.mem_map.1 hy
        exact norm_fitG ms f z ((h.2.2 p hp).2 z hz)
    · rw [norm_else ms _ x h7]; exact h
/-- rising numbers -/
def RiseF : Int → List (Int × List Nd) → Prop
  | _, [] => True
  | a, p :: l => a < p.1 ∧ RiseF p.1 l
theorem rise_lt {a b : Int} (h : b ≤ a) : ∀ {l : List (Int × List Nd)}, RiseF a l → RiseF b l
  | [], _ => trivial
  | p :: l, h2 => ⟨by have := h2.1; omega, h2.2⟩
theorem rise_filter {p : Int × List Nd → Bool} : ∀ {a : Int} {l : List (Int × List Nd)}, RiseF a l → RiseF a (l.filter p)
  | a, [], h => trivial
  | a, q :: l, h => by
    rw [List.filter_cons]
    split
    · exact ⟨h.1, rise_filter h.2⟩
    · exact rise_filter (rise_lt (Int.le_of_lt h.1) h.2)
theorem rise_map {g : List Nd → List Nd} : ∀ {a : Int} {l : List (Int × List Nd)}, RiseF a l → RiseF a (l.map fun p => (p.1, g p.2))
  | a, [], h => trivial
  | a, q :: l, h => ⟨h.1, rise_map h.2⟩
def prevA (a : Int) (fl : List (Int × List Nd)) : Nat → Int
  | 0 => a
  | k + 1 => match fl[k]? with
    | some f => f.1
    | none => 0
theorem rise_iff : ∀ {a : Int} {l : List (Int × List Nd)}, RiseF a l ↔ ∀ (k : Nat) (y : Int × List Nd), l[k]? = some y → prevA a l k < y.1
  | a, [] => ⟨fun _ k y h => by simp at h, fun _ => trivial⟩
  | a, q :: l => by
    refine ⟨fun h k y hk => ?_, fun h => ⟨h 0 q rfl, rise_iff.2 fun k y hk => ?_⟩⟩
    · cases k with
      | zero => have e : q = y := by simpa using hk
                rw [← e]; exact h.1
      | succ k =>
        have := rise_iff.1 h.2 k y (by simpa using hk)
        cases k with
        | zero => simpa [prevA] using this
        | succ k => simpa [prevA] using this
    · have := h (k + 1) y (by simpa using hk)
      cases k with
      | zero => simpa [prevA] using this
      | succ k => simpa [prevA] using this
theorem prev_eq (fl : List (Int × List Nd)) (k : Nat) : prevF fl k = prevA 0 fl k := by cases k <;> rfl
theorem norm_fit {ms : List MD} (hk : NumOK ms) : ∀ (f : Nat) (dep t : Int) (x : Nd), 0 ≤ t → t < (ms.length : Int) → fitP ms f dep t x = true → fitP ms f dep t (normN ms f x) = true := by
  intro f
  induction f with
  | zero => intro dep t x h0 h1 h; exact h
  | succ f ih =>
    intro dep t x h0 h1 h
    have hall := h
    rw [fitP_eq, topP, Bool.and_eq_true, decide_eq_true_eq] at h
    obtain ⟨⟨hk7, ht, hdep⟩, hb⟩ := h
    rw [norm_msg ms f x hk7, fitP_eq, topP, Bool.and_eq_true, decide_eq_true_eq]
    refine ⟨⟨hk7, ht, hdep⟩, ?_⟩
    cases hm : ms[t.toNat]? with
    | none => rw [hm] at hb; cases hb
    | some m =>
      rw [hm] at hb
      simp only at hb ⊢
      unfold bodyP at hb ⊢
      rw [Bool.and_eq_true] at hb ⊢
      refine ⟨?_, hb.2⟩
      dsimp only
      have hrise : RiseF 0 x.fields := rise_iff.2 fun k y hy => by
        have h2 := allA_iff.1 hb.1 k y hy
        rw [Bool.and_eq_true] at h2
        rw [← prev_eq]
        exact of_decide_eq_true h2.1
      have hrise2 : RiseF 0 (keptL ms (normN ms f) x.type x.fields) := rise_map (g := fun l => l.map (normN ms f)) (rise_filter hrise)
      refine allA_iff.2 fun k q hq => ?_
      rw [Bool.and_eq_true]
      refine ⟨by rw [prev_eq]; exact decide_eq_true (rise_iff.1 hrise2 k q hq), ?_⟩
      obtain ⟨p, hp, hkeep, rfl⟩ := kept_mem (List.mem_of_getElem? hq)
      obtain ⟨j, hj⟩ := List.getElem?_of_mem hp
      have h2 := allA_iff.1 hb.1 j p hj
      rw [Bool.and_eq_true] at h2
      have h3 := h2.2
      unfold fldP at h3 ⊢
      dsimp only
      cases hf : firstF m.fields p.1 with
      | none => rw [hf] at h3; cases h3
      | some fd =>
        rw [hf] at h3
        simp only [Bool.and_eq_true, List.length_map] at h3 ⊢
        refine ⟨h3.1, h3.2.1, allA_iff.2 fun a z hz => ?_⟩
        rw [List.getElem?_map] at hz
        obtain ⟨y, hy, rfl⟩ := Option.map_eq_some_iff.1 hz
        have h6 := allA_iff.1 h3.2.2 a y hy
        obtain ⟨hnum, hty⟩ := hk m (List.mem_of_getElem? hm) fd (firstF_some hf).1
        unfold valP at h6 ⊢
        split
        · rename_i h10
          rw [if_pos h10] at h6
          exact ih (dep + 1) fd.type y (hty h10).1 (hty h10).2 h6
        · rename_i h10
          rw [if_neg h10] at h6
          by_cases h7 : y.kind = 7
          · unfold kindB at h6
            rw [h7] at h6
            repeat' split at h6
            all_goals simp at h6
          · rw [norm_else ms f y h7]; exact h6
end Go.Proofs.YtfhmombnipfimaaGreatDoor
namespace Go.Proofs.YtfhmombnipfimaaGreatDoor
set_option linter.unusedVariables false
open Go.ChangeShapes Go.WideShapes Go.ChangeAt Go.RowKit

theorem notEmpty {s : List UInt8} (h : ¬ s = []) : (mkB s).toList.isEmpty = false := by
  rw [mkB_list]
  cases s with
  | nil => exact absurd rfl h
  | cons a t => rfl
theorem isEmptyN : (mkB []).toList.isEmpty = true := by rw [mkB_list]; rfl
set_option maxHeartbeats 8000000 in
set_option maxRecDepth 20000 in
theorem zeroR_any (zk zn zu : Int) (zb : Bool) (zs : List UInt8) (zt : Int) (zf : List (Int × List Nd)) (la : Option Addr) (ln lc : Nat) (w : World) : Calls Tryz.prog 37 #[.agg #[.int .i64 zk, .int .i64 zn, .int .u64 zu, .bool zb, .string (mkB zs), .int .i64 zt, .slice la ln lc]] w fun e w' => e = .returned (.bool (zeroR ⟨zk, zn, zu, zb, zs, zt, zf⟩)) ∧ Below w.heap.size w w' := by
  obtain ⟨R, hR⟩ : ∃ R, zeroR ⟨zk, zn, zu, zb, zs, zt, zf⟩ = R := ⟨_, rfl⟩
  have HR : Hid ((decide (zk ≠ 7) && (decide (zn = 0) && (decide (zu = 0) && (!zb && decide (zs = []))))) = R) := hR
  rw [hR]
  clear hR
  obtain ⟨Y, hY, hC, hb, hYs⟩ := box_new w #[.int .i64 zk, .int .i64 zn, .int .u64 zu, .bool zb, .string (mkB zs), .int .i64 zt, .slice la ln lc] 30
  have HY := Lib.hid hY
  have HB := Lib.hid hb
  have c0 : Y.cell? ⟨w.heap.size, 0, none⟩ = some (.int .i64 zk) := cell_at hC 0 rfl
  have c1 : Y.cell? ⟨w.heap.size, 1, none⟩ = some (.int .i64 zn) := cell_at hC 1 rfl
  have c2 : Y.cell? ⟨w.heap.size, 2, none⟩ = some (.int .u64 zu) := cell_at hC 2 rfl
  have c3 : Y.cell? ⟨w.heap.size, 3, none⟩ = some (.bool zb) := cell_at hC 3 rfl
  have c4 : Y.cell? ⟨w.heap.size, 4, none⟩ = some (.string (mkB zs)) := cell_at hC 4 rfl
  clear hY hC hb hYs
  by_cases h0 : zk = 7
  · subst h0
    have e : R = false := by rw [← HR.out]; simp
    subst e
    go_enter Tryz.func37, Tryz.ntmps37
    go_upto_region 1 with fail
    rw [HY.out]
    go_wp2_with fail
    go_ret
    exact ⟨rfl, HB.out⟩
  have h0' : (zk != 7) = true := by simp [h0]
  by_cases h1 : zn = 0
  case neg =>
    have e : R = false := by rw [← HR.out]; simp [h1]
    subst e
    have h1' : (zn == 0) = false := by simp [h1]
    clear h0
    go_enter Tryz.func37, Tryz.ntmps37
    go_upto_region 1 with fail
    rw [HY.out]
    go_wp2_with fail
    go_ret
    exact ⟨rfl, HB.out⟩
  subst h1
  by_cases h2 : zu = 0
  case neg =>
    have e : R = false := by rw [← HR.out]; simp [h2]
    subst e
    have h2' : (zu == 0) = false := by simp [h2]
    clear h0
    go_enter Tryz.func37, Tryz.ntmps37
    go_upto_region 1 with fail
    rw [HY.out]
    go_wp2_with fail
    go_ret
    exact ⟨rfl, HB.out⟩
  subst h2
  cases zb
  case true =>
    have e : R = false := by rw [← HR.out]; simp
    subst e
    clear h0
    go_enter Tryz.func37, Tryz.ntmps37
    go_upto_region 1 with fail
    rw [HY.out]
    go_wp2_with fail
    go_ret
    exact ⟨rfl, HB.out⟩
  by_cases h4 : zs = []
  · subst h4
    have e : R = true := by rw [← HR.out]; simp [h0]
    subst e
    have h4' := isEmptyN
    clear h0
    go_enter Tryz.func37, Tryz.ntmps37
    go_upto_region 1 with fail
    rw [HY.out]
    go_wp2_with fail
    go_ret
    exact ⟨rfl, HB.out⟩
  have e : R = false := by rw [← HR.out]; simp [h4]
  subst e
  have h4' := notEmpty h4
  clear h0
  go_enter Tryz.func37, Tryz.ntmps37
  go_upto_region 1 with fail
  rw [HY.out]
  go_wp2_with fail
  go_ret
  exact ⟨rfl, HB.out⟩
set_option maxHeartbeats 8000000 in
set_option maxRecDepth 20000 in
theorem byDef_any (y : Nd) (fs : Value) (w : World) : Calls Tryz.prog 48 #[ival y fs] w fun e w' => e = .returned (.bool (defP y)) ∧ w' = w := by
  have t1 := fun W => taInt y fs W
  have t2 := fun W => taUint y fs W
  have t3 := fun W => taBool y fs W
  have t4 := fun W => taText y fs W
  have t5 := fun W => taBytes y fs W
  have t6 := fun W => taEnum y fs W
  obtain ⟨v, hv⟩ : ∃ v, ival y fs = v := ⟨_, rfl⟩
  rw [hv] at t1 t2 t3 t4 t5 t6 ⊢
  clear hv
  obtain ⟨kind, n, u, b, s, type, fields⟩ := y
  dsimp only at t1 t2 t3 t4 t5 t6
  obtain ⟨R, hR⟩ : ∃ R, defP ⟨kind, n, u, b, s, type, fields⟩ = R := ⟨_, rfl⟩
  have HR : Hid ((if kind = 1 then decide (n = 0) else if kind = 2 then decide (u = 0) else if kind = 3 then !b else if kind = 4 ∨ kind = 5 then decide (s = []) else if kind = 6 then decide (IntKind.i32.wrap n = 0) else false) = R) := hR
  rw [hR]
  clear hR
  by_cases h1 : kind = 1
  · subst h1
    rw [if_pos rfl, decide_eq_true rfl] at t1
    clear t2 t3 t4 t5 t6
    by_cases hz : n = 0
    · subst hz
      have e : R = true := by rw [← HR.out]; simp
      subst e
      go_enter Tryz.func48, Tryz.ntmps48
      go_wp2_with fail
      go_ret
      exact ⟨rfl, rfl⟩
    · have e : R = false := by rw [← HR.out]; simp [hz]
      subst e
      have hz' : (n == 0) = false := by simp [hz]
      go_enter Tryz.func48, Tryz.ntmps48
      go_wp2_with fail
      go_ret
      exact ⟨rfl, rfl⟩
  by_cases h2 : kind = 2
  · subst h2
    rw [if_neg (by decide), decide_eq_false (by decide)] at t1
    rw [if_pos rfl, decide_eq_true rfl] at t2
    clear t3 t4 t5 t6
    by_cases hz : u = 0
    · subst hz
      have e : R = true := by rw [← HR.out]; simp
      subst e
      go_enter Tryz.func48, Tryz.ntmps48
      go_wp2_with fail
      go_ret
      exact ⟨rfl, rfl⟩
    · have e : R = false := by rw [← HR.out]; simp [hz]
      subst e
      have hz' : (u == 0) = false := by simp [hz]
      go_enter Tryz.func48, Tryz.ntmps48
      go_wp2_with fail
      go_ret
      exact ⟨rfl, rfl⟩
  by_cases h3 : kind = 3
  · subst h3
    rw [if_neg (by decide), decide_eq_false (by decide)] at t1
    rw [if_neg (by decide), decide_eq_false (by decide)] at t2
    rw [if_pos rfl, decide_eq_true rfl] at t3
    clear t4 t5 t6
    have e : R = !b := by rw [← HR.out]; simp
    subst e
    go_enter Tryz.func48, Tryz.ntmps48
    go_wp2_with fail
    go_ret
    exact ⟨rfl, rfl⟩
  by_cases h4 : kind = 4
  · subst h4
    rw [if_neg (by decide), decide_eq_false (by decide)] at t1
    rw [if_neg (by decide), decide_eq_false (by decide)] at t2
    rw [if_neg (by decide), decide_eq_false (by decide)] at t3
    rw [if_pos rfl, decide_eq_true rfl] at t4
    clear t5 t6
    by_cases hz : s = []
    · subst hz
      have e : R = true := by rw [← HR.out]; simp
      subst e
      have hz' := isEmptyN
      go_enter Tryz.func48, Tryz.ntmps48
      go_wp2_with fail
      go_ret
      exact ⟨rfl, rfl⟩
    · have e : R = false := by rw [← HR.out]; simp [hz]
      subst e
      have hz' := notEmpty hz
      go_enter Tryz.func48, Tryz.ntmps48
      go_wp2_with fail
      go_ret
      exact ⟨rfl, rfl⟩
  by_cases h5 : kind = 5
  · subst h5
    rw [if_neg (by decide), decide_eq_false (by decide)] at t1
    rw [if_neg (by decide), decide_eq_false (by decide)] at t2
    rw [if_neg (by decide), decide_eq_false (by decide)] at t3
    rw [if_neg (by decide), decide_eq_false (by decide)] at t4
    rw [if_pos rfl, decide_eq_true rfl] at t5
    clear t6
    by_cases hz : s = []
    · subst hz
      have e : R = true := by rw [← HR.out]; simp
      subst e
      have hz' := isEmptyN
      go_enter Tryz.func48, Tryz.ntmps48
      go_wp2_with fail
      go_ret
      exact ⟨rfl, rfl⟩
    · have e : R = false := by rw [← HR.out]; simp [hz]
      subst e
      have hz' := notEmpty hz
      go_enter Tryz.func48, Tryz.ntmps48
      go_wp2_with fail
      go_ret
      exact ⟨rfl, rfl⟩
  by_cases h6 : kind = 6
  · subst h6
    rw [if_neg (by decide), decide_eq_false (by decide)] at t1
    rw [if_neg (by decide), decide_eq_false (by decide)] at t2
    rw [if_neg (by decide), decide_eq_false (by decide)] at t3
    rw [if_neg (by decide), decide_eq_false (by decide)] at t4
    rw [if_neg (by decide), decide_eq_false (by decide)] at t5
    rw [if_pos rfl, decide_eq_true rfl] at t6
    obtain ⟨E, hE⟩ : ∃ E, IntKind.i32.wrap n = E := ⟨_, rfl⟩
    rw [hE] at t6 HR
    clear hE
    by_cases hz : E = 0
    · subst hz
      have e : R = true := by rw [← HR.out]; simp
      subst e
      go_enter Tryz.func48, Tryz.ntmps48
      go_wp2_with fail
      go_ret
      exact ⟨rfl, rfl⟩
    · have e : R = false := by rw [← HR.out]; simp [hz]
      subst e
      have hz' : (E == 0) = false := by simp [hz]
      go_enter Tryz.func48, Tryz.ntmps48
      go_wp2_with fail
      go_ret
      exact ⟨rfl, rfl⟩
  have e : R = false := by rw [← HR.out]; simp [h1, h2, h3, h4, h5, h6]
  subst e
  rw [if_neg h1, show decide (kind = 1) = false from decide_eq_false h1] at t1
  rw [if_neg h2, show decide (kind = 2) = false from decide_eq_false h2] at t2
  rw [if_neg h3, show decide (kind = 3) = false from decide_eq_false h3] at t3
  rw [if_neg h4, show decide (kind = 4) = false from decide_eq_false h4] at t4
  rw [if_neg h5, show decide (kind = 5) = false from decide_eq_false h5] at t5
  rw [if_neg h6, show decide (kind = 6) = false from decide_eq_false h6] at t6
  go_enter Tryz.func48, Tryz.ntmps48
  go_wp2_with fail
  go_ret
  exact ⟨rfl, rfl⟩
end Go.Proofs.YtfhmombnipfimaaGreatDoor
