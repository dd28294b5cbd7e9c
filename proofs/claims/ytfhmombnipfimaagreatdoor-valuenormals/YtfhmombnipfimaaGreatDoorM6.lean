/-
  Of a schema that is formed the program's 'fits' and the document's are one. Nothing is proved of the program here.
  The walks over the program's own Same of declarations.
  What the library functions that this program calls answer, as theorems over this translation: each is one application of a theorem of the given library. Nothing is proved of the program itself here.
  The walk over the library's strings.SplitN at a dot.
  The walks over the document's own Scalar and Reserved.
-/
import Derived.Test.YtfhmombnipfimaaGreatDoorM5
import Derived.Test.YtfhmombnipfimaaGreatDoorM0
import Derived.Test.YtfhmombnipfimaaGreatDoorProg
import Derived.Deep.Cut
import Derived.Deep.DeepCutAuto
import Derived.Lib.SlicesS
import Derived.Shelf.Strings.Search3
import Derived.Shelf.Strings.Split
import Derived.Shelf.LaysM
import Derived.Ground.NamesProg
import Derived.Test.YtfhmombnipfimaaGreatDoorM1
import Derived.Lib.IndexBytes
namespace Go.Proofs.YtfhmombnipfimaaGreatDoor
set_option linter.unusedVariables false

def kindOf (k : Int) : Int := if k = 1 ∨ k = 3 then 1 else if k = 2 ∨ k = 7 ∨ k = 8 then 2 else if k = 4 then 3 else if k = 5 then 4 else if k = 6 then 5 else if k = 9 then 6 else 7
/-- a node as a value has it: nothing that does not belong to its kind -/
def cn (y : Nd) : Nd := ⟨if 1 ≤ y.kind ∧ y.kind ≤ 7 then y.kind else 0, if y.kind = 1 then y.n else if y.kind = 6 then IntKind.i32.wrap y.n else 0, if y.kind = 2 then y.u else 0, if y.kind = 3 then y.b else false,
  if y.kind = 4 ∨ y.kind = 5 ∨ y.kind = 7 then y.s else [], if y.kind = 7 then y.type else 0, if y.kind = 7 then y.fields else []⟩
def valR (rec : Int → Nd → Bool) (f : FD) (y : Nd) : Bool := decide ((cn y).kind = kindOf f.kind) && (!(decide (f.kind = 7) && decide (4294967296 ≤ (cn y).u)) && (!(decide (f.kind = 5) && !valB (cn y).s) && (!decide (f.kind = 10) || rec f.type y)))
theorem cn_kind {y : Nd} {k : Int} (h1 : 1 ≤ k) (h2 : k ≤ 7) : ((cn y).kind = k) = (y.kind = k) := by
  unfold cn
  dsimp only
  split
  · rfl
  · apply propext
    constructor <;> intro h <;> omega
theorem cn_u {y : Nd} (h : y.kind = 2) : (cn y).u = y.u := by unfold cn; simp [h]
theorem cn_s {y : Nd} (h : y.kind = 4 ∨ y.kind = 5 ∨ y.kind = 7) : (cn y).s = y.s := by unfold cn; simp [h]
theorem cn_type {y : Nd} (h : y.kind = 7) : (cn y).type = y.type := by unfold cn; simp [h]
theorem cn_fields {y : Nd} (h : y.kind = 7) : (cn y).fields = y.fields := by unfold cn; simp [h]
def fldR (rec : Int → Nd → Bool) (fs : List FD) (x : Int × List Nd) : Bool := match firstF fs x.1 with
  | none => false
  | some f => !decide (x.2.length = 0) && ((f.rep || decide (x.2.length ≤ 1)) && allA x.2 fun _ y => valR rec f y)
def risesR (fl : List (Int × List Nd)) (k : Nat) (y : Int × List Nd) : Bool := decide (k = 0) || decide (prevF fl k < y.1)
def bodyR (rec : Int → Nd → Bool) (fs : List FD) (x : Nd) : Bool := noneOf (knownR fs) x.s && allA x.fields (fun k y => risesR x.fields k y && fldR rec fs y)
def topR (ms : List MD) (rec : Int → Nd → Bool) (dep t : Int) (x : Nd) : Bool := decide ((cn x).kind = 7 ∧ (cn x).type = t ∧ dep ≤ 16) && (match ms[t.toNat]? with
    | none => false
    | some m => bodyR rec m.fields (cn x))
def fitR (ms : List MD) : Nat → Int → Int → Nd → Bool
  | 0, dep, t, x => topR ms (fun _ _ => false) dep t x
  | f + 1, dep, t, x => topR ms (fun t y => fitR ms f (dep + 1) t y) dep t x
def recR (ms : List MD) (dep : Int) : Nat → Int → Nd → Bool
  | 0 => fun _ _ => false
  | f + 1 => fun t y => fitR ms f (dep + 1) t y
theorem fitR_eq (ms : List MD) (f : Nat) (dep t : Int) (x : Nd) : fitR ms f dep t x = topR ms (recR ms dep f) dep t x := by cases f <;> rfl
theorem good_of {ne nm : Nat} {fs : List FD} (h : formF ne nm fs = true) {k : Nat} {f : FD} (hf : fs[k]? = some f) : prevN fs k < f.num ∧ 1 ≤ f.kind ∧ f.kind ≤ 10 := by
  have h1 := allA_iff.1 h k f hf
  unfold goodF at h1
  simp only [Bool.and_eq_true, decide_eq_true_eq] at h1
  refine ⟨h1.1, ?_⟩
  have h2 := h1.2.2.2.2
  unfold typB at h2
  split at h2
  · omega
  · split at h2
    · omega
    · have := of_decide_eq_true h2; omega
theorem rise_of {ne nm : Nat} {fs : List FD} (h : formF ne nm fs = true) : ∀ (j i : Nat) (f g : FD), i < j → fs[i]? = some f → fs[j]? = some g → f.num < g.num := by
  intro j
  induction j with
  | zero => intro i f g hi; omega
  | succ j ih =>
    intro i f g hi hf hg
    have h1 := (good_of h hg).1
    obtain ⟨y, hy⟩ : ∃ y, fs[j]? = some y := ⟨_, List.getElem?_eq_getElem (by have := (List.getElem?_eq_some_iff.1 hg).1; omega)⟩
    rw [prevN_step hy] at h1
    by_cases hij : i = j
    · subst hij; rw [hf] at hy; cases hy; exact h1
    · exact Int.lt_trans (ih i f y (by omega) hf hy) h1
theorem pos_of {ne nm : Nat} {fs : List FD} (h : formF ne nm fs = true) : ∀ (j : Nat) (f : FD), fs[j]? = some f → 0 < f.num := by
  intro j
  induction j with
  | zero => intro f hf; exact (good_of h hf).1
  | succ j ih =>
    intro f hf
    obtain ⟨y, hy⟩ : ∃ y, fs[j]? = some y := ⟨_, List.getElem?_eq_getElem (by have := (List.getElem?_eq_some_iff.1 hf).1; omega)⟩
    exact Int.lt_trans (ih y hy) (rise_of h (j + 1) j y f (by omega) hy hf)
theorem one_of {ne nm : Nat} {fs : List FD} (h : formF ne nm fs = true) {f g : FD} (hf : f ∈ fs) (hg : g ∈ fs) (e : f.num = g.num) : f = g := by
  obtain ⟨i, hi⟩ := List.getElem?_of_mem hf
  obtain ⟨j, hj⟩ := List.getElem?_of_mem hg
  rcases Nat.lt_trichotomy i j with h1 | h1 | h1
  · have := rise_of h j i f g h1 hi hj; omega
  · subst h1; rw [hi] at hj; cases hj; rfl
  · have := rise_of h i j g f h1 hj hi; omega
theorem knownP_iff {fs : List FD} {num ty : Int} : knownP fs num ty = true ↔ ∃ f ∈ fs, f.num = num ∧ typeFits f ty = true := by
  unfold knownP
  rw [Bool.not_eq_true', ← Bool.not_eq_true, allB_iff]
  constructor
  · intro h
    apply Classical.byContradiction
    intro hn
    refine h fun j hj => ?_
    obtain ⟨y, hy⟩ : ∃ y, fs[j]? = some y := ⟨_, List.getElem?_eq_getElem hj⟩
    rw [atB_some hy, Bool.not_eq_true', ← Bool.not_eq_true]
    unfold knownB
    intro hk
    simp only [Bool.and_eq_true, decide_eq_true_eq] at hk
    exact hn ⟨y, List.mem_of_getElem? hy, hk⟩
  · rintro ⟨f, hf, h1, h2⟩ h
    obtain ⟨j, hj⟩ := List.getElem?_of_mem hf
    have := h j (List.getElem?_eq_some_iff.1 hj).1
    rw [atB_some hj, Bool.not_eq_true'] at this
    unfold knownB at this
    rw [h2, decide_eq_true h1] at this
    cases this
theorem fits_kind {f : FD} (h1 : 1 ≤ f.kind) (h2 : f.kind ≤ 10) (ty : Int) : typeFits f ty = (decide (ty = wireT f.kind) || (f.rep && (decide (wireT f.kind ≠ 2) && decide (ty = 2)))) := by
  obtain ⟨num, name, kind, rep, type⟩ := f
  simp only at h1 h2
  unfold typeFits
  dsimp only
  rcases (by omega : kind = 1 ∨ kind = 2 ∨ kind = 3 ∨ kind = 4 ∨ kind = 5 ∨ kind = 6 ∨ kind = 7 ∨ kind = 8 ∨ kind = 9 ∨ kind = 10) with rfl | rfl | rfl | rfl | rfl | rfl | rfl | rfl | rfl | rfl <;>
    simp only [ownT, wireT] <;> cases rep <;> simp
theorem known_eq {ne nm : Nat} {fs : List FD} (h : formF ne nm fs = true) (num ty : Int) : knownP fs num ty = knownR fs num ty := by
  unfold knownR
  cases hq : firstF fs num with
  | none =>
    simp only
    rw [← Bool.not_eq_true, knownP_iff]
    rintro ⟨f, hf, h1, _⟩
    exact firstF_none hq f hf h1
  | some f =>
    simp only
    obtain ⟨hf, hn⟩ := firstF_some hq
    obtain ⟨i, hi⟩ := List.getElem?_of_mem hf
    obtain ⟨_, k1, k2⟩ := good_of h hi
    rw [← fits_kind k1 k2]
    rw [Bool.eq_iff_iff, knownP_iff]
    constructor
    · rintro ⟨g, hg, h1, h2⟩
      rw [one_of h hf hg (hn.trans h1.symm)]; exact h2
    · intro h2; exact ⟨f, hf, hn, h2⟩
theorem allA_congr {α : Type} {l : List α} {g g' : Nat → α → Bool} (h : ∀ (k : Nat) (x : α), l[k]? = some x → g k x = g' k x) : allA l g = allA l g' := by
  rw [Bool.eq_iff_iff, allA_iff, allA_iff]
  constructor
  · intro h1 k x hx; rw [← h k x hx]; exact h1 k x hx
  · intro h1 k x hx; rw [h k x hx]; exact h1 k x hx
theorem none_eq {ne nm : Nat} {fs : List FD} (h : formF ne nm fs = true) (s : List UInt8) : noneOf (knownP fs) s = noneOf (knownR fs) s := by
  unfold noneOf
  cases split (ints s) with
  | none => rfl
  | some D => exact allA_congr fun k x _ => by rw [known_eq h]
theorem val_eq {rec : Int → Nd → Bool} {f : FD} (h1 : 1 ≤ f.kind) (h2 : f.kind ≤ 10) (hr : ∀ t y, rec t y = true → y.kind = 7) (y : Nd) : valP rec f y = valR rec f y := by
  obtain ⟨num, name, kind, rep, type⟩ := f
  simp only at h1 h2
  unfold valP valR
  dsimp only
  rcases (by omega : kind = 1 ∨ kind = 2 ∨ kind = 3 ∨ kind = 4 ∨ kind = 5 ∨ kind = 6 ∨ kind = 7 ∨ kind = 8 ∨ kind = 9 ∨ kind = 10) with rfl | rfl | rfl | rfl | rfl | rfl | rfl | rfl | rfl | rfl
  · simp [kindB, kindOf, cn_kind (y := y) (k := 1) (by decide) (by decide)]
  · simp [kindB, kindOf, cn_kind (y := y) (k := 2) (by decide) (by decide)]
  · simp [kindB, kindOf, cn_kind (y := y) (k := 1) (by decide) (by decide)]
  · simp [kindB, kindOf, cn_kind (y := y) (k := 3) (by decide) (by decide)]
  · by_cases hk : y.kind = 4
    · simp [kindB, kindOf, cn_kind (y := y) (k := 4) (by decide) (by decide), hk, cn_s (y := y) (.inl hk)]
    · simp [kindB, kindOf, cn_kind (y := y) (k := 4) (by decide) (by decide), hk]
  · simp [kindB, kindOf, cn_kind (y := y) (k := 5) (by decide) (by decide)]
  · by_cases hk : y.kind = 2
    · by_cases hu : y.u < 4294967296
      · simp [kindB, kindOf, cn_kind (y := y) (k := 2) (by decide) (by decide), hk, hu, cn_u hk]
      · simp [kindB, kindOf, cn_kind (y := y) (k := 2) (by decide) (by decide), hk, hu, cn_u hk]; omega
    · simp [kindB, kindOf, cn_kind (y := y) (k := 2) (by decide) (by decide), hk]
  · simp [kindB, kindOf, cn_kind (y := y) (k := 2) (by decide) (by decide)]
  · simp [kindB, kindOf, cn_kind (y := y) (k := 6) (by decide) (by decide)]
  · cases hq : rec type y with
    | false => simp
    | true => simp [kindOf, cn_kind (y := y) (k := 7) (by decide) (by decide), hr _ _ hq]
theorem fld_eq {ne nm : Nat} {fs : List FD} (h : formF ne nm fs = true) {rec : Int → Nd → Bool} (hr : ∀ t y, rec t y = true → y.kind = 7) (x : Int × List Nd) : fldP rec fs x = fldR rec fs x := by
  unfold fldP fldR
  cases hq : firstF fs x.1 with
  | none => rfl
  | some f =>
    simp only
    obtain ⟨hf, hn⟩ := firstF_some hq
    obtain ⟨i, hi⟩ := List.getElem?_of_mem hf
    obtain ⟨_, k1, k2⟩ := good_of h hi
    rw [allA_congr fun k y _ => val_eq k1 k2 hr y]
    cases f.rep <;> simp
theorem body_eq {ne nm : Nat} {fs : List FD} (h : formF ne nm fs = true) {rec : Int → Nd → Bool} (hr : ∀ t y, rec t y = true → y.kind = 7) (x : Nd) : bodyP rec fs x = bodyR rec fs x := by
  unfold bodyP bodyR
  rw [none_eq h, Bool.and_comm]
  congr 1
  apply allA_congr
  intro k y hy
  rw [fld_eq h hr]
  cases hq : fldR rec fs y with
  | false => simp
  | true =>
    have hpos : 0 < y.1 := by
      unfold fldR at hq
      cases hf : firstF fs y.1 with
      | none => rw [hf] at hq; cases hq
      | some f =>
        obtain ⟨hm, hn⟩ := firstF_some hf
        obtain ⟨i, hi⟩ := List.getElem?_of_mem hm
        have := pos_of h i f hi
        omega
    unfold risesR
    by_cases hk : k = 0
    · subst hk; simp [prevF, hpos]
    · simp [hk]
theorem top_eq {ne : Nat} {ms : List MD} (h : formM ne ms.length ms = true) {rec : Int → Nd → Bool} (hr : ∀ t y, rec t y = true → y.kind = 7) (dep t : Int) (x : Nd) : topP ms rec dep t x = topR ms rec dep t x := by
  unfold topP topR
  by_cases hk : x.kind = 7
  · have hk2 : (cn x).kind = 7 := by rw [cn_kind (by decide) (by decide)]; exact hk
    rw [cn_type hk]
    congr 1
    · simp only [hk, hk2]
    · cases hq : ms[t.toNat]? with
      | none => rfl
      | some m =>
        simp only
        have hm : formF ne ms.length m.fields = true := by
          have := allA_iff.1 h _ m hq
          unfold goodM at this
          rw [Bool.and_eq_true] at this
          exact this.2
        rw [body_eq hm hr]
        unfold bodyR
        rw [cn_fields hk, cn_s (.inr (.inr hk))]
  · have hk2 : ¬ (cn x).kind = 7 := by rw [cn_kind (by decide) (by decide)]; exact hk
    rw [decide_eq_false (fun h => hk h.1), decide_eq_false (fun h => hk2 h.1)]; rfl
theorem fit_eq {ne : Nat} {ms : List MD} (h : formM ne ms.length ms = true) : ∀ (f : Nat) (dep t : Int) (x : Nd), fitP ms f dep t x = fitR ms f dep t x := by
  intro f
  induction f with
  | zero => intro dep t x; exact top_eq h (fun _ _ h => by cases h) dep t x
  | succ f ih =>
    intro dep t x
    rw [fitP, fitR, show (fun t y => fitR ms f (dep + 1) t y) = fun t y => fitP ms f (dep + 1) t y from funext fun t => funext fun y => (ih _ t y).symm]
    refine top_eq h (fun t y hy => ?_) dep t x
    rw [fitP_eq, topP, Bool.and_eq_true, decide_eq_true_eq] at hy
    exact hy.1.1
end Go.Proofs.YtfhmombnipfimaaGreatDoor
namespace Go.Proofs.YtfhmombnipfimaaGreatDoor
set_option linter.unusedVariables false
open Go.ChangeShapes Go.WideShapes Go.ChangeAt Go.RowKit

theorem RowsIn.isSl {α : Type} {w : World} {S : Nat → Prop} {k : Nat} {row : α → List Value} {v : Value} {xs : List α} (h : RowsIn w S k row v xs) : ∃ ad c, v = .slice ad xs.length c := by
  obtain ⟨ad, c, hv, _⟩ := h; exact ⟨ad, c, hv⟩
end Go.Proofs.YtfhmombnipfimaaGreatDoor
namespace Go.Proofs.YtfhmombnipfimaaGreatDoor
open Go.Shelf
def lays143_ren : Go.Shelf.Ren := ⟨fun | 143 => 164 | 219 => 173 | 217 => 175 | 225 => 176 | 224 => 177 | 267 => 178 | 266 => 179 | 314 => 180 | n => n, fun | 9 => 9 | 3 => 3 | 4 => 4 | 5 => 5 | 46 => 57 | 146 => 236 | 51 => 215 | n => n, fun | 1 => 2 | n => n⟩
theorem lays143 : Go.Proofs.Lays.n143 Tryz.prog lays143_ren := {
  mixed := by kernel_rfl
  f143 := Tryz.func164.trans (congrArg some (by kernel_rfl))
  f217 := Tryz.func175.trans (congrArg some (by kernel_rfl))
  f219 := Tryz.func173.trans (congrArg some (by kernel_rfl))
  f224 := Tryz.func177.trans (congrArg some (by kernel_rfl))
  f225 := Tryz.func176.trans (congrArg some (by kernel_rfl))
  f266 := Tryz.func179.trans (congrArg some (by kernel_rfl))
  f267 := Tryz.func178.trans (congrArg some (by kernel_rfl))
  f314 := Tryz.func180.trans (congrArg some (by kernel_rfl))
  t3 := Tryz.underlying3
  a3 := Tryz.isAgg3
  z3 := Tryz.sizeOf3
  v3 := Tryz.zeroValue3
  t4 := Tryz.underlying4
  a4 := Tryz.isAgg4
  z4 := Tryz.sizeOf4
  v4 := Tryz.zeroValue4
  t5 := Tryz.underlying5
  a5 := Tryz.isAgg5
  z5 := Tryz.sizeOf5
  v5 := Tryz.zeroValue5
  t9 := Tryz.underlying9
  a9 := Tryz.isAgg9
  z9 := Tryz.sizeOf9
  v9 := Tryz.zeroValue9
  t46 := Tryz.underlying57
  a46 := Tryz.isAgg57
  z46 := Tryz.sizeOf57
  v46 := Tryz.zeroValue57
  t51 := Tryz.underlying215
  a51 := Tryz.isAgg215
  z51 := Tryz.sizeOf215
  v51 := Tryz.zeroValue215
  t146 := Tryz.underlying236
  a146 := Tryz.isAgg236
  z146 := Tryz.sizeOf236
  v146 := Tryz.zeroValue236
  g1 := by kernel_rfl }
open Go.RowKit Go.Lib in
theorem strings_Index_one (s : ByteArray) (c : UInt8) (w : World) :
    Calls Tryz.prog 164 #[.string s, .string ⟨#[c]⟩] w fun e w' => e = .returned (.int .i64 (Lib.indexByte s.data.toList c)) ∧ w' = w := Any.strings_Index_one lays143 s c w
def lays221_ren : Go.Shelf.Ren := ⟨fun | 221 => 150 | 268 => 162 | 138 => 163 | 143 => 164 | 195 => 170 | 197 => 171 | 218 => 172 | 219 => 173 | 260 => 174 | 217 => 175 | 225 => 176 | 224 => 177 | 267 => 178 | 266 => 179 | 314 => 180 | n => n, fun | 9 => 9 | 3 => 3 | 31 => 106 | 4 => 4 | 0 => 0 | 105 => 233 | 21 => 21 | 5 => 5 | 46 => 57 | 119 => 150 | 139 => 153 | 138 => 152 | 146 => 236 | 51 => 215 | n => n, fun | 1 => 2 | 3 => 0 | 4 => 1 | n => n⟩
theorem lays221 : Go.Proofs.Lays.n221 Tryz.prog lays221_ren := {
  mixed := by kernel_rfl
  f138 := Tryz.func163.trans (congrArg some (by kernel_rfl))
  f143 := Tryz.func164.trans (congrArg some (by kernel_rfl))
  f195 := Tryz.func170.trans (congrArg some (by kernel_rfl))
  f197 := Tryz.func171.trans (congrArg some (by kernel_rfl))
  f217 := Tryz.func175.trans (congrArg some (by kernel_rfl))
  f218 := Tryz.func172.trans (congrArg some (by kernel_rfl))
  f219 := Tryz.func173.trans (congrArg some (by kernel_rfl))
  f221 := Tryz.func150.trans (congrArg some (by kernel_rfl))
  f224 := Tryz.func177.trans (congrArg some (by kernel_rfl))
  f225 := Tryz.func176.trans (congrArg some (by kernel_rfl))
  f260 := Tryz.func174.trans (congrArg some (by kernel_rfl))
  f266 := Tryz.func179.trans (congrArg some (by kernel_rfl))
  f267 := Tryz.func178.trans (congrArg some (by kernel_rfl))
  f268 := Tryz.func162.trans (congrArg some (by kernel_rfl))
  f314 := Tryz.func180.trans (congrArg some (by kernel_rfl))
  t0 := Tryz.underlying0
  a0 := Tryz.isAgg0
  z0 := Tryz.sizeOf0
  v0 := Tryz.zeroValue0
  t3 := Tryz.underlying3
  a3 := Tryz.isAgg3
  z3 := Tryz.sizeOf3
  v3 := Tryz.zeroValue3
  t4 := Tryz.underlying4
  a4 := Tryz.isAgg4
  z4 := Tryz.sizeOf4
  v4 := Tryz.zeroValue4
  t5 := Tryz.underlying5
  a5 := Tryz.isAgg5
  z5 := Tryz.sizeOf5
  v5 := Tryz.zeroValue5
  t9 := Tryz.underlying9
  a9 := Tryz.isAgg9
  z9 := Tryz.sizeOf9
  v9 := Tryz.zeroValue9
  t21 := Tryz.underlying21
  a21 := Tryz.isAgg21
  z21 := Tryz.sizeOf21
  v21 := Tryz.zeroValue21
  t31 := Tryz.underlying106
  a31 := Tryz.isAgg106
  z31 := Tryz.sizeOf106
  v31 := Tryz.zeroValue106
  t46 := Tryz.underlying57
  a46 := Tryz.isAgg57
  z46 := Tryz.sizeOf57
  v46 := Tryz.zeroValue57
  t51 := Tryz.underlying215
  a51 := Tryz.isAgg215
  z51 := Tryz.sizeOf215
  v51 := Tryz.zeroValue215
  t105 := Tryz.underlying233
  a105 := Tryz.isAgg233
  z105 := Tryz.sizeOf233
  v105 := Tryz.zeroValue233
  t119 := Tryz.underlying150
  a119 := Tryz.isAgg150
  z119 := Tryz.sizeOf150
  t138 := Tryz.underlying152
  a138 := Tryz.isAgg152
  z138 := Tryz.sizeOf152
  v138 := Tryz.zeroValue152
  t139 := Tryz.underlying153
  a139 := Tryz.isAgg153
  z139 := Tryz.sizeOf153
  v139 := Tryz.zeroValue153
  t146 := Tryz.underlying236
  a146 := Tryz.isAgg236
  z146 := Tryz.sizeOf236
  v146 := Tryz.zeroValue236
  g1 := by kernel_rfl
  g3 := by kernel_rfl
  g4 := by kernel_rfl }
open Go.RowKit Go.Lib in
theorem strings_genSplit (s sep : ByteArray) (sv : Nat) (n : Int) (N : Nat) (m : Int) (w : World) (hs : s.size < 4294967281) (hm : w.cell? ⟨2, 0, none⟩ = some (.int .i64 m)) (h1 : 1 ≤ sep.size) (hsv : sv ≤ sep.size) (hn0 : n ≠ 0) (hn63 : n ≤ 9223372036854775807) (hN : (N : Int) = min (if n < 0 then (Lib.countB s sep : Int) + 1 else n) ((s.size : Int) + 1)) :
    Calls Tryz.prog 150 #[.string s, .string sep, .int .i64 sv, .int .i64 n] w fun e w' =>
      e = .returned (.slice (some ⟨w.heap.size, 0, none⟩) (Lib.splitB sep sv (N - 1) s).length N) ∧ w' = w.alloc (.cells (Lib.cellsOf (Lib.splitB sep sv (N - 1) s) N) 9) := Any.strings_genSplit lays221 (by kernel_rfl) s sep sv n N m w hs hm h1 hsv hn0 hn63 hN
end Go.Proofs.YtfhmombnipfimaaGreatDoor
namespace Go.Proofs.YtfhmombnipfimaaGreatDoor
set_option linter.unusedVariables false
open Go.Shelf Go.RowKit

/-- the pieces of a text -/
def pieces (s : ByteArray) : List ByteArray := (pcs [] s.data.toList).map fun l => ⟨l.toArray⟩
theorem pieces_len (s : ByteArray) : 1 ≤ (pieces s).length ∧ (pieces s).length ≤ s.size + 1 := by
  unfold pieces; rw [List.length_map, ← len_data]; exact pcs_len _ _
theorem mk_data : ∀ (xs : List ByteArray) (L : List (List UInt8)), xs.map (·.data.toList) = L → xs = L.map fun l => ⟨l.toArray⟩
  | [], L, h => by subst h; rfl
  | x :: t, L, h => by
    subst h
    rw [List.map_cons, List.map_cons, ← mk_data t _ rfl]
theorem splitB_few (s : ByteArray) (h : (pieces s).length ≤ 8) : Lib.splitB ⟨#[46]⟩ 0 (min 9 (s.size + 1) - 1) s = pieces s := by
  refine mk_data _ _ ?_
  rw [Lib.splitB_data]
  show Lib.splitK [46] 0 _ _ = _
  have hl := pieces_len s
  unfold pieces at h hl
  rw [List.length_map] at h hl
  exact (splitK_pcs _ _).1 (by omega)
theorem splitB_many (s : ByteArray) (h : 8 < (pieces s).length) : 8 < (Lib.splitB ⟨#[46]⟩ 0 (min 9 (s.size + 1) - 1) s).length := by
  have hl := pieces_len s
  unfold pieces at h hl
  rw [List.length_map] at h hl
  have e : (Lib.splitB ⟨#[46]⟩ 0 (min 9 (s.size + 1) - 1) s).length = (Lib.splitK [46] 0 (min 9 (s.size + 1) - 1) s.data.toList).length := by
    rw [← List.length_map (f := fun x : ByteArray => x.data.toList), Lib.splitB_data]
  rw [e]
  have hk : min 9 (s.size + 1) - 1 = 8 := by omega
  rw [hk]
  by_cases h9 : (pcs [] s.data.toList).length ≤ 8 + 1
  · rw [(splitK_pcs 8 _).1 h9]; exact h
  · rw [(splitK_pcs 8 _).2 (by omega)]; omega

/-- strings lie in memory, from a block's first place on -/
def HeldS (w : World) (g : Nat) (xs : List ByteArray) : Prop := ∀ (j : Nat) (x : ByteArray), xs[j]? = some x → w.cell? ⟨g, j, none⟩ = some (.string x)
theorem heldS_old {w w' : World} {g : Nat} {xs : List ByteArray} (h : HeldS w g xs) (hb : Below w.heap.size w w') : HeldS w' g xs := by
  intro j z hj
  have hc := h j z hj
  have hlt : g < w.heap.size := by
    by_cases hg : g < w.heap.size
    · exact hg
    · simp [World.cell?, Array.getElem?_eq_none (Nat.le_of_not_lt hg)] at hc
  rw [hb.cell hlt]; exact hc

set_option maxHeartbeats 1000000 in
theorem splitN_any (s : ByteArray) (w : World) (hs : s.size ≤ 4000000000) :
    Calls Tryz.prog 133 #[.string s, .string ⟨#[46]⟩, .int .i64 9] w fun e w' =>
      e = .returned (.slice (some ⟨w.heap.size, 0, none⟩) (Lib.splitB ⟨#[46]⟩ 0 (min 9 (s.size + 1) - 1) s).length (min 9 (s.size + 1))) ∧ w' = w.alloc (.cells (Lib.cellsOf (Lib.splitB ⟨#[46]⟩ 0 (min 9 (s.size + 1) - 1) s) (min 9 (s.size + 1))) 9) := by
  have hG : Calls Tryz.prog 150 #[.string s, .string ⟨#[46]⟩, .int .i64 0, .int .i64 9] w fun e w' =>
      e = .returned (.slice (some ⟨w.heap.size, 0, none⟩) (Lib.splitB ⟨#[46]⟩ 0 (min 9 (s.size + 1) - 1) s).length (min 9 (s.size + 1))) ∧ w' = w.alloc (.cells (Lib.cellsOf (Lib.splitB ⟨#[46]⟩ 0 (min 9 (s.size + 1) - 1) s) (min 9 (s.size + 1))) 9) :=
    Any.strings_genSplit_core lays221 (by kernel_rfl) s ⟨#[46]⟩ 0 9 (min 9 (s.size + 1)) w (by omega) (by decide) (by decide)
      (fun x c hx => (strings_Index_one x 46 _).mono fun e w' ⟨he, hw⟩ => ⟨by
        rw [he]
        show _ = Ending.returned (Value.int .i64 (Lib.index x.data.toList [46]))
        rw [Lib.index_one], hw⟩)
      ((strings_Count_one s 46 w).mono fun e w' ⟨he, hw⟩ => ⟨by
        rw [he]
        show _ = Ending.returned (Value.int .i64 ((Lib.count s.data.toList [46] : Nat) : Int))
        rw [Lib.count_one]; rfl, hw⟩)
      (by decide) (by decide) (by rw [if_neg (by decide)]; omega)
  go_enter Tryz.func133, Tryz.ntmps133
  go_wp2_with fail
  refine hG.mono ?_
  rintro e w1 ⟨rfl, hw⟩
  go_wp2_with fail
  go_ret
  exact ⟨rfl, rfl⟩

theorem cellsOf_get {xs : List ByteArray} {N j : Nat} {x : ByteArray} (h : xs[j]? = some x) : (Lib.cellsOf xs N)[j]? = some (.string x) := by
  have hlt := (List.getElem?_eq_some_iff.1 h).1
  unfold Lib.cellsOf
  rw [List.getElem?_toArray, List.getElem?_append_left (by simpa using hlt)]
  simp [h]
theorem setSame (w : World) (g j : Nat) (c : Array Value) (t : TypeId) (v : Value) (hg : w.heap[g]? = some (.cells c t (0, 0))) (hv : c[j]? = some v) : (w.setCell ⟨g, j, none⟩ v).heap[g]? = some (.cells c t (0, 0)) := by
  rw [setCell_eq_setRow _ _ _ _ _ _ _ hg]
  rw [setRow_heap w g c _ t _ hg]
  congr 2
  apply Array.ext_getElem?
  intro k
  rw [Array.getElem?_setIfInBounds]
  split
  · rename_i h
    subst h
    split
    · exact hv.symm
    · rename_i h2
      rw [Array.getElem?_eq_none (by omega)]
  · rfl
def isPlain (x : ByteArray) : Bool := nameOf (runes x) && !resOf x.toList
theorem alloc_heap (w : World) (o : Obj) : (w.alloc o).heap[w.heap.size]? = some o := by
  show (w.heap.push o)[w.heap.size]? = _
  simp
theorem blk_lt {w : World} {b : Nat} {o : Obj} (h : w.heap[b]? = some o) : b < w.heap.size := (Array.getElem?_eq_some_iff.1 h).1
/-- all pieces are names that aren't reserved -/
def allPlain (s : ByteArray) : Bool := (pieces s).all isPlain
theorem plain_of (x : ByteArray) : isPlain x = (nameOf (runes x) && !resOf x.toList) := rfl
theorem all_dropS {l : List ByteArray} {k : Nat} {z : ByteArray} (h : l[k]? = some z) (p : ByteArray → Bool) : (l.drop k).all p = (p z && (l.drop (k + 1)).all p) := by
  have hlt := (List.getElem?_eq_some_iff.1 h).1
  rw [List.drop_eq_getElem_cons hlt, List.all_cons, (List.getElem?_eq_some_iff.1 h).2]
theorem piece_size {s : ByteArray} {x : ByteArray} (h : x ∈ pieces s) : x.size ≤ s.size := by
  have : ∀ (l cur : List UInt8) (y : List UInt8), y ∈ pcs cur l → y.length ≤ cur.length + l.length := by
    intro l
    induction l with
    | nil => intro cur y hy; simp [pcs] at hy; subst hy; simp
    | cons b t ih =>
      intro cur y hy
      rw [pcs] at hy
      split at hy
      · rcases List.mem_cons.1 hy with rfl | hy
        · simp
        · have := ih [] y hy; simp at this ⊢; omega
      · have := ih _ y hy; simp at this ⊢; omega
  unfold pieces at h
  rw [List.mem_map] at h
  obtain ⟨y, hy, rfl⟩ := h
  have h2 := this s.data.toList [] y hy
  rw [len_data] at h2
  have : (ByteArray.mk y.toArray).size = y.length := by show y.toArray.size = _; simp
  rw [this]; simpa using h2
end Go.Proofs.YtfhmombnipfimaaGreatDoor
namespace Go.Proofs.YtfhmombnipfimaaGreatDoor
set_option linter.unusedVariables false
open Go.ChangeShapes Go.WideShapes Go.ChangeAt Go.RowKit

theorem retI {a b : Int} (h : a = b) : Ending.returned (.int .i64 a) = .returned (.int .i64 b) := by rw [h]
set_option maxHeartbeats 1000000 in
theorem scalarR_any (s : ByteArray) (w : World) :
    Calls Tryz.prog 112 #[.string s] w fun e w' => e = .returned (.int .i64 (scalarOf s.toList)) ∧ w' = w := by
  go_enter Tryz.func112, Tryz.ntmps112
  go_wp2
  all_goals
    go_ret
    refine ⟨retI ?_, rfl⟩
    unfold scalarOf
    simp [*]
set_option maxHeartbeats 1000000 in
theorem reservedR_any (s : ByteArray) (w : World) :
    Calls Tryz.prog 87 #[.string s] w fun e w' => e = .returned (.bool (resOf s.toList)) ∧ w' = w := by
  have hS := fun W => scalarR_any s W
  unfold resOf
  generalize scalarOf s.toList = k at *
  go_enter Tryz.func87, Tryz.ntmps87
  go_wp2_with (go_at_call 112; refine (hS _).mono ?_; rintro e w' ⟨rfl, rfl⟩)
  all_goals
    go_ret
    refine ⟨retB ?_, rfl⟩
    clear hS
    first
      | (simp [*]; done)
      | simp_all
end Go.Proofs.YtfhmombnipfimaaGreatDoor
