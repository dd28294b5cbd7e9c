/-
  What is read of words has texts that are short enough to be copied. Facts of the plain functions: nothing is proved of the program here.
  Places change nothing of what is printed: facts of the plain functions, of declarations of a depth. Nothing is proved of the program here.
-/
import Derived.Test.YtngmimbpakmkiaaGreatDoorStDz
import Derived.Test.YtngmimbpakmkiaaGreatDoorGmA
namespace Go.Proofs.YtngmimbpakmkiaaGreatDoor
set_option linter.unusedVariables false

def Gd (r : Rd) : Prop := (∀ w ∈ r.l, w.text.length ≤ 20000) ∧ r.l.length ≤ 4000
def TF (x : Fd) : Prop := x.type.length ≤ 200000000 ∧ x.name.length ≤ 200000000
def TV (x : Vl) : Prop := x.name.length ≤ 200000000
def TM (x : Mt) : Prop := x.name.length ≤ 200000000 ∧ x.inp.length ≤ 200000000 ∧ x.out.length ≤ 200000000
def TOne (d : Dc) : Prop := d.name.length ≤ 200000000 ∧ (∀ x ∈ d.fields, TF x) ∧ (∀ x ∈ d.values, TV x) ∧ (∀ x ∈ d.methods, TM x) ∧ ∀ f, TxtD f d.inner
theorem txtD_of {ds : List Dc} (h : ∀ d ∈ ds, TOne d) : ∀ f, TxtD f ds
  | 0 => trivial
  | f + 1 => fun d hd => ⟨(h d hd).1, (h d hd).2.1, (h d hd).2.2.1, (h d hd).2.2.2.1, (h d hd).2.2.2.2 f⟩
section
variable {en : Int × Int} {r : Rd}
theorem Gd.tail (h : Gd r) : Gd r.tail := ⟨fun w hw => h.1 w (List.mem_of_mem_tail hw), by have := h.2; have := Rd.l_tail r; omega⟩
theorem Gd.fail (h : Gd r) (e : Int) (p : Int × Int) : Gd (r.fail e p) := by unfold Rd.fail; split <;> exact h
theorem Gd.take (h : Gd r) (t : List UInt8) : Gd (r.take en t) := by unfold Rd.take; split; exact h.tail; exact h.fail _ _
theorem Gd.name (h : Gd r) : Gd (r.name en) := by unfold Rd.name; split; exact h.tail; exact h.fail _ _
theorem Gd.number (h : Gd r) : Gd (r.number en) := by unfold Rd.number; split; exact h.tail; exact h.fail _ _
theorem Gd.text (h : Gd r) : r.text.length ≤ 20000 := by
  unfold Rd.text
  cases hl : r.l with
  | nil => simp
  | cons y t => exact h.1 y (by rw [hl]; simp)
theorem Gd.nameT (h : Gd r) : r.nameT.length ≤ 20000 := by
  unfold Rd.nameT
  split
  · exact h.text
  · simp
end
section
variable {en : Int × Int}
theorem Gd.pathL (first : Int × Int) : ∀ (f n : Nat) (s : List UInt8) (r : Rd), Gd r → Gd (pathL en first f n s r).2 ∧ (pathL en first f n s r).1.length ≤ s.length + f * 20001
  | 0, n, s, r, h => ⟨h, by show s.length ≤ _; omega⟩
  | f + 1, n, s, r, h => by
    by_cases hi : r.is [46] = true
    · rw [pathL_go en first f n s r hi]
      have h1 : Gd (r.take en [46]) := h.take _
      have h2 : Gd (if n = 8 then ((r.take en [46]).name en).fail 8 first else (r.take en [46]).name en) := by
        split
        · exact h1.name.fail _ _
        · exact h1.name
      have h3 := Gd.pathL first f (n + 1) (s ++ [46] ++ (r.take en [46]).nameT) _ h2
      refine ⟨h3.1, Nat.le_trans h3.2 ?_⟩
      have := h1.nameT
      rw [List.length_append, List.length_append]
      show s.length + 1 + _ + _ ≤ _
      rw [Nat.succ_mul]
      omega
    · rw [pathL_stop en first _ n s r (by simpa using hi)]
      exact ⟨h, by show s.length ≤ _; omega⟩
theorem Gd.path {r : Rd} (h : Gd r) : Gd (r.path en).2 ∧ (r.path en).1.length ≤ 200000000 := by
  unfold Rd.path
  have h1 := Gd.pathL (en := en) (r.here en) (r.l.length + 1) 1 r.nameT (r.name en) h.name
  refine ⟨h1.1, Nat.le_trans h1.2 ?_⟩
  have := h.nameT
  have h2 : (r.l.length + 1) * 20001 ≤ 4001 * 20001 := Nat.mul_le_mul_right _ (by have := h.2; omega)
  omega
theorem Gd.typ {r : Rd} (h : Gd r) : Gd (r.typ en).2 ∧ (r.typ en).1.length ≤ 200000000 := by
  unfold Rd.typ
  split
  · exact ⟨h.tail, by have := h.text; show r.text.length ≤ _; omega⟩
  · exact h.path
theorem Gd.field {r : Rd} (h : Gd r) : Gd (r.field en).2 ∧ TF (r.field en).1 := by
  unfold Rd.field
  simp only
  have h0 : Gd (if r.is tRepeated = true then r.take en tRepeated else r) := by
    split
    · exact h.take _
    · exact h
  have h1 := h0.typ (en := en)
  exact ⟨((h1.1.name.take _).number).take _, h1.2, by have := h1.1.nameT; show (Rd.nameT _).length ≤ _; omega⟩
theorem Gd.value {r : Rd} (h : Gd r) : Gd (r.value en).2 ∧ TV (r.value en).1 := by
  unfold Rd.value
  simp only
  exact ⟨((h.name.take _).number).take _, by have := h.nameT; show (Rd.nameT _).length ≤ _; omega⟩
theorem Gd.method {r : Rd} (h : Gd r) : Gd (r.method en).2 ∧ TM (r.method en).1 := by
  unfold Rd.method
  simp only
  have h1 : Gd (r.take en tRpc) := h.take _
  have h2 := ((h1.name (en := en)).take (en := en) [40]).path (en := en)
  have h3 := (((h2.1.take (en := en) [41]).take (en := en) tReturns).take (en := en) [40]).path (en := en)
  exact ⟨(h3.1.take _).take _, by have := h1.nameT; show (Rd.nameT _).length ≤ _; omega, h2.2, h3.2⟩
theorem Gd.valuesL : ∀ (f : Nat) (r : Rd) (acc : List Vl), Gd r → (∀ v ∈ acc, TV v) → Gd (valuesL en f r acc).2 ∧ ∀ v ∈ (valuesL en f r acc).1, TV v
  | 0, r, acc, h, ha => ⟨h, ha⟩
  | f + 1, r, acc, h, ha => by
    unfold Go.Proofs.YtngmimbpakmkiaaGreatDoor.valuesL
    split
    · exact Gd.valuesL f _ _ h.value.1 (fun v hv => by
        rcases List.mem_append.1 hv with hv | hv
        · exact ha v hv
        · have : v = (r.value en).1 := by simpa using hv
          rw [this]; exact h.value.2)
    · exact ⟨h, ha⟩
theorem Gd.methodsL : ∀ (f : Nat) (r : Rd) (acc : List Mt), Gd r → (∀ v ∈ acc, TM v) → Gd (methodsL en f r acc).2 ∧ ∀ v ∈ (methodsL en f r acc).1, TM v
  | 0, r, acc, h, ha => ⟨h, ha⟩
  | f + 1, r, acc, h, ha => by
    unfold Go.Proofs.YtngmimbpakmkiaaGreatDoor.methodsL
    split
    · exact Gd.methodsL f _ _ h.method.1 (fun v hv => by
        rcases List.mem_append.1 hv with hv | hv
        · exact ha v hv
        · have : v = (r.method en).1 := by simpa using hv
          rw [this]; exact h.method.2)
    · exact ⟨h, ha⟩
theorem Gd.enum {r : Rd} (h : Gd r) : Gd (r.enum en).2 ∧ TOne (r.enum en).1 := by
  unfold Rd.enum
  simp only
  have h1 : Gd (r.take en tEnum) := h.take _
  have h2 := Gd.valuesL (en := en) ((((r.take en tEnum).name en).take en [123]).l.length + 1) (((r.take en tEnum).name en).take en [123]) [] ((h1.name).take _) (by simp)
  exact ⟨h2.1.take _, by have := h1.nameT; show (Rd.nameT _).length ≤ _; omega, by simp, h2.2, by simp, fun f => txtD_of (by simp) f⟩
theorem Gd.service {r : Rd} (h : Gd r) : Gd (r.service en).2 ∧ TOne (r.service en).1 := by
  unfold Rd.service
  simp only
  have h1 : Gd (r.take en tService) := h.take _
  have h2 := Gd.methodsL (en := en) ((((r.take en tService).name en).take en [123]).l.length + 1) (((r.take en tService).name en).take en [123]) [] ((h1.name).take _) (by simp)
  exact ⟨h2.1.take _, by have := h1.nameT; show (Rd.nameT _).length ≤ _; omega, by simp, by simp, h2.2, fun f => txtD_of (by simp) f⟩
theorem mem_snoc {α : Type} {P : α → Prop} {l : List α} {a : α} (h : ∀ x ∈ l, P x) (ha : P a) : ∀ x ∈ l ++ [a], P x := fun x hx => by
  rcases List.mem_append.1 hx with hx | hx
  · exact h x hx
  · have : x = a := by simpa using hx
    rw [this]; exact ha
theorem Gd.bodyL {msg : Rd → Dc × Rd} (hm : ∀ r, Gd r → Gd (msg r).2 ∧ TOne (msg r).1) : ∀ (f : Nat) (r : Rd) (fs : List Fd) (ds : List Dc), Gd r → (∀ x ∈ fs, TF x) → (∀ d ∈ ds, TOne d) →
    Gd (bodyL en msg f r fs ds).2 ∧ (∀ x ∈ (bodyL en msg f r fs ds).1.1, TF x) ∧ ∀ d ∈ (bodyL en msg f r fs ds).1.2, TOne d
  | 0, r, fs, ds, h, hf, hd => ⟨h, hf, hd⟩
  | f + 1, r, fs, ds, h, hf, hd => by
    unfold Go.Proofs.YtngmimbpakmkiaaGreatDoor.bodyL
    split
    · split
      · exact Gd.bodyL hm f _ _ _ (hm r h).1 hf (mem_snoc hd (hm r h).2)
      · split
        · exact Gd.bodyL hm f _ _ _ h.enum.1 hf (mem_snoc hd h.enum.2)
        · exact Gd.bodyL hm f _ _ _ h.field.1 (mem_snoc hf h.field.2) hd
    · exact ⟨h, hf, hd⟩
theorem Gd.messageL : ∀ (k depth : Nat) (r : Rd), Gd r → Gd (messageL en k depth r).2 ∧ TOne (messageL en k depth r).1
  | 0, depth, r, h => by
    have ht : TOne ⟨1, [], 0, 0, [], [], [], []⟩ := ⟨by simp, by simp, by simp, by simp, fun f => txtD_of (by simp) f⟩
    exact ⟨h, ht⟩
  | k + 1, depth, r, h => by
    have h0 : Gd (if 8 < depth then r.fail 8 (r.here en) else r) := by
      split
      · exact h.fail _ _
      · exact h
    unfold Go.Proofs.YtngmimbpakmkiaaGreatDoor.messageL
    simp only
    generalize (if 8 < depth then r.fail 8 (r.here en) else r) = r0 at *
    have h1 : Gd (r0.take en tMessage) := h0.take _
    have h2 := Gd.bodyL (en := en) (fun r hr => Gd.messageL k (depth + 1) r hr) ((((r0.take en tMessage).name en).take en [123]).l.length + 1) (((r0.take en tMessage).name en).take en [123]) [] [] ((h1.name).take _) (by simp) (by simp)
    exact ⟨h2.1.take _, by have := h1.nameT; show (Rd.nameT _).length ≤ _; omega, h2.2.1, by simp, by simp, fun f => txtD_of h2.2.2 f⟩
theorem Gd.declsL : ∀ (f : Nat) (r : Rd) (ds : List Dc), Gd r → (∀ d ∈ ds, TOne d) → ∀ d ∈ (declsL en f r ds).1, TOne d
  | 0, r, ds, h, hd => hd
  | f + 1, r, ds, h, hd => by
    unfold Go.Proofs.YtngmimbpakmkiaaGreatDoor.declsL
    split
    · split
      · exact Gd.declsL f _ _ (Gd.messageL 9 1 r h).1 (mem_snoc hd (Gd.messageL 9 1 r h).2)
      · split
        · exact Gd.declsL f _ _ h.enum.1 (mem_snoc hd h.enum.2)
        · split
          · exact Gd.declsL f _ _ h.service.1 (mem_snoc hd h.service.2)
          · exact Gd.declsL f _ _ (h.fail _ _) hd
    · exact hd
end
theorem fileL_txt (l : List UInt8) (f : Nat) : TxtD f (fileL l).1 := by
  unfold fileL
  split
  · unfold fileW
    simp only
    split
    · exact txtD_of (Gd.declsL _ _ _ ⟨fun w hw => words_texts l w hw, words_few l⟩ (by simp)) f
    · exact txtD_of (by simp) f
  · exact txtD_of (by simp) f
/-- a list with its places zero is as long -/
theorem strip_fit : ∀ (f : Nat) (ds : List Dc), FitD f ds → FitD f (stripL f ds)
  | 0, ds, h => trivial
  | f + 1, ds, h => by
    rw [stripL_succ]
    refine ⟨by rw [List.length_map]; exact h.1, fun d hd => ?_⟩
    obtain ⟨z, hz, rfl⟩ := List.mem_map.1 hd
    obtain ⟨h1, h2, h3, h4⟩ := h.2 z hz
    exact ⟨by show (List.map sF _).length ≤ _; rw [List.length_map]; exact h1, by show (List.map sV _).length ≤ _; rw [List.length_map]; exact h2, by show (List.map sM _).length ≤ _; rw [List.length_map]; exact h3, strip_fit f z.inner h4⟩
end Go.Proofs.YtngmimbpakmkiaaGreatDoor
namespace Go.Proofs.YtngmimbpakmkiaaGreatDoor
set_option linter.unusedVariables false

/-- declarations that lie at most so deep -/
def Dp : Nat → List Dc → Prop
  | 0, ds => ds = []
  | f + 1, ds => ∀ d ∈ ds, Dp f d.inner
theorem dp_held {w : World} {S : Nat → Prop} : ∀ {f : Nat} {v : Value} {ds : List Dc}, HeldD f w S v ds → Dp f ds
  | 0, v, ds, h => h.1
  | f + 1, v, ds, h => by
    intro d hd
    obtain ⟨ad, c, _, _, h0 | ⟨g, o, _, _, hk⟩⟩ := h
    · rw [h0] at hd; cases hd
    · obtain ⟨j, hj⟩ := List.getElem?_of_mem hd
      obtain ⟨fs, vs, ms, ins, _, _, _, _, hin⟩ := hk j d hj
      exact dp_held hin
theorem strip_deep : ∀ (f g : Nat) (ds : List Dc), Dp f ds → f ≤ g → stripL g ds = stripL f ds := by
  intro f
  induction f with
  | zero =>
    intro g ds h _
    rw [h, stripL_nil, stripL_nil]
  | succ f ih =>
    intro g ds h hg
    obtain ⟨g, rfl⟩ : ∃ g', g = g' + 1 := ⟨g - 1, by omega⟩
    rw [stripL_succ, stripL_succ]
    apply List.map_congr_left
    intro d hd
    unfold sD
    rw [ih g d.inner (h d hd) (by omega)]
theorem printL_strip (f : Nat) (ds : List Dc) (h : Dp f ds) : printL f (stripL f ds) = printL f ds := by
  have e : stripL f ds = ds.map (sD f) := by rw [← strip_deep f (f + 1) ds h (by omega), stripL_succ]
  rw [e]
  unfold printL
  rw [fmL_strip f f 0 (Nat.le_refl _), textL_strip f f (by omega)]
theorem strip_txt : ∀ (f : Nat) (ds : List Dc), TxtD f ds → TxtD f (stripL f ds) := by
  intro f
  induction f with
  | zero => intro ds _; trivial
  | succ f ih =>
    intro ds h d hd
    rw [stripL_succ] at hd
    obtain ⟨x, hx, rfl⟩ := List.mem_map.1 hd
    obtain ⟨h1, h2, h3, h4, h5⟩ := h x hx
    refine ⟨h1, fun y hy => ?_, fun y hy => ?_, fun y hy => ?_, ih _ h5⟩
    · obtain ⟨z, hz, rfl⟩ := List.mem_map.1 hy; exact h2 z hz
    · obtain ⟨z, hz, rfl⟩ := List.mem_map.1 hy; exact h3 z hz
    · obtain ⟨z, hz, rfl⟩ := List.mem_map.1 hy; exact h4 z hz
end Go.Proofs.YtngmimbpakmkiaaGreatDoor
