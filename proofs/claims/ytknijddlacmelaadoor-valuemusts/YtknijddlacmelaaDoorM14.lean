/-
  Statements whose order of evaluation is open, of which the last operation stores: what holds of the memory may be said up to that store. Nothing is proved of the program here.
  Lists of values that grow, as the two copies of values keep them. Nothing is proved of the program here.
-/
import Derived.Test.YtknijddlacmelaaDoorProg
import Derived.OrdersHeld
import Derived.Deep.RegionHeld
import Derived.Test.YtknijddlacmelaaDoorM10
namespace Go.Proofs.YtknijddlacmelaaDoor
set_option linter.unusedVariables false

section
variable {P : Program} {ops : Array Oper} {Q : Exit → Act → World → Prop} {md : Region.Mode}
/-- what has come up is closed: with each operation those that it waits for -/
def CloL (md : Region.Mode) (ops : Array Oper) (l : Array Bool) : Prop := ∀ (j : Nat) (oj : Oper), ops[j]? = some oj → l.getD j false = true → ∀ e ∈ oj.after, Region.binds md e = true → l.getD e.on false = true
def cloB (md : Region.Mode) (ops : Array Oper) (l : Array Bool) : Bool := (List.range ops.size).all fun j => match ops[j]? with
  | some oj => !l.getD j false || oj.after.all fun e => !Region.binds md e || l.getD e.on false
  | none => true
theorem clo_of {l : Array Bool} (h : cloB md ops l = true) : CloL md ops l := by
  intro j oj hj hl e he hb
  have hjs := (Array.getElem?_eq_some_iff.1 hj).1
  have h1 := List.all_eq_true.1 h j (List.mem_range.2 hjs)
  simp only [hj, hl, Bool.not_true, Bool.false_or] at h1
  have h2 := Array.all_eq_true_iff_forall_mem.1 h1 e he
  simpa [hb] using h2
theorem clo_set {l : Array Bool} {j : Nat} (h : CloL md ops l) (hj : j ∈ Region.ready md ops l) : CloL md ops (l.setIfInBounds j true) := by
  intro k ok hk hl e he hb
  by_cases hjk : j = k
  · subst hjk
    obtain ⟨_, oj, hoj, hall⟩ := mem_ready.1 hj
    rw [hk] at hoj
    cases hoj
    exact getD_set_true (hall e he hb)
  · rw [getD_set_ne false hjk] at hl
    exact getD_set_true (h k ok hk hl e he hb)
/-- each waits for the next one -/
def chainB (md : Region.Mode) (ops : Array Oper) : Nat → List Nat → Bool
  | _, [] => true
  | s, t :: p => (match ops[s]? with
    | some o => o.after.toList.any fun e => Region.binds md e && (e.on == t)
    | none => false) && chainB md ops t p
theorem clo_chain {l : Array Bool} (h : CloL md ops l) : ∀ (p : List Nat) (s : Nat), chainB md ops s p = true → l.getD s false = true → ∀ t ∈ p, l.getD t false = true
  | [], s, _, _, t, ht => by simp at ht
  | b :: p, s, hc, hs, t, ht => by
    rw [chainB, Bool.and_eq_true] at hc
    obtain ⟨h1, h2⟩ := hc
    have hb : l.getD b false = true := by
      cases ho : ops[s]? with
      | none => rw [ho] at h1; cases h1
      | some o =>
        rw [ho] at h1
        obtain ⟨e, he, h3⟩ := List.any_eq_true.1 h1
        rw [Bool.and_eq_true] at h3
        have := h s o ho hs e (by simpa using he) h3.1
        have e2 : e.on = b := by simpa using h3.2
        rw [e2] at this; exact this
    rcases List.mem_cons.1 ht with rfl | ht
    · exact hb
    · exact clo_chain h p b h2 hb t ht
/-- what holds: Sy all along, Sp as long as number st has not come up -/
def Ph (st : Nat) (Sy Sp : World → Prop) (l : Array Bool) (w : World) : Prop := Sy w ∧ (l.getD st false = false → Sp w)
def wpAnyG (P : Program) (md : Region.Mode) (ops : Array Oper) (Q : Exit → Act → World → Prop) (st : Nat) (Sy Sp : World → Prop) : Nat → Array Bool → Act → World → Prop
  | 0, l, a, w => Region.ready md ops l = [] ∧ Q .normal a w
  | fuel + 1, l, a, w =>
    (Region.ready md ops l = [] → Q .normal a w) ∧
    ∀ i ∈ Region.ready md ops l, wpOp P ops Q i (fun a' w' => Ph st Sy Sp (l.setIfInBounds i true) w' ∧ wpAnyG P md ops Q st Sy Sp fuel (l.setIfInBounds i true) a' w') a w
variable {st : Nat} {Sy Sp : World → Prop}
theorem any_of_G : ∀ (fuel : Nat) (l : Array Bool) (a : Act) (w : World), wpAnyG P md ops Q st Sy Sp fuel l a w → wpAny P md ops Q fuel l a w
  | 0, _, _, _, h => h
  | fuel + 1, _, _, _, h => ⟨h.1, fun i hi => wpOp_mono (fun a' w' h' => any_of_G fuel _ a' w' h'.2) (h.2 i hi)⟩
theorem G_first {i : Nat} {oi : Oper} {v : Value} {p : List Nat} (hch : chainB md ops st p = true) (hpi : i ∈ p) (hist : i ≠ st) (hi : ops[i]? = some oi) (hsel : ∀ (j : Nat) (o : Oper) cs b, ops[j]? = some o → o.op ≠ .select cs b)
    (hQ : ∀ c a w, Q (.panic c) (a.put oi.dst v) w → Q (.panic c) a w) :
    ∀ (fuel : Nat) (l : Array Bool) (a : Act) (w : World), CloL md ops l →
      (∀ j oj, ops[j]? = some oj → j ≠ i → l.getD j true = false → (∀ e ∈ oj.after, Region.binds md e = true → e.on ≠ i) → oi.apart ops oj = true) →
      i ∈ Region.ready md ops l → YieldsIf P ops (fun W => Sy W ∧ Sp W) oi v a → Ph st Sy Sp l w →
      wpAnyG P md ops Q st Sy Sp fuel (l.setIfInBounds i true) (a.put oi.dst v) w → wpAnyG P md ops Q st Sy Sp (fuel + 1) l a w := by
  have both : ∀ (l : Array Bool) (w : World), CloL md ops l → l.getD i true = false → Ph st Sy Sp l w → Sy w ∧ Sp w := fun l w hc hl hS => by
    refine ⟨hS.1, hS.2 ?_⟩
    cases hs : l.getD st false with
    | false => rfl
    | true =>
      have h1 := clo_chain hc p st hch hs i hpi
      rcases Nat.lt_or_ge i l.size with h' | h'
      · simp [h'] at hl h1; rw [hl] at h1; cases h1
      · simp [Array.getElem?_eq_none h'] at hl
  have same : ∀ (l : Array Bool) (w : World), Ph st Sy Sp (l.setIfInBounds i true) w ↔ Ph st Sy Sp l w := fun l w => by
    unfold Ph
    rw [getD_set_ne false hist]
  intro fuel
  induction fuel with
  | zero =>
    intro l a w hc _ hr hy hS H
    have h0 := (mem_ready.1 hr).1
    refine ⟨fun h => (by rw [h] at hr; cases hr), fun j hj => ?_⟩
    by_cases hji : j = i
    · subst hji; exact hy.wpOp hi (both l w hc h0 hS) ⟨(same l w).2 hS, H⟩
    · have := ready_mono hj hji
      rw [H.1] at this
      cases this
  | succ fuel ih =>
    intro l a w hc hfree hr hy hS H
    have h0 := (mem_ready.1 hr).1
    refine ⟨fun h => (by rw [h] at hr; cases hr), fun j hj => ?_⟩
    by_cases hji : j = i
    · subst hji; exact hy.wpOp hi (both l w hc h0 hS) ⟨(same l w).2 hS, H⟩
    · have h1 := H.2 j (ready_mono hj hji)
      obtain ⟨hjun, oj, hoj, hall⟩ := mem_ready.1 hj
      have hnot : ∀ e ∈ oj.after, Region.binds md e = true → e.on ≠ i := fun e he hb heq => by
        have h1 := hall e he hb
        rw [heq] at h1
        rcases Nat.lt_or_ge i l.size with h' | h'
        · simp [h'] at h0 h1; rw [h0] at h1; cases h1
        · simp [Array.getElem?_eq_none h'] at h1
      have h2 := wpOp_putIf hoj (hfree j oj hoj hji hjun hnot) (fun cs b => hsel i oi cs b hi) (fun cs b => hsel j oj cs b hoj) hQ hy h1
      refine wpOp_mono (fun a' w' h3 => ?_) h2
      obtain ⟨h3, h4, h5⟩ := h3
      rw [Array.setIfInBounds_comm _ _ (Ne.symm hji)] at h4 h5
      have h6 := (same (l.setIfInBounds j true) w').1 h4
      refine ⟨h6, ih (l.setIfInBounds j true) a' w' (clo_set hc hj) ?_ (ready_mono hr (Ne.symm hji)) h3 h6 h5⟩
      intro k ok hk hki hun hno
      refine hfree k ok hk hki ?_ hno
      by_cases hjk : j = k
      · subst hjk; exact hjun
      · rw [getD_set_ne true hjk] at hun; exact hun
theorem G_take {i : Nat} {oi : Oper} {v : Value} {fuel : Nat} {l : Array Bool} {a : Act} {w : World} (p : List Nat) (hi : ops[i]? = some oi) (hch : (chainB md ops st p && p.contains i && !(i == st) && Region.noSelect ops && Region.free md ops l i && (Region.ready md ops l).contains i && cloB md ops l) = true)
    (hQ : ∀ c a w, Q (.panic c) (a.put oi.dst v) w → Q (.panic c) a w) (hy : YieldsIf P ops (fun W => Sy W ∧ Sp W) oi v a) (hS : Ph st Sy Sp l w)
    (h : wpAnyG P md ops Q st Sy Sp fuel (l.setIfInBounds i true) (a.put oi.dst v) w) : wpAnyG P md ops Q st Sy Sp (fuel + 1) l a w := by
  simp only [Bool.and_eq_true] at hch
  obtain ⟨⟨⟨⟨⟨⟨h1, h2⟩, h3⟩, h4⟩, h5⟩, h6⟩, h7⟩ := hch
  exact G_first h1 (by simpa using h2) (by simpa using h3) hi (Region.noSelect_spec h4) hQ fuel l a w (clo_of h7) (Region.free_spec hi h5) (by simpa using h6) hy hS h
theorem G_one {i : Nat} {o : Oper} {fuel : Nat} {l : Array Bool} {a : Act} {w : World} (hr : Region.ready md ops l = [i]) (ho : ops[i]? = some o)
    (h : ∀ K' : Act → World → Prop, Shut (∀ a w, Ph st Sy Sp (l.setIfInBounds i true) w → wpAnyG P md ops Q st Sy Sp fuel (l.setIfInBounds i true) a w → K' a w) → if Region.wanted o (yielded ops a.tmps) = true then Oper.wp P o a w K' Q else K' (a.put o.dst undef) w) : wpAnyG P md ops Q st Sy Sp (fuel + 1) l a w := by
  refine ⟨fun h0 => (by rw [hr] at h0; cases h0), fun j hj => ?_⟩
  rw [hr] at hj
  have : j = i := by simpa using hj
  subst this
  exact wpOp_step ho (fun K' hK => h K' (fun a w hS hW => hK a w ⟨hS, hW⟩))
theorem G_done {l : Array Bool} {a : Act} {w : World} (hr : Region.ready md ops l = []) (h : Q .normal a w) : ∀ fuel, wpAnyG P md ops Q st Sy Sp fuel l a w
  | 0 => ⟨hr, h⟩
  | _ + 1 => ⟨fun _ => h, by rw [hr]; simp⟩
theorem region_G {id : Nat} {a : Act} {w : World} (st : Nat) (Sy Sp : World → Prop) (hm : P.follows .mixedOrders = true)
    (h : wpAnyG P .any ops Q st Sy Sp ops.size (Array.replicate ops.size false) a w.drew) : (Code.region id ops true).wp P Q a w :=
  wp_region_any hm (any_of_G _ _ _ _ h)
end
end Go.Proofs.YtknijddlacmelaaDoor
namespace Go.Proofs.YtknijddlacmelaaDoor
set_option linter.unusedVariables false
open Go.ChangeShapes Go.WideShapes Go.ChangeAt Go.RowKit

section
variable {T t : TypeId} {k bytes base n : Nat} {z : Value} {wx : World} {v : Value} {xs : List Value}
theorem vpushS (ht : Tryd.prog.underlying t = some (.slice T)) (hin : (Tryd.prog.info? T).map (fun i => (i.zero, i.size, i.bytes)) = some (some z, k, bytes)) (hzk : z.cells.size = k) (hk0 : 0 < k)
    (h : wx.ownsRow base T k v n xs) (hb0 : base ≤ wx.heap.size) (r : List Value) (hrl : r.length = k) (hr1 : ∀ u ∈ r, u.oneCell' = true) (B : Nat) (hB : wx.heap[B]? = some (.cells r.toArray T (0, 0)))
    {ops : Array Oper} {o : Oper} {a : Act} {K : Act → World → Prop} {Q : Exit → Act → World → Prop} {E : Prop} (hgd : o.guard = none) (s' x' : Operand)
    (ho : o.op = .call { callee := .builtin .append, args := #[s', x'], argTypes := #[t, t] }) (hs : a.eval s' = v) (hx : a.eval x' = .slice (some ⟨B, 0, none⟩) 1 1) (hm : n + 1 ≤ maxLen) (hbd : (n + 1) * bytes ≤ 140737488355328)
    (hk : ∀ g cap W, W.ownsRow base T k (.slice (some ⟨g, 0, none⟩) (n + 1) cap) (n + 1) (xs ++ r) → wx.grownBy W v.ownBlock → (v.ownBlock = some g ∨ g = wx.heap.size) → g < W.heap.size → K (a.put o.dst (.slice (some ⟨g, 0, none⟩) (n + 1) cap)) W) :
    if Region.wanted o (yielded ops a.tmps) = true then Oper.wp Tryd.prog o a wx K Q else E := by
  obtain ⟨i0, hi0, hz0, hz1, hz2⟩ := info_parts hin
  exact step_append_lies _ hgd s' x' t ho base T i0 z k bytes ht hi0 hz0 hz1 hz2 hzk hk0 v n xs hs h ⟨B, 0, none⟩ 1 1 r hx (by rw [hrl, Nat.one_mul]) (World.news_of_block (cs := r.toArray) (t := T) (fr := (0, 0)) hB) hr1 (by decide) hm hbd hb0 _ rfl hk
end
/-- a value's row, and what it leads to -/
def VRs (s : Shp) (f : Nat) (w : World) (S : Nat → Prop) (y : Nd) (r : List Value) : Prop := ∃ fs, r = s.row y fs ∧ (s.deep y = true → HeldG s w S f fs y.fields)
/-- a field's row, and what it leads to -/
def FRs (s : Shp) (f : Nat) (w : World) (S : Nat → Prop) (x : Int × List Nd) (r : List Value) : Prop := ∃ vs, r = [.int .i64 x.1, vs] ∧ ValsG s w S f vs x.2
theorem mvsV (s : Shp) (f : Nat) : Mvs (VRs s f) := fun w w' S S' y r ⟨fs, h1, h2⟩ hb hS => ⟨fs, h1, fun hd => HeldG.mv hb hS (h2 hd)⟩
theorem mvsF (s : Shp) (f : Nat) : Mvs (FRs s f) := fun w w' S S' y r ⟨vs, h1, h2⟩ hb hS => ⟨vs, h1, ValsG.mv hb hS h2⟩
theorem Gr.vals {s : Shp} {f : Nat} {w : World} {base : Nat} {T : TypeId} {v : Value} {ys : List Nd} {rs : List (List Value)} (h : Gr (VRs s f) w base T s.k v ys rs) (S : Nat → Prop) (hS : ∀ b, base ≤ b → b < w.heap.size → S b) : ValsG s w S f v ys := by
  refine SlIn.imp (h.held S fun b hb => hS b (h.blk b hb).1 (h.blk b hb).2) (fun _ h => h) fun y g o hg hy => ?_
  obtain ⟨r, hc, fs, rfl, hd⟩ := hy
  exact ⟨fs, hc, fun hk => HeldG.mv (fun _ _ => rfl) (fun b hF => hS b hF.1 hF.2.1) (hd hk)⟩
theorem Gr.fields {s : Shp} {f : Nat} {w : World} {base : Nat} {T : TypeId} {v : Value} {fl : List (Int × List Nd)} {rs : List (List Value)} (h : Gr (FRs s (f - 1)) w base T 2 v fl rs) (hf : f = 0 → fl = []) (S : Nat → Prop) (hS : ∀ b, base ≤ b → b < w.heap.size → S b) : HeldG s w S f v fl := by
  cases f with
  | zero =>
    have h0 := hf rfl
    subst h0
    obtain ⟨a, c, hv⟩ := own_slice h.own
    exact ⟨rfl, a, c, hv⟩
  | succ f =>
    refine SlIn.imp (h.held S fun b hb => hS b (h.blk b hb).1 (h.blk b hb).2) (fun _ h => h) fun x g o hg hx => ?_
    obtain ⟨r, hc, vs, rfl, hv⟩ := hx
    exact ⟨vs, hc, ValsG.mv (fun _ _ => rfl) (fun b hF => hS b hF.1 hF.2.1) hv⟩
theorem val_form {w : World} {S : Nat → Prop} {f : Nat} {v : Value} {y : Nd} (h : HeldV w S f v y) : v = .nilIface ∨ ∃ U u, v = .iface U u := by
  obtain ⟨fs, rfl, _⟩ := h
  unfold ival
  repeat (split; exact .inr ⟨_, _, rfl⟩)
  exact .inl rfl
theorem ival_one (y : Nd) (fs : Value) : (ival y fs).oneCell' = true := by
  unfold ival
  repeat (split; rfl)
  rfl
theorem infoVF : (Tryd.prog.info? 64).map (fun i => (i.zero, i.size, i.bytes)) = some (some (.agg #[.int .i64 0, .slice none 0 0]), 2, 32) := by kernel_rfl
theorem infoNF : (Tryd.prog.info? 43).map (fun i => (i.zero, i.size, i.bytes)) = some (some (.agg #[.int .i64 0, .slice none 0 0]), 2, 32) := by kernel_rfl
theorem infoVV : (Tryd.prog.info? 34).map (fun i => (i.zero, i.size, i.bytes)) = some (some (.nilIface), 1, 16) := by kernel_rfl
theorem infoNN : (Tryd.prog.info? 25).map (fun i => (i.zero, i.size, i.bytes)) = some (some (.agg #[.int .i64 0, .int .i64 0, .int .u64 0, .bool false, .string ⟨#[]⟩, .int .i64 0, .slice none 0 0]), 7, 80) := by kernel_rfl
end Go.Proofs.YtknijddlacmelaaDoor
