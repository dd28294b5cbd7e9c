/-
  Lists of values that grow, as the two copies of values keep them. Nothing is proved of the program here.
  The walk over the law's Theirs: a node's value, in new memory.
-/
import Derived.Test.YteajlfgbmefncaaGreatDoorM7
import Derived.Test.YteajlfgbmefncaaGreatDoorM14
import Derived.Deep.RegionHeldLaw
namespace Go.Proofs.YteajlfgbmefncaaGreatDoor
set_option linter.unusedVariables false
open Go.ChangeShapes Go.WideShapes Go.ChangeAt Go.RowKit

section
variable {T t : TypeId} {k bytes base n : Nat} {z : Value} {wx : World} {v : Value} {xs : List Value}
theorem vpushS (ht : Tryz.prog.underlying t = some (.slice T)) (hin : (Tryz.prog.info? T).map (fun i => (i.zero, i.size, i.bytes)) = some (some z, k, bytes)) (hzk : z.cells.size = k) (hk0 : 0 < k)
    (h : wx.ownsRow base T k v n xs) (hb0 : base ≤ wx.heap.size) (r : List Value) (hrl : r.length = k) (hr1 : ∀ u ∈ r, u.oneCell' = true) (B : Nat) (hB : wx.heap[B]? = some (.cells r.toArray T (0, 0)))
    {ops : Array Oper} {o : Oper} {a : Act} {K : Act → World → Prop} {Q : Exit → Act → World → Prop} {E : Prop} (hgd : o.guard = none) (s' x' : Operand)
    (ho : o.op = .call { callee := .builtin .append, args := #[s', x'], argTypes := #[t, t] }) (hs : a.eval s' = v) (hx : a.eval x' = .slice (some ⟨B, 0, none⟩) 1 1) (hm : n + 1 ≤ maxLen) (hbd : (n + 1) * bytes ≤ 140737488355328)
    (hk : ∀ g cap W, W.ownsRow base T k (.slice (some ⟨g, 0, none⟩) (n + 1) cap) (n + 1) (xs ++ r) → wx.grownBy W v.ownBlock → (v.ownBlock = some g ∨ g = wx.heap.size) → g < W.heap.size → K (a.put o.dst (.slice (some ⟨g, 0, none⟩) (n + 1) cap)) W) :
    if Region.wanted o (yielded ops a.tmps) = true then Oper.wp Tryz.prog o a wx K Q else E := by
  obtain ⟨i0, hi0, hz0, hz1, hz2⟩ := info_parts hin
  exact step_append_lies _ hgd s' x' t ho base T i0 z k bytes ht hi0 hz0 hz1 hz2 hzk hk0 v n xs hs h ⟨B, 0, none⟩ 1 1 r hx (by rw [hrl, Nat.one_mul]) (World.news_of_block (cs := r.toArray) (t := T) (fr := (0, 0)) hB) hr1 (by decide) hm hbd hb0 _ rfl hk
end
/-- a value's row, and what it leads to -/
def VRs (s : Shp) (f : Nat) (w : World) (S : Nat → Prop) (y : Nd) (r : List Value) : Prop := ∃ fs, r = s.row y fs ∧ (s.deep y = true → HeldG s w S f fs y.fields)
/-- a field's row, and what it leads to -/
def FRs (s : Shp) (f : Nat) (w : World) (S : Nat → Prop) (x : Int × List Nd) (r : List Value) : Prop := ∃ vs, r = [.int .i64 x.1, vs] ∧ ValsG s w S f vs x.2
theorem mvsV (s : Shp) (f : Nat) : Mvs (VRs s f) := fun w w' S S' y r ⟨fs, h1, h2⟩ hb hS => ⟨fs, h1, fun hd => HeldG.mv hb hS (h2 hd)⟩
theorem mvsF (s : Shp) (f : Nat) : Mvs (FRs s f) := fun w w' S S' y r ⟨vs, h1, h2⟩ hb hS => ⟨vs, h1, ValsG.mv hb hS h2⟩
theorem Gr.vals {s : Shp} {f : Nat} {w : World} {base : Nat} {T : TypeId} {v : Value} {ys : List Nd} {rs : List (List Value)} (h : Gr (VRs s f) w base T s.k v ys rs) (S : Nat → Prop) (hS : ∀ b, base ≤ b → b < w.heap.size → S b) : ValsG s w S f v ys := by
  refine SlIn.imp (h.held S fun b hb => hS b (h.blk b hb).1 (h.blk b hb).2) (fun _ h => h) fun y g o hg hy => ?_
  obtain ⟨r, hc, fs, rfl, hd⟩ := hy
  exact ⟨fs, hc, fun hk => HeldG.mv (fun _ _ => rfl) (fun b hF => hS b hF.1 hF.2.1) (hd hk)⟩
theorem Gr.fields {s : Shp} {f : Nat} {w : World} {base : Nat} {T : TypeId} {v : Value} {fl : List (Int × List Nd)} {rs : List (List Value)} (h : Gr (FRs s (f - 1)) w base T 2 v fl rs) (hf : f = 0 → fl = []) (S : Nat → Prop) (hS : ∀ b, base ≤ b → b < w.heap.size → S b) : HeldG s w S f v fl := by
  cases f with
  | zero =>
    have h0 := hf rfl
    subst h0
    obtain ⟨a, c, hv⟩ := own_slice h.own
    exact ⟨rfl, a, c, hv⟩
  | succ f =>
    refine SlIn.imp (h.held S fun b hb => hS b (h.blk b hb).1 (h.blk b hb).2) (fun _ h => h) fun x g o hg hx => ?_
    obtain ⟨r, hc, vs, rfl, hv⟩ := hx
    exact ⟨vs, hc, ValsG.mv (fun _ _ => rfl) (fun b hF => hS b hF.1 hF.2.1) hv⟩
theorem val_form {w : World} {S : Nat → Prop} {f : Nat} {v : Value} {y : Nd} (h : HeldV w S f v y) : v = .nilIface ∨ ∃ U u, v = .iface U u := by
  obtain ⟨fs, rfl, _⟩ := h
  unfold ival
  repeat (split; exact .inr ⟨_, _, rfl⟩)
  exact .inl rfl
theorem ival_one (y : Nd) (fs : Value) : (ival y fs).oneCell' = true := by
  unfold ival
  repeat (split; rfl)
  rfl
theorem infoVF : (Tryz.prog.info? 79).map (fun i => (i.zero, i.size, i.bytes)) = some (some (.agg #[.int .i64 0, .slice none 0 0]), 2, 32) := by kernel_rfl
theorem infoNF : (Tryz.prog.info? 57).map (fun i => (i.zero, i.size, i.bytes)) = some (some (.agg #[.int .i64 0, .slice none 0 0]), 2, 32) := by kernel_rfl
theorem infoVV : (Tryz.prog.info? 31).map (fun i => (i.zero, i.size, i.bytes)) = some (some (.nilIface), 1, 16) := by kernel_rfl
theorem infoNN : (Tryz.prog.info? 38).map (fun i => (i.zero, i.size, i.bytes)) = some (some (.agg #[.int .i64 0, .int .i64 0, .int .u64 0, .bool false, .string ⟨#[]⟩, .int .i64 0, .slice none 0 0]), 7, 80) := by kernel_rfl
end Go.Proofs.YteajlfgbmefncaaGreatDoor
namespace Go.Proofs.YteajlfgbmefncaaGreatDoor
set_option linter.unusedVariables false
open Go.ChangeShapes Go.WideShapes Go.ChangeAt Go.RowKit

def TheirAns (f : Nat) (w : World) (x : Nd) (e : Ending) (w' : World) : Prop := ∃ v, e = .returned v ∧ HeldV w' (fun b => w.heap.size ≤ b ∧ b < w'.heap.size) f v x ∧ Below w.heap.size w w'
end Go.Proofs.YteajlfgbmefncaaGreatDoor
