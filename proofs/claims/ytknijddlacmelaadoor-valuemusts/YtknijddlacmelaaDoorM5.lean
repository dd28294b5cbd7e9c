/-
  Two slices that a call makes and grows, one of fields and one of slices of bytes, and the bytes that their elements lead to: words and laws for them. Nothing is proved of the program here.
  The document's own TakeField, whole: of any bytes it answers what 'tf' says, and makes new memory alone.
-/
import Derived.Test.YtknijddlacmelaaDoorM4
import Derived.Maps.AppendAt
import Derived.Deep.DeepCutAuto
namespace Go.Proofs.YtknijddlacmelaaDoor
set_option linter.unusedVariables false
open Go.ChangeShapes Go.WideShapes Go.ChangeAt Go.RowKit

/-- a field in memory, with its bytes -/
structure FR where
  num : Int
  ty : Int
  n : Int
  a : Option Addr
  len : Nat
  cap : Nat
  d : List Int
def FR.cells (f : FR) : List Value := [.int .i64 f.num, .int .i64 f.ty, .int .u64 f.n, .slice f.a f.len f.cap]
def Row3.val (r : Row3) : Value := .slice r.a r.len r.cap
/-- bytes in memory, in neither of two blocks -/
def FarB (w : World) (x y : Option Nat) (a : Option Addr) (len : Nat) (zs : List Int) : Prop :=
  zs.length = len ∧ len ≤ 281474976710656 ∧ (zs = [] ∨ ∃ b off, a = some ⟨b, off, none⟩ ∧ Held w b off zs ∧ x ≠ some b ∧ y ≠ some b)
theorem FarB.isB {w : World} {x y : Option Nat} {a : Option Addr} {len : Nat} {zs : List Int} (h : FarB w x y a len zs) : IsB w a len zs :=
  ⟨h.1, h.2.1, h.2.2.imp id fun ⟨b, off, h1, h2, _⟩ => ⟨b, off, h1, h2⟩⟩
theorem FarB.old {w w' : World} {x y : Option Nat} {a : Option Addr} {len : Nat} {zs : List Int} (h : FarB w x y a len zs) (hb : Below w.heap.size w w') : FarB w' x y a len zs :=
  ⟨h.1, h.2.1, h.2.2.imp id fun ⟨b, off, h1, h2, h3⟩ => ⟨b, off, h1, held_old h2 hb, h3⟩⟩
theorem held_lt {w : World} {b off : Nat} {z : Int} {zs : List Int} (h : Held w b off (z :: zs)) : b < w.heap.size := cell_ltB (h.1 0 z rfl)
theorem held_grown {w w' : World} {row : Option Nat} {b off : Nat} {zs : List Int} (h : Held w b off zs) (hg : w.grownBy w' row) (hne : row ≠ some b) : Held w' b off zs :=
  ⟨fun j z hj => by have hc := h.1 j z hj; rw [World.cell?_of_block (hg.block b (cell_ltB hc) (fun e => hne e.symm))]; exact hc, h.2⟩
theorem FarB.grow1 {w w' : World} {x x' y : Option Nat} {a : Option Addr} {len : Nat} {zs : List Int} (h : FarB w x y a len zs) (hg : w.grownBy w' x) (hx : x' = x ∨ x' = some w.heap.size) : FarB w' x' y a len zs := by
  refine ⟨h.1, h.2.1, ?_⟩
  rcases h.2.2 with h0 | ⟨b, off, h1, h2, h3, h4⟩
  · exact .inl h0
  · cases zs with
    | nil => exact .inl rfl
    | cons z zs =>
      have hlt := held_lt h2
      refine .inr ⟨b, off, h1, held_grown h2 hg h3, ?_, h4⟩
      rcases hx with rfl | rfl
      · exact h3
      · simp; omega
theorem FarB.grow2 {w w' : World} {x y y' : Option Nat} {a : Option Addr} {len : Nat} {zs : List Int} (h : FarB w x y a len zs) (hg : w.grownBy w' y) (hx : y' = y ∨ y' = some w.heap.size) : FarB w' x y' a len zs := by
  refine ⟨h.1, h.2.1, ?_⟩
  rcases h.2.2 with h0 | ⟨b, off, h1, h2, h3, h4⟩
  · exact .inl h0
  · cases zs with
    | nil => exact .inl rfl
    | cons z zs =>
      have hlt := held_lt h2
      refine .inr ⟨b, off, h1, held_grown h2 hg h4, h3, ?_⟩
      rcases hx with rfl | rfl
      · exact h4
      · simp; omega
theorem FarB.of_new {w : World} {B : Nat} {x y : Option Nat} {a : Option Addr} {len : Nat} {zs : List Int} (h : NewB w B a len zs) (hx : ∀ k, x = some k → k < B) (hy : ∀ k, y = some k → k < B) : FarB w x y a len zs :=
  ⟨h.1, h.2.1, h.2.2.imp id fun ⟨b, off, h1, h2, h3⟩ => ⟨b, off, h1, h3, fun e => by have := hx b e; omega, fun e => by have := hy b e; omega⟩⟩

theorem owns_old {w w' : World} {base : Nat} {e : TypeId} {size : Nat} {v : Value} {n : Nat} {xs : List Value} (h : w.ownsRow base e size v n xs) (hb : Below w.heap.size w w') : w'.ownsRow base e size v n xs := by
  obtain ⟨h1, h2 | ⟨g, cap, cur, hv, hg, hh, r⟩⟩ := h
  · exact ⟨h1, .inl h2⟩
  · exact ⟨h1, .inr ⟨g, cap, cur, hv, hg, by rw [hb.block g (Array.getElem?_eq_some_iff.1 hh).1]; exact hh, r⟩⟩
theorem owns_lt {w : World} {base : Nat} {e : TypeId} {size : Nat} {v : Value} {n : Nat} {xs : List Value} (h : w.ownsRow base e size v n xs) : ∀ k, v.ownBlock = some k → k < w.heap.size ∧ base ≤ k := by
  intro k hk
  obtain ⟨h1, ⟨rfl, _⟩ | ⟨g, cap, cur, rfl, hg, hh, r⟩⟩ := h
  · simp [Value.ownBlock] at hk
  · simp [Value.ownBlock] at hk
    subst hk
    exact ⟨(Array.getElem?_eq_some_iff.1 hh).1, hg⟩
theorem owns_grown {w w' : World} {row : Option Nat} {base : Nat} {e : TypeId} {size : Nat} {v : Value} {n : Nat} {xs : List Value} (h : w.ownsRow base e size v n xs) (hg : w.grownBy w' row) (hne : ∀ k, v.ownBlock = some k → row ≠ some k) : w'.ownsRow base e size v n xs := by
  obtain ⟨h1, h2 | ⟨g, cap, cur, rfl, hgb, hh, r⟩⟩ := h
  · exact ⟨h1, .inl h2⟩
  · have := hne g (by simp [Value.ownBlock])
    exact ⟨h1, .inr ⟨g, cap, cur, rfl, hgb, by rw [hg.block g (Array.getElem?_eq_some_iff.1 hh).1 (fun e => this e.symm)]; exact hh, r⟩⟩

/-- the two slices, and the bytes that their elements lead to; nothing shares memory with the slices' own rows -/
structure SplSt (w : World) (B : Nat) (e : TypeId) (vF vR : Value) (fs : List FR) (rs : List Row3) : Prop where
  ownF : w.ownsRow B e 4 vF fs.length (fs.flatMap FR.cells)
  ownR : w.ownsRow B 104 1 vR rs.length (rs.map Row3.val)
  apart : ∀ k, vF.ownBlock = some k → vR.ownBlock ≠ some k
  farF : ∀ f ∈ fs, FarB w vF.ownBlock vR.ownBlock f.a f.len f.d
  farR : ∀ r ∈ rs, FarB w vF.ownBlock vR.ownBlock r.a r.len r.zs

theorem SplSt.nil (w : World) (B : Nat) (e : TypeId) : SplSt w B e (.slice none 0 0) (.slice none 0 0) [] [] :=
  ⟨World.ownsRow_nil _ _ _ _, World.ownsRow_nil _ _ _ _, by simp [Value.ownBlock], by simp, by simp⟩
theorem SplSt.old {w w' : World} {B : Nat} {e : TypeId} {vF vR : Value} {fs : List FR} {rs : List Row3} (h : SplSt w B e vF vR fs rs) (hb : Below w.heap.size w w') : SplSt w' B e vF vR fs rs :=
  ⟨owns_old h.ownF hb, owns_old h.ownR hb, h.apart, fun f hf => (h.farF f hf).old hb, fun r hr => (h.farR r hr).old hb⟩
theorem SplSt.addF {w w' : World} {B : Nat} {e : TypeId} {vF vR vF' : Value} {fs : List FR} {rs : List Row3} (h : SplSt w B e vF vR fs rs) (f : FR) (hf : FarB w vF.ownBlock vR.ownBlock f.a f.len f.d)
    (ho : w'.ownsRow B e 4 vF' (fs.length + 1) (fs.flatMap FR.cells ++ f.cells)) (hg : w.grownBy w' vF.ownBlock) (hx : vF'.ownBlock = vF.ownBlock ∨ vF'.ownBlock = some w.heap.size) : SplSt w' B e vF' vR (fs ++ [f]) rs := by
  refine ⟨by simpa using ho, owns_grown h.ownR hg (fun k hk e => h.apart k e hk), ?_, ?_, fun r hr => (h.farR r hr).grow1 hg hx⟩
  · intro k hk hr
    rcases hx with hx | hx
    · exact h.apart k (hx ▸ hk) hr
    · have := (owns_lt h.ownR k hr).1
      rw [hx] at hk
      simp at hk
      omega
  · intro f' hf'
    rcases List.mem_append.1 hf' with h1 | h1
    · exact (h.farF f' h1).grow1 hg hx
    · simp at h1
      subst h1
      exact hf.grow1 hg hx
theorem SplSt.addR {w w' : World} {B : Nat} {e : TypeId} {vF vR vR' : Value} {fs : List FR} {rs : List Row3} (h : SplSt w B e vF vR fs rs) (r : Row3) (hr : FarB w vF.ownBlock vR.ownBlock r.a r.len r.zs)
    (ho : w'.ownsRow B 104 1 vR' (rs.length + 1) (rs.map Row3.val ++ [r.val])) (hg : w.grownBy w' vR.ownBlock) (hx : vR'.ownBlock = vR.ownBlock ∨ vR'.ownBlock = some w.heap.size) : SplSt w' B e vF vR' fs (rs ++ [r]) := by
  refine ⟨owns_grown h.ownF hg (fun k hk e => h.apart k hk e), by simpa using ho, ?_, fun f hf => (h.farF f hf).grow2 hg hx, ?_⟩
  · intro k hk hrr
    rcases hx with hx | hx
    · exact h.apart k hk (hx ▸ hrr)
    · have := (owns_lt h.ownF k hk).1
      rw [hx] at hrr
      simp at hrr
      omega
  · intro r' hr'
    rcases List.mem_append.1 hr' with h1 | h1
    · exact (h.farR r' h1).grow2 hg hx
    · simp at h1
      subst h1
      exact hr.grow2 hg hx

theorem info22 : (Tryd.prog.info? 104).map (fun i => (i.zero, i.size, i.bytes)) = some (some (.slice none 0 0), 1, 24) := by kernel_rfl
/-- what the laws ask of a type of fields -/
def FieldType (t e : TypeId) : Prop := Tryd.prog.underlying t = some (.slice e) ∧ (Tryd.prog.info? e).map (fun i => (i.zero, i.size, i.bytes)) = some (some (.agg #[.int .i64 0, .int .i64 0, .int .u64 0, .slice none 0 0]), 4, 48)

theorem runF1_append (w : World) (t e ty : TypeId) (hT : FieldType t e) (B : Nat) (vF vR : Value) (fs : List FR) (rs : List Row3) (h : SplSt w B e vF vR fs rs) (f : FR) (hf : FarB w vF.ownBlock vR.ownBlock f.a f.len f.d)
    (ad : Addr) (c : Nat) (hc : ∀ j u, f.cells[j]? = some u → w.cell? (ad.add j) = some u) (hB : B ≤ w.heap.size) (hn : fs.length ≤ 2097152) :
    ∃ vF' w', (Builtin.append_ #[t, t] ty #[vF, .slice (some ad) 1 c]).run Tryd.prog w = .ok vF' w' ∧ SplSt w' B e vF' vR (fs ++ [f]) rs ∧ Below B w w' := by
  obtain ⟨i0, hi, hz0, hz1, hz2⟩ := info_parts hT.2
  obtain ⟨v', w', hr, h1, h2, _, h4⟩ := run_append_own_at (P := Tryd.prog) w B t ty e i0 _ 4 48 hT.1 hi hz0 hz1 hz2 rfl (by decide) vF fs.length _ h.ownF ad 1 c f.cells rfl hc (by intro u hu; simp [FR.cells] at hu; rcases hu with rfl | rfl | rfl | rfl <;> rfl) (by unfold maxLen; omega) (by omega) hB
  exact ⟨v', w', hr, h.addF f hf h1 h2 h4, (Below.refl _ _).grown h2 hB (fun k hk => (owns_lt h.ownF k hk).2)⟩
theorem runR1_append (w : World) (e ty : TypeId) (B : Nat) (vF vR : Value) (fs : List FR) (rs : List Row3) (h : SplSt w B e vF vR fs rs) (r : Row3) (hr : FarB w vF.ownBlock vR.ownBlock r.a r.len r.zs)
    (ad : Addr) (c : Nat) (hc : w.cell? (ad.add 0) = some r.val) (hB : B ≤ w.heap.size) (hn : rs.length ≤ 2097152) :
    ∃ vR' w', (Builtin.append_ #[100, 100] ty #[vR, .slice (some ad) 1 c]).run Tryd.prog w = .ok vR' w' ∧ SplSt w' B e vF vR' fs (rs ++ [r]) ∧ Below B w w' := by
  obtain ⟨i0, hi, hz0, hz1, hz2⟩ := info_parts info22
  obtain ⟨v', w', hr2, h1, h2, _, h4⟩ := run_append_own_at (P := Tryd.prog) w B 100 ty 104 i0 _ 1 24 Tryd.underlying100 hi hz0 hz1 hz2 rfl (by decide) vR rs.length _ h.ownR ad 1 c [r.val] rfl (by intro j u hj; cases j with | zero => simp at hj; subst hj; exact hc | succ j => simp at hj) (by intro u hu; simp at hu; subst hu; rfl) (by unfold maxLen; omega) (by omega) hB
  exact ⟨v', w', hr2, h.addR r hr h1 h2 h4, (Below.refl _ _).grown h2 hB (fun k hk => (owns_lt h.ownR k hk).2)⟩

theorem wpS_F {w : World} {ops : Array Oper} {rest : List Oper} {o : Oper} {a : Act} {Q : Exit → Act → World → Prop} (hgd : o.guard = none) (s x : Operand) (t e : TypeId)
    (ho : o.op = .call { callee := .builtin .append, args := #[s, x], argTypes := #[t, t] }) (hT : FieldType t e) (B : Nat) (vF vR : Value) (fs : List FR) (rs : List Row3) (hs : a.eval s = vF) (h : SplSt w B e vF vR fs rs)
    (f : FR) (hf : FarB w vF.ownBlock vR.ownBlock f.a f.len f.d) (ad : Addr) (c : Nat) (hx : a.eval x = .slice (some ad) 1 c) (hc : ∀ j u, f.cells[j]? = some u → w.cell? (ad.add j) = some u) (hB : B ≤ w.heap.size) (hn : fs.length ≤ 2097152)
    (hk : ∀ v' w', SplSt w' B e v' vR (fs ++ [f]) rs → Below B w w' → wpList Tryd.prog ops Q rest (a.put o.dst v') w') : wpList Tryd.prog ops Q (o :: rest) a w := by
  obtain ⟨v', w', hrun, h1, h2⟩ := runF1_append w t e o.type hT B vF vR fs rs h f hf ad c hc hB hn
  exact Lib.wpList_append_run _ hgd s x t t ho vF _ hs hx v' w' hrun (hk v' w' h1 h2)
theorem wpS_R {w : World} {ops : Array Oper} {rest : List Oper} {o : Oper} {a : Act} {Q : Exit → Act → World → Prop} (hgd : o.guard = none) (s x : Operand) (e : TypeId)
    (ho : o.op = .call { callee := .builtin .append, args := #[s, x], argTypes := #[100, 100] }) (B : Nat) (vF vR : Value) (fs : List FR) (rs : List Row3) (hs : a.eval s = vR) (h : SplSt w B e vF vR fs rs)
    (r : Row3) (hr : FarB w vF.ownBlock vR.ownBlock r.a r.len r.zs) (ad : Addr) (c : Nat) (hx : a.eval x = .slice (some ad) 1 c) (hc : w.cell? (ad.add 0) = some r.val) (hB : B ≤ w.heap.size) (hn : rs.length ≤ 2097152)
    (hk : ∀ v' w', SplSt w' B e vF v' fs (rs ++ [r]) → Below B w w' → wpList Tryd.prog ops Q rest (a.put o.dst v') w') : wpList Tryd.prog ops Q (o :: rest) a w := by
  obtain ⟨v', w', hrun, h1, h2⟩ := runR1_append w e o.type B vF vR fs rs h r hr ad c hc hB hn
  exact Lib.wpList_append_run _ hgd s x 100 100 ho vR _ hs hx v' w' hrun (hk v' w' h1 h2)
end Go.Proofs.YtknijddlacmelaaDoor
namespace Go.Proofs.YtknijddlacmelaaDoor
set_option linter.unusedVariables false
open Go.ChangeShapes Go.WideShapes Go.ChangeAt Go.RowKit

theorem dec_q : ∀ (zs : List Int) (X : Int) (k : Nat), k ≤ 9 → 0 ≤ (dec X k zs).2.1 ∧ (dec X k zs).2.1 ≤ 10
  | [], X, k, _ => by rw [dec_nil]; simp
  | z :: zs, X, k, hk => by
    by_cases hf : k = 9 ∧ 1 < z
    · rw [dec_form _ _ _ _ hf.1 hf.2]; simp
    · by_cases h1 : z < 128
      · rw [dec_end _ _ _ _ hf h1]; simp only []; omega
      · rw [dec_on _ _ _ _ hf (by omega)]
        exact dec_q zs _ (k + 1) (by omega)
theorem dec_triple (zs : List Int) : ∃ N K E, dec 0 0 zs = (N, K, E) := ⟨_, _, _, rfl⟩

end Go.Proofs.YtknijddlacmelaaDoor
