/-
  The walk over the program's flat: declarations, each ahead of those that lie in it.
-/
import Derived.Test.YtpojeinddnjpfaaGreatDoorM0
import Derived.Test.YtpojeinddnjpfaaGreatDoorM19
import Derived.Test.YtpojeinddnjpfaaGreatDoorM20
import Derived.Test.YtpojeinddnjpfaaGreatDoorM25
import Derived.Deep.RegionLaw
import Derived.Deep.RegionHeldLaw
namespace Go.Proofs.YtpojeinddnjpfaaGreatDoor
set_option linter.unusedVariables false
open Go.ChangeShapes Go.WideShapes Go.ChangeAt Go.RowKit

def flatL : Nat → List Dc → List Dc
 | 0, _ => []
 | f + 1, ds => ds.flatMap fun d => d :: flatL f d.inner
theorem flat_loc : ∀ (f : Nat) (a : List UInt8) (ds : List Dc), (locL f a ds).map (·.2) = flatL f ds
 | 0, a, ds => rfl
 | f + 1, a, ds => by
  rw [locL, flatL, List.map_flatMap]
  congr 1
  funext d
  rw [List.map_cons, flat_loc f]
theorem flat_take (f : Nat) (ds : List Dc) {j : Nat} {d : Dc} (hd : ds[j]? = some d) : flatL (f + 1) (ds.take (j + 1)) = flatL (f + 1) (ds.take j) ++ d :: flatL f d.inner := by
 rw [take_snoc hd]
 show (ds.take j ++ [d]).flatMap (fun d => d :: flatL f d.inner) = (ds.take j).flatMap (fun d => d :: flatL f d.inner) ++ d :: flatL f d.inner
 rw [List.flatMap_append]
 simp
theorem Kids.upTo {f F : Nat} (h : f ≤ F) {w : World} {S : Nat → Prop} {fs vs ms ins : Value} {d : Dc} (k : Kids f w S fs vs ms ins d) : Kids F w S fs vs ms ins d := by
 induction F with
 | zero =>
  obtain rfl : f = 0 := by omega
  exact k
 | succ F ih =>
  by_cases he : f = F + 1
  ·subst he; exact k
  ·exact (ih (by omega)).up
theorem DsT.pushS {f : Nat} {wx : World} {base : Nat} {S : Nat → Prop} {v : Value} {ds : List Dc} {rs : List (List Value)} (h : DsT f wx base S v ds rs) (hb0 : base ≤ wx.heap.size) (x : Dc) (kf kv km ki : Value) (hkid : Kids f wx S kf kv km ki x) (hone : ∀ u ∈ drow x kf kv km ki, u.oneCell' = true)
  (hS : ∀ b, S b → b < wx.heap.size ∧ v.ownBlock ≠ some b) {ops : Array Oper} {o : Oper} {a : Act} {K : Act → World → Prop} {Q : Exit → Act → World → Prop} {E : Prop} (hgd : o.guard = none) (s' x' : Operand)
  (ho : o.op = .call { callee := .builtin .append, args := #[s', x'], argTypes := #[35, 35] })
  (crow : Array Value) (hcs : crow = (drow x kf kv km ki).toArray) (hs : a.eval s' = v) (hx : a.eval x' = .slice (some ⟨wx.heap.size, 0, none⟩) 1 1) (hbd : ds.length ≤ 100000)
  (hk : ∀ g cap W, DsT f W base S (.slice (some ⟨g, 0, none⟩) (ds.length + 1) cap) (ds ++ [x]) (rs ++ [drow x kf kv km ki]) → wx.grownBy W v.ownBlock → (v.ownBlock = some g ∨ wx.heap.size ≤ g) → K (a.put o.dst (.slice (some ⟨g, 0, none⟩) (ds.length + 1) cap)) W) :
  if Region.wanted o (yielded ops a.tmps) = true then Oper.wp Tryz.prog o a (wx.alloc (.cells crow 69)) K Q else E := by
 subst hcs
 obtain ⟨i0, hi0, hz0, hz1, hz2⟩ := info_parts infoDcD
 refine step_append_lies _ hgd s' x' 35 ho base 69 i0 _ 8 136 Tryz.underlying35 hi0 hz0 hz1 hz2 rfl (by decide) v ds.length (rs.flatMap id) hs (World.ownsRow.alloc h.own _) ⟨wx.heap.size, 0, none⟩ 1 1 (drow x kf kv km ki) hx rfl ?_ hone (by decide) (by unfold maxLen; omega) (by omega) (by simp; omega) _ rfl ?_
 ·exact World.news_of_block (cs := (drow x kf kv km ki).toArray) (t := 69) (fr := (0, 0)) (by show (wx.heap.push _)[wx.heap.size]? = _; simp)
 ·intro g cap W hown hg hat hlt
  have hsa : (wx.alloc (.cells (drow x kf kv km ki).toArray 69)).heap.size = wx.heap.size + 1 := by simp
  have hkW : ∀ b, b < wx.heap.size → v.ownBlock ≠ some b → W.heap[b]? = wx.heap[b]? := fun b hb hne => by
   rw [hg.block b (by rw [hsa]; omega) (fun e => hne e.symm), alloc_heap_old _ _ _ hb]
  refine hk g cap W ⟨?_, ?_, ?_⟩ ((World.grownBy_alloc _ _ _).trans hg) (hat.imp id fun e => by rw [e]; simp)
  ·rw [List.length_append, List.flatMap_append]
   simpa using hown
  ·rw [List.length_append, List.length_append, h.len]; rfl
  ·intro j d hj
   by_cases hjl : j < ds.length
   ·rw [List.getElem?_append_left hjl] at hj
    obtain ⟨f1, v1, m1, i1, hr1, hk1⟩ := h.kids j d hj
    exact ⟨f1, v1, m1, i1, by rw [List.getElem?_append_left (by rw [h.len]; exact hjl)]; exact hr1, hk1.old fun b hb' => hkW b (hS b hb').1 (hS b hb').2⟩
   ·have hjn := (List.getElem?_eq_some_iff.1 hj).1
    rw [List.length_append] at hjn
    have hje : j = ds.length := by simp at hjn; omega
    subst hje
    rw [List.getElem?_append_right (Nat.le_refl _), Nat.sub_self] at hj
    have e : x = d := by simpa using hj
    subst e
    exact ⟨kf, kv, km, ki, by rw [← h.len, List.getElem?_append_right (Nat.le_refl _), Nat.sub_self]; rfl, hkid.old fun b hb' => hkW b (hS b hb').1 (hS b hb').2⟩
theorem DsT.drew {f : Nat} {wx : World} {base : Nat} {S : Nat → Prop} {v : Value} {ds : List Dc} {rs : List (List Value)} (h : DsT f wx base S v ds rs) : DsT f wx.drew base S v ds rs := h.keep (fun _ _ => rfl) (fun _ _ => rfl) (fun _ h => h)
theorem flatL_len : ∀ (f : Nat) (ds : List Dc), (flatL f ds).length ≤ ctL f ds := by
 intro f ds
 have h1 := allL_len f [] ds
 rw [loc_all, List.length_map] at h1
 rw [← flat_loc f [], List.length_map]
 exact h1
def FlatAns (F : Nat) (S : Nat → Prop) (w : World) (base : Nat) (ob : Option Nat) (xs : List Dc) (e : Ending) (w' : World) : Prop := ∃ rv rs', e = .returned rv ∧ DsT F w' base S rv xs rs' ∧ w.grownBy w' ob ∧ (∀ b, rv.ownBlock = some b → ob = some b ∨ w.heap.size ≤ b)
set_option maxHeartbeats 16000000 in
set_option maxRecDepth 20000 in
theorem flatP_any (F : Nat) (S : Nat → Prop) (base : Nat) (hSb : ∀ b, S b → b < base) : ∀ (f : Nat), f ≤ F + 1 → ∀ (ds : List Dc) (v : Value) (ov : Value) (xs : List Dc) (rs : List (List Value)) (w : World), FitD f ds → xs.length + ctL f ds ≤ 50000 → HeldD f w S v ds → base ≤ w.heap.size → DsT F w base S ov xs rs →
  Calls Tryz.prog 56 #[ov, v] w fun e w' => FlatAns F S w base ov.ownBlock (xs ++ flatL f ds) e w' := by
 intro f
 induction f with
 | zero =>
  rintro _ ds v ov xs rs w _ _ ⟨rfl, ad, c, rfl⟩ hb0 hD
  obtain ⟨oa, oc, hov⟩ := own_slice hD.own
  subst hov
  have HD := Lib.hid hD
  clear hD
  go_enter Tryz.func56, Tryz.ntmps56
  go_wp2_with fail
  go_loopw [0, 9] (fun u i wr => u = .slice oa xs.length oc ∧ i = .int .i64 0 ∧ wr = w) (fun _ _ _ => 0)
  case atStart => exact ⟨rfl, rfl, rfl⟩
  case round =>
   obtain ⟨rfl, rfl, hwr⟩ := hrel
   subst hwr
   go_wp2_with fail
   go_ret
   exact ⟨_, rs, rfl, by rw [show flatL 0 [] = [] from rfl, List.append_nil]; exact HD.out, World.grownBy.refl _ _, fun b hb => .inl hb⟩
 | succ f ih =>
  intro hfF ds v ov xs rs w hfit hbd hH hb0 hD
  have HFT := Lib.hid hfit
  have HH := Lib.hid hH
  have hlen := hfit.1
  have HBD := Lib.hid hbd
  have HD := Lib.hid hD
  obtain ⟨ad, c, rfl⟩ := hH.isSlD
  obtain ⟨oa, oc, hov⟩ := own_slice hD.own
  obtain ⟨OV, hOV⟩ : ∃ u, ov = u := ⟨_, rfl⟩
  have HOV := Lib.hid hov
  obtain ⟨OB, hOB⟩ : ∃ u, ov.ownBlock = u := ⟨_, rfl⟩
  have HOB := Lib.hid hOB
  obtain ⟨n, hn⟩ : ∃ n, ds.length = n := ⟨_, rfl⟩
  have HN := Lib.hid hn
  rw [hn] at hlen ⊢
  rw [hOB]
  clear hfit hbd hH hn hD hOV hOB
  subst hov
  go_enter Tryz.func56, Tryz.ntmps56
  go_wp2_with fail
  go_loopw [0, 9] (fun u i wr => ∃ (j : Nat) (rs' : List (List Value)), i = .int .i64 (j : Int) ∧ j ≤ n ∧ DsT F wr base S u (xs ++ flatL (f + 1) (ds.take j)) rs' ∧ w.grownBy wr OB ∧ (∀ b, u.ownBlock = some b → OB = some b ∨ w.heap.size ≤ b)) (fun _ i _ => n - (intOf i).toNat)
  case atStart => exact ⟨0, rs, rfl, by omega, by rw [List.take_zero, show flatL (f + 1) [] = [] from rfl, List.append_nil]; exact HD.out, World.grownBy.refl _ _, fun b hb => .inl (HOB.out ▸ hb)⟩
  case round =>
   generalize wr = w1 at *
   obtain ⟨j, rs1, rfl, hj, hD1, hg1, hat1⟩ := hrel
   obtain ⟨pa, pc, hpv⟩ := own_slice hD1.own
   subst hpv
   have HD1 := Lib.hid hD1
   have HG1 := Lib.hid hg1
   have HA1 := Lib.hid hat1
   have hs1 := hg1.size
   clear hD1 hg1 hat1
   by_cases hjn : j < n
   ·obtain ⟨d, hd⟩ : ∃ d, ds[j]? = some d := ⟨_, List.getElem?_eq_getElem (by have := HN.out; omega)⟩
    have hct := ct_take f ds hd
    have hfd := HFT.out.2 d (List.mem_of_getElem? hd)
    have hfl1 := flatL_len (f + 1) (ds.take j)
    have hcd : ctD f d = 1 + d.fields.length + d.values.length + d.methods.length + ctL f d.inner := rfl
    have hbd := HBD.out
    have HXN : Hid (xs ++ flatL (f + 1) (ds.take (j + 1)) = xs ++ flatL (f + 1) (ds.take j) ++ [d] ++ flatL f d.inner) := by
     refine (?_ : _ = _)
     rw [flat_take f ds hd]; simp
    have hBO : ∀ b, OB = some b → base ≤ b := fun b hb => (own_block HD.out.own b (HOB.out.trans hb)).1
    have hold : ∀ b, b < base → w1.heap[b]? = w.heap[b]? := fun b hb => HG1.out.block b (by omega) (fun e => by have := hBO b e.symm; omega)
    obtain ⟨g, o, c0, fa, fc, va, vc, ma, mc, ia, ic, hsl, hg, e0, e1, e2, e3, e4, e5, e6, e7, kd⟩ := decl_at HH.out (W := w1) (fun b hb => hold b (hSb b hb)) hd
    rw [HN.out] at hsl
    obtain ⟨rfl, rfl⟩ : ad = some ⟨g, o, none⟩ ∧ c = c0 := by
     injection hsl with h1 _ h3
     exact ⟨h1, h3⟩
    have HKD := Lib.hid kd
    obtain ⟨X, hX⟩ : ∃ X, xs ++ flatL (f + 1) (ds.take j) = X := ⟨_, rfl⟩
    have hXl : X.length + 1 + ctL f d.inner ≤ 50000 := by
     rw [← hX, List.length_append]; omega
    rw [hX] at HD1 HXN HA1 ⊢
    have hj0 : (0 : Int) ≤ (j : Int) := by omega
    have hj1 : (j : Int) < (n : Int) := by omega
    have hwq : IntKind.i64.wrap ((j : Int) + 1) = (j : Int) + 1 := by rw [IntKind.wrap_i64]; omega
    have HFD := Lib.hid hfd.2.2.2
    have HBO := Lib.hid hBO
    have hXb : X.length ≤ 100000 := by omega
    clear hX hct hfl1 hcd hbd hsl kd hfd hold hBO hd
    have hC : (w1.alloc (.cells #[.int .i64 d.kind, .string (mkB d.name), .int .i64 d.line, .int .i64 d.col, .slice fa d.fields.length fc, .slice va d.values.length vc, .slice ma d.methods.length mc, .slice ia d.inner.length ic] 69)).heap[w1.heap.size]? = some (.cells #[.int .i64 d.kind, .string (mkB d.name), .int .i64 d.line, .int .i64 d.col, .slice fa d.fields.length fc, .slice va d.values.length vc, .slice ma d.methods.length mc, .slice ia d.inner.length ic] 69 (0, 0)) := alloc_heap_new _ _
    have hCb : Below w1.heap.size w1 (w1.alloc (.cells #[.int .i64 d.kind, .string (mkB d.name), .int .i64 d.line, .int .i64 d.col, .slice fa d.fields.length fc, .slice va d.values.length vc, .slice ma d.methods.length mc, .slice ia d.inner.length ic] 69)) := (Below.refl _ w1).alloc (Nat.le_refl _) _
    have HDY : Hid (DsT F (w1.alloc (.cells #[.int .i64 d.kind, .string (mkB d.name), .int .i64 d.line, .int .i64 d.col, .slice fa d.fields.length fc, .slice va d.values.length vc, .slice ma d.methods.length mc, .slice ia d.inner.length ic] 69)) base S (.slice pa X.length pc) X rs1) := HD1.out.keep (fun b hb => alloc_heap_old _ _ _ (own_block HD1.out.own b hb).2) (fun b hb => alloc_heap_old _ _ _ (by have hb' : b < base := hSb b hb; omega)) (fun _ h => h)
    have hszY : (w1.alloc (.cells #[.int .i64 d.kind, .string (mkB d.name), .int .i64 d.line, .int .i64 d.col, .slice fa d.fields.length fc, .slice va d.values.length vc, .slice ma d.methods.length mc, .slice ia d.inner.length ic] 69)).heap.size = w1.heap.size + 1 := by simp
    go_upto_region 4 with fail
    generalize (w1.alloc (.cells #[.int .i64 d.kind, .string (mkB d.name), .int .i64 d.line, .int .i64 d.col, .slice fa d.fields.length fc, .slice va d.values.length vc, .slice ma d.methods.length mc, .slice ia d.inner.length ic] 69)) = Y at *
    have l0 := cell_at hC 0 rfl
    have l1 := cell_at hC 1 rfl
    have l2 := cell_at hC 2 rfl
    have l3 := cell_at hC 3 rfl
    have l4 := cell_at hC 4 rfl
    have l5 := cell_at hC 5 rfl
    have l6 := cell_at hC 6 rfl
    have l7 := cell_at hC 7 rfl
    have HYB := Lib.hid hCb
    have HKY : Hid (Kids F Y.drew S (.slice fa d.fields.length fc) (.slice va d.values.length vc) (.slice ma d.methods.length mc) (.slice ia d.inner.length ic) d) := (Kids.upTo (by omega) (HKD.out.old fun b hb => hCb.block b (by have hb' : b < base := hSb b hb; omega))).old fun _ _ => rfl
    have hown1 := fun b hb => own_block HD1.out.own b hb
    have HOW := Lib.hid hown1
    have hY := hC
    have hYr : Y.drew.heap[w1.heap.size]? = some (.cells #[.int .i64 d.kind, .string (mkB d.name), .int .i64 d.line, .int .i64 d.col, .slice fa d.fields.length fc, .slice va d.values.length vc, .slice ma d.methods.length mc, .slice ia d.inner.length ic] 69 (0, 0)) := hC
    have hYa : ∀ ob, (Y.drew.alloc ob).heap[w1.heap.size]? = some (.cells #[.int .i64 d.kind, .string (mkB d.name), .int .i64 d.line, .int .i64 d.col, .slice fa d.fields.length fc, .slice va d.values.length vc, .slice ma d.methods.length mc, .slice ia d.inner.length ic] 69 (0, 0)) := fun ob => by rw [alloc_heap_old _ _ _ (by show _ < Y.heap.size; omega)]; exact hC
    have hYad : ∀ ob, (Y.alloc ob).drew.heap[w1.heap.size]? = some (.cells #[.int .i64 d.kind, .string (mkB d.name), .int .i64 d.line, .int .i64 d.col, .slice fa d.fields.length fc, .slice va d.values.length vc, .slice ma d.methods.length mc, .slice ia d.inner.length ic] 69 (0, 0)) := hYa
    have hlY : w1.heap.size < Y.heap.size := by omega
    have hfc0 : ∀ W : World, W.heap[w1.heap.size]? = some (.cells #[.int .i64 d.kind, .string (mkB d.name), .int .i64 d.line, .int .i64 d.col, .slice fa d.fields.length fc, .slice va d.values.length vc, .slice ma d.methods.length mc, .slice ia d.inner.length ic] 69 (0, 0)) → W.cell? ⟨w1.heap.size, 0, none⟩ = some (.int .i64 d.kind) := fun W h => by simp [World.cell?, h]
    have hfc1 : ∀ W : World, W.heap[w1.heap.size]? = some (.cells #[.int .i64 d.kind, .string (mkB d.name), .int .i64 d.line, .int .i64 d.col, .slice fa d.fields.length fc, .slice va d.values.length vc, .slice ma d.methods.length mc, .slice ia d.inner.length ic] 69 (0, 0)) → W.cell? ⟨w1.heap.size, 1, none⟩ = some (.string (mkB d.name)) := fun W h => by simp [World.cell?, h]
    have hfc2 : ∀ W : World, W.heap[w1.heap.size]? = some (.cells #[.int .i64 d.kind, .string (mkB d.name), .int .i64 d.line, .int .i64 d.col, .slice fa d.fields.length fc, .slice va d.values.length vc, .slice ma d.methods.length mc, .slice ia d.inner.length ic] 69 (0, 0)) → W.cell? ⟨w1.heap.size, 2, none⟩ = some (.int .i64 d.line) := fun W h => by simp [World.cell?, h]
    have hfc3 : ∀ W : World, W.heap[w1.heap.size]? = some (.cells #[.int .i64 d.kind, .string (mkB d.name), .int .i64 d.line, .int .i64 d.col, .slice fa d.fields.length fc, .slice va d.values.length vc, .slice ma d.methods.length mc, .slice ia d.inner.length ic] 69 (0, 0)) → W.cell? ⟨w1.heap.size, 3, none⟩ = some (.int .i64 d.col) := fun W h => by simp [World.cell?, h]
    have hfc4 : ∀ W : World, W.heap[w1.heap.size]? = some (.cells #[.int .i64 d.kind, .string (mkB d.name), .int .i64 d.line, .int .i64 d.col, .slice fa d.fields.length fc, .slice va d.values.length vc, .slice ma d.methods.length mc, .slice ia d.inner.length ic] 69 (0, 0)) → W.cell? ⟨w1.heap.size, 4, none⟩ = some (.slice fa d.fields.length fc) := fun W h => by simp [World.cell?, h]
    have hfc5 : ∀ W : World, W.heap[w1.heap.size]? = some (.cells #[.int .i64 d.kind, .string (mkB d.name), .int .i64 d.line, .int .i64 d.col, .slice fa d.fields.length fc, .slice va d.values.length vc, .slice ma d.methods.length mc, .slice ia d.inner.length ic] 69 (0, 0)) → W.cell? ⟨w1.heap.size, 5, none⟩ = some (.slice va d.values.length vc) := fun W h => by simp [World.cell?, h]
    have hfc6 : ∀ W : World, W.heap[w1.heap.size]? = some (.cells #[.int .i64 d.kind, .string (mkB d.name), .int .i64 d.line, .int .i64 d.col, .slice fa d.fields.length fc, .slice va d.values.length vc, .slice ma d.methods.length mc, .slice ia d.inner.length ic] 69 (0, 0)) → W.cell? ⟨w1.heap.size, 6, none⟩ = some (.slice ma d.methods.length mc) := fun W h => by simp [World.cell?, h]
    have hfc7 : ∀ W : World, W.heap[w1.heap.size]? = some (.cells #[.int .i64 d.kind, .string (mkB d.name), .int .i64 d.line, .int .i64 d.col, .slice fa d.fields.length fc, .slice va d.values.length vc, .slice ma d.methods.length mc, .slice ia d.inner.length ic] 69 (0, 0)) → W.cell? ⟨w1.heap.size, 7, none⟩ = some (.slice ia d.inner.length ic) := fun W h => by simp [World.cell?, h]
    clear hC hCb e0 e1 e2 e3 e4 e5 e6 e7 hown1 hszY
    have hY2f : ∀ W2 : World, Y.drew.grownBy W2 (Value.slice pa X.length pc).ownBlock → W2.heap[w1.heap.size]? = some (.cells #[.int .i64 d.kind, .string (mkB d.name), .int .i64 d.line, .int .i64 d.col, .slice fa d.fields.length fc, .slice va d.values.length vc, .slice ma d.methods.length mc, .slice ia d.inner.length ic] 69 (0, 0)) := fun W2 hgr => by
     rw [hgr.block _ hlY (fun e => by have := HOW.out _ e.symm; omega)]; exact hYr
    have hcall : ∀ (g2 cap2 : Nat) (W2 : World), DsT F W2 base S (.slice (some ⟨g2, 0, none⟩) (X.length + 1) cap2) (X ++ [d]) (rs1 ++ [drow d (.slice fa d.fields.length fc) (.slice va d.values.length vc) (.slice ma d.methods.length mc) (.slice ia d.inner.length ic)]) → Y.drew.grownBy W2 (Value.slice pa X.length pc).ownBlock →
      Calls Tryz.prog 56 #[.slice (some ⟨g2, 0, none⟩) (X.length + 1) cap2, .slice ia d.inner.length ic] W2 fun e w' => FlatAns F S W2 base (some g2) (X ++ [d] ++ flatL f d.inner) e w' := fun g2 cap2 W2 hD2 hgr => by
     have hsz2 := hgr.size
     have hsz2' : Y.heap.size ≤ W2.heap.size := hsz2
     refine ih (by omega) d.inner _ _ (X ++ [d]) _ W2 HFD.out (by rw [List.length_append]; simp; omega) (HeldD.old (fun b hb => ?_) HKD.out.2.2.2) (by omega) hD2
     rw [hgr.block b (by have hb' : b < base := hSb b hb; show b < Y.heap.size; omega) (fun e => by have := HOW.out _ e.symm; have hb' : b < base := hSb b hb; omega)]
     exact HYB.out.block b (by have hb' : b < base := hSb b hb; omega)
    have hY3f : ∀ (g2 : Nat) (W2 W3 : World), ((Value.slice pa X.length pc).ownBlock = some g2 ∨ Y.drew.heap.size ≤ g2) → Y.drew.grownBy W2 (Value.slice pa X.length pc).ownBlock → W2.heap[w1.heap.size]? = some (.cells #[.int .i64 d.kind, .string (mkB d.name), .int .i64 d.line, .int .i64 d.col, .slice fa d.fields.length fc, .slice va d.values.length vc, .slice ma d.methods.length mc, .slice ia d.inner.length ic] 69 (0, 0)) → W2.grownBy W3 (some g2) → W3.heap[w1.heap.size]? = some (.cells #[.int .i64 d.kind, .string (mkB d.name), .int .i64 d.line, .int .i64 d.col, .slice fa d.fields.length fc, .slice va d.values.length vc, .slice ma d.methods.length mc, .slice ia d.inner.length ic] 69 (0, 0)) := fun g2 W2 W3 hat hgr2 h2 hgr => by
     have hs2 := hgr2.size
     have hs2' : Y.heap.size ≤ W2.heap.size := hs2
     rw [hgr.block _ (by omega) (fun e => by
      have e' : w1.heap.size = g2 := Option.some.inj e
      subst e'
      rcases hat with e | e
      ·have := HOW.out _ e; omega
      ·have e' : Y.heap.size ≤ w1.heap.size := e; omega)]
     exact h2
    go_region_held_law (fun W => W.heap[w1.heap.size]? = some (.cells #[.int .i64 d.kind, .string (mkB d.name), .int .i64 d.line, .int .i64 d.col, .slice fa d.fields.length fc, .slice va d.values.length vc, .slice ma d.methods.length mc, .slice ia d.inner.length ic] 69 (0, 0))) (first | with_reducible exact hY3 | with_reducible exact hY2 | with_reducible exact hYa _ | with_reducible exact hYad _ | with_reducible exact hY | with_reducible exact hYr) (first
     | (refine DsT.pushS HDY.out.drew (by show base ≤ Y.heap.size; omega) d _ _ _ _ HKY.out (by intro u hu; simp only [drow, List.mem_cons, List.not_mem_nil, or_false] at hu; rcases hu with rfl | rfl | rfl | rfl | rfl | rfl | rfl | rfl <;> rfl) (fun b hb => ⟨(by have hb' : b < base := hSb b hb; show b < Y.heap.size; omega), fun e => by have := HOW.out _ e; have hb' : b < base := hSb b hb; omega⟩) rfl _ _ rfl _ rfl rfl rfl hXb ?_; intro g2 cap2 W2 hD2 hgr2 hat2; have hY2 := hY2f W2 hgr2)
     | (go_at_call 56; refine (hcall g2 cap2 W2 hD2 hgr2).mono ?_; rintro e W3 ⟨rv, rs3, rfl, hD3, hgr3, hat3⟩; have hY3 := hY3f g2 W2 W3 hat2 hgr2 hY2 hgr3))
    all_goals
     have hgY : w1.grownBy W2 (Value.slice pa X.length pc).ownBlock := World.grownBy.trans ⟨HYB.out.os, HYB.out.tape, HYB.out.output, HYB.out.size, fun k hk _ => HYB.out.block k hk⟩ ⟨hgr2.os, hgr2.tape, hgr2.output, hgr2.size, hgr2.block⟩
     have hgw2 : w.grownBy W2 OB := grow_then HG1.out hgY (fun b hb => (HA1.out b hb).symm)
     have hg3 : W2.grownBy W3 (some g2) := hgr3
     have hat2' : OB = some g2 ∨ w.heap.size ≤ g2 := by
      rcases hat2 with e | e
      ·exact HA1.out _ e
      ·right; have e' : Y.heap.size ≤ g2 := e; omega
     have hgw3 : w.grownBy W3 OB := grow_then hgw2 hg3 (fun b hb => by cases hb; exact hat2'.symm)
     have hsW : w.heap.size ≤ W2.heap.size := hgw2.size
     have HGW := Lib.hid hgw3
     have HD3 := Lib.hid hD3
     have HA3 : Hid (∀ b, rv.ownBlock = some b → OB = some b ∨ w.heap.size ≤ b) := fun b hb => by
      rcases hat3 b hb with e | e
      ·have e' : g2 = b := Option.some.inj e
       subst e'; exact hat2'
      ·right; omega
     obtain ⟨ra, rc, hrv⟩ := own_slice hD3.own
     subst hrv
     clear hY hYr hYa hYad hY2f hY3f hY3 hcall hgY hgw2 hg3 hat2' hgw3 hD3 hgr3 hat3 hD2 hgr2 hat2 hY2 hfc0 hfc1 hfc2 hfc3 hfc4 hfc5 hfc6 hfc7 l0 l1 l2 l3 l4 l5 l6 l7
     go_wp2_with fail
     go_roundw
     case rel => exact ⟨j + 1, rs3, by go_num, by omega, by rw [HXN.out]; exact HD3.out, HGW.out, HA3.out⟩
     case measure => simp [intOf]; omega
   ·have hjn' : ¬ (j : Int) < (n : Int) := by omega
    have hte : ds.take j = ds := List.take_of_length_le (by have := HN.out; omega)
    rw [hte] at HD1 ⊢
    obtain ⟨X, hX⟩ : ∃ X, xs ++ flatL (f + 1) ds = X := ⟨_, rfl⟩
    rw [hte, hX] at HA1
    rw [hX] at HD1 ⊢
    have HXE := Lib.hid hX
    clear hte hX
    go_wp2_with fail
    go_ret
    exact ⟨_, rs1, rfl, by rw [HXE.out]; exact HD1.out, HG1.out, HA1.out⟩
end Go.Proofs.YtpojeinddnjpfaaGreatDoor
