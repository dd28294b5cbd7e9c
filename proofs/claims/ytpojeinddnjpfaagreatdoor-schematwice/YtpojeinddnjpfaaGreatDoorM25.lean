/-
  What the program's Find answers, as plain functions; slices of whole names; the walks over the document's All and the program's All.
-/
import Derived.Test.YtpojeinddnjpfaaGreatDoorM0
import Derived.Test.YtpojeinddnjpfaaGreatDoorM17
import Derived.Test.YtpojeinddnjpfaaGreatDoorM18
import Derived.Test.YtpojeinddnjpfaaGreatDoorM21
import Derived.Test.YtpojeinddnjpfaaGreatDoorM23
import Derived.Test.YtpojeinddnjpfaaGreatDoorM24
import Derived.Laws.AppendOwnNone
import Derived.Deep.RegionLaw
import Derived.Deep.RegionHeldLaw
import Derived.Deep.RegionWith
import Derived.Laws.AppendOwn
import Derived.OwnWalk
import Derived.Lib.ValidLaws
import Derived.Lib.TrimUEq
namespace Go.Proofs.YtpojeinddnjpfaaGreatDoor
set_option linter.unusedVariables false


end Go.Proofs.YtpojeinddnjpfaaGreatDoor
namespace Go.Proofs.YtpojeinddnjpfaaGreatDoor
set_option linter.unusedVariables false
open Go.ChangeShapes Go.WideShapes Go.ChangeAt Go.RowKit

theorem mkB_cat (a b : List UInt8) : mkB (a ++ b) = mkB a ++ mkB b := by
 apply ByteArray.ext
 rw [ByteArray.data_append]
 apply Array.ext'
 rw [Array.toList_append]
 rfl
def srow (x : Sy) : List Value := [.string (mkB x.1), .int .i64 x.2]
theorem infoSP : (Tryz.prog.info? 115).map (fun i => (i.zero, i.size, i.bytes)) = some (some (.agg #[.string ⟨#[]⟩, .int .i64 0]), 2, 24) := by kernel_rfl
section
variable {T t : TypeId} {base : Nat} {wx : World} {v : Value} {xs : List Sy}
theorem sy_pushS (ht : Tryz.prog.underlying t = some (.slice T)) (hin : (Tryz.prog.info? T).map (fun i => (i.zero, i.size, i.bytes)) = some (some (.agg #[.string ⟨#[]⟩, .int .i64 0]), 2, 24))
  (h : wx.ownsRow base T 2 v xs.length (xs.flatMap srow)) (hb0 : base ≤ wx.heap.size) (x : Sy) {ops : Array Oper} {o : Oper} {a : Act} {K : Act → World → Prop} {Q : Exit → Act → World → Prop} {E : Prop} (hgd : o.guard = none) (s' x' : Operand)
  (ho : o.op = .call { callee := .builtin .append, args := #[s', x'], argTypes := #[t, t] }) (crow : Array Value) (hcs : crow = (srow x).toArray)
  (hs : a.eval s' = v) (hx : a.eval x' = .slice (some ⟨wx.heap.size, 0, none⟩) 1 1) (hbd : xs.length ≤ 100000)
  (hk : ∀ g cap W, W.ownsRow base T 2 (.slice (some ⟨g, 0, none⟩) (xs.length + 1) cap) (xs ++ [x]).length ((xs ++ [x]).flatMap srow) → wx.grownBy W v.ownBlock → (v.ownBlock = some g ∨ wx.heap.size ≤ g) → K (a.put o.dst (.slice (some ⟨g, 0, none⟩) (xs.length + 1) cap)) W) :
  if Region.wanted o (yielded ops a.tmps) = true then Oper.wp Tryz.prog o a (wx.alloc (.cells crow T)) K Q else E := by
 subst hcs
 obtain ⟨i0, hi0, hz0, hz1, hz2⟩ := info_parts hin
 refine step_append_lies _ hgd s' x' t ho base T i0 _ 2 24 ht hi0 hz0 hz1 hz2 rfl (by decide) v xs.length (xs.flatMap srow) hs (World.ownsRow.alloc h _) ⟨wx.heap.size, 0, none⟩ 1 1 (srow x) hx rfl ?_ (by intro u hu; simp only [srow, List.mem_cons, List.not_mem_nil, or_false] at hu; rcases hu with rfl | rfl <;> rfl) (by decide) (by unfold maxLen; omega) (by omega) (by simp; omega) _ rfl ?_
 ·exact World.news_of_block (cs := (srow x).toArray) (t := T) (fr := (0, 0)) (by show (wx.heap.push _)[wx.heap.size]? = _; simp)
 ·intro g cap W hown hg hat hlt
  refine hk g cap W ?_ ((World.grownBy_alloc _ _ _).trans hg) (hat.imp id fun e => by rw [e]; simp)
  rw [List.length_append, List.flatMap_append]
  simpa using hown
end
theorem sy_at {T : TypeId} {base : Nat} {w W : World} {v : Value} {xs : List Sy} (h : w.ownsRow base T 2 v xs.length (xs.flatMap srow)) (hW : ∀ b, v.ownBlock = some b → W.heap[b]? = w.heap[b]?) {q : Nat} {x : Sy} (hx : xs[q]? = some x) :
  ∃ g c, v = .slice (some ⟨g, 0, none⟩) xs.length c ∧ base ≤ g ∧ g < w.heap.size ∧ W.cell? ⟨g, q * 2, none⟩ = some (.string (mkB x.1)) ∧ W.cell? ⟨g, q * 2 + 1, none⟩ = some (.int .i64 x.2) := by
 have hq := (List.getElem?_eq_some_iff.1 hx).1
 obtain ⟨kl, ⟨ku, k0⟩ | ⟨g, cap, cur, ku, hg, hh, h3, h4, h5, h6⟩⟩ := h
 ·omega
 ·have hb := hW g (by rw [ku]; rfl)
  have key : ∀ i u, (srow x)[i]? = some u → i < 2 → W.cell? ⟨g, q * 2 + i, none⟩ = some u := by
   intro i u hu hi
   have e := flat_at (k := 2) (row := srow) (fun _ => rfl) xs q x i hi hx
   rw [← h6, List.getElem?_take, if_pos (by omega), hu] at e
   rw [World.cell?_of_block hb]
   simp only [World.cell?, hh]
   simpa using e
  exact ⟨g, cap, ku, hg, (Array.getElem?_eq_some_iff.1 hh).1, key 0 _ rfl (by decide), key 1 _ rfl (by decide)⟩
theorem allL_len : ∀ (f : Nat) (a : List UInt8) (ds : List Dc), (allL f a ds).length ≤ ctL f ds
 | 0, a, ds => by simp [allL]
 | f + 1, a, [] => by simp [allL]
 | f + 1, a, d :: t => by
  rw [allL_cons, ctL_cons]
  have h1 := allL_len f (a ++ d.name ++ [46]) d.inner
  have h2 := allL_len (f + 1) a t
  simp only [List.length_cons, List.length_append]
  unfold ctD
  omega
theorem ct_take (f : Nat) (ds : List Dc) {j : Nat} {d : Dc} (hd : ds[j]? = some d) : ctL (f + 1) (ds.take j) + ctD f d ≤ ctL (f + 1) ds := by
 have e : ds = ds.take j ++ d :: ds.drop (j + 1) := by
  have hj := (List.getElem?_eq_some_iff.1 hd).1
  have := (List.getElem?_eq_some_iff.1 hd).2
  rw [← this, ← List.drop_eq_getElem_cons hj, List.take_append_drop]
 have key : ∀ a b : List Dc, ctL (f + 1) (a ++ b) = ctL (f + 1) a + ctL (f + 1) b := by
  intro a b
  simp [ctL]
 rw [e, key, ctL_cons]
 rw [← e]
 omega
theorem all_take (f : Nat) (a : List UInt8) (ds : List Dc) {j : Nat} {d : Dc} (hd : ds[j]? = some d) : allL (f + 1) a (ds.take (j + 1)) = allL (f + 1) a (ds.take j) ++ [(a ++ d.name, d.kind)] ++ allL f (a ++ d.name ++ [46]) d.inner := by
 rw [List.take_add_one, hd]
 exact allL_snoc f a d (ds.take j)
end Go.Proofs.YtpojeinddnjpfaaGreatDoor
namespace Go.Proofs.YtpojeinddnjpfaaGreatDoor
set_option linter.unusedVariables false
open Go.ChangeShapes Go.WideShapes Go.ChangeAt Go.RowKit

theorem mk_take (l : List UInt8) (k : Nat) : (mkB l).extract 0 k = mkB (l.take k) := by
 apply ByteArray.ext
 rw [ByteArray.data_extract]
 apply Array.ext'
 rw [Array.toList_extract]
 show List.extract l 0 k = l.take k
 rw [List.extract_eq_take_drop]; simp
theorem mk_drop (l : List UInt8) (k : Nat) : (mkB l).extract k (mkB l).size = mkB (l.drop k) := by
 apply ByteArray.ext
 rw [ByteArray.data_extract, mkB_size]
 apply Array.ext'
 rw [Array.toList_extract]
 show List.extract l k l.length = l.drop k
 rw [List.extract_eq_take_drop]
 exact List.take_of_length_le (by simp)
theorem sl_to (l : List UInt8) (k : Nat) (hk : k ≤ l.length) (W : World) : (Instr.slice 9 (.string (mkB l)) none (some (.int .i64 (k : Int))) none).run Tryz.prog W = .ok (.string (mkB (l.take k))) W := by
 rw [run_slice_string_to_if W 9 _ .i64 (k : Int) Tryz.underlying9, if_pos ⟨by omega, by rw [mkB_size]; omega⟩, Int.toNat_natCast, mk_take]
theorem sl_from (l : List UInt8) (k : Nat) (hk : k ≤ l.length) (W : World) : (Instr.slice 9 (.string (mkB l)) (some (.int .i64 (k : Int))) none none).run Tryz.prog W = .ok (.string (mkB (l.drop k))) W := by
 rw [run_slice_string_from_if W 9 _ .i64 (k : Int) Tryz.underlying9, if_pos ⟨by omega, by rw [mkB_size]; omega⟩, Int.toNat_natCast, mk_drop]
set_option maxHeartbeats 16000000 in
set_option maxRecDepth 20000 in
theorem appendAll_any : ∀ (f : Nat) (ds : List Dc) (v : Value) (a : List UInt8) (base : Nat) (ov : Value) (xs : List Sy) (w : World), FitD f ds → TxtD f ds → a.length + 200000001 * ctL f ds ≤ 1000000000000 → xs.length + ctL f ds ≤ 50000 → HeldD f w (fun b => b < base) v ds → base ≤ w.heap.size →
  w.ownsRow base 115 2 ov xs.length (xs.flatMap srow) →
  Calls Tryz.prog 99 #[ov, .agg #[.string (mkB a), v]] w fun e w' => ∃ rv, e = .returned rv ∧ w'.ownsRow base 115 2 rv (xs ++ allL f a ds).length ((xs ++ allL f a ds).flatMap srow) ∧ w.grownBy w' ov.ownBlock ∧ ∀ b, rv.ownBlock = some b → ov.ownBlock = some b ∨ w.heap.size ≤ b := by
 intro f
 induction f with
 | zero =>
  rintro ds v a base ov xs w _ _ _ _ ⟨rfl, ad, c, rfl⟩ hbw hown
  have HO := Lib.hid hown
  obtain ⟨oa, oc, rfl⟩ := own_slice hown
  clear hown
  go_enter Tryz.func99, Tryz.ntmps99
  go_upto_region 1 with fail
  have hV : (w.alloc (.cells #[.string (mkB a), .slice ad 0 c] 173)).heap[w.heap.size]? = some (.cells #[.string (mkB a), .slice ad 0 c] 173 (0, 0)) := alloc_heap_new _ _
  have HG := Lib.hid (World.grownBy_alloc w (.cells #[.string (mkB a), .slice ad 0 c] 173) (Value.slice oa xs.length oc).ownBlock)
  have HOV := Lib.hid (HO.out.alloc (.cells #[.string (mkB a), .slice ad 0 c] 173))
  generalize (w.alloc (.cells #[.string (mkB a), .slice ad 0 c] 173)) = V at *
  have c1 := cell_at hV 1 rfl
  go_wp2_with fail
  go_loopw [0, 11] (fun v i wr => v = .slice oa xs.length oc ∧ i = .int .i64 0 ∧ wr = V) (fun _ _ _ => 0)
  case atStart => exact ⟨rfl, rfl, rfl⟩
  case round =>
   obtain ⟨rfl, rfl, hwr⟩ := hrel
   subst hwr
   go_wp2_with fail
   go_ret
   exact ⟨_, rfl, by rw [show allL 0 a [] = [] from rfl, List.append_nil]; exact HOV.out, HG.out, fun b hb => .inl hb⟩
 | succ f ih =>
  intro ds v a base ov xs w hfit htxt hbd hxc hH hbw hown
  have HFT := Lib.hid hfit
  have HTX := Lib.hid htxt
  have HH := Lib.hid hH
  have hlen := hfit.1
  have HBD := Lib.hid hbd
  have HXC := Lib.hid hxc
  have HO := Lib.hid hown
  obtain ⟨ad, c, rfl⟩ := hH.isSlD
  obtain ⟨oa, oc, rfl⟩ := own_slice hown
  obtain ⟨n, hn⟩ : ∃ n, ds.length = n := ⟨_, rfl⟩
  have HN := Lib.hid hn
  rw [hn] at hlen ⊢
  clear hfit htxt hbd hH hn hown hxc
  obtain ⟨OB, hOB⟩ : ∃ x, (Value.slice oa xs.length oc).ownBlock = x := ⟨_, rfl⟩
  have HOB : Hid (∀ b, OB = some b → base ≤ b ∧ b < w.heap.size) := fun b hb => own_block HO.out b (hOB.trans hb)
  rw [hOB]
  have HEB := Lib.hid hOB
  obtain ⟨Z, hZ⟩ : ∃ Z, xs ++ allL (f + 1) a ds = Z := ⟨_, rfl⟩
  have HZ := Lib.hid hZ
  rw [hZ]
  clear hOB hZ
  go_enter Tryz.func99, Tryz.ntmps99
  go_upto_region 1 with fail
  have hV : (w.alloc (.cells #[.string (mkB a), .slice ad n c] 173)).heap[w.heap.size]? = some (.cells #[.string (mkB a), .slice ad n c] 173 (0, 0)) := alloc_heap_new _ _
  have HG0 := Lib.hid (World.grownBy_alloc w (.cells #[.string (mkB a), .slice ad n c] 173) OB)
  have HOV := Lib.hid (HO.out.alloc (.cells #[.string (mkB a), .slice ad n c] 173))
  have hVs : (w.alloc (.cells #[.string (mkB a), .slice ad n c] 173)).heap.size = w.heap.size + 1 := by simp
  generalize (w.alloc (.cells #[.string (mkB a), .slice ad n c] 173)) = V at *
  have c1 := cell_at hV 1 rfl
  have HVB := Lib.hid hV
  have HVS := Lib.hid hVs
  clear hV hVs
  go_wp2_with fail
  clear c1
  go_loopw [0, 11] (fun v i wr => ∃ j : Nat, i = .int .i64 (j : Int) ∧ j ≤ n ∧ V.grownBy wr OB ∧ (∀ b, v.ownBlock = some b → OB = some b ∨ w.heap.size + 1 ≤ b) ∧ wr.ownsRow base 115 2 v (xs ++ allL (f + 1) a (ds.take j)).length ((xs ++ allL (f + 1) a (ds.take j)).flatMap srow)) (fun _ i _ => n - (intOf i).toNat)
  case atStart => exact ⟨0, rfl, by omega, World.grownBy.refl _ _, fun b hb => .inl (HEB.out.symm.trans hb), by rw [List.take_zero, show allL (f + 1) a [] = [] from rfl, List.append_nil]; exact HOV.out⟩
  case round =>
   generalize wr = w1 at *
   obtain ⟨j, rfl, hj, hgr, hat, hown⟩ := hrel
   obtain ⟨pa, pc, hov⟩ := own_slice hown
   subst hov
   have HO1 := Lib.hid hown
   have HG := Lib.hid hgr
   have HAT := Lib.hid hat
   have hs1 : w.heap.size + 1 ≤ w1.heap.size := by have := hgr.size; rw [HVS.out] at this; exact this
   have HBX : Hid (w1.heap[w.heap.size]? = some (.cells #[.string (mkB a), .slice ad n c] 173 (0, 0))) := by
    refine (?_ : _ = _)
    rw [hgr.block w.heap.size (by rw [HVS.out]; omega) (fun e => by have := HOB.out w.heap.size e.symm; omega)]; exact HVB.out
   have HOLD : Hid (∀ b, b < base → w1.heap[b]? = w.heap[b]?) := fun b hb => by
    rw [HG.out.block b (by rw [HVS.out]; omega) (fun e => by have := HOB.out b e.symm; omega)]
    exact HG0.out.block b (by omega) (fun e => by have := HOB.out b e.symm; omega)
   clear hown hgr hat
   by_cases hjn : j < n
   ·obtain ⟨d, hd⟩ : ∃ d, ds[j]? = some d := ⟨_, List.getElem?_eq_getElem (by have := HN.out; omega)⟩
    have hct := ct_take f ds hd
    have hdm := List.mem_of_getElem? hd
    have hfd := HFT.out.2 d hdm
    have htd := HTX.out d hdm
    have hn1 := htd.1
    have hal1 := allL_len (f + 1) a (ds.take j)
    have hal2 := allL_len f (a ++ d.name ++ [46]) d.inner
    have hbd := HBD.out
    have hxc := HXC.out
    have hcd : ctD f d = 1 + d.fields.length + d.values.length + d.methods.length + ctL f d.inner := rfl
    have HAL := Lib.hid (all_take f a ds hd)
    obtain ⟨X, hX⟩ : ∃ X, xs ++ allL (f + 1) a (ds.take j) = X := ⟨_, rfl⟩
    obtain ⟨I, hI⟩ : ∃ I, allL f (a ++ d.name ++ [46]) d.inner = I := ⟨_, rfl⟩
    have hXl : X.length + ctL f d.inner + 1 ≤ 50000 := by rw [← hX, List.length_append]; omega
    obtain ⟨g, o, c0, fa, fc, va, vc, ma, mc, ia, ic, hsl, hg, e0, e1, e2, e3, e4, e5, e6, e7, kd⟩ := decl_at HH.out (W := w1) (fun b hb => HOLD.out b hb) hd
    rw [HN.out] at hsl
    obtain ⟨rfl, rfl⟩ : ad = some ⟨g, o, none⟩ ∧ c = c0 := by
     injection hsl with h1 _ h3
     exact ⟨h1, h3⟩
    have hgw : g < base := hg
    have HKD := Lib.hid kd.2.2.2
    obtain ⟨P, hP⟩ : ∃ P, a ++ d.name = P := ⟨_, rfl⟩
    obtain ⟨M, hM⟩ : ∃ M, P ++ [46] = M := ⟨_, rfl⟩
    obtain ⟨X2, hX2⟩ : ∃ X2, X ++ [(P, d.kind)] = X2 := ⟨_, rfl⟩
    obtain ⟨X3, hX3⟩ : ∃ X3, X2 ++ I = X3 := ⟨_, rfl⟩
    rw [hP, hM] at hI hal2
    have hX2l : X2.length = X.length + 1 := by rw [← hX2]; simp
    have hMl : M.length = a.length + d.name.length + 1 := by rw [← hM, ← hP]; simp; omega
    have HAL2 : Hid (xs ++ allL (f + 1) a (ds.take (j + 1)) = X3) := by
     refine (?_ : _ = _)
     rw [HAL.out, hP, hM, ← List.append_assoc, ← List.append_assoc, hX, hI, hX2, hX3]
    rw [hX] at HO1 HAT ⊢
    have zb : (mkB a).size = a.length := mkB_size a
    have zn : (mkB d.name).size = d.name.length := mkB_size _
    have s1 := sumS (mkB a) (mkB d.name) 1000000000000 (by omega) (by omega)
    have s2 := sumS (mkB a ++ mkB d.name) ⟨#[46]⟩ 2000000000000 (by rw [ByteArray.size_append]; omega) (by show _ + 1 ≤ _; omega)
    have HE : Hid (mkB a ++ mkB d.name ++ ⟨#[46]⟩ = mkB M) := by
     refine (?_ : _ = _)
     show mkB a ++ mkB d.name ++ mkB [46] = _
     rw [← mkB_cat, ← mkB_cat, hP, hM]
    obtain ⟨N, hN⟩ : ∃ N, P.length = N := ⟨_, rfl⟩
    have hNb : N ≤ 2000000000000 := by rw [← hN, ← hP, List.length_append]; omega
    have hsl1 := sl_to M N (by rw [← hM]; simp; omega)
    have hMt : M.take N = P := by rw [← hM, List.take_left' hN]
    rw [hMt] at hsl1
    have hz : (mkB M).size = N + 1 := by rw [mkB_size, ← hM, List.length_append, hN]; rfl
    have hw1 : IntKind.i64.wrap (N : Int) = (N : Int) := by rw [IntKind.wrap_i64]; omega
    have hw2 : (0 : Int) ≤ (N : Int) := by omega
    have hex : (mkB M).extract 0 N = mkB P := by rw [mk_take, hMt]
    have hj0 : (0 : Int) ≤ (j : Int) := by omega
    have hj1 : (j : Int) < (n : Int) := by omega
    have hwq : IntKind.i64.wrap ((j : Int) + 1) = (j : Int) + 1 := by rw [IntKind.wrap_i64]; omega
    have hrec := fun (W : World) (ov' : Value) (h1 : HeldD f W (fun b => b < base) (.slice ia d.inner.length ic) d.inner) (h2 : base ≤ W.heap.size) (h3 : W.ownsRow base 115 2 ov' X2.length (X2.flatMap srow)) => ih d.inner (.slice ia d.inner.length ic) M base ov' X2 W hfd.2.2.2 htd.2.2.2.2 (by omega) (by omega) h1 h2 h3
    rw [hI, hX3] at hrec
    have HX2 := Lib.hid hX2
    have HRC := Lib.hid hrec
    have hXb : X.length ≤ 100000 := by omega
    have HN1 := Lib.hid hN
    have b0 := cell_at HBX.out 0 rfl
    have hY : (w1.alloc (.cells #[.int .i64 d.kind, .string (mkB d.name), .int .i64 d.line, .int .i64 d.col, .slice fa d.fields.length fc, .slice va d.values.length vc, .slice ma d.methods.length mc, .slice ia d.inner.length ic] 69)).heap[w1.heap.size]? = some (.cells #[.int .i64 d.kind, .string (mkB d.name), .int .i64 d.line, .int .i64 d.col, .slice fa d.fields.length fc, .slice va d.values.length vc, .slice ma d.methods.length mc, .slice ia d.inner.length ic] 69 (0, 0)) := alloc_heap_new _ _
    have hbY : Below w1.heap.size w1 (w1.alloc (.cells #[.int .i64 d.kind, .string (mkB d.name), .int .i64 d.line, .int .i64 d.col, .slice fa d.fields.length fc, .slice va d.values.length vc, .slice ma d.methods.length mc, .slice ia d.inner.length ic] 69)) := (Below.refl _ w1).alloc (Nat.le_refl _) _
    have HOY := Lib.hid (HO1.out.alloc (.cells #[.int .i64 d.kind, .string (mkB d.name), .int .i64 d.line, .int .i64 d.col, .slice fa d.fields.length fc, .slice va d.values.length vc, .slice ma d.methods.length mc, .slice ia d.inner.length ic] 69))
    clear hX hI hd hdm hfd htd hct hal1 hal2 hbd hxc hcd kd hsl hrec hn1 zb zn hN HAL hP hM hX2 hX3 hX2l hMl hMt
    go_upto_region 4 with fail
    generalize (w1.alloc (.cells #[.int .i64 d.kind, .string (mkB d.name), .int .i64 d.line, .int .i64 d.col, .slice fa d.fields.length fc, .slice va d.values.length vc, .slice ma d.methods.length mc, .slice ia d.inner.length ic] 69)) = Y at *
    have hlY := blk_lt hY
    have y0 := cell_at hY 0 rfl
    have y1 := cell_at hY 1 rfl
    have yb : Y.cell? ⟨w.heap.size, 0, none⟩ = some (.string (mkB a)) := by rw [hbY.cell (show w.heap.size < w1.heap.size by omega)]; exact b0
    have HYB := Lib.hid hbY
    have HYC := Lib.hid hY
    have hsY := hbY.size
    clear e0 e1 e2 e3 e4 e5 e6 e7 b0 hY hbY
    go_upto_region 5 with fail
    rw [HE.out]
    clear s1 s2 yb
    go_region_law (first
     | (refine sy_pushS (T := 115) Tryz.underlying111 infoSP HOY.out.drew (by show base ≤ Y.heap.size; omega) (P, d.kind) rfl _ _ rfl _ rfl rfl rfl hXb ?_; intro g2 cap2 W2 hown2 hgr2 hat2))
    all_goals
     have HO2 : Hid (W2.ownsRow base 115 2 (.slice (some ⟨g2, 0, none⟩) (X.length + 1) cap2) X2.length (X2.flatMap srow)) := by
      refine (?_ : World.ownsRow _ _ _ _ _ _ _)
      rw [← HX2.out]
      first | exact hown2 | (rw [List.length_append, List.flatMap_append]; simpa using hown2)
     have hgY : Y.grownBy W2 (Value.slice pa X.length pc).ownBlock := ⟨hgr2.os, hgr2.tape, hgr2.output, hgr2.size, hgr2.block⟩
     have hY2 : W2.heap[w1.heap.size]? = some (.cells #[.int .i64 d.kind, .string (mkB d.name), .int .i64 d.line, .int .i64 d.col, .slice fa d.fields.length fc, .slice va d.values.length vc, .slice ma d.methods.length mc, .slice ia d.inner.length ic] 69 (0, 0)) := by
      rw [hgY.block _ hlY (fun e => by have := own_block HO1.out _ e.symm; omega)]; exact HYC.out
     have y7 := cell_at hY2 7 rfl
     have hg12 : w1.grownBy W2 (Value.slice pa X.length pc).ownBlock := World.grownBy.trans ⟨HYB.out.os, HYB.out.tape, HYB.out.output, HYB.out.size, fun k hk _ => HYB.out.block k hk⟩ hgY
     have hgV2 : V.grownBy W2 OB := grow_then HG.out hg12 (fun b hb => (HAT.out b hb).symm.imp (fun h => by rw [HVS.out]; exact h) id)
     have HG2 := Lib.hid hgV2
     have HA2 : Hid (∀ b, (Value.slice (some ⟨g2, 0, none⟩) (X.length + 1) cap2).ownBlock = some b → OB = some b ∨ w.heap.size + 1 ≤ b) := fun b hb => by
      have hb' : g2 = b := Option.some.inj hb
      subst hb'
      rcases hat2 with e | e
      ·exact HAT.out _ e
      ·right
       have e' : Y.heap.size ≤ g2 := e
       omega
     have HH2 : Hid (HeldD f W2 (fun b => b < base) (.slice ia d.inner.length ic) d.inner) := HeldD.old (fun b hb => hg12.block b (by have hb' : b < base := hb; omega) (fun e => by have := own_block HO1.out b e.symm; have hb' : b < base := hb; omega)) HKD.out
     have hs2 : w1.heap.size ≤ W2.heap.size := hg12.size
     clear hown2 hgr2 hat2 hgY hY2 hg12 hgV2 y0 y1 hsl1 hz hw1 hw2 hex
     go_wp2_with fail
     refine (HRC.out W2 _ HH2.out (by omega) HO2.out).mono ?_
     rintro e W3 ⟨rv, rfl, hown3, hgr3, hat3⟩
     have HO3 := Lib.hid hown3
     have HG3 : Hid (V.grownBy W3 OB) := grow_then HG2.out hgr3 (fun b hb => (HA2.out b hb).symm.imp (fun h => by rw [HVS.out]; exact h) id)
     have HA3 : Hid (∀ b, rv.ownBlock = some b → OB = some b ∨ w.heap.size + 1 ≤ b) := fun b hb => by
      rcases hat3 b hb with e | e
      ·exact HA2.out b e
      ·right; omega
     obtain ⟨ra, rc, hrv⟩ := own_slice hown3
     subst hrv
     clear hown3 hgr3 hat3 y7
     go_wp2_with fail
     go_roundw
     case rel => exact ⟨j + 1, by go_num, by omega, HG3.out, HA3.out, by rw [HAL2.out]; exact HO3.out⟩
     case measure => simp [intOf]; omega
   ·have hjn' : ¬ (j : Int) < (n : Int) := by omega
    have hje : ds.take j = ds := List.take_of_length_le (by have := HN.out; omega)
    rw [hje, HZ.out] at HO1 HAT ⊢
    have HGE : Hid (w.grownBy w1 OB) := HG0.out.trans HG.out
    go_wp2_with fail
    go_ret
    exact ⟨_, rfl, HO1.out, HGE.out, fun b hb => (HAT.out b hb).imp id fun h => by omega⟩
set_option maxHeartbeats 1000000 in
theorem AllP_any (f : Nat) (ds : List Dc) (v : Value) (w : World) (hf : FitD f ds) (ht : TxtD f ds) (hc : ctL f ds ≤ 2000) (hH : HeldD f w (fun b => b < w.heap.size) v ds) :
  Calls Tryz.prog 55 #[v] w fun e w' => ∃ rv, e = .returned rv ∧ w'.ownsRow w.heap.size 115 2 rv (allL f [] ds).length ((allL f [] ds).flatMap srow) ∧ Below w.heap.size w w' := by
 have h := appendAll_any f ds v [] w.heap.size (.slice none 0 0) [] w hf ht (by simp; omega) (by simp; omega) hH (Nat.le_refl _) (World.ownsRow_nil _ _ _ _)
 obtain ⟨ad, c, rfl⟩ := hH.isSlD
 have H := Lib.hid h
 clear hf ht hc hH h
 go_enter Tryz.func55, Tryz.ntmps55
 go_wp2_with fail
 refine H.out.mono ?_
 rintro e w1 ⟨rv, rfl, h1, h2, h3⟩
 rw [List.nil_append] at h1
 have H1 := Lib.hid h1
 have H2 : Hid (Below w.heap.size w w1) := ⟨h2.os, h2.tape, h2.output, h2.size, fun k hk => h2.block k hk (by intro e; cases e)⟩
 obtain ⟨ra, rc, hrv⟩ := own_slice h1
 subst hrv
 clear h1 h2 h3
 go_wp2_with fail
 go_ret
 exact ⟨_, rfl, H1.out, H2.out⟩
end Go.Proofs.YtpojeinddnjpfaaGreatDoor
