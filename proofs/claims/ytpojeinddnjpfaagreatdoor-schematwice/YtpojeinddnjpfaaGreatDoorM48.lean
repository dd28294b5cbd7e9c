/-
  Rows of declarations that are appended, in any order of a region.
  The walk over the law that what is declared twice is refused.
-/
import Derived.Test.YtpojeinddnjpfaaGreatDoorM46
import Derived.Test.YtpojeinddnjpfaaGreatDoorM20
import Derived.Test.YtpojeinddnjpfaaGreatDoorM18
import Derived.Test.YtpojeinddnjpfaaGreatDoorM47
import Derived.Test.YtpojeinddnjpfaaGreatDoorM24
namespace Go.Proofs.YtpojeinddnjpfaaGreatDoor
set_option linter.unusedVariables false
open Go.ChangeShapes Go.WideShapes Go.ChangeAt Go.RowKit

theorem rows_of_held {f : Nat} {w : World} {S : Nat → Prop} {g o n c : Nat} {ds : List Dc} (h : HeldD (f + 1) w S (.slice (some ⟨g, o, none⟩) n c) ds) (hn : ds.length = n) : ∃ rs : List (List Value), rs.length = ds.length ∧ (∀ r ∈ rs, r.length = 8) ∧ (∀ u ∈ rs.flatMap id, u.oneCell' = true) ∧
  (∀ (j : Nat) (d : Dc), ds[j]? = some d → ∃ fs vs ms ins, rs[j]? = some (drow d fs vs ms ins) ∧ Kids f w S fs vs ms ins d) ∧ (rs.flatMap id).length = n * 8 ∧ ∀ (i : Nat) (u : Value), (rs.flatMap id)[i]? = some u → w.cell? ⟨g, o + i, none⟩ = some u := by
 obtain ⟨ad, c', hv, hc, h⟩ := h
 obtain ⟨h1, h2, h3⟩ : some (⟨g, o, none⟩ : Addr) = ad ∧ n = ds.length ∧ c = c' := by
  injection hv with a b c
  exact ⟨a, b, c⟩
 subst h1 h3
 have hrow : ∀ (j : Nat) (d : Dc), ds[j]? = some d → ∃ fs vs ms ins, (∀ (i : Nat) (u : Value), (drow d fs vs ms ins)[i]? = some u → w.cell? ⟨g, o + (j * 8 + i), none⟩ = some u) ∧ Kids f w S fs vs ms ins d := by
  intro j d hj
  rcases h with h | ⟨g', o', he, hg, h⟩
  ·rw [h] at hj; simp at hj
  ·obtain ⟨rfl, rfl⟩ : g = g' ∧ o = o' := by simpa using he
   exact h j d hj
 obtain ⟨rs, hl, hP⟩ := list_choiceD (P := fun j (r : List Value) => ∃ d fs vs ms ins, ds[j]? = some d ∧ r = drow d fs vs ms ins ∧ (∀ (i : Nat) (u : Value), (drow d fs vs ms ins)[i]? = some u → w.cell? ⟨g, o + (j * 8 + i), none⟩ = some u) ∧ Kids f w S fs vs ms ins d) ds.length (fun j hj => by
  obtain ⟨fs, vs, ms, ins, h1, h2⟩ := hrow j ds[j] (List.getElem?_eq_getElem hj)
  exact ⟨_, _, fs, vs, ms, ins, List.getElem?_eq_getElem hj, rfl, h1, h2⟩)
 have h8 : ∀ r ∈ rs, r.length = 8 := by
  intro r hr
  obtain ⟨j, hj⟩ := List.getElem?_of_mem hr
  obtain ⟨d, fs, vs, ms, ins, _, rfl, _⟩ := hP j r hj
  rfl
 have hlen : ∀ rs : List (List Value), (∀ r ∈ rs, r.length = 8) → (rs.flatMap id).length = rs.length * 8 := by
  intro rs
  induction rs with
  | nil => intro _; rfl
  | cons a t ih =>
   intro h
   rw [List.flatMap_cons, List.length_append, ih fun r hr => h r (List.mem_cons_of_mem _ hr)]
   have : (id a).length = 8 := h a (by simp)
   rw [this, List.length_cons]; omega
 refine ⟨rs, hl, h8, ?_, ?_, by rw [hlen rs h8, hl, hn], ?_⟩
 ·intro u hu
  rw [List.mem_flatMap] at hu
  obtain ⟨r, hr, hu⟩ := hu
  obtain ⟨j, hj⟩ := List.getElem?_of_mem hr
  obtain ⟨d, fs, vs, ms, ins, _, rfl, _, kd⟩ := hP j r hj
  obtain ⟨r1, r2, r3, r4⟩ := kd
  obtain ⟨fa, fc, rfl⟩ := r1.isSl
  obtain ⟨va, vc, rfl⟩ := r2.isSl
  obtain ⟨ma, mc, rfl⟩ := r3.isSl
  obtain ⟨ia, ic, rfl⟩ := r4.isSlD
  have hu' : u ∈ drow d (.slice fa d.fields.length fc) (.slice va d.values.length vc) (.slice ma d.methods.length mc) (.slice ia d.inner.length ic) := hu
  simp only [drow, List.mem_cons, List.not_mem_nil, or_false] at hu'
  rcases hu' with rfl | rfl | rfl | rfl | rfl | rfl | rfl | rfl <;> rfl
 ·intro j d hj
  have hjl := (List.getElem?_eq_some_iff.1 hj).1
  obtain ⟨d', fs, vs, ms, ins, hd', hr, _, kd⟩ := hP j (rs[j]'(by omega)) (List.getElem?_eq_getElem _)
  rw [hj] at hd'
  cases hd'
  exact ⟨fs, vs, ms, ins, by rw [← hr]; exact List.getElem?_eq_getElem _, kd⟩
 ·intro i u hu
  have hi : i < rs.length * 8 := by
   have := (List.getElem?_eq_some_iff.1 hu).1
   rw [hlen rs h8] at this; exact this
  have hj : i / 8 < rs.length := by omega
  obtain ⟨d, fs, vs, ms, ins, _, hr, hc, _⟩ := hP (i / 8) rs[i / 8] (List.getElem?_eq_getElem _)
  have e := flat8 rs (i / 8) rs[i / 8] (i % 8) h8 (by omega) (List.getElem?_eq_getElem _)
  have hi8 : i / 8 * 8 + i % 8 = i := by omega
  rw [hi8, hu] at e
  have := hc (i % 8) u (by rw [← hr]; exact e.symm)
  rw [hi8] at this
  exact this
structure Ap (Y wx : World) (v : Value) (n : Nat) (xs : List Value) : Prop where
 own : wx.ownsRow Y.heap.size 54 8 v n xs
 old : Below Y.heap.size Y wx
theorem Ap.alloc {Y wx : World} {v : Value} {n : Nat} {xs : List Value} (h : Ap Y wx v n xs) (ob : Obj) : Ap Y (wx.alloc ob) v n xs := ⟨h.own.alloc _, h.old.alloc h.old.size _⟩
theorem Ap.drew {Y wx : World} {v : Value} {n : Nat} {xs : List Value} (h : Ap Y wx v n xs) : Ap Y wx.drew v n xs := ⟨own_keep h.own fun _ _ => rfl, h.old.drew⟩
theorem Ap.none {Y wx : World} (h : Below Y.heap.size Y wx) : Ap Y (wx.alloc (.cells #[] 54)) (.slice (some ⟨wx.heap.size, 0, none⟩) 0 0) 0 [] :=
 ⟨⟨rfl, .inr ⟨wx.heap.size, 0, #[], rfl, h.size, alloc_heap_new _ _, Nat.le_refl _, by unfold maxLen; omega, rfl, rfl⟩⟩, h.alloc h.size _⟩
theorem ap_none2 (Y : World) (b : Obj) : Ap Y ((Y.alloc b).alloc (.cells #[] 54)) (.slice (some ⟨Y.heap.size + 1, 0, Option.none⟩) 0 0) 0 [] := by
 have h := Ap.none (Y := Y) ((Below.refl _ Y).alloc (Nat.le_refl _) b)
 have e : (Y.alloc b).heap.size = Y.heap.size + 1 := by simp
 rw [e] at h
 exact h
theorem tw_step {Y wx : World} {v : Value} {n : Nat} {xs : List Value} (ad : Addr) (m c : Nat) (r : List Value) (hA : Ap Y wx v n xs) (hrl : r.length = m * 8) (hnews : ∀ j u, r[j]? = some u → wx.cell? (ad.add j) = some u) (hr1 : ∀ u ∈ r, u.oneCell' = true) (hm0 : 0 < m) (hm : n + m ≤ 100000)
  {ops : Array Oper} {o : Oper} {a : Act} {K : Act → World → Prop} {Q : Exit → Act → World → Prop} {E : Prop} (hgd : o.guard = none) (s' x' : Operand)
  (ho : o.op = .call { callee := .builtin .append, args := #[s', x'], argTypes := #[22, 22] }) (hs : a.eval s' = v) (hx : a.eval x' = .slice (some ad) m c)
  (hk : ∀ g cap W, Ap Y W (.slice (some ⟨g, 0, none⟩) (n + m) cap) (n + m) (xs ++ r) → g < W.heap.size → (∀ b, b < wx.heap.size → v.ownBlock ≠ some b → W.heap[b]? = wx.heap[b]?) → K (a.put o.dst (.slice (some ⟨g, 0, none⟩) (n + m) cap)) W) :
  if Region.wanted o (yielded ops a.tmps) = true then Oper.wp Tryz.prog o a wx K Q else E := by
 obtain ⟨i0, hi0, hz0, hz1, hz2⟩ := info_parts infoDc
 refine step_append_lies _ hgd s' x' _ ho Y.heap.size 54 i0 _ 8 136 Tryz.underlying22 hi0 hz0 hz1 hz2 rfl (by decide) v n xs hs hA.own ad m c r hx hrl hnews hr1 hm0 (by unfold maxLen; omega) (by omega) hA.old.size _ rfl ?_
 intro g cap W hown hg hat hlt
 refine hk g cap W ⟨hown, hA.old.grown hg hA.old.size fun b hb => (own_block hA.own b hb).1⟩ hlt fun b hb hne => hg.block b hb fun e => hne e.symm
theorem tw_old {Y wx : World} {v : Value} (g o n c : Nat) (r : List Value) (hA : Ap Y wx v 0 []) (hrl : r.length = n * 8) (hg : g < Y.heap.size) (hnews : ∀ j u, r[j]? = some u → Y.cell? ⟨g, o + j, none⟩ = some u) (hr1 : ∀ u ∈ r, u.oneCell' = true) (hm0 : 0 < n) (hm : n ≤ 100000)
  {ops : Array Oper} {op : Oper} {a : Act} {K : Act → World → Prop} {Q : Exit → Act → World → Prop} {E : Prop} (hgd : op.guard = none) (s' x' : Operand)
  (ho : op.op = .call { callee := .builtin .append, args := #[s', x'], argTypes := #[22, 22] }) (hs : a.eval s' = v) (hx : a.eval x' = .slice (some ⟨g, o, none⟩) n c)
  (hk : ∀ g cap W, Ap Y W (.slice (some ⟨g, 0, none⟩) n cap) n r → g < W.heap.size → (∀ b, b < wx.heap.size → v.ownBlock ≠ some b → W.heap[b]? = wx.heap[b]?) → K (a.put op.dst (.slice (some ⟨g, 0, none⟩) n cap)) W) :
  if Region.wanted op (yielded ops a.tmps) = true then Oper.wp Tryz.prog op a wx K Q else E := by
 refine tw_step ⟨g, o, none⟩ n c r hA hrl (fun j u hu => ?_) hr1 hm0 (by omega) hgd s' x' ho hs hx (fun g cap W h1 h2 h3 => by rw [Nat.zero_add] at h1 ⊢; exact hk g cap W h1 h2 h3)
 have hadd : (⟨g, o, none⟩ : Addr).add j = ⟨g, o + j, none⟩ := by unfold Addr.add; split <;> simp_all
 rw [hadd, World.cell?_of_block (hA.old.block g hg)]
 exact hnews j u hu
theorem tw_box {Y wx : World} {v : Value} {n : Nat} {xs : List Value} (B : Nat) (r : List Value) (hA : Ap Y wx v n xs) (hB : wx.heap[B]? = some (.cells r.toArray 54 (0, 0))) (hrl : r.length = 8) (hr1 : ∀ u ∈ r, u.oneCell' = true) (hm : n + 1 ≤ 100000)
  {ops : Array Oper} {op : Oper} {a : Act} {K : Act → World → Prop} {Q : Exit → Act → World → Prop} {E : Prop} (hgd : op.guard = none) (s' x' : Operand)
  (ho : op.op = .call { callee := .builtin .append, args := #[s', x'], argTypes := #[22, 22] }) (hs : a.eval s' = v) (hx : a.eval x' = .slice (some ⟨B, 0, none⟩) 1 1)
  (hk : ∀ g cap W, Ap Y W (.slice (some ⟨g, 0, none⟩) (n + 1) cap) (n + 1) (xs ++ r) → K (a.put op.dst (.slice (some ⟨g, 0, none⟩) (n + 1) cap)) W) :
  if Region.wanted op (yielded ops a.tmps) = true then Oper.wp Tryz.prog op a wx K Q else E :=
 tw_step ⟨B, 0, none⟩ 1 1 r hA (by rw [hrl]) (World.news_of_block (cs := r.toArray) hB) hr1 (by decide) hm hgd s' x' ho hs hx (fun g cap W h1 h2 h3 => hk g cap W h1)
theorem two_new (Y : World) (a b : Obj) : ((Y.alloc a).alloc b).drew.heap[Y.heap.size + 1]? = some b := by
 show ((Y.alloc a).alloc b).heap[Y.heap.size + 1]? = some b
 have := alloc_heap_new (Y.alloc a) b
 simpa using this
theorem two_old (Y : World) (a b : Obj) : ((Y.alloc a).alloc b).drew.heap[Y.heap.size]? = some a := by
 show ((Y.alloc a).alloc b).heap[Y.heap.size]? = some a
 exact (alloc_heap_old _ _ _ (by simp)).trans (alloc_heap_new _ _)
theorem two_lt (Y : World) (a b : Obj) : Y.heap.size + 1 < ((Y.alloc a).alloc b).drew.heap.size := by
 show Y.heap.size + 1 < ((Y.alloc a).alloc b).heap.size
 simp
theorem cells8 {w : World} {B : Nat} {T : TypeId} {a0 a1 a2 a3 a4 a5 a6 a7 : Value} (h : w.heap[B]? = some (.cells #[a0, a1, a2, a3, a4, a5, a6, a7] T (0, 0))) : w.cell? ⟨B, 0, none⟩ = some a0 ∧ w.cell? ⟨B, 1, none⟩ = some a1 ∧ w.cell? ⟨B, 2, none⟩ = some a2 ∧ w.cell? ⟨B, 3, none⟩ = some a3 ∧ w.cell? ⟨B, 4, none⟩ = some a4 ∧ w.cell? ⟨B, 5, none⟩ = some a5 ∧ w.cell? ⟨B, 6, none⟩ = some a6 ∧ w.cell? ⟨B, 7, none⟩ = some a7 := by
 simp [World.cell?, h]
theorem held_ap {f : Nat} {Y W : World} {v : Value} {n : Nat} {rs : List (List Value)} {ds : List Dc} {x : Dc} {fs vs ms ins : Value} (hA : Ap Y W v (n + 1) (rs.flatMap id ++ drow x fs vs ms ins)) (hn : ds.length = n) (hl : rs.length = ds.length) (h8 : ∀ r ∈ rs, r.length = 8)
  (hk : ∀ (j : Nat) (d : Dc), ds[j]? = some d → ∃ fs vs ms ins, rs[j]? = some (drow d fs vs ms ins) ∧ Kids f Y (fun b => b < Y.heap.size) fs vs ms ins d) (hx : Kids f Y (fun b => b < Y.heap.size) fs vs ms ins x) :
  HeldD (f + 1) W (fun b => b < W.heap.size) v (ds ++ [x]) := by
 have hkW : ∀ {a b c e : Value} {d : Dc}, Kids f Y (fun b => b < Y.heap.size) a b c e d → Kids f W (fun b => b < W.heap.size) a b c e d := fun h => (h.old fun b hb => hA.old.block b hb).more fun b hb => Nat.lt_of_lt_of_le hb hA.old.size
 have e0 : rs.flatMap id ++ drow x fs vs ms ins = (rs ++ [drow x fs vs ms ins]).flatMap id := by rw [List.flatMap_append]; simp
 have h8' : ∀ r ∈ rs ++ [drow x fs vs ms ins], r.length = 8 := by
  intro r hr
  rcases List.mem_append.1 hr with h | h
  ·exact h8 r h
  ·rw [List.mem_singleton.1 h]; rfl
 have hkk : ∀ (j : Nat) (d : Dc), (ds ++ [x])[j]? = some d → ∃ fs' vs' ms' ins', (rs ++ [drow x fs vs ms ins])[j]? = some (drow d fs' vs' ms' ins') ∧ Kids f W (fun b => b < W.heap.size) fs' vs' ms' ins' d := by
  intro j d hj
  by_cases hjl : j < ds.length
  ·rw [List.getElem?_append_left hjl] at hj
   obtain ⟨a, b, c, e, h1, h2⟩ := hk j d hj
   exact ⟨a, b, c, e, by rw [List.getElem?_append_left (by omega)]; exact h1, hkW h2⟩
  ·have hje : j = ds.length := by
    have := (List.getElem?_eq_some_iff.1 hj).1
    simp at this; omega
   subst hje
   rw [List.getElem?_append_right (Nat.le_refl _), Nat.sub_self] at hj
   have : x = d := by simpa using hj
   subst this
   exact ⟨fs, vs, ms, ins, by rw [← hl, List.getElem?_append_right (Nat.le_refl _), Nat.sub_self]; rfl, hkW hx⟩
 have hown := hA.own
 rw [e0] at hown
 obtain ⟨hlx, ⟨rfl, h0⟩ | ⟨g, cap, cur, rfl, hg, hh, h3, h4, h5, h6⟩⟩ := hown
 ·omega
 ·have hgl : g < W.heap.size := (Array.getElem?_eq_some_iff.1 hh).1
  refine ⟨_, cap, by rw [List.length_append, hn]; rfl, by rw [List.length_append, hn]; exact h3, .inr ⟨g, 0, rfl, hgl, fun j d hj => ?_⟩⟩
  obtain ⟨a, b, c, e, hr, hkd⟩ := hkk j d hj
  refine ⟨a, b, c, e, fun i u hu => ?_, hkd⟩
  have hi : i < 8 := (List.getElem?_eq_some_iff.1 hu).1
  have e := flat8 _ j _ i h8' hi hr
  have hjl := (List.getElem?_eq_some_iff.1 hj).1
  rw [List.length_append, hn] at hjl
  rw [← h6, List.getElem?_take, if_pos (by simp at hjl; omega), hu] at e
  simp only [World.cell?, hh]
  rw [Nat.zero_add]
  simpa using e
end Go.Proofs.YtpojeinddnjpfaaGreatDoor
namespace Go.Proofs.YtpojeinddnjpfaaGreatDoor
set_option linter.unusedVariables false
open Go.ChangeShapes Go.WideShapes Go.ChangeAt Go.RowKit Go.Maps

theorem held_up {f : Nat} {w W : World} {v : Value} {ds : List Dc} (h : HeldD f w (fun b => b < w.heap.size) v ds) (hb : Below w.heap.size w W) : HeldD f W (fun b => b < W.heap.size) v ds :=
 (h.old (fun b hb' => hb.block b hb')).more fun b hb' => Nat.lt_of_lt_of_le hb' hb.size
set_option maxHeartbeats 16000000 in
set_option maxRecDepth 20000 in
theorem schemaTwice_any (v : Value) (f : Nat) (ds : List Dc) (at0 : Int) (w : World) (hT : Errs w) (hH : HeldD (f + 1) w (fun b => b < w.heap.size) v ds) (hF : FitW (f + 1) ds) (hat : 0 ≤ at0 ∧ at0 ≤ 255) :
  Calls Tryz.prog 7 #[v, .int .u8 at0] w fun e w' => e = .returned (.bool true) ∧ Below w.heap.size w w' := by
 obtain ⟨va, vc, rfl⟩ := hH.isSlD
 have HH := Lib.hid hH
 have HF := Lib.hid hF
 have HE := Lib.hid hT
 obtain ⟨ha0, ha1⟩ := hat
 obtain ⟨n, hn⟩ : ∃ n, ds.length = n := ⟨_, rfl⟩
 have HN := Lib.hid hn
 rw [hn] at HH ⊢
 clear hH hF hT hn
 go_enter Tryz.func7, Tryz.ntmps7
 go_wp2_with fail
 refine (awake8_any _ HE.out).mono ?_
 rintro e W1 ⟨rfl, hb1⟩
 have HB1 := Lib.hid hb1
 clear hb1
 go_wp2_with fail
 refine (smallY_any (f + 1) ds (.slice va n vc) W1 HF.out (held_up HH.out HB1.out)).mono ?_
 rintro e W2 ⟨⟨b, rfl, hb⟩, hb2⟩
 have HB2 := Lib.hid (HB1.out.trans (hb2.mono HB1.out.size))
 have HSM := Lib.hid hb
 clear hb hb2
 cases b
 case false =>
  go_wp2_with fail
  refine (awake8_any _ (errs_below HE.out HB2.out)).mono ?_
  rintro e WQ ⟨rfl, hbq⟩
  have HBQ := Lib.hid (HB2.out.trans (hbq.mono HB2.out.size))
  clear hbq
  go_wp2_with fail
  go_ret
  exact ⟨rfl, HBQ.out⟩
 case true =>
  obtain ⟨hfit, htxt, hct⟩ := HSM.out rfl
  have HFT := Lib.hid hfit
  have HTX := Lib.hid htxt
  have HCT := Lib.hid hct
  have hnb : n ≤ 100000 := by have := hfit.1; rw [HN.out] at this; exact this
  clear hfit htxt hct
  by_cases hn0 : n = 0
  ·have HN0 := Lib.hid hn0
   have hlz : (n : Int) = 0 := by omega
   go_wp2_with fail
   refine (awake8_any _ (errs_below HE.out HB2.out)).mono ?_
   rintro e WQ ⟨rfl, hbq⟩
   have HBQ := Lib.hid (HB2.out.trans (hbq.mono HB2.out.size))
   clear hbq
   go_wp2_with fail
   go_ret
   exact ⟨rfl, HBQ.out⟩
  have hln : ¬ (n : Int) = 0 := by omega
  go_wp2_with fail
  refine (theirs_any (f + 1) ds (.slice va n vc) W2 HFT.out (held_up HH.out HB2.out)).mono ?_
  rintro e W3 ⟨ad, c, rfl, hH3, hb3⟩
  rw [HN.out] at hH3 ⊢
  have HB3 := Lib.hid (HB2.out.trans (hb3.mono HB2.out.size))
  have hcall := checkP_any f ds (.slice ad n c) W3 HFT.out HTX.out (by have := HCT.out; omega) (fun h => ckFit HFT.out HTX.out (by have := HCT.out; omega) h) (hH3.more fun b hb => hb.2)
  clear hb3 hH3
  go_wp2_with fail
  refine hcall.mono ?_
  rintro e W4 ⟨aa, ba, ca, an, ac, bn, bc, cn, cc, s, l, p, k, rfl, hb4, -, hP⟩
  have HP := Lib.hid hP
  have HB4 : Hid (Below w.heap.size w ((W4.alloc (.cells #[.slice aa an ac, .slice ba bn bc, .slice ca cn cc] 29)).alloc (.cells #[.int .i64 l, .int .i64 p] 31))) := ((HB3.out.trans (hb4.mono HB3.out.size)).alloc (Nat.le_trans HB3.out.size hb4.size) _).alloc (by simp; have := HB3.out.size; have := hb4.size; omega) _
  clear hcall hP hb4
  go_upto_region 4 with fail
  generalize ((W4.alloc (.cells #[.slice aa an ac, .slice ba bn bc, .slice ca cn cc] 29)).alloc (.cells #[.int .i64 l, .int .i64 p] 31)) = W5 at *
  by_cases hk : k = 0
  ·subst hk
   by_cases h20 : 20 < n
   ·have h20' : (20 : Int) < (n : Int) := by omega
    go_wp2_with fail
    go_ret
    exact ⟨rfl, HB4.out⟩
   ·have h20' : ¬ (20 : Int) < (n : Int) := by omega
    obtain ⟨a, rfl⟩ : ∃ a : Nat, at0 = (a : Int) := ⟨at0.toNat, by omega⟩
    obtain ⟨q, hq⟩ : ∃ q, a % n = q := ⟨_, rfl⟩
    have hql : q < n := by rw [← hq]; exact Nat.mod_lt _ (by omega)
    have hrem2 : (a : Int).tmod (n : Int) = (q : Int) := by
     have : ((a : Int).tmod (n : Int)) = ((a % n : Nat) : Int) := by rw [Int.tmod_eq_emod_of_nonneg (by omega)]; rfl
     rw [this, hq]
    have hrem : IntKind.i64.wrap ((a : Int).tmod (n : Int)) = (q : Int) := by
     rw [hrem2, IntKind.wrap_i64]; omega
    obtain ⟨x, hx⟩ : ∃ x, ds[q]? = some x := ⟨ds[q]'(by rw [HN.out]; exact hql), List.getElem?_eq_getElem _⟩
    obtain ⟨g, o, c0, fa, fc, xa, xc, ma, mc, ia, ic, hvs, hg, d0, d1, d2, d3, d4, d5, d6, d7, kd⟩ := decl_at HH.out (W := W5) (fun b hb => HB4.out.block b hb) hx
    have hcv : IntKind.i64.wrap (a : Int) = (a : Int) := by rw [IntKind.wrap_i64]; omega
    have hq0 : (0 : Int) ≤ (q : Int) := by omega
    have hq1 : (q : Int) < (n : Int) := by omega
    obtain rfl : va = some ⟨g, o, none⟩ := by injection hvs
    have hxm := List.mem_of_getElem? hx
    have HXM := Lib.hid hxm
    have HKD := Lib.hid kd
    have HHH := Lib.hid HH.out
    clear hvs hx hxm kd hq
    go_upto_region 8 with fail
    have hY8 : (W5.alloc (.cells #[.int .i64 x.kind, .string (mkB x.name), .int .i64 77, .int .i64 7, .slice fa x.fields.length fc, .slice xa x.values.length xc, .slice ma x.methods.length mc, .slice ia x.inner.length ic] 54)).heap[W5.heap.size]? = some (.cells #[.int .i64 x.kind, .string (mkB x.name), .int .i64 77, .int .i64 7, .slice fa x.fields.length fc, .slice xa x.values.length xc, .slice ma x.methods.length mc, .slice ia x.inner.length ic] 54 (0, 0)) := alloc_heap_new _ _
    have hYB : Below w.heap.size w (W5.alloc (.cells #[.int .i64 x.kind, .string (mkB x.name), .int .i64 77, .int .i64 7, .slice fa x.fields.length fc, .slice xa x.values.length xc, .slice ma x.methods.length mc, .slice ia x.inner.length ic] 54)) := HB4.out.alloc HB4.out.size _
    have hY5 : Below W5.heap.size W5 (W5.alloc (.cells #[.int .i64 x.kind, .string (mkB x.name), .int .i64 77, .int .i64 7, .slice fa x.fields.length fc, .slice xa x.values.length xc, .slice ma x.methods.length mc, .slice ia x.inner.length ic] 54)) := (Below.refl _ W5).alloc (Nat.le_refl _) _
    have hws := HB4.out.size
    generalize (W5.alloc (.cells #[.int .i64 x.kind, .string (mkB x.name), .int .i64 77, .int .i64 7, .slice fa x.fields.length fc, .slice xa x.values.length xc, .slice ma x.methods.length mc, .slice ia x.inner.length ic] 54)) = Y at *
    obtain ⟨rs, hrl, hr8, hr1, hrk, hfl, hnews⟩ := rows_of_held HHH.out HN.out
    obtain ⟨RF, hRF⟩ : ∃ r, rs.flatMap id = r := ⟨_, rfl⟩
    obtain ⟨x0, x1, x2, x3, x4, x5, x6, x7⟩ := cells8 hY8
    have hYs : W5.heap.size < Y.heap.size := blk_lt hY8
    have hgl : g < w.heap.size := hg
    have hnewsY : ∀ (i : Nat) (u : Value), RF[i]? = some u → Y.cell? ⟨g, o + i, none⟩ = some u := fun i u hu => by
     rw [World.cell?_of_block (hYB.block g hg)]; exact hnews i u (by rw [hRF]; exact hu)
    have HRL := Lib.hid hrl
    have HR8 := Lib.hid hr8
    have HRK := Lib.hid hrk
    have HRF := Lib.hid hRF
    rw [hRF] at hfl hr1
    have HFL := Lib.hid hfl
    have HR1 := Lib.hid hr1
    have HNW := Lib.hid hnewsY
    have HYB := Lib.hid hYB
    have HY5 := Lib.hid hY5
    have HY8 := Lib.hid hY8
    clear hrl hr8 hrk hRF hfl hr1 hnews hnewsY hYB hY5 hY8 d0 d1 d2 d3 d4 d5 d6 d7
    go_region_law (first
     | (refine tw_old (Y := Y) g o n vc RF (by first | exact (Ap.none (Below.refl _ Y)).drew | exact ((Ap.none (Below.refl _ Y)).alloc _).drew | exact (ap_none2 Y _).drew) HFL.out (by omega) HNW.out HR1.out (by omega) (by omega) rfl _ _ rfl rfl rfl ?_; intro g6 cap6 W6 hA6 hlt6 hold6; have hb6 := (hA6.old.block _ hYs).trans HY8.out; obtain ⟨y0, y1, y2, y3, y4, y5, y6, y7⟩ := cells8 hb6; dsimp only)
     | (refine tw_box (Y := Y) _ [.int .i64 x.kind, .string (mkB x.name), .int .i64 77, .int .i64 7, .slice fa x.fields.length fc, .slice xa x.values.length xc, .slice ma x.methods.length mc, .slice ia x.inner.length ic] (by first | exact hA6 | exact hA6.alloc _) (by first | exact alloc_heap_new _ _ | exact (hold6 _ (Nat.lt_of_succ_lt (two_lt Y _ _)) (by intro e; injection e with e; have e' : Y.heap.size + 1 = Y.heap.size := e; omega)).trans (two_old Y _ _) | exact (hold6 _ (two_lt Y _ _) (by intro e; injection e with e; have e' : Y.heap.size = Y.heap.size + 1 := e; omega)).trans (two_new Y _ _)) rfl (by intro u hu; simp only [List.mem_cons, List.not_mem_nil, or_false] at hu; rcases hu with rfl | rfl | rfl | rfl | rfl | rfl | rfl | rfl <;> rfl) (by omega) rfl _ _ rfl rfl rfl ?_; intro g7 cap7 W7 hA7; dsimp only))
    all_goals
     have hHD : HeldD (f + 1) W7 (fun b => b < W7.heap.size) (.slice (some ⟨g7, 0, none⟩) (n + 1) cap7) (ds ++ [atPlace x 77 7]) := held_ap (Y := Y) (rs := rs) (x := atPlace x 77 7) (by rw [HRF.out]; exact hA7) HN.out HRL.out HR8.out (fun j d hj => by obtain ⟨k1, k2, k3, k4, h1, h2⟩ := HRK.out j d hj; exact ⟨k1, k2, k3, k4, h1, (h2.old fun b hb => HYB.out.block b hb).more fun b hb => Nat.lt_of_lt_of_le hb HYB.out.size⟩) ((HKD.out.old fun b hb => HY5.out.block b (Nat.lt_of_lt_of_le hb hws)).more fun b hb => Nat.lt_of_lt_of_le hb HYB.out.size)
     have hx8 : W7.heap[W5.heap.size]? = _ := (hA7.old.block _ hYs).trans HY8.out
     have HX8 := Lib.hid hx8
     have HB7 : Hid (Below w.heap.size w W7) := HYB.out.trans (hA7.old.mono HYB.out.size)
     have h7s : Y.heap.size ≤ W7.heap.size := hA7.old.size
     have hFT' : FitD (f + 1) (ds ++ [atPlace x 77 7]) := fit_put 77 7 HFT.out (by have := HN.out; omega) HXM.out
     have hTX' : TxtD (f + 1) (ds ++ [atPlace x 77 7]) := txt_put 77 7 HTX.out HXM.out
     have hCT' : ctL (f + 1) (ds ++ [atPlace x 77 7]) ≤ 2000 := ct_put 77 7 HCT.out HXM.out
     have hLN : (ds ++ [atPlace x 77 7]).length = n + 1 := by rw [List.length_append, HN.out]; rfl
     have hth := theirs_any (f + 1) (ds ++ [atPlace x 77 7]) _ W7 hFT' hHD
     obtain ⟨o0, ho0, hP0⟩ := HP.out
     obtain ⟨hfm0, hnm0⟩ := checkP_ok hP0
     have HTW := Lib.hid (fun o => checkP_twice (f := f) (l := 77) (c := 7) (o := o) hfm0 hnm0 HXM.out)
     have HFT' := Lib.hid hFT'
     have HTX' := Lib.hid hTX'
     have HCT' := Lib.hid hCT'
     have HLN := Lib.hid hLN
     clear hHD hx8 hA7 hFT' hTX' hCT' hLN ho0 hP0 hfm0 hnm0 hA6 hlt6 hold6 hb6 y0 y1 y2 y3 y4 y5 y6 y7 x0 x1 x2 x3 x4 x5 x6 x7
     go_wp2_with fail
     refine hth.mono ?_
     rintro e W8 ⟨ad8, c8, rfl, hH8, hb8⟩
     rw [HLN.out] at hH8 ⊢
     have h8s := hb8.size
     have hcall := checkP_any f (ds ++ [atPlace x 77 7]) (.slice ad8 (n + 1) c8) W8 HFT'.out HTX'.out HCT'.out (fun h => ckFit HFT'.out HTX'.out HCT'.out h) (hH8.more fun b hb => hb.2)
     have HB8 : Hid (Below w.heap.size w W8) := HB7.out.trans (hb8.mono HB7.out.size)
     have HX8' : Hid (W8.heap[W5.heap.size]? = _) := (hb8.block _ (by omega)).trans HX8.out
     clear hth hH8 hb8
     go_wp2_with fail
     refine hcall.mono ?_
     rintro e W9 ⟨aa', ba', ca', an', ac', bn', bc', cn', cc', s', l', p', k', rfl, hb9, -, o9, ho9, hP9⟩
     have h9s := hb9.size
     have htw := HTW.out o9
     rw [← hP9] at htw
     have hx9 : ((W9.alloc (.cells #[.slice aa' an' ac', .slice ba' bn' bc', .slice ca' cn' cc'] 29)).alloc (.cells #[.int .i64 l', .int .i64 p'] 31)).heap[W5.heap.size]? = some (.cells #[.int .i64 x.kind, .string (mkB x.name), .int .i64 77, .int .i64 7, .slice fa x.fields.length fc, .slice xa x.values.length xc, .slice ma x.methods.length mc, .slice ia x.inner.length ic] 54 (0, 0)) := (alloc_heap_old _ _ _ (by simp; omega)).trans ((alloc_heap_old _ _ _ (by omega)).trans ((hb9.block _ (by omega)).trans HX8'.out))
     have hp9 : ((W9.alloc (.cells #[.slice aa' an' ac', .slice ba' bn' bc', .slice ca' cn' cc'] 29)).alloc (.cells #[.int .i64 l', .int .i64 p'] 31)).heap[W9.heap.size + 1]? = some (.cells #[.int .i64 l', .int .i64 p'] 31 (0, 0)) := by
      have := alloc_heap_new (W9.alloc (.cells #[.slice aa' an' ac', .slice ba' bn' bc', .slice ca' cn' cc'] 29)) (.cells #[.int .i64 l', .int .i64 p'] 31)
      simpa using this
     have hB9 : Below w.heap.size w ((W9.alloc (.cells #[.slice aa' an' ac', .slice ba' bn' bc', .slice ca' cn' cc'] 29)).alloc (.cells #[.int .i64 l', .int .i64 p'] 31)) := ((HB8.out.trans (hb9.mono HB8.out.size)).alloc (Nat.le_trans HB8.out.size h9s) _).alloc (by simp; have := HB8.out.size; omega) _
     clear hcall hb9 hP9 ho9
     go_upto_region 10 with fail
     generalize ((W9.alloc (.cells #[.slice aa' an' ac', .slice ba' bn' bc', .slice ca' cn' cc'] 29)).alloc (.cells #[.int .i64 l', .int .i64 p'] 31)) = V9 at *
     obtain ⟨-, -, z2, z3, -, -, -, -⟩ := cells8 hx9
     obtain ⟨v0, v1, -, -⟩ := box_pos hp9
     have HB9 := Lib.hid hB9
     clear hx9 hp9 hB9
     rcases htw with h4 | h9
     ·have h4' : k' = 4 := h4
      subst h4'
      go_wp2_with fail
      go_ret
      exact ⟨rfl, HB9.out⟩
     ·obtain ⟨⟨rfl, rfl⟩, rfl⟩ : (l' = 77 ∧ p' = 7) ∧ k' = 9 := by simpa using h9
      go_wp2_with fail
      go_ret
      exact ⟨rfl, HB9.out⟩
  ·have HK0 := Lib.hid hk
   have hk' : ¬ k = 0 := hk
   go_wp2_with fail
   go_ret
   exact ⟨rfl, HB4.out⟩
end Go.Proofs.YtpojeinddnjpfaaGreatDoor
