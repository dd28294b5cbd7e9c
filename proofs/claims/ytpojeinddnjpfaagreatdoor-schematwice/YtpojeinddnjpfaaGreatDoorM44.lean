/-
  What formed declarations give Check: bounds, names and numbers of their own. Nothing is walked here.
  The place behind the last rune of a text, as the program reckons it: the line feeds are counted, and the runes behind the last one.
-/
import Derived.Test.YtpojeinddnjpfaaGreatDoorM43
import Derived.Test.YtpojeinddnjpfaaGreatDoorM0
import Derived.Test.YtpojeinddnjpfaaGreatDoorM1
import Derived.Test.YtpojeinddnjpfaaGreatDoorM3
import Derived.Test.YtpojeinddnjpfaaGreatDoorM14
import Derived.WalkKit
namespace Go.Proofs.YtpojeinddnjpfaaGreatDoor
set_option linter.unusedVariables false

structure PlF (x : Pl) : Prop where
 wl : x.1.length ≤ 1610
 kd : x.2.kind = 1 ∨ x.2.kind = 2 ∨ x.2.kind = 3
 nl : x.2.name.length ≤ 160
 il : x.2.inner.length ≤ 100000 ∧ ∀ y ∈ x.2.inner, y.name.length ≤ 160
 fl : x.2.fields.length ≤ 100000 ∧ x.2.values.length ≤ 100000 ∧ x.2.methods.length ≤ 100000
 ft : ∀ y ∈ x.2.fields, y.type.length ≤ 200000000 ∧ y.name.length ≤ 160 ∧ numOK y.num = true
 vt : ∀ y ∈ x.2.values, y.name.length ≤ 160 ∧ numOK y.num = true
 mt : ∀ y ∈ x.2.methods, y.inp.length ≤ 200000000 ∧ y.out.length ≤ 200000000 ∧ y.name.length ≤ 160
theorem plain_len8 {l : List UInt8} (h : plainL l = true) : l.length ≤ 160 := by
 have := name_size (mkB l) (plainL_name h).1
 rw [mkB_size] at this; exact this
theorem fm_names {f k : Nat} {ds : List Dc} (h : fmL f k ds = true) : ∀ y ∈ ds, y.name.length ≤ 160 := by
 intro y hy
 cases f with
 | zero => rw [fmL, List.isEmpty_iff] at h; subst h; cases hy
 | succ f =>
  rw [fmL_succ, List.all_eq_true] at h
  exact plain_len8 (fmD_parts (h y hy)).1
theorem loc_fit : ∀ (f k : Nat) (a : List UInt8) (ds : List Dc), fmL f k ds = true → k ≤ 8 → FitD f ds → TxtD f ds → a.length ≤ 161 * k → ∀ x ∈ locL f a ds, PlF x
 | 0, k, a, ds, _, _, _, _, _, x, hx => by simp [locL] at hx
 | f + 1, k, a, ds, hfm, hk, hf, ht, ha, x, hx => by
  rw [locL, List.mem_flatMap] at hx
  obtain ⟨d, hd, hx⟩ := hx
  rw [fmL_succ, List.all_eq_true] at hfm
  have hD := hfm d hd
  obtain ⟨p1, p2, p3, p4, p5, p6, p7, p8, p9⟩ := fmD_parts hD
  obtain ⟨hf1, hf2⟩ := hf
  obtain ⟨f1, f2, f3, f4⟩ := hf2 d hd
  obtain ⟨t1, t2, t3, t4, t5⟩ := ht d hd
  have hn := plain_len8 p1
  rcases List.mem_cons.1 hx with rfl | hx
  ·have hinn := fm_inner hD
   refine ⟨by simp only [List.length_append]; omega, p2, hn, ⟨?_, fm_names hinn⟩, ⟨f1, f2, f3⟩, fun y hy => ?_, fun y hy => ?_, fun y hy => ?_⟩
   ·show d.inner.length ≤ 100000
    cases f with
    | zero => rw [fmL, List.isEmpty_iff] at hinn; rw [hinn]; simp
    | succ f => exact f4.1
   ·have h1 := List.all_eq_true.1 p3 y hy
    unfold fOK at h1
    simp only [Bool.and_eq_true] at h1
    exact ⟨(t2 y hy).1, plain_len8 h1.1.2, h1.2⟩
   ·have h1 := List.all_eq_true.1 p4 y hy
    unfold vOK at h1
    simp only [Bool.and_eq_true] at h1
    exact ⟨plain_len8 h1.1, h1.2⟩
   ·have h1 := List.all_eq_true.1 p5 y hy
    unfold mOK at h1
    simp only [Bool.and_eq_true] at h1
    exact ⟨(t4 y hy).2.1, (t4 y hy).2.2, plain_len8 h1.1.1⟩
  ·by_cases hk8 : k = 8
   ·have hi : d.inner = [] := by
     by_cases h1 : d.kind = 1
     ·have h8 := (p6 h1).1
      omega
     ·exact (p7 h1).1
    rw [hi] at hx
    cases f <;> simp [locL] at hx
   ·exact loc_fit f (k + 1) _ _ (fm_inner hD) (by omega) f4 t5 (by simp only [List.length_append, List.length_cons, List.length_nil]; omega) x hx
theorem msum_app : ∀ (a b : List Pl), msum (a ++ b) = msum a + msum b
 | [], b => by simp [msum]
 | x :: t, b => by
  have := msum_app t b
  simp only [List.cons_append, msum]; omega
theorem cntK_app (k : Int) (a b : List Pl) : cntK k (a ++ b) = cntK k a + cntK k b := by
 unfold cntK; rw [List.filter_append, List.length_append]
theorem loc_ct : ∀ (f : Nat) (a : List UInt8) (ds : List Dc), (locL f a ds).length + msum (locL f a ds) ≤ ctL f ds
 | 0, a, ds => by simp [locL, msum]
 | f + 1, a, [] => by simp [locL, msum]
 | f + 1, a, d :: t => by
  have h1 := loc_ct f (a ++ d.name ++ [46]) d.inner
  have h2 := loc_ct (f + 1) a t
  rw [ctL_cons]
  have e : locL (f + 1) a (d :: t) = (a ++ d.name, d) :: (locL f (a ++ d.name ++ [46]) d.inner ++ locL (f + 1) a t) := by
   rw [locL, locL, List.flatMap_cons, List.cons_append]
  rw [e]
  simp only [msum, List.length_cons, List.length_append, msum_app, ctD]
  omega
theorem nodup_take {α : Type} {l : List α} (h : ∀ (k : Nat) (a : α), l[k]? = some a → a ∉ l.take k) : l.Nodup := by
 refine List.pairwise_iff_getElem.2 fun i j hi hj hij e => ?_
 refine h j l[j] (List.getElem?_eq_getElem hj) ?_
 rw [← e]
 exact List.mem_take_iff_getElem.2 ⟨i, by omega, rfl⟩
theorem num_nodup {d : Dc} (h : numX d = none) : (d.fields.map (·.num)).Nodup := by
 have h1 : firstS (badX (askN d)) (askN d).length = none := by
  unfold numX at h
  split at h
  ·cases h
  ·exact h
 have h2 : ((askN d).map (·.1)).Nodup := by
  refine nodup_take fun k a hk hm => ?_
  rw [List.getElem?_map, Option.map_eq_some_iff] at hk
  obtain ⟨q, hq, rfl⟩ := hk
  have h3 := firstS_none h1 k (List.getElem?_eq_some_iff.1 hq).1
  unfold badX at h3
  rw [hq] at h3
  simp only at h3
  split at h3
  ·cases h3
  ·rename_i hno
   exact hno (.inr (by rw [List.map_take]; exact hm))
 unfold askN at h2
 rw [List.map_append, List.map_map] at h2
 exact (List.nodup_append.1 h2).1
theorem name_nodup {ps : List Pl} (h : firstS (nameG ps) ps.length = none) : (ps.map (·.1)).Nodup := by
 refine nodup_take fun k a hk hm => ?_
 rw [List.getElem?_map, Option.map_eq_some_iff] at hk
 obtain ⟨q, hq, rfl⟩ := hk
 have h3 := firstS_none h k (List.getElem?_eq_some_iff.1 hq).1
 unfold nameG at h3
 rw [hq] at h3
 simp only at h3
 split at h3
 ·cases h3
 ·rename_i hno
  exact hno (by rw [List.map_take]; exact hm)
theorem nodup_at {α : Type} {l : List α} (h : l.Nodup) {i j : Nat} {x : α} (hi : l[i]? = some x) (hj : l[j]? = some x) : i = j := by
 obtain ⟨h1, h2⟩ := List.getElem?_eq_some_iff.1 hi
 obtain ⟨h3, h4⟩ := List.getElem?_eq_some_iff.1 hj
 have hp := List.pairwise_iff_getElem.1 h
 rcases Nat.lt_trichotomy i j with hl | hl | hl
 ·exact absurd (h2.trans h4.symm) (hp i j h1 h3 hl)
 ·exact hl
 ·exact absurd (h4.trans h2.symm) (hp j i h3 h1 hl)
theorem apart_of {L : List Sy} (h : (L.map (·.1)).Nodup) : Apart L := by
 intro i j x y hi hj e
 exact nodup_at h (i := i) (j := j) (x := x.1) (by rw [List.getElem?_map, hi]; rfl) (by rw [List.getElem?_map, hj, e]; rfl)
theorem inner_mem {l : List Sy} {sc n : List UInt8} {z : Sy} (h : innerL l sc n = some z) : z ∈ l ∧ (z.2 = 1 ∨ z.2 = 2) := by
 unfold innerL at h
 rw [Option.filter_eq_some_iff] at h
 obtain ⟨h1, h2⟩ := h
 refine ⟨List.mem_of_find?_eq_some h1, ?_⟩
 unfold meant at h2
 exact of_decide_eq_true h2
theorem walk_mem {l : List Sy} : ∀ (ns : List (List UInt8)) (x z : Sy), (x ∈ l ∧ (x.2 = 1 ∨ x.2 = 2)) → walkL l x ns = some z → z ∈ l ∧ (z.2 = 1 ∨ z.2 = 2)
 | [], x, z, hx, h => by rw [walkL] at h; cases h; exact hx
 | n :: t, x, z, hx, h => by
  rw [walkL] at h
  cases e : innerL l x.1 n with
  | none => rw [e] at h; cases h
  | some y => rw [e] at h; exact walk_mem t y z (inner_mem e) h
theorem climb_mem {l : List Sy} {n0 : List UInt8} {ns : List (List UInt8)} : ∀ (k : Nat) (sc : List UInt8) (z : Sy), climbL l n0 ns k sc = some z → z ∈ l ∧ (z.2 = 1 ∨ z.2 = 2)
 | 0, sc, z, h => by rw [climbL] at h; cases h
 | k + 1, sc, z, h => by
  rw [climbL] at h
  cases e : innerL l sc n0 with
  | some y => rw [e] at h; exact walk_mem ns y z (inner_mem e) h
  | none =>
   rw [e] at h
   simp only at h
   split at h
   ·cases h
   ·exact climb_mem k _ z h
theorem findL_mem {l : List Sy} {sc path : List UInt8} {z : Sy} (h : findL l sc path = some z) : z ∈ l ∧ (z.2 = 1 ∨ z.2 = 2) := by
 unfold findL at h
 split at h
 ·split at h
  ·cases e : pcs [] path with
   | nil => rw [e] at h; cases h
   | cons n ns => rw [e] at h; exact climb_mem _ _ _ h
  ·cases h
 ·cases h
theorem noSvc_all (f : Nat) (a : List UInt8) : ∀ ds : List Dc, (allL (f + 1) a (noSvc ds)).Sublist (allL (f + 1) a ds)
 | [] => List.Sublist.refl _
 | d :: t => by
  have ih := noSvc_all f a t
  rw [allL_cons]
  by_cases h : d.kind = 3
  ·have e : noSvc (d :: t) = noSvc t := by unfold noSvc; rw [List.filter_cons]; simp [h]
   rw [e]
   exact (ih.trans (List.sublist_append_right _ _)).cons _
  ·have e : noSvc (d :: t) = d :: noSvc t := by unfold noSvc; rw [List.filter_cons]; simp [h]
   rw [e, allL_cons]
   exact List.Sublist.cons_cons _ (List.Sublist.append (List.Sublist.refl _) ih)
theorem noSvc_fm {f k : Nat} {ds : List Dc} (h : fmL (f + 1) k ds = true) : fmL (f + 1) k (noSvc ds) = true := by
 rw [fmL_succ, List.all_eq_true] at h ⊢
 exact fun x hx => h x ((List.mem_filter.1 hx).1)
theorem noSvc_ct (f : Nat) : ∀ ds : List Dc, ctL (f + 1) (noSvc ds) ≤ ctL (f + 1) ds
 | [] => Nat.le_refl _
 | d :: t => by
  have ih := noSvc_ct f t
  rw [ctL_cons]
  by_cases h : d.kind = 3
  ·have e : noSvc (d :: t) = noSvc t := by unfold noSvc; rw [List.filter_cons]; simp [h]
   rw [e]; omega
  ·have e : noSvc (d :: t) = d :: noSvc t := by unfold noSvc; rw [List.filter_cons]; simp [h]
   rw [e, ctL_cons]; omega
theorem findP_mem {f : Nat} {ds : List Dc} (hfm : fmL (f + 1) 0 ds = true) (hnd : ((locL (f + 1) [] ds).map (·.1)).Nodup) {sc path : List UInt8} {z : Sy} (h : findP (f + 1) (noSvc ds) sc path = some z) : z ∈ allL (f + 1) [] ds ∧ (z.2 = 1 ∨ z.2 = 2) := by
 have hA : Apart (allL (f + 1) [] (noSvc ds)) := by
  refine apart_of ?_
  refine List.Nodup.sublist ((noSvc_all f [] ds).map (·.1)) ?_
  rw [loc_all, List.map_map]; exact hnd
 rw [find_eq (noSvc_fm hfm) hA] at h
 obtain ⟨h1, h2⟩ := findL_mem h
 exact ⟨(noSvc_all f [] ds).subset h1, h2⟩
theorem numsN_pos (ps : List Pl) : ∀ (j : Nat) (x : List UInt8), 0 ≤ numsN ps j x
 | 0, x => Int.le_refl _
 | j + 1, x => by
  have ih := numsN_pos ps j x
  rw [numsN]
  split
  ·split
   ·exact Int.natCast_nonneg _
   ·exact ih
  ·exact ih
theorem numsN_at {ps : List Pl} (hnd : (ps.map (·.1)).Nodup) {i : Nat} {x : Pl} (hi : ps[i]? = some x) (hk : x.2.kind = 1 ∨ x.2.kind = 2) : ∀ j : Nat, i < j → j ≤ ps.length → numsN ps j x.1 = (cntK x.2.kind (ps.take i) : Int)
 | 0, h, _ => absurd h (Nat.not_lt_zero _)
 | j + 1, h, hl => by
  obtain ⟨p, hp⟩ : ∃ p, ps[j]? = some p := ⟨ps[j], List.getElem?_eq_getElem (by omega)⟩
  rw [numsN, hp]
  simp only
  split
  ·rename_i hc
   have : i = j := nodup_at hnd (x := x.1) (by rw [List.getElem?_map, hi]; rfl) (by rw [List.getElem?_map, hp, hc.2]; rfl)
   subst this
   rw [hi] at hp
   cases hp
   rfl
  ·rename_i hc
   have hne : i ≠ j := by
    intro e
    subst e
    rw [hi] at hp
    cases hp
    exact hc ⟨hk, rfl⟩
   exact numsN_at hnd hi hk j (by omega) (by omega)
theorem cnt_lt {ps : List Pl} {i : Nat} {x : Pl} (hi : ps[i]? = some x) : cntK x.2.kind (ps.take i) < cntK x.2.kind ps := by
 have e : ps = ps.take (i + 1) ++ ps.drop (i + 1) := (List.take_append_drop _ _).symm
 have h : cntK x.2.kind ps = cntK x.2.kind (ps.take (i + 1)) + cntK x.2.kind (ps.drop (i + 1)) := by
  rw [← cntK_app, ← e]
 rw [h, take_snoc hi, cntK_snoc, if_pos rfl]
 omega
theorem tab_ms (f : Nat) (types : List Dc) (ps : List Pl) (n : Nat) : ∀ (k : Nat) (qs : List Pl), qs.length = k → (tabLP f types ps n qs).ms = (qs.filter fun x => decide (x.2.kind = 1)).map fun x => ⟨x.1, sortF (x.2.fields.map (fdP f types ps n x.1))⟩
 | 0, qs, h => by
  have : qs = [] := List.eq_nil_of_length_eq_zero h
  subst this; rfl
 | k + 1, qs, h => by
  rcases List.eq_nil_or_concat qs with h0 | ⟨q, x, h1⟩
  ·subst h0; simp at h
  ·rw [List.concat_eq_append] at h1
   subst h1
   have hl : q.length = k := by simpa using h
   have ih := tab_ms f types ps n k q hl
   rw [tabLP_snoc, List.filter_append, List.map_append, ← ih]
   unfold tabSP
   by_cases h1 : x.2.kind = 1
   ·rw [if_pos h1]; simp [h1]
   ·rw [if_neg h1]
    by_cases h2 : x.2.kind = 2
    ·rw [if_pos h2]; simp [h1]
    ·rw [if_neg h2]
     by_cases h3 : x.2.kind = 3
     ·rw [if_pos h3]; simp [h1]
     ·rw [if_neg h3]; simp [h1]
theorem scalar_not {ty : List UInt8} : scalarOf ty ≠ 10 := by
 unfold scalarOf
 repeat' split
 all_goals decide
theorem ckFit {f : Nat} {ds : List Dc} (hf : FitD (f + 1) ds) (ht : TxtD (f + 1) ds) (hc : ctL (f + 1) ds ≤ 2000) (hfm : fmL (f + 1) 0 ds = true) : CkFit f ds := by
  have hP := loc_fit (f + 1) 0 [] ds hfm (by omega) hf ht (by simp)
  have hct := loc_ct (f + 1) [] ds
  have hX : firstS (numG (locL (f + 1) [] ds)) (locL (f + 1) [] ds).length = none → ∀ x ∈ locL (f + 1) [] ds, XFit x := by
    intro hnum x hx
    have p := hP x hx
    obtain ⟨i, hi⟩ := List.getElem?_of_mem hx
    have h3 := firstS_none hnum i (List.getElem?_eq_some_iff.1 hi).1
    unfold numG at h3
    rw [hi] at h3
    exact ⟨p.fl.1, p.fl.2.1, p.fl.2.2, by have := p.wl; omega, by have := p.nl; omega, fun y hy => ⟨(p.ft y hy).1, by have := (p.ft y hy).2.1; omega⟩, fun y hy => by have := (p.vt y hy).1; omega, fun y hy => ⟨(p.mt y hy).1, (p.mt y hy).2.1, by have := (p.mt y hy).2.2; omega⟩, num_nodup h3⟩
  refine ⟨by omega, fun x hx => ?_, fun x hx => ?_, by omega, fun hnm => ?_, hX, fun hnm hnum hty => ?_, ?_⟩
  · have p := hP x hx
    exact ⟨⟨⟨p.il.1, p.fl.1, p.fl.2.1, p.fl.2.2⟩, fun y hy => by have := p.il.2 y hy; omega, fun y hy => by have := (p.ft y hy).2.1; omega, fun y hy => by have := (p.vt y hy).1; omega, fun y hy => by have := (p.mt y hy).2.2; omega⟩, by have := p.wl; omega⟩
  · have p := hP x hx
    exact ⟨⟨p.fl.1, p.fl.2.1⟩, fun y hy => (p.ft y hy).2.2, fun y hy => (p.vt y hy).2⟩
  · have hc' := noSvc_ct f ds
    refine ⟨by omega, ⟨Nat.le_trans (noSvc_len ds) hf.1, fun d hd => hf.2 d ((List.mem_filter.1 hd).1)⟩, fun d hd => ht d ((List.mem_filter.1 hd).1), fun sc path z hz => ?_⟩
    have hm := (findP_mem hfm (name_nodup hnm) hz).1
    rw [loc_all, List.mem_map] at hm
    obtain ⟨x, hx, rfl⟩ := hm
    have := (hP x hx).wl
    show x.1.length ≤ _
    omega
  · have hms := tab_ms f (noSvc ds) (locL (f + 1) [] ds) (locL (f + 1) [] ds).length _ (locL (f + 1) [] ds) rfl
    have hlen : (tabLP f (noSvc ds) (locL (f + 1) [] ds) (locL (f + 1) [] ds).length (locL (f + 1) [] ds)).ms.length = cntK 1 (locL (f + 1) [] ds) := by
      rw [hms, List.length_map]; rfl
    have hle : cntK 1 (locL (f + 1) [] ds) ≤ (locL (f + 1) [] ds).length := List.length_filter_le _ _
    refine ⟨by omega, fun m hm => ?_⟩
    rw [hlen]
    rw [hms, List.mem_map] at hm
    obtain ⟨x, hx, rfl⟩ := hm
    have hx' := (List.mem_filter.1 hx).1
    have xf := hX hnum x hx'
    have hperm := (sortF_all (x.2.fields.map (fdP f (noSvc ds) (locL (f + 1) [] ds) (locL (f + 1) [] ds).length x.1)) [] List.Pairwise.nil (by rw [List.nil_append, List.map_map]; exact xf.nd)).1
    refine ⟨?_, fun g hg hk _ => ?_⟩
    · have := hperm.length_eq
      have h1 := xf.fl
      simp only [List.nil_append, List.length_map] at this
      show (sortF _).length ≤ _
      unfold sortF
      omega
    · have hg' := hperm.mem_iff.1 hg
      rw [List.nil_append, List.mem_map] at hg'
      obtain ⟨y, hy, rfl⟩ := hg'
      refine ⟨?_, ?_⟩
      all_goals
        revert hk
        unfold fdP ftP
        simp only
        split
        · cases hz : findP (f + 1) (noSvc ds) x.1 y.type with
          | none => intro hk; simp at hk
          | some z =>
            simp only [Option.getD_some]
            intro hk
            first
              | exact numsN_pos _ _ _
              | (have hz1 : z.2 = 1 := by
                   by_cases h1 : z.2 = 1
                   · exact h1
                   · rw [if_neg h1] at hk; cases hk
                 have hm := (findP_mem hfm (name_nodup hnm) hz).1
                 rw [loc_all, List.mem_map] at hm
                 obtain ⟨q, hq, hqz⟩ := hm
                 obtain ⟨i, hi⟩ := List.getElem?_of_mem hq
                 have hq1 : q.2.kind = 1 := by rw [← hz1, ← hqz]
                 have h1 := numsN_at (name_nodup hnm) hi (.inl hq1) _ (List.getElem?_eq_some_iff.1 hi).1 (Nat.le_refl _)
                 have h2 := cnt_lt hi
                 rw [hq1] at h1 h2
                 have hz' : z.1 = q.1 := by rw [← hqz]
                 rw [hz', h1]
                 omega)
        · intro hk
          exact absurd hk scalar_not
  · rw [tab_ms f (noSvc ds) (locL (f + 1) [] ds) (locL (f + 1) [] ds).length _ (locL (f + 1) [] ds) rfl, List.length_map]
    exact Nat.le_refl _
end Go.Proofs.YtpojeinddnjpfaaGreatDoor
namespace Go.Proofs.YtpojeinddnjpfaaGreatDoor
set_option linter.unusedVariables false
open Go.ChangeShapes Go.WideShapes Go.ChangeAt Go.RowKit

def cntL : Nat → List UInt8 → Nat
 | 0, _ => 0
 | f + 1, l => if l = [] then 0 else 1 + cntL f (l.drop (nx l).2)
theorem nx_dec (l : List UInt8) (h : l ≠ []) : (nx l).2 = (Lib.decodeL l).2 := by
 unfold nx
 rw [if_neg h]
 split <;> rfl
theorem cnt_rune (s : ByteArray) : ∀ (f pos : Nat), Lib.runeCountFrom s f pos = cntL f (s.data.toList.drop pos)
 | 0, pos => rfl
 | f + 1, pos => by
  have hl : s.data.toList.length = s.size := len_data s
  by_cases hp : pos < s.size
  ·have hne : s.data.toList.drop pos ≠ [] := by
    intro e
    have := congrArg List.length e
    rw [List.length_drop, hl] at this
    simp at this; omega
   rw [Lib.runeCountFrom, if_pos hp, cntL, if_neg hne, nx_dec _ hne, Lib.decodeL_drop, List.drop_drop, cnt_rune s f]
  ·have hne : s.data.toList.drop pos = [] := List.drop_eq_nil_of_le (by omega)
   rw [Lib.runeCountFrom, if_neg hp, cntL, if_pos hne]
theorem end_none : ∀ (f : Nat) (l : List UInt8) (line col : Nat), (∀ b ∈ l, b ≠ 10) → l.length ≤ f → endL f l line col = (line, col + cntL f l)
 | 0, l, line, col, _, h => rfl
 | f + 1, l, line, col, hb, h => by
  by_cases hl : l = []
  ·rw [endL, if_pos hl, cntL, if_pos hl]; rfl
  ·have hn := nx_not10 l hl (by
    cases l with
    | nil => exact absurd rfl hl
    | cons a t => intro e; exact hb a (by simp) (by simpa using e))
   have hw := nx_width l hl
   rw [endL, if_neg hl, if_neg hn, cntL, if_neg hl, end_none f (l.drop (nx l).2) line (col + 1) (fun b hb' => hb b (List.mem_of_mem_drop hb')) (by rw [List.length_drop]; omega)]
   rw [Nat.add_assoc]
theorem no_feed (a y : List UInt8) (ha : a ≠ []) (h10 : a.head? ≠ some 10) : (a.take (nx (a ++ 10 :: y)).2).count 10 = 0 := by
 apply List.count_eq_zero.2
 intro hm
 obtain ⟨i, hi⟩ := List.getElem?_of_mem hm
 have hil := (List.getElem?_eq_some_iff.1 hi).1
 rw [List.length_take] at hil
 rw [List.getElem?_take, if_pos (by omega)] at hi
 have hia : i < a.length := by omega
 have hsp : a = a.take i ++ 10 :: a.drop (i + 1) := by
  have e := List.getElem?_eq_some_iff.1 hi
  conv => lhs; rw [← List.take_append_drop i a]
  rw [List.drop_eq_getElem_cons hia, e.2]
 have hi0 : i ≠ 0 := by
  intro e; subst e
  apply h10
  rw [← hi]
  cases a <;> rfl
 have hne : a.take i ≠ [] := by
  intro e
  have := congrArg List.length e
  rw [List.length_take] at this
  simp at this
  rcases this with h | h
  ·exact hi0 h
  ·exact ha h
 have hl := (nx_local (a.take i) (a.drop (i + 1) ++ 10 :: y) hne).2
 have e2 : a.take i ++ 10 :: (a.drop (i + 1) ++ 10 :: y) = a ++ 10 :: y := by
  conv => rhs; rw [hsp]
  simp
 rw [e2, List.length_take] at hl
 omega
theorem end_feed (b : List UInt8) : ∀ (n : Nat) (a : List UInt8), a.length ≤ n → ∀ (f line col : Nat), (a ++ 10 :: b).length ≤ f → ∃ f', b.length ≤ f' ∧ endL f (a ++ 10 :: b) line col = endL f' b (line + a.count 10 + 1) 1 := by
 intro n
 induction n with
 | zero =>
  intro a ha f line col hf
  have : a = [] := List.eq_nil_of_length_eq_zero (by omega)
  subst this
  simp at hf
  obtain ⟨f, rfl⟩ : ∃ g, f = g + 1 := ⟨f - 1, by omega⟩
  refine ⟨f, by omega, ?_⟩
  rw [List.nil_append, endL, if_neg (by simp), nx_feed, if_pos rfl]; rfl
 | succ n ih =>
  intro a ha f line col hf
  by_cases hz : a = []
  ·subst hz
   exact ih [] (by simp) f line col hf
  ·obtain ⟨f, rfl⟩ : ∃ g, f = g + 1 := ⟨f - 1, by rw [List.length_append] at hf; simp at hf; omega⟩
   have hne : a ++ 10 :: b ≠ [] := by simp
   have hw := nx_width _ hne
   have hl := nx_local a b hz
   have hd : (a ++ 10 :: b).drop (nx (a ++ 10 :: b)).2 = a.drop (nx (a ++ 10 :: b)).2 ++ 10 :: b := by
    rw [List.drop_append_of_le_length hl.2]
   have hlen : (a.drop (nx (a ++ 10 :: b)).2).length ≤ n := by rw [List.length_drop]; omega
   have hf2 : (a.drop (nx (a ++ 10 :: b)).2 ++ 10 :: b).length ≤ f := by rw [← hd, List.length_drop]; omega
   have hcount : a.count 10 = (a.take (nx (a ++ 10 :: b)).2).count 10 + (a.drop (nx (a ++ 10 :: b)).2).count 10 := by
    rw [← List.count_append, List.take_append_drop]
   by_cases h10 : a.head? = some 10
   ·cases a with
    | nil => exact absurd rfl hz
    | cons x t =>
     have hx : x = 10 := by simpa using h10
     subst hx
     have hn : nx (10 :: t ++ 10 :: b) = (10, 1) := nx_feed _
     rw [hn] at hd hlen hf2 hcount
     obtain ⟨f', h1, h2⟩ := ih _ hlen f (line + 1) 1 hf2
     refine ⟨f', h1, ?_⟩
     rw [endL, if_neg hne, hn, if_pos rfl, hd, h2]
     congr 1
     simp
     omega
   ·have hnx := nx_not10 (a ++ 10 :: b) hne (by
     cases a with
     | nil => exact absurd rfl hz
     | cons x t => exact h10)
    obtain ⟨f', h1, h2⟩ := ih _ hlen f line (col + 1) hf2
    refine ⟨f', h1, ?_⟩
    rw [endL, if_neg hne, if_neg hnx, hd, h2, hcount, no_feed a b hz h10, Nat.zero_add]
theorem end_is (s : ByteArray) (t : ByteArray) (ht : t.data.toList = s.data.toList.drop ((Lib.lastIndexByte s 10 + 1).toNat)) :
  endOf s.data.toList = (1 + Lib.countByte s.data.toList 10, 1 + Lib.runeCount t) := by
 have hls : s.data.toList.length = s.size := len_data s
 have hlt : t.data.toList.length = t.size := len_data t
 have hrc : Lib.runeCount t = cntL t.size t.data.toList := by
  unfold Lib.runeCount; rw [cnt_rune, List.drop_zero]
 have hget : ∀ j (hj : j < s.size), s.data[j]! = s.data.toList[j]'(by rw [hls]; exact hj) := by
  intro j hj
  rw [getElem!_pos s.data j hj]
  simp
 unfold endOf Lib.countByte
 rcases Lib.lastIndexByte_spec s 10 with ⟨h1, h2⟩ | ⟨i, h1, h2, h3, h4⟩
 ·have hno : ∀ b ∈ s.data.toList, b ≠ 10 := by
   intro b hb e
   obtain ⟨j, hj⟩ := List.getElem?_of_mem hb
   obtain ⟨hj1, hj2⟩ := List.getElem?_eq_some_iff.1 hj
   have := h2 j (by omega)
   rw [hget j (by omega), hj2, e] at this
   exact this rfl
  have htt : t.data.toList = s.data.toList := by rw [ht, h1]; rfl
  rw [end_none _ _ _ _ hno (Nat.le_refl _), hrc, htt, ← hlt, htt, List.count_eq_zero.2 (fun hm => hno 10 hm rfl)]
 ·have hi : i < s.data.toList.length := by omega
  have h10 : s.data.toList[i] = 10 := by
   have := h3
   rw [hget i h1] at this
   apply UInt8.toNat_inj.1
   show _ = 10
   omega
  have hb : t.data.toList = s.data.toList.drop (i + 1) := by
   rw [ht, h2]; congr 1
  have hsp : s.data.toList = s.data.toList.take i ++ 10 :: t.data.toList := by
   conv => lhs; rw [← List.take_append_drop i s.data.toList]
   rw [List.drop_eq_getElem_cons hi, h10, hb]
  have hno : ∀ b ∈ t.data.toList, b ≠ 10 := by
   intro b hb' e
   rw [hb] at hb'
   obtain ⟨j, hj⟩ := List.getElem?_of_mem hb'
   rw [List.getElem?_drop] at hj
   obtain ⟨hj1, hj2⟩ := List.getElem?_eq_some_iff.1 hj
   have := h4 (i + 1 + j) (by omega) (by omega)
   rw [hget (i + 1 + j) (by omega), hj2, e] at this
   exact this rfl
  obtain ⟨f', g1, g2⟩ := end_feed t.data.toList _ (s.data.toList.take i) (Nat.le_refl _) (s.data.toList.take i ++ 10 :: t.data.toList).length 1 1 (Nat.le_refl _)
  have hcs : s.data.toList.count 10 = (s.data.toList.take i).count 10 + 1 := by
   conv => lhs; rw [hsp]
   rw [List.count_append, List.count_cons_self, List.count_eq_zero.2 (fun hm => hno 10 hm rfl)]
  rw [hcs]
  conv => lhs; rw [hsp]
  rw [g2, end_none f' _ _ _ hno g1, hrc]
  have hfu : ∀ (f g : Nat) (l : List UInt8), l.length ≤ f → l.length ≤ g → cntL f l = cntL g l := by
   intro f
   induction f with
   | zero =>
    intro g l hf hg
    have : l = [] := List.eq_nil_of_length_eq_zero (by omega)
    subst this
    cases g with
    | zero => rfl
    | succ g => rw [cntL, cntL, if_pos rfl]
   | succ f ih =>
    intro g l hf hg
    by_cases hl : l = []
    ·subst hl
     cases g with
     | zero => rw [cntL, cntL, if_pos rfl]
     | succ g => rw [cntL, cntL, if_pos rfl, if_pos rfl]
    ·have hp := List.length_pos_iff.2 hl
     obtain ⟨g, rfl⟩ : ∃ g', g = g' + 1 := ⟨g - 1, by omega⟩
     have hw := nx_width l hl
     rw [cntL, cntL, if_neg hl, if_neg hl, ih g (l.drop (nx l).2) (by rw [List.length_drop]; omega) (by rw [List.length_drop]; omega)]
  rw [hfu f' t.size t.data.toList g1 (by omega)]
  congr 1
theorem alloc_heap_new' (w : World) (o : Obj) : (w.alloc o).heap[w.heap.size]? = some o := by
 show (w.heap.push o)[w.heap.size]? = _
 simp
theorem setCell_heap' {w : World} {R j : Nat} {cs : Array Value} {t : TypeId} {fr : Nat × Nat} (h : w.heap[R]? = some (.cells cs t fr)) (x : Value) : (w.setCell ⟨R, j, none⟩ x).heap[R]? = some (.cells (cs.setIfInBounds j x) t fr) := by
 rw [setCell_eq_setRow _ _ _ _ _ _ _ h, setRow_heap w R _ _ _ _ h]
set_option maxHeartbeats 4000000 in
set_option maxRecDepth 20000 in
theorem behindD_any (s : ByteArray) (w : World) (hs : s.size ≤ 1048576) :
  Calls Tryz.prog 74 #[.string s] w fun e w' => e = .returned (.agg #[.int .i64 ((endOf s.data.toList).1 : Int), .int .i64 ((endOf s.data.toList).2 : Int)]) ∧ Below w.heap.size w w' := by
 have hls : s.data.toList.length = s.size := len_data s
 obtain ⟨p, hp1, hp2⟩ : ∃ p : Nat, Lib.lastIndexByte s 10 = (p : Int) - 1 ∧ p ≤ s.size := by
  rcases Lib.lastIndexByte_spec s 10 with ⟨h1, _⟩ | ⟨i, h1, h2, _⟩
  ·exact ⟨0, by rw [h1]; rfl, by omega⟩
  ·exact ⟨i + 1, by rw [h2]; omega, by omega⟩
 have hLI := fun W => strings_LastIndexByte s 10 (by omega) W
 have hCt := fun W => strings_Count_one s 10 W
 have hex : (s.extract p s.size).data.toList = s.data.toList.drop p := by
  rw [Lib.extract_eq]
  show (List.take (s.size - p) (List.drop p s.data.toList)) = _
  rw [List.take_of_length_le (by rw [List.length_drop]; omega)]
 have htz : (s.extract p s.size).size ≤ 1048576 := by rw [← len_data, hex, List.length_drop]; omega
 have hRC := fun W => utf8_RuneCountInString (s.extract p s.size) W (by omega)
 have hrl := Lib.runeCount_le (s.extract p s.size)
 have hcl : Lib.countByte s.data.toList 10 ≤ s.size := by unfold Lib.countByte; have := List.count_le_length (a := (10 : UInt8)) (l := s.data.toList); omega
 have HE : Hid (endOf s.data.toList = (1 + Lib.countByte s.data.toList 10, 1 + Lib.runeCount (s.extract p s.size))) := end_is s _ (by
  rw [hex, hp1]; congr 1; omega)
 rw [hp1] at hLI
 have w1 : wrap64 ((p : Int) - 1 + 1) = (p : Int) := by unfold wrap64; omega
 have w2 : wrap64 (p : Int) = (p : Int) := by unfold wrap64; omega
 have i1 : ¬ (p : Int) < 0 := by omega
 have i2 : (p : Int) ≤ (s.size : Int) := by omega
 generalize Lib.runeCount (s.extract p s.size) = rc at *
 generalize Lib.countByte s.data.toList 10 = cb at *
 have w3 : wrap64 (1 + (cb : Int)) = 1 + (cb : Int) := by unfold wrap64; omega
 have w4 : wrap64 (1 + (rc : Int)) = 1 + (rc : Int) := by unfold wrap64; omega
 clear hex htz hp1 hls
 go_enter Tryz.func74, Tryz.ntmps74
 go_wp2_with fail
 refine (hLI _).mono ?_
 rintro e w9 ⟨rfl, h9⟩
 have h9 := h9.symm
 subst h9
 have HB0 := Lib.hid ((Below.refl w.heap.size w).alloc (Nat.le_refl _) (.cells #[.int .i64 0, .int .i64 0] 31))
 have HC0 := Lib.hid (alloc_heap_new' w (.cells #[.int .i64 0, .int .i64 0] 31))
 go_wp2_with fail
 refine (hCt _).mono ?_
 rintro e w9 ⟨rfl, h9⟩
 have h9 := h9.symm
 subst h9
 go_wp2_with fail
 refine (hRC _).mono ?_
 rintro e W ⟨rfl, pos, hW⟩
 have hbW : Below (w.alloc (.cells #[.int .i64 0, .int .i64 0] 31)).heap.size (w.alloc (.cells #[.int .i64 0, .int .i64 0] 31)) W := by
  rw [hW]; exact (Below.refl _ _).alloc (Nat.le_refl _) _
 have hsV : (w.alloc (.cells #[.int .i64 0, .int .i64 0] 31)).heap.size = w.heap.size + 1 := by simp
 have hcW : W.heap[w.heap.size]? = some (.cells #[.int .i64 0, .int .i64 0] 31 (0, 0)) := by rw [hbW.block _ (by omega)]; exact HC0.out
 have HBW := Lib.hid (HB0.out.trans ⟨hbW.os, hbW.tape, hbW.output, hbW.size, fun k hk => hbW.block k (by omega)⟩)
 have k0 := cell_at hcW 0 rfl
 have k1 := cell_at hcW 1 rfl
 have f0 := frozen_at hcW 0
 have f1 := frozen_at hcW 1
 have HF : Hid (((W.setCell ⟨w.heap.size, 0, none⟩ (.int .i64 (1 + (cb : Int)))).setCell ⟨w.heap.size, 1, none⟩ (.int .i64 (1 + (rc : Int)))).heap[w.heap.size]? = some (.cells #[.int .i64 (1 + (cb : Int)), .int .i64 (1 + (rc : Int))] 31 (0, 0))) := by
  refine (?_ : _ = _)
  have a1 : (W.setCell ⟨w.heap.size, 0, none⟩ (.int .i64 (1 + (cb : Int)))).heap[w.heap.size]? = some (.cells #[.int .i64 (1 + (cb : Int)), .int .i64 0] 31 (0, 0)) := setCell_heap' hcW _
  exact setCell_heap' a1 _
 have HB2 := Lib.hid ((HBW.out.setCell (p := ⟨w.heap.size, 0, none⟩) (Nat.le_refl _) (.int .i64 (1 + (cb : Int)))).setCell (p := ⟨w.heap.size, 1, none⟩) (Nat.le_refl _) (.int .i64 (1 + (rc : Int))))
 clear hW hbW hcW hLI hCt hRC
 go_wp2_with fail
 generalize (W.setCell ⟨w.heap.size, 0, none⟩ (.int .i64 (1 + (cb : Int)))).setCell ⟨w.heap.size, 1, none⟩ (.int .i64 (1 + (rc : Int))) = Y at *
 have y0 := cell_at HF.out 0 rfl
 have y1 := cell_at HF.out 1 rfl
 refine bodyPost_ret (v := .agg #[.int .i64 (1 + (cb : Int)), .int .i64 (1 + (rc : Int))]) (by simp [results, Tryz.results74, go_sem, y0, y1]) rfl ⟨?_, HB2.out⟩
 rw [HE.out]
 simp
end Go.Proofs.YtpojeinddnjpfaaGreatDoor
