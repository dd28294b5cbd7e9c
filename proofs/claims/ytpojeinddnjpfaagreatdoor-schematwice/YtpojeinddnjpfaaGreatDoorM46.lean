/-
  The walk over Compile at the laws' own text, and over their awake.
  What is declared twice, as plain data. Nothing is walked here.
-/
import Derived.Test.YtpojeinddnjpfaaGreatDoorM0
import Derived.Test.YtpojeinddnjpfaaGreatDoorM45
import Derived.Test.YtpojeinddnjpfaaGreatDoorM43
namespace Go.Proofs.YtpojeinddnjpfaaGreatDoor
set_option linter.unusedVariables false
open Go.ChangeShapes Go.WideShapes Go.ChangeAt Go.RowKit Go.Maps

set_option maxHeartbeats 16000000 in
set_option maxRecDepth 20000 in
theorem comp8_any (w : World) (hT : Errs w) : Calls Tryz.prog 14 #[.string ⟨#[109, 101, 115, 115, 97, 103, 101, 32, 65, 32, 123, 32, 105, 110, 116, 54, 52, 32, 120, 32, 61, 32, 49, 59, 32, 125, 32, 115, 101, 114, 118, 105, 99, 101, 32, 83, 32, 123, 32, 114, 112, 99, 32, 109, 40, 65, 41, 32, 114, 101, 116, 117, 114, 110, 115, 32, 40, 65, 41, 59, 32, 125]⟩] w fun e w' => CkAns (fun r => r = checkP 9 awD8 none) w e w' := by
 have hV4 : ((w.alloc (.cells #[.slice none 0 0, .slice none 0 0, .slice none 0 0] 29)).alloc (.cells #[.int .i64 0, .int .i64 0] 31)).heap[w.heap.size]? = some (.cells #[.slice none 0 0, .slice none 0 0, .slice none 0 0] 29 (0, 0)) := by
  rw [alloc_heap_old _ _ _ (by simp)]; exact alloc_heap_new _ _
 have hV5 : ((w.alloc (.cells #[.slice none 0 0, .slice none 0 0, .slice none 0 0] 29)).alloc (.cells #[.int .i64 0, .int .i64 0] 31)).heap[w.heap.size + 1]? = some (.cells #[.int .i64 0, .int .i64 0] 31 (0, 0)) := by
  have := alloc_heap_new (w.alloc (.cells #[.slice none 0 0, .slice none 0 0, .slice none 0 0] 29)) (.cells #[.int .i64 0, .int .i64 0] 31)
  simpa using this
 have hVB : Below w.heap.size w ((w.alloc (.cells #[.slice none 0 0, .slice none 0 0, .slice none 0 0] 29)).alloc (.cells #[.int .i64 0, .int .i64 0] 31)) := ((Below.refl _ w).alloc (Nat.le_refl _) _).alloc (by simp) _
 have hVs : w.heap.size + 2 ≤ ((w.alloc (.cells #[.slice none 0 0, .slice none 0 0, .slice none 0 0] 29)).alloc (.cells #[.int .i64 0, .int .i64 0] 31)).heap.size := by simp
 have hVE := errs_below hT hVB
 clear hT
 go_enter Tryz.func14, Tryz.ntmps14
 go_upto_region 1 with fail
 generalize ((w.alloc (.cells #[.slice none 0 0, .slice none 0 0, .slice none 0 0] 29)).alloc (.cells #[.int .i64 0, .int .i64 0] 31)) = V at *
 have hF := fileD_any ⟨#[109, 101, 115, 115, 97, 103, 101, 32, 65, 32, 123, 32, 105, 110, 116, 54, 52, 32, 120, 32, 61, 32, 49, 59, 32, 125, 32, 115, 101, 114, 118, 105, 99, 101, 32, 83, 32, 123, 32, 114, 112, 99, 32, 109, 40, 65, 41, 32, 114, 101, 116, 117, 114, 110, 115, 32, 40, 65, 41, 59, 32, 125]⟩ V hVE (by decide)
 have eA : (ByteArray.mk #[109, 101, 115, 115, 97, 103, 101, 32, 65, 32, 123, 32, 105, 110, 116, 54, 52, 32, 120, 32, 61, 32, 49, 59, 32, 125, 32, 115, 101, 114, 118, 105, 99, 101, 32, 83, 32, 123, 32, 114, 112, 99, 32, 109, 40, 65, 41, 32, 114, 101, 116, 117, 114, 110, 115, 32, 40, 65, 41, 59, 32, 125]).data.toList = awT8 := rfl
 rw [eA] at hF
 have HV4 := Lib.hid hV4
 have HV5 := Lib.hid hV5
 have HVB := Lib.hid hVB
 clear hV4 hV5 hVB hVE eA
 go_wp2_with fail
 refine hF.mono ?_
 rintro e Y ⟨⟨ad, c, pl, pc, rfl, hH, -⟩, hbY⟩
 rw [aw8_err]
 have hYs := hbY.size
 have hx4 : (Y.alloc (.cells #[.int .i64 pl, .int .i64 pc] 31)).heap[w.heap.size]? = some (.cells #[.slice none 0 0, .slice none 0 0, .slice none 0 0] 29 (0, 0)) := (alloc_heap_old _ _ _ (by omega)).trans ((hbY.block _ (by omega)).trans HV4.out)
 have hx5 : (Y.alloc (.cells #[.int .i64 pl, .int .i64 pc] 31)).heap[w.heap.size + 1]? = some (.cells #[.int .i64 0, .int .i64 0] 31 (0, 0)) := (alloc_heap_old _ _ _ (by omega)).trans ((hbY.block _ (by omega)).trans HV5.out)
 have hBZ : Below w.heap.size w (Y.alloc (.cells #[.int .i64 pl, .int .i64 pc] 31)) := (HVB.out.trans (hbY.mono (by omega))).alloc (by omega) _
 have hHZ : HeldD 10 (Y.alloc (.cells #[.int .i64 pl, .int .i64 pc] 31)) (fun b => b < (Y.alloc (.cells #[.int .i64 pl, .int .i64 pc] 31)).heap.size) (.slice ad awD8.length c) awD8 := (hH.old (w' := Y.alloc (.cells #[.int .i64 pl, .int .i64 pc] 31)) (fun b hb => alloc_heap_old _ _ _ hb)).more fun b hb => by simp; omega
 have hZs : Y.heap.size + 1 ≤ (Y.alloc (.cells #[.int .i64 pl, .int .i64 pc] 31)).heap.size := by simp
 have eL : (fileL awT8).1.length = awD8.length := rfl
 rw [eL]
 generalize hLN : awD8.length = LN at *
 obtain ⟨Z, hZ⟩ : ∃ Z, Y.alloc (.cells #[.int .i64 pl, .int .i64 pc] 31) = Z := ⟨_, rfl⟩
 rw [hZ] at hx4 hx5 hBZ hHZ hZs
 have HZ := Lib.hid hZ
 have hcall := checkP_any 9 awD8 (.slice ad LN c) Z (okB_fit _ _ aw8_ok.1).1 (okB_fit _ _ aw8_ok.1).2 aw8_ok.2.1 (fun h => ckFit (okB_fit _ _ aw8_ok.1).1 (okB_fit _ _ aw8_ok.1).2 aw8_ok.2.1 h) hHZ
 have HX4 := Lib.hid hx4
 have HX5 := Lib.hid hx5
 have HBZ := Lib.hid hBZ
 clear hx4 hx5 hBZ hHZ hZ hH hbY hF HV4 HV5 HVB eL
 go_upto_region 2 with fail
 rw [HZ.out]
 go_wp2_with fail
 refine hcall.mono ?_
 rintro e W ⟨aa, ba, ca, an, ac, bn, bc, cn, cc, s, l, p, k, rfl, hbW, hsc, hP⟩
 have HP := Lib.hid (aw8_one hP)
 have hWs := hbW.size
 have hz4 : W.heap[w.heap.size]? = some (.cells #[.slice none 0 0, .slice none 0 0, .slice none 0 0] 29 (0, 0)) := (hbW.block _ (by omega)).trans HX4.out
 have hz5 : W.heap[w.heap.size + 1]? = some (.cells #[.int .i64 0, .int .i64 0] 31 (0, 0)) := (hbW.block _ (by omega)).trans HX5.out
 have m0 := cell_at hz4 0 rfl
 have m1 := cell_at hz4 1 rfl
 have m2 := cell_at hz4 2 rfl
 have mf0 := frozen_at hz4 0
 have mf1 := frozen_at hz4 1
 have mf2 := frozen_at hz4 2
 have p0 := cell_at hz5 0 rfl
 have p1 := cell_at hz5 1 rfl
 have pf0 := frozen_at hz5 0
 have pf1 := frozen_at hz5 1
 obtain ⟨A1, hA1, a8, ao, asz, ab⟩ := set3_all hz4 (.slice aa an ac) (.slice ba bn bc) (.slice ca cn cc)
 obtain ⟨A2, hA2, c8, co, cs, cb⟩ := set2_all ((ao _ (by omega)).trans hz5) (.int .i64 l) (.int .i64 p)
 have hA : A2.heap[w.heap.size]? = _ := (co _ (by omega)).trans a8
 have r0 := cell_at hA 0 rfl
 have r1 := cell_at hA 1 rfl
 have r2 := cell_at hA 2 rfl
 have r3 := cell_at c8 0 rfl
 have r4 := cell_at c8 1 rfl
 have HA1 := Lib.hid hA1
 have HA2 := Lib.hid hA2
 have HAB : Hid (Below w.heap.size w A2) := (HBZ.out.trans (hbW.mono (by omega))).trans (ab.trans (cb.mono (by omega)))
 have hsame : ∀ b, Z.heap.size ≤ b ∧ b < W.heap.size → A2.heap[b]? = W.heap[b]? := fun b hb => (co b (by omega)).trans (ao b (by omega))
 have HSC : Hid (HeldSc A2 (fun b => w.heap.size ≤ b ∧ b < A2.heap.size) (.slice aa an ac) (.slice ba bn bc) (.slice ca cn cc) s) := ⟨(HeldN.old hsc.1 hsame).more fun b hb => ⟨by omega, by omega⟩, (HeldN.old hsc.2.1 hsame).more fun b hb => ⟨by omega, by omega⟩, (hsc.2.2.old hsame).more fun b hb => ⟨by omega, by omega⟩⟩
 clear hA1 a8 ao asz ab hA2 c8 co cs cb hA hz4 hz5 hsame hsc hP hbW hcall HX4 HX5
 go_wp2_with fail
 rw [HA1.out, HA2.out]
 try go_wp2_with fail
 refine bodyPost_ret (v := .tuple #[.agg #[.slice aa an ac, .slice ba bn bc, .slice ca cn cc], .agg #[.int .i64 l, .int .i64 p], .int .i64 k]) (by simp [results, Tryz.results14, go_sem, r0, r1, r2, r3, r4]) rfl ?_
 exact ⟨aa, ba, ca, an, ac, bn, bc, cn, cc, _, l, p, k, rfl, HAB.out, HSC.out, HP.out⟩
set_option maxHeartbeats 16000000 in
set_option maxRecDepth 20000 in
theorem awake8_any (w : World) (hT : Errs w) : Calls Tryz.prog 8 #[] w fun e w' => e = .returned (.bool true) ∧ Below w.heap.size w w' := by
 have hC := comp8_any w hT
 clear hT
 go_enter Tryz.func8, Tryz.ntmps8
 go_wp2_with fail
 refine hC.mono ?_
 rintro e W ⟨aa, ba, ca, an, ac, bn, bc, cn, cc, s, l, p, k, rfl, hbW, hsc, hP⟩
 obtain ⟨c1, c2, c3⟩ := aw8_chk
 rw [← hP] at c1 c2 c3
 have hWs := hbW.size
 obtain ⟨e1, e2⟩ : (l, p) = (0, 0) ∧ k = 0 := by simpa using c1
 obtain ⟨rfl, rfl⟩ : l = 0 ∧ p = 0 := by simpa using e1
 subst e2
 obtain ⟨_, _, hm, -, -⟩ := hsc.1
 have hm1 : an = 1 := by
  have := c2
  simp only at this
  injection hm with _ h2 _
  omega
 obtain ⟨td, tt, hts⟩ : ∃ td tt, s.ts = td :: tt := by
  cases hs : s.ts with
  | nil => simp [hs] at c3
  | cons a b => exact ⟨a, b, rfl⟩
 simp only [hts, List.map_cons, List.cons.injEq, List.map_eq_nil_iff] at c3
 obtain ⟨hid, rfl⟩ := c3
 have hT := hsc.2.2
 unfold HeldT at hT
 rw [hts] at hT
 obtain ⟨ad, c, hv, hc, h | ⟨g, o, had, hg, h⟩⟩ := hT
 ·cases h
 have hcn : cn = 1 ∧ ca = some ⟨g, o, none⟩ := by
  injection hv with h1 h2 _
  exact ⟨h2, h1.trans had⟩
 obtain ⟨rfl, rfl⟩ := hcn
 subst hm1
 have hrow := h 0 td rfl 0 (.int .i64 td.id) rfl
 rw [hid] at hrow
 have hrow' : ((W.alloc (.cells #[.slice aa 1 ac, .slice ba bn bc, .slice (some ⟨g, o, none⟩) 1 cc] 29)).alloc (.cells #[.int .i64 0, .int .i64 0] 31)).cell? ⟨g, o, none⟩ = some (.int .i64 1) := by
  have e : ((W.alloc (.cells #[.slice aa 1 ac, .slice ba bn bc, .slice (some ⟨g, o, none⟩) 1 cc] 29)).alloc (.cells #[.int .i64 0, .int .i64 0] 31)).heap[g]? = W.heap[g]? := by rw [alloc_heap_old _ _ _ (by simp; have := hg.2; omega)]; exact alloc_heap_old _ _ _ hg.2
  rw [World.cell?_of_block e]; simpa using hrow
 have hx : ((W.alloc (.cells #[.slice aa 1 ac, .slice ba bn bc, .slice (some ⟨g, o, none⟩) 1 cc] 29)).alloc (.cells #[.int .i64 0, .int .i64 0] 31)).heap[W.heap.size]? = some (.cells #[.slice aa 1 ac, .slice ba bn bc, .slice (some ⟨g, o, none⟩) 1 cc] 29 (0, 0)) := (alloc_heap_old _ _ _ (by simp)).trans (alloc_heap_new _ _)
 have hB : Below w.heap.size w ((W.alloc (.cells #[.slice aa 1 ac, .slice ba bn bc, .slice (some ⟨g, o, none⟩) 1 cc] 29)).alloc (.cells #[.int .i64 0, .int .i64 0] 31)) := (hbW.alloc hWs _).alloc (by simp; omega) _
 clear h hg hv hc had hm hsc hP c1 c2 hrow hts hid e1 hC
 go_upto_region 2 with fail
 generalize ((W.alloc (.cells #[.slice aa 1 ac, .slice ba bn bc, .slice (some ⟨g, o, none⟩) 1 cc] 29)).alloc (.cells #[.int .i64 0, .int .i64 0] 31)) = V at *
 have t0 := cell_at hx 0 rfl
 have t2 := cell_at hx 2 rfl
 have HB := Lib.hid hB
 clear hx hB
 go_wp2_with fail
 go_ret
 exact ⟨rfl, HB.out⟩
end Go.Proofs.YtpojeinddnjpfaaGreatDoor
namespace Go.Proofs.YtpojeinddnjpfaaGreatDoor
set_option linter.unusedVariables false

theorem loc_app (f : Nat) (a : List UInt8) (xs ys : List Dc) : locL (f + 1) a (xs ++ ys) = locL (f + 1) a xs ++ locL (f + 1) a ys := by
 rw [locL, locL, locL, List.flatMap_append]
def atPlace (x : Dc) (l c : Int) : Dc := { x with line := l, col := c }
theorem nameG_app {ps qs : List Pl} {i : Nat} (h : i < ps.length) : nameG (ps ++ qs) i = nameG ps i := by
 unfold nameG
 rw [List.getElem?_append_left h, List.take_append_of_le_length (by omega)]
theorem fm_put {f k : Nat} {ds : List Dc} {x : Dc} (l c : Int) (h : fmL (f + 1) k ds = true) (hx : x ∈ ds) : fmL (f + 1) k (ds ++ [atPlace x l c]) = true := by
 rw [fmL_succ, List.all_append, Bool.and_eq_true]
 refine ⟨by rw [← fmL_succ]; exact h, ?_⟩
 rw [fmL_succ, List.all_eq_true] at h
 have := h x hx
 simpa [atPlace, fmD] using this
theorem fit_put {f : Nat} {ds : List Dc} {x : Dc} (l c : Int) (h : FitD (f + 1) ds) (hl : ds.length ≤ 1000) (hx : x ∈ ds) : FitD (f + 1) (ds ++ [atPlace x l c]) := by
 refine ⟨by rw [List.length_append]; simp; omega, fun d hd => ?_⟩
 rcases List.mem_append.1 hd with hd | hd
 ·exact h.2 d hd
 ·rw [List.mem_singleton.1 hd]; exact h.2 x hx
theorem txt_put {f : Nat} {ds : List Dc} {x : Dc} (l c : Int) (h : TxtD (f + 1) ds) (hx : x ∈ ds) : TxtD (f + 1) (ds ++ [atPlace x l c]) := by
 intro d hd
 rcases List.mem_append.1 hd with hd | hd
 ·exact h d hd
 ·rw [List.mem_singleton.1 hd]; exact h x hx
theorem ct_mem {f : Nat} : ∀ {ds : List Dc} {x : Dc}, x ∈ ds → ctD f x ≤ ctL (f + 1) ds
 | d :: t, x, h => by
  rw [ctL_cons]
  rcases List.mem_cons.1 h with rfl | h
  ·omega
  ·have := ct_mem (f := f) h; omega
theorem ct_put {f : Nat} {ds : List Dc} {x : Dc} (l c : Int) (h : ctL (f + 1) ds ≤ 800) (hx : x ∈ ds) : ctL (f + 1) (ds ++ [atPlace x l c]) ≤ 2000 := by
 rw [ctL_snoc]
 have h1 := ct_mem (f := f) hx
 have h2 : ctD f (atPlace x l c) = ctD f x := rfl
 omega
theorem checkP_ok {f : Nat} {ds : List Dc} {o : Option (Int × Int)} {s : SC} {p : Int × Int} (h : (s, p, (0 : Int)) = checkP f ds o) : fmL (f + 1) 0 ds = true ∧ firstS (nameG (locL (f + 1) [] ds)) (locL (f + 1) [] ds).length = none := by
 unfold checkP at h
 split at h
 ·rename_i hfm
  refine ⟨hfm, ?_⟩
  split at h
  ·simp at h
  ·split at h
   ·simp at h
   ·rename_i h2; exact h2
 ·simp at h
theorem checkP_twice {f : Nat} {ds : List Dc} {x : Dc} {l c : Int} {o : Option (Int × Int)} (hfm : fmL (f + 1) 0 ds = true) (hnm : firstS (nameG (locL (f + 1) [] ds)) (locL (f + 1) [] ds).length = none) (hx : x ∈ ds) :
  (checkP f (ds ++ [atPlace x l c]) o).2.2 = 4 ∨ (checkP f (ds ++ [atPlace x l c]) o).2 = ((l, c), 9) := by
 have hloc : locL (f + 1) [] (ds ++ [atPlace x l c]) = locL (f + 1) [] ds ++ ((x.name, atPlace x l c) :: locL f (x.name ++ [46]) x.inner) := by
  rw [loc_app]; congr 1
  rw [locL]; simp [atPlace]
 have hin : x.name ∈ (locL (f + 1) [] ds).map (·.1) := by
  rw [List.mem_map]
  refine ⟨(x.name, x), ?_, rfl⟩
  rw [locL, List.mem_flatMap]
  exact ⟨x, hx, by simp⟩
 have hg : nameG (locL (f + 1) [] (ds ++ [atPlace x l c])) (locL (f + 1) [] ds).length = some (l, c) := by
  rw [hloc]
  unfold nameG
  rw [List.getElem?_append_right (Nat.le_refl _), Nat.sub_self]
  simp only [List.getElem?_cons_zero]
  rw [List.take_append_of_le_length (Nat.le_refl _), List.take_length, if_pos hin]
  rfl
 have hpre : firstS (nameG (locL (f + 1) [] (ds ++ [atPlace x l c]))) (locL (f + 1) [] ds).length = none :=
  firstS_all fun j hj => by rw [hloc, nameG_app hj]; exact firstS_none hnm j hj
 have hsome := firstS_some hpre hg (n := (locL (f + 1) [] (ds ++ [atPlace x l c])).length) (by rw [hloc]; simp)
 unfold checkP
 rw [if_pos (fm_put l c hfm hx)]
 cases hlg : firstS (longG (locL (f + 1) [] (ds ++ [atPlace x l c]))) (locL (f + 1) [] (ds ++ [atPlace x l c])).length with
 | some p => exact .inl rfl
 | none => rw [hsome]; exact .inr rfl
end Go.Proofs.YtpojeinddnjpfaaGreatDoor
