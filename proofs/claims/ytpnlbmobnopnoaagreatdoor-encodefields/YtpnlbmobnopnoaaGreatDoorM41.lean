/-
  The walk over what the laws of layer 10 ask first: awake.
  Of the bytes of a field the field comes back, whatever stands behind them; cut off, they lack something. Nothing is proved of the program here.
  What is encoded are fields, and those of a message's numbers rise: plain functions. Nothing is proved of the program here.
-/
import Derived.Test.YtpnlbmobnopnoaaGreatDoorM40
import Derived.Test.YtpnlbmobnopnoaaGreatDoorM4
import Derived.Test.YtpnlbmobnopnoaaGreatDoorM13
import Derived.Test.YtpnlbmobnopnoaaGreatDoorM9
import Derived.Test.YtpnlbmobnopnoaaGreatDoorM29
namespace Go.Proofs.YtpnlbmobnopnoaaGreatDoor
set_option linter.unusedVariables false
open Go.ChangeShapes Go.WideShapes Go.ChangeAt Go.RowKit

def fdB : FD := ⟨1, [120], 1, false, 0⟩
def scB : SC := ⟨[⟨[65], [fdB]⟩], [], []⟩
def ndB : Nd := ⟨7, 0, 0, false, [], 0, [(1, [⟨1, 150, 0, false, [], 0, []⟩])]⟩
theorem formB : FormS scB := by
  refine ⟨by decide +kernel, fun i hi hr => ?_⟩
  have hno : ∀ x y, ¬ Goes scB.ms x y := by
    intro x y h
    unfold Goes at h
    obtain ⟨m, hm, f, hf, hk, _⟩ := h
    have hx : x = 0 := by
      have := (List.getElem?_eq_some_iff.1 hm).1
      simp [scB] at this; omega
    subst hx
    have e : m = ⟨[65], [fdB]⟩ := by simpa [scB] using hm.symm
    subst e
    have e2 : f = fdB := by simpa using hf
    subst e2
    exact absurd hk (by decide)
  unfold Ring at hr
  cases hr with
  | single h => exact hno _ _ h
  | tail _ h => exact hno _ _ h
theorem fitB : FitX scB 1 0 ndB := ⟨formB, by decide, by decide, by decide +kernel⟩
theorem encBB : encB scB 1 ndB = [8, 150, 1] := by decide +kernel
theorem strBB : strOfNums [8, 150, 1] = ⟨#[8, 150, 1]⟩ := by decide +kernel
theorem lst1 {α : Type} {a x : α} {j : Nat} (h : [a][j]? = some x) : j = 0 ∧ a = x := by
  have hj : j = 0 := by
    have := (List.getElem?_eq_some_iff.1 h).1
    simp at this; exact this
  subst hj
  exact ⟨rfl, by simpa using h⟩
def EnU (s : SC) (f : Nat) (t : Int) (x : Nd) (w0 w : World) (e : Ending) (w' : World) : Prop :=
  ∃ a zs c ee, e = .returned (.tuple #[.slice a zs.length c, .int .i64 ee]) ∧ BIn w' (fun b => b < w'.heap.size) a c zs ∧ ((¬ FitX s f t x ∧ zs = [] ∧ ee = 1) ∨ (FitX s f t x ∧ zs = encLz s f x ∧ ee = encE s f x)) ∧ Below w0.heap.size w0 w' ∧ Below w.heap.size w w'
theorem enU_of {s : SC} {f : Nat} {t : Int} {x : Nd} {w0 w : World} {e : Ending} {w' : World} (h : EncAns s f t x w e w') (hb : Below w0.heap.size w0 w) : EnU s f t x w0 w e w' := by
  obtain ⟨⟨h1, rfl⟩ | ⟨h1, a, c, rfl, h2⟩, h3⟩ := h
  · exact ⟨none, [], 0, 1, rfl, BIn.nil _ _, .inl ⟨h1, rfl, rfl⟩, hb.trans (h3.mono hb.size), h3⟩
  · exact ⟨a, _, c, _, rfl, h2.mv (fun _ _ => rfl) (fun b hb => hb.2), .inr ⟨h1, rfl, rfl⟩, hb.trans (h3.mono hb.size), h3⟩
set_option maxHeartbeats 16000000 in
set_option maxRecDepth 20000 in
theorem awake10_any (w : World) (hT : Tabs w) : Calls Tryz.prog 7 #[] w fun e w' => e = .returned (.bool true) ∧ Below w.heap.size w w' := by
  obtain ⟨Y1, hY1, cY1, bY1, sY1⟩ := box_new w #[.int .i64 1, .string ⟨#[120]⟩, .int .i64 1, .bool false, .int .i64 0] 59
  obtain ⟨Y2, hY2, cY2, bY2, sY2⟩ := box_new Y1 #[.string ⟨#[65]⟩, .slice (some ⟨w.heap.size, 0, none⟩) 1 1] 54
  obtain ⟨Y3, hY3, cY3, bY3, sY3⟩ := box_new Y2 #[.slice (some ⟨w.heap.size + 1, 0, none⟩) 1 1, .slice none 0 0, .slice none 0 0] 26
  obtain ⟨Y4, hY4, cY4, bY4, sY4⟩ := box_new Y3 #[.iface 60 (.int .i64 150)] 38
  obtain ⟨Y5, hY5, cY5, bY5, sY5⟩ := box_new Y4 #[.int .i64 1, .slice (some ⟨w.heap.size + 3, 0, none⟩) 1 1] 63
  have t2 := bY1.trans (bY2.mono bY1.size)
  have t3 := t2.trans (bY3.mono t2.size)
  have t4 := t3.trans (bY4.mono t3.size)
  have t5 := t4.trans (bY5.mono t4.size)
  rw [sY4, sY3, sY2, sY1] at cY5
  rw [sY3, sY2, sY1] at cY4
  rw [sY2, sY1] at cY3
  rw [sY1] at cY2
  have d1 := (bY5.block _ (by omega)).trans ((bY4.block _ (by omega)).trans ((bY3.block _ (by omega)).trans ((bY2.block _ (by omega)).trans cY1)))
  have d2 := (bY5.block _ (by omega)).trans ((bY4.block _ (by omega)).trans ((bY3.block _ (by omega)).trans cY2))
  have d3 := (bY5.block _ (by omega)).trans ((bY4.block _ (by omega)).trans cY3)
  have d4 := (bY5.block _ (by omega)).trans cY4
  have hH : HeldSc Y5 (fun b => b < Y5.heap.size) (.slice (some ⟨w.heap.size + 1, 0, none⟩) 1 1) (.slice none 0 0) (.slice none 0 0) scB := by
    refine ⟨⟨_, _, rfl, Nat.le_refl _, .inr ⟨w.heap.size + 1, 0, rfl, by show w.heap.size + 1 < Y5.heap.size; omega, fun j x hj => ?_⟩⟩, HeldN.nil _ _, RowsIn.nil _ _ _ _ _ _⟩
    obtain ⟨rfl, rfl⟩ := lst1 hj
    refine ⟨some ⟨w.heap.size, 0, none⟩, 1, cell_at d2 0 rfl, cell_at d2 1 rfl, ⟨_, _, rfl, Nat.le_refl _, .inr ⟨w.heap.size, 0, rfl, by show w.heap.size < Y5.heap.size; omega, fun k y hk => ?_⟩⟩⟩
    obtain ⟨rfl, rfl⟩ := lst1 hk
    intro i u hu
    simp only [World.cell?, d1]
    simpa [fdrow, fdB, mkB] using hu
  have hV : HeldV Y5 (fun b => b < Y5.heap.size) 1 (.iface 66 (.agg #[.int .i64 0, .slice (some ⟨w.heap.size + 4, 0, none⟩) 1 1, .string ⟨#[]⟩])) ndB := by
    refine ⟨.slice (some ⟨w.heap.size + 4, 0, none⟩) 1 1, rfl, fun _ => ?_⟩
    refine ⟨_, _, rfl, Nat.le_refl _, .inr ⟨w.heap.size + 4, 0, rfl, by show w.heap.size + 4 < Y5.heap.size; omega, fun j x hj => ?_⟩⟩
    obtain ⟨rfl, rfl⟩ := lst1 hj
    refine ⟨.slice (some ⟨w.heap.size + 3, 0, none⟩) 1 1, fun i u hu => by simp only [World.cell?, cY5]; simpa using hu, ⟨_, _, rfl, Nat.le_refl _, .inr ⟨w.heap.size + 3, 0, rfl, by show w.heap.size + 3 < Y5.heap.size; omega, fun k y hk => ?_⟩⟩⟩
    obtain ⟨rfl, rfl⟩ := lst1 hk
    refine ⟨.nilFunc, fun i u hu => ?_, fun h => by simp [valS] at h⟩
    have hi : i = 0 := by
      have := (List.getElem?_eq_some_iff.1 hu).1
      simp [valS] at this; exact this
    subst hi
    simp only [World.cell?, d4]
    simpa [valS, ival] using hu
  have hfs : FitS scB := fitS_of ⟨by decide, (fun m hm => by
    have e : m = ⟨[65], [fdB]⟩ := by simpa [scB] using hm
    subst e
    exact ⟨by decide, by decide, fun f hf => by
      have e : f = fdB := by simpa using hf
      subst e; decide⟩), (fun m hm => by cases hm), (fun m hm => by cases hm)⟩
  have hg : FitG 100000 1000 1 ndB := ⟨by decide, by decide, fun p hp => by
    have e : p = (1, [⟨1, 150, 0, false, [], 0, []⟩]) := by simpa [ndB] using hp
    subst e
    refine ⟨by decide, fun y hy => ?_⟩
    have e : y = ⟨1, 150, 0, false, [], 0, []⟩ := by simpa using hy
    subst e
    exact (by decide : ([] : List UInt8).length ≤ 100000)⟩
  have hr : RngG 1 ndB := ⟨by unfold Rg1; decide, fun p hp y hy => by
    have e : p = (1, [⟨1, 150, 0, false, [], 0, []⟩]) := by simpa [ndB] using hp
    subst e
    have e : y = ⟨1, 150, 0, false, [], 0, []⟩ := by simpa using hy
    subst e
    show Rg1 _
    unfold Rg1; decide⟩
  have h := encode_any (some ⟨w.heap.size + 1, 0, none⟩) none none 1 0 0 1 0 0 scB 1 0 Y5 (tabs_below hT t5) rfl rfl rfl hfs hH _ ndB hV hg hr (by decide +kernel)
  have q0 : Y3.cell? ⟨w.heap.size + 2, 0, none⟩ = some (.slice (some ⟨w.heap.size + 1, 0, none⟩) 1 1) := cell_at cY3 0 rfl
  have q1 : Y3.cell? ⟨w.heap.size + 2, 1, none⟩ = some (.slice none 0 0) := cell_at cY3 1 rfl
  have q2 : Y3.cell? ⟨w.heap.size + 2, 2, none⟩ = some (.slice none 0 0) := cell_at cY3 2 rfl
  have HY1 := Lib.hid hY1
  have HY2 := Lib.hid hY2
  have HY3 := Lib.hid hY3
  have HY4 := Lib.hid hY4
  have HY5 := Lib.hid hY5
  have HB := Lib.hid t5
  have hz3 : Y3.heap.size = w.heap.size + 3 := by omega
  have hz4 : Y4.heap.size = w.heap.size + 4 := by omega
  clear hY1 hY2 hY3 hY4 hY5 cY1 cY2 cY3 cY4 cY5 bY1 bY2 bY3 bY4 bY5 sY1 sY2 sY3 sY4 sY5 t2 t3 t4 t5 d1 d2 d3 d4 hH hV hfs hg hr hT
  go_enter Tryz.func7, Tryz.ntmps7
  go_upto_region 2 with fail
  rw [HY1.out, HY2.out, HY3.out]
  go_wp2_with fail
  rw [HY4.out, HY5.out]
  refine h.mono ?_
  rintro e W ⟨hor, hb1⟩
  have HB1 := Lib.hid (HB.out.trans (hb1.mono HB.out.size))
  rcases hor with ⟨hno, rfl⟩ | ⟨_, a, c, rfl, hbi⟩
  · exact absurd fitB hno
  have e1 : encE scB 1 ndB = 0 := by unfold encE; rw [encBB]; rfl
  have e2 : encLz scB 1 ndB = [8, 150, 1] := by unfold encLz; rw [encBB]; rfl
  rw [e1, e2]
  rw [e2] at hbi
  have hcv := run_str W a 3 c [8, 150, 1] hbi.isB
  rw [strBB] at hcv
  clear h hb1 hbi e1 e2
  go_wp2_with fail
  go_ret
  exact ⟨rfl, HB1.out⟩
end Go.Proofs.YtpnlbmobnopnoaaGreatDoor
namespace Go.Proofs.YtpnlbmobnopnoaaGreatDoor
set_option linter.unusedVariables false

theorem dec_front (m : Nat) (t : List Int) (h : m ≤ 18446744073709551615) : dec 0 0 (vint m ++ t) = ((m : Int), ((vint m).length : Int), 0) := by
  have := dec_vint m 0 0 t (by simp) (by omega) (by simp; omega)
  rw [show (0 : Int) = ((0 : Nat) : Int) from rfl, this]
  simp
theorem low_front4 (n : Int) (t : List Int) (h0 : 0 ≤ n) (h1 : n ≤ 4294967295) : low ((lob n 4 ++ t).take 4) = n := by
  rw [List.take_append_of_le_length (by rw [lob_length]; omega), List.take_of_length_le (by rw [lob_length]; omega), low_lob]; omega
theorem low_front8 (n : Int) (t : List Int) (h0 : 0 ≤ n) (h1 : n ≤ 18446744073709551615) : low ((lob n 8 ++ t).take 8) = n := by
  rw [List.take_append_of_le_length (by rw [lob_length]; omega), List.take_of_length_le (by rw [lob_length]; omega), low_lob]; omega
/-- what stands behind a field's first varint -/
def frest (ty n : Int) (d : List Int) : List Int := if ty = 0 then vint n.toNat else if ty = 1 then lob n 8 else if ty = 5 then lob n 4 else vint d.length ++ d
theorem fbytes_eq (num ty n : Int) (d : List Int) : fbytes num ty n d = vint (8 * num + ty).toNat ++ frest ty n d := rfl
theorem fmd_spec {num ty n : Int} {len : Nat} (h : fmd num ty n len = true) : 1 ≤ num ∧ num ≤ 536870911 ∧ (((ty = 0 ∨ ty = 1) ∧ len = 0) ∨ (ty = 5 ∧ len = 0 ∧ n < 4294967296) ∨ (ty = 2 ∧ n = 0)) := by
  unfold fmd at h; simpa using h

theorem tf_front (num ty n : Int) (d t : List Int) (hf : fmd num ty n d.length = true) (h0 : 0 ≤ n) (h1 : n ≤ 18446744073709551615) (hd : d.length ≤ 18446744073709551615) :
    tf (fbytes num ty n d ++ t) = ⟨num, ty, n, d, ((fbytes num ty n d).length : Int), 0⟩ := by
  obtain ⟨hm0, hm1, hty⟩ := fmd_spec hf
  have hty5 : 0 ≤ ty ∧ ty ≤ 5 := by omega
  rw [fbytes_eq, List.append_assoc, List.length_append]
  unfold tf
  rw [dec_front _ _ (by omega)]
  simp only []
  rw [if_neg (by simp), Int.toNat_natCast, List.drop_left]
  have hN : (((8 * num + ty).toNat : Nat) : Int) = 8 * num + ty := by omega
  rw [hN]
  generalize (vint (8 * num + ty).toNat).length = L
  unfold tfBody
  rw [show (8 * num + ty) / 8 = num by omega, show (8 * num + ty) % 8 = ty by omega]
  rw [if_neg (by omega)]
  rcases hty with ⟨rfl | rfl, hl⟩ | ⟨rfl, hl, hn⟩ | ⟨rfl, rfl⟩
  · obtain rfl : d = [] := List.eq_nil_of_length_eq_zero hl
    rw [if_pos rfl, show frest 0 n [] = vint n.toNat from rfl, dec_front _ _ (by omega)]
    simp only []
    rw [if_neg (by simp), show ((n.toNat : Nat) : Int) = n by omega]
    simp
  · obtain rfl : d = [] := List.eq_nil_of_length_eq_zero hl
    rw [if_neg (by omega), if_neg (by omega), if_neg (by omega), show frest 1 n [] = lob n 8 from rfl]
    rw [if_neg (by rw [List.length_append, lob_length]; omega), low_front8 n t h0 h1, lob_length]
    simp
  · obtain rfl : d = [] := List.eq_nil_of_length_eq_zero hl
    rw [if_neg (by omega), if_neg (by omega), if_pos rfl, show frest 5 n [] = lob n 4 from rfl]
    rw [if_neg (by rw [List.length_append, lob_length]; omega), low_front4 n t h0 (by omega), lob_length]
    simp
  · rw [if_neg (by omega), if_pos rfl, show frest 2 0 d = vint d.length ++ d from rfl, List.append_assoc, dec_front _ _ (by omega)]
    simp only []
    rw [if_neg (by simp), if_neg (by simp only [List.length_append]; omega), Int.toNat_natCast, Int.toNat_natCast, List.drop_left, List.take_left]
    simp only [List.length_append]
    congr 1
    omega

end Go.Proofs.YtpnlbmobnopnoaaGreatDoor
namespace Go.Proofs.YtpnlbmobnopnoaaGreatDoor
set_option linter.unusedVariables false

def numTy (p : TF × List Int) : Int × Int := (p.1.num, p.1.ty)
theorem split_tail : ∀ (ws : List WF) (t : List Int) (T : List (TF × List Int)), (∀ f ∈ ws, (fmd f.num f.ty f.n f.d.length = true ∧ 0 ≤ f.n ∧ f.n ≤ 18446744073709551615) ∧ f.d.length ≤ 1000000000 ∧ ∀ z ∈ f.d, 0 ≤ z ∧ z ≤ 255) → (∀ z ∈ t, 0 ≤ z ∧ z ≤ 255) → split t = some T →
    ∃ D, split (ws.flatMap WF.bytes ++ t) = some D ∧ D.map numTy = (ws.map fun f => (f.num, f.ty)) ++ T.map numTy
  | [], t, T, _, ht, hT => ⟨T, by simpa using hT, rfl⟩
  | f :: ws, t, T, h, ht, hT => by
    obtain ⟨⟨hf, h0, h1⟩, hl, hb⟩ := h f List.mem_cons_self
    obtain ⟨D, hD, hs⟩ := split_tail ws t T (fun x hx => h x (List.mem_cons_of_mem _ hx)) ht hT
    have htf : tf (f.bytes ++ (ws.flatMap WF.bytes ++ t)) = ⟨f.num, f.ty, f.n, f.d, (f.bytes.length : Int), 0⟩ := tf_front f.num f.ty f.n f.d _ hf h0 h1 (by omega)
    have hpos : 1 ≤ f.bytes.length := by
      unfold WF.bytes fbytes
      rw [List.length_append]
      have := vint_pos (8 * f.num + f.ty).toNat
      omega
    refine ⟨(tf (f.bytes ++ (ws.flatMap WF.bytes ++ t)), (f.bytes ++ (ws.flatMap WF.bytes ++ t)).take f.bytes.length) :: D, ?_, ?_⟩
    · rw [List.flatMap_cons, List.append_assoc, split_on]
      · rw [htf]
        simp only []
        rw [Int.toNat_natCast, List.drop_left, hD]
        rfl
      · intro z hz
        rcases List.mem_append.1 hz with hz | hz
        · exact fbytes_ok _ _ _ hb z hz
        · rcases List.mem_append.1 hz with hz | hz
          · obtain ⟨q, hq, hz⟩ := List.mem_flatMap.1 hz
            exact fbytes_ok _ _ _ (h q (List.mem_cons_of_mem _ hq)).2.2 z hz
          · exact ht z hz
      · intro h0
        have := congrArg List.length h0
        rw [List.length_append, List.length_nil] at this
        omega
      · rw [htf]
    · rw [htf, List.map_cons, List.map_cons, hs]
      rfl
/-- numbers that are known rise -/
def okRun (known : Int → Int → Bool) : Int → List (Int × Int) → Bool
  | _, [] => true
  | a, p :: l => if known p.1 p.2 = true then decide (a ≤ p.1) && okRun known p.1 l else okRun known a l
theorem run_none {known : Int → Int → Bool} : ∀ {l : List (Int × Int)} (a : Int), (∀ p ∈ l, known p.1 p.2 = false) → okRun known a l = true
  | [], a, _ => rfl
  | p :: l, a, h => by
    rw [okRun, if_neg (by rw [h p List.mem_cons_self]; simp)]
    exact run_none a fun q hq => h q (List.mem_cons_of_mem _ hq)
theorem run_same {known : Int → Int → Bool} {n : Int} {r : List (Int × Int)} (hr : ∀ b, b ≤ n → okRun known b r = true) : ∀ {l : List (Int × Int)} (a : Int), a ≤ n → (∀ q ∈ l, q.1 = n) → okRun known a (l ++ r) = true
  | [], a, ha, _ => hr a ha
  | q :: l, a, ha, h => by
    have hq := h q List.mem_cons_self
    have hl : ∀ p ∈ l, p.1 = n := fun p hp => h p (List.mem_cons_of_mem _ hp)
    rw [List.cons_append, okRun]
    split
    · rw [hq, decide_eq_true ha, Bool.true_and]
      exact run_same hr n (Int.le_refl _) hl
    · exact run_same hr a ha hl
theorem run_flat {known : Int → Int → Bool} {l2 : List (Int × Int)} (h2 : ∀ b, okRun known b l2 = true) {g : Int × List Nd → List (Int × Int)} (hg : ∀ p, ∀ q ∈ g p, q.1 = p.1) : ∀ {fl : List (Int × List Nd)} (a : Int), RiseF a fl → okRun known a (fl.flatMap g ++ l2) = true
  | [], a, _ => by simpa using h2 a
  | p :: fl, a, h => by
    rw [List.flatMap_cons, List.append_assoc]
    exact run_same (n := p.1) (fun b hb => run_flat h2 hg b (rise_lt hb h.2)) a (Int.le_of_lt h.1) (hg p)
def wiresF (rec : Nd → List Int) (fs : List FD) (p : Int × List Nd) : List WF := match firstF fs p.1 with
  | none => []
  | some fd => wireL rec fd p.2
theorem fldB_wires (rec : Nd → List Int) (fs : List FD) (p : Int × List Nd) : fldB rec fs p = (wiresF rec fs p).flatMap WF.bytes := by
  unfold fldB wiresF
  cases firstF fs p.1 <;> rfl
theorem wire_num {rec : Nd → List Int} {fd : FD} {vs : List Nd} : ∀ x ∈ wireL rec fd vs, x.num = fd.num := by
  intro x hx
  unfold wireL at hx
  split at hx
  · have e : x = ⟨fd.num, 2, 0, packL fd.kind vs⟩ := by simpa using hx
    rw [e]
  · obtain ⟨y, _, rfl⟩ := List.mem_map.1 hx
    unfold singW
    split <;> rfl
theorem wires_num (rec : Nd → List Int) (fs : List FD) (p : Int × List Nd) : ∀ q ∈ (wiresF rec fs p).map (fun f => (f.num, f.ty)), q.1 = p.1 := by
  intro q hq
  obtain ⟨x, hx, rfl⟩ := List.mem_map.1 hq
  unfold wiresF at hx
  cases h : firstF fs p.1 with
  | none => rw [h] at hx; cases hx
  | some fd =>
    rw [h] at hx
    exact (wire_num x hx).trans (firstF_some h).2
theorem flatMap_two {α β γ : Type} (g : α → List β) (h : β → List γ) (l : List α) : (l.flatMap fun a => (g a).flatMap h) = (l.flatMap g).flatMap h := by
  induction l with
  | nil => rfl
  | cons a l ih => rw [List.flatMap_cons, List.flatMap_cons, List.flatMap_append, ih]
theorem map_flat {α β γ : Type} (g : α → List β) (h : β → γ) (l : List α) : (l.flatMap g).map h = l.flatMap fun a => (g a).map h := by
  induction l with
  | nil => rfl
  | cons a l ih => rw [List.flatMap_cons, List.map_append, ih, List.flatMap_cons]
theorem contB_ok (ms : List MD) (f : Nat) (y : Nd) : ∀ z ∈ contB (msgB ms f) y, 0 ≤ z ∧ z ≤ 255 := by
  unfold contB
  split
  · exact ints_ok _
  · split
    · exact msgB_ok ms f y
    · intro z hz; cases hz
/-- what a value that fits is split into -/
theorem split_enc {s : SC} (hf : FitS s) {f : Nat} {t : Int} {x : Nd} (hx : FitX s f t x) (hr : RngG f x) (hb : bndN f x ≤ 1000000000) {md : MD} (hmd : s.ms[t.toNat]? = some md) :
    ∃ D, split (encB s f x) = some D ∧ okRun (knownR md.fields) 0 (D.map numTy) = true := by
  have hno := numOK_of hf hx.1
  have hft := norm_fit hno f 1 t x hx.2.1 hx.2.2.1 hx.2.2.2
  have hen := encG_of hno f 1 t _ hx.2.1 hx.2.2.1 hft
  have hrn := norm_rng s.ms f x hr
  have hbn := norm_bnd s.ms f x
  unfold encB
  generalize normN s.ms f x = y at *
  have hml := msg_len f y hen hrn (by omega)
  have hform : formF s.es.length s.ms.length md.fields = true := by
    have h0 : formM s.es.length s.ms.length s.ms = true := by
      have h1 := hx.1.1
      unfold formS at h1
      simp only [Bool.and_eq_true] at h1
      exact h1.2.2.1
    have h1 := allA_iff.1 h0 _ md hmd
    unfold goodM at h1
    rw [Bool.and_eq_true] at h1
    exact h1.2
  rw [fitP_eq, topP, Bool.and_eq_true, decide_eq_true_eq, hmd] at hft
  obtain ⟨⟨h7, hty, _⟩, hbody⟩ := hft
  simp only at hbody
  unfold bodyP at hbody
  rw [Bool.and_eq_true] at hbody
  have hun := hbody.2
  rw [none_eq hform] at hun
  unfold noneOf at hun
  cases hsp : split (ints y.s) with
  | none => rw [hsp] at hun; cases hun
  | some T =>
    rw [hsp] at hun
    have hT : ∀ b, okRun (knownR md.fields) b (T.map numTy) = true := fun b => run_none b fun p hp => by
      obtain ⟨q, hq, rfl⟩ := List.mem_map.1 hp
      obtain ⟨i, hi⟩ := List.getElem?_of_mem hq
      have := allA_iff.1 hun i q hi
      simpa [numTy] using this
    have hrise : RiseF 0 y.fields := rise_iff.2 fun k q hq => by
      have h2 := allA_iff.1 hbody.1 k q hq
      rw [Bool.and_eq_true] at h2
      rw [← prev_eq]
      exact of_decide_eq_true h2.1
    cases f with
    | zero => exact ⟨T, hsp, hT 0⟩
    | succ f =>
      have hfo : fieldsOf s.ms y.type = md.fields := by unfold fieldsOf; rw [hty, hmd]
      have hm : msgB s.ms (f + 1) y = (y.fields.flatMap (wiresF (contB (msgB s.ms f)) md.fields)).flatMap WF.bytes ++ ints y.s := by
        unfold msgB
        rw [hfo, ← flatMap_two]
        congr 2
        funext p
        exact fldB_wires _ _ p
      have hlen : ((y.fields.flatMap (wiresF (contB (msgB s.ms f)) md.fields)).flatMap WF.bytes).length ≤ 1000000000 := by
        rw [hm, List.length_append] at hml
        omega
      obtain ⟨D, hD, hs⟩ := split_tail (y.fields.flatMap (wiresF (contB (msgB s.ms f)) md.fields)) (ints y.s) T (fun q hq => by
        have hq2 : q.bytes.length ≤ 1000000000 := by
          refine Nat.le_trans ?_ hlen
          rw [flatLen]
          exact sumL_mem (g := fun a : WF => a.bytes.length) hq
        obtain ⟨p, hp, hq⟩ := List.mem_flatMap.1 hq
        obtain ⟨fd, hfd, ⟨hn1, hn2⟩, hgk⟩ := hen.2 p hp
        rw [hfo] at hfd
        unfold wiresF at hq
        rw [hfd] at hq
        obtain ⟨a1, a2, a3, a4⟩ := wire_fmd hn1 hn2 (fun y hy => (hrn.2 p hp y hy).one) (fun y hy => (hgk y hy).1) q hq
        exact ⟨⟨a1, a2, a3⟩, by omega, wire_ok (fun y hy => contB_ok s.ms f y) q hq⟩) (ints_ok _) hsp
      refine ⟨D, by rw [hm]; exact hD, ?_⟩
      rw [hs, map_flat]
      exact run_flat hT (wires_num _ _) 0 hrise
/-- one step of the run -/
theorem run_step {known : Int → Int → Bool} {a : Int} {l : List (Int × Int)} {k : Nat} {p : Int × Int} (hp : l[k]? = some p) (h : okRun known a (l.drop k) = true) : if known p.1 p.2 = true then a ≤ p.1 ∧ okRun known p.1 (l.drop (k + 1)) = true else okRun known a (l.drop (k + 1)) = true := by
  have hk := (List.getElem?_eq_some_iff.1 hp)
  obtain ⟨hkl, he⟩ := hk
  rw [List.drop_eq_getElem_cons hkl, he, okRun] at h
  split
  · rename_i hk
    rw [if_pos hk, Bool.and_eq_true] at h
    exact ⟨of_decide_eq_true h.1, h.2⟩
  · rename_i hk
    rw [if_neg hk] at h
    exact h
end Go.Proofs.YtpnlbmobnopnoaaGreatDoor
