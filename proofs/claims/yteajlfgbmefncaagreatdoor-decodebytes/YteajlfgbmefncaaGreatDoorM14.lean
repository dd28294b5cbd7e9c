/-
  The walks over the program's packed, and over which definition is meant.
  The walks over the document's zero and the program's byDefault.
  The walks over the program's stays, and over the function that its Normal hands to copied.
  Statements whose order of evaluation is open, of which the last operation stores: what holds of the memory may be said up to that store. Nothing is proved of the program here.
-/
import Derived.Test.YteajlfgbmefncaaGreatDoorM8
import Derived.Test.YteajlfgbmefncaaGreatDoorM9
import Derived.Test.YteajlfgbmefncaaGreatDoorM4
import Derived.Test.YteajlfgbmefncaaGreatDoorM2
import Derived.Test.YteajlfgbmefncaaGreatDoorM1
import Derived.Test.YteajlfgbmefncaaGreatDoorM7
import Derived.Test.YteajlfgbmefncaaGreatDoorM10
import Derived.Test.YteajlfgbmefncaaGreatDoorM13
import Derived.Lib.Zigzag
import Derived.Lib.SlBytesConst
import Derived.Test.YteajlfgbmefncaaGreatDoorProg
import Derived.OrdersHeld
import Derived.Deep.RegionHeld
namespace Go.Proofs.YteajlfgbmefncaaGreatDoor
set_option linter.unusedVariables false
open Go.ChangeShapes Go.WideShapes Go.ChangeAt Go.RowKit

/-- bytes that a slice leads to, in blocks of S -/
def BIn (w : World) (S : Nat → Prop) (a : Option Addr) (c : Nat) (zs : List Int) : Prop :=
  zs.length ≤ 140737488355328 ∧ (a = none → zs.length = 0 ∧ c = 0) ∧ (zs = [] ∨ ∃ b off, a = some ⟨b, off, none⟩ ∧ S b ∧ Held w b off zs) ∧ zs.length ≤ c ∧ c ≤ 9223372036854775807
theorem BIn.isB {w : World} {S : Nat → Prop} {a : Option Addr} {c : Nat} {zs : List Int} (h : BIn w S a c zs) : IsB w a zs.length zs :=
  ⟨rfl, by have := h.1; omega, h.2.2.1.imp id fun ⟨b, off, h1, _, h2⟩ => ⟨b, off, h1, h2⟩⟩
theorem BIn.mv {w w' : World} {S S' : Nat → Prop} {a : Option Addr} {c : Nat} {zs : List Int} (h : BIn w S a c zs) (hb : ∀ b, S b → w'.heap[b]? = w.heap[b]?) (hS : ∀ b, S b → S' b) : BIn w' S' a c zs :=
  ⟨h.1, h.2.1, h.2.2.1.imp id fun ⟨b, off, h1, h2, h3⟩ => ⟨b, off, h1, hS b h2, fun j z hj => by rw [World.cell?_of_block (hb b h2)]; exact h3.1 j z hj, h3.2⟩, h.2.2.2⟩
theorem BIn.nil (w : World) (S : Nat → Prop) : BIn w S none 0 [] := ⟨by simp, fun _ => ⟨rfl, rfl⟩, .inl rfl, by simp, by omega⟩
theorem own_BIn {w : World} {base : Nat} {v : Value} {xs : List Int} (h : OwnB w base v xs) (hb : ∀ z ∈ xs, 0 ≤ z ∧ z ≤ 255) (hm : xs.length ≤ 140737488355328) :
    ∃ a c, v = .slice a xs.length c ∧ BIn w (fun b => base ≤ b ∧ b < w.heap.size) a c xs := by
  obtain ⟨a, c, rfl, h1, h2, h3⟩ := own_isB h hb (by omega)
  have hcm : c ≤ 9223372036854775807 := by
    obtain ⟨_, ⟨h5, _⟩ | ⟨g, cap, cur, h5, _, _, _, h4, _⟩⟩ := h
    · have := (Value.slice.inj h5).2.2; omega
    · have := (Value.slice.inj h5).2.2; unfold maxLen at h4; omega
  refine ⟨a, c, rfl, hm, h3, ?_, h2, hcm⟩
  obtain ⟨_, _, h4⟩ := h1
  rcases h4 with h4 | ⟨b, off, rfl, hh⟩
  · exact .inl h4
  · cases xs with
    | nil => exact .inl rfl
    | cons z xs =>
      refine .inr ⟨b, off, rfl, ⟨own_blockB h b rfl, ?_⟩, hh⟩
      exact cell_ltB (hh.1 0 z rfl)
theorem ownE_BIn {w : World} {base : Nat} {v : Value} {xs : List Int} (h : OwnE w base v xs) (hb : ∀ z ∈ xs, 0 ≤ z ∧ z ≤ 255) (hm : xs.length ≤ 140737488355328) :
    ∃ a c, v = .slice a xs.length c ∧ BIn w (fun b => base ≤ b ∧ b < w.heap.size) a c xs := by
  rcases h with h | ⟨rfl, g, rfl⟩
  · exact own_BIn h hb hm
  · exact ⟨_, _, rfl, by simp, (fun h => by cases h), Or.inl rfl, Nat.le_refl _, by omega⟩
end Go.Proofs.YteajlfgbmefncaaGreatDoor
namespace Go.Proofs.YteajlfgbmefncaaGreatDoor
set_option linter.unusedVariables false
open Go.ChangeShapes Go.WideShapes Go.ChangeAt Go.RowKit

theorem notEmpty {s : List UInt8} (h : ¬ s = []) : (mkB s).toList.isEmpty = false := by
  rw [mkB_list]
  cases s with
  | nil => exact absurd rfl h
  | cons a t => rfl
theorem isEmptyN : (mkB []).toList.isEmpty = true := by rw [mkB_list]; rfl
set_option maxHeartbeats 8000000 in
set_option maxRecDepth 20000 in
theorem zeroR_any (zk zn zu : Int) (zb : Bool) (zs : List UInt8) (zt : Int) (zf : List (Int × List Nd)) (la : Option Addr) (ln lc : Nat) (w : World) : Calls Tryz.prog 41 #[.agg #[.int .i64 zk, .int .i64 zn, .int .u64 zu, .bool zb, .string (mkB zs), .int .i64 zt, .slice la ln lc]] w fun e w' => e = .returned (.bool (zeroR ⟨zk, zn, zu, zb, zs, zt, zf⟩)) ∧ Below w.heap.size w w' := by
  obtain ⟨R, hR⟩ : ∃ R, zeroR ⟨zk, zn, zu, zb, zs, zt, zf⟩ = R := ⟨_, rfl⟩
  have HR : Hid ((decide (zk ≠ 7) && (decide (zn = 0) && (decide (zu = 0) && (!zb && decide (zs = []))))) = R) := hR
  rw [hR]
  clear hR
  obtain ⟨Y, hY, hC, hb, hYs⟩ := box_new w #[.int .i64 zk, .int .i64 zn, .int .u64 zu, .bool zb, .string (mkB zs), .int .i64 zt, .slice la ln lc] 38
  have HY := Lib.hid hY
  have HB := Lib.hid hb
  have c0 : Y.cell? ⟨w.heap.size, 0, none⟩ = some (.int .i64 zk) := cell_at hC 0 rfl
  have c1 : Y.cell? ⟨w.heap.size, 1, none⟩ = some (.int .i64 zn) := cell_at hC 1 rfl
  have c2 : Y.cell? ⟨w.heap.size, 2, none⟩ = some (.int .u64 zu) := cell_at hC 2 rfl
  have c3 : Y.cell? ⟨w.heap.size, 3, none⟩ = some (.bool zb) := cell_at hC 3 rfl
  have c4 : Y.cell? ⟨w.heap.size, 4, none⟩ = some (.string (mkB zs)) := cell_at hC 4 rfl
  clear hY hC hb hYs
  by_cases h0 : zk = 7
  · subst h0
    have e : R = false := by rw [← HR.out]; simp
    subst e
    go_enter Tryz.func41, Tryz.ntmps41
    go_upto_region 1 with fail
    rw [HY.out]
    go_wp2_with fail
    go_ret
    exact ⟨rfl, HB.out⟩
  have h0' : (zk != 7) = true := by simp [h0]
  by_cases h1 : zn = 0
  case neg =>
    have e : R = false := by rw [← HR.out]; simp [h1]
    subst e
    have h1' : (zn == 0) = false := by simp [h1]
    clear h0
    go_enter Tryz.func41, Tryz.ntmps41
    go_upto_region 1 with fail
    rw [HY.out]
    go_wp2_with fail
    go_ret
    exact ⟨rfl, HB.out⟩
  subst h1
  by_cases h2 : zu = 0
  case neg =>
    have e : R = false := by rw [← HR.out]; simp [h2]
    subst e
    have h2' : (zu == 0) = false := by simp [h2]
    clear h0
    go_enter Tryz.func41, Tryz.ntmps41
    go_upto_region 1 with fail
    rw [HY.out]
    go_wp2_with fail
    go_ret
    exact ⟨rfl, HB.out⟩
  subst h2
  cases zb
  case true =>
    have e : R = false := by rw [← HR.out]; simp
    subst e
    clear h0
    go_enter Tryz.func41, Tryz.ntmps41
    go_upto_region 1 with fail
    rw [HY.out]
    go_wp2_with fail
    go_ret
    exact ⟨rfl, HB.out⟩
  by_cases h4 : zs = []
  · subst h4
    have e : R = true := by rw [← HR.out]; simp [h0]
    subst e
    have h4' := isEmptyN
    clear h0
    go_enter Tryz.func41, Tryz.ntmps41
    go_upto_region 1 with fail
    rw [HY.out]
    go_wp2_with fail
    go_ret
    exact ⟨rfl, HB.out⟩
  have e : R = false := by rw [← HR.out]; simp [h4]
  subst e
  have h4' := notEmpty h4
  clear h0
  go_enter Tryz.func41, Tryz.ntmps41
  go_upto_region 1 with fail
  rw [HY.out]
  go_wp2_with fail
  go_ret
  exact ⟨rfl, HB.out⟩
set_option maxHeartbeats 8000000 in
set_option maxRecDepth 20000 in
theorem byDef_any (y : Nd) (fs : Value) (w : World) : Calls Tryz.prog 59 #[ival y fs] w fun e w' => e = .returned (.bool (defP y)) ∧ w' = w := by
  have t1 := fun W => taInt y fs W
  have t2 := fun W => taUint y fs W
  have t3 := fun W => taBool y fs W
  have t4 := fun W => taText y fs W
  have t5 := fun W => taBytes y fs W
  have t6 := fun W => taEnum y fs W
  obtain ⟨v, hv⟩ : ∃ v, ival y fs = v := ⟨_, rfl⟩
  rw [hv] at t1 t2 t3 t4 t5 t6 ⊢
  clear hv
  obtain ⟨kind, n, u, b, s, type, fields⟩ := y
  dsimp only at t1 t2 t3 t4 t5 t6
  obtain ⟨R, hR⟩ : ∃ R, defP ⟨kind, n, u, b, s, type, fields⟩ = R := ⟨_, rfl⟩
  have HR : Hid ((if kind = 1 then decide (n = 0) else if kind = 2 then decide (u = 0) else if kind = 3 then !b else if kind = 4 ∨ kind = 5 then decide (s = []) else if kind = 6 then decide (IntKind.i32.wrap n = 0) else false) = R) := hR
  rw [hR]
  clear hR
  by_cases h1 : kind = 1
  · subst h1
    rw [if_pos rfl, decide_eq_true rfl] at t1
    clear t2 t3 t4 t5 t6
    by_cases hz : n = 0
    · subst hz
      have e : R = true := by rw [← HR.out]; simp
      subst e
      go_enter Tryz.func59, Tryz.ntmps59
      go_wp2_with fail
      go_ret
      exact ⟨rfl, rfl⟩
    · have e : R = false := by rw [← HR.out]; simp [hz]
      subst e
      have hz' : (n == 0) = false := by simp [hz]
      go_enter Tryz.func59, Tryz.ntmps59
      go_wp2_with fail
      go_ret
      exact ⟨rfl, rfl⟩
  by_cases h2 : kind = 2
  · subst h2
    rw [if_neg (by decide), decide_eq_false (by decide)] at t1
    rw [if_pos rfl, decide_eq_true rfl] at t2
    clear t3 t4 t5 t6
    by_cases hz : u = 0
    · subst hz
      have e : R = true := by rw [← HR.out]; simp
      subst e
      go_enter Tryz.func59, Tryz.ntmps59
      go_wp2_with fail
      go_ret
      exact ⟨rfl, rfl⟩
    · have e : R = false := by rw [← HR.out]; simp [hz]
      subst e
      have hz' : (u == 0) = false := by simp [hz]
      go_enter Tryz.func59, Tryz.ntmps59
      go_wp2_with fail
      go_ret
      exact ⟨rfl, rfl⟩
  by_cases h3 : kind = 3
  · subst h3
    rw [if_neg (by decide), decide_eq_false (by decide)] at t1
    rw [if_neg (by decide), decide_eq_false (by decide)] at t2
    rw [if_pos rfl, decide_eq_true rfl] at t3
    clear t4 t5 t6
    have e : R = !b := by rw [← HR.out]; simp
    subst e
    go_enter Tryz.func59, Tryz.ntmps59
    go_wp2_with fail
    go_ret
    exact ⟨rfl, rfl⟩
  by_cases h4 : kind = 4
  · subst h4
    rw [if_neg (by decide), decide_eq_false (by decide)] at t1
    rw [if_neg (by decide), decide_eq_false (by decide)] at t2
    rw [if_neg (by decide), decide_eq_false (by decide)] at t3
    rw [if_pos rfl, decide_eq_true rfl] at t4
    clear t5 t6
    by_cases hz : s = []
    · subst hz
      have e : R = true := by rw [← HR.out]; simp
      subst e
      have hz' := isEmptyN
      go_enter Tryz.func59, Tryz.ntmps59
      go_wp2_with fail
      go_ret
      exact ⟨rfl, rfl⟩
    · have e : R = false := by rw [← HR.out]; simp [hz]
      subst e
      have hz' := notEmpty hz
      go_enter Tryz.func59, Tryz.ntmps59
      go_wp2_with fail
      go_ret
      exact ⟨rfl, rfl⟩
  by_cases h5 : kind = 5
  · subst h5
    rw [if_neg (by decide), decide_eq_false (by decide)] at t1
    rw [if_neg (by decide), decide_eq_false (by decide)] at t2
    rw [if_neg (by decide), decide_eq_false (by decide)] at t3
    rw [if_neg (by decide), decide_eq_false (by decide)] at t4
    rw [if_pos rfl, decide_eq_true rfl] at t5
    clear t6
    by_cases hz : s = []
    · subst hz
      have e : R = true := by rw [← HR.out]; simp
      subst e
      have hz' := isEmptyN
      go_enter Tryz.func59, Tryz.ntmps59
      go_wp2_with fail
      go_ret
      exact ⟨rfl, rfl⟩
    · have e : R = false := by rw [← HR.out]; simp [hz]
      subst e
      have hz' := notEmpty hz
      go_enter Tryz.func59, Tryz.ntmps59
      go_wp2_with fail
      go_ret
      exact ⟨rfl, rfl⟩
  by_cases h6 : kind = 6
  · subst h6
    rw [if_neg (by decide), decide_eq_false (by decide)] at t1
    rw [if_neg (by decide), decide_eq_false (by decide)] at t2
    rw [if_neg (by decide), decide_eq_false (by decide)] at t3
    rw [if_neg (by decide), decide_eq_false (by decide)] at t4
    rw [if_neg (by decide), decide_eq_false (by decide)] at t5
    rw [if_pos rfl, decide_eq_true rfl] at t6
    obtain ⟨E, hE⟩ : ∃ E, IntKind.i32.wrap n = E := ⟨_, rfl⟩
    rw [hE] at t6 HR
    clear hE
    by_cases hz : E = 0
    · subst hz
      have e : R = true := by rw [← HR.out]; simp
      subst e
      go_enter Tryz.func59, Tryz.ntmps59
      go_wp2_with fail
      go_ret
      exact ⟨rfl, rfl⟩
    · have e : R = false := by rw [← HR.out]; simp [hz]
      subst e
      have hz' : (E == 0) = false := by simp [hz]
      go_enter Tryz.func59, Tryz.ntmps59
      go_wp2_with fail
      go_ret
      exact ⟨rfl, rfl⟩
  have e : R = false := by rw [← HR.out]; simp [h1, h2, h3, h4, h5, h6]
  subst e
  rw [if_neg h1, show decide (kind = 1) = false from decide_eq_false h1] at t1
  rw [if_neg h2, show decide (kind = 2) = false from decide_eq_false h2] at t2
  rw [if_neg h3, show decide (kind = 3) = false from decide_eq_false h3] at t3
  rw [if_neg h4, show decide (kind = 4) = false from decide_eq_false h4] at t4
  rw [if_neg h5, show decide (kind = 5) = false from decide_eq_false h5] at t5
  rw [if_neg h6, show decide (kind = 6) = false from decide_eq_false h6] at t6
  go_enter Tryz.func59, Tryz.ntmps59
  go_wp2_with fail
  go_ret
  exact ⟨rfl, rfl⟩
end Go.Proofs.YteajlfgbmefncaaGreatDoor
namespace Go.Proofs.YteajlfgbmefncaaGreatDoor
set_option linter.unusedVariables false
open Go.ChangeShapes Go.WideShapes Go.ChangeAt Go.RowKit

set_option maxHeartbeats 8000000 in
set_option maxRecDepth 20000 in
theorem stays_any (nn : List UInt8) (fa : Option Addr) (n fc : Nat) (fs : List FD) (fd : FD) (num : Int) (va : Option Addr) (m vc : Nat) (ys : List Nd) (f : Nat) (w : World) (hn : fs.length = n) (hl : n ≤ 100000) (hH : RowsIn w (fun b => b < w.heap.size) 5 fdrow (.slice fa n fc) fs) (hfd : firstF fs num = some fd) (hm : ys.length = m) (hm0 : 0 < m) (hV : ValsG valS w (fun b => b < w.heap.size) f (.slice va m vc) ys) :
    Calls Tryz.prog 32 #[.agg #[.string (mkB nn), .slice fa n fc], .agg #[.int .i64 num, .slice va m vc]] w fun e w' => e = .returned (.bool (keepB fs (num, ys))) ∧ Below w.heap.size w w' := by
  obtain ⟨y, hy⟩ : ∃ y, ys[0]? = some y := ⟨_, List.getElem?_eq_getElem (by omega)⟩
  obtain ⟨R, hR⟩ : ∃ R, keepB fs (num, ys) = R := ⟨_, rfl⟩
  have HR : Hid ((fd.rep || !defP y) = R) := by
    refine (?_ : _ = _)
    rw [← hR]
    unfold keepB
    dsimp only
    rw [hfd, hy]
  rw [hR]
  clear hR
  obtain ⟨Y, hY, hC, hb, hYs⟩ := box_new w #[.string (mkB nn), .slice fa n fc] 54
  obtain ⟨V, hV', hD, hVb, hVs⟩ := box_new Y #[.int .i64 num, .slice va m vc] 79
  have HY := Lib.hid hY
  have HV := Lib.hid hV'
  rw [hYs] at hD
  have hC2 := (hVb.block _ (by omega)).trans hC
  have hBV := hb.trans (hVb.mono hb.size)
  have HBV := Lib.hid hBV
  have HD := Lib.hid hD
  have d0 : V.cell? ⟨w.heap.size, 0, none⟩ = some (.string (mkB nn)) := cell_at hC2 0 rfl
  have d1 : V.cell? ⟨w.heap.size, 1, none⟩ = some (.slice fa n fc) := cell_at hC2 1 rfl
  have f0 : V.cell? ⟨w.heap.size + 1, 0, none⟩ = some (.int .i64 num) := cell_at hD 0 rfl
  have h := defined_any nn fa n fc fs num V hn hl ((RowsIn.old hH fun b h => hBV.block b h).more fun b h => by have := hBV.size; omega)
  obtain ⟨g, o, c, yf, hsl, hg, hcl, _⟩ := ValsG.at hV hy
  rw [hm] at hsl
  obtain ⟨rfl, rfl⟩ := slice_two hsl
  have hgN : g < w.heap.size := hg
  have e0 : w.cell? ⟨g, o, none⟩ = some (ival y yf) := by have := hcl 0 _ rfl; simpa [valS] using this
  have hdf := byDef_any y yf
  have hVl : w.heap.size + 2 ≤ V.heap.size := by omega
  have hm1 : (0 : Int) < (m : Int) := by omega
  generalize ival y yf = v0 at e0 hdf
  generalize defP y = D at HR hdf
  have HFD := Lib.hid hfd
  clear hn hl hH hm hV hC hY hb hYs hV' hVb hVs hD hC2 hBV hsl hcl hg hy hfd
  go_enter Tryz.func32, Tryz.ntmps32
  go_upto_region 1 with fail
  rw [HY.out, HV.out]
  go_wp2_with fail
  refine h.mono ?_
  rintro e W ⟨x, b, rfl, hbt, hbf, hbW⟩
  obtain rfl : b = true := by
    cases b
    · have := hbf rfl; rw [HFD.out] at this; cases this
    · rfl
  obtain rfl : x = fd := by have := hbt rfl; rw [HFD.out] at this; exact (Option.some.inj this).symm
  have HBW := Lib.hid (HBV.out.trans (hbW.mono HBV.out.size))
  have hWs := hbW.size
  have HDW : Hid (W.heap[w.heap.size + 1]? = some (.cells #[.int .i64 num, .slice (some ⟨g, o, none⟩) m vc] 79 (0, 0))) := (hbW.block _ (by omega)).trans HD.out
  clear h hbW d0 d1 f0 hbt hbf HD HFD
  obtain ⟨xnum, xname, xkind, xrep, xtype⟩ := x
  dsimp only at HR ⊢
  have hC : (W.alloc (.cells #[.int .i64 xnum, .string (mkB xname), .int .i64 xkind, .bool xrep, .int .i64 xtype] 51)).heap[W.heap.size]? = some (.cells #[.int .i64 xnum, .string (mkB xname), .int .i64 xkind, .bool xrep, .int .i64 xtype] 51 (0, 0)) := alloc_heap_new _ _
  have hCb : Below W.heap.size W (W.alloc (.cells #[.int .i64 xnum, .string (mkB xname), .int .i64 xkind, .bool xrep, .int .i64 xtype] 51)) := (Below.refl _ W).alloc (Nat.le_refl _) _
  go_upto_region 2 with fail
  generalize (W.alloc (.cells #[.int .i64 xnum, .string (mkB xname), .int .i64 xkind, .bool xrep, .int .i64 xtype] 51)) = X at *
  have HBX := Lib.hid (HBW.out.trans (hCb.mono HBW.out.size))
  have hDX := (hCb.block _ (by omega)).trans HDW.out
  have q1 : X.cell? ⟨w.heap.size + 1, 1, none⟩ = some (.slice (some ⟨g, o, none⟩) m vc) := cell_at hDX 1 rfl
  have q3 : X.cell? ⟨W.heap.size, 3, none⟩ = some (.bool xrep) := cell_at hC 3 rfl
  have q0 : X.cell? ⟨g, o, none⟩ = some v0 := (HBX.out.cell (by simpa using hgN)).trans e0
  have hd := hdf X
  clear hC hCb hDX HDW HBW e0 hdf
  cases xrep
  case true =>
    have e : R = true := by rw [← HR.out]; rfl
    subst e
    go_wp2_with fail
    go_ret
    exact ⟨rfl, HBX.out⟩
  case false =>
    have e : R = !D := by rw [← HR.out]; rfl
    subst e
    go_wp2_with fail
    refine hd.mono ?_
    rintro e W9 ⟨rfl, hW⟩
    have hW := hW.symm
    subst hW
    go_wp2_with fail
    go_ret
    exact ⟨rfl, HBX.out⟩
set_option maxHeartbeats 8000000 in
set_option maxRecDepth 20000 in
theorem keep_any (cp : Nat) (ma ea ta : Option Addr) (nm ne nt mc ec tc : Nat) (ms : List MD) (q : Nat) (md : MD) (xa : Option Addr) (xl xc : Nat) (xs : List UInt8) (fd : FD) (num : Int) (va : Option Addr) (m vc : Nat) (ys : List Nd) (f : Nat) (w : World) (hnm : ms.length = nm) (hq : ms[q]? = some md) (hl : md.fields.length ≤ 100000) (hcp : w.cell? ⟨cp, 0, none⟩ = some (.slice ma nm mc)) (hH : HeldM w (fun b => b < w.heap.size) (.slice ma nm mc) ms) (hfd : firstF md.fields num = some fd) (hm : ys.length = m) (hm0 : 0 < m) (hV : ValsG valS w (fun b => b < w.heap.size) f (.slice va m vc) ys) :
    Calls Tryz.prog 31 #[.agg #[.int .i64 (q : Int), .slice xa xl xc, .string (mkB xs)], .agg #[.int .i64 num, .slice va m vc], .pointer (some ⟨cp, 0, none⟩)] w fun e w' => e = .returned (.bool (keepB md.fields (num, ys))) ∧ Below w.heap.size w w' := by
  have hcpl : cp < w.heap.size := cell_ltB hcp
  obtain ⟨mname, mfs⟩ := md
  dsimp only at hl hfd ⊢
  obtain ⟨nf, hnf⟩ : ∃ n, mfs.length = n := ⟨_, rfl⟩
  obtain ⟨R, hR⟩ : ∃ R, keepB mfs (num, ys) = R := ⟨_, rfl⟩
  rw [hR]
  obtain ⟨Y, hY, hC, hb, hYs⟩ := box_new w #[.int .i64 (q : Int), .slice xa xl xc, .string (mkB xs)] 76
  obtain ⟨V, hV', hD, hVb, hVs⟩ := box_new Y #[.int .i64 num, .slice va m vc] 79
  have HY := Lib.hid hY
  have HV := Lib.hid hV'
  rw [hYs] at hD
  have hC2 := (hVb.block _ (by omega)).trans hC
  have hBV := hb.trans (hVb.mono hb.size)
  have HBV := Lib.hid hBV
  obtain ⟨g, oo, c0, ka, kc, hsl, hg, e0, e1, hrow⟩ := HeldN.at hH (W := V) (fun b hb => hBV.block b hb) hq
  rw [hnm] at hsl
  obtain ⟨rfl, rfl⟩ := slice_two hsl
  dsimp only at hrow e0 e1
  rw [hnf] at hrow e1 hl
  have HST : Hid (∀ W, Below V.heap.size V W → Calls Tryz.prog 32 #[.agg #[.string (mkB mname), .slice ka nf kc], .agg #[.int .i64 num, .slice va m vc]] W fun e w' => e = .returned (.bool R) ∧ Below W.heap.size W w') := by
    refine (?_ : ∀ W, _ → _)
    intro W hW
    rw [← hR]
    have hw := hBV.trans (hW.mono hBV.size)
    exact stays_any mname ka nf kc mfs fd num va m vc ys f W hnf hl ((RowsIn.old hrow fun b hb => hW.block b (by have hb' : b < w.heap.size := hb; have := hBV.size; omega)).more fun b hb => by have hb' : b < w.heap.size := hb; have := hw.size; omega) hfd hm hm0 (ValsG.mv (fun b hb => hw.block b hb) (fun b hb => by have hb' : b < w.heap.size := hb; have := hw.size; omega) hV)
  have hgN : g < w.heap.size := hg
  have hVl : w.heap.size + 2 ≤ V.heap.size := by omega
  have s0 : ∀ W, Below V.heap.size V W → W.cell? ⟨cp, 0, none⟩ = some (.slice (some ⟨g, oo, none⟩) nm mc) := fun W hW => (hW.cell (by simp; omega)).trans ((hBV.cell (by simpa using hcpl)).trans hcp)
  have s1 : ∀ W, Below V.heap.size V W → W.cell? ⟨w.heap.size, 0, none⟩ = some (.int .i64 (q : Int)) := fun W hW => (hW.cell (by simp; omega)).trans (cell_at hC2 0 rfl)
  have s2 : ∀ W, Below V.heap.size V W → W.cell? ⟨g, oo + q * 2, none⟩ = some (.string (mkB mname)) := fun W hW => (hW.cell (by simp; omega)).trans e0
  have s3 : ∀ W, Below V.heap.size V W → W.cell? ⟨g, oo + q * 2 + 1, none⟩ = some (.slice ka nf kc) := fun W hW => (hW.cell (by simp; omega)).trans e1
  have s4 : ∀ W, Below V.heap.size V W → W.cell? ⟨w.heap.size + 1, 0, none⟩ = some (.int .i64 num) := fun W hW => (hW.cell (by simp; omega)).trans (cell_at hD 0 rfl)
  have s5 : ∀ W, Below V.heap.size V W → W.cell? ⟨w.heap.size + 1, 1, none⟩ = some (.slice va m vc) := fun W hW => (hW.cell (by simp; omega)).trans (cell_at hD 1 rfl)
  have hqn : q < nm := by have := (List.getElem?_eq_some_iff.1 hq).1; omega
  have hq0 : (0 : Int) ≤ (q : Int) := by omega
  have hq1 : (q : Int) < (nm : Int) := by omega
  clear hY hC hb hYs hV' hD hVb hVs hC2 hBV hsl hg e0 e1 hrow hH hV hR hfd hm hq hcp
  go_enter Tryz.func31, Tryz.ntmps31
  go_upto_region 1 with fail
  rw [HY.out, HV.out]
  have hS0 : Below V.heap.size V V.drew := (Below.refl _ _).drew
  refine wp_region_held_drew (S := fun W => Below V.heap.size V W) (by kernel_rfl) hS0 (fun _ => ?_)
  refine T_on 0 (.pointer (some ⟨cp, 0, none⟩)) rfl (by kernel_rfl) (fun _ _ _ h => h) hS0 (fun W hW => by go_simp) ?_
  refine T_on 1 (.slice (some ⟨g, oo, none⟩) nm mc) rfl (by kernel_rfl) (fun _ _ _ h => h) hS0 (fun W hW => by have c := s0 W hW; go_simp) ?_
  refine T_on 2 (.pointer (some ⟨w.heap.size, 0, none⟩)) rfl (by kernel_rfl) (fun _ _ _ h => h) hS0 (fun W hW => by go_simp) ?_
  refine T_on 3 (.int .i64 (q : Int)) rfl (by kernel_rfl) (fun _ _ _ h => h) hS0 (fun W hW => by have c := s1 W hW; go_simp) ?_
  refine T_on 4 (.pointer (some ⟨g, oo + q * 2, none⟩)) rfl (by kernel_rfl) (fun _ _ _ h => h) hS0 (fun W hW => by go_simp) ?_
  refine T_on 5 (.agg #[.string (mkB mname), .slice ka nf kc]) rfl (by kernel_rfl) (fun _ _ _ h => h) hS0 (fun W hW => by have c := s2 W hW; have c2 := s3 W hW; go_simp) ?_
  refine T_on 6 (.agg #[.int .i64 num, .slice va m vc]) rfl (by kernel_rfl) (fun _ _ _ h => h) hS0 (fun W hW => by have c := s4 W hW; have c2 := s5 W hW; go_simp) ?_
  refine T_call 7 (by kernel_rfl) rfl (fun K hK => ?_)
  go_simp
  refine (HST.out _ hS0).mono ?_
  rintro e U1 ⟨rfl, hb1⟩
  have hS1 := hS0.trans (hb1.mono hS0.size)
  clear hS0 hb1
  have hS0 := hS1
  clear hS1
  dsimp only
  refine hK.out _ _ hS0 (fun _ => ?_)
  clear hK K
  refine T_on 8 (.bool R) rfl (by kernel_rfl) (fun _ _ _ h => h) hS0 (fun W hW => by go_simp) ?_
  refine wpAnyH_done (by kernel_rfl) ?_ _
  go_simp
  have HE := Lib.hid (HBV.out.trans (hS0.mono HBV.out.size))
  go_wp2_with fail
  go_ret
  exact ⟨rfl, HE.out⟩
end Go.Proofs.YteajlfgbmefncaaGreatDoor
namespace Go.Proofs.YteajlfgbmefncaaGreatDoor
set_option linter.unusedVariables false

section
variable {P : Program} {ops : Array Oper} {Q : Exit → Act → World → Prop} {md : Region.Mode}
/-- what has come up is closed: with each operation those that it waits for -/
def CloL (md : Region.Mode) (ops : Array Oper) (l : Array Bool) : Prop := ∀ (j : Nat) (oj : Oper), ops[j]? = some oj → l.getD j false = true → ∀ e ∈ oj.after, Region.binds md e = true → l.getD e.on false = true
def cloB (md : Region.Mode) (ops : Array Oper) (l : Array Bool) : Bool := (List.range ops.size).all fun j => match ops[j]? with
  | some oj => !l.getD j false || oj.after.all fun e => !Region.binds md e || l.getD e.on false
  | none => true
theorem clo_of {l : Array Bool} (h : cloB md ops l = true) : CloL md ops l := by
  intro j oj hj hl e he hb
  have hjs := (Array.getElem?_eq_some_iff.1 hj).1
  have h1 := List.all_eq_true.1 h j (List.mem_range.2 hjs)
  simp only [hj, hl, Bool.not_true, Bool.false_or] at h1
  have h2 := Array.all_eq_true_iff_forall_mem.1 h1 e he
  simpa [hb] using h2
theorem clo_set {l : Array Bool} {j : Nat} (h : CloL md ops l) (hj : j ∈ Region.ready md ops l) : CloL md ops (l.setIfInBounds j true) := by
  intro k ok hk hl e he hb
  by_cases hjk : j = k
  · subst hjk
    obtain ⟨_, oj, hoj, hall⟩ := mem_ready.1 hj
    rw [hk] at hoj
    cases hoj
    exact getD_set_true (hall e he hb)
  · rw [getD_set_ne false hjk] at hl
    exact getD_set_true (h k ok hk hl e he hb)
/-- each waits for the next one -/
def chainB (md : Region.Mode) (ops : Array Oper) : Nat → List Nat → Bool
  | _, [] => true
  | s, t :: p => (match ops[s]? with
    | some o => o.after.toList.any fun e => Region.binds md e && (e.on == t)
    | none => false) && chainB md ops t p
theorem clo_chain {l : Array Bool} (h : CloL md ops l) : ∀ (p : List Nat) (s : Nat), chainB md ops s p = true → l.getD s false = true → ∀ t ∈ p, l.getD t false = true
  | [], s, _, _, t, ht => by simp at ht
  | b :: p, s, hc, hs, t, ht => by
    rw [chainB, Bool.and_eq_true] at hc
    obtain ⟨h1, h2⟩ := hc
    have hb : l.getD b false = true := by
      cases ho : ops[s]? with
      | none => rw [ho] at h1; cases h1
      | some o =>
        rw [ho] at h1
        obtain ⟨e, he, h3⟩ := List.any_eq_true.1 h1
        rw [Bool.and_eq_true] at h3
        have := h s o ho hs e (by simpa using he) h3.1
        have e2 : e.on = b := by simpa using h3.2
        rw [e2] at this; exact this
    rcases List.mem_cons.1 ht with rfl | ht
    · exact hb
    · exact clo_chain h p b h2 hb t ht
/-- what holds: Sy all along, Sp as long as number st has not come up -/
def Ph (st : Nat) (Sy Sp : World → Prop) (l : Array Bool) (w : World) : Prop := Sy w ∧ (l.getD st false = false → Sp w)
def wpAnyG (P : Program) (md : Region.Mode) (ops : Array Oper) (Q : Exit → Act → World → Prop) (st : Nat) (Sy Sp : World → Prop) : Nat → Array Bool → Act → World → Prop
  | 0, l, a, w => Region.ready md ops l = [] ∧ Q .normal a w
  | fuel + 1, l, a, w =>
    (Region.ready md ops l = [] → Q .normal a w) ∧
    ∀ i ∈ Region.ready md ops l, wpOp P ops Q i (fun a' w' => Ph st Sy Sp (l.setIfInBounds i true) w' ∧ wpAnyG P md ops Q st Sy Sp fuel (l.setIfInBounds i true) a' w') a w
variable {st : Nat} {Sy Sp : World → Prop}
theorem any_of_G : ∀ (fuel : Nat) (l : Array Bool) (a : Act) (w : World), wpAnyG P md ops Q st Sy Sp fuel l a w → wpAny P md ops Q fuel l a w
  | 0, _, _, _, h => h
  | fuel + 1, _, _, _, h => ⟨h.1, fun i hi => wpOp_mono (fun a' w' h' => any_of_G fuel _ a' w' h'.2) (h.2 i hi)⟩
theorem G_first {i : Nat} {oi : Oper} {v : Value} {p : List Nat} (hch : chainB md ops st p = true) (hpi : i ∈ p) (hist : i ≠ st) (hi : ops[i]? = some oi) (hsel : ∀ (j : Nat) (o : Oper) cs b, ops[j]? = some o → o.op ≠ .select cs b)
    (hQ : ∀ c a w, Q (.panic c) (a.put oi.dst v) w → Q (.panic c) a w) :
    ∀ (fuel : Nat) (l : Array Bool) (a : Act) (w : World), CloL md ops l →
      (∀ j oj, ops[j]? = some oj → j ≠ i → l.getD j true = false → (∀ e ∈ oj.after, Region.binds md e = true → e.on ≠ i) → oi.apart ops oj = true) →
      i ∈ Region.ready md ops l → YieldsIf P ops (fun W => Sy W ∧ Sp W) oi v a → Ph st Sy Sp l w →
      wpAnyG P md ops Q st Sy Sp fuel (l.setIfInBounds i true) (a.put oi.dst v) w → wpAnyG P md ops Q st Sy Sp (fuel + 1) l a w := by
  have both : ∀ (l : Array Bool) (w : World), CloL md ops l → l.getD i true = false → Ph st Sy Sp l w → Sy w ∧ Sp w := fun l w hc hl hS => by
    refine ⟨hS.1, hS.2 ?_⟩
    cases hs : l.getD st false with
    | false => rfl
    | true =>
      have h1 := clo_chain hc p st hch hs i hpi
      rcases Nat.lt_or_ge i l.size with h' | h'
      · simp [h'] at hl h1; rw [hl] at h1; cases h1
      · simp [Array.getElem?_eq_none h'] at hl
  have same : ∀ (l : Array Bool) (w : World), Ph st Sy Sp (l.setIfInBounds i true) w ↔ Ph st Sy Sp l w := fun l w => by
    unfold Ph
    rw [getD_set_ne false hist]
  intro fuel
  induction fuel with
  | zero =>
    intro l a w hc _ hr hy hS H
    have h0 := (mem_ready.1 hr).1
    refine ⟨fun h => (by rw [h] at hr; cases hr), fun j hj => ?_⟩
    by_cases hji : j = i
    · subst hji; exact hy.wpOp hi (both l w hc h0 hS) ⟨(same l w).2 hS, H⟩
    · have := ready_mono hj hji
      rw [H.1] at this
      cases this
  | succ fuel ih =>
    intro l a w hc hfree hr hy hS H
    have h0 := (mem_ready.1 hr).1
    refine ⟨fun h => (by rw [h] at hr; cases hr), fun j hj => ?_⟩
    by_cases hji : j = i
    · subst hji; exact hy.wpOp hi (both l w hc h0 hS) ⟨(same l w).2 hS, H⟩
    · have h1 := H.2 j (ready_mono hj hji)
      obtain ⟨hjun, oj, hoj, hall⟩ := mem_ready.1 hj
      have hnot : ∀ e ∈ oj.after, Region.binds md e = true → e.on ≠ i := fun e he hb heq => by
        have h1 := hall e he hb
        rw [heq] at h1
        rcases Nat.lt_or_ge i l.size with h' | h'
        · simp [h'] at h0 h1; rw [h0] at h1; cases h1
        · simp [Array.getElem?_eq_none h'] at h1
      have h2 := wpOp_putIf hoj (hfree j oj hoj hji hjun hnot) (fun cs b => hsel i oi cs b hi) (fun cs b => hsel j oj cs b hoj) hQ hy h1
      refine wpOp_mono (fun a' w' h3 => ?_) h2
      obtain ⟨h3, h4, h5⟩ := h3
      rw [Array.setIfInBounds_comm _ _ (Ne.symm hji)] at h4 h5
      have h6 := (same (l.setIfInBounds j true) w').1 h4
      refine ⟨h6, ih (l.setIfInBounds j true) a' w' (clo_set hc hj) ?_ (ready_mono hr (Ne.symm hji)) h3 h6 h5⟩
      intro k ok hk hki hun hno
      refine hfree k ok hk hki ?_ hno
      by_cases hjk : j = k
      · subst hjk; exact hjun
      · rw [getD_set_ne true hjk] at hun; exact hun
theorem G_take {i : Nat} {oi : Oper} {v : Value} {fuel : Nat} {l : Array Bool} {a : Act} {w : World} (p : List Nat) (hi : ops[i]? = some oi) (hch : (chainB md ops st p && p.contains i && !(i == st) && Region.noSelect ops && Region.free md ops l i && (Region.ready md ops l).contains i && cloB md ops l) = true)
    (hQ : ∀ c a w, Q (.panic c) (a.put oi.dst v) w → Q (.panic c) a w) (hy : YieldsIf P ops (fun W => Sy W ∧ Sp W) oi v a) (hS : Ph st Sy Sp l w)
    (h : wpAnyG P md ops Q st Sy Sp fuel (l.setIfInBounds i true) (a.put oi.dst v) w) : wpAnyG P md ops Q st Sy Sp (fuel + 1) l a w := by
  simp only [Bool.and_eq_true] at hch
  obtain ⟨⟨⟨⟨⟨⟨h1, h2⟩, h3⟩, h4⟩, h5⟩, h6⟩, h7⟩ := hch
  exact G_first h1 (by simpa using h2) (by simpa using h3) hi (Region.noSelect_spec h4) hQ fuel l a w (clo_of h7) (Region.free_spec hi h5) (by simpa using h6) hy hS h
theorem G_one {i : Nat} {o : Oper} {fuel : Nat} {l : Array Bool} {a : Act} {w : World} (hr : Region.ready md ops l = [i]) (ho : ops[i]? = some o)
    (h : ∀ K' : Act → World → Prop, Shut (∀ a w, Ph st Sy Sp (l.setIfInBounds i true) w → wpAnyG P md ops Q st Sy Sp fuel (l.setIfInBounds i true) a w → K' a w) → if Region.wanted o (yielded ops a.tmps) = true then Oper.wp P o a w K' Q else K' (a.put o.dst undef) w) : wpAnyG P md ops Q st Sy Sp (fuel + 1) l a w := by
  refine ⟨fun h0 => (by rw [hr] at h0; cases h0), fun j hj => ?_⟩
  rw [hr] at hj
  have : j = i := by simpa using hj
  subst this
  exact wpOp_step ho (fun K' hK => h K' (fun a w hS hW => hK a w ⟨hS, hW⟩))
theorem G_done {l : Array Bool} {a : Act} {w : World} (hr : Region.ready md ops l = []) (h : Q .normal a w) : ∀ fuel, wpAnyG P md ops Q st Sy Sp fuel l a w
  | 0 => ⟨hr, h⟩
  | _ + 1 => ⟨fun _ => h, by rw [hr]; simp⟩
theorem region_G {id : Nat} {a : Act} {w : World} (st : Nat) (Sy Sp : World → Prop) (hm : P.follows .mixedOrders = true)
    (h : wpAnyG P .any ops Q st Sy Sp ops.size (Array.replicate ops.size false) a w.drew) : (Code.region id ops true).wp P Q a w :=
  wp_region_any hm (any_of_G _ _ _ _ h)
end
end Go.Proofs.YteajlfgbmefncaaGreatDoor
