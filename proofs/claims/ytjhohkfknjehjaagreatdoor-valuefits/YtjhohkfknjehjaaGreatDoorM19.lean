/-
  Assertions on values: what they tell. Nothing is proved of the program here.
  The two tables of the library that the row lists, as the word of this seat. Nothing is proved of the program here.
  The walks over the program's fitsKind, fitsField and fitsMessage.
-/
import Derived.Test.YtjhohkfknjehjaaGreatDoorM12
import Derived.Test.YtjhohkfknjehjaaGreatDoorM15
import Derived.Below
import Derived.Test.YtjhohkfknjehjaaGreatDoorM18
namespace Go.Proofs.YtjhohkfknjehjaaGreatDoor
set_option linter.unusedVariables false
open Go.ChangeShapes Go.WideShapes Go.ChangeAt Go.RowKit

theorem ta_hit {P : Program} (T X : TypeId) (d : TypeDesc) (v : Value) (W : World) (hu : P.underlying T = some d) (hd : ∀ m, d ≠ .interface m) : (Instr.typeAssert (.iface T v) X T true).run P W = .ok (.tuple #[v, .bool true]) W := by
  cases d <;> first | (exact absurd rfl (hd _)) | simp [Instr.typeAssert, run_underlying hu]
theorem ta_miss {P : Program} (T U X : TypeId) (d : TypeDesc) (v z : Value) (W : World) (hu : P.underlying T = some d) (hd : ∀ m, d ≠ .interface m) (hU : U ≠ T) (hz : (P.info? T).map (fun i => i.zero) = some (some z)) : (Instr.typeAssert (.iface U v) X T true).run P W = .ok (.tuple #[z, .bool false]) W := by
  obtain ⟨i, hi, hz⟩ := Option.map_eq_some_iff.1 hz
  cases d <;> first | (exact absurd rfl (hd _)) | simp [Instr.typeAssert, run_underlying hu, hU, zeroValue, typeInfo, hi, hz]
theorem ta_nil {P : Program} (T X : TypeId) (d : TypeDesc) (z : Value) (W : World) (hu : P.underlying T = some d) (hd : ∀ m, d ≠ .interface m) (hz : (P.info? T).map (fun i => i.zero) = some (some z)) : (Instr.typeAssert .nilIface X T true).run P W = .ok (.tuple #[z, .bool false]) W := by
  obtain ⟨i, hi, hz⟩ := Option.map_eq_some_iff.1 hz
  cases d <;> first | (exact absurd rfl (hd _)) | simp [Instr.typeAssert, run_underlying hu, zeroValue, typeInfo, hi, hz]
/-- a value's kind is asked by its type -/
theorem ta_any (K : Int) (T : TypeId) (d : TypeDesc) (z : Value) (inn : Nd → Value → Value) (y : Nd) (fs : Value) (hu : Tryz.prog.underlying T = some d) (hd : ∀ m, d ≠ .interface m) (hz : (Tryz.prog.info? T).map (fun i => i.zero) = some (some z))
    (hit : ∀ y fs, y.kind = K → ival y fs = .iface T (inn y fs)) (miss : ∀ y fs, y.kind ≠ K → (∃ U v, ival y fs = .iface U v ∧ U ≠ T) ∨ ival y fs = .nilIface) (W : World) :
    (Instr.typeAssert (ival y fs) 35 T true).run Tryz.prog W = .ok (.tuple #[if y.kind = K then inn y fs else z, .bool (decide (y.kind = K))]) W := by
  by_cases h : y.kind = K
  · rw [if_pos h, decide_eq_true h, hit y fs h]; exact ta_hit T _ d _ W hu hd
  · rw [if_neg h, decide_eq_false h]
    rcases miss y fs h with ⟨U, v, e, hU⟩ | e
    · rw [e]; exact ta_miss T U _ d _ z W hu hd hU hz
    · rw [e]; exact ta_nil T _ d z W hu hd hz
theorem ival_cases (y : Nd) (fs : Value) : (y.kind = 1 ∧ ival y fs = .iface 57 (.int .i64 y.n)) ∨ (y.kind = 2 ∧ ival y fs = .iface 52 (.int .u64 y.u)) ∨ (y.kind = 3 ∧ ival y fs = .iface 58 (.bool y.b)) ∨ (y.kind = 4 ∧ ival y fs = .iface 59 (.string (mkB y.s))) ∨
    (y.kind = 5 ∧ ival y fs = .iface 60 (.string (mkB y.s))) ∨ (y.kind = 6 ∧ ival y fs = .iface 61 (.int .i32 (IntKind.i32.wrap y.n))) ∨ (y.kind = 7 ∧ ival y fs = .iface 51 (.agg #[.int .i64 y.type, fs, .string (mkB y.s)])) ∨ ((y.kind < 1 ∨ 7 < y.kind) ∧ ival y fs = .nilIface) := by
  unfold ival
  by_cases h1 : y.kind = 1
  · left; rw [if_pos h1]; exact ⟨h1, rfl⟩
  by_cases h2 : y.kind = 2
  · right; left; rw [if_neg h1, if_pos h2]; exact ⟨h2, rfl⟩
  by_cases h3 : y.kind = 3
  · right; right; left; rw [if_neg h1, if_neg h2, if_pos h3]; exact ⟨h3, rfl⟩
  by_cases h4 : y.kind = 4
  · right; right; right; left; rw [if_neg h1, if_neg h2, if_neg h3, if_pos h4]; exact ⟨h4, rfl⟩
  by_cases h5 : y.kind = 5
  · right; right; right; right; left; rw [if_neg h1, if_neg h2, if_neg h3, if_neg h4, if_pos h5]; exact ⟨h5, rfl⟩
  by_cases h6 : y.kind = 6
  · right; right; right; right; right; left; rw [if_neg h1, if_neg h2, if_neg h3, if_neg h4, if_neg h5, if_pos h6]; exact ⟨h6, rfl⟩
  by_cases h7 : y.kind = 7
  · right; right; right; right; right; right; left; rw [if_neg h1, if_neg h2, if_neg h3, if_neg h4, if_neg h5, if_neg h6, if_pos h7]; exact ⟨h7, rfl⟩
  · right; right; right; right; right; right; right; rw [if_neg h1, if_neg h2, if_neg h3, if_neg h4, if_neg h5, if_neg h6, if_neg h7]; exact ⟨by omega, rfl⟩
theorem taInt (y : Nd) (fs : Value) (W : World) : (Instr.typeAssert (ival y fs) 35 57 true).run Tryz.prog W = .ok (.tuple #[if y.kind = 1 then .int .i64 y.n else .int .i64 0, .bool (decide (y.kind = 1))]) W :=
  ta_any 1 57 (.int .i64) (.int .i64 0) (fun y _ => .int .i64 y.n) y fs (by kernel_rfl) (fun m h => by cases h) (by kernel_rfl)
    (fun y fs h => by rcases ival_cases y fs with ⟨k, e⟩ | ⟨k, e⟩ | ⟨k, e⟩ | ⟨k, e⟩ | ⟨k, e⟩ | ⟨k, e⟩ | ⟨k, e⟩ | ⟨k, e⟩ <;> first | exact e | omega)
    (fun y fs h => by rcases ival_cases y fs with ⟨k, e⟩ | ⟨k, e⟩ | ⟨k, e⟩ | ⟨k, e⟩ | ⟨k, e⟩ | ⟨k, e⟩ | ⟨k, e⟩ | ⟨k, e⟩ <;> first | exact absurd k h | exact .inl ⟨_, _, e, by decide⟩ | exact .inr e) W
theorem taUint (y : Nd) (fs : Value) (W : World) : (Instr.typeAssert (ival y fs) 35 52 true).run Tryz.prog W = .ok (.tuple #[if y.kind = 2 then .int .u64 y.u else .int .u64 0, .bool (decide (y.kind = 2))]) W :=
  ta_any 2 52 (.int .u64) (.int .u64 0) (fun y _ => .int .u64 y.u) y fs (by kernel_rfl) (fun m h => by cases h) (by kernel_rfl)
    (fun y fs h => by rcases ival_cases y fs with ⟨k, e⟩ | ⟨k, e⟩ | ⟨k, e⟩ | ⟨k, e⟩ | ⟨k, e⟩ | ⟨k, e⟩ | ⟨k, e⟩ | ⟨k, e⟩ <;> first | exact e | omega)
    (fun y fs h => by rcases ival_cases y fs with ⟨k, e⟩ | ⟨k, e⟩ | ⟨k, e⟩ | ⟨k, e⟩ | ⟨k, e⟩ | ⟨k, e⟩ | ⟨k, e⟩ | ⟨k, e⟩ <;> first | exact absurd k h | exact .inl ⟨_, _, e, by decide⟩ | exact .inr e) W
theorem taBool (y : Nd) (fs : Value) (W : World) : (Instr.typeAssert (ival y fs) 35 58 true).run Tryz.prog W = .ok (.tuple #[if y.kind = 3 then .bool y.b else .bool false, .bool (decide (y.kind = 3))]) W :=
  ta_any 3 58 (.bool) (.bool false) (fun y _ => .bool y.b) y fs (by kernel_rfl) (fun m h => by cases h) (by kernel_rfl)
    (fun y fs h => by rcases ival_cases y fs with ⟨k, e⟩ | ⟨k, e⟩ | ⟨k, e⟩ | ⟨k, e⟩ | ⟨k, e⟩ | ⟨k, e⟩ | ⟨k, e⟩ | ⟨k, e⟩ <;> first | exact e | omega)
    (fun y fs h => by rcases ival_cases y fs with ⟨k, e⟩ | ⟨k, e⟩ | ⟨k, e⟩ | ⟨k, e⟩ | ⟨k, e⟩ | ⟨k, e⟩ | ⟨k, e⟩ | ⟨k, e⟩ <;> first | exact absurd k h | exact .inl ⟨_, _, e, by decide⟩ | exact .inr e) W
theorem taText (y : Nd) (fs : Value) (W : World) : (Instr.typeAssert (ival y fs) 35 59 true).run Tryz.prog W = .ok (.tuple #[if y.kind = 4 then .string (mkB y.s) else .string ⟨#[]⟩, .bool (decide (y.kind = 4))]) W :=
  ta_any 4 59 (.string) (.string ⟨#[]⟩) (fun y _ => .string (mkB y.s)) y fs (by kernel_rfl) (fun m h => by cases h) (by kernel_rfl)
    (fun y fs h => by rcases ival_cases y fs with ⟨k, e⟩ | ⟨k, e⟩ | ⟨k, e⟩ | ⟨k, e⟩ | ⟨k, e⟩ | ⟨k, e⟩ | ⟨k, e⟩ | ⟨k, e⟩ <;> first | exact e | omega)
    (fun y fs h => by rcases ival_cases y fs with ⟨k, e⟩ | ⟨k, e⟩ | ⟨k, e⟩ | ⟨k, e⟩ | ⟨k, e⟩ | ⟨k, e⟩ | ⟨k, e⟩ | ⟨k, e⟩ <;> first | exact absurd k h | exact .inl ⟨_, _, e, by decide⟩ | exact .inr e) W
theorem taBytes (y : Nd) (fs : Value) (W : World) : (Instr.typeAssert (ival y fs) 35 60 true).run Tryz.prog W = .ok (.tuple #[if y.kind = 5 then .string (mkB y.s) else .string ⟨#[]⟩, .bool (decide (y.kind = 5))]) W :=
  ta_any 5 60 (.string) (.string ⟨#[]⟩) (fun y _ => .string (mkB y.s)) y fs (by kernel_rfl) (fun m h => by cases h) (by kernel_rfl)
    (fun y fs h => by rcases ival_cases y fs with ⟨k, e⟩ | ⟨k, e⟩ | ⟨k, e⟩ | ⟨k, e⟩ | ⟨k, e⟩ | ⟨k, e⟩ | ⟨k, e⟩ | ⟨k, e⟩ <;> first | exact e | omega)
    (fun y fs h => by rcases ival_cases y fs with ⟨k, e⟩ | ⟨k, e⟩ | ⟨k, e⟩ | ⟨k, e⟩ | ⟨k, e⟩ | ⟨k, e⟩ | ⟨k, e⟩ | ⟨k, e⟩ <;> first | exact absurd k h | exact .inl ⟨_, _, e, by decide⟩ | exact .inr e) W
theorem taEnum (y : Nd) (fs : Value) (W : World) : (Instr.typeAssert (ival y fs) 35 61 true).run Tryz.prog W = .ok (.tuple #[if y.kind = 6 then .int .i32 (IntKind.i32.wrap y.n) else .int .i32 0, .bool (decide (y.kind = 6))]) W :=
  ta_any 6 61 (.int .i32) (.int .i32 0) (fun y _ => .int .i32 (IntKind.i32.wrap y.n)) y fs (by kernel_rfl) (fun m h => by cases h) (by kernel_rfl)
    (fun y fs h => by rcases ival_cases y fs with ⟨k, e⟩ | ⟨k, e⟩ | ⟨k, e⟩ | ⟨k, e⟩ | ⟨k, e⟩ | ⟨k, e⟩ | ⟨k, e⟩ | ⟨k, e⟩ <;> first | exact e | omega)
    (fun y fs h => by rcases ival_cases y fs with ⟨k, e⟩ | ⟨k, e⟩ | ⟨k, e⟩ | ⟨k, e⟩ | ⟨k, e⟩ | ⟨k, e⟩ | ⟨k, e⟩ | ⟨k, e⟩ <;> first | exact absurd k h | exact .inl ⟨_, _, e, by decide⟩ | exact .inr e) W
theorem taMessage (y : Nd) (fs : Value) (W : World) : (Instr.typeAssert (ival y fs) 35 51 true).run Tryz.prog W = .ok (.tuple #[if y.kind = 7 then .agg #[.int .i64 y.type, fs, .string (mkB y.s)] else .agg #[.int .i64 0, .slice none 0 0, .string ⟨#[]⟩], .bool (decide (y.kind = 7))]) W :=
  ta_any 7 51 _ (.agg #[.int .i64 0, .slice none 0 0, .string ⟨#[]⟩]) (fun y fs => .agg #[.int .i64 y.type, fs, .string (mkB y.s)]) y fs Tryz.underlying51 (fun m h => by cases h) (by kernel_rfl)
    (fun y fs h => by rcases ival_cases y fs with ⟨k, e⟩ | ⟨k, e⟩ | ⟨k, e⟩ | ⟨k, e⟩ | ⟨k, e⟩ | ⟨k, e⟩ | ⟨k, e⟩ | ⟨k, e⟩ <;> first | exact e | omega)
    (fun y fs h => by rcases ival_cases y fs with ⟨k, e⟩ | ⟨k, e⟩ | ⟨k, e⟩ | ⟨k, e⟩ | ⟨k, e⟩ | ⟨k, e⟩ | ⟨k, e⟩ | ⟨k, e⟩ <;> first | exact absurd k h | exact .inl ⟨_, _, e, by decide⟩ | exact .inr e) W
end Go.Proofs.YtjhohkfknjehjaaGreatDoor
namespace Go.Proofs.YtjhohkfknjehjaaGreatDoor
/-- the library's two tables lie in the world -/
def Tabs (w : World) : Prop := Lib.Utf8Tabs (lays196_ren.g 3) (lays196_ren.g 4) w
theorem tabs_below {w w' : World} (h : Tabs w) (hb : RowKit.Below w.heap.size w w') : Tabs w' := Utf8Tabs_below h hb
end Go.Proofs.YtjhohkfknjehjaaGreatDoor
namespace Go.Proofs.YtjhohkfknjehjaaGreatDoor
set_option linter.unusedVariables false
open Go.ChangeShapes Go.WideShapes Go.ChangeAt Go.RowKit

theorem valid_at (l : List UInt8) (w : World) (hl : l.length ≤ 1000000) (hT : Tabs w) : Calls Tryz.prog 44 #[.string (mkB l)] w fun e w' => e = .returned (.bool (valB l)) ∧ Below w.heap.size w w' := by
  have h := utf8_ValidString (mkB l) w (by rw [mkB_size]; omega) hT
  have hd : (mkB l).data.toList = l := by simp [mkB]
  rw [hd] at h
  exact h
set_option maxHeartbeats 16000000 in
set_option maxRecDepth 20000 in
theorem kindP_any (ma ea ta : Option Addr) (nm ne nt mc ec tc : Nat) (rec : Int → Nd → Bool) (x : FD) (dep : Int) (v : Value) (y : Nd) (w : World) (hT : Tabs w) (hdep : 0 ≤ dep ∧ dep ≤ 1000) (hs : y.s.length ≤ 100000) (hV : ∃ fs, v = ival y fs)
    (hrec : x.kind = 10 → ∀ W, Below w.heap.size w W → Calls Tryz.prog 20 #[.agg #[.slice ma nm mc, .slice ea ne ec, .slice ta nt tc], .int .i64 x.type, v, .int .i64 (dep + 1)] W fun e w' => e = .returned (.bool (rec x.type y)) ∧ Below W.heap.size W w') :
    Calls Tryz.prog 61 #[.agg #[.slice ma nm mc, .slice ea ne ec, .slice ta nt tc], .agg #[.int .i64 x.num, .string (mkB x.name), .int .i64 x.kind, .bool x.rep, .int .i64 x.type], v, .int .i64 dep] w fun e w' => e = .returned (.bool (valP rec x y)) ∧ Below w.heap.size w w' := by
  obtain ⟨num, name, kind, rep, type⟩ := x
  dsimp only at hrec ⊢
  obtain ⟨R, hR⟩ : ∃ R, valP rec ⟨num, name, kind, rep, type⟩ y = R := ⟨_, rfl⟩
  have HR : Hid ((if kind = 10 then rec type y else kindB kind y) = R) := hR
  rw [hR]
  clear hR
  obtain ⟨fs, rfl⟩ := hV
  have t1 := fun W => taInt y fs W
  have t2 := fun W => taUint y fs W
  have t3 := fun W => taBool y fs W
  have t4 := fun W => taText y fs W
  have t5 := fun W => taBytes y fs W
  have t6 := fun W => taEnum y fs W
  generalize ival y fs = v at *
  obtain ⟨Y, hY, hC, hb, hYs⟩ := box_new w #[.slice ma nm mc, .slice ea ne ec, .slice ta nt tc] 26
  obtain ⟨V, hV, hD, hVb, hVs⟩ := box_new Y #[.int .i64 num, .string (mkB name), .int .i64 kind, .bool rep, .int .i64 type] 73
  have HY := Lib.hid hY
  have HV := Lib.hid hV
  rw [hYs] at hD
  have hCV := (hVb.block _ (by omega)).trans hC
  have hBV := hb.trans (hVb.mono hb.size)
  have HBV := Lib.hid hBV
  have c2 : V.cell? ⟨w.heap.size + 1, 2, none⟩ = some (.int .i64 kind) := cell_at hD 2 rfl
  by_cases h1 : kind = 1
  · subst h1
    have e : R = decide (y.kind = 1) := by rw [← HR.out, if_neg (by decide)]; simp [kindB]
    subst e
    have t1' : ∃ z, ∀ W, (Instr.typeAssert v 35 57 true).run Tryz.prog W = .ok (.tuple #[z, .bool (decide (y.kind = 1))]) W := ⟨_, t1⟩
    clear t1
    obtain ⟨z, t1⟩ := t1'
    generalize decide (y.kind = 1) = b at t1 ⊢
    clear hrec HR t2 t3 t4 t5 t6 hC hD hY hb hYs hV hVb hVs hCV hBV
    go_enter Tryz.func61, Tryz.ntmps61
    go_upto_region 1 with fail
    rw [HY.out, HV.out]
    go_wp2_with fail
    go_ret
    exact ⟨rfl, HBV.out⟩
  by_cases h3 : kind = 3
  · subst h3
    have e : R = decide (y.kind = 1) := by rw [← HR.out, if_neg (by decide)]; simp [kindB]
    subst e
    have t1' : ∃ z, ∀ W, (Instr.typeAssert v 35 57 true).run Tryz.prog W = .ok (.tuple #[z, .bool (decide (y.kind = 1))]) W := ⟨_, t1⟩
    clear t1
    obtain ⟨z, t1⟩ := t1'
    generalize decide (y.kind = 1) = b at t1 ⊢
    clear hrec HR t2 t3 t4 t5 t6 hC hD hY hb hYs hV hVb hVs hCV hBV
    go_enter Tryz.func61, Tryz.ntmps61
    go_upto_region 1 with fail
    rw [HY.out, HV.out]
    go_wp2_with fail
    go_ret
    exact ⟨rfl, HBV.out⟩
  by_cases h2 : kind = 2
  · subst h2
    have e : R = decide (y.kind = 2) := by rw [← HR.out, if_neg (by decide)]; simp [kindB]
    subst e
    have t2' : ∃ z, ∀ W, (Instr.typeAssert v 35 52 true).run Tryz.prog W = .ok (.tuple #[z, .bool (decide (y.kind = 2))]) W := ⟨_, t2⟩
    clear t2
    obtain ⟨z, t2⟩ := t2'
    generalize decide (y.kind = 2) = b at t2 ⊢
    clear hrec HR t1 t3 t4 t5 t6 hC hD hY hb hYs hV hVb hVs hCV hBV
    go_enter Tryz.func61, Tryz.ntmps61
    go_upto_region 1 with fail
    rw [HY.out, HV.out]
    go_wp2_with fail
    go_ret
    exact ⟨rfl, HBV.out⟩
  by_cases h8 : kind = 8
  · subst h8
    have e : R = decide (y.kind = 2) := by rw [← HR.out, if_neg (by decide)]; simp [kindB]
    subst e
    have t2' : ∃ z, ∀ W, (Instr.typeAssert v 35 52 true).run Tryz.prog W = .ok (.tuple #[z, .bool (decide (y.kind = 2))]) W := ⟨_, t2⟩
    clear t2
    obtain ⟨z, t2⟩ := t2'
    generalize decide (y.kind = 2) = b at t2 ⊢
    clear hrec HR t1 t3 t4 t5 t6 hC hD hY hb hYs hV hVb hVs hCV hBV
    go_enter Tryz.func61, Tryz.ntmps61
    go_upto_region 1 with fail
    rw [HY.out, HV.out]
    go_wp2_with fail
    go_ret
    exact ⟨rfl, HBV.out⟩
  by_cases h4 : kind = 4
  · subst h4
    have e : R = decide (y.kind = 3) := by rw [← HR.out, if_neg (by decide)]; simp [kindB]
    subst e
    have t3' : ∃ z, ∀ W, (Instr.typeAssert v 35 58 true).run Tryz.prog W = .ok (.tuple #[z, .bool (decide (y.kind = 3))]) W := ⟨_, t3⟩
    clear t3
    obtain ⟨z, t3⟩ := t3'
    generalize decide (y.kind = 3) = b at t3 ⊢
    clear hrec HR t1 t2 t4 t5 t6 hC hD hY hb hYs hV hVb hVs hCV hBV
    go_enter Tryz.func61, Tryz.ntmps61
    go_upto_region 1 with fail
    rw [HY.out, HV.out]
    go_wp2_with fail
    go_ret
    exact ⟨rfl, HBV.out⟩
  by_cases h6 : kind = 6
  · subst h6
    have e : R = decide (y.kind = 5) := by rw [← HR.out, if_neg (by decide)]; simp [kindB]
    subst e
    have t5' : ∃ z, ∀ W, (Instr.typeAssert v 35 60 true).run Tryz.prog W = .ok (.tuple #[z, .bool (decide (y.kind = 5))]) W := ⟨_, t5⟩
    clear t5
    obtain ⟨z, t5⟩ := t5'
    generalize decide (y.kind = 5) = b at t5 ⊢
    clear hrec HR t1 t2 t3 t4 t6 hC hD hY hb hYs hV hVb hVs hCV hBV
    go_enter Tryz.func61, Tryz.ntmps61
    go_upto_region 1 with fail
    rw [HY.out, HV.out]
    go_wp2_with fail
    go_ret
    exact ⟨rfl, HBV.out⟩
  by_cases h9 : kind = 9
  · subst h9
    have e : R = decide (y.kind = 6) := by rw [← HR.out, if_neg (by decide)]; simp [kindB]
    subst e
    have t6' : ∃ z, ∀ W, (Instr.typeAssert v 35 61 true).run Tryz.prog W = .ok (.tuple #[z, .bool (decide (y.kind = 6))]) W := ⟨_, t6⟩
    clear t6
    obtain ⟨z, t6⟩ := t6'
    generalize decide (y.kind = 6) = b at t6 ⊢
    clear hrec HR t1 t2 t3 t4 t5 hC hD hY hb hYs hV hVb hVs hCV hBV
    go_enter Tryz.func61, Tryz.ntmps61
    go_upto_region 1 with fail
    rw [HY.out, HV.out]
    go_wp2_with fail
    go_ret
    exact ⟨rfl, HBV.out⟩
  by_cases h7 : kind = 7
  · subst h7
    by_cases hk : y.kind = 2
    · have e : R = decide (y.u < 4294967296) := by rw [← HR.out, if_neg (by decide)]; simp [kindB, hk]
      rw [e]
      rw [if_pos hk, decide_eq_true hk] at t2
      clear hrec HR t1 t3 t4 t5 t6 hC hD hY hb hYs hV hVb hVs hCV hBV e hk
      generalize y.u = u at *
      go_enter Tryz.func61, Tryz.ntmps61
      go_upto_region 1 with fail
      rw [HY.out, HV.out]
      go_wp2_with fail
      go_ret
      exact ⟨rfl, HBV.out⟩
    · have e : R = false := by rw [← HR.out, if_neg (by decide)]; simp [kindB, hk]
      subst e
      rw [if_neg hk, decide_eq_false hk] at t2
      clear hrec HR t1 t3 t4 t5 t6 hC hD hY hb hYs hV hVb hVs hCV hBV hk
      go_enter Tryz.func61, Tryz.ntmps61
      go_upto_region 1 with fail
      rw [HY.out, HV.out]
      go_wp2_with fail
      go_ret
      exact ⟨rfl, HBV.out⟩
  by_cases h5 : kind = 5
  · subst h5
    by_cases hk : y.kind = 4
    · have e : R = valB y.s := by rw [← HR.out, if_neg (by decide)]; simp [kindB, hk]
      rw [e]
      rw [if_pos hk, decide_eq_true hk] at t4
      have hva := valid_at y.s V (by omega) (tabs_below hT hBV)
      clear hrec HR t1 t2 t3 t5 t6 hC hD hY hb hYs hV hVb hVs hCV hBV e hk
      generalize valB y.s = B at *
      go_enter Tryz.func61, Tryz.ntmps61
      go_upto_region 1 with fail
      rw [HY.out, HV.out]
      go_wp2_with fail
      refine hva.mono ?_
      rintro e W ⟨rfl, hbW⟩
      have HBW := Lib.hid (HBV.out.trans (hbW.mono HBV.out.size))
      clear hbW hva
      go_wp2_with fail
      go_ret
      exact ⟨rfl, HBW.out⟩
    · have e : R = false := by rw [← HR.out, if_neg (by decide)]; simp [kindB, hk]
      subst e
      rw [if_neg hk, decide_eq_false hk] at t4
      clear hrec HR t1 t2 t3 t5 t6 hC hD hY hb hYs hV hVb hVs hCV hBV hk
      go_enter Tryz.func61, Tryz.ntmps61
      go_upto_region 1 with fail
      rw [HY.out, HV.out]
      go_wp2_with fail
      go_ret
      exact ⟨rfl, HBV.out⟩
  by_cases h10 : kind = 10
  · subst h10
    have e : R = rec type y := by rw [← HR.out, if_pos rfl]
    rw [e]
    have h := hrec rfl V hBV
    have s0 : V.cell? ⟨w.heap.size, 0, none⟩ = some (.slice ma nm mc) := cell_at hCV 0 rfl
    have s1 : V.cell? ⟨w.heap.size, 1, none⟩ = some (.slice ea ne ec) := cell_at hCV 1 rfl
    have s2 : V.cell? ⟨w.heap.size, 2, none⟩ = some (.slice ta nt tc) := cell_at hCV 2 rfl
    have c4 : V.cell? ⟨w.heap.size + 1, 4, none⟩ = some (.int .i64 type) := cell_at hD 4 rfl
    have hw1 : IntKind.i64.wrap (dep + 1) = dep + 1 := by rw [IntKind.wrap_i64]; omega
    clear hrec HR t1 t2 t3 t4 t5 t6 hC hD hY hb hYs hV hVb hVs hCV hBV e
    generalize rec type y = B at *
    go_enter Tryz.func61, Tryz.ntmps61
    go_upto_region 1 with fail
    rw [HY.out, HV.out]
    go_wp2_with fail
    refine h.mono ?_
    rintro e W ⟨rfl, hbW⟩
    have HBW := Lib.hid (HBV.out.trans (hbW.mono HBV.out.size))
    clear hbW h
    go_wp2_with fail
    go_ret
    exact ⟨rfl, HBW.out⟩
  have e : R = false := by
    rw [← HR.out, if_neg h10]; unfold kindB
    rw [if_neg (by omega), if_neg (by omega), if_neg h7, if_neg h4, if_neg h5, if_neg h6, if_neg h9]
  subst e
  clear hrec HR t1 t2 t3 t4 t5 t6 hC hD hY hb hYs hV hVb hVs hCV hBV
  go_enter Tryz.func61, Tryz.ntmps61
  go_upto_region 1 with fail
  rw [HY.out, HV.out]
  go_wp2_with fail
  go_ret
  exact ⟨rfl, HBV.out⟩
end Go.Proofs.YtjhohkfknjehjaaGreatDoor
