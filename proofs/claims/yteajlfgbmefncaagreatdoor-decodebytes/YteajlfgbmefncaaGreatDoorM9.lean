/-
  Assertions on values: what they tell. Nothing is proved of the program here.
  The walks over the program's Formed and over the statements' own turning of fields: Formed says just what the document's does; a turned field is the same field. They make new memory alone.
  What the library functions that this program calls answer, as theorems over this translation: each is one application of a theorem of the given library. Nothing is proved of the program itself here.
  The walk over the document's own Small of schemas.
-/
import Derived.Test.YteajlfgbmefncaaGreatDoorM7
import Derived.Test.YteajlfgbmefncaaGreatDoorM2
import Derived.Handy
import Derived.Shelf.Unicode.ValidAny
import Derived.Ground.NamesProg
import Derived.Shelf.LaysM
import Derived.Test.YteajlfgbmefncaaGreatDoorProg
namespace Go.Proofs.YteajlfgbmefncaaGreatDoor
set_option linter.unusedVariables false
open Go.ChangeShapes Go.WideShapes Go.ChangeAt Go.RowKit

theorem ta_hit {P : Program} (T X : TypeId) (d : TypeDesc) (v : Value) (W : World) (hu : P.underlying T = some d) (hd : ∀ m, d ≠ .interface m) : (Instr.typeAssert (.iface T v) X T true).run P W = .ok (.tuple #[v, .bool true]) W := by
  cases d <;> first | (exact absurd rfl (hd _)) | simp [Instr.typeAssert, run_underlying hu]
theorem ta_miss {P : Program} (T U X : TypeId) (d : TypeDesc) (v z : Value) (W : World) (hu : P.underlying T = some d) (hd : ∀ m, d ≠ .interface m) (hU : U ≠ T) (hz : (P.info? T).map (fun i => i.zero) = some (some z)) : (Instr.typeAssert (.iface U v) X T true).run P W = .ok (.tuple #[z, .bool false]) W := by
  obtain ⟨i, hi, hz⟩ := Option.map_eq_some_iff.1 hz
  cases d <;> first | (exact absurd rfl (hd _)) | simp [Instr.typeAssert, run_underlying hu, hU, zeroValue, typeInfo, hi, hz]
theorem ta_nil {P : Program} (T X : TypeId) (d : TypeDesc) (z : Value) (W : World) (hu : P.underlying T = some d) (hd : ∀ m, d ≠ .interface m) (hz : (P.info? T).map (fun i => i.zero) = some (some z)) : (Instr.typeAssert .nilIface X T true).run P W = .ok (.tuple #[z, .bool false]) W := by
  obtain ⟨i, hi, hz⟩ := Option.map_eq_some_iff.1 hz
  cases d <;> first | (exact absurd rfl (hd _)) | simp [Instr.typeAssert, run_underlying hu, zeroValue, typeInfo, hi, hz]
/-- a value's kind is asked by its type -/
theorem ta_any (K : Int) (T : TypeId) (d : TypeDesc) (z : Value) (inn : Nd → Value → Value) (y : Nd) (fs : Value) (hu : Tryz.prog.underlying T = some d) (hd : ∀ m, d ≠ .interface m) (hz : (Tryz.prog.info? T).map (fun i => i.zero) = some (some z))
    (hit : ∀ y fs, y.kind = K → ival y fs = .iface T (inn y fs)) (miss : ∀ y fs, y.kind ≠ K → (∃ U v, ival y fs = .iface U v ∧ U ≠ T) ∨ ival y fs = .nilIface) (W : World) :
    (Instr.typeAssert (ival y fs) 31 T true).run Tryz.prog W = .ok (.tuple #[if y.kind = K then inn y fs else z, .bool (decide (y.kind = K))]) W := by
  by_cases h : y.kind = K
  · rw [if_pos h, decide_eq_true h, hit y fs h]; exact ta_hit T _ d _ W hu hd
  · rw [if_neg h, decide_eq_false h]
    rcases miss y fs h with ⟨U, v, e, hU⟩ | e
    · rw [e]; exact ta_miss T U _ d _ z W hu hd hU hz
    · rw [e]; exact ta_nil T _ d z W hu hd hz
theorem ival_cases (y : Nd) (fs : Value) : (y.kind = 1 ∧ ival y fs = .iface 68 (.int .i64 y.n)) ∨ (y.kind = 2 ∧ ival y fs = .iface 69 (.int .u64 y.u)) ∨ (y.kind = 3 ∧ ival y fs = .iface 70 (.bool y.b)) ∨ (y.kind = 4 ∧ ival y fs = .iface 71 (.string (mkB y.s))) ∨
    (y.kind = 5 ∧ ival y fs = .iface 72 (.string (mkB y.s))) ∨ (y.kind = 6 ∧ ival y fs = .iface 73 (.int .i32 (IntKind.i32.wrap y.n))) ∨ (y.kind = 7 ∧ ival y fs = .iface 76 (.agg #[.int .i64 y.type, fs, .string (mkB y.s)])) ∨ ((y.kind < 1 ∨ 7 < y.kind) ∧ ival y fs = .nilIface) := by
  unfold ival
  by_cases h1 : y.kind = 1
  · left; rw [if_pos h1]; exact ⟨h1, rfl⟩
  by_cases h2 : y.kind = 2
  · right; left; rw [if_neg h1, if_pos h2]; exact ⟨h2, rfl⟩
  by_cases h3 : y.kind = 3
  · right; right; left; rw [if_neg h1, if_neg h2, if_pos h3]; exact ⟨h3, rfl⟩
  by_cases h4 : y.kind = 4
  · right; right; right; left; rw [if_neg h1, if_neg h2, if_neg h3, if_pos h4]; exact ⟨h4, rfl⟩
  by_cases h5 : y.kind = 5
  · right; right; right; right; left; rw [if_neg h1, if_neg h2, if_neg h3, if_neg h4, if_pos h5]; exact ⟨h5, rfl⟩
  by_cases h6 : y.kind = 6
  · right; right; right; right; right; left; rw [if_neg h1, if_neg h2, if_neg h3, if_neg h4, if_neg h5, if_pos h6]; exact ⟨h6, rfl⟩
  by_cases h7 : y.kind = 7
  · right; right; right; right; right; right; left; rw [if_neg h1, if_neg h2, if_neg h3, if_neg h4, if_neg h5, if_neg h6, if_pos h7]; exact ⟨h7, rfl⟩
  · right; right; right; right; right; right; right; rw [if_neg h1, if_neg h2, if_neg h3, if_neg h4, if_neg h5, if_neg h6, if_neg h7]; exact ⟨by omega, rfl⟩
theorem taInt (y : Nd) (fs : Value) (W : World) : (Instr.typeAssert (ival y fs) 31 68 true).run Tryz.prog W = .ok (.tuple #[if y.kind = 1 then .int .i64 y.n else .int .i64 0, .bool (decide (y.kind = 1))]) W :=
  ta_any 1 68 (.int .i64) (.int .i64 0) (fun y _ => .int .i64 y.n) y fs (by kernel_rfl) (fun m h => by cases h) (by kernel_rfl)
    (fun y fs h => by rcases ival_cases y fs with ⟨k, e⟩ | ⟨k, e⟩ | ⟨k, e⟩ | ⟨k, e⟩ | ⟨k, e⟩ | ⟨k, e⟩ | ⟨k, e⟩ | ⟨k, e⟩ <;> first | exact e | omega)
    (fun y fs h => by rcases ival_cases y fs with ⟨k, e⟩ | ⟨k, e⟩ | ⟨k, e⟩ | ⟨k, e⟩ | ⟨k, e⟩ | ⟨k, e⟩ | ⟨k, e⟩ | ⟨k, e⟩ <;> first | exact absurd k h | exact .inl ⟨_, _, e, by decide⟩ | exact .inr e) W
theorem taUint (y : Nd) (fs : Value) (W : World) : (Instr.typeAssert (ival y fs) 31 69 true).run Tryz.prog W = .ok (.tuple #[if y.kind = 2 then .int .u64 y.u else .int .u64 0, .bool (decide (y.kind = 2))]) W :=
  ta_any 2 69 (.int .u64) (.int .u64 0) (fun y _ => .int .u64 y.u) y fs (by kernel_rfl) (fun m h => by cases h) (by kernel_rfl)
    (fun y fs h => by rcases ival_cases y fs with ⟨k, e⟩ | ⟨k, e⟩ | ⟨k, e⟩ | ⟨k, e⟩ | ⟨k, e⟩ | ⟨k, e⟩ | ⟨k, e⟩ | ⟨k, e⟩ <;> first | exact e | omega)
    (fun y fs h => by rcases ival_cases y fs with ⟨k, e⟩ | ⟨k, e⟩ | ⟨k, e⟩ | ⟨k, e⟩ | ⟨k, e⟩ | ⟨k, e⟩ | ⟨k, e⟩ | ⟨k, e⟩ <;> first | exact absurd k h | exact .inl ⟨_, _, e, by decide⟩ | exact .inr e) W
theorem taBool (y : Nd) (fs : Value) (W : World) : (Instr.typeAssert (ival y fs) 31 70 true).run Tryz.prog W = .ok (.tuple #[if y.kind = 3 then .bool y.b else .bool false, .bool (decide (y.kind = 3))]) W :=
  ta_any 3 70 (.bool) (.bool false) (fun y _ => .bool y.b) y fs (by kernel_rfl) (fun m h => by cases h) (by kernel_rfl)
    (fun y fs h => by rcases ival_cases y fs with ⟨k, e⟩ | ⟨k, e⟩ | ⟨k, e⟩ | ⟨k, e⟩ | ⟨k, e⟩ | ⟨k, e⟩ | ⟨k, e⟩ | ⟨k, e⟩ <;> first | exact e | omega)
    (fun y fs h => by rcases ival_cases y fs with ⟨k, e⟩ | ⟨k, e⟩ | ⟨k, e⟩ | ⟨k, e⟩ | ⟨k, e⟩ | ⟨k, e⟩ | ⟨k, e⟩ | ⟨k, e⟩ <;> first | exact absurd k h | exact .inl ⟨_, _, e, by decide⟩ | exact .inr e) W
theorem taText (y : Nd) (fs : Value) (W : World) : (Instr.typeAssert (ival y fs) 31 71 true).run Tryz.prog W = .ok (.tuple #[if y.kind = 4 then .string (mkB y.s) else .string ⟨#[]⟩, .bool (decide (y.kind = 4))]) W :=
  ta_any 4 71 (.string) (.string ⟨#[]⟩) (fun y _ => .string (mkB y.s)) y fs (by kernel_rfl) (fun m h => by cases h) (by kernel_rfl)
    (fun y fs h => by rcases ival_cases y fs with ⟨k, e⟩ | ⟨k, e⟩ | ⟨k, e⟩ | ⟨k, e⟩ | ⟨k, e⟩ | ⟨k, e⟩ | ⟨k, e⟩ | ⟨k, e⟩ <;> first | exact e | omega)
    (fun y fs h => by rcases ival_cases y fs with ⟨k, e⟩ | ⟨k, e⟩ | ⟨k, e⟩ | ⟨k, e⟩ | ⟨k, e⟩ | ⟨k, e⟩ | ⟨k, e⟩ | ⟨k, e⟩ <;> first | exact absurd k h | exact .inl ⟨_, _, e, by decide⟩ | exact .inr e) W
theorem taBytes (y : Nd) (fs : Value) (W : World) : (Instr.typeAssert (ival y fs) 31 72 true).run Tryz.prog W = .ok (.tuple #[if y.kind = 5 then .string (mkB y.s) else .string ⟨#[]⟩, .bool (decide (y.kind = 5))]) W :=
  ta_any 5 72 (.string) (.string ⟨#[]⟩) (fun y _ => .string (mkB y.s)) y fs (by kernel_rfl) (fun m h => by cases h) (by kernel_rfl)
    (fun y fs h => by rcases ival_cases y fs with ⟨k, e⟩ | ⟨k, e⟩ | ⟨k, e⟩ | ⟨k, e⟩ | ⟨k, e⟩ | ⟨k, e⟩ | ⟨k, e⟩ | ⟨k, e⟩ <;> first | exact e | omega)
    (fun y fs h => by rcases ival_cases y fs with ⟨k, e⟩ | ⟨k, e⟩ | ⟨k, e⟩ | ⟨k, e⟩ | ⟨k, e⟩ | ⟨k, e⟩ | ⟨k, e⟩ | ⟨k, e⟩ <;> first | exact absurd k h | exact .inl ⟨_, _, e, by decide⟩ | exact .inr e) W
theorem taEnum (y : Nd) (fs : Value) (W : World) : (Instr.typeAssert (ival y fs) 31 73 true).run Tryz.prog W = .ok (.tuple #[if y.kind = 6 then .int .i32 (IntKind.i32.wrap y.n) else .int .i32 0, .bool (decide (y.kind = 6))]) W :=
  ta_any 6 73 (.int .i32) (.int .i32 0) (fun y _ => .int .i32 (IntKind.i32.wrap y.n)) y fs (by kernel_rfl) (fun m h => by cases h) (by kernel_rfl)
    (fun y fs h => by rcases ival_cases y fs with ⟨k, e⟩ | ⟨k, e⟩ | ⟨k, e⟩ | ⟨k, e⟩ | ⟨k, e⟩ | ⟨k, e⟩ | ⟨k, e⟩ | ⟨k, e⟩ <;> first | exact e | omega)
    (fun y fs h => by rcases ival_cases y fs with ⟨k, e⟩ | ⟨k, e⟩ | ⟨k, e⟩ | ⟨k, e⟩ | ⟨k, e⟩ | ⟨k, e⟩ | ⟨k, e⟩ | ⟨k, e⟩ <;> first | exact absurd k h | exact .inl ⟨_, _, e, by decide⟩ | exact .inr e) W
theorem taMessage (y : Nd) (fs : Value) (W : World) : (Instr.typeAssert (ival y fs) 31 76 true).run Tryz.prog W = .ok (.tuple #[if y.kind = 7 then .agg #[.int .i64 y.type, fs, .string (mkB y.s)] else .agg #[.int .i64 0, .slice none 0 0, .string ⟨#[]⟩], .bool (decide (y.kind = 7))]) W :=
  ta_any 7 76 _ (.agg #[.int .i64 0, .slice none 0 0, .string ⟨#[]⟩]) (fun y fs => .agg #[.int .i64 y.type, fs, .string (mkB y.s)]) y fs Tryz.underlying76 (fun m h => by cases h) (by kernel_rfl)
    (fun y fs h => by rcases ival_cases y fs with ⟨k, e⟩ | ⟨k, e⟩ | ⟨k, e⟩ | ⟨k, e⟩ | ⟨k, e⟩ | ⟨k, e⟩ | ⟨k, e⟩ | ⟨k, e⟩ <;> first | exact e | omega)
    (fun y fs h => by rcases ival_cases y fs with ⟨k, e⟩ | ⟨k, e⟩ | ⟨k, e⟩ | ⟨k, e⟩ | ⟨k, e⟩ | ⟨k, e⟩ | ⟨k, e⟩ | ⟨k, e⟩ <;> first | exact absurd k h | exact .inl ⟨_, _, e, by decide⟩ | exact .inr e) W
end Go.Proofs.YteajlfgbmefncaaGreatDoor
namespace Go.Proofs.YteajlfgbmefncaaGreatDoor
set_option linter.unusedVariables false
open Go.ChangeShapes Go.WideShapes Go.ChangeAt Go.RowKit

set_option maxHeartbeats 1000000 in
theorem formedW_any (num ty n : Int) (a : Option Addr) (len cap : Nat) (w : World) :
    Calls Tryz.prog 114 #[fv num ty n a len cap] w fun e w' => e = .returned (.bool (fmd num ty n len)) ∧ Below w.heap.size w w' := by
  unfold fv
  go_enter Tryz.func114, Tryz.ntmps114
  go_wp2
  all_goals
    go_ret
    refine ⟨ret_bool ?_, (Below.refl _ _).alloc (Nat.le_refl _) _⟩
    try simp only [beq_iff_eq, beq_eq_false_iff_ne, ne_eq] at *
    unfold fmd
    rw [Bool.eq_iff_iff]
    simp
    omega
end Go.Proofs.YteajlfgbmefncaaGreatDoor
namespace Go.Proofs.YteajlfgbmefncaaGreatDoor
open Go.Shelf
def lays196_ren : Go.Shelf.Ren := ⟨fun | 196 => 108 | 259 => 125 | n => n, fun | 9 => 9 | 4 => 4 | 3 => 3 | 5 => 5 | 12 => 12 | 119 => 173 | 0 => 0 | 46 => 44 | 139 => 176 | 138 => 175 | 53 => 35 | n => n, fun | 3 => 0 | 4 => 1 | n => n⟩
theorem lays196 : Go.Proofs.Lays.n196 Tryz.prog lays196_ren := {
  mixed := by kernel_rfl
  f196 := Tryz.func108.trans (congrArg some (by kernel_rfl))
  f259 := Tryz.func125.trans (congrArg some (by kernel_rfl))
  t0 := Tryz.underlying0
  a0 := Tryz.isAgg0
  z0 := Tryz.sizeOf0
  v0 := Tryz.zeroValue0
  t3 := Tryz.underlying3
  a3 := Tryz.isAgg3
  z3 := Tryz.sizeOf3
  v3 := Tryz.zeroValue3
  t4 := Tryz.underlying4
  a4 := Tryz.isAgg4
  z4 := Tryz.sizeOf4
  v4 := Tryz.zeroValue4
  t5 := Tryz.underlying5
  a5 := Tryz.isAgg5
  z5 := Tryz.sizeOf5
  v5 := Tryz.zeroValue5
  t9 := Tryz.underlying9
  a9 := Tryz.isAgg9
  z9 := Tryz.sizeOf9
  v9 := Tryz.zeroValue9
  t12 := Tryz.underlying12
  a12 := Tryz.isAgg12
  z12 := Tryz.sizeOf12
  v12 := Tryz.zeroValue12
  t46 := Tryz.underlying44
  a46 := Tryz.isAgg44
  z46 := Tryz.sizeOf44
  v46 := Tryz.zeroValue44
  t53 := Tryz.underlying35
  a53 := Tryz.isAgg35
  z53 := Tryz.sizeOf35
  v53 := Tryz.zeroValue35
  t119 := Tryz.underlying173
  a119 := Tryz.isAgg173
  z119 := Tryz.sizeOf173
  t138 := Tryz.underlying175
  a138 := Tryz.isAgg175
  z138 := Tryz.sizeOf175
  v138 := Tryz.zeroValue175
  t139 := Tryz.underlying176
  a139 := Tryz.isAgg176
  z139 := Tryz.sizeOf176
  v139 := Tryz.zeroValue176
  g3 := by kernel_rfl
  g4 := by kernel_rfl }
open Go.RowKit Go.Lib in
theorem utf8_ValidString (s : ByteArray) (w : World) (hs : s.size ≤ 9223372036854775807) (hT : Lib.Utf8Tabs (lays196_ren.g 3) (lays196_ren.g 4) w) :
    Calls Tryz.prog 108 #[.string s] w fun e w' => e = .returned (.bool (Lib.validD s.data.toList)) ∧ Below w.heap.size w w' := Any.utf8_ValidString lays196 s w hs hT
end Go.Proofs.YteajlfgbmefncaaGreatDoor
namespace Go.Proofs.YteajlfgbmefncaaGreatDoor
set_option linter.unusedVariables false
open Go.ChangeShapes Go.WideShapes Go.ChangeAt Go.RowKit

/-- a schema of a size that is looked at -/
def SmM (m : MD) : Prop := m.name.length ≤ 3000 ∧ m.fields.length ≤ 2000 ∧ ∀ f ∈ m.fields, f.name.length ≤ 3000
def SmE (m : ED) : Prop := m.name.length ≤ 3000 ∧ m.values.length ≤ 2000 ∧ ∀ f ∈ m.values, f.name.length ≤ 3000
def SmT (t : TD) : Prop := t.name.length ≤ 3000 ∧ t.service.length ≤ 3000
def SmS (s : SC) : Prop := s.ms.length + s.es.length + s.ts.length ≤ 2000 ∧ (∀ m ∈ s.ms, SmM m) ∧ (∀ m ∈ s.es, SmE m) ∧ ∀ t ∈ s.ts, SmT t
def SmAns (s : SC) (w : World) (e : Ending) (w' : World) : Prop := ∃ b, e = .returned (.bool b) ∧ (b = true → SmS s) ∧ Below w.heap.size w w'
/-- no list of a schema that was handed in is longer than memory -/
def BigS (s : SC) : Prop := (s.ms.length ≤ 140737488355328 ∧ s.es.length ≤ 140737488355328 ∧ s.ts.length ≤ 140737488355328) ∧ (∀ m ∈ s.ms, m.name.length ≤ 140737488355328 ∧ m.fields.length ≤ 140737488355328 ∧ ∀ f ∈ m.fields, f.name.length ≤ 140737488355328) ∧ (∀ m ∈ s.es, m.name.length ≤ 140737488355328 ∧ m.values.length ≤ 140737488355328 ∧ ∀ f ∈ m.values, f.name.length ≤ 140737488355328) ∧ ∀ t ∈ s.ts, t.name.length ≤ 140737488355328 ∧ t.service.length ≤ 140737488355328
theorem mem_all {α : Type} {P : α → Prop} {l : List α} (h : ∀ (j : Nat) (x : α), j < l.length → l[j]? = some x → P x) : ∀ x ∈ l, P x := fun x hx => by
  obtain ⟨j, hj⟩ := List.getElem?_of_mem hx
  exact h j x (List.getElem?_eq_some_iff.1 hj).1 hj
theorem all_next {α : Type} {P : α → Prop} {l : List α} {k : Nat} {y : α} (h : ∀ (j : Nat) (x : α), j < k → l[j]? = some x → P x) (hy : l[k]? = some y) (hp : P y) : ∀ (j : Nat) (x : α), j < k + 1 → l[j]? = some x → P x := fun j x hj hx => by
  by_cases hjk : j = k
  · subst hjk; rw [hy] at hx; cases hx; exact hp
  · exact h j x (by omega) hx
theorem mkB_lenI (l : List UInt8) : ((mkB l).size : Int) = (l.length : Int) := by rw [mkB_size]
set_option maxHeartbeats 16000000 in
set_option maxRecDepth 20000 in
theorem smallS_any (ma ea ta : Option Addr) (nm ne nt mc ec tc : Nat) (s : SC) (w : World) (hnm : s.ms.length = nm) (hne : s.es.length = ne) (hnt : s.ts.length = nt) (hbig : BigS s) (hH : HeldSc w (fun b => b < w.heap.size) (.slice ma nm mc) (.slice ea ne ec) (.slice ta nt tc) s) :
    Calls Tryz.prog 6 #[.agg #[.slice ma nm mc, .slice ea ne ec, .slice ta nt tc]] w fun e w' => SmAns s w e w' := by
  obtain ⟨Y, hY, hC, hb, hYs⟩ := box_new w #[.slice ma nm mc, .slice ea ne ec, .slice ta nt tc] 26
  obtain ⟨⟨b1, b2, b3⟩, hb2, hb3, hb4⟩ := hbig
  have HM : Hid (HeldM Y (fun b => b < w.heap.size) (.slice ma nm mc) s.ms) := HeldN.old hH.1 fun b h => hb.block b h
  have HE : Hid (HeldE Y (fun b => b < w.heap.size) (.slice ea ne ec) s.es) := HeldN.old hH.2.1 fun b h => hb.block b h
  have HT : Hid (HeldT Y (fun b => b < w.heap.size) (.slice ta nt tc) s.ts) := RowsIn.old hH.2.2 fun b h => hb.block b h
  have HY := Lib.hid hY
  have HB := Lib.hid hb
  have s0 : Y.cell? ⟨w.heap.size, 0, none⟩ = some (.slice ma nm mc) := cell_at hC 0 rfl
  have s1 : Y.cell? ⟨w.heap.size, 1, none⟩ = some (.slice ea ne ec) := cell_at hC 1 rfl
  have s2 : Y.cell? ⟨w.heap.size, 2, none⟩ = some (.slice ta nt tc) := cell_at hC 2 rfl
  have HN := Lib.hid hnm
  have HNE := Lib.hid hne
  have HNT := Lib.hid hnt
  rw [hnm] at b1
  rw [hne] at b2
  rw [hnt] at b3
  clear hH hY hb hC hnm hne hnt hYs
  have hw1 : IntKind.i64.wrap ((nm : Int) + (ne : Int)) = (nm : Int) + (ne : Int) := by rw [IntKind.wrap_i64]; omega
  have hw2 : IntKind.i64.wrap ((nm : Int) + (ne : Int) + (nt : Int)) = (nm : Int) + (ne : Int) + (nt : Int) := by rw [IntKind.wrap_i64]; omega
  obtain ⟨B0, hB0⟩ : ∃ b : Int, (nm : Int) + (ne : Int) + (nt : Int) = b := ⟨_, rfl⟩
  have HB0 := Lib.hid hB0
  have hB1 : 0 ≤ B0 := by omega
  have hB2 : B0 ≤ 422212465065984 := by omega
  rw [hB0] at hw2
  go_enter Tryz.func6, Tryz.ntmps6
  go_upto_region 1 with fail
  rw [HY.out]
  go_wp2_with fail
  clear hw1 hw2 hB0
  go_loopw [3, 23] (fun u i wr => ∃ (k : Nat) (N : Int), i = .int .i64 (k : Int) ∧ u = .int .i64 N ∧ k ≤ nm ∧ (B0 ≤ N ∧ N ≤ 422212465065984) ∧ (∀ (j : Nat) (x : MD), j < k → s.ms[j]? = some x → SmM x) ∧ wr = Y) (fun _ i _ => nm - (intOf i).toNat)
  case atStart => exact ⟨0, B0, rfl, rfl, Nat.zero_le _, ⟨Int.le_refl _, by omega⟩, fun j x hj => absurd hj (Nat.not_lt_zero _), rfl⟩
  case round =>
    obtain ⟨k, N, rfl, rfl, hk, ⟨hN0, hN1⟩, hall, hwr⟩ := hrel
    subst hwr
    have HA1 := Lib.hid hall
    clear hall
    have hk0 : (0 : Int) ≤ (k : Int) := by omega
    have hwk : IntKind.i64.wrap ((k : Int) + 1) = (k : Int) + 1 := by rw [IntKind.wrap_i64]; omega
    by_cases hkn : k < nm
    · obtain ⟨y, hy⟩ : ∃ y, s.ms[k]? = some y := ⟨_, List.getElem?_eq_getElem (by have := HN.out; omega)⟩
      obtain ⟨g, o, c0, ka, kc, hsl, hg, e0, e1, hrow⟩ := HeldN.at HM.out (W := wr) (fun b hb => rfl) hy
      obtain ⟨rfl, rfl⟩ := slice_two hsl
      obtain ⟨hbn, hbf, hbk⟩ := hb2 y (List.mem_of_getElem? hy)
      have hk1 : (k : Int) < (nm : Int) := by omega
      have hnl := mkB_lenI y.name
      have HNX : Hid (SmM y → ∀ (j : Nat) (x : MD), j < k + 1 → s.ms[j]? = some x → SmM x) := fun h => all_next HA1.out hy h
      have HROW := Lib.hid hrow
      obtain ⟨nf, hnf⟩ : ∃ n, y.fields.length = n := ⟨_, rfl⟩
      have HNF := Lib.hid hnf
      rw [hnf] at e1 HROW hbf
      have hwN : IntKind.i64.wrap (N + (nf : Int)) = N + (nf : Int) := by rw [IntKind.wrap_i64]; omega
      clear hsl hy hrow hnf
      by_cases c1 : N + (nf : Int) ≤ 2000
      case neg =>
        have c1' : 2000 < N + (nf : Int) := by omega
        go_wp2_with fail
        go_ret
        exact ⟨false, rfl, (fun h => by cases h), HB.out⟩
      have c1' : ¬ 2000 < N + (nf : Int) := by omega
      by_cases c2 : y.name.length ≤ 3000
      case neg =>
        have c2' : 3000 < ((mkB y.name).size : Int) := by omega
        go_wp2_with fail
        go_ret
        exact ⟨false, rfl, (fun h => by cases h), HB.out⟩
      have c2' : ¬ 3000 < ((mkB y.name).size : Int) := by omega
      go_wp2_with fail
      go_loopw [54] (fun i wz => ∃ q : Nat, i = .int .i64 (q : Int) ∧ q ≤ nf ∧ (∀ (j : Nat) (x : FD), j < q → y.fields[j]? = some x → x.name.length ≤ 3000) ∧ wz = wr) (fun i _ => nf - (intOf i).toNat)
      case atStart => exact ⟨0, rfl, Nat.zero_le _, fun j x hj => absurd hj (Nat.not_lt_zero _), rfl⟩
      case round =>
        obtain ⟨q, rfl, hq, hall, hwr⟩ := hrel
        subst hwr
        have HQ := Lib.hid hall
        clear hall
        have hq0 : (0 : Int) ≤ (q : Int) := by omega
        have hwq : IntKind.i64.wrap ((q : Int) + 1) = (q : Int) + 1 := by rw [IntKind.wrap_i64]; omega
        by_cases hqn : q < nf
        · obtain ⟨x, hx⟩ : ∃ x, y.fields[q]? = some x := ⟨_, List.getElem?_eq_getElem (by have := HNF.out; omega)⟩
          obtain ⟨g2, o2, c2, hsl, hg2, x0, n1, x2, x3, x4⟩ := fd_at HROW.out (W := wr) (fun b hb => rfl) hx
          rw [HNF.out] at hsl
          obtain ⟨rfl, rfl⟩ := slice_two hsl
          have hq1 : (q : Int) < (nf : Int) := by omega
          have hxl := mkB_lenI x.name
          have hbx := hbk x (List.mem_of_getElem? hx)
          have HQX : Hid (x.name.length ≤ 3000 → ∀ (j : Nat) (z : FD), j < q + 1 → y.fields[j]? = some z → z.name.length ≤ 3000) := fun h => all_next HQ.out hx h
          clear hsl hx
          by_cases c3 : x.name.length ≤ 3000
          case neg =>
            have c3' : 3000 < ((mkB x.name).size : Int) := by omega
            go_wp2_with fail
            go_ret
            exact ⟨false, rfl, (fun h => by cases h), HB.out⟩
          have c3' : ¬ 3000 < ((mkB x.name).size : Int) := by omega
          go_wp2_with fail
          go_roundw
          case rel => exact ⟨q + 1, by go_num, by omega, HQX.out c3, trivial⟩
          case measure => simp [intOf]; omega
        · have hqn' : ¬ (q : Int) < (nf : Int) := by omega
          have HNN := Lib.hid (HNX.out ⟨c2, by have := HNF.out; omega, mem_all fun j x hj hx => HQ.out j x (by have := HNF.out; omega) hx⟩)
          go_wp2_with fail
          go_roundw
          case rel => exact ⟨k + 1, N + (nf : Int), by go_num, rfl, by omega, ⟨by omega, by omega⟩, HNN.out, trivial⟩
          case measure => simp [intOf]; omega
    · have hkn' : ¬ (k : Int) < (nm : Int) := by omega
      go_wp2_with fail
      clear hk0 hwk
      go_loopw [3, 74] (fun u i wz => ∃ (k : Nat) (N : Int), i = .int .i64 (k : Int) ∧ u = .int .i64 N ∧ k ≤ ne ∧ (B0 ≤ N ∧ N ≤ 422212465065984) ∧ (∀ (j : Nat) (x : ED), j < k → s.es[j]? = some x → SmE x) ∧ wz = wr) (fun _ i _ => ne - (intOf i).toNat)
      case atStart => exact ⟨0, N, rfl, rfl, Nat.zero_le _, ⟨hN0, hN1⟩, fun j x hj => absurd hj (Nat.not_lt_zero _), rfl⟩
      case round =>
        obtain ⟨k, N, rfl, rfl, hk, ⟨hN0, hN1⟩, hall, hwr⟩ := hrel
        subst hwr
        have HA2 := Lib.hid hall
        clear hall
        have hk0 : (0 : Int) ≤ (k : Int) := by omega
        have hwk : IntKind.i64.wrap ((k : Int) + 1) = (k : Int) + 1 := by rw [IntKind.wrap_i64]; omega
        by_cases hkn : k < ne
        · obtain ⟨y, hy⟩ : ∃ y, s.es[k]? = some y := ⟨_, List.getElem?_eq_getElem (by have := HNE.out; omega)⟩
          obtain ⟨g, o, c0, ka, kc, hsl, hg, e0, e1, hrow⟩ := HeldN.at HE.out (W := wr) (fun b hb => rfl) hy
          obtain ⟨rfl, rfl⟩ := slice_two hsl
          obtain ⟨hbn, hbf, hbk⟩ := hb3 y (List.mem_of_getElem? hy)
          have hk1 : (k : Int) < (ne : Int) := by omega
          have hnl := mkB_lenI y.name
          have HNX : Hid (SmE y → ∀ (j : Nat) (x : ED), j < k + 1 → s.es[j]? = some x → SmE x) := fun h => all_next HA2.out hy h
          have HROW := Lib.hid hrow
          obtain ⟨nf, hnf⟩ : ∃ n, y.values.length = n := ⟨_, rfl⟩
          have HNF := Lib.hid hnf
          rw [hnf] at e1 HROW hbf
          have hwN : IntKind.i64.wrap (N + (nf : Int)) = N + (nf : Int) := by rw [IntKind.wrap_i64]; omega
          clear hsl hy hrow hnf
          by_cases c1 : N + (nf : Int) ≤ 2000
          case neg =>
            have c1' : 2000 < N + (nf : Int) := by omega
            go_wp2_with fail
            go_ret
            exact ⟨false, rfl, (fun h => by cases h), HB.out⟩
          have c1' : ¬ 2000 < N + (nf : Int) := by omega
          by_cases c2 : y.name.length ≤ 3000
          case neg =>
            have c2' : 3000 < ((mkB y.name).size : Int) := by omega
            go_wp2_with fail
            go_ret
            exact ⟨false, rfl, (fun h => by cases h), HB.out⟩
          have c2' : ¬ 3000 < ((mkB y.name).size : Int) := by omega
          go_wp2_with fail
          go_loopw [105] (fun i wz => ∃ q : Nat, i = .int .i64 (q : Int) ∧ q ≤ nf ∧ (∀ (j : Nat) (x : VD), j < q → y.values[j]? = some x → x.name.length ≤ 3000) ∧ wz = wr) (fun i _ => nf - (intOf i).toNat)
          case atStart => exact ⟨0, rfl, Nat.zero_le _, fun j x hj => absurd hj (Nat.not_lt_zero _), rfl⟩
          case round =>
            obtain ⟨q, rfl, hq, hall, hwr⟩ := hrel
            subst hwr
            have HQ := Lib.hid hall
            clear hall
            have hq0 : (0 : Int) ≤ (q : Int) := by omega
            have hwq : IntKind.i64.wrap ((q : Int) + 1) = (q : Int) + 1 := by rw [IntKind.wrap_i64]; omega
            by_cases hqn : q < nf
            · obtain ⟨x, hx⟩ : ∃ x, y.values[q]? = some x := ⟨_, List.getElem?_eq_getElem (by have := HNF.out; omega)⟩
              obtain ⟨g2, o2, c2, hsl, hg2, n1, x1⟩ := vd_at HROW.out (W := wr) (fun b hb => rfl) hx
              rw [HNF.out] at hsl
              obtain ⟨rfl, rfl⟩ := slice_two hsl
              have hq1 : (q : Int) < (nf : Int) := by omega
              have hxl := mkB_lenI x.name
              have hbx := hbk x (List.mem_of_getElem? hx)
              have HQX : Hid (x.name.length ≤ 3000 → ∀ (j : Nat) (z : VD), j < q + 1 → y.values[j]? = some z → z.name.length ≤ 3000) := fun h => all_next HQ.out hx h
              clear hsl hx
              by_cases c3 : x.name.length ≤ 3000
              case neg =>
                have c3' : 3000 < ((mkB x.name).size : Int) := by omega
                go_wp2_with fail
                go_ret
                exact ⟨false, rfl, (fun h => by cases h), HB.out⟩
              have c3' : ¬ 3000 < ((mkB x.name).size : Int) := by omega
              go_wp2_with fail
              go_roundw
              case rel => exact ⟨q + 1, by go_num, by omega, HQX.out c3, trivial⟩
              case measure => simp [intOf]; omega
            · have hqn' : ¬ (q : Int) < (nf : Int) := by omega
              have HNN := Lib.hid (HNX.out ⟨c2, by have := HNF.out; omega, mem_all fun j x hj hx => HQ.out j x (by have := HNF.out; omega) hx⟩)
              go_wp2_with fail
              go_roundw
              case rel => exact ⟨k + 1, N + (nf : Int), by go_num, rfl, by omega, ⟨by omega, by omega⟩, HNN.out, trivial⟩
              case measure => simp [intOf]; omega
        · have hkn' : ¬ (k : Int) < (ne : Int) := by omega
          go_wp2_with fail
          go_loopw [125] (fun i wz => ∃ q : Nat, i = .int .i64 (q : Int) ∧ q ≤ nt ∧ (∀ (j : Nat) (x : TD), j < q → s.ts[j]? = some x → SmT x) ∧ wz = wr) (fun i _ => nt - (intOf i).toNat)
          case atStart => exact ⟨0, rfl, Nat.zero_le _, fun j x hj => absurd hj (Nat.not_lt_zero _), rfl⟩
          case round =>
            obtain ⟨q, rfl, hq, hall, hwr⟩ := hrel
            subst hwr
            have HQ := Lib.hid hall
            clear hall
            have hq0 : (0 : Int) ≤ (q : Int) := by omega
            have hwq : IntKind.i64.wrap ((q : Int) + 1) = (q : Int) + 1 := by rw [IntKind.wrap_i64]; omega
            by_cases hqn : q < nt
            · obtain ⟨x, hx⟩ : ∃ x, s.ts[q]? = some x := ⟨_, List.getElem?_eq_getElem (by have := HNT.out; omega)⟩
              obtain ⟨g2, o2, c2, hsl, hg2, x0, x1, x2, x3, x4⟩ := td_at HT.out (W := wr) (fun b hb => rfl) hx
              rw [HNT.out] at hsl
              obtain ⟨rfl, rfl⟩ := slice_two hsl
              have hq1 : (q : Int) < (nt : Int) := by omega
              have hxl := mkB_lenI x.name
              have hxs := mkB_lenI x.service
              have hbx := hb4 x (List.mem_of_getElem? hx)
              have HQX : Hid (SmT x → ∀ (j : Nat) (z : TD), j < q + 1 → s.ts[j]? = some z → SmT z) := fun h => all_next HQ.out hx h
              clear hsl hx
              by_cases c1 : N ≤ 2000
              case neg =>
                have c1' : 2000 < N := by omega
                go_wp2_with fail
                go_ret
                exact ⟨false, rfl, (fun h => by cases h), HB.out⟩
              have c1' : ¬ 2000 < N := by omega
              by_cases c3 : x.name.length ≤ 3000
              case neg =>
                have c3' : 3000 < ((mkB x.name).size : Int) := by omega
                go_wp2_with fail
                go_ret
                exact ⟨false, rfl, (fun h => by cases h), HB.out⟩
              have c3' : ¬ 3000 < ((mkB x.name).size : Int) := by omega
              by_cases c4 : x.service.length ≤ 3000
              case neg =>
                have c4' : 3000 < ((mkB x.service).size : Int) := by omega
                go_wp2_with fail
                go_ret
                exact ⟨false, rfl, (fun h => by cases h), HB.out⟩
              have c4' : ¬ 3000 < ((mkB x.service).size : Int) := by omega
              go_wp2_with fail
              go_roundw
              case rel => exact ⟨q + 1, by go_num, by omega, HQX.out ⟨c3, c4⟩, trivial⟩
              case measure => simp [intOf]; omega
            · have hqn' : ¬ (q : Int) < (nt : Int) := by omega
              by_cases c1 : N ≤ 2000
              · go_wp2_with fail
                go_ret
                refine ⟨true, rfl, fun _ => ⟨by have := HN.out; have := HNE.out; have := HNT.out; have := HB0.out; omega, mem_all fun j x hj hx => HA1.out j x (by have := HN.out; omega) hx, mem_all fun j x hj hx => HA2.out j x (by have := HNE.out; omega) hx, mem_all fun j x hj hx => HQ.out j x (by have := HNT.out; omega) hx⟩, HB.out⟩
              · go_wp2_with fail
                go_ret
                exact ⟨false, rfl, (fun h => by cases h), HB.out⟩
end Go.Proofs.YteajlfgbmefncaaGreatDoor
