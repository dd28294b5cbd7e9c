/-
  What is read of the two slices of a split, and that the bytes of the parts are all bytes. Nothing is proved of the program here.
  Assertions on values: what they tell. Nothing is proved of the program here.
  The walks over the program's Formed and over the statements' own turning of fields: Formed says just what the document's does; a turned field is the same field. They make new memory alone.
  What the library functions that this program calls answer, as theorems over this translation: each is one application of a theorem of the given library. Nothing is proved of the program itself here.
  The walks over Size and Append: how many bytes the shortest varint has; and it comes behind the bytes, all in one new block; nothing else changes.
-/
import Derived.Test.YtnopnjklcdcckaaGreatDoorM4
import Derived.Test.YtnopnjklcdcckaaGreatDoorM6
import Derived.Test.YtnopnjklcdcckaaGreatDoorM2
import Derived.Handy
import Derived.Shelf.Strconv.Itoa0
import Derived.Shelf.Bytes.SlClone
import Derived.Shelf.LaysM
import Derived.Ground.NamesProg
import Derived.Test.YtnopnjklcdcckaaGreatDoorProg
import Derived.Test.YtnopnjklcdcckaaGreatDoorM1
namespace Go.Proofs.YtnopnjklcdcckaaGreatDoor
set_option linter.unusedVariables false
open Go.ChangeShapes Go.WideShapes Go.ChangeAt Go.RowKit

theorem cells_at : ∀ (fs : List FR) (k j : Nat) (f : FR), fs[k]? = some f → j < 4 → (fs.flatMap FR.cells)[k * 4 + j]? = f.cells[j]?
  | [], k, j, f, h, _ => by simp at h
  | f0 :: fs, 0, j, f, h, hj => by
    simp at h
    subst h
    rw [List.flatMap_cons, Nat.zero_mul, Nat.zero_add, List.getElem?_append_left (by simp [FR.cells]; omega)]
  | f0 :: fs, k + 1, j, f, h, hj => by
    have h' : fs[k]? = some f := by simpa using h
    rw [List.flatMap_cons, List.getElem?_append_right (by simp [FR.cells]; omega)]
    rw [show (k + 1) * 4 + j - f0.cells.length = k * 4 + j by simp [FR.cells]; omega]
    exact cells_at fs k j f h' hj
theorem owns_slice {w : World} {base : Nat} {e : TypeId} {size : Nat} {v : Value} {n : Nat} {xs : List Value} (h : w.ownsRow base e size v n xs) :
    ∃ a c, v = .slice a n c ∧ n ≤ c ∧ (n = 0 ∨ ∃ g, a = some ⟨g, 0, none⟩ ∧ ∀ j u, j < n * size → xs[j]? = some u → w.cell? ⟨g, j, none⟩ = some u) := by
  obtain ⟨h1, ⟨rfl, rfl⟩ | ⟨g, cap, cur, rfl, hg, hh, h3, h4, h5, h6⟩⟩ := h
  · exact ⟨none, 0, rfl, Nat.le_refl _, .inl rfl⟩
  · refine ⟨_, cap, rfl, h3, .inr ⟨g, rfl, fun j u hj hu => ?_⟩⟩
    have : cur.toList[j]? = some u := by
      have h7 : (cur.toList.take (n * size))[j]? = some u := by rw [h6]; exact hu
      rw [List.getElem?_take, if_pos hj] at h7
      exact h7
    simp only [World.cell?, hh]
    simpa using this
theorem st_shapes {w : World} {B : Nat} {e : TypeId} {vF vR : Value} {fs : List FR} {rs : List Row3} (h : SplSt w B e vF vR fs rs) :
    ∃ aF cF aR cR, vF = .slice aF fs.length cF ∧ vR = .slice aR rs.length cR ∧ fs.length ≤ cF ∧ rs.length ≤ cR ∧
      (∀ k f, fs[k]? = some f → ∃ g, aF = some ⟨g, 0, none⟩ ∧ w.cell? ⟨g, k * 4, none⟩ = some (.int .i64 f.num) ∧ w.cell? ⟨g, k * 4 + 1, none⟩ = some (.int .i64 f.ty) ∧ w.cell? ⟨g, k * 4 + 2, none⟩ = some (.int .u64 f.n) ∧ w.cell? ⟨g, k * 4 + 3, none⟩ = some (.slice f.a f.len f.cap) ∧ IsB w f.a f.len f.d ∧ g < w.heap.size) ∧
      (∀ k r, rs[k]? = some r → ∃ g, aR = some ⟨g, 0, none⟩ ∧ w.cell? ⟨g, k, none⟩ = some (.slice r.a r.len r.cap) ∧ IsB w r.a r.len r.zs ∧ g < w.heap.size) := by
  obtain ⟨aF, cF, hF, hlF, hcF⟩ := owns_slice h.ownF
  obtain ⟨aR, cR, hR, hlR, hcR⟩ := owns_slice h.ownR
  refine ⟨aF, cF, aR, cR, hF, hR, hlF, hlR, ?_, ?_⟩
  · intro k f hk
    have hlt : k < fs.length := (List.getElem?_eq_some_iff.1 hk).1
    rcases hcF with h0 | ⟨g, rfl, hc⟩
    · omega
    · have c0 := hc (k * 4 + 0) _ (by omega) ((cells_at fs k 0 f hk (by omega)).trans rfl)
      have c1 := hc (k * 4 + 1) _ (by omega) ((cells_at fs k 1 f hk (by omega)).trans rfl)
      have c2 := hc (k * 4 + 2) _ (by omega) ((cells_at fs k 2 f hk (by omega)).trans rfl)
      have c3 := hc (k * 4 + 3) _ (by omega) ((cells_at fs k 3 f hk (by omega)).trans rfl)
      exact ⟨g, rfl, c0, c1, c2, c3, (h.farF f (List.mem_of_getElem? hk)).isB, cell_ltB c0⟩
  · intro k r hk
    have hlt : k < rs.length := (List.getElem?_eq_some_iff.1 hk).1
    rcases hcR with h0 | ⟨g, rfl, hc⟩
    · omega
    · have c0 := hc k (.slice r.a r.len r.cap) (by omega) (by rw [List.getElem?_map, hk]; rfl)
      exact ⟨g, rfl, c0, (h.farR r (List.mem_of_getElem? hk)).isB, cell_ltB c0⟩

theorem spl_flat : ∀ (n : Nat) (zs : List Int) (D : List (TF × List Int)), spl n zs = some D → (D.flatMap fun p => p.2) = zs
  | n, [], D, h => by rw [spl_nil] at h; simp at h; subst h; rfl
  | 0, z :: zs, D, h => by simp [spl] at h
  | n + 1, z :: zs, D, h => by
    by_cases he : (tf (z :: zs)).e = 0
    · rw [spl_on n _ (by simp) he] at h
      obtain ⟨D', h1, rfl⟩ := Option.map_eq_some_iff.1 h
      rw [List.flatMap_cons, spl_flat n _ D' h1]
      exact List.take_append_drop _ _
    · rw [spl_err _ _ (by simp) he] at h; simp at h
theorem split_flat (zs : List Int) (D : List (TF × List Int)) (h : split zs = some D) : (D.flatMap fun p => p.2) = zs := spl_flat _ zs D h
theorem fits_at {fs : List FR} {D : List (TF × List Int)} (h : FitsF fs D) (k : Nat) (hk : k < D.length) : ∃ f p, fs[k]? = some f ∧ D[k]? = some p ∧ f.says = p.1.says := by
  have hl := h.len
  refine ⟨fs[k], D[k], List.getElem?_eq_getElem (by omega), List.getElem?_eq_getElem hk, ?_⟩
  have := congrArg (·[k]?) h.1
  simp only [List.getElem?_map, List.getElem?_eq_getElem hk, List.getElem?_eq_getElem (show k < fs.length by omega), Option.map_some] at this
  simpa using this
theorem fitsR_at {rs : List Row3} {D : List (TF × List Int)} (h : FitsR rs D) (k : Nat) (hk : k < D.length) : ∃ r p, rs[k]? = some r ∧ D[k]? = some p ∧ r.zs = p.2 := by
  have hl := h.len
  refine ⟨rs[k], D[k], List.getElem?_eq_getElem (by omega), List.getElem?_eq_getElem hk, ?_⟩
  have := congrArg (·[k]?) h.1
  simp only [List.getElem?_map, List.getElem?_eq_getElem hk, List.getElem?_eq_getElem (show k < rs.length by omega), Option.map_some] at this
  simpa using this
theorem spl_len : ∀ (n : Nat) (zs : List Int) (D : List (TF × List Int)), (∀ z ∈ zs, 0 ≤ z ∧ z ≤ 255) → spl n zs = some D → D.length ≤ zs.length
  | n, [], D, hb, h => by rw [spl_nil] at h; simp at h; subst h; simp
  | 0, z :: zs, D, hb, h => by simp [spl] at h
  | n + 1, z :: zs, D, hb, h => by
    by_cases he : (tf (z :: zs)).e = 0
    · rw [spl_on n _ (by simp) he] at h
      obtain ⟨D', h1, rfl⟩ := Option.map_eq_some_iff.1 h
      have hk := tf_k (z :: zs) hb he
      have := spl_len n _ D' (fun z hz => hb z (List.mem_of_mem_drop hz)) h1
      rw [List.length_drop] at this
      simp only [List.length_cons] at *
      omega
    · rw [spl_err _ _ (by simp) he] at h; simp at h
end Go.Proofs.YtnopnjklcdcckaaGreatDoor
namespace Go.Proofs.YtnopnjklcdcckaaGreatDoor
set_option linter.unusedVariables false
open Go.ChangeShapes Go.WideShapes Go.ChangeAt Go.RowKit

theorem ta_hit {P : Program} (T X : TypeId) (d : TypeDesc) (v : Value) (W : World) (hu : P.underlying T = some d) (hd : ∀ m, d ≠ .interface m) : (Instr.typeAssert (.iface T v) X T true).run P W = .ok (.tuple #[v, .bool true]) W := by
  cases d <;> first | (exact absurd rfl (hd _)) | simp [Instr.typeAssert, run_underlying hu]
theorem ta_miss {P : Program} (T U X : TypeId) (d : TypeDesc) (v z : Value) (W : World) (hu : P.underlying T = some d) (hd : ∀ m, d ≠ .interface m) (hU : U ≠ T) (hz : (P.info? T).map (fun i => i.zero) = some (some z)) : (Instr.typeAssert (.iface U v) X T true).run P W = .ok (.tuple #[z, .bool false]) W := by
  obtain ⟨i, hi, hz⟩ := Option.map_eq_some_iff.1 hz
  cases d <;> first | (exact absurd rfl (hd _)) | simp [Instr.typeAssert, run_underlying hu, hU, zeroValue, typeInfo, hi, hz]
theorem ta_nil {P : Program} (T X : TypeId) (d : TypeDesc) (z : Value) (W : World) (hu : P.underlying T = some d) (hd : ∀ m, d ≠ .interface m) (hz : (P.info? T).map (fun i => i.zero) = some (some z)) : (Instr.typeAssert .nilIface X T true).run P W = .ok (.tuple #[z, .bool false]) W := by
  obtain ⟨i, hi, hz⟩ := Option.map_eq_some_iff.1 hz
  cases d <;> first | (exact absurd rfl (hd _)) | simp [Instr.typeAssert, run_underlying hu, zeroValue, typeInfo, hi, hz]
/-- a value's kind is asked by its type -/
theorem ta_any (K : Int) (T : TypeId) (d : TypeDesc) (z : Value) (inn : Nd → Value → Value) (y : Nd) (fs : Value) (hu : Tryz.prog.underlying T = some d) (hd : ∀ m, d ≠ .interface m) (hz : (Tryz.prog.info? T).map (fun i => i.zero) = some (some z))
    (hit : ∀ y fs, y.kind = K → ival y fs = .iface T (inn y fs)) (miss : ∀ y fs, y.kind ≠ K → (∃ U v, ival y fs = .iface U v ∧ U ≠ T) ∨ ival y fs = .nilIface) (W : World) :
    (Instr.typeAssert (ival y fs) 31 T true).run Tryz.prog W = .ok (.tuple #[if y.kind = K then inn y fs else z, .bool (decide (y.kind = K))]) W := by
  by_cases h : y.kind = K
  · rw [if_pos h, decide_eq_true h, hit y fs h]; exact ta_hit T _ d _ W hu hd
  · rw [if_neg h, decide_eq_false h]
    rcases miss y fs h with ⟨U, v, e, hU⟩ | e
    · rw [e]; exact ta_miss T U _ d _ z W hu hd hU hz
    · rw [e]; exact ta_nil T _ d z W hu hd hz
theorem ival_cases (y : Nd) (fs : Value) : (y.kind = 1 ∧ ival y fs = .iface 80 (.int .i64 y.n)) ∨ (y.kind = 2 ∧ ival y fs = .iface 81 (.int .u64 y.u)) ∨ (y.kind = 3 ∧ ival y fs = .iface 82 (.bool y.b)) ∨ (y.kind = 4 ∧ ival y fs = .iface 83 (.string (mkB y.s))) ∨
    (y.kind = 5 ∧ ival y fs = .iface 84 (.string (mkB y.s))) ∨ (y.kind = 6 ∧ ival y fs = .iface 85 (.int .i32 (IntKind.i32.wrap y.n))) ∨ (y.kind = 7 ∧ ival y fs = .iface 72 (.agg #[.int .i64 y.type, fs, .string (mkB y.s)])) ∨ ((y.kind < 1 ∨ 7 < y.kind) ∧ ival y fs = .nilIface) := by
  unfold ival
  by_cases h1 : y.kind = 1
  · left; rw [if_pos h1]; exact ⟨h1, rfl⟩
  by_cases h2 : y.kind = 2
  · right; left; rw [if_neg h1, if_pos h2]; exact ⟨h2, rfl⟩
  by_cases h3 : y.kind = 3
  · right; right; left; rw [if_neg h1, if_neg h2, if_pos h3]; exact ⟨h3, rfl⟩
  by_cases h4 : y.kind = 4
  · right; right; right; left; rw [if_neg h1, if_neg h2, if_neg h3, if_pos h4]; exact ⟨h4, rfl⟩
  by_cases h5 : y.kind = 5
  · right; right; right; right; left; rw [if_neg h1, if_neg h2, if_neg h3, if_neg h4, if_pos h5]; exact ⟨h5, rfl⟩
  by_cases h6 : y.kind = 6
  · right; right; right; right; right; left; rw [if_neg h1, if_neg h2, if_neg h3, if_neg h4, if_neg h5, if_pos h6]; exact ⟨h6, rfl⟩
  by_cases h7 : y.kind = 7
  · right; right; right; right; right; right; left; rw [if_neg h1, if_neg h2, if_neg h3, if_neg h4, if_neg h5, if_neg h6, if_pos h7]; exact ⟨h7, rfl⟩
  · right; right; right; right; right; right; right; rw [if_neg h1, if_neg h2, if_neg h3, if_neg h4, if_neg h5, if_neg h6, if_neg h7]; exact ⟨by omega, rfl⟩
theorem taInt (y : Nd) (fs : Value) (W : World) : (Instr.typeAssert (ival y fs) 31 80 true).run Tryz.prog W = .ok (.tuple #[if y.kind = 1 then .int .i64 y.n else .int .i64 0, .bool (decide (y.kind = 1))]) W :=
  ta_any 1 80 (.int .i64) (.int .i64 0) (fun y _ => .int .i64 y.n) y fs (by kernel_rfl) (fun m h => by cases h) (by kernel_rfl)
    (fun y fs h => by rcases ival_cases y fs with ⟨k, e⟩ | ⟨k, e⟩ | ⟨k, e⟩ | ⟨k, e⟩ | ⟨k, e⟩ | ⟨k, e⟩ | ⟨k, e⟩ | ⟨k, e⟩ <;> first | exact e | omega)
    (fun y fs h => by rcases ival_cases y fs with ⟨k, e⟩ | ⟨k, e⟩ | ⟨k, e⟩ | ⟨k, e⟩ | ⟨k, e⟩ | ⟨k, e⟩ | ⟨k, e⟩ | ⟨k, e⟩ <;> first | exact absurd k h | exact .inl ⟨_, _, e, by decide⟩ | exact .inr e) W
theorem taUint (y : Nd) (fs : Value) (W : World) : (Instr.typeAssert (ival y fs) 31 81 true).run Tryz.prog W = .ok (.tuple #[if y.kind = 2 then .int .u64 y.u else .int .u64 0, .bool (decide (y.kind = 2))]) W :=
  ta_any 2 81 (.int .u64) (.int .u64 0) (fun y _ => .int .u64 y.u) y fs (by kernel_rfl) (fun m h => by cases h) (by kernel_rfl)
    (fun y fs h => by rcases ival_cases y fs with ⟨k, e⟩ | ⟨k, e⟩ | ⟨k, e⟩ | ⟨k, e⟩ | ⟨k, e⟩ | ⟨k, e⟩ | ⟨k, e⟩ | ⟨k, e⟩ <;> first | exact e | omega)
    (fun y fs h => by rcases ival_cases y fs with ⟨k, e⟩ | ⟨k, e⟩ | ⟨k, e⟩ | ⟨k, e⟩ | ⟨k, e⟩ | ⟨k, e⟩ | ⟨k, e⟩ | ⟨k, e⟩ <;> first | exact absurd k h | exact .inl ⟨_, _, e, by decide⟩ | exact .inr e) W
theorem taBool (y : Nd) (fs : Value) (W : World) : (Instr.typeAssert (ival y fs) 31 82 true).run Tryz.prog W = .ok (.tuple #[if y.kind = 3 then .bool y.b else .bool false, .bool (decide (y.kind = 3))]) W :=
  ta_any 3 82 (.bool) (.bool false) (fun y _ => .bool y.b) y fs (by kernel_rfl) (fun m h => by cases h) (by kernel_rfl)
    (fun y fs h => by rcases ival_cases y fs with ⟨k, e⟩ | ⟨k, e⟩ | ⟨k, e⟩ | ⟨k, e⟩ | ⟨k, e⟩ | ⟨k, e⟩ | ⟨k, e⟩ | ⟨k, e⟩ <;> first | exact e | omega)
    (fun y fs h => by rcases ival_cases y fs with ⟨k, e⟩ | ⟨k, e⟩ | ⟨k, e⟩ | ⟨k, e⟩ | ⟨k, e⟩ | ⟨k, e⟩ | ⟨k, e⟩ | ⟨k, e⟩ <;> first | exact absurd k h | exact .inl ⟨_, _, e, by decide⟩ | exact .inr e) W
theorem taText (y : Nd) (fs : Value) (W : World) : (Instr.typeAssert (ival y fs) 31 83 true).run Tryz.prog W = .ok (.tuple #[if y.kind = 4 then .string (mkB y.s) else .string ⟨#[]⟩, .bool (decide (y.kind = 4))]) W :=
  ta_any 4 83 (.string) (.string ⟨#[]⟩) (fun y _ => .string (mkB y.s)) y fs (by kernel_rfl) (fun m h => by cases h) (by kernel_rfl)
    (fun y fs h => by rcases ival_cases y fs with ⟨k, e⟩ | ⟨k, e⟩ | ⟨k, e⟩ | ⟨k, e⟩ | ⟨k, e⟩ | ⟨k, e⟩ | ⟨k, e⟩ | ⟨k, e⟩ <;> first | exact e | omega)
    (fun y fs h => by rcases ival_cases y fs with ⟨k, e⟩ | ⟨k, e⟩ | ⟨k, e⟩ | ⟨k, e⟩ | ⟨k, e⟩ | ⟨k, e⟩ | ⟨k, e⟩ | ⟨k, e⟩ <;> first | exact absurd k h | exact .inl ⟨_, _, e, by decide⟩ | exact .inr e) W
theorem taBytes (y : Nd) (fs : Value) (W : World) : (Instr.typeAssert (ival y fs) 31 84 true).run Tryz.prog W = .ok (.tuple #[if y.kind = 5 then .string (mkB y.s) else .string ⟨#[]⟩, .bool (decide (y.kind = 5))]) W :=
  ta_any 5 84 (.string) (.string ⟨#[]⟩) (fun y _ => .string (mkB y.s)) y fs (by kernel_rfl) (fun m h => by cases h) (by kernel_rfl)
    (fun y fs h => by rcases ival_cases y fs with ⟨k, e⟩ | ⟨k, e⟩ | ⟨k, e⟩ | ⟨k, e⟩ | ⟨k, e⟩ | ⟨k, e⟩ | ⟨k, e⟩ | ⟨k, e⟩ <;> first | exact e | omega)
    (fun y fs h => by rcases ival_cases y fs with ⟨k, e⟩ | ⟨k, e⟩ | ⟨k, e⟩ | ⟨k, e⟩ | ⟨k, e⟩ | ⟨k, e⟩ | ⟨k, e⟩ | ⟨k, e⟩ <;> first | exact absurd k h | exact .inl ⟨_, _, e, by decide⟩ | exact .inr e) W
theorem taEnum (y : Nd) (fs : Value) (W : World) : (Instr.typeAssert (ival y fs) 31 85 true).run Tryz.prog W = .ok (.tuple #[if y.kind = 6 then .int .i32 (IntKind.i32.wrap y.n) else .int .i32 0, .bool (decide (y.kind = 6))]) W :=
  ta_any 6 85 (.int .i32) (.int .i32 0) (fun y _ => .int .i32 (IntKind.i32.wrap y.n)) y fs (by kernel_rfl) (fun m h => by cases h) (by kernel_rfl)
    (fun y fs h => by rcases ival_cases y fs with ⟨k, e⟩ | ⟨k, e⟩ | ⟨k, e⟩ | ⟨k, e⟩ | ⟨k, e⟩ | ⟨k, e⟩ | ⟨k, e⟩ | ⟨k, e⟩ <;> first | exact e | omega)
    (fun y fs h => by rcases ival_cases y fs with ⟨k, e⟩ | ⟨k, e⟩ | ⟨k, e⟩ | ⟨k, e⟩ | ⟨k, e⟩ | ⟨k, e⟩ | ⟨k, e⟩ | ⟨k, e⟩ <;> first | exact absurd k h | exact .inl ⟨_, _, e, by decide⟩ | exact .inr e) W
theorem taMessage (y : Nd) (fs : Value) (W : World) : (Instr.typeAssert (ival y fs) 31 72 true).run Tryz.prog W = .ok (.tuple #[if y.kind = 7 then .agg #[.int .i64 y.type, fs, .string (mkB y.s)] else .agg #[.int .i64 0, .slice none 0 0, .string ⟨#[]⟩], .bool (decide (y.kind = 7))]) W :=
  ta_any 7 72 _ (.agg #[.int .i64 0, .slice none 0 0, .string ⟨#[]⟩]) (fun y fs => .agg #[.int .i64 y.type, fs, .string (mkB y.s)]) y fs Tryz.underlying72 (fun m h => by cases h) (by kernel_rfl)
    (fun y fs h => by rcases ival_cases y fs with ⟨k, e⟩ | ⟨k, e⟩ | ⟨k, e⟩ | ⟨k, e⟩ | ⟨k, e⟩ | ⟨k, e⟩ | ⟨k, e⟩ | ⟨k, e⟩ <;> first | exact e | omega)
    (fun y fs h => by rcases ival_cases y fs with ⟨k, e⟩ | ⟨k, e⟩ | ⟨k, e⟩ | ⟨k, e⟩ | ⟨k, e⟩ | ⟨k, e⟩ | ⟨k, e⟩ | ⟨k, e⟩ <;> first | exact absurd k h | exact .inl ⟨_, _, e, by decide⟩ | exact .inr e) W
end Go.Proofs.YtnopnjklcdcckaaGreatDoor
namespace Go.Proofs.YtnopnjklcdcckaaGreatDoor
set_option linter.unusedVariables false
open Go.ChangeShapes Go.WideShapes Go.ChangeAt Go.RowKit

set_option maxHeartbeats 1000000 in
theorem formedW_any (num ty n : Int) (a : Option Addr) (len cap : Nat) (w : World) :
    Calls Tryz.prog 98 #[fv num ty n a len cap] w fun e w' => e = .returned (.bool (fmd num ty n len)) ∧ Below w.heap.size w w' := by
  unfold fv
  go_enter Tryz.func98, Tryz.ntmps98
  go_wp2
  all_goals
    go_ret
    refine ⟨ret_bool ?_, (Below.refl _ _).alloc (Nat.le_refl _) _⟩
    try simp only [beq_iff_eq, beq_eq_false_iff_ne, ne_eq] at *
    unfold fmd
    rw [Bool.eq_iff_iff]
    simp
    omega
end Go.Proofs.YtnopnjklcdcckaaGreatDoor
namespace Go.Proofs.YtnopnjklcdcckaaGreatDoor
open Go.Shelf
def lays129_ren : Go.Shelf.Ren := ⟨fun | 129 => 123 | n => n, fun | 53 => 41 | 3 => 3 | 4 => 4 | 46 => 172 | 5 => 5 | 9 => 9 | n => n, fun | n => n⟩
theorem lays129 : Go.Proofs.Lays.n129 Tryz.prog lays129_ren := {
  mixed := by kernel_rfl
  f129 := Tryz.func123.trans (congrArg some (by kernel_rfl))
  t3 := Tryz.underlying3
  a3 := Tryz.isAgg3
  z3 := Tryz.sizeOf3
  v3 := Tryz.zeroValue3
  t4 := Tryz.underlying4
  a4 := Tryz.isAgg4
  z4 := Tryz.sizeOf4
  v4 := Tryz.zeroValue4
  t5 := Tryz.underlying5
  a5 := Tryz.isAgg5
  z5 := Tryz.sizeOf5
  v5 := Tryz.zeroValue5
  t9 := Tryz.underlying9
  a9 := Tryz.isAgg9
  z9 := Tryz.sizeOf9
  v9 := Tryz.zeroValue9
  t46 := Tryz.underlying172
  a46 := Tryz.isAgg172
  z46 := Tryz.sizeOf172
  v46 := Tryz.zeroValue172
  t53 := Tryz.underlying41
  a53 := Tryz.isAgg41
  z53 := Tryz.sizeOf41
  v53 := Tryz.zeroValue41 }
theorem bits_Len64 (x : Int) (w : World) (h0 : 0 ≤ x) (h1 : x ≤ 18446744073709551615) :
    Calls Tryz.prog 123 #[.int .u64 x] w fun e w' => e = .returned (.int .i64 (Lib.bitLen x.toNat)) ∧ w' = w := Any.bits_Len64 lays129 x w h0 h1
def laysSlK4_ren : Go.Shelf.Ren := ⟨fun | 4 => 74 | n => n, fun | 22 => 27 | 4 => 4 | 5 => 5 | n => n, fun | n => n⟩
theorem laysSlK4 : Go.Proofs.SlLaysK.n4 Tryz.prog laysSlK4_ren := {
  mixed := by kernel_rfl
  f4 := Tryz.func74.trans (congrArg some (by kernel_rfl))
  t4 := Tryz.underlying4
  a4 := Tryz.isAgg4
  z4 := Tryz.sizeOf4
  v4 := Tryz.zeroValue4
  t22 := Tryz.underlying27
  a22 := Tryz.isAgg27
  z22 := Tryz.sizeOf27
  v22 := Tryz.zeroValue27
  t5 := Tryz.underlying5
  i5 := by kernel_rfl }
open Go.RowKit Go.Lib in
theorem bytes_Clone_at (a : Addr) (n c : Nat) (xs : List Int) (w : World) (hx : xs.length = n) (hbig : n ≤ 140737488355328) (hc : ∀ i, i < n → w.cell? (a.add i) = some (.int .u8 (xs.getD i 0))) :
    Calls Tryz.prog 74 #[.slice (some a) n c] w fun e w' => ∃ v', e = .returned v' ∧ w'.ownsRow w.heap.size 5 1 v' n (xs.map (Value.int .u8)) ∧ v' ≠ .slice none 0 0 ∧ Below w.heap.size w w' := Any.bytes_Clone_at laysSlK4 a n c xs w hx hbig hc
end Go.Proofs.YtnopnjklcdcckaaGreatDoor
namespace Go.Proofs.YtnopnjklcdcckaaGreatDoor
set_option linter.unusedVariables false
open Go.ChangeShapes Go.WideShapes Go.ChangeAt Go.RowKit

set_option maxHeartbeats 1000000 in
theorem size_any (n : Nat) (w : World) (h : n ≤ 18446744073709551615) :
    Calls Tryz.prog 113 #[.int .u64 n] w fun e w' => e = .returned (.int .i64 ((vint n).length : Nat)) ∧ w' = w := by
  have hor : bits .or .u64 (n : Int) 1 = ((n ||| 1 : Nat) : Int) := bits_or_u64_nat n 1 (by omega) (by decide)
  have hb : (n ||| 1) ≤ 18446744073709551615 := by rw [or_one]; omega
  have HS : Hid ((Lib.bitLen (n ||| 1) + 6) / 7 = (vint n).length) := size_of n h
  have hle := vint_ten h
  generalize (n ||| 1) = m at *
  generalize (vint n).length = L at *
  have hbl : Lib.bitLen m ≤ 70 := by have := HS.out; omega
  go_enter Tryz.func113, Tryz.ntmps113
  go_wp2_with fail
  refine (bits_Len64 _ _ (by omega) (by omega)).mono ?_
  rintro e w' ⟨rfl, rfl⟩
  rw [Int.toNat_natCast]
  go_wp2_with fail
  go_ret
  exact ⟨ret_int (by have := HS.out; omega), rfl⟩
theorem app_at (zs d : List Int) (k p len : Nat) (hk : 1 ≤ k) (hp : d.length = p) (hl : zs.length = len) : (zs ++ (d ++ List.replicate k 0))[len + p]? = some 0 := by
  subst hl hp
  rw [List.getElem?_append_right (by omega), List.getElem?_append_right (by omega), show zs.length + d.length - zs.length - d.length = 0 by omega]
  obtain ⟨m, rfl⟩ : ∃ m, k = m + 1 := ⟨k - 1, by omega⟩
  simp [List.replicate_succ]
theorem app_set (w : World) (zs d : List Int) (k p len : Nat) (z : Int) (hp : d.length = p) (hl : zs.length = len) :
    (blk w 5 (zs ++ (d ++ List.replicate (k + 1) 0))).setCell ⟨w.heap.size, len + p, none⟩ (.int .u8 z) = blk w 5 (zs ++ ((d ++ [z]) ++ List.replicate k 0)) := by
  subst hl hp
  rw [blk_set]
  congr 1
  rw [List.set_append_right _ _ (by omega), List.set_append_right _ _ (by omega)]
  simp [List.replicate_succ]
theorem or128 (m : Int) (h : 0 ≤ m) : bits .or .u8 (m % 256) 128 = m % 128 + 128 := by
  rw [Lib.u8_or128_any _ (by omega) (by omega)]; omega

set_option maxHeartbeats 1000000 in
theorem append_any (a : Option Addr) (len cap : Nat) (zs : List Int) (n : Nat) (w : World) (hB : IsB w a len zs) (hn : n ≤ 18446744073709551615) (hl : len ≤ 140737488351232) :
    Calls Tryz.prog 99 #[.slice a len cap, .int .u64 n] w fun e w' =>
      e = .returned (.slice (some ⟨w.heap.size, 0, none⟩) (len + (vint n).length) (len + (vint n).length)) ∧ w' = blk w 5 (zs ++ vint n) := by
  have HB : Hid (IsB w a len zs) := hB
  have HL : Hid (zs.length = len) := hB.1
  have hle := vint_ten hn
  have hsz := fun w => size_any n w hn
  obtain ⟨L, hL⟩ : ∃ L, (vint n).length = L := ⟨_, rfl⟩
  rw [hL] at hle ⊢
  have HZ : Hid (∀ w : World, Calls Tryz.prog 113 #[.int .u64 n] w fun e w' => e = .returned (.int .i64 (L : Nat)) ∧ w' = w) := by
    rw [hL] at hsz; exact hsz
  have HLn : Hid ((vint n).length = L) := hL
  have HN : Hid (n ≤ 18446744073709551615) := hn
  have hnI : (n : Int) ≤ 18446744073709551615 := by omega
  clear hB hsz hL hn
  go_enter Tryz.func99, Tryz.ntmps99
  go_wp2_with fail
  refine (HZ.out _).mono ?_
  rintro e w' ⟨rfl, rfl⟩
  clear HZ
  go_wp2_with fail
  refine (grown_any _ _ _ zs L _ HB.out (by omega)).mono ?_
  rintro e w2 ⟨rfl, rfl⟩
  clear HB
  go_wp2_with fail
  go_loopw [1, 6] (fun x i wr => ∃ (d : List Int) (m p k : Nat) (M : Int), M = (m : Int) ∧ (vint n = d ++ vint m) ∧ (vint m).length = k ∧ p + k = L ∧ 1 ≤ k ∧ m ≤ 18446744073709551615 ∧ d.length = p ∧ p ≤ 10 ∧ x = .int .u64 M ∧ i = .int .i64 (len + p : Nat) ∧ wr = blk w' 5 (zs ++ (d ++ List.replicate k 0))) (fun x _ _ => (intOf x).toNat)
  case atStart => exact ⟨[], n, 0, L, n, rfl, rfl, HLn.out, by omega, by have := vint_pos n; rw [HLn.out] at this; exact this, HN.out, rfl, by omega, rfl, by simp, rfl⟩
  case round =>
    obtain ⟨d, m, p, k, M, hM, hv, hk, hpk, hvp, hm, hp, hp10, rfl, rfl, hwr⟩ := hrel
    have HW : Hid (wr = blk w' 5 (zs ++ (d ++ List.replicate k 0))) := hwr
    have HV : Hid (vint n = d ++ vint m) := hv
    have HP : Hid (d.length = p) := hp
    have HK : Hid ((vint m).length = k) := hk
    have hpl : p + k ≤ L := by omega
    have hmI : 0 ≤ M ∧ M ≤ 18446744073709551615 := by omega
    have HM : Hid (m ≤ 18446744073709551615) := hm
    have HMM : Hid (M = (m : Int)) := hM
    have hor : bits .or .u8 (M % 256) 128 = M % 128 + 128 := or128 M hmI.1
    clear hm hM
    have HPK : Hid (p + k = L) := hpk
    clear hwr hv hp hk hpk
    have hcell : wr.cell? ⟨w'.heap.size, len + p, none⟩ = some (.int .u8 0) := by
      rw [HW.out]; exact blk_cell w' 5 _ (app_at zs d _ p len hvp HP.out HL.out)
    have hfro : wr.frozen? ⟨w'.heap.size, len + p, none⟩ = false := by
      rw [HW.out]; exact blk_frozen w' 5 _ _
    by_cases h : 128 ≤ M
    · have HE : Hid (vint m = ((m % 128 + 128 : Nat) : Int) :: vint (m / 128)) := vint_big (by have := HMM.out; omega)
      have e2 : Hid (((m % 128 + 128 : Nat) : Int) = M % 128 + 128) := by
        refine (?_ : ((m % 128 + 128 : Nat) : Int) = M % 128 + 128)
        rw [HMM.out]; omega
      obtain ⟨k', hk'⟩ : ∃ k', k = k' + 1 := ⟨k - 1, by omega⟩
      have HKK : Hid (k = k' + 1) := hk'
      clear hk'
      go_wp2
      go_roundw
      case rel =>
        have hk' := HKK.out
        refine ⟨d ++ [M % 128 + 128], m / 128, p + 1, k', M / 128, ?_, ?_, ?_, ?_, ?_, ?_, ?_, ?_, rfl, ?_, ?_⟩
        · have := HMM.out; omega
        · rw [HV.out, HE.out, List.append_assoc, List.singleton_append, e2.out]
        · have := HK.out
          rw [HE.out, List.length_cons] at this; omega
        · have := HPK.out; omega
        · have := HK.out
          rw [HE.out, List.length_cons] at this
          have := vint_pos (m / 128); omega
        · have := HM.out; omega
        · rw [List.length_append, HP.out]; rfl
        · omega
        · go_num
        · rw [HW.out, hk']
          exact app_set w' zs d k' p len _ HP.out HL.out
      case measure => simp [intOf]; omega
    · have HE : Hid (vint m = [(m : Int)]) := vint_small (by have := HMM.out; omega)
      go_wp2
      go_ret
      refine ⟨rfl, ?_⟩
      have hk1 : k = 0 + 1 := by have := HK.out; rw [HE.out] at this; simpa using this.symm
      rw [HW.out, hk1, app_set w' zs d 0 p len _ HP.out HL.out, HV.out, HE.out, HMM.out]
      simp
end Go.Proofs.YtnopnjklcdcckaaGreatDoor
