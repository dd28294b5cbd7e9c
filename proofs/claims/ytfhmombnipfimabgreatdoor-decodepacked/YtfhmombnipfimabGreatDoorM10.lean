/-
  What is read of the two slices of a split, and that the bytes of the parts are all bytes. Nothing is proved of the program here.
  Assertions on values: what they tell. Nothing is proved of the program here.
  The walks over the program's Formed and over the statements' own turning of fields: Formed says just what the document's does; a turned field is the same field. They make new memory alone.
  What the library functions that this program calls answer, as theorems over this translation: each is one application of a theorem of the given library. Nothing is proved of the program itself here.
  The walks over Size and Append: how many bytes the shortest varint has; and it comes behind the bytes, all in one new block; nothing else changes.
  The walks over the small functions of package value, and of the document: types of fields, and which field is meant.
  The walk over the document's own Small of schemas.
-/
import Derived.Test.YtfhmombnipfimabGreatDoorM5
import Derived.Test.YtfhmombnipfimabGreatDoorM8
import Derived.Test.YtfhmombnipfimabGreatDoorM4
import Derived.Handy
import Derived.Shelf.Strconv.Itoa0
import Derived.Shelf.Bytes.SlClone
import Derived.Shelf.LaysM
import Derived.Ground.NamesProg
import Derived.Test.YtfhmombnipfimabGreatDoorProg
import Derived.Test.YtfhmombnipfimabGreatDoorM3
import Derived.BigQuiet
import Derived.Test.YtfhmombnipfimabGreatDoorM7
namespace Go.Proofs.YtfhmombnipfimabGreatDoor
set_option linter.unusedVariables false
open Go.ChangeShapes Go.WideShapes Go.ChangeAt Go.RowKit

theorem cells_at : ∀ (fs : List FR) (k j : Nat) (f : FR), fs[k]? = some f → j < 4 → (fs.flatMap FR.cells)[k * 4 + j]? = f.cells[j]?
  | [], k, j, f, h, _ => by simp at h
  | f0 :: fs, 0, j, f, h, hj => by
    simp at h
    subst h
    rw [List.flatMap_cons, Nat.zero_mul, Nat.zero_add, List.getElem?_append_left (by simp [FR.cells]; omega)]
  | f0 :: fs, k + 1, j, f, h, hj => by
    have h' : fs[k]? = some f := by simpa using h
    rw [List.flatMap_cons, List.getElem?_append_right (by simp [FR.cells]; omega)]
    rw [show (k + 1) * 4 + j - f0.cells.length = k * 4 + j by simp [FR.cells]; omega]
    exact cells_at fs k j f h' hj
theorem owns_slice {w : World} {base : Nat} {e : TypeId} {size : Nat} {v : Value} {n : Nat} {xs : List Value} (h : w.ownsRow base e size v n xs) :
    ∃ a c, v = .slice a n c ∧ n ≤ c ∧ (n = 0 ∨ ∃ g, a = some ⟨g, 0, none⟩ ∧ ∀ j u, j < n * size → xs[j]? = some u → w.cell? ⟨g, j, none⟩ = some u) := by
  obtain ⟨h1, ⟨rfl, rfl⟩ | ⟨g, cap, cur, rfl, hg, hh, h3, h4, h5, h6⟩⟩ := h
  · exact ⟨none, 0, rfl, Nat.le_refl _, .inl rfl⟩
  · refine ⟨_, cap, rfl, h3, .inr ⟨g, rfl, fun j u hj hu => ?_⟩⟩
    have : cur.toList[j]? = some u := by
      have h7 : (cur.toList.take (n * size))[j]? = some u := by rw [h6]; exact hu
      rw [List.getElem?_take, if_pos hj] at h7
      exact h7
    simp only [World.cell?, hh]
    simpa using this
theorem st_shapes {w : World} {B : Nat} {e : TypeId} {vF vR : Value} {fs : List FR} {rs : List Row3} (h : SplSt w B e vF vR fs rs) :
    ∃ aF cF aR cR, vF = .slice aF fs.length cF ∧ vR = .slice aR rs.length cR ∧ fs.length ≤ cF ∧ rs.length ≤ cR ∧
      (∀ k f, fs[k]? = some f → ∃ g, aF = some ⟨g, 0, none⟩ ∧ w.cell? ⟨g, k * 4, none⟩ = some (.int .i64 f.num) ∧ w.cell? ⟨g, k * 4 + 1, none⟩ = some (.int .i64 f.ty) ∧ w.cell? ⟨g, k * 4 + 2, none⟩ = some (.int .u64 f.n) ∧ w.cell? ⟨g, k * 4 + 3, none⟩ = some (.slice f.a f.len f.cap) ∧ IsB w f.a f.len f.d ∧ g < w.heap.size) ∧
      (∀ k r, rs[k]? = some r → ∃ g, aR = some ⟨g, 0, none⟩ ∧ w.cell? ⟨g, k, none⟩ = some (.slice r.a r.len r.cap) ∧ IsB w r.a r.len r.zs ∧ g < w.heap.size) := by
  obtain ⟨aF, cF, hF, hlF, hcF⟩ := owns_slice h.ownF
  obtain ⟨aR, cR, hR, hlR, hcR⟩ := owns_slice h.ownR
  refine ⟨aF, cF, aR, cR, hF, hR, hlF, hlR, ?_, ?_⟩
  · intro k f hk
    have hlt : k < fs.length := (List.getElem?_eq_some_iff.1 hk).1
    rcases hcF with h0 | ⟨g, rfl, hc⟩
    · omega
    · have c0 := hc (k * 4 + 0) _ (by omega) ((cells_at fs k 0 f hk (by omega)).trans rfl)
      have c1 := hc (k * 4 + 1) _ (by omega) ((cells_at fs k 1 f hk (by omega)).trans rfl)
      have c2 := hc (k * 4 + 2) _ (by omega) ((cells_at fs k 2 f hk (by omega)).trans rfl)
      have c3 := hc (k * 4 + 3) _ (by omega) ((cells_at fs k 3 f hk (by omega)).trans rfl)
      exact ⟨g, rfl, c0, c1, c2, c3, (h.farF f (List.mem_of_getElem? hk)).isB, cell_ltB c0⟩
  · intro k r hk
    have hlt : k < rs.length := (List.getElem?_eq_some_iff.1 hk).1
    rcases hcR with h0 | ⟨g, rfl, hc⟩
    · omega
    · have c0 := hc k (.slice r.a r.len r.cap) (by omega) (by rw [List.getElem?_map, hk]; rfl)
      exact ⟨g, rfl, c0, (h.farR r (List.mem_of_getElem? hk)).isB, cell_ltB c0⟩

theorem spl_flat : ∀ (n : Nat) (zs : List Int) (D : List (TF × List Int)), spl n zs = some D → (D.flatMap fun p => p.2) = zs
  | n, [], D, h => by rw [spl_nil] at h; simp at h; subst h; rfl
  | 0, z :: zs, D, h => by simp [spl] at h
  | n + 1, z :: zs, D, h => by
    by_cases he : (tf (z :: zs)).e = 0
    · rw [spl_on n _ (by simp) he] at h
      obtain ⟨D', h1, rfl⟩ := Option.map_eq_some_iff.1 h
      rw [List.flatMap_cons, spl_flat n _ D' h1]
      exact List.take_append_drop _ _
    · rw [spl_err _ _ (by simp) he] at h; simp at h
theorem split_flat (zs : List Int) (D : List (TF × List Int)) (h : split zs = some D) : (D.flatMap fun p => p.2) = zs := spl_flat _ zs D h
theorem fits_at {fs : List FR} {D : List (TF × List Int)} (h : FitsF fs D) (k : Nat) (hk : k < D.length) : ∃ f p, fs[k]? = some f ∧ D[k]? = some p ∧ f.says = p.1.says := by
  have hl := h.len
  refine ⟨fs[k], D[k], List.getElem?_eq_getElem (by omega), List.getElem?_eq_getElem hk, ?_⟩
  have := congrArg (·[k]?) h.1
  simp only [List.getElem?_map, List.getElem?_eq_getElem hk, List.getElem?_eq_getElem (show k < fs.length by omega), Option.map_some] at this
  simpa using this
theorem fitsR_at {rs : List Row3} {D : List (TF × List Int)} (h : FitsR rs D) (k : Nat) (hk : k < D.length) : ∃ r p, rs[k]? = some r ∧ D[k]? = some p ∧ r.zs = p.2 := by
  have hl := h.len
  refine ⟨rs[k], D[k], List.getElem?_eq_getElem (by omega), List.getElem?_eq_getElem hk, ?_⟩
  have := congrArg (·[k]?) h.1
  simp only [List.getElem?_map, List.getElem?_eq_getElem hk, List.getElem?_eq_getElem (show k < rs.length by omega), Option.map_some] at this
  simpa using this
theorem spl_len : ∀ (n : Nat) (zs : List Int) (D : List (TF × List Int)), (∀ z ∈ zs, 0 ≤ z ∧ z ≤ 255) → spl n zs = some D → D.length ≤ zs.length
  | n, [], D, hb, h => by rw [spl_nil] at h; simp at h; subst h; simp
  | 0, z :: zs, D, hb, h => by simp [spl] at h
  | n + 1, z :: zs, D, hb, h => by
    by_cases he : (tf (z :: zs)).e = 0
    · rw [spl_on n _ (by simp) he] at h
      obtain ⟨D', h1, rfl⟩ := Option.map_eq_some_iff.1 h
      have hk := tf_k (z :: zs) hb he
      have := spl_len n _ D' (fun z hz => hb z (List.mem_of_mem_drop hz)) h1
      rw [List.length_drop] at this
      simp only [List.length_cons] at *
      omega
    · rw [spl_err _ _ (by simp) he] at h; simp at h
end Go.Proofs.YtfhmombnipfimabGreatDoor
namespace Go.Proofs.YtfhmombnipfimabGreatDoor
set_option linter.unusedVariables false
open Go.ChangeShapes Go.WideShapes Go.ChangeAt Go.RowKit

theorem ta_hit {P : Program} (T X : TypeId) (d : TypeDesc) (v : Value) (W : World) (hu : P.underlying T = some d) (hd : ∀ m, d ≠ .interface m) : (Instr.typeAssert (.iface T v) X T true).run P W = .ok (.tuple #[v, .bool true]) W := by
  cases d <;> first | (exact absurd rfl (hd _)) | simp [Instr.typeAssert, run_underlying hu]
theorem ta_miss {P : Program} (T U X : TypeId) (d : TypeDesc) (v z : Value) (W : World) (hu : P.underlying T = some d) (hd : ∀ m, d ≠ .interface m) (hU : U ≠ T) (hz : (P.info? T).map (fun i => i.zero) = some (some z)) : (Instr.typeAssert (.iface U v) X T true).run P W = .ok (.tuple #[z, .bool false]) W := by
  obtain ⟨i, hi, hz⟩ := Option.map_eq_some_iff.1 hz
  cases d <;> first | (exact absurd rfl (hd _)) | simp [Instr.typeAssert, run_underlying hu, hU, zeroValue, typeInfo, hi, hz]
theorem ta_nil {P : Program} (T X : TypeId) (d : TypeDesc) (z : Value) (W : World) (hu : P.underlying T = some d) (hd : ∀ m, d ≠ .interface m) (hz : (P.info? T).map (fun i => i.zero) = some (some z)) : (Instr.typeAssert .nilIface X T true).run P W = .ok (.tuple #[z, .bool false]) W := by
  obtain ⟨i, hi, hz⟩ := Option.map_eq_some_iff.1 hz
  cases d <;> first | (exact absurd rfl (hd _)) | simp [Instr.typeAssert, run_underlying hu, zeroValue, typeInfo, hi, hz]
/-- a value's kind is asked by its type -/
theorem ta_any (K : Int) (T : TypeId) (d : TypeDesc) (z : Value) (inn : Nd → Value → Value) (y : Nd) (fs : Value) (hu : Tryz.prog.underlying T = some d) (hd : ∀ m, d ≠ .interface m) (hz : (Tryz.prog.info? T).map (fun i => i.zero) = some (some z))
    (hit : ∀ y fs, y.kind = K → ival y fs = .iface T (inn y fs)) (miss : ∀ y fs, y.kind ≠ K → (∃ U v, ival y fs = .iface U v ∧ U ≠ T) ∨ ival y fs = .nilIface) (W : World) :
    (Instr.typeAssert (ival y fs) 38 T true).run Tryz.prog W = .ok (.tuple #[if y.kind = K then inn y fs else z, .bool (decide (y.kind = K))]) W := by
  by_cases h : y.kind = K
  · rw [if_pos h, decide_eq_true h, hit y fs h]; exact ta_hit T _ d _ W hu hd
  · rw [if_neg h, decide_eq_false h]
    rcases miss y fs h with ⟨U, v, e, hU⟩ | e
    · rw [e]; exact ta_miss T U _ d _ z W hu hd hU hz
    · rw [e]; exact ta_nil T _ d z W hu hd hz
theorem ival_cases (y : Nd) (fs : Value) : (y.kind = 1 ∧ ival y fs = .iface 68 (.int .i64 y.n)) ∨ (y.kind = 2 ∧ ival y fs = .iface 69 (.int .u64 y.u)) ∨ (y.kind = 3 ∧ ival y fs = .iface 70 (.bool y.b)) ∨ (y.kind = 4 ∧ ival y fs = .iface 71 (.string (mkB y.s))) ∨
    (y.kind = 5 ∧ ival y fs = .iface 72 (.string (mkB y.s))) ∨ (y.kind = 6 ∧ ival y fs = .iface 73 (.int .i32 (IntKind.i32.wrap y.n))) ∨ (y.kind = 7 ∧ ival y fs = .iface 76 (.agg #[.int .i64 y.type, fs, .string (mkB y.s)])) ∨ ((y.kind < 1 ∨ 7 < y.kind) ∧ ival y fs = .nilIface) := by
  unfold ival
  by_cases h1 : y.kind = 1
  · left; rw [if_pos h1]; exact ⟨h1, rfl⟩
  by_cases h2 : y.kind = 2
  · right; left; rw [if_neg h1, if_pos h2]; exact ⟨h2, rfl⟩
  by_cases h3 : y.kind = 3
  · right; right; left; rw [if_neg h1, if_neg h2, if_pos h3]; exact ⟨h3, rfl⟩
  by_cases h4 : y.kind = 4
  · right; right; right; left; rw [if_neg h1, if_neg h2, if_neg h3, if_pos h4]; exact ⟨h4, rfl⟩
  by_cases h5 : y.kind = 5
  · right; right; right; right; left; rw [if_neg h1, if_neg h2, if_neg h3, if_neg h4, if_pos h5]; exact ⟨h5, rfl⟩
  by_cases h6 : y.kind = 6
  · right; right; right; right; right; left; rw [if_neg h1, if_neg h2, if_neg h3, if_neg h4, if_neg h5, if_pos h6]; exact ⟨h6, rfl⟩
  by_cases h7 : y.kind = 7
  · right; right; right; right; right; right; left; rw [if_neg h1, if_neg h2, if_neg h3, if_neg h4, if_neg h5, if_neg h6, if_pos h7]; exact ⟨h7, rfl⟩
  · right; right; right; right; right; right; right; rw [if_neg h1, if_neg h2, if_neg h3, if_neg h4, if_neg h5, if_neg h6, if_neg h7]; exact ⟨by omega, rfl⟩
theorem taInt (y : Nd) (fs : Value) (W : World) : (Instr.typeAssert (ival y fs) 38 68 true).run Tryz.prog W = .ok (.tuple #[if y.kind = 1 then .int .i64 y.n else .int .i64 0, .bool (decide (y.kind = 1))]) W :=
  ta_any 1 68 (.int .i64) (.int .i64 0) (fun y _ => .int .i64 y.n) y fs (by kernel_rfl) (fun m h => by cases h) (by kernel_rfl)
    (fun y fs h => by rcases ival_cases y fs with ⟨k, e⟩ | ⟨k, e⟩ | ⟨k, e⟩ | ⟨k, e⟩ | ⟨k, e⟩ | ⟨k, e⟩ | ⟨k, e⟩ | ⟨k, e⟩ <;> first | exact e | omega)
    (fun y fs h => by rcases ival_cases y fs with ⟨k, e⟩ | ⟨k, e⟩ | ⟨k, e⟩ | ⟨k, e⟩ | ⟨k, e⟩ | ⟨k, e⟩ | ⟨k, e⟩ | ⟨k, e⟩ <;> first | exact absurd k h | exact .inl ⟨_, _, e, by decide⟩ | exact .inr e) W
theorem taUint (y : Nd) (fs : Value) (W : World) : (Instr.typeAssert (ival y fs) 38 69 true).run Tryz.prog W = .ok (.tuple #[if y.kind = 2 then .int .u64 y.u else .int .u64 0, .bool (decide (y.kind = 2))]) W :=
  ta_any 2 69 (.int .u64) (.int .u64 0) (fun y _ => .int .u64 y.u) y fs (by kernel_rfl) (fun m h => by cases h) (by kernel_rfl)
    (fun y fs h => by rcases ival_cases y fs with ⟨k, e⟩ | ⟨k, e⟩ | ⟨k, e⟩ | ⟨k, e⟩ | ⟨k, e⟩ | ⟨k, e⟩ | ⟨k, e⟩ | ⟨k, e⟩ <;> first | exact e | omega)
    (fun y fs h => by rcases ival_cases y fs with ⟨k, e⟩ | ⟨k, e⟩ | ⟨k, e⟩ | ⟨k, e⟩ | ⟨k, e⟩ | ⟨k, e⟩ | ⟨k, e⟩ | ⟨k, e⟩ <;> first | exact absurd k h | exact .inl ⟨_, _, e, by decide⟩ | exact .inr e) W
theorem taBool (y : Nd) (fs : Value) (W : World) : (Instr.typeAssert (ival y fs) 38 70 true).run Tryz.prog W = .ok (.tuple #[if y.kind = 3 then .bool y.b else .bool false, .bool (decide (y.kind = 3))]) W :=
  ta_any 3 70 (.bool) (.bool false) (fun y _ => .bool y.b) y fs (by kernel_rfl) (fun m h => by cases h) (by kernel_rfl)
    (fun y fs h => by rcases ival_cases y fs with ⟨k, e⟩ | ⟨k, e⟩ | ⟨k, e⟩ | ⟨k, e⟩ | ⟨k, e⟩ | ⟨k, e⟩ | ⟨k, e⟩ | ⟨k, e⟩ <;> first | exact e | omega)
    (fun y fs h => by rcases ival_cases y fs with ⟨k, e⟩ | ⟨k, e⟩ | ⟨k, e⟩ | ⟨k, e⟩ | ⟨k, e⟩ | ⟨k, e⟩ | ⟨k, e⟩ | ⟨k, e⟩ <;> first | exact absurd k h | exact .inl ⟨_, _, e, by decide⟩ | exact .inr e) W
theorem taText (y : Nd) (fs : Value) (W : World) : (Instr.typeAssert (ival y fs) 38 71 true).run Tryz.prog W = .ok (.tuple #[if y.kind = 4 then .string (mkB y.s) else .string ⟨#[]⟩, .bool (decide (y.kind = 4))]) W :=
  ta_any 4 71 (.string) (.string ⟨#[]⟩) (fun y _ => .string (mkB y.s)) y fs (by kernel_rfl) (fun m h => by cases h) (by kernel_rfl)
    (fun y fs h => by rcases ival_cases y fs with ⟨k, e⟩ | ⟨k, e⟩ | ⟨k, e⟩ | ⟨k, e⟩ | ⟨k, e⟩ | ⟨k, e⟩ | ⟨k, e⟩ | ⟨k, e⟩ <;> first | exact e | omega)
    (fun y fs h => by rcases ival_cases y fs with ⟨k, e⟩ | ⟨k, e⟩ | ⟨k, e⟩ | ⟨k, e⟩ | ⟨k, e⟩ | ⟨k, e⟩ | ⟨k, e⟩ | ⟨k, e⟩ <;> first | exact absurd k h | exact .inl ⟨_, _, e, by decide⟩ | exact .inr e) W
theorem taBytes (y : Nd) (fs : Value) (W : World) : (Instr.typeAssert (ival y fs) 38 72 true).run Tryz.prog W = .ok (.tuple #[if y.kind = 5 then .string (mkB y.s) else .string ⟨#[]⟩, .bool (decide (y.kind = 5))]) W :=
  ta_any 5 72 (.string) (.string ⟨#[]⟩) (fun y _ => .string (mkB y.s)) y fs (by kernel_rfl) (fun m h => by cases h) (by kernel_rfl)
    (fun y fs h => by rcases ival_cases y fs with ⟨k, e⟩ | ⟨k, e⟩ | ⟨k, e⟩ | ⟨k, e⟩ | ⟨k, e⟩ | ⟨k, e⟩ | ⟨k, e⟩ | ⟨k, e⟩ <;> first | exact e | omega)
    (fun y fs h => by rcases ival_cases y fs with ⟨k, e⟩ | ⟨k, e⟩ | ⟨k, e⟩ | ⟨k, e⟩ | ⟨k, e⟩ | ⟨k, e⟩ | ⟨k, e⟩ | ⟨k, e⟩ <;> first | exact absurd k h | exact .inl ⟨_, _, e, by decide⟩ | exact .inr e) W
theorem taEnum (y : Nd) (fs : Value) (W : World) : (Instr.typeAssert (ival y fs) 38 73 true).run Tryz.prog W = .ok (.tuple #[if y.kind = 6 then .int .i32 (IntKind.i32.wrap y.n) else .int .i32 0, .bool (decide (y.kind = 6))]) W :=
  ta_any 6 73 (.int .i32) (.int .i32 0) (fun y _ => .int .i32 (IntKind.i32.wrap y.n)) y fs (by kernel_rfl) (fun m h => by cases h) (by kernel_rfl)
    (fun y fs h => by rcases ival_cases y fs with ⟨k, e⟩ | ⟨k, e⟩ | ⟨k, e⟩ | ⟨k, e⟩ | ⟨k, e⟩ | ⟨k, e⟩ | ⟨k, e⟩ | ⟨k, e⟩ <;> first | exact e | omega)
    (fun y fs h => by rcases ival_cases y fs with ⟨k, e⟩ | ⟨k, e⟩ | ⟨k, e⟩ | ⟨k, e⟩ | ⟨k, e⟩ | ⟨k, e⟩ | ⟨k, e⟩ | ⟨k, e⟩ <;> first | exact absurd k h | exact .inl ⟨_, _, e, by decide⟩ | exact .inr e) W
theorem taMessage (y : Nd) (fs : Value) (W : World) : (Instr.typeAssert (ival y fs) 38 76 true).run Tryz.prog W = .ok (.tuple #[if y.kind = 7 then .agg #[.int .i64 y.type, fs, .string (mkB y.s)] else .agg #[.int .i64 0, .slice none 0 0, .string ⟨#[]⟩], .bool (decide (y.kind = 7))]) W :=
  ta_any 7 76 _ (.agg #[.int .i64 0, .slice none 0 0, .string ⟨#[]⟩]) (fun y fs => .agg #[.int .i64 y.type, fs, .string (mkB y.s)]) y fs Tryz.underlying76 (fun m h => by cases h) (by kernel_rfl)
    (fun y fs h => by rcases ival_cases y fs with ⟨k, e⟩ | ⟨k, e⟩ | ⟨k, e⟩ | ⟨k, e⟩ | ⟨k, e⟩ | ⟨k, e⟩ | ⟨k, e⟩ | ⟨k, e⟩ <;> first | exact e | omega)
    (fun y fs h => by rcases ival_cases y fs with ⟨k, e⟩ | ⟨k, e⟩ | ⟨k, e⟩ | ⟨k, e⟩ | ⟨k, e⟩ | ⟨k, e⟩ | ⟨k, e⟩ | ⟨k, e⟩ <;> first | exact absurd k h | exact .inl ⟨_, _, e, by decide⟩ | exact .inr e) W
end Go.Proofs.YtfhmombnipfimabGreatDoor
namespace Go.Proofs.YtfhmombnipfimabGreatDoor
set_option linter.unusedVariables false
open Go.ChangeShapes Go.WideShapes Go.ChangeAt Go.RowKit

set_option maxHeartbeats 1000000 in
theorem formedW_any (num ty n : Int) (a : Option Addr) (len cap : Nat) (w : World) :
    Calls Tryz.prog 91 #[fv num ty n a len cap] w fun e w' => e = .returned (.bool (fmd num ty n len)) ∧ Below w.heap.size w w' := by
  unfold fv
  go_enter Tryz.func91, Tryz.ntmps91
  go_wp2
  all_goals
    go_ret
    refine ⟨ret_bool ?_, (Below.refl _ _).alloc (Nat.le_refl _) _⟩
    try simp only [beq_iff_eq, beq_eq_false_iff_ne, ne_eq] at *
    unfold fmd
    rw [Bool.eq_iff_iff]
    simp
    omega
end Go.Proofs.YtfhmombnipfimabGreatDoor
namespace Go.Proofs.YtfhmombnipfimabGreatDoor
open Go.Shelf
def lays129_ren : Go.Shelf.Ren := ⟨fun | 129 => 120 | n => n, fun | 53 => 27 | 3 => 3 | 4 => 4 | 46 => 81 | 5 => 5 | 9 => 9 | n => n, fun | n => n⟩
theorem lays129 : Go.Proofs.Lays.n129 Tryz.prog lays129_ren := {
  mixed := by kernel_rfl
  f129 := Tryz.func120.trans (congrArg some (by kernel_rfl))
  t3 := Tryz.underlying3
  a3 := Tryz.isAgg3
  z3 := Tryz.sizeOf3
  v3 := Tryz.zeroValue3
  t4 := Tryz.underlying4
  a4 := Tryz.isAgg4
  z4 := Tryz.sizeOf4
  v4 := Tryz.zeroValue4
  t5 := Tryz.underlying5
  a5 := Tryz.isAgg5
  z5 := Tryz.sizeOf5
  v5 := Tryz.zeroValue5
  t9 := Tryz.underlying9
  a9 := Tryz.isAgg9
  z9 := Tryz.sizeOf9
  v9 := Tryz.zeroValue9
  t46 := Tryz.underlying81
  a46 := Tryz.isAgg81
  z46 := Tryz.sizeOf81
  v46 := Tryz.zeroValue81
  t53 := Tryz.underlying27
  a53 := Tryz.isAgg27
  z53 := Tryz.sizeOf27
  v53 := Tryz.zeroValue27 }
theorem bits_Len64 (x : Int) (w : World) (h0 : 0 ≤ x) (h1 : x ≤ 18446744073709551615) :
    Calls Tryz.prog 120 #[.int .u64 x] w fun e w' => e = .returned (.int .i64 (Lib.bitLen x.toNat)) ∧ w' = w := Any.bits_Len64 lays129 x w h0 h1
def laysSlK4_ren : Go.Shelf.Ren := ⟨fun | 4 => 77 | n => n, fun | 22 => 33 | 4 => 4 | 5 => 5 | n => n, fun | n => n⟩
theorem laysSlK4 : Go.Proofs.SlLaysK.n4 Tryz.prog laysSlK4_ren := {
  mixed := by kernel_rfl
  f4 := Tryz.func77.trans (congrArg some (by kernel_rfl))
  t4 := Tryz.underlying4
  a4 := Tryz.isAgg4
  z4 := Tryz.sizeOf4
  v4 := Tryz.zeroValue4
  t22 := Tryz.underlying33
  a22 := Tryz.isAgg33
  z22 := Tryz.sizeOf33
  v22 := Tryz.zeroValue33
  t5 := Tryz.underlying5
  i5 := by kernel_rfl }
open Go.RowKit Go.Lib in
theorem bytes_Clone_at (a : Addr) (n c : Nat) (xs : List Int) (w : World) (hx : xs.length = n) (hbig : n ≤ 140737488355328) (hc : ∀ i, i < n → w.cell? (a.add i) = some (.int .u8 (xs.getD i 0))) :
    Calls Tryz.prog 77 #[.slice (some a) n c] w fun e w' => ∃ v', e = .returned v' ∧ w'.ownsRow w.heap.size 5 1 v' n (xs.map (Value.int .u8)) ∧ v' ≠ .slice none 0 0 ∧ Below w.heap.size w w' := Any.bytes_Clone_at laysSlK4 a n c xs w hx hbig hc
end Go.Proofs.YtfhmombnipfimabGreatDoor
namespace Go.Proofs.YtfhmombnipfimabGreatDoor
set_option linter.unusedVariables false
open Go.ChangeShapes Go.WideShapes Go.ChangeAt Go.RowKit

theorem or128 (m : Int) (h : 0 ≤ m) : bits .or .u8 (m % 256) 128 = m % 128 + 128 := by
  rw [Lib.u8_or128_any _ (by omega) (by omega)]; omega

end Go.Proofs.YtfhmombnipfimabGreatDoor
namespace Go.Proofs.YtfhmombnipfimabGreatDoor
set_option linter.unusedVariables false
open Go.ChangeShapes Go.WideShapes Go.ChangeAt Go.RowKit

set_option maxHeartbeats 4000000 in
theorem ownT_any (k : Int) (w : World) : Calls Tryz.prog 100 #[.int .i64 k] w fun e w' => e = .returned (.int .i64 (ownT k)) ∧ w' = w := by
  unfold ownT
  by_cases h1 : k = 1
  · subst h1; go_enter Tryz.func100, Tryz.ntmps100
    go_wp2_with fail
    go_ret
    exact ⟨rfl, rfl⟩
  by_cases h2 : k = 2
  · subst h2; go_enter Tryz.func100, Tryz.ntmps100
    go_wp2_with fail
    go_ret
    exact ⟨rfl, rfl⟩
  by_cases h3 : k = 3
  · subst h3; go_enter Tryz.func100, Tryz.ntmps100
    go_wp2_with fail
    go_ret
    exact ⟨rfl, rfl⟩
  by_cases h4 : k = 4
  · subst h4; go_enter Tryz.func100, Tryz.ntmps100
    go_wp2_with fail
    go_ret
    exact ⟨rfl, rfl⟩
  by_cases h9 : k = 9
  · subst h9; go_enter Tryz.func100, Tryz.ntmps100
    go_wp2_with fail
    go_ret
    exact ⟨rfl, rfl⟩
  by_cases h7 : k = 7
  · subst h7; go_enter Tryz.func100, Tryz.ntmps100
    go_wp2_with fail
    go_ret
    exact ⟨rfl, rfl⟩
  by_cases h8 : k = 8
  · subst h8; go_enter Tryz.func100, Tryz.ntmps100
    go_wp2_with fail
    go_ret
    exact ⟨rfl, rfl⟩
  go_enter Tryz.func100, Tryz.ntmps100
  go_wp2_with fail
  go_ret
  exact ⟨rfl, rfl⟩
end Go.Proofs.YtfhmombnipfimabGreatDoor
namespace Go.Proofs.YtfhmombnipfimabGreatDoor
set_option linter.unusedVariables false
open Go.ChangeShapes Go.WideShapes Go.ChangeAt Go.RowKit

/-- a schema of a size that is looked at -/
def SmM (m : MD) : Prop := m.name.length ≤ 3000 ∧ m.fields.length ≤ 2000 ∧ ∀ f ∈ m.fields, f.name.length ≤ 3000
def SmE (m : ED) : Prop := m.name.length ≤ 3000 ∧ m.values.length ≤ 2000 ∧ ∀ f ∈ m.values, f.name.length ≤ 3000
def SmT (t : TD) : Prop := t.name.length ≤ 3000 ∧ t.service.length ≤ 3000
def SmS (s : SC) : Prop := s.ms.length + s.es.length + s.ts.length ≤ 2000 ∧ (∀ m ∈ s.ms, SmM m) ∧ (∀ m ∈ s.es, SmE m) ∧ ∀ t ∈ s.ts, SmT t
theorem all_next {α : Type} {P : α → Prop} {l : List α} {k : Nat} {y : α} (h : ∀ (j : Nat) (x : α), j < k → l[j]? = some x → P x) (hy : l[k]? = some y) (hp : P y) : ∀ (j : Nat) (x : α), j < k + 1 → l[j]? = some x → P x := fun j x hj hx => by
  by_cases hjk : j = k
  · subst hjk; rw [hy] at hx; cases hx; exact hp
  · exact h j x (by omega) hx
end Go.Proofs.YtfhmombnipfimabGreatDoor
