/-
  A law of append at slices of bytes, in the words of this seat: what was owned is owned with the new bytes behind it; nothing that was there before the call has turned. Nothing is proved of the program here.
  The walks over the document's own Formed and Same: whether a field is one, and whether two fields are alike. They make new memory alone.
  The walk over the document's own TakeField: of any bytes the field that stands at their beginning, or an error; it makes new memory alone.
  The walk over the document's own TakeField where the field has bytes of its own (type 2).
  The walks over the library's slices.Grow (of no slice) and slices.Concat at slices of bytes: the bytes of all slices, one behind the other, in new memory; nothing that was there is changed. No condition but that all together are at most 2^48 bytes.
-/
import Derived.Test.YtnopnjklcdcckaaGreatDoorM2
import Derived.Laws.AppendOwn
import Derived.Laws.AppendOwnNone
import Derived.OwnWalk
import Derived.ArgAppend
import Derived.Test.YtnopnjklcdcckaaGreatDoorRows
import Derived.Laws.BytesArg
import Derived.Laws.BytesString
import Derived.Laws.Concat
import Derived.Laws.Strings
import Derived.Deep.RegionLaw
import Derived.Deep.DeepCutAuto
import Derived.Laws.OwnMore
import Derived.Lib.AppendZeros
namespace Go.Proofs.YtnopnjklcdcckaaGreatDoor
set_option linter.unusedVariables false
open Go.ChangeShapes Go.WideShapes Go.ChangeAt Go.RowKit

/-- a slice of bytes that the call itself has made (its block's number is base or more): xs -/
def OwnB (w : World) (base : Nat) (v : Value) (xs : List Int) : Prop := w.ownsRow base 5 1 v xs.length (xs.map (Value.int .u8))

theorem own_isB {w : World} {base : Nat} {v : Value} {xs : List Int} (h : OwnB w base v xs) (hb : ∀ z ∈ xs, 0 ≤ z ∧ z ≤ 255) (hm : xs.length ≤ 281474976710656) :
    ∃ a c, v = .slice a xs.length c ∧ IsB w a xs.length xs ∧ xs.length ≤ c ∧ (a = none → xs.length = 0 ∧ c = 0) := by
  obtain ⟨_, h2⟩ := h
  rcases h2 with ⟨rfl, h0⟩ | ⟨g, cap, cur, rfl, hg, hh, h3, h4, h5, h6⟩
  · have hx : xs = [] := List.eq_nil_of_length_eq_zero h0
    subst hx
    exact ⟨none, 0, rfl, ⟨rfl, by simp, .inl rfl⟩, Nat.le_refl _, fun _ => ⟨rfl, rfl⟩⟩
  · refine ⟨_, cap, rfl, ⟨rfl, hm, .inr ⟨g, 0, rfl, ?_, hb⟩⟩, h3, fun h => by simp at h⟩
    intro j z hj
    have hjl : j < xs.length := by
      by_cases hjl : j < xs.length
      · exact hjl
      · rw [List.getElem?_eq_none (by omega)] at hj; simp at hj
    have e : cur.toList[j]? = some (.int .u8 z) := by
      have : (cur.toList.take (xs.length * 1))[j]? = (xs.map (Value.int .u8))[j]? := by rw [h6]
      rw [List.getElem?_take, if_pos (by omega), List.getElem?_map, hj] at this
      simpa using this
    rw [Nat.zero_add]
    simp only [World.cell?, hh]
    simpa using e
theorem isB_cells {w : World} {ad : Addr} {m : Nat} {zs : List Int} (h : IsB w (some ad) m zs) : ∀ j u, (zs.map (Value.int .u8))[j]? = some u → w.cell? (ad.add j) = some u := by
  intro j u hj
  rw [List.getElem?_map] at hj
  obtain ⟨_, _, rfl | ⟨b, off, hab, hh⟩⟩ := h
  · simp at hj
  · cases hq : zs[j]? with
    | none => rw [hq] at hj; simp at hj
    | some z =>
      rw [hq] at hj
      simp at hj
      subst hj
      cases hab
      rw [add_off]; exact hh.1 j z hq
theorem own_blockB {w : World} {base : Nat} {v : Value} {xs : List Int} (h : OwnB w base v xs) : ∀ k, v.ownBlock = some k → base ≤ k := by
  intro k hk
  obtain ⟨_, ⟨rfl, _⟩ | ⟨g, cap, cur, rfl, hg, _⟩⟩ := h
  · simp [Value.ownBlock] at hk
  · simp [Value.ownBlock] at hk; omega
theorem own_blk (w : World) (l : List Int) (hm : l.length ≤ maxLen) : OwnB (blk w 5 l) w.heap.size (.slice (some ⟨w.heap.size, 0, none⟩) l.length l.length) l :=
  ⟨by simp, .inr ⟨_, _, _, rfl, Nat.le_refl _, blk_heap w 5 l, Nat.le_refl _, hm, by simp, by simpa using List.take_of_length_le (by simp)⟩⟩

/-- owned, or an empty slice with no room -/
def OwnE (w : World) (base : Nat) (v : Value) (xs : List Int) : Prop := OwnB w base v xs ∨ (xs = [] ∧ ∃ g, v = .slice (some ⟨g, 0, none⟩) 0 0)

theorem own_mono {w : World} {base base' : Nat} {v : Value} {xs : List Int} (h : OwnB w base v xs) (hb : base' ≤ base) : OwnB w base' v xs := by
  obtain ⟨h1, h2 | ⟨g, cap, cur, hv, hg, r⟩⟩ := h
  · exact ⟨h1, .inl h2⟩
  · exact ⟨h1, .inr ⟨g, cap, cur, hv, by omega, r⟩⟩
theorem own_old {w w' : World} {base : Nat} {v : Value} {xs : List Int} (h : OwnB w base v xs) (hb : Below w.heap.size w w') : OwnB w' base v xs := by
  obtain ⟨h1, h2 | ⟨g, cap, cur, hv, hg, hh, r⟩⟩ := h
  · exact ⟨h1, .inl h2⟩
  · exact ⟨h1, .inr ⟨g, cap, cur, hv, hg, by rw [hb.block g (Array.getElem?_eq_some_iff.1 hh).1]; exact hh, r⟩⟩
theorem own_nil (w : World) (base : Nat) : OwnB w base (.slice none 0 0) [] := World.ownsRow_nil _ _ _ _
theorem runE_append (w : World) (ty : TypeId) (base : Nat) (v : Value) (xs : List Int) (hown : OwnE w base v xs)
    (ao : Option Addr) (m c : Nat) (zs : List Int) (hB : IsB w ao m zs) (hno : ao = none → m = 0 ∧ c = 0)
    (hbd : xs.length + m ≤ 140737488355328) (hbase : base ≤ w.heap.size) :
    ∃ v' w', (Builtin.append_ #[27, 27] ty #[v, .slice ao m c]).run Tryz.prog w = .ok v' w' ∧ OwnE w' base v' (xs ++ zs) ∧ Below base w w' := by
  obtain ⟨i0, hi, hz0, hz1, hz2⟩ := info_parts info5B
  have h1c : ∀ u ∈ zs.map (Value.int .u8), u.oneCell' = true := by intro u hu; simp at hu; obtain ⟨z, _, rfl⟩ := hu; rfl
  rcases hown with hown | ⟨rfl, g, rfl⟩
  · cases ao with
    | none =>
      obtain ⟨rfl, rfl⟩ := hno rfl
      have hz : zs = [] := List.eq_nil_of_length_eq_zero hB.1
      subst hz
      exact ⟨v, w, run_append_owned_none (P := Tryz.prog) (w := w) base 27 ty 5 i0 1 Tryz.underlying27 hi v _ _ hown, by rw [List.append_nil]; exact .inl hown, Below.refl _ _⟩
    | some ad =>
      obtain ⟨v', w', hr, h2, h3, _⟩ := run_append_own (P := Tryz.prog) w base 27 ty 5 i0 (.int .u8 0) 1 1 Tryz.underlying27 hi hz0 hz1 hz2 rfl (by decide) v _ _ hown ad m c (zs.map (Value.int .u8)) (by simp [hB.1]) (isB_cells hB) h1c (by unfold maxLen; omega) (by omega) hbase
      refine ⟨v', w', hr, .inl ?_, (Below.refl _ _).grown h3 hbase (own_blockB hown)⟩
      unfold OwnB
      rw [List.length_append, hB.1, List.map_append]
      exact h2
  · by_cases hm : m = 0
    · subst hm
      have hz : zs = [] := List.eq_nil_of_length_eq_zero hB.1
      subst hz
      refine ⟨.slice (some ⟨g, 0, none⟩) 0 0, w, ?_, .inr ⟨rfl, g, rfl⟩, Below.refl _ _⟩
      cases ao with
      | none =>
        obtain ⟨_, rfl⟩ := hno rfl
        simp [Builtin.append_, run_underlying Tryz.underlying27, sizeOf, typeInfo, hi, Builtin.lenOf, Builtin.firstCells, storeCells]
      | some ad =>
        have := run_append_room_cells (P := Tryz.prog) w 27 ty 5 i0 Tryz.underlying27 hi g 0 0 0 ad 0 c [] (by simp) (by simp) (by simp) (Nat.le_refl _) (by simp) (by simp)
        exact this
    · cases ao with
      | none => have := hno rfl; omega
      | some ad =>
        obtain ⟨v', w', hr, h2, h3⟩ := run_append_arg_grows (P := Tryz.prog) w 27 ty 5 i0 (.int .u8 0) 1 1 Tryz.underlying27 hi hz0 hz1 hz2 rfl (by decide) ⟨g, 0, none⟩ 0 0 [] (by simp) (by simp) ad m c (zs.map (Value.int .u8)) (by simp [hB.1]) (isB_cells hB) (by omega) (by unfold maxLen; omega) (by omega)
        refine ⟨v', w', hr, .inl ?_, (Below.refl _ _).grown h3 hbase (by intro k hk; simp at hk)⟩
        refine own_mono (base := w.heap.size) ?_ hbase
        unfold OwnB
        rw [List.nil_append, hB.1]
        simpa using h2

theorem stepE_append {w : World} {ops : Array Oper} {o : Oper} {a : Act} {K : Act → World → Prop} {Q : Exit → Act → World → Prop} {E : Prop} (hgd : o.guard = none) (s x : Operand)
    (ho : o.op = .call { callee := .builtin .append, args := #[s, x], argTypes := #[27, 27] })
    (base : Nat) (v : Value) (xs : List Int) (hs : a.eval s = v) (hown : OwnE w base v xs)
    (ao : Option Addr) (m c : Nat) (zs : List Int) (hx : a.eval x = .slice ao m c) (hB : IsB w ao m zs) (hno : ao = none → m = 0 ∧ c = 0)
    (hbd : xs.length + m ≤ 140737488355328) (hbase : base ≤ w.heap.size)
    (h : ∀ v' w', OwnE w' base v' (xs ++ zs) → Below base w w' → K (a.put o.dst v') w') : if Region.wanted o (yielded ops a.tmps) = true then Oper.wp Tryz.prog o a w K Q else E := by
  have hw : Region.wanted o (yielded ops a.tmps) = true := by simp [Region.wanted, hgd]
  rw [if_pos hw]
  obtain ⟨v', w', hrun, h1, h2⟩ := runE_append w o.type base v xs hown ao m c zs hB hno hbd hbase
  unfold Oper.wp
  simp [execOp, ho, resolve, invoke, builtin, hs, hx, hrun, Result.andThen]
  exact h v' w' h1 h2
end Go.Proofs.YtnopnjklcdcckaaGreatDoor
namespace Go.Proofs.YtnopnjklcdcckaaGreatDoor
set_option linter.unusedVariables false
open Go.ChangeShapes Go.WideShapes Go.ChangeAt Go.RowKit

/-- a field as a value -/
def fv (num ty n : Int) (a : Option Addr) (len cap : Nat) : Value := .agg #[.int .i64 num, .int .i64 ty, .int .u64 n, .slice a len cap]
/-- whether it is a field -/
def fmd (num ty n : Int) (len : Nat) : Bool :=
  decide (1 ≤ num ∧ num ≤ 536870911 ∧ (((ty = 0 ∨ ty = 1) ∧ len = 0) ∨ (ty = 5 ∧ len = 0 ∧ n < 4294967296) ∨ (ty = 2 ∧ n = 0)))
theorem ret_bool {a b : Bool} (h : a = b) : Ending.returned (.bool a) = .returned (.bool b) := by rw [h]

end Go.Proofs.YtnopnjklcdcckaaGreatDoor
namespace Go.Proofs.YtnopnjklcdcckaaGreatDoor
set_option linter.unusedVariables false
open Go.ChangeShapes Go.WideShapes Go.ChangeAt Go.RowKit

/-- what is taken of bytes as a field -/
structure TF where
  num : Int
  ty : Int
  n : Int
  data : List Int
  k : Int
  e : Int
def tfErr (e : Int) : TF := ⟨0, 0, 0, [], 0, e⟩
/-- what belongs to a field, behind its first varint: key: that; k0: how many bytes it had; rest: what stands behind it -/
def tfBody (key k0 : Int) (rest : List Int) : TF :=
  if key / 8 < 1 ∨ 536870911 < key / 8 ∨ ¬(key % 8 = 0 ∨ key % 8 = 1 ∨ key % 8 = 2 ∨ key % 8 = 5) then tfErr 2
  else if key % 8 = 0 then
    if (dec 0 0 rest).2.2 ≠ 0 then tfErr (dec 0 0 rest).2.2 else ⟨key / 8, 0, (dec 0 0 rest).1, [], k0 + (dec 0 0 rest).2.1, 0⟩
  else if key % 8 = 2 then
    if (dec 0 0 rest).2.2 ≠ 0 then tfErr (dec 0 0 rest).2.2
    else if (rest.length : Int) - (dec 0 0 rest).2.1 < (dec 0 0 rest).1 then tfErr 5
    else ⟨key / 8, 2, 0, (rest.drop (dec 0 0 rest).2.1.toNat).take (dec 0 0 rest).1.toNat, k0 + (dec 0 0 rest).2.1 + (dec 0 0 rest).1, 0⟩
  else if key % 8 = 5 then
    if rest.length < 4 then tfErr 5 else ⟨key / 8, 5, low (rest.take 4), [], k0 + 4, 0⟩
  else
    if rest.length < 8 then tfErr 5 else ⟨key / 8, 1, low (rest.take 8), [], k0 + 8, 0⟩
def tf (zs : List Int) : TF :=
  if (dec 0 0 zs).2.2 ≠ 0 then tfErr (dec 0 0 zs).2.2 else tfBody (dec 0 0 zs).1 (dec 0 0 zs).2.1 (zs.drop (dec 0 0 zs).2.1.toNat)

/-- a slice of bytes, whose elements are zs, in a block whose number is base or more -/
def NewB (w : World) (base : Nat) (a : Option Addr) (len : Nat) (zs : List Int) : Prop :=
  zs.length = len ∧ len ≤ 281474976710656 ∧ (zs = [] ∨ ∃ b off, a = some ⟨b, off, none⟩ ∧ base ≤ b ∧ Held w b off zs)
theorem NewB.isB {w : World} {base : Nat} {a : Option Addr} {len : Nat} {zs : List Int} (h : NewB w base a len zs) : IsB w a len zs :=
  ⟨h.1, h.2.1, h.2.2.imp id fun ⟨b, off, h1, _, h3⟩ => ⟨b, off, h1, h3⟩⟩
theorem NewB.mono {w : World} {base base' : Nat} {a : Option Addr} {len : Nat} {zs : List Int} (h : NewB w base a len zs) (hb : base' ≤ base) : NewB w base' a len zs :=
  ⟨h.1, h.2.1, h.2.2.imp id fun ⟨b, off, h1, h2, h3⟩ => ⟨b, off, h1, Nat.le_trans hb h2, h3⟩⟩
/-- the same bytes lie in a world in which the cells from base on that were there are as they were -/
theorem NewB.cells {w w2 : World} {base : Nat} {a : Option Addr} {len : Nat} {zs : List Int} (h : NewB w base a len zs)
    (hc : ∀ b o v, base ≤ b → b < w.heap.size → w.cell? ⟨b, o, none⟩ = some v → w2.cell? ⟨b, o, none⟩ = some v) : NewB w2 base a len zs :=
  ⟨h.1, h.2.1, h.2.2.imp id fun ⟨b, off, h1, h2, h3⟩ => ⟨b, off, h1, h2, fun j z hj => hc _ _ _ h2 (cell_ltB (h3.1 j z hj)) (h3.1 j z hj), h3.2⟩⟩
/-- the world with nothing in the blocks below -/
def blank (w : World) (B : Nat) : World := { w with heap := w.heap.mapIdx fun i o => if i < B then .cells #[] 0 else o }
theorem blank_high (w : World) (B b o : Nat) (h : B ≤ b) : (blank w B).cell? ⟨b, o, none⟩ = w.cell? ⟨b, o, none⟩ := by
  have hn : ¬ b < B := by omega
  simp [World.cell?, blank, Array.getElem?_mapIdx, hn]
theorem blank_low (w : World) (B b o : Nat) (h : b < B) : (blank w B).cell? ⟨b, o, none⟩ = none := by
  simp [World.cell?, blank, Array.getElem?_mapIdx, h]
  cases w.heap[b]? <;> simp
theorem stable_newB {w : World} {B : Nat} {a : Option Addr} {len : Nat} {zs : List Int} (h : ∀ w2, (∀ b o, B ≤ b → w2.cell? ⟨b, o, none⟩ = w.cell? ⟨b, o, none⟩) → IsB w2 a len zs) : NewB w B a len zs := by
  obtain ⟨h1, h2, h3⟩ := h w (fun _ _ _ => rfl)
  refine ⟨h1, h2, ?_⟩
  rcases h3 with h3 | ⟨b, off, rfl, hh⟩
  · exact .inl h3
  · by_cases h0 : zs = []
    · exact .inl h0
    · refine .inr ⟨b, off, rfl, ?_, hh⟩
      obtain ⟨_, _, h5 | ⟨b', off', hab, hh'⟩⟩ := h (blank w B) (fun b o hb => blank_high w B b o hb)
      · exact absurd h5 h0
      · cases hab
        cases zs with
        | nil => exact absurd rfl h0
        | cons z zs =>
          have hc := hh'.1 0 z rfl
          by_cases hb : b < B
          · rw [blank_low _ _ _ _ hb] at hc; simp at hc
          · omega

/-- a slice without an address is empty; and how far a slice can grow -/
def NoA (a : Option Addr) (l c : Nat) : Prop := (a = none → l = 0 ∧ c = 0) ∧ l ≤ c ∧ c ≤ 9223372036854775807
theorem NoA.zero : NoA none 0 0 := ⟨fun _ => ⟨rfl, rfl⟩, by omega, by omega⟩
/-- what a call that takes a field answers; its bytes lie in memory that the call has made -/
def TfAns (w w' : World) (e : Ending) (r : TF) : Prop :=
  ∃ a len cap, e = .returned (.tuple #[fv r.num r.ty r.n a len cap, .int .i64 r.k, .int .i64 r.e]) ∧ NewB w' w.heap.size a len r.data ∧ NoA a len cap ∧ Below w.heap.size w w'

theorem tfErr_ans (w w' : World) (x : Int) (hb : Below w.heap.size w w') :
    TfAns w w' (.returned (.tuple #[.agg #[.int .i64 0, .int .i64 0, .int .u64 0, .slice none 0 0], .int .i64 0, .int .i64 x])) (tfErr x) :=
  ⟨none, 0, 0, rfl, ⟨rfl, by simp, .inl rfl⟩, NoA.zero, hb⟩

theorem isB_dropAt {w : World} {b off len : Nat} {zs : List Int} (hB : IsB w (some ⟨b, off, none⟩) len zs) (k : Nat) (hk : k < len) : IsB w (some ⟨b, off + k, none⟩) (len - k) (zs.drop k) := by
  obtain ⟨h1, h2, h3⟩ := hB
  refine ⟨by rw [List.length_drop]; omega, by omega, ?_⟩
  rcases h3 with h3 | ⟨b', off', hab, hh⟩
  · rw [h3] at h1; simp at h1; omega
  · cases hab
    refine .inr ⟨_, _, rfl, ?_, fun z hz => hh.2 z (List.mem_of_mem_drop hz)⟩
    intro j z hj
    rw [List.getElem?_drop] at hj
    have := hh.1 (k + j) z hj
    rw [Nat.add_assoc]; exact this
theorem isB_end {w : World} {a : Option Addr} {len : Nat} {zs : List Int} (hB : IsB w a len zs) (a' : Option Addr) : IsB w a' 0 (zs.drop len) :=
  ⟨by rw [List.length_drop]; have := hB.1; omega, by omega, .inl (List.drop_eq_nil_of_le (by have := hB.1; omega))⟩

/-- the elements of a slice from the k-th on, as Go cuts it: at the end of its room the address stays -/
def cutAt (b off cap k : Nat) : Addr := if cap = k then ⟨b, off, none⟩ else ⟨b, off + k, none⟩
theorem cutAt_end (b off m : Nat) : cutAt b off m m = ⟨b, off, none⟩ := by unfold cutAt; rw [if_pos rfl]
theorem cutAt_in {b off m k : Nat} (h : ¬ m = k) : cutAt b off m k = ⟨b, off + k, none⟩ := by unfold cutAt; rw [if_neg h]
theorem isB_cut {w : World} {b off len cap : Nat} {zs : List Int} (hB : IsB w (some ⟨b, off, none⟩) len zs) (hc : len ≤ cap) (k : Nat) (hk : k ≤ len) : IsB w (some (cutAt b off cap k)) (len - k) (zs.drop k) := by
  by_cases h : k = len
  · subst h
    rw [Nat.sub_self]; exact isB_end hB _
  · unfold cutAt
    rw [if_neg (by omega)]
    exact isB_dropAt hB k (by omega)

end Go.Proofs.YtnopnjklcdcckaaGreatDoor
namespace Go.Proofs.YtnopnjklcdcckaaGreatDoor
set_option linter.unusedVariables false
open Go.ChangeShapes Go.WideShapes Go.ChangeAt Go.RowKit

theorem ownE_isB {w : World} {base : Nat} {v : Value} {xs : List Int} (h : OwnE w base v xs) (hb : ∀ z ∈ xs, 0 ≤ z ∧ z ≤ 255) (hm : xs.length ≤ 281474976710656) :
    ∃ a c, v = .slice a xs.length c ∧ NoA a xs.length c ∧ ∀ w', (∀ b o, base ≤ b → w'.cell? ⟨b, o, none⟩ = w.cell? ⟨b, o, none⟩) → IsB w' a xs.length xs := by
  rcases h with h | ⟨rfl, g, rfl⟩
  · obtain ⟨a, c, hv, hI, hlc, hno⟩ := own_isB h hb hm
    have hcm : c ≤ 9223372036854775807 := by
      obtain ⟨_, ⟨h5, _⟩ | ⟨g, cap, cur, h5, _, _, _, h4, _⟩⟩ := h
      · have := (Value.slice.inj (hv.symm.trans h5)).2.2; omega
      · have := (Value.slice.inj (hv.symm.trans h5)).2.2; unfold maxLen at h4; omega
    refine ⟨a, c, hv, ⟨hno, hlc, hcm⟩, ?_⟩
    intro w' hw
    obtain ⟨h1, h2, h3⟩ := hI
    refine ⟨h1, h2, ?_⟩
    rcases h3 with h3 | ⟨g, off, ha, hh⟩
    · exact .inl h3
    · by_cases hx : xs = []
      · exact .inl hx
      · refine .inr ⟨g, off, ha, ?_, hh.2⟩
        intro j z hj
        rw [hw g _ ?_]
        · exact hh.1 j z hj
        · refine own_blockB h g ?_
          rw [hv, ha]; rfl
  · exact ⟨_, 0, rfl, ⟨fun h => by simp at h, Nat.le_refl _, by omega⟩, fun w' _ => ⟨rfl, by simp, .inl rfl⟩⟩
end Go.Proofs.YtnopnjklcdcckaaGreatDoor
namespace Go.Proofs.YtnopnjklcdcckaaGreatDoor
set_option linter.unusedVariables false
open Go.ChangeShapes Go.WideShapes Go.ChangeAt Go.RowKit

/-- a slice that the call has made: xs, with room for n in all -/
def Fits (w : World) (base : Nat) (v : Value) (xs : List Int) (n : Nat) : Prop :=
  OwnB w base v xs ∧ ((v = .slice none 0 0 ∧ n = 0) ∨ ∃ g cap, v = .slice (some ⟨g, 0, none⟩) xs.length cap ∧ n ≤ cap)

theorem runF_append (w : World) (ty : TypeId) (base : Nat) (v : Value) (xs : List Int) (n : Nat) (hf : Fits w base v xs n)
    (ao : Option Addr) (m c : Nat) (zs : List Int) (hB : IsB w ao m zs) (hno : ao = none → m = 0 ∧ c = 0)
    (hbd : xs.length + m ≤ n) (hbase : base ≤ w.heap.size) :
    ∃ v' w', (Builtin.append_ #[27, 27] ty #[v, .slice ao m c]).run Tryz.prog w = .ok v' w' ∧ Fits w' base v' (xs ++ zs) n ∧ Below base w w' := by
  obtain ⟨i0, hi, hz0, hz1, hz2⟩ := info_parts info5B
  obtain ⟨hown, hv⟩ := hf
  have h1c : ∀ u ∈ zs.map (Value.int .u8), u.oneCell' = true := by intro u hu; simp at hu; obtain ⟨z, _, rfl⟩ := hu; rfl
  cases ao with
  | none =>
    obtain ⟨rfl, rfl⟩ := hno rfl
    have hz : zs = [] := List.eq_nil_of_length_eq_zero hB.1
    subst hz
    refine ⟨v, w, run_append_owned_none (P := Tryz.prog) (w := w) base 27 ty 5 i0 1 Tryz.underlying27 hi v _ _ hown, ?_, Below.refl _ _⟩
    rw [List.append_nil]
    exact ⟨hown, hv⟩
  | some ad =>
    rcases hv with ⟨rfl, rfl⟩ | ⟨g, cap, rfl, hn⟩
    · obtain rfl : m = 0 := by omega
      have hz : zs = [] := List.eq_nil_of_length_eq_zero hB.1
      subst hz
      obtain ⟨v', w', hr, h2, h3, h4⟩ := run_append_own (P := Tryz.prog) w base 27 ty 5 i0 (.int .u8 0) 1 1 Tryz.underlying27 hi hz0 hz1 hz2 rfl (by decide) _ _ _ hown ad 0 c [] (by simp) (by simp) (by simp) (by unfold maxLen; omega) (by omega) hbase
      obtain rfl := h4.2 ⟨rfl, rfl⟩
      refine ⟨_, w', hr, ⟨?_, .inl ⟨rfl, rfl⟩⟩, (Below.refl _ _).grown h3 hbase (own_blockB hown)⟩
      rw [List.append_nil] at h2 ⊢
      exact h2
    · obtain ⟨w', hr, h2, h3⟩ := run_append_fits (P := Tryz.prog) w base 27 ty 5 i0 1 Tryz.underlying27 hi hz1 g xs.length cap (xs.map (Value.int .u8)) hown ad m c (zs.map (Value.int .u8)) (by simp [hB.1]) (isB_cells hB) h1c (by omega)
      refine ⟨_, w', hr, ⟨?_, .inr ⟨g, cap, ?_, hn⟩⟩, (Below.refl _ _).grown h3 hbase ?_⟩
      · unfold OwnB
        rw [List.length_append, hB.1, List.map_append]
        exact h2
      · rw [List.length_append, hB.1]
      · intro k hk
        exact own_blockB hown k hk
theorem wpF_append {w : World} {ops : Array Oper} {rest : List Oper} {o : Oper} {a : Act} {Q : Exit → Act → World → Prop} (hgd : o.guard = none) (s x : Operand)
    (ho : o.op = .call { callee := .builtin .append, args := #[s, x], argTypes := #[27, 27] })
    (base : Nat) (v : Value) (xs : List Int) (n : Nat) (hs : a.eval s = v) (hown : Fits w base v xs n)
    (ao : Option Addr) (m c : Nat) (zs : List Int) (hx : a.eval x = .slice ao m c) (hB : IsB w ao m zs) (hno : ao = none → m = 0 ∧ c = 0)
    (hbd : xs.length + m ≤ n) (hbase : base ≤ w.heap.size)
    (h : ∀ v' w', Fits w' base v' (xs ++ zs) n → Below base w w' → wpList Tryz.prog ops Q rest (a.put o.dst v') w') : wpList Tryz.prog ops Q (o :: rest) a w := by
  obtain ⟨v', w', hrun, h1, h2⟩ := runF_append w o.type base v xs n hown ao m c zs hB hno hbd hbase
  refine wpList_plain hgd fun K hK => ?_
  unfold Oper.wp
  simp [execOp, ho, resolve, invoke, builtin, hs, hx, hrun, Result.andThen]
  exact hK _ _ (h v' w' h1 h2)

set_option maxHeartbeats 1000000 in
theorem growS_any (n : Nat) (w : World) (h : n ≤ 281474976710656) :
    Calls Tryz.prog 115 #[.slice none 0 0, .int .i64 n] w fun e w' =>
      ∃ v', e = .returned v' ∧ Fits w' w.heap.size v' [] n ∧ Below w.heap.size w w' := by
  by_cases h0 : n = 0
  · subst h0
    go_enter Tryz.func115, Tryz.ntmps115
    go_wp2_with fail
    go_ret
    exact ⟨_, rfl, ⟨own_nil _ _, .inl ⟨rfl, rfl⟩⟩, Below.refl _ _⟩
  · obtain ⟨i0, hi, hz0, hz1, hz2⟩ := info_parts info5B
    have hr := fun ty => Lib.run_append_nil_zeros (P := Tryz.prog) w 27 3 ty 5 i0 (.int .u8 0) .i64 .i64 Tryz.underlying27 Tryz.underlying3 hi hz0 n (by omega) (by omega) (by omega) (by rw [hz2]; omega)
    have hge := grownCap_ge w n 0 5
    have hle := grownCap_le_maxLen w n 0 5 (by unfold maxLen; omega)
    have HF : Hid (Fits (w.drew.alloc (.cells (Builtin.zeroCells (Value.int .u8 0).cells n ++ Builtin.zeroCells (Value.int .u8 0).cells (grownCap w n 0 5 - n)) 5)) w.heap.size (.slice (some ⟨w.heap.size, 0, none⟩) 0 (grownCap w n 0 5)) [] n) := by
      refine (?_ : Fits _ _ _ _ _)
      refine ⟨World.ownsRow_made w.drew _ _ (by simp) hle ?_, .inr ⟨_, _, rfl, hge⟩⟩
      simp only [Array.size_append, size_zeroCells]
      show n * 1 + (grownCap w n 0 5 - n) * 1 = _
      omega
    have HB : Hid (Below w.heap.size w (w.drew.alloc (.cells (Builtin.zeroCells (Value.int .u8 0).cells n ++ Builtin.zeroCells (Value.int .u8 0).cells (grownCap w n 0 5 - n)) 5))) :=
      ((Below.refl _ _).drew).alloc (by simp) _
    have hle2 : (grownCap w n 0 5 : Int) ≤ 9223372036854775807 := by unfold maxLen at hle; omega
    generalize grownCap w n 0 5 = G at *
    generalize w.drew.alloc (.cells (Builtin.zeroCells (Value.int .u8 0).cells n ++ Builtin.zeroCells (Value.int .u8 0).cells (G - n)) 5) = W at *
    clear hle hi hz0 hz1 hz2
    go_enter Tryz.func115, Tryz.ntmps115
    go_wp2_with (at_builtin; refine Lib.wpList_append_run _ rfl _ _ _ _ rfl _ _ rfl rfl _ _ (hr _) ?_)
    go_ret
    exact ⟨_, rfl, HF.out, HB.out⟩

/-- a slice of bytes, with its elements -/
structure Row3 where
  a : Option Addr
  len : Nat
  cap : Nat
  zs : List Int
def RowOk (w : World) (r : Row3) : Prop := IsB w r.a r.len r.zs ∧ (r.a = none → r.len = 0 ∧ r.cap = 0)
def total (rs : List Row3) : Nat := (rs.map (·.len)).sum
def joined (rs : List Row3) : List Int := rs.flatMap (·.zs)
theorem total_take {rs : List Row3} {k : Nat} {r : Row3} (h : rs[k]? = some r) : total (rs.take (k + 1)) = total (rs.take k) + r.len := by
  unfold total
  rw [List.take_add_one, h]
  simp
theorem joined_take {rs : List Row3} {k : Nat} {r : Row3} (h : rs[k]? = some r) : joined (rs.take (k + 1)) = joined (rs.take k) ++ r.zs := by
  unfold joined
  rw [List.take_add_one, h]
  simp
theorem total_le (rs : List Row3) (k : Nat) : total (rs.take k) ≤ total rs := by
  unfold total
  rw [show (rs.map (·.len)).sum = ((rs.take k ++ rs.drop k).map (·.len)).sum by rw [List.take_append_drop], List.map_append, List.sum_append]
  omega
theorem joined_length {w : World} : ∀ {rs : List Row3} (h : ∀ r ∈ rs, RowOk w r), (joined rs).length = total rs
  | [], _ => rfl
  | r :: rs, h => by
    have ih := joined_length (w := w) (rs := rs) (fun x hx => h x (List.mem_cons_of_mem _ hx))
    have hr := (h r List.mem_cons_self).1.1
    unfold joined total at *
    simp only [List.flatMap_cons, List.length_append, List.map_cons, List.sum_cons]
    omega

set_option maxHeartbeats 2000000 in
theorem concat_any (rs : List Row3) (g N : Nat) (w : World) (hN : rs.length = N) (hN2 : N ≤ 1000) (hc : ∀ k r, rs[k]? = some r → w.cell? ⟨g, k, none⟩ = some (.slice r.a r.len r.cap))
    (hok : ∀ r ∈ rs, RowOk w r) (ht : total rs ≤ 281474976710656) :
    Calls Tryz.prog 102 #[.slice (some ⟨g, 0, none⟩) N N] w fun e w' =>
      ∃ v', e = .returned v' ∧ OwnB w' w.heap.size v' (joined rs) ∧ Below w.heap.size w w' := by
  have HC : Hid (∀ k r, rs[k]? = some r → w.cell? ⟨g, k, none⟩ = some (.slice r.a r.len r.cap)) := hc
  have HK : Hid (∀ r ∈ rs, RowOk w r) := hok
  have HN : Hid (rs.length = N) := hN
  have HT : Hid (total rs ≤ 281474976710656) := ht
  clear hc hok hN ht
  go_enter Tryz.func102, Tryz.ntmps102
  go_wp2_with fail
  go_loop [3, 11] (fun s i => ∃ (k t : Nat), k ≤ N ∧ total (rs.take k) = t ∧ i = .int .i64 k ∧ s = .int .i64 t) (fun _ i => N - (intOf i).toNat)
  case atStart => exact ⟨0, 0, by omega, rfl, rfl, rfl⟩
  case round =>
    obtain ⟨k, t, hk, htk, rfl, rfl⟩ := hrel
    have HTK : Hid (total (rs.take k) = t) := htk
    clear htk
    have htl : t ≤ 281474976710656 := by have := HTK.out; have := total_le rs k; have := HT.out; omega
    by_cases hlt : k < N
    · obtain ⟨r, hr⟩ : ∃ r, rs[k]? = some r := ⟨_, List.getElem?_eq_getElem (by have := HN.out; omega)⟩
      have hcell := HC.out k r hr
      have HR : Hid (total (rs.take (k + 1)) = t + r.len) := by
        refine (?_ : total (rs.take (k + 1)) = t + r.len)
        rw [total_take hr, HTK.out]
      have hrl : t + r.len ≤ 281474976710656 := by have := HR.out; have := total_le rs (k + 1); have := HT.out; omega
      clear hr
      generalize r.len = rl at *
      generalize r.a = ra at *
      generalize r.cap = rc at *
      go_wp2_with fail
      go_round
      case rel => exact ⟨k + 1, t + rl, by omega, HR.out, by go_num, by go_num⟩
      case measure => simp [intOf]; omega
    · obtain rfl : k = N := by omega
      have HTT : Hid (total rs = t) := by
        refine (?_ : total rs = t)
        rw [← HTK.out, List.take_of_length_le (by have := HN.out; omega)]
      clear HTK
      go_wp2_with fail
      refine (growS_any t _ htl).mono ?_
      rintro e w1 ⟨v1, rfl, hf1, hb1⟩
      have HF1 : Hid (Fits w1 w.heap.size v1 [] t) := hf1
      have HB1 : Hid (Below w.heap.size w w1) := hb1
      clear hf1 hb1
      go_wp2_with fail
      go_loopw [6, 27] (fun v i wr => ∃ (q : Nat), q ≤ k ∧ i = .int .i64 q ∧ Fits wr w.heap.size v (joined (rs.take q)) t ∧ Below w.heap.size w wr) (fun _ i _ => k - (intOf i).toNat)
      case atStart => exact ⟨0, by omega, rfl, HF1.out, HB1.out⟩
      case round =>
        obtain ⟨q, hq, rfl, hfq, hbq⟩ := hrel
        have HFQ : Hid (Fits wr w.heap.size u6 (joined (rs.take q)) t) := hfq
        have HBQ : Hid (Below w.heap.size w wr) := hbq
        have hszq := hbq.size
        clear hfq hbq
        by_cases hlq : q < k
        · obtain ⟨r, hr⟩ : ∃ r, rs[q]? = some r := ⟨_, List.getElem?_eq_getElem (by have := HN.out; omega)⟩
          have hcell : wr.cell? ⟨g, q, none⟩ = some (.slice r.a r.len r.cap) := (HBQ.out.cell (cell_ltB (HC.out q r hr))).trans (HC.out q r hr)
          have HRK : Hid (RowOk w r) := HK.out r (List.mem_of_getElem? hr)
          have HJ : Hid (joined (rs.take (q + 1)) = joined (rs.take q) ++ r.zs) := joined_take hr
          have HLJ : Hid ((joined (rs.take q)).length + r.len ≤ t) := by
            refine (?_ : (joined (rs.take q)).length + r.len ≤ t)
            rw [joined_length (w := w) (fun x hx => HK.out x (List.mem_of_mem_take hx)), ← total_take hr, ← HTT.out]
            exact total_le _ _
          clear hr
          have HRB : Hid (IsB wr r.a r.len r.zs) := isB_old HRK.out.1 HBQ.out
          have HRN : Hid (r.a = none → r.len = 0 ∧ r.cap = 0) := HRK.out.2
          clear HRK
          generalize r.len = rl at *
          generalize r.a = ra at *
          generalize r.cap = rc at *
          generalize r.zs = rz at *
          go_wp2_with (at_builtin; refine wpF_append rfl (.tmp 31) (.tmp 32) rfl w.heap.size u6 (joined (rs.take q)) t rfl HFQ.out ra rl rc rz rfl HRB.out HRN.out HLJ.out hszq ?_; intro v2 w2 hf2 hb2)
          go_roundw
          case rel => exact ⟨q + 1, by omega, by go_num, by rw [HJ.out]; exact hf2, HBQ.out.trans hb2⟩
          case measure => simp [intOf]; omega
        · obtain rfl : q = k := by omega
          go_wp2_with fail
          go_ret
          refine ⟨_, rfl, ?_, HBQ.out⟩
          have := HFQ.out.1
          rw [List.take_of_length_le (by have := HN.out; omega)] at this
          exact this
end Go.Proofs.YtnopnjklcdcckaaGreatDoor
