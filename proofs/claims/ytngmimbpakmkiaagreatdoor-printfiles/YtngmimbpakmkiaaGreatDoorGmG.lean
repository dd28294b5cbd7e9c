/-
  A slice of strings that grows, in the words of this seat. Nothing is proved of the program here.
  The walk over the document's own Pieces: what stands between dots.
-/
import Derived.Test.YtngmimbpakmkiaaGreatDoorGmE
import Derived.Laws.AppendOwn
import Derived.OwnWalk
import Derived.Deep.RegionWith
import Derived.Deep.RegionLaw
namespace Go.Proofs.YtngmimbpakmkiaaGreatDoor
set_option linter.unusedVariables false
open Go.ChangeShapes Go.WideShapes Go.ChangeAt Go.RowKit

theorem info9 : (Tryz.prog.info? 9).map (fun i => (i.zero, i.size, i.bytes)) = some (some (.string ByteArray.empty), 1, 16) := by kernel_rfl
/-- a slice of strings that the call itself has made -/
def OwnS (w : World) (base : Nat) (v : Value) (xs : List ByteArray) : Prop := w.ownsRow base 9 1 v xs.length (xs.map Value.string)
theorem ownS_block {w : World} {base : Nat} {v : Value} {xs : List ByteArray} (h : OwnS w base v xs) : ∀ k, v.ownBlock = some k → base ≤ k := by
  intro k hk
  obtain ⟨_, ⟨rfl, _⟩ | ⟨g, cap, cur, rfl, hg, _⟩⟩ := h
  · simp [Value.ownBlock] at hk
  · simp [Value.ownBlock] at hk; omega
/-- one that isn't empty: where it lies -/
theorem ownS_slice {w : World} {base : Nat} {v : Value} {xs : List ByteArray} (h : OwnS w base v xs) (h1 : 1 ≤ xs.length) :
    ∃ g c cur, v = .slice (some ⟨g, 0, none⟩) xs.length c ∧ base ≤ g ∧ w.heap[g]? = some (.cells cur 9 (0, 0)) ∧ xs.length ≤ c ∧ HeldS w g xs := by
  obtain ⟨_, ⟨rfl, h0⟩ | ⟨g, cap, cur, rfl, hg, hh, h3, h4, h5, h6⟩⟩ := h
  · omega
  · refine ⟨g, cap, cur, rfl, hg, hh, h3, ?_⟩
    intro j z hj
    have hjl := (List.getElem?_eq_some_iff.1 hj).1
    have e : cur.toList[j]? = some (.string z) := by
      have : (cur.toList.take (xs.length * 1))[j]? = (xs.map Value.string)[j]? := by rw [h6]
      rw [List.getElem?_take, if_pos (by omega), List.getElem?_map, hj] at this
      simpa using this
    simp only [World.cell?, hh]
    simpa using e
theorem ownS_one (w : World) (x : ByteArray) : OwnS (w.alloc (.cells #[.string x] 9)) w.heap.size (.slice (some ⟨w.heap.size, 0, none⟩) 1 1) [x] :=
  ⟨by simp, .inr ⟨_, 1, #[.string x], rfl, Nat.le_refl _, alloc_heap _ _, Nat.le_refl _, by unfold maxLen; omega, by simp, by simp⟩⟩
/-- the last one is set anew -/
theorem ownS_set {w : World} {base g c : Nat} {pre : List ByteArray} {x : ByteArray} (y : ByteArray) (h : OwnS w base (.slice (some ⟨g, 0, none⟩) (pre ++ [x]).length c) (pre ++ [x])) :
    OwnS (w.setCell ⟨g, pre.length, none⟩ (.string y)) base (.slice (some ⟨g, 0, none⟩) (pre ++ [y]).length c) (pre ++ [y]) := by
  obtain ⟨_, ⟨h1, h0⟩ | ⟨g', cap, cur, hv, hg, hh, h3, h4, h5, h6⟩⟩ := h
  · simp at h0
  · simp only [Value.slice.injEq, Option.some.injEq, Addr.mk.injEq, and_true] at hv
    obtain ⟨rfl, _, rfl⟩ := hv
    refine ⟨by simp, .inr ⟨g, c, cur.setIfInBounds pre.length (.string y), by simp, hg, ?_, by simpa using h3, h4, by simpa using h5, ?_⟩⟩
    · rw [setCell_eq_setRow _ _ _ _ _ _ _ hh, setRow_heap w g cur _ 9 _ hh]
    · simp only [List.length_append, List.length_cons, List.length_nil, Nat.mul_one] at h6 ⊢
      rw [Array.toList_setIfInBounds, List.take_set, h6]
      simp
theorem wpS_push {w : World} {ops : Array Oper} {rest : List Oper} {o : Oper} {a : Act} {Q : Exit → Act → World → Prop} (hgd : o.guard = none) (s x : Operand)
    (ho : o.op = .call { callee := .builtin .append, args := #[s, x], argTypes := #[95, 95] })
    (base : Nat) (v : Value) (xs : List ByteArray) (r : ByteArray) (hs : a.eval s = v) (hown : OwnS w base v xs)
    (hx : a.eval x = .slice (some ⟨w.heap.size, 0, none⟩) 1 1) (hbd : xs.length ≤ 1000000000) (hbase : base ≤ w.heap.size)
    (h : ∀ v' w', OwnS w' base v' (xs ++ [r]) → Below base w w' → wpList Tryz.prog ops Q rest (a.put o.dst v') w') : wpList Tryz.prog ops Q (o :: rest) a (w.alloc (.cells #[.string r] 9)) := by
  obtain ⟨i0, hi, hz0, hz1, hz2⟩ := info_parts info9
  refine wpList_append_own _ hgd s x 95 ho base 9 i0 (.string ByteArray.empty) 1 16 Tryz.underlying95 hi hz0 hz1 hz2 rfl (by decide) v _ _ hs (World.ownsRow.alloc hown _) ⟨w.heap.size, 0, none⟩ 1 1 [.string r] hx rfl ?_ ?_ (by unfold maxLen; omega) (by omega) (by simp; omega) ?_
  · intro j u hj
    cases j with
    | zero => simp at hj; subst hj; simp [Addr.add]
    | succ j => simp at hj
  · intro u hu; simp at hu; subst hu; rfl
  · intro v' w' h1 h2 _
    refine h v' w' ?_ (((Below.refl base w).alloc hbase _).grown h2 (by simp; omega) (ownS_block hown))
    unfold OwnS
    rw [List.length_append, List.map_append]
    exact h1
/-- a byte more -/
theorem cat_byte (cur : List UInt8) (s : ByteArray) (k : Nat) (hp : k < s.size) : (ByteArray.mk cur.toArray) ++ s.extract k (k + 1) = ByteArray.mk (cur ++ [s[k]'hp]).toArray := by
  have e : s.extract k (k + 1) = ⟨#[s[k]'hp]⟩ := by
    apply ByteArray.ext
    rw [ByteArray.data_extract]
    apply Array.ext'
    rw [Array.toList_extract]
    have hk : k < s.data.toList.length := by rw [len_data]; exact hp
    rw [List.extract_eq_take_drop]
    rw [List.drop_eq_getElem_cons hk]
    simp
    rfl
  rw [e, ByteArray.mk_append_mk]
  first | done | (congr 1; apply Array.ext'; simp)
end Go.Proofs.YtngmimbpakmkiaaGreatDoor
namespace Go.Proofs.YtngmimbpakmkiaaGreatDoor
set_option linter.unusedVariables false
open Go.ChangeShapes Go.WideShapes Go.ChangeAt Go.RowKit

set_option maxHeartbeats 4000000 in
theorem piecesR_any (s : ByteArray) (w : World) (hs : s.size ≤ 3000) :
    Calls Tryz.prog 95 #[.string s] w fun e w' => (∃ v, e = .returned v ∧ OwnS w' w.heap.size v (pieces s)) ∧ Below w.heap.size w w' := by
  have HP : Hid (pieces s = (pcs [] s.data.toList).map mkB) := rfl
  have hld := len_data s
  have HL : Hid (s.data.toList.length = s.size) := hld
  clear hld
  go_enter Tryz.func95, Tryz.ntmps95
  go_wp2_with fail
  go_loopw [3, 4] (fun o i wr => ∃ (k : Nat) (pre : List (List UInt8)) (cur : List UInt8), k ≤ s.size ∧ i = .int .i64 k ∧ OwnS wr w.heap.size o (pre.map mkB ++ [mkB cur]) ∧ Below w.heap.size w wr ∧ pre.length ≤ k ∧ cur.length ≤ k ∧ pre ++ pcs cur (s.data.toList.drop k) = pcs [] s.data.toList) (fun _ i _ => s.size - (intOf i).toNat)
  case atStart => exact ⟨0, [], [], by omega, rfl, ownS_one w ⟨#[]⟩, (Below.refl _ w).alloc (Nat.le_refl _) _, by simp, by simp, rfl⟩
  case round =>
    obtain ⟨k, pre, cur, hk, rfl, hown, hbw, hpl, hcl, hacc⟩ := hrel
    have HA : Hid (pre ++ pcs cur (s.data.toList.drop k) = pcs [] s.data.toList) := hacc
    clear hacc
    obtain ⟨g, c, cc, rfl, hg, hgh, hc, hH⟩ := ownS_slice hown (by simp)
    have hszr := hbw.size
    have hml : (pre.map mkB ++ [mkB cur]).length = pre.length + 1 := by simp
    by_cases hlt : k < s.size
    · have hdr : s.data.toList.drop k = s[k]'hlt :: s.data.toList.drop (k + 1) := by
        rw [List.drop_eq_getElem_cons (by rw [HL.out]; exact hlt)]; rfl
      by_cases h46 : s[k]'hlt = 46
      · have h46' : (((s[k]'hlt).toNat : Int) == 46) = true := by rw [h46]; rfl
        have HX : Hid ((pre ++ [cur]) ++ pcs [] (s.data.toList.drop (k + 1)) = pcs [] s.data.toList) := by
          refine (?_ : _ = _)
          have := HA.out; rw [hdr, h46, pcs_dot] at this
          rw [← this]; simp
        clear HA hdr h46
        go_wp2_with (at_builtin; refine wpS_push rfl _ _ rfl w.heap.size (.slice (some ⟨g, 0, none⟩) (pre.map mkB ++ [mkB cur]).length c) (pre.map mkB ++ [mkB cur]) ⟨#[]⟩ rfl hown rfl (by rw [hml]; omega) hszr ?_)
        intro v' wx hown' hb'
        obtain ⟨g2, c2, cc2, rfl, _⟩ := ownS_slice hown' (by simp)
        go_wp2_with fail
        go_roundw
        case rel =>
          refine ⟨k + 1, pre ++ [cur], [], by omega, by go_num, ?_, hbw.trans hb', by simp; omega, by simp, HX.out⟩
          simpa [mkB] using hown'
        case measure => simp [intOf]; omega
      · have h46' : (((s[k]'hlt).toNat : Int) == 46) = false := by
          rw [beq_eq_false_iff_ne]
          intro e
          apply h46
          apply UInt8.toNat_inj.1
          show _ = 46
          omega
        have HX : Hid (pre ++ pcs (cur ++ [s[k]'hlt]) (s.data.toList.drop (k + 1)) = pcs [] s.data.toList) := by
          refine (?_ : _ = _)
          have := HA.out; rw [hdr, pcs_on _ _ _ h46] at this
          exact this
        clear HA hdr h46
        have hcell : wr.cell? ⟨g, pre.length, none⟩ = some (.string (mkB cur)) := hH pre.length (mkB cur) (by simp)
        have hfz : wr.frozen? ⟨g, pre.length, none⟩ = false := Lib.frozen_of_heap hgh _
        have HOS : Hid (∀ y, OwnS (wr.setCell ⟨g, pre.length, none⟩ (.string y)) w.heap.size (.slice (some ⟨g, 0, none⟩) (pre.length + 1) c) (pre.map mkB ++ [y])) := fun y => by
          have := ownS_set y hown
          simpa using this
        have HBS : Hid (∀ y, Below w.heap.size w (wr.setCell ⟨g, pre.length, none⟩ (.string y))) := fun y => hbw.setCell (p := ⟨g, pre.length, none⟩) hg _
        have hcat := cat_byte cur s k hlt
        have HCAT : Hid (mkB cur ++ s.extract k (k + 1) = mkB (cur ++ [s[k]'hlt])) := hcat
        clear hcat hown hbw hgh hH
        rw [hml]
        rw [hml] at hc
        clear hml
        obtain ⟨q, hq⟩ : ∃ q, pre.length = q := ⟨_, rfl⟩
        have HPL : Hid (pre.length ≤ k + 1) := by
          refine (?_ : pre.length ≤ k + 1)
          omega
        rw [hq] at hpl hcell hfz HOS HBS ⊢
        clear hq
        have hsz2 : (mkB cur).size ≤ 3000 := by
          have : (mkB cur).size = cur.length := by show cur.toArray.size = _; simp
          omega
        have HOS2 : Hid (OwnS (wr.setCell ⟨g, q, none⟩ (.string (mkB (cur ++ [s[k]'hlt])))).drew w.heap.size (.slice (some ⟨g, 0, none⟩) (q + 1) c) (pre.map mkB ++ [mkB (cur ++ [s[k]'hlt])])) := HOS.out _
        have HBS2 : Hid (Below w.heap.size w (wr.setCell ⟨g, q, none⟩ (.string (mkB (cur ++ [s[k]'hlt])))).drew) := (HBS.out _).drew
        generalize mkB cur = cb at *
        have hw1 : IntKind.i64.wrap ((q : Int) + 1 - 1) = (q : Int) := by rw [IntKind.wrap_i64]; omega
        have hw2 : IntKind.i64.wrap ((k : Int) + 1) = (k : Int) + 1 := by rw [IntKind.wrap_i64]; omega
        have hq0 : (0 : Int) ≤ (q : Int) := by omega
        have hq1 : (q : Int) < (q : Int) + 1 := by omega
        have hk0 : (0 : Int) ≤ (k : Int) := by omega
        have hk1 : (k : Int) ≤ (k : Int) + 1 := by omega
        have hk2 : (k : Int) + 1 ≤ (s.size : Int) := by omega
        go_wp2_with fail
        go_region
        rw [HCAT.out]
        go_wp2_with fail
        go_roundw
        case rel => exact ⟨k + 1, pre, cur ++ [s[k]'hlt], by omega, by go_num, HOS2.out, HBS2.out, HPL.out, by simp; omega, HX.out⟩
        case measure => simp [intOf]; omega
    · have HX : Hid (pre.map mkB ++ [mkB cur] = pieces s) := by
        refine (?_ : _ = _)
        have := HA.out
        rw [List.drop_eq_nil_of_le (by have := HL.out; omega), pcs_nil] at this
        rw [HP.out, ← this]; simp
      have hown2 := hown
      rw [HX.out] at hown2
      clear HA
      go_wp2_with fail
      go_ret
      refine ⟨⟨_, rfl, ?_⟩, hbw⟩
      rw [HX.out]; exact hown2
end Go.Proofs.YtngmimbpakmkiaaGreatDoor
