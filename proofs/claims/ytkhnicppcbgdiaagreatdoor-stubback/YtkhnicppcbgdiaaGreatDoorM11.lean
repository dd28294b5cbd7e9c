/-
  The walk over the program's own Path: the names of a path; none, if it is none.
  The walk over the laws' own awake: one enum is printed as the document says.
  A slice of strings that grows, in the words of this seat. Nothing is proved of the program here.
-/
import Derived.Test.YtkhnicppcbgdiaaGreatDoorM5
import Derived.Test.YtkhnicppcbgdiaaGreatDoorM10
import Derived.Test.YtkhnicppcbgdiaaGreatDoorM4
import Derived.Test.YtkhnicppcbgdiaaGreatDoorM0
import Derived.BigQuiet
import Derived.Lib.ItoaMem
import Derived.Lib.ItoaLen
import Derived.Deep.RegionWith
import Derived.Deep.RegionHeldLaw
import Derived.Deep.RegionLaw
import Derived.Laws.AppendOwn
import Derived.OwnWalk
namespace Go.Proofs.YtkhnicppcbgdiaaGreatDoor
set_option linter.unusedVariables false
open Go.Shelf Go.RowKit

/-- what Path answers: the pieces, if there are at most 8 and each is a name that isn't reserved -/
def PathAns (s : ByteArray) (e : Ending) (w' : World) : Prop :=
  if (pieces s).length ≤ 8 ∧ allPlain s = true then ∃ g c, e = .returned (.tuple #[.slice (some ⟨g, 0, none⟩) (pieces s).length c, .bool true]) ∧ HeldS w' g (pieces s) ∧ (pieces s).length ≤ c
  else e = .returned (.tuple #[.slice none 0 0, .bool false])
theorem pathAns_no {s : ByteArray} {e : Ending} {w' : World} (h : ¬ ((pieces s).length ≤ 8 ∧ allPlain s = true)) (he : e = .returned (.tuple #[.slice none 0 0, .bool false])) : PathAns s e w' := by
  unfold PathAns; rw [if_neg h]; exact he

set_option maxHeartbeats 4000000 in
theorem path_any (s : ByteArray) (w : World) (hs : s.size ≤ 200000000) :
    Calls Tryz.prog 77 #[.string s] w fun e w' => PathAns s e w' ∧ Below w.heap.size w w' := by
  have hSp := splitN_any s w (by omega)
  have hpl := pieces_len s
  by_cases h8 : (pieces s).length ≤ 8
  · rw [splitB_few s h8] at hSp
    have hN : (pieces s).length ≤ min 9 (s.size + 1) := by omega
    have hN2 : min 9 (s.size + 1) ≤ 9 := by omega
    have HAns : Hid (∀ e w', (allPlain s = true → ∃ g c, e = .returned (.tuple #[.slice (some ⟨g, 0, none⟩) (pieces s).length c, .bool true]) ∧ HeldS w' g (pieces s) ∧ (pieces s).length ≤ c) → (allPlain s = false → e = .returned (.tuple #[.slice none 0 0, .bool false])) → PathAns s e w') := by
      intro e w' h1 h2
      unfold PathAns
      by_cases hp : allPlain s = true
      · rw [if_pos ⟨h8, hp⟩]; exact h1 hp
      · rw [if_neg (fun h => hp h.2)]; exact h2 (by simpa using hp)
    have HAP : Hid (allPlain s = (pieces s).all isPlain) := rfl
    have HSZ : Hid (∀ x ∈ pieces s, x.size ≤ 200000000) := fun x hx => by have := piece_size hx; omega
    generalize min 9 (s.size + 1) = N at *
    generalize pieces s = xs at *
    generalize allPlain s = AP at *
    generalize PathAns s = PA at *
    obtain ⟨n, hn⟩ : ∃ n, xs.length = n := ⟨_, rfl⟩
    have HN : Hid (xs.length = n) := hn
    rw [hn] at hSp h8 hN hpl HAns
    clear hn
    go_enter Tryz.func77, Tryz.ntmps77
    go_wp2_with fail
    refine hSp.mono ?_
    rintro e w1 ⟨rfl, hw1⟩
    have hg1 : w1.heap[w.heap.size]? = some (.cells (Lib.cellsOf xs N) 9 (0, 0)) := by rw [hw1]; exact alloc_heap _ _
    have hb1 : Below w.heap.size w w1 := by rw [hw1]; exact (Below.refl _ w).alloc (Nat.le_refl _) _
    clear hw1 hSp
    have h8' : ¬ (8 : Int) < (n : Int) := by omega
    go_wp2_with fail
    go_loopw [14] (fun i wr => ∃ k : Nat, k ≤ n ∧ i = .int .i64 k ∧ wr.heap[w.heap.size]? = some (.cells (Lib.cellsOf xs N) 9 (0, 0)) ∧ Below w.heap.size w wr ∧ xs.all isPlain = (xs.drop k).all isPlain) (fun i _ => n - (intOf i).toNat)
    case atStart => exact ⟨0, by omega, rfl, hg1, hb1, rfl⟩
    case round =>
      clear hg1 hb1
      obtain ⟨k, hk, rfl, hg, hbw, hall⟩ := hrel
      have HA : Hid (xs.all isPlain = (xs.drop k).all isPlain) := hall
      clear hall
      by_cases hlt : k < n
      · obtain ⟨z, hz⟩ : ∃ z, xs[k]? = some z := ⟨_, List.getElem?_eq_getElem (by have := HN.out; omega)⟩
        have hcell : wr.cell? ⟨w.heap.size, k, none⟩ = some (.string z) := by
          simp only [World.cell?, hg]; exact cellsOf_get hz
        have hzs : z.size ≤ 200000000 := HSZ.out z (List.mem_of_getElem? hz)
        have HAP2 : Hid (xs.all isPlain = ((nameOf (runes z) && !resOf z.toList) && (xs.drop (k + 1)).all isPlain)) := by
          refine (?_ : _ = _)
          rw [HA.out, all_dropS hz, plain_of]
        have HZ : Hid ((Lib.cellsOf xs N)[k]? = some (.string z)) := cellsOf_get hz
        have hNm := fun W => name_any z W (by omega)
        have hRs := fun W => reservedD_any z W
        have hCl := fun W => cloneB_any z W (by omega)
        clear HA hz
        generalize nameOf (runes z) = NZ at *
        generalize resOf z.toList = RZ at *
        have HG : Hid (wr.heap[w.heap.size]? = some (.cells (Lib.cellsOf xs N) 9 (0, 0))) := hg
        have hglt : w.heap.size < wr.heap.size := blk_lt hg
        clear hg
        cases NZ with
        | false =>
          have HX : Hid (AP = false) := by
            refine (?_ : AP = false)
            rw [HAP.out, HAP2.out]; simp
          go_wp2_with fail
          refine (hNm _).mono ?_
          rintro e w2 ⟨rfl, hb2⟩
          clear hNm hRs hCl
          go_wp2_with fail
          go_ret2
          refine ⟨HAns.out _ _ (fun h => by rw [HX.out] at h; simp at h) (fun _ => rfl), hbw.trans (hb2.mono hbw.size)⟩
        | true =>
          cases RZ with
          | true =>
            have HX : Hid (AP = false) := by
              refine (?_ : AP = false)
              rw [HAP.out, HAP2.out]; simp
            go_wp2_with fail
            refine (hNm _).mono ?_
            rintro e w2 ⟨rfl, hb2⟩
            go_wp2_with fail
            refine (hRs _).mono ?_
            rintro e w3 ⟨rfl, rfl⟩
            clear hNm hRs hCl
            go_wp2_with fail
            go_ret2
            refine ⟨HAns.out _ _ (fun h => by rw [HX.out] at h; simp at h) (fun _ => rfl), hbw.trans (hb2.mono hbw.size)⟩
          | false =>
            have HX : Hid (xs.all isPlain = (xs.drop (k + 1)).all isPlain) := by
              refine (?_ : _ = _)
              rw [HAP2.out]; simp
            go_wp2_with fail
            refine (hNm _).mono ?_
            rintro e w2 ⟨rfl, hb2⟩
            have hb2' := hbw.trans (hb2.mono hbw.size)
            have hg2 : w2.heap[w.heap.size]? = some (.cells (Lib.cellsOf xs N) 9 (0, 0)) := by rw [hb2.block _ hglt]; exact HG.out
            clear hb2
            go_wp2_with fail
            refine (hRs _).mono ?_
            rintro e w3 ⟨rfl, rfl⟩
            go_wp2_with fail
            refine (hCl _).mono ?_
            rintro e w4 ⟨rfl, hb4⟩
            have hg4 : w4.heap[w.heap.size]? = some (.cells (Lib.cellsOf xs N) 9 (0, 0)) := by rw [hb4.block _ (blk_lt hg2)]; exact hg2
            have hb4' := hb2'.trans (hb4.mono hb2'.size)
            have hc4 : w4.cell? ⟨w.heap.size, k, none⟩ = some (.string z) := by simp only [World.cell?, hg4]; exact HZ.out
            have hf4 : w4.frozen? ⟨w.heap.size, k, none⟩ = false := Lib.frozen_of_heap hg4 k
            have hg5 := setSame w4 w.heap.size k _ _ _ hg4 HZ.out
            have hb5 := hb4'.setCell (p := ⟨w.heap.size, k, none⟩) (Nat.le_refl _) (.string z)
            have HG5 : Hid ((w4.setCell ⟨w.heap.size, k, none⟩ (.string z)).heap[w.heap.size]? = some (.cells (Lib.cellsOf xs N) 9 (0, 0))) := hg5
            clear hNm hRs hCl hb4 hg4 hg2 hg5 hb4' hb2'
            go_wp2_with fail
            go_roundw
            case rel => exact ⟨k + 1, by omega, by go_num, HG5.out, hb5, HX.out⟩
            case measure => simp [intOf]; omega
      · have HX : Hid (AP = true) := by
          refine (?_ : AP = true)
          rw [HAP.out, HA.out, List.drop_eq_nil_of_le (by have := HN.out; omega)]; rfl
        have HH : Hid (HeldS wr w.heap.size xs) := by
          intro j x hj
          simp only [World.cell?, hg]; exact cellsOf_get hj
        clear HA
        go_wp2_with fail
        go_ret2
        refine ⟨HAns.out _ _ (fun _ => ⟨_, _, rfl, HH.out, hN⟩) (fun h => by rw [HX.out] at h; simp at h), hbw⟩
  · have hm := splitB_many s (by omega)
    generalize (Lib.splitB ⟨#[46]⟩ 0 (min 9 (s.size + 1) - 1) s) = ys at *
    have hm' : (8 : Int) < (ys.length : Int) := by omega
    have HP : Hid (∀ e w', e = .returned (.tuple #[.slice none 0 0, .bool false]) → PathAns s e w') := fun e w' he => pathAns_no (fun h => h8 h.1) he
    clear hpl
    go_enter Tryz.func77, Tryz.ntmps77
    go_wp2_with fail
    refine hSp.mono ?_
    rintro e w1 ⟨rfl, hw1⟩
    have hb1 : Below w.heap.size w w1 := by rw [hw1]; exact (Below.refl _ w).alloc (Nat.le_refl _) _
    clear hw1 hSp
    go_wp2_with fail
    go_ret2
    exact ⟨HP.out _ _ rfl, hb1⟩
theorem pathOK_pieces (s : ByteArray) : pathOK s.data.toList = (decide ((pieces s).length ≤ 8) && allPlain s) := by
  unfold pathOK allPlain pieces
  rw [List.length_map, List.all_map]
  congr 1
  congr 1
  funext x
  show plainL x = isPlain ⟨x.toArray⟩
  unfold plainL isPlain
  rw [ByteArray.toList_eq]
end Go.Proofs.YtkhnicppcbgdiaaGreatDoor
namespace Go.Proofs.YtkhnicppcbgdiaaGreatDoor
set_option linter.unusedVariables false
open Go.ChangeShapes Go.WideShapes Go.ChangeAt Go.RowKit

/-- the library's table of powers of ten lies in the world -/
def Pow (w : World) : Prop := Lib.TabIs Tryz.prog w "internal/strconv.uint64pow10" .u64 Lib.pow10Tab
theorem Pow.tab {w : World} (h : Pow w) : Lib.TabBelow Tryz.prog w.heap.size w "internal/strconv.uint64pow10" .u64 Lib.pow10Tab := Lib.tabBelow_of_tabIs h
theorem Pow.below {w w' : World} (h : Pow w) (hb : Below w.heap.size w w') : Pow w' := h.tab w' hb
end Go.Proofs.YtkhnicppcbgdiaaGreatDoor
namespace Go.Proofs.YtkhnicppcbgdiaaGreatDoor
set_option linter.unusedVariables false
open Go.ChangeShapes Go.WideShapes Go.ChangeAt Go.RowKit

theorem info9 : (Tryz.prog.info? 9).map (fun i => (i.zero, i.size, i.bytes)) = some (some (.string ByteArray.empty), 1, 16) := by kernel_rfl
/-- a slice of strings that the call itself has made -/
def OwnS (w : World) (base : Nat) (v : Value) (xs : List ByteArray) : Prop := w.ownsRow base 9 1 v xs.length (xs.map Value.string)
theorem ownS_block {w : World} {base : Nat} {v : Value} {xs : List ByteArray} (h : OwnS w base v xs) : ∀ k, v.ownBlock = some k → base ≤ k := by
  intro k hk
  obtain ⟨_, ⟨rfl, _⟩ | ⟨g, cap, cur, rfl, hg, _⟩⟩ := h
  · simp [Value.ownBlock] at hk
  · simp [Value.ownBlock] at hk; omega
/-- one that isn't empty: where it lies -/
theorem ownS_slice {w : World} {base : Nat} {v : Value} {xs : List ByteArray} (h : OwnS w base v xs) (h1 : 1 ≤ xs.length) :
    ∃ g c cur, v = .slice (some ⟨g, 0, none⟩) xs.length c ∧ base ≤ g ∧ w.heap[g]? = some (.cells cur 9 (0, 0)) ∧ xs.length ≤ c ∧ HeldS w g xs := by
  obtain ⟨_, ⟨rfl, h0⟩ | ⟨g, cap, cur, rfl, hg, hh, h3, h4, h5, h6⟩⟩ := h
  · omega
  · refine ⟨g, cap, cur, rfl, hg, hh, h3, ?_⟩
    intro j z hj
    have hjl := (List.getElem?_eq_some_iff.1 hj).1
    have e : cur.toList[j]? = some (.string z) := by
      have : (cur.toList.take (xs.length * 1))[j]? = (xs.map Value.string)[j]? := by rw [h6]
      rw [List.getElem?_take, if_pos (by omega), List.getElem?_map, hj] at this
      simpa using this
    simp only [World.cell?, hh]
    simpa using e
theorem ownS_one (w : World) (x : ByteArray) : OwnS (w.alloc (.cells #[.string x] 9)) w.heap.size (.slice (some ⟨w.heap.size, 0, none⟩) 1 1) [x] :=
  ⟨by simp, .inr ⟨_, 1, #[.string x], rfl, Nat.le_refl _, alloc_heap _ _, Nat.le_refl _, by unfold maxLen; omega, by simp, by simp⟩⟩
/-- the last one is set anew -/
theorem ownS_set {w : World} {base g c : Nat} {pre : List ByteArray} {x : ByteArray} (y : ByteArray) (h : OwnS w base (.slice (some ⟨g, 0, none⟩) (pre ++ [x]).length c) (pre ++ [x])) :
    OwnS (w.setCell ⟨g, pre.length, none⟩ (.string y)) base (.slice (some ⟨g, 0, none⟩) (pre ++ [y]).length c) (pre ++ [y]) := by
  obtain ⟨_, ⟨h1, h0⟩ | ⟨g', cap, cur, hv, hg, hh, h3, h4, h5, h6⟩⟩ := h
  · simp at h0
  · simp only [Value.slice.injEq, Option.some.injEq, Addr.mk.injEq, and_true] at hv
    obtain ⟨rfl, _, rfl⟩ := hv
    refine ⟨by simp, .inr ⟨g, c, cur.setIfInBounds pre.length (.string y), by simp, hg, ?_, by simpa using h3, h4, by simpa using h5, ?_⟩⟩
    · rw [setCell_eq_setRow _ _ _ _ _ _ _ hh, setRow_heap w g cur _ 9 _ hh]
    · simp only [List.length_append, List.length_cons, List.length_nil, Nat.mul_one] at h6 ⊢
      rw [Array.toList_setIfInBounds, List.take_set, h6]
      simp
theorem wpS_push {w : World} {ops : Array Oper} {rest : List Oper} {o : Oper} {a : Act} {Q : Exit → Act → World → Prop} (hgd : o.guard = none) (s x : Operand)
    (ho : o.op = .call { callee := .builtin .append, args := #[s, x], argTypes := #[86, 86] })
    (base : Nat) (v : Value) (xs : List ByteArray) (r : ByteArray) (hs : a.eval s = v) (hown : OwnS w base v xs)
    (hx : a.eval x = .slice (some ⟨w.heap.size, 0, none⟩) 1 1) (hbd : xs.length ≤ 1000000000) (hbase : base ≤ w.heap.size)
    (h : ∀ v' w', OwnS w' base v' (xs ++ [r]) → Below base w w' → wpList Tryz.prog ops Q rest (a.put o.dst v') w') : wpList Tryz.prog ops Q (o :: rest) a (w.alloc (.cells #[.string r] 9)) := by
  obtain ⟨i0, hi, hz0, hz1, hz2⟩ := info_parts info9
  refine wpList_append_own _ hgd s x 86 ho base 9 i0 (.string ByteArray.empty) 1 16 Tryz.underlying86 hi hz0 hz1 hz2 rfl (by decide) v _ _ hs (World.ownsRow.alloc hown _) ⟨w.heap.size, 0, none⟩ 1 1 [.string r] hx rfl ?_ ?_ (by unfold maxLen; omega) (by omega) (by simp; omega) ?_
  · intro j u hj
    cases j with
    | zero => simp at hj; subst hj; simp [Addr.add]
    | succ j => simp at hj
  · intro u hu; simp at hu; subst hu; rfl
  · intro v' w' h1 h2 _
    refine h v' w' ?_ (((Below.refl base w).alloc hbase _).grown h2 (by simp; omega) (ownS_block hown))
    unfold OwnS
    rw [List.length_append, List.map_append]
    exact h1
/-- a byte more -/
theorem cat_byte (cur : List UInt8) (s : ByteArray) (k : Nat) (hp : k < s.size) : (ByteArray.mk cur.toArray) ++ s.extract k (k + 1) = ByteArray.mk (cur ++ [s[k]'hp]).toArray := by
  have e : s.extract k (k + 1) = ⟨#[s[k]'hp]⟩ := by
    apply ByteArray.ext
    rw [ByteArray.data_extract]
    apply Array.ext'
    rw [Array.toList_extract]
    have hk : k < s.data.toList.length := by rw [len_data]; exact hp
    rw [List.extract_eq_take_drop]
    rw [List.drop_eq_getElem_cons hk]
    simp
    rfl
  rw [e, ByteArray.mk_append_mk]
  first | done | (congr 1; apply Array.ext'; simp)
end Go.Proofs.YtkhnicppcbgdiaaGreatDoor
