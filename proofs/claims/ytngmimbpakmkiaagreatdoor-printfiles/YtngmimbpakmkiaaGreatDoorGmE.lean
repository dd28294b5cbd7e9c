/-
  The walk over the library's strings.SplitN at a dot.
  The walk over the program's own Path: the names of a path; none, if it is none.
-/
import Derived.Test.YtngmimbpakmkiaaGreatDoorGmB
import Derived.Test.YtngmimbpakmkiaaGreatDoorGmA
import Derived.Test.YtngmimbpakmkiaaGreatDoorStSz
import Derived.Test.YtngmimbpakmkiaaGreatDoorDpBz
import Derived.Lib.IndexBytes
import Derived.Shelf.Strings.Split
namespace Go.Proofs.YtngmimbpakmkiaaGreatDoor
set_option linter.unusedVariables false
open Go.Shelf Go.RowKit

/-- the pieces of a text -/
def pieces (s : ByteArray) : List ByteArray := (pcs [] s.data.toList).map fun l => ⟨l.toArray⟩
theorem pieces_len (s : ByteArray) : 1 ≤ (pieces s).length ∧ (pieces s).length ≤ s.size + 1 := by
  unfold pieces; rw [List.length_map, ← len_data]; exact pcs_len _ _
theorem mk_data : ∀ (xs : List ByteArray) (L : List (List UInt8)), xs.map (·.data.toList) = L → xs = L.map fun l => ⟨l.toArray⟩
  | [], L, h => by subst h; rfl
  | x :: t, L, h => by
    subst h
    rw [List.map_cons, List.map_cons, ← mk_data t _ rfl]
theorem splitB_few (s : ByteArray) (h : (pieces s).length ≤ 8) : Lib.splitB ⟨#[46]⟩ 0 (min 9 (s.size + 1) - 1) s = pieces s := by
  refine mk_data _ _ ?_
  rw [Lib.splitB_data]
  show Lib.splitK [46] 0 _ _ = _
  have hl := pieces_len s
  unfold pieces at h hl
  rw [List.length_map] at h hl
  exact (splitK_pcs _ _).1 (by omega)
theorem splitB_many (s : ByteArray) (h : 8 < (pieces s).length) : 8 < (Lib.splitB ⟨#[46]⟩ 0 (min 9 (s.size + 1) - 1) s).length := by
  have hl := pieces_len s
  unfold pieces at h hl
  rw [List.length_map] at h hl
  have e : (Lib.splitB ⟨#[46]⟩ 0 (min 9 (s.size + 1) - 1) s).length = (Lib.splitK [46] 0 (min 9 (s.size + 1) - 1) s.data.toList).length := by
    rw [← List.length_map (f := fun x : ByteArray => x.data.toList), Lib.splitB_data]
  rw [e]
  have hk : min 9 (s.size + 1) - 1 = 8 := by omega
  rw [hk]
  by_cases h9 : (pcs [] s.data.toList).length ≤ 8 + 1
  · rw [(splitK_pcs 8 _).1 h9]; exact h
  · rw [(splitK_pcs 8 _).2 (by omega)]; omega

/-- strings lie in memory, from a block's first place on -/
def HeldS (w : World) (g : Nat) (xs : List ByteArray) : Prop := ∀ (j : Nat) (x : ByteArray), xs[j]? = some x → w.cell? ⟨g, j, none⟩ = some (.string x)
theorem heldS_old {w w' : World} {g : Nat} {xs : List ByteArray} (h : HeldS w g xs) (hb : Below w.heap.size w w') : HeldS w' g xs := by
  intro j z hj
  have hc := h j z hj
  have hlt : g < w.heap.size := by
    by_cases hg : g < w.heap.size
    · exact hg
    · simp [World.cell?, Array.getElem?_eq_none (Nat.le_of_not_lt hg)] at hc
  rw [hb.cell hlt]; exact hc

set_option maxHeartbeats 1000000 in
theorem splitN_any (s : ByteArray) (w : World) (hs : s.size ≤ 4000000000) :
    Calls Tryz.prog 156 #[.string s, .string ⟨#[46]⟩, .int .i64 9] w fun e w' =>
      e = .returned (.slice (some ⟨w.heap.size, 0, none⟩) (Lib.splitB ⟨#[46]⟩ 0 (min 9 (s.size + 1) - 1) s).length (min 9 (s.size + 1))) ∧ w' = w.alloc (.cells (Lib.cellsOf (Lib.splitB ⟨#[46]⟩ 0 (min 9 (s.size + 1) - 1) s) (min 9 (s.size + 1))) 9) := by
  have hG : Calls Tryz.prog 163 #[.string s, .string ⟨#[46]⟩, .int .i64 0, .int .i64 9] w fun e w' =>
      e = .returned (.slice (some ⟨w.heap.size, 0, none⟩) (Lib.splitB ⟨#[46]⟩ 0 (min 9 (s.size + 1) - 1) s).length (min 9 (s.size + 1))) ∧ w' = w.alloc (.cells (Lib.cellsOf (Lib.splitB ⟨#[46]⟩ 0 (min 9 (s.size + 1) - 1) s) (min 9 (s.size + 1))) 9) :=
    Any.strings_genSplit_core lays221 (by kernel_rfl) s ⟨#[46]⟩ 0 9 (min 9 (s.size + 1)) w (by omega) (by decide) (by decide)
      (fun x c hx => (strings_Index_one x 46 _).mono fun e w' ⟨he, hw⟩ => ⟨by
        rw [he]
        show _ = Ending.returned (Value.int .i64 (Lib.index x.data.toList [46]))
        rw [Lib.index_one], hw⟩)
      ((strings_Count_one s 46 w).mono fun e w' ⟨he, hw⟩ => ⟨by
        rw [he]
        show _ = Ending.returned (Value.int .i64 ((Lib.count s.data.toList [46] : Nat) : Int))
        rw [Lib.count_one]; rfl, hw⟩)
      (by decide) (by decide) (by rw [if_neg (by decide)]; omega)
  go_enter Tryz.func156, Tryz.ntmps156
  go_wp2_with fail
  refine hG.mono ?_
  rintro e w1 ⟨rfl, hw⟩
  go_wp2_with fail
  go_ret
  exact ⟨rfl, rfl⟩

theorem cellsOf_get {xs : List ByteArray} {N j : Nat} {x : ByteArray} (h : xs[j]? = some x) : (Lib.cellsOf xs N)[j]? = some (.string x) := by
  have hlt := (List.getElem?_eq_some_iff.1 h).1
  unfold Lib.cellsOf
  rw [List.getElem?_toArray, List.getElem?_append_left (by simpa using hlt)]
  simp [h]
theorem setSame (w : World) (g j : Nat) (c : Array Value) (t : TypeId) (v : Value) (hg : w.heap[g]? = some (.cells c t (0, 0))) (hv : c[j]? = some v) : (w.setCell ⟨g, j, none⟩ v).heap[g]? = some (.cells c t (0, 0)) := by
  rw [setCell_eq_setRow _ _ _ _ _ _ _ hg]
  rw [setRow_heap w g c _ t _ hg]
  congr 2
  apply Array.ext_getElem?
  intro k
  rw [Array.getElem?_setIfInBounds]
  split
  · rename_i h
    subst h
    split
    · exact hv.symm
    · rename_i h2
      rw [Array.getElem?_eq_none (by omega)]
  · rfl
def isPlain (x : ByteArray) : Bool := nameOf (runes x) && !resOf x.toList
theorem alloc_heap (w : World) (o : Obj) : (w.alloc o).heap[w.heap.size]? = some o := by
  show (w.heap.push o)[w.heap.size]? = _
  simp
theorem blk_lt {w : World} {b : Nat} {o : Obj} (h : w.heap[b]? = some o) : b < w.heap.size := (Array.getElem?_eq_some_iff.1 h).1
/-- all pieces are names that aren't reserved -/
def allPlain (s : ByteArray) : Bool := (pieces s).all isPlain
theorem plain_of (x : ByteArray) : isPlain x = (nameOf (runes x) && !resOf x.toList) := rfl
theorem all_dropS {l : List ByteArray} {k : Nat} {z : ByteArray} (h : l[k]? = some z) (p : ByteArray → Bool) : (l.drop k).all p = (p z && (l.drop (k + 1)).all p) := by
  have hlt := (List.getElem?_eq_some_iff.1 h).1
  rw [List.drop_eq_getElem_cons hlt, List.all_cons, (List.getElem?_eq_some_iff.1 h).2]
theorem piece_size {s : ByteArray} {x : ByteArray} (h : x ∈ pieces s) : x.size ≤ s.size := by
  have : ∀ (l cur : List UInt8) (y : List UInt8), y ∈ pcs cur l → y.length ≤ cur.length + l.length := by
    intro l
    induction l with
    | nil => intro cur y hy; simp [pcs] at hy; subst hy; simp
    | cons b t ih =>
      intro cur y hy
      rw [pcs] at hy
      split at hy
      · rcases List.mem_cons.1 hy with rfl | hy
        · simp
        · have := ih [] y hy; simp at this ⊢; omega
      · have := ih _ y hy; simp at this ⊢; omega
  unfold pieces at h
  rw [List.mem_map] at h
  obtain ⟨y, hy, rfl⟩ := h
  have h2 := this s.data.toList [] y hy
  rw [len_data] at h2
  have : (ByteArray.mk y.toArray).size = y.length := by show y.toArray.size = _; simp
  rw [this]; simpa using h2
end Go.Proofs.YtngmimbpakmkiaaGreatDoor
namespace Go.Proofs.YtngmimbpakmkiaaGreatDoor
set_option linter.unusedVariables false
open Go.Shelf Go.RowKit

/-- what Path answers: the pieces, if there are at most 8 and each is a name that isn't reserved -/
def PathAns (s : ByteArray) (e : Ending) (w' : World) : Prop :=
  if (pieces s).length ≤ 8 ∧ allPlain s = true then ∃ g c, e = .returned (.tuple #[.slice (some ⟨g, 0, none⟩) (pieces s).length c, .bool true]) ∧ HeldS w' g (pieces s) ∧ (pieces s).length ≤ c
  else e = .returned (.tuple #[.slice none 0 0, .bool false])
theorem pathAns_no {s : ByteArray} {e : Ending} {w' : World} (h : ¬ ((pieces s).length ≤ 8 ∧ allPlain s = true)) (he : e = .returned (.tuple #[.slice none 0 0, .bool false])) : PathAns s e w' := by
  unfold PathAns; rw [if_neg h]; exact he

set_option maxHeartbeats 4000000 in
theorem path_any (s : ByteArray) (w : World) (hs : s.size ≤ 200000000) :
    Calls Tryz.prog 138 #[.string s] w fun e w' => PathAns s e w' ∧ Below w.heap.size w w' := by
  have hSp := splitN_any s w (by omega)
  have hpl := pieces_len s
  by_cases h8 : (pieces s).length ≤ 8
  · rw [splitB_few s h8] at hSp
    have hN : (pieces s).length ≤ min 9 (s.size + 1) := by omega
    have hN2 : min 9 (s.size + 1) ≤ 9 := by omega
    have HAns : Hid (∀ e w', (allPlain s = true → ∃ g c, e = .returned (.tuple #[.slice (some ⟨g, 0, none⟩) (pieces s).length c, .bool true]) ∧ HeldS w' g (pieces s) ∧ (pieces s).length ≤ c) → (allPlain s = false → e = .returned (.tuple #[.slice none 0 0, .bool false])) → PathAns s e w') := by
      intro e w' h1 h2
      unfold PathAns
      by_cases hp : allPlain s = true
      · rw [if_pos ⟨h8, hp⟩]; exact h1 hp
      · rw [if_neg (fun h => hp h.2)]; exact h2 (by simpa using hp)
    have HAP : Hid (allPlain s = (pieces s).all isPlain) := rfl
    have HSZ : Hid (∀ x ∈ pieces s, x.size ≤ 200000000) := fun x hx => by have := piece_size hx; omega
    generalize min 9 (s.size + 1) = N at *
    generalize pieces s = xs at *
    generalize allPlain s = AP at *
    generalize PathAns s = PA at *
    obtain ⟨n, hn⟩ : ∃ n, xs.length = n := ⟨_, rfl⟩
    have HN : Hid (xs.length = n) := hn
    rw [hn] at hSp h8 hN hpl HAns
    clear hn
    go_enter Tryz.func138, Tryz.ntmps138
    go_wp2_with fail
    refine hSp.mono ?_
    rintro e w1 ⟨rfl, hw1⟩
    have hg1 : w1.heap[w.heap.size]? = some (.cells (Lib.cellsOf xs N) 9 (0, 0)) := by rw [hw1]; exact alloc_heap _ _
    have hb1 : Below w.heap.size w w1 := by rw [hw1]; exact (Below.refl _ w).alloc (Nat.le_refl _) _
    clear hw1 hSp
    have h8' : ¬ (8 : Int) < (n : Int) := by omega
    go_wp2_with fail
    go_loopw [14] (fun i wr => ∃ k : Nat, k ≤ n ∧ i = .int .i64 k ∧ wr.heap[w.heap.size]? = some (.cells (Lib.cellsOf xs N) 9 (0, 0)) ∧ Below w.heap.size w wr ∧ xs.all isPlain = (xs.drop k).all isPlain) (fun i _ => n - (intOf i).toNat)
    case atStart => exact ⟨0, by omega, rfl, hg1, hb1, rfl⟩
    case round =>
      clear hg1 hb1
      obtain ⟨k, hk, rfl, hg, hbw, hall⟩ := hrel
      have HA : Hid (xs.all isPlain = (xs.drop k).all isPlain) := hall
      clear hall
      by_cases hlt : k < n
      · obtain ⟨z, hz⟩ : ∃ z, xs[k]? = some z := ⟨_, List.getElem?_eq_getElem (by have := HN.out; omega)⟩
        have hcell : wr.cell? ⟨w.heap.size, k, none⟩ = some (.string z) := by
          simp only [World.cell?, hg]; exact cellsOf_get hz
        have hzs : z.size ≤ 200000000 := HSZ.out z (List.mem_of_getElem? hz)
        have HAP2 : Hid (xs.all isPlain = ((nameOf (runes z) && !resOf z.toList) && (xs.drop (k + 1)).all isPlain)) := by
          refine (?_ : _ = _)
          rw [HA.out, all_dropS hz, plain_of]
        have HZ : Hid ((Lib.cellsOf xs N)[k]? = some (.string z)) := cellsOf_get hz
        have hNm := fun W => name_any z W (by omega)
        have hRs := fun W => reservedD_any z W
        have hCl := fun W => cloneB_any z W (by omega)
        clear HA hz
        generalize nameOf (runes z) = NZ at *
        generalize resOf z.toList = RZ at *
        have HG : Hid (wr.heap[w.heap.size]? = some (.cells (Lib.cellsOf xs N) 9 (0, 0))) := hg
        have hglt : w.heap.size < wr.heap.size := blk_lt hg
        clear hg
        cases NZ with
        | false =>
          have HX : Hid (AP = false) := by
            refine (?_ : AP = false)
            rw [HAP.out, HAP2.out]; simp
          go_wp2_with fail
          refine (hNm _).mono ?_
          rintro e w2 ⟨rfl, hb2⟩
          clear hNm hRs hCl
          go_wp2_with fail
          go_ret2
          refine ⟨HAns.out _ _ (fun h => by rw [HX.out] at h; simp at h) (fun _ => rfl), hbw.trans (hb2.mono hbw.size)⟩
        | true =>
          cases RZ with
          | true =>
            have HX : Hid (AP = false) := by
              refine (?_ : AP = false)
              rw [HAP.out, HAP2.out]; simp
            go_wp2_with fail
            refine (hNm _).mono ?_
            rintro e w2 ⟨rfl, hb2⟩
            go_wp2_with fail
            refine (hRs _).mono ?_
            rintro e w3 ⟨rfl, rfl⟩
            clear hNm hRs hCl
            go_wp2_with fail
            go_ret2
            refine ⟨HAns.out _ _ (fun h => by rw [HX.out] at h; simp at h) (fun _ => rfl), hbw.trans (hb2.mono hbw.size)⟩
          | false =>
            have HX : Hid (xs.all isPlain = (xs.drop (k + 1)).all isPlain) := by
              refine (?_ : _ = _)
              rw [HAP2.out]; simp
            go_wp2_with fail
            refine (hNm _).mono ?_
            rintro e w2 ⟨rfl, hb2⟩
            have hb2' := hbw.trans (hb2.mono hbw.size)
            have hg2 : w2.heap[w.heap.size]? = some (.cells (Lib.cellsOf xs N) 9 (0, 0)) := by rw [hb2.block _ hglt]; exact HG.out
            clear hb2
            go_wp2_with fail
            refine (hRs _).mono ?_
            rintro e w3 ⟨rfl, rfl⟩
            go_wp2_with fail
            refine (hCl _).mono ?_
            rintro e w4 ⟨rfl, hb4⟩
            have hg4 : w4.heap[w.heap.size]? = some (.cells (Lib.cellsOf xs N) 9 (0, 0)) := by rw [hb4.block _ (blk_lt hg2)]; exact hg2
            have hb4' := hb2'.trans (hb4.mono hb2'.size)
            have hc4 : w4.cell? ⟨w.heap.size, k, none⟩ = some (.string z) := by simp only [World.cell?, hg4]; exact HZ.out
            have hf4 : w4.frozen? ⟨w.heap.size, k, none⟩ = false := Lib.frozen_of_heap hg4 k
            have hg5 := setSame w4 w.heap.size k _ _ _ hg4 HZ.out
            have hb5 := hb4'.setCell (p := ⟨w.heap.size, k, none⟩) (Nat.le_refl _) (.string z)
            have HG5 : Hid ((w4.setCell ⟨w.heap.size, k, none⟩ (.string z)).heap[w.heap.size]? = some (.cells (Lib.cellsOf xs N) 9 (0, 0))) := hg5
            clear hNm hRs hCl hb4 hg4 hg2 hg5 hb4' hb2'
            go_wp2_with fail
            go_roundw
            case rel => exact ⟨k + 1, by omega, by go_num, HG5.out, hb5, HX.out⟩
            case measure => simp [intOf]; omega
      · have HX : Hid (AP = true) := by
          refine (?_ : AP = true)
          rw [HAP.out, HA.out, List.drop_eq_nil_of_le (by have := HN.out; omega)]; rfl
        have HH : Hid (HeldS wr w.heap.size xs) := by
          intro j x hj
          simp only [World.cell?, hg]; exact cellsOf_get hj
        clear HA
        go_wp2_with fail
        go_ret2
        refine ⟨HAns.out _ _ (fun _ => ⟨_, _, rfl, HH.out, hN⟩) (fun h => by rw [HX.out] at h; simp at h), hbw⟩
  · have hm := splitB_many s (by omega)
    generalize (Lib.splitB ⟨#[46]⟩ 0 (min 9 (s.size + 1) - 1) s) = ys at *
    have hm' : (8 : Int) < (ys.length : Int) := by omega
    have HP : Hid (∀ e w', e = .returned (.tuple #[.slice none 0 0, .bool false]) → PathAns s e w') := fun e w' he => pathAns_no (fun h => h8 h.1) he
    clear hpl
    go_enter Tryz.func138, Tryz.ntmps138
    go_wp2_with fail
    refine hSp.mono ?_
    rintro e w1 ⟨rfl, hw1⟩
    have hb1 : Below w.heap.size w w1 := by rw [hw1]; exact (Below.refl _ w).alloc (Nat.le_refl _) _
    clear hw1 hSp
    go_wp2_with fail
    go_ret2
    exact ⟨HP.out _ _ rfl, hb1⟩
theorem pathOK_pieces (s : ByteArray) : pathOK s.data.toList = (decide ((pieces s).length ≤ 8) && allPlain s) := by
  unfold pathOK allPlain pieces
  rw [List.length_map, List.all_map]
  congr 1
  congr 1
  funext x
  show plainL x = isPlain ⟨x.toArray⟩
  unfold plainL isPlain
  rw [ByteArray.toList_eq]
set_option maxHeartbeats 1000000 in
/-- the program's own path -/
theorem pathP_any (s : ByteArray) (w : World) (hs : s.size ≤ 200000000) :
    Calls Tryz.prog 124 #[.string s] w fun e w' => e = .returned (.bool (pathOK s.data.toList)) ∧ Below w.heap.size w w' := by
  have hP := path_any s w hs
  have hq := pathOK_pieces s
  obtain ⟨R, hR⟩ : ∃ R, pathOK s.data.toList = R := ⟨_, rfl⟩
  rw [hR] at hq ⊢
  have HQ : Hid (∀ e w', PathAns s e w' → ∃ ad n c, e = .returned (.tuple #[.slice ad n c, .bool R])) := by
    intro e w' h
    unfold PathAns at h
    split at h
    · rename_i hc
      obtain ⟨g, c, he, _⟩ := h
      have : R = true := by rw [hq, hc.2, decide_eq_true hc.1]; rfl
      rw [this]
      exact ⟨_, _, _, he⟩
    · rename_i hc
      have : R = false := by
        rw [hq]
        by_cases h8 : (pieces s).length ≤ 8
        · have : allPlain s = false := by
            cases hz : allPlain s with
            | false => rfl
            | true => exact absurd ⟨h8, hz⟩ hc
          rw [this]; simp
        · rw [decide_eq_false h8]; rfl
      rw [this]
      exact ⟨_, _, _, h⟩
  clear hq hR
  go_enter Tryz.func124, Tryz.ntmps124
  go_wp2_with fail
  refine hP.mono ?_
  rintro e w1 ⟨hA, hb⟩
  obtain ⟨ad, n, c, rfl⟩ := HQ.out e w1 hA
  clear hP hA HQ
  go_wp2_with fail
  go_ret
  exact ⟨rfl, hb⟩
end Go.Proofs.YtngmimbpakmkiaaGreatDoor
