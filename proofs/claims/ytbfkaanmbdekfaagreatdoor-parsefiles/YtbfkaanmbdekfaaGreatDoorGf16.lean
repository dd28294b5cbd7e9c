/-
  The walks over the document's own number and right.
  A slice of words that grows, and what the document's own Words keeps in memory while it goes along a text. Nothing is proved of the program here.
-/
import Derived.Test.YtbfkaanmbdekfaaGreatDoorGf15
import Derived.Laws.AppendOwn
import Derived.OwnWalk
namespace Go.Proofs.YtbfkaanmbdekfaaGreatDoor
set_option linter.unusedVariables false
open Go.ChangeShapes Go.WideShapes Go.ChangeAt Go.RowKit

theorem numV_snoc (l : List UInt8) (k : Nat) (b : UInt8) (h : l[k]? = some b) : numV 0 (l.take (k + 1)) = 10 * numV 0 (l.take k) + ((b.toNat : Int) - 48) := by
  rw [List.take_add_one, h]
  unfold numV
  rw [List.foldl_append]; rfl
theorem pow_step (k : Nat) (N d : Int) (h0 : 0 ≤ N) (h1 : N < 10 ^ k) (hk : k < 10) (hd0 : 0 ≤ d) (hd1 : d ≤ 9) : 0 ≤ 10 * N + d ∧ 10 * N + d < 10 ^ (k + 1) ∧ 10 * N + d < 10000000000 ∧ N < 1000000000 := by
  have hp : (10 : Int) ^ (k + 1) = 10 * 10 ^ k := by rw [Int.pow_succ]; omega
  have hle : (10 : Int) ^ k ≤ 1000000000 := by
    have : k = 0 ∨ k = 1 ∨ k = 2 ∨ k = 3 ∨ k = 4 ∨ k = 5 ∨ k = 6 ∨ k = 7 ∨ k = 8 ∨ k = 9 := by omega
    rcases this with rfl | rfl | rfl | rfl | rfl | rfl | rfl | rfl | rfl | rfl <;> decide
  rw [hp]
  omega
set_option maxHeartbeats 2000000 in
theorem numberR_any (s : ByteArray) (w : World) (h1 : 1 ≤ s.size) (hd : s.data.toList.all isDig = true) (hs : s.size ≤ 1048576) :
    Calls Tryz.prog 76 #[.string s] w fun e w' => e = .returned (.bool (numL s.data.toList)) ∧ w' = w := by
  have HL : Hid (s.data.toList.length = s.size) := len_data s
  have hpos : (0 : Int) < (s.size : Int) := by omega
  obtain ⟨R, hR⟩ : ∃ R, numL s.data.toList = R := ⟨_, rfl⟩
  rw [hR]
  have h0 : s.data.toList.head? = some (s[0]'h1) := by rw [List.head?_eq_getElem?]; exact at_data s 0 h1
  have HR : Hid (R = (decide (s.size ≤ 10) && !(decide (s[0]'h1 = 48) && decide (1 < s.size)) && decide (numV 0 s.data.toList ≤ 2147483647))) := by
    refine (?_ : R = _)
    rw [← hR]; unfold numL; rw [HL.out, h0]; simp
  have HD : Hid (∀ (k : Nat) (h : k < s.size), 48 ≤ (s[k]'h).toNat ∧ (s[k]'h).toNat ≤ 57) := fun k h => by
    have := List.all_eq_true.1 hd _ (List.mem_of_getElem? (at_data s k h))
    unfold isDig at this; rwa [decide_eq_true_iff] at this
  clear hR h0 hd
  by_cases h10 : s.size ≤ 10
  · have h10' : ¬ (10 : Int) < (s.size : Int) := by omega
    by_cases h48 : s[0]'h1 = 48 ∧ 1 < s.size
    · obtain ⟨ha, hb⟩ := h48
      have ha' : (((s[0]'h1).toNat : Int) == 48) = true := by rw [ha]; rfl
      have hb' : (1 : Int) < (s.size : Int) := by omega
      obtain rfl : R = false := by rw [HR.out]; simp [ha, hb]
      go_enter Tryz.func76, Tryz.ntmps76
      go_wp2_with fail
      go_ret
      exact ⟨rfl, rfl⟩
    · have HR2 : Hid (R = decide (numV 0 s.data.toList ≤ 2147483647)) := by
        refine (?_ : R = _)
        rw [HR.out, decide_eq_true h10]
        have : (decide (s[0]'h1 = 48) && decide (1 < s.size)) = false := by
          rw [Bool.and_eq_false_iff]
          by_cases ha : s[0]'h1 = 48
          · right; rw [decide_eq_false_iff_not]; exact fun hb => h48 ⟨ha, hb⟩
          · left; rw [decide_eq_false_iff_not]; exact ha
        rw [this]; simp
      have hcase : (((s[0]'h1).toNat : Int) == 48) = false ∨ ((((s[0]'h1).toNat : Int) == 48) = true ∧ ¬ (1 : Int) < (s.size : Int)) := by
        by_cases ha : s[0]'h1 = 48
        · right; exact ⟨by rw [ha]; rfl, fun hb => h48 ⟨ha, by omega⟩⟩
        · left; rw [beq_eq_false_iff_ne]; intro e; apply ha; apply UInt8.toNat_inj.1; show _ = 48; omega
      clear HR h48
      rcases hcase with ha' | ⟨ha', hb'⟩
      all_goals
        go_enter Tryz.func76, Tryz.ntmps76
        go_wp2_with fail
        go_loop [3, 4] (fun n i => ∃ (k : Nat) (N : Int), k ≤ s.size ∧ i = .int .i64 k ∧ n = .int .i64 N ∧ 0 ≤ N ∧ N < 10 ^ k ∧ N = numV 0 (s.data.toList.take k)) (fun _ i => s.size - (intOf i).toNat)
        case atStart => exact ⟨0, 0, by omega, rfl, rfl, by omega, by decide, rfl⟩
        case round =>
          obtain ⟨k, N, hk, rfl, rfl, hN0, hN1, hN⟩ := hrel
          have HN : Hid (N = numV 0 (s.data.toList.take k)) := hN
          have HN1 : Hid (N < 10 ^ k) := hN1
          clear hN hN1
          by_cases hlt : k < s.size
          · obtain ⟨hb1, hb2⟩ := HD.out k hlt
            obtain ⟨p1, p2, p3, p4⟩ := pow_step k N ((s[k]'hlt).toNat - 48) hN0 HN1.out (by omega) (by omega) (by omega)
            have HP2 : Hid (10 * N + (((s[k]'hlt).toNat : Int) - 48) < 10 ^ (k + 1)) := p2
            have HNN : Hid (10 * N + (((s[k]'hlt).toNat : Int) - 48) = numV 0 (s.data.toList.take (k + 1))) := by
              refine (?_ : _ = _)
              rw [numV_snoc _ k _ (at_data s k hlt), HN.out]
            clear p2
            have e1 : IntKind.u8.wrap (((s[k]'hlt).toNat : Int) - 48) = ((s[k]'hlt).toNat : Int) - 48 := by rw [IntKind.wrap_u8]; omega
            have e2 : IntKind.i64.wrap (10 * N) = 10 * N := by rw [IntKind.wrap_i64]; omega
            have e3 : IntKind.i64.wrap (10 * N + (((s[k]'hlt).toNat : Int) - 48)) = 10 * N + (((s[k]'hlt).toNat : Int) - 48) := by rw [IntKind.wrap_i64]; omega
            have e4 : IntKind.i64.wrap (((s[k]'hlt).toNat : Int) - 48) = ((s[k]'hlt).toNat : Int) - 48 := by rw [IntKind.wrap_i64]; omega
            go_wp2_with fail
            go_round
            case rel => exact ⟨k + 1, 10 * N + (((s[k]'hlt).toNat : Int) - 48), by omega, by go_num, by go_num, p1, HP2.out, HNN.out⟩
            case measure => simp [intOf]; omega
          · have HE : Hid (numV 0 s.data.toList = N) := by
              refine (?_ : _ = N)
              rw [HN.out, List.take_of_length_le (by rw [HL.out]; omega)]
            go_wp2_with fail
            go_ret
            refine ⟨retB ?_, rfl⟩
            rw [HR2.out, HE.out]
  · have h10' : (10 : Int) < (s.size : Int) := by omega
    obtain rfl : R = false := by rw [HR.out]; simp [h10]
    go_enter Tryz.func76, Tryz.ntmps76
    go_wp2_with fail
    go_ret
    exact ⟨rfl, rfl⟩

/-- a word as a value -/
def wv (kind : Int) (t : ByteArray) (line col : Int) : Value := .agg #[.int .i64 kind, .string t, .int .i64 line, .int .i64 col]
set_option maxHeartbeats 2000000 in
theorem rightR_any (kind : Int) (t : ByteArray) (line col r : Int) (w : World) (hT : Tabs w) (hk : kind = 1 ∨ kind = 2 ∨ kind = 3) (h1 : 1 ≤ t.size) (hs : t.size ≤ 1048576) :
    Calls Tryz.prog 47 #[wv kind t line col, .int .i32 r] w fun e w' => e = .returned (.bool (rightL kind t.data.toList r)) ∧ Below w.heap.size w w' := by
  have hN := fun W hTW => nameR_any t W hTW (by omega)
  rw [isName_eq] at hN
  have HT0 : Hid (∀ o, Tabs (w.alloc o)) := fun o => tabs_below hT ((Below.refl _ w).alloc (Nat.le_refl _) o)
  have HB0 : Hid (∀ o, Below w.heap.size w (w.alloc o)) := fun o => (Below.refl _ w).alloc (Nat.le_refl _) o
  unfold wv
  rcases hk with rfl | rfl | rfl
  · have e : rightL 1 t.data.toList r = nameOf (runes t) := by unfold rightL; rw [if_pos rfl]
    rw [e]
    clear e
    go_enter Tryz.func47, Tryz.ntmps47
    go_wp2_with fail
    refine (hN _ (HT0.out _)).mono ?_
    rintro e w1 ⟨rfl, hb1⟩
    have hb1 := (HB0.out _).trans (hb1.mono (HB0.out _).size)
    go_wp2_with fail
    go_ret
    exact ⟨rfl, hb1⟩
  · have e : rightL 2 t.data.toList r = (t.data.toList.all isDig && numL t.data.toList) := by unfold rightL; rw [if_neg (by decide), if_pos rfl]
    rw [e]
    clear e hN
    have HL : Hid (t.data.toList.length = t.size) := len_data t
    have hNu := fun W hd => numberR_any t W h1 hd hs
    obtain ⟨A, hA⟩ : ∃ A, t.data.toList.all isDig = A := ⟨_, rfl⟩
    rw [hA]
    have HA : Hid (t.data.toList.all isDig = A) := hA
    clear hA
    go_enter Tryz.func47, Tryz.ntmps47
    go_wp2_with fail
    go_loop [5] (fun i => ∃ k : Nat, k ≤ t.size ∧ i = .int .i64 k ∧ t.data.toList.all isDig = (t.data.toList.drop k).all isDig) (fun i => t.size - (intOf i).toNat)
    case atStart => exact ⟨0, by omega, rfl, rfl⟩
    case round =>
      obtain ⟨k, hk, rfl, hall⟩ := hrel
      have HK : Hid (t.data.toList.all isDig = (t.data.toList.drop k).all isDig) := hall
      clear hall
      by_cases hlt : k < t.size
      · have hdr : t.data.toList.drop k = t[k]'hlt :: t.data.toList.drop (k + 1) := by
          rw [List.drop_eq_getElem_cons (by rw [HL.out]; exact hlt)]; rfl
        have HS : Hid (t.data.toList.all isDig = (isDig (t[k]'hlt) && (t.data.toList.drop (k + 1)).all isDig)) := by
          refine (?_ : _ = _)
          rw [HK.out, hdr, List.all_cons]
        clear HK hdr
        have hcase : (((t[k]'hlt).toNat : Int) < 48) ∨ (¬ ((t[k]'hlt).toNat : Int) < 48 ∧ (57 : Int) < ((t[k]'hlt).toNat : Int)) ∨ (¬ ((t[k]'hlt).toNat : Int) < 48 ∧ ¬ (57 : Int) < ((t[k]'hlt).toNat : Int)) := by omega
        rcases hcase with c | ⟨c, c2⟩ | ⟨c, c2⟩
        · have HAf : Hid (A = false) := by
            refine (?_ : A = false)
            rw [← HA.out, HS.out]; unfold isDig; rw [decide_eq_false (by omega)]; rfl
          clear HS hNu
          go_wp2_with fail
          go_ret
          exact ⟨retB (by rw [HAf.out]; rfl), HB0.out _⟩
        · have HAf : Hid (A = false) := by
            refine (?_ : A = false)
            rw [← HA.out, HS.out]; unfold isDig; rw [decide_eq_false (by omega)]; rfl
          clear HS hNu
          go_wp2_with fail
          go_ret
          exact ⟨retB (by rw [HAf.out]; rfl), HB0.out _⟩
        · have HX : Hid (t.data.toList.all isDig = (t.data.toList.drop (k + 1)).all isDig) := by
            refine (?_ : _ = _)
            rw [HS.out]; unfold isDig; rw [decide_eq_true (by omega)]; rfl
          clear HS hNu
          go_wp2_with fail
          go_round
          case rel => exact ⟨k + 1, by omega, by go_num, HX.out⟩
          case measure => simp [intOf]; omega
      · have hAt : A = true := by
          rw [← HA.out, HK.out, List.drop_eq_nil_of_le (by rw [HL.out]; omega)]; rfl
        subst hAt
        have hNu2 := fun W => hNu W HA.out
        clear HK hNu
        go_wp2_with fail
        refine (hNu2 _).mono ?_
        rintro e w1 ⟨rfl, rfl⟩
        go_wp2_with fail
        go_ret
        exact ⟨retB (by simp), HB0.out _⟩
  · have e : rightL 3 t.data.toList r = signR r := by unfold rightL; rw [if_neg (by decide), if_neg (by decide)]
    rw [e]
    clear e hN
    go_enter Tryz.func47, Tryz.ntmps47
    go_wp2_with fail
    all_goals
      go_ret
      refine ⟨retB ?_, HB0.out _⟩
      unfold signR
      clear HB0 HT0
      first
        | (simp_all; done)
        | (rw [Bool.eq_iff_iff]; simp_all; done)
        | (rw [Bool.eq_iff_iff]; simp; omega)
end Go.Proofs.YtbfkaanmbdekfaaGreatDoor
namespace Go.Proofs.YtbfkaanmbdekfaaGreatDoor
set_option linter.unusedVariables false
open Go.ChangeShapes Go.WideShapes Go.ChangeAt Go.RowKit

/-- a word's cells -/
def wrow (x : Wd) : List Value := [.int .i64 x.kind, .string (mkB x.text), .int .i64 (x.line : Int), .int .i64 (x.col : Int)]
theorem infoW : (Tryz.prog.info? 97).map (fun i => (i.zero, i.size, i.bytes)) = some (some (.agg #[.int .i64 0, .string ⟨#[]⟩, .int .i64 0, .int .i64 0]), 4, 40) := by kernel_rfl
/-- a slice of words that the call itself has made -/
def OwnW (w : World) (base : Nat) (v : Value) (xs : List Wd) : Prop := w.ownsRow base 97 4 v xs.length (xs.flatMap wrow)
theorem ownW_nil (w : World) (base : Nat) : OwnW w base (.slice none 0 0) [] := World.ownsRow_nil _ _ _ _
theorem ownW_block {w : World} {base : Nat} {v : Value} {xs : List Wd} (h : OwnW w base v xs) : ∀ k, v.ownBlock = some k → base ≤ k := by
  intro k hk
  obtain ⟨_, ⟨rfl, _⟩ | ⟨g, cap, cur, rfl, hg, _⟩⟩ := h
  · simp [Value.ownBlock] at hk
  · simp [Value.ownBlock] at hk; omega
theorem ownW_lt {w : World} {base : Nat} {v : Value} {xs : List Wd} (h : OwnW w base v xs) : v.ownBlock ≠ some w.heap.size := by
  obtain ⟨_, ⟨rfl, _⟩ | ⟨g, cap, cur, rfl, hg, hh, _⟩⟩ := h
  · simp [Value.ownBlock]
  · have := (Array.getElem?_eq_some_iff.1 hh).1
    simp [Value.ownBlock]; omega
theorem ownW_slice {w : World} {base : Nat} {v : Value} {xs : List Wd} (h : OwnW w base v xs) : ∃ a c, v = .slice a xs.length c := by
  obtain ⟨_, ⟨rfl, h0⟩ | ⟨g, cap, cur, rfl, _⟩⟩ := h
  · exact ⟨none, 0, by rw [h0]⟩
  · exact ⟨_, _, rfl⟩
theorem ownW_heap {w w' : World} {base : Nat} {v : Value} {xs : List Wd} (h : OwnW w base v xs) (hh : ∀ (k : Nat) (o : Obj), base ≤ k → w.heap[k]? = some o → w'.heap[k]? = some o) : OwnW w' base v xs := by
  obtain ⟨h1, h2 | ⟨g, cap, cur, hv, hg, hhp, r⟩⟩ := h
  · exact ⟨h1, .inl h2⟩
  · exact ⟨h1, .inr ⟨g, cap, cur, hv, hg, hh g _ hg hhp, r⟩⟩
theorem wpW_push {w : World} {ops : Array Oper} {rest : List Oper} {o : Oper} {a : Act} {Q : Exit → Act → World → Prop} (hgd : o.guard = none) (s x : Operand)
    (ho : o.op = .call { callee := .builtin .append, args := #[s, x], argTypes := #[55, 55] })
    (base : Nat) (v : Value) (xs : List Wd) (r : Wd) (cs : Array Value) (hcs : cs = (wrow r).toArray) (hs : a.eval s = v) (hown : OwnW w base v xs)
    (hx : a.eval x = .slice (some ⟨w.heap.size, 0, none⟩) 1 1) (hbd : xs.length ≤ 1000000000) (hbase : base ≤ w.heap.size)
    (h : ∀ v' w', OwnW w' base v' (xs ++ [r]) → (w.alloc (.cells cs 97)).grownBy w' v.ownBlock → wpList Tryz.prog ops Q rest (a.put o.dst v') w') : wpList Tryz.prog ops Q (o :: rest) a (w.alloc (.cells cs 97)) := by
  subst hcs
  obtain ⟨i0, hi, hz0, hz1, hz2⟩ := info_parts infoW
  refine wpList_append_own _ hgd s x 55 ho base 97 i0 _ 4 40 Tryz.underlying55 hi hz0 hz1 hz2 rfl (by decide) v _ _ hs (World.ownsRow.alloc hown _) ⟨w.heap.size, 0, none⟩ 1 1 (wrow r) hx rfl ?_ ?_ (by unfold maxLen; omega) (by omega) (by simp; omega) ?_
  · intro j u hj
    have ea : (⟨w.heap.size, 0, none⟩ : Addr).add j = ⟨w.heap.size, j, none⟩ := by unfold Addr.add; split <;> simp_all
    rw [ea, World.cell?_alloc_new]
    simpa using hj
  · intro u hu
    simp only [wrow, List.mem_cons, List.not_mem_nil, or_false] at hu
    rcases hu with rfl | rfl | rfl | rfl <;> rfl
  · intro v' w' h1 h2 _
    refine h v' w' ?_ h2
    unfold OwnW
    rw [List.length_append, List.flatMap_append]
    simpa using h1

/-- the state while Words goes along: the answer's place (still zero), the place at hand, the words so far -/
structure St (w0 w : World) (B : Nat) (line col : Nat) (v : Value) (acc : List Wd) : Prop where
  ans : w.heap[B]? = some (.cells #[.int .i64 0, .int .i64 0] 25 (0, 0))
  pos : w.heap[B + 1]? = some (.cells #[.int .i64 (line : Int), .int .i64 (col : Int)] 25 (0, 0))
  own : OwnW w (B + 2) v acc
  below : Below B w0 w
theorem St.size {w0 w : World} {B line col : Nat} {v : Value} {acc : List Wd} (h : St w0 w B line col v acc) : B + 2 ≤ w.heap.size := by
  have := (Array.getElem?_eq_some_iff.1 h.pos).1; omega
theorem St.old {w0 w w' : World} {B line col : Nat} {v : Value} {acc : List Wd} (h : St w0 w B line col v acc) (hb : Below w.heap.size w w') : St w0 w' B line col v acc := by
  have hsz := h.size
  refine ⟨by rw [hb.block B (by omega)]; exact h.ans, by rw [hb.block (B + 1) (by omega)]; exact h.pos, ?_, h.below.trans (hb.mono (by omega))⟩
  exact ownW_heap h.own fun k o _ hk => by rw [hb.block k (Array.getElem?_eq_some_iff.1 hk).1]; exact hk
theorem St.cells {w0 w : World} {B line col : Nat} {v : Value} {acc : List Wd} (h : St w0 w B line col v acc) :
    w.cell? ⟨B + 1, 0, none⟩ = some (.int .i64 (line : Int)) ∧ w.cell? ⟨B + 1, 1, none⟩ = some (.int .i64 (col : Int)) ∧ w.frozen? ⟨B + 1, 0, none⟩ = false ∧ w.frozen? ⟨B + 1, 1, none⟩ = false ∧
    w.cell? ⟨B, 0, none⟩ = some (.int .i64 0) ∧ w.cell? ⟨B, 1, none⟩ = some (.int .i64 0) ∧ w.frozen? ⟨B, 0, none⟩ = false ∧ w.frozen? ⟨B, 1, none⟩ = false := by
  simp [World.cell?, World.frozen?, h.pos, h.ans]
/-- a cell of another block, or one that is none of these, is set -/
theorem St.setPos {w0 w : World} {B line col : Nat} {v : Value} {acc : List Wd} (h : St w0 w B line col v acc) (j : Nat) (x : Value) (line' col' : Nat)
    (hx : (#[Value.int .i64 (line : Int), Value.int .i64 (col : Int)]).setIfInBounds j x = #[.int .i64 (line' : Int), .int .i64 (col' : Int)]) : St w0 (w.setCell ⟨B + 1, j, none⟩ x) B line' col' v acc := by
  have hp : (w.setCell ⟨B + 1, j, none⟩ x).heap[B + 1]? = some (.cells #[.int .i64 (line' : Int), .int .i64 (col' : Int)] 25 (0, 0)) := by
    rw [setCell_eq_setRow _ _ _ _ _ _ _ h.pos, setRow_heap w (B + 1) _ _ _ _ h.pos, hx]
  have ho : ∀ k, k ≠ B + 1 → (w.setCell ⟨B + 1, j, none⟩ x).heap[k]? = w.heap[k]? := fun k hk => by
    rw [setCell_eq_setRow _ _ _ _ _ _ _ h.pos]; exact setRow_other w (B + 1) k _ hk
  exact ⟨by rw [ho B (by omega)]; exact h.ans, hp, ownW_heap h.own fun k o hk hko => by rw [ho k (by omega)]; exact hko, h.below.setCell (p := ⟨B + 1, j, none⟩) (by show B ≤ B + 1; omega) _⟩
theorem St.alloc {w0 w : World} {B line col : Nat} {v : Value} {acc : List Wd} (h : St w0 w B line col v acc) (o : Obj) : St w0 (w.alloc o) B line col v acc := h.old ((Below.refl _ w).alloc (Nat.le_refl _) o)
theorem St.drew {w0 w : World} {B line col : Nat} {v : Value} {acc : List Wd} (h : St w0 w B line col v acc) : St w0 w.drew B line col v acc := ⟨h.ans, h.pos, h.own, h.below.drew⟩
/-- the words have grown -/
theorem St.grown {w0 w w' : World} {B line col : Nat} {v v' : Value} {acc acc' : List Wd} (h : St w0 w B line col v acc) (hg : w.grownBy w' v.ownBlock) (hown : OwnW w' (B + 2) v' acc') : St w0 w' B line col v' acc' := by
  have hsz := h.size
  have hb : ∀ k, k < B + 2 → w'.heap[k]? = w.heap[k]? := fun k hk => hg.block k (by omega) (fun e => by have := ownW_block h.own k e.symm; omega)
  exact ⟨by rw [hb B (by omega)]; exact h.ans, by rw [hb (B + 1) (by omega)]; exact h.pos, hown, h.below.grown hg (by omega) (fun k hk => by have := ownW_block h.own k hk; omega)⟩
/-- a cell of a block behind these is set -/
theorem St.setFar {w0 w : World} {B line col : Nat} {v : Value} {acc : List Wd} (h : St w0 w B line col v acc) (g j : Nat) (x : Value) (hg : B + 2 ≤ g) (hne : v.ownBlock ≠ some g) : St w0 (w.setCell ⟨g, j, none⟩ x) B line col v acc := by
  have ho : ∀ k, k ≠ g → (w.setCell ⟨g, j, none⟩ x).heap[k]? = w.heap[k]? := fun k hk => Below.heap_setCell _ _ _ _ hk
  refine ⟨by rw [ho B (by omega)]; exact h.ans, by rw [ho (B + 1) (by omega)]; exact h.pos, ?_, h.below.setCell (p := ⟨g, j, none⟩) (by show B ≤ g; omega) _⟩
  obtain ⟨h1, h2 | ⟨g', cap, cur, hv, hg', hhp, r⟩⟩ := h.own
  · exact ⟨h1, .inl h2⟩
  · exact ⟨h1, .inr ⟨g', cap, cur, hv, hg', by rw [ho g' (fun e => hne (by rw [hv, e]; rfl))]; exact hhp, r⟩⟩
/-- the answer's place is told -/
theorem St.final {w0 w : World} {B line col : Nat} {v : Value} {acc : List Wd} (h : St w0 w B line col v acc) (x y : Value) :
    ((w.setCell ⟨B, 0, none⟩ x).setCell ⟨B, 1, none⟩ y).cell? ⟨B, 0, none⟩ = some x ∧ ((w.setCell ⟨B, 0, none⟩ x).setCell ⟨B, 1, none⟩ y).cell? ⟨B, 1, none⟩ = some y ∧
    OwnW ((w.setCell ⟨B, 0, none⟩ x).setCell ⟨B, 1, none⟩ y) (B + 2) v acc ∧ Below B w0 ((w.setCell ⟨B, 0, none⟩ x).setCell ⟨B, 1, none⟩ y) := by
  have h1 : (w.setCell ⟨B, 0, none⟩ x).heap[B]? = some (.cells #[x, .int .i64 0] 25 (0, 0)) := by
    rw [setCell_eq_setRow _ _ _ _ _ _ _ h.ans, setRow_heap w B _ _ _ _ h.ans]; rfl
  have h2 : ((w.setCell ⟨B, 0, none⟩ x).setCell ⟨B, 1, none⟩ y).heap[B]? = some (.cells #[x, y] 25 (0, 0)) := by
    rw [setCell_eq_setRow _ _ _ _ _ _ _ h1, setRow_heap _ B _ _ _ _ h1]; rfl
  have ho : ∀ k, k ≠ B → ((w.setCell ⟨B, 0, none⟩ x).setCell ⟨B, 1, none⟩ y).heap[k]? = w.heap[k]? := fun k hk => by
    rw [Below.heap_setCell _ _ _ _ hk, Below.heap_setCell _ _ _ _ hk]
  refine ⟨by simp [World.cell?, h2], by simp [World.cell?, h2], ownW_heap h.own fun k o hk hko => by rw [ho k (by omega)]; exact hko, ?_⟩
  exact (h.below.setCell (p := ⟨B, 0, none⟩) (Nat.le_refl _) x).setCell (p := ⟨B, 1, none⟩) (Nat.le_refl _) y
end Go.Proofs.YtbfkaanmbdekfaaGreatDoor
