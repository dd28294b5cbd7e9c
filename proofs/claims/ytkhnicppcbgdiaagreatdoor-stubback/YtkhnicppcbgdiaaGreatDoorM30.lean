/-
  string(runes): the bytes of runes; and when one rune alone is a name. Nothing is proved of the program here.
  A slice of runes that grows: what append and string(..) make of it, in the words of this seat; and the walks over the document's own Camel and Snake.
  The walk over the document's own Camel.
-/
import Derived.Test.YtkhnicppcbgdiaaGreatDoorM0
import Derived.Laws.Cover4
import Derived.Test.YtkhnicppcbgdiaaGreatDoorM13
import Derived.Test.YtkhnicppcbgdiaaGreatDoorM2
import Derived.Laws.AppendOwn
import Derived.OwnWalk
import Derived.Test.YtkhnicppcbgdiaaGreatDoorM24
namespace Go.Proofs.YtkhnicppcbgdiaaGreatDoor
set_option linter.unusedVariables false

theorem encode_eq (r : Int) : Utf8.encode r = ⟨(Lib.encodeRune r).toArray⟩ := by
  unfold Utf8.encode Lib.encodeRune Lib.encodeRuneZ
  by_cases hv : Utf8.valid r = true
  · have hr : (0 ≤ r ∧ r < 55296) ∨ (57344 ≤ r ∧ r ≤ 1114111) := by
      unfold Utf8.valid at hv
      simp only [Bool.or_eq_true, Bool.and_eq_true, decide_eq_true_iff] at hv
      exact hv
    simp only [if_pos hv]
    by_cases h1 : r < 128
    · rw [if_pos (c := r.toNat < 128) (by omega), if_pos (c := 0 ≤ r ∧ r ≤ 127) (by omega)]; rfl
    · rw [if_neg (c := r.toNat < 128) (by omega), if_neg (c := 0 ≤ r ∧ r ≤ 127) (by omega)]
      by_cases h2 : r < 2048
      · rw [if_pos (c := r.toNat < 2048) (by omega), if_pos (c := 128 ≤ r ∧ r ≤ 2047) (by omega)]
        simp only [List.map_cons, List.map_nil]
        have e1 : (192 + r / 64).toNat = 192 + r.toNat / 64 := by omega
        have e2 : (128 + r % 64).toNat = 128 + r.toNat % 64 := by omega
        rw [e1, e2]
      · rw [if_neg (c := r.toNat < 2048) (by omega), if_neg (c := 128 ≤ r ∧ r ≤ 2047) (by omega)]
        by_cases h3 : r < 65536
        · rw [if_pos (c := r.toNat < 65536) (by omega), if_pos (c := (2048 ≤ r ∧ r < 55296) ∨ (57343 < r ∧ r ≤ 65535)) (by omega)]
          simp only [List.map_cons, List.map_nil]
          have e1 : (224 + r / 4096).toNat = 224 + r.toNat / 4096 := by omega
          have e2 : (128 + r / 64 % 64).toNat = 128 + r.toNat / 64 % 64 := by omega
          have e3 : (128 + r % 64).toNat = 128 + r.toNat % 64 := by omega
          rw [e1, e2, e3]
        · rw [if_neg (c := r.toNat < 65536) (by omega), if_neg (c := (2048 ≤ r ∧ r < 55296) ∨ (57343 < r ∧ r ≤ 65535)) (by omega), if_pos (c := 65536 ≤ r ∧ r ≤ 1114111) (by omega)]
          simp only [List.map_cons, List.map_nil]
          have e0 : (240 + r / 262144).toNat = 240 + r.toNat / 262144 := by omega
          have e1 : (128 + r / 4096 % 64).toNat = 128 + r.toNat / 4096 % 64 := by omega
          have e2 : (128 + r / 64 % 64).toNat = 128 + r.toNat / 64 % 64 := by omega
          have e3 : (128 + r % 64).toNat = 128 + r.toNat % 64 := by omega
          rw [e0, e1, e2, e3]
  · have hr : ¬ ((0 ≤ r ∧ r < 55296) ∨ (57344 ≤ r ∧ r ≤ 1114111)) := by
      intro h
      apply hv
      unfold Utf8.valid
      simp only [Bool.or_eq_true, Bool.and_eq_true, decide_eq_true_iff]
      exact h
    simp only [if_neg hv]
    rw [if_neg (c := 0 ≤ r ∧ r ≤ 127) (by omega), if_neg (c := 128 ≤ r ∧ r ≤ 2047) (by omega), if_neg (c := (2048 ≤ r ∧ r < 55296) ∨ (57343 < r ∧ r ≤ 65535)) (by omega), if_neg (c := 65536 ≤ r ∧ r ≤ 1114111) (by omega)]
    decide
theorem ba_append (a b : List UInt8) : (ByteArray.mk a.toArray) ++ (ByteArray.mk b.toArray) = ByteArray.mk (a ++ b).toArray := by
  rw [ByteArray.mk_append_mk]
  first | done | (congr 1; simp; done) | (congr 1; apply Array.ext'; simp)
theorem fold_enc : ∀ (ns : List Int) (a : List UInt8), ns.foldl (fun r n => r ++ Utf8.encode n) (ByteArray.mk a.toArray) = ⟨(a ++ encL ns).toArray⟩
  | [], a => by simp [encL]
  | n :: t, a => by
    rw [List.foldl_cons, encode_eq, ba_append, fold_enc t, encL_cons, List.append_assoc]
theorem runesBytes_eq (ns : List Int) : runesBytes ns = ⟨(encL ns).toArray⟩ := by
  have := fold_enc ns []
  rw [List.nil_append] at this
  exact this

end Go.Proofs.YtkhnicppcbgdiaaGreatDoor
namespace Go.Proofs.YtkhnicppcbgdiaaGreatDoor
set_option linter.unusedVariables false
open Go.ChangeShapes Go.WideShapes Go.ChangeAt Go.RowKit

theorem infoR : (Tryz.prog.info? 21).map (fun i => (i.zero, i.size, i.bytes)) = some (some (.int .i32 0), 1, 4) := by kernel_rfl
/-- a slice of runes that the call itself has made -/
def OwnR (w : World) (base : Nat) (v : Value) (xs : List Int) : Prop := w.ownsRow base 21 1 v xs.length (xs.map (Value.int .i32))
theorem ownR_nil (w : World) (base : Nat) : OwnR w base (.slice none 0 0) [] := World.ownsRow_nil _ _ _ _
theorem ownR_block {w : World} {base : Nat} {v : Value} {xs : List Int} (h : OwnR w base v xs) : ∀ k, v.ownBlock = some k → base ≤ k := by
  intro k hk
  obtain ⟨_, ⟨rfl, _⟩ | ⟨g, cap, cur, rfl, hg, _⟩⟩ := h
  · simp [Value.ownBlock] at hk
  · simp [Value.ownBlock] at hk; omega
theorem ownR_slice {w : World} {base : Nat} {v : Value} {xs : List Int} (h : OwnR w base v xs) : ∃ a c, v = .slice a xs.length c := by
  obtain ⟨_, ⟨rfl, h0⟩ | ⟨g, cap, cur, rfl, _⟩⟩ := h
  · exact ⟨none, 0, by rw [h0]⟩
  · exact ⟨_, _, rfl⟩
theorem ownR_str {w : World} {base : Nat} {v : Value} {xs : List Int} (h : OwnR w base v xs) : (convert 92 9 v).run Tryz.prog w = .ok (.string ⟨(encL xs).toArray⟩) w := by
  obtain ⟨_, ⟨rfl, h0⟩ | ⟨g, cap, cur, rfl, hg, hh, h3, h4, h5, h6⟩⟩ := h
  · have hx : xs = [] := List.eq_nil_of_length_eq_zero h0
    subst hx
    exact run_convert_runes_nil w 92 9 21 0 0 Tryz.underlying92 Tryz.underlying21 Tryz.underlying9
  · have := run_convert_runes (P := Tryz.prog) w 92 9 21 ⟨g, 0, none⟩ xs.length cap xs (Nat.le_refl _) Tryz.underlying92 Tryz.underlying21 Tryz.underlying9 (by
      intro j hj
      have e : cur.toList[j]? = some (.int .i32 (xs.getD j 0)) := by
        have : (cur.toList.take (xs.length * 1))[j]? = (xs.map (Value.int .i32))[j]? := by rw [h6]
        rw [List.getElem?_take, if_pos (by omega), List.getElem?_map, List.getElem?_eq_getElem hj] at this
        rw [this, List.getD_eq_getElem?_getD, List.getElem?_eq_getElem hj]; rfl
      have ea : (⟨g, 0, none⟩ : Addr).add j = ⟨g, j, none⟩ := by unfold Addr.add; split <;> simp_all
      rw [ea]
      simp only [World.cell?, hh]
      simpa using e)
    rw [List.take_length, runesBytes_eq] at this
    exact this
theorem wpR_push {w : World} {ops : Array Oper} {rest : List Oper} {o : Oper} {a : Act} {Q : Exit → Act → World → Prop} (hgd : o.guard = none) (s x : Operand)
    (ho : o.op = .call { callee := .builtin .append, args := #[s, x], argTypes := #[92, 92] })
    (base : Nat) (v : Value) (xs : List Int) (r : Int) (hs : a.eval s = v) (hown : OwnR w base v xs)
    (hx : a.eval x = .slice (some ⟨w.heap.size, 0, none⟩) 1 1) (hbd : xs.length ≤ 1000000000) (hbase : base ≤ w.heap.size)
    (h : ∀ v' w', OwnR w' base v' (xs ++ [r]) → Below base w w' → wpList Tryz.prog ops Q rest (a.put o.dst v') w') : wpList Tryz.prog ops Q (o :: rest) a (w.alloc (.cells #[.int .i32 r] 21)) := by
  obtain ⟨i0, hi, hz0, hz1, hz2⟩ := info_parts infoR
  refine wpList_append_own _ hgd s x 92 ho base 21 i0 (.int .i32 0) 1 4 Tryz.underlying92 hi hz0 hz1 hz2 rfl (by decide) v _ _ hs (World.ownsRow.alloc hown _) ⟨w.heap.size, 0, none⟩ 1 1 [.int .i32 r] hx rfl ?_ ?_ (by unfold maxLen; omega) (by omega) (by simp; omega) ?_
  · intro j u hj
    cases j with
    | zero => simp at hj; subst hj; simp [Addr.add]
    | succ j => simp at hj
  · intro u hu; simp at hu; subst hu; rfl
  · intro v' w' h1 h2 _
    refine h v' w' ?_ (((Below.refl base w).alloc hbase _).grown h2 (by simp; omega) (ownR_block hown))
    unfold OwnR
    rw [List.length_append, List.map_append]
    exact h1
/-- the rest from a place on -/
theorem drop_at {l : List Int} {k : Nat} {z : Int} (h : l[k]? = some z) : l.drop k = z :: l.drop (k + 1) := by
  have hlt := (List.getElem?_eq_some_iff.1 h).1
  rw [List.drop_eq_getElem_cons hlt, (List.getElem?_eq_some_iff.1 h).2]
end Go.Proofs.YtkhnicppcbgdiaaGreatDoor
namespace Go.Proofs.YtkhnicppcbgdiaaGreatDoor
set_option linter.unusedVariables false
open Go.ChangeShapes Go.WideShapes Go.ChangeAt Go.RowKit

set_option maxHeartbeats 4000000 in
theorem camelR_any (s : ByteArray) (w : World) (hT : Tabs w) (hs : s.size ≤ 1048576) :
    Calls Tryz.prog 23 #[.string s] w fun e w' => e = .returned (.string ⟨(if nameOf (runes s) = true then encL (camelL true (runes s)) else []).toArray⟩) ∧ Below w.heap.size w w' := by
  have hN := nameR_any s w hT (by omega)
  rw [isName_eq] at hN
  have hrl := runes_len s
  obtain ⟨R, hR⟩ : ∃ R : List UInt8, (if nameOf (runes s) = true then encL (camelL true (runes s)) else []) = R := ⟨_, rfl⟩
  rw [hR]
  have hRun := fun W => run_runes s W (by omega)
  generalize runes s = l at *
  obtain ⟨N, hNN⟩ : ∃ N, nameOf l = N := ⟨_, rfl⟩
  rw [hNN] at hN hR
  cases N with
  | false =>
    obtain rfl : [] = R := by rw [← hR, if_neg (by decide)]
    clear hR hNN
    go_enter Tryz.func23, Tryz.ntmps23
    go_wp2_with fail
    refine hN.mono ?_
    rintro e w1 ⟨rfl, hb⟩
    go_wp2_with fail
    go_ret
    exact ⟨rfl, hb⟩
  | true =>
    obtain rfl : encL (camelL true l) = R := by rw [← hR, if_pos rfl]
    clear hR hNN
    go_enter Tryz.func23, Tryz.ntmps23
    go_wp2_with fail
    refine hN.mono ?_
    rintro e w1 ⟨rfl, hb1⟩
    obtain ⟨c, w2, hr, hH, hc, hb2⟩ := hRun w1
    have HB : Hid (Below w.heap.size w w2) := hb1.trans (hb2.mono hb1.size)
    have hsz : w.heap.size ≤ w2.heap.size := HB.out.size
    have HH : Hid (HeldR w2 w1.heap.size l) := hH
    clear hN hRun hb1 hb2 hH
    obtain ⟨n, hn⟩ : ∃ n, l.length = n := ⟨_, rfl⟩
    rw [hn] at hr hrl hc
    have HN : Hid (l.length = n) := hn
    clear hn
    go_wp2_with fail
    clear hr
    go_loopw [3, 4, 15] (fun o f i wr => ∃ (k : Nat) (b : Bool) (acc : List Int), k ≤ n ∧ i = .int .i64 k ∧ f = .bool b ∧ OwnR wr w2.heap.size o acc ∧ Below w2.heap.size w2 wr ∧ acc.length ≤ k ∧ acc ++ camelL b (l.drop k) = camelL true l) (fun _ _ i _ => n - (intOf i).toNat)
    case atStart => exact ⟨0, true, [], by omega, rfl, rfl, ownR_nil _ _, Below.refl _ _, by simp, rfl⟩
    case round =>
      obtain ⟨k, b, acc, hk, rfl, rfl, hown, hbw, hal, hacc⟩ := hrel
      have HA : Hid (acc ++ camelL b (l.drop k) = camelL true l) := hacc
      clear hacc
      obtain ⟨oa, oc, rfl⟩ := ownR_slice hown
      have hszr := hbw.size
      by_cases hlt : k < n
      · obtain ⟨z, hz⟩ : ∃ z, l[k]? = some z := ⟨_, List.getElem?_eq_getElem (by have := HN.out; omega)⟩
        have hcell : wr.cell? ⟨w1.heap.size, k, none⟩ = some (.int .i32 z) := heldR_old HH.out hbw k z hz
        have HA2 : Hid (acc ++ camelL b (z :: l.drop (k + 1)) = camelL true l) := by
          refine (?_ : _ = _)
          rw [← drop_at hz]; exact HA.out
        clear HA hz
        by_cases h95 : z = 95
        · subst h95
          have HX : Hid (acc ++ camelL true (l.drop (k + 1)) = camelL true l) := by
            refine (?_ : _ = _)
            have := HA2.out; rwa [camel_skip] at this
          clear HA2
          go_wp2_with fail
          go_roundw
          case rel => exact ⟨k + 1, true, acc, by omega, by go_num, rfl, hown, hbw, by omega, HX.out⟩
          case measure => simp [intOf]; omega
        · have h95' : (z == 95) = false := by simpa using h95
          obtain ⟨S, hS⟩ : ∃ S, isSmall z = S := ⟨_, rfl⟩
          by_cases hbS : (b && S) = true
          · simp only [Bool.and_eq_true] at hbS
            obtain ⟨rfl, rfl⟩ := hbS
            have hzb : 97 ≤ z ∧ z ≤ 122 := by simpa [isSmall] using hS
            obtain ⟨hz1, hz2⟩ := hzb
            have HX : Hid ((acc ++ [z - 32]) ++ camelL false (l.drop (k + 1)) = camelL true l) := by
              refine (?_ : _ = _)
              have := HA2.out; rw [camel_up _ _ hS] at this
              rw [← this]; simp
            have e32 : IntKind.i32.wrap (z - 32) = z - 32 := by rw [IntKind.wrap_i32]; omega
            clear HA2 hS h95
            go_wp2_with (at_builtin; refine wpR_push rfl _ _ rfl w2.heap.size (.slice oa acc.length oc) acc (z - 32) rfl hown rfl (by omega) hszr ?_)
            intro v' wx hown' hb'
            obtain ⟨va, vc, rfl⟩ := ownR_slice hown'
            go_wp2_with fail
            go_roundw
            case rel => exact ⟨k + 1, false, acc ++ [z - 32], by omega, by go_num, rfl, hown', hbw.trans hb', by simp; omega, HX.out⟩
            case measure => simp [intOf]; omega
          · have hbS' : (b && S) = false := by simpa using hbS
            have HX : Hid ((acc ++ [z]) ++ camelL false (l.drop (k + 1)) = camelL true l) := by
              refine (?_ : _ = _)
              have := HA2.out; rw [camel_stay b _ _ h95 (by rw [hS]; exact hbS')] at this
              rw [← this]; simp
            have hcase : b = false ∨ (b = true ∧ z < 97) ∨ (b = true ∧ 97 ≤ z ∧ 122 < z) := by
              cases b with
              | false => exact .inl rfl
              | true =>
                simp only [Bool.true_and] at hbS'
                rw [hbS', isSmall, decide_eq_false_iff_not] at hS
                by_cases h1 : z < 97
                · exact .inr (.inl ⟨rfl, h1⟩)
                · exact .inr (.inr ⟨rfl, by omega, by omega⟩)
            clear HA2 hS h95 hbS hbS'
            rcases hcase with rfl | ⟨rfl, h1⟩ | ⟨rfl, h1, h2⟩
            all_goals
              go_wp2_with (at_builtin; refine wpR_push rfl _ _ rfl w2.heap.size (.slice oa acc.length oc) acc z rfl hown rfl (by omega) hszr ?_)
              intro v' wx hown' hb'
              obtain ⟨va, vc, rfl⟩ := ownR_slice hown'
              go_wp2_with fail
              go_roundw
              case rel => exact ⟨k + 1, false, acc ++ [z], by omega, by go_num, rfl, hown', hbw.trans hb', by simp; omega, HX.out⟩
              case measure => simp [intOf]; omega
      · have hsr := ownR_str hown
        have HX : Hid (acc = camelL true l) := by
          refine (?_ : acc = _)
          have := HA.out
          rw [List.drop_eq_nil_of_le (by have := HN.out; omega), camelL, List.append_nil] at this
          exact this
        clear HA
        go_wp2_with fail
        go_ret
        rw [HX.out]
        exact ⟨rfl, HB.out.trans (hbw.mono hsz)⟩
end Go.Proofs.YtkhnicppcbgdiaaGreatDoor
