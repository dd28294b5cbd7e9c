/-
  The walks over the program's writeText and Quote.
-/
import Derived.Test.YthlcnofpgmpinaaDoorQtM
import Derived.Test.YthlcnofpgmpinaaDoorBlP
import Derived.Test.YthlcnofpgmpinaaDoorTab
import Derived.Test.YthlcnofpgmpinaaDoorShelf
namespace Go.Proofs.YthlcnofpgmpinaaDoor
set_option linter.unusedVariables false
open Go.Shelf Go.RowKit

theorem qb_flat_len : ∀ l : List UInt8, (l.flatMap qb).length ≤ 6 * l.length
  | [] => by simp
  | c :: t => by
    have h1 := (qb_len c).2
    have h2 := qb_flat_len t
    rw [List.flatMap_cons, List.length_append, List.length_cons]; omega
theorem flat_snoc {l : List UInt8} {k : Nat} {c : UInt8} (h : l[k]? = some c) : (l.take (k + 1)).flatMap qb = (l.take k).flatMap qb ++ qb c := by
  rw [List.take_add_one, h, List.flatMap_append]
  simp
theorem hex_at (n : Nat) (h : n < ({ data := #[48, 49, 50, 51, 52, 53, 54, 55, 56, 57, 97, 98, 99, 100, 101, 102] } : ByteArray).size) : ({ data := #[48, 49, 50, 51, 52, 53, 54, 55, 56, 57, 97, 98, 99, 100, 101, 102] } : ByteArray)[n]'h = hexD n := by
  have h' : n < 16 := h
  have e : ∀ i : Fin 16, ({ data := #[48, 49, 50, 51, 52, 53, 54, 55, 56, 57, 97, 98, 99, 100, 101, 102] } : ByteArray)[i.val]'(by exact i.isLt) = hexD i.val := by decide
  exact e ⟨n, h'⟩
set_option maxHeartbeats 8000000 in
set_option maxRecDepth 100000 in
theorem writeText_any (B b : Nat) (l : List UInt8) (s : ByteArray) (w : World) (h : Lib.IsBuilderF 28 5 B b (Lib.byteCells l) w) (hl : l.length + 6 * s.size + 8 ≤ 140737488355328) (hBw : B ≤ w.heap.size) :
    Calls Tryd.prog 8 #[.pointer (some ⟨b, 0, none⟩), .string s] w fun e w' => e = .returned (.tuple #[]) ∧ Lib.IsBuilderF 28 5 B b (Lib.byteCells (l ++ quoteL s.data.toList)) w' ∧ Below B w w' := by
  have h0 := writeByteW B b l 34 34 rfl w h (by omega) hBw
  clear h
  go_enter Tryd.func8, Tryd.ntmps8
  go_wp2_with fail
  refine h0.mono ?_
  rintro e w1 ⟨rfl, hW1⟩
  have HI1 := Lib.hid hW1.isb
  have HB1 := Lib.hid hW1.bel
  clear h0 hW1
  go_wp2_with fail
  go_loopw [10] (fun i wr => ∃ (k : Nat) (acc : List UInt8), i = .int .i64 (k : Int) ∧ k ≤ s.size ∧ acc = l ++ (34 :: (s.data.toList.take k).flatMap qb) ∧ Lib.IsBuilderF 28 5 B b (Lib.byteCells acc) wr ∧ Below B w wr) (fun i _ => s.size - (intOf i).toNat)
  case atStart => exact ⟨0, l ++ [34], rfl, Nat.zero_le _, by simp, HI1.out, HB1.out⟩
  case round =>
    generalize wr = w2 at *
    obtain ⟨k, acc, rfl, hk, hacc, hI, hb2⟩ := hrel
    have hal : acc.length ≤ l.length + 1 + 6 * k := by
      have := qb_flat_len (s.data.toList.take k)
      rw [List.length_take] at this
      rw [hacc, List.length_append, List.length_cons]
      omega
    have hs2 := hb2.size
    have HB2 := Lib.hid hb2
    have HAC := Lib.hid hacc
    have HI := Lib.hid hI
    clear hb2 hacc hI HI1 HB1
    by_cases hlt : k < s.size
    · have HQ : Hid (∀ x, qb (s[k]'hlt) = x → acc ++ x = l ++ (34 :: (s.data.toList.take (k + 1)).flatMap qb)) := fun x hx => by
        rw [HAC.out, flat_snoc (at_data s k hlt), hx]; simp
      have hwk : IntKind.i64.wrap ((k : Int) + 1) = (k : Int) + 1 := by rw [IntKind.wrap_i64]; omega
      have hc8 := (s[k]'hlt).toNat_lt
      clear HAC
      have Hw2 := HI
      have HBw2 := HB2
      clear HI HB2
      by_cases h1 : (s[k]'hlt).toNat = 34
      · have hx1 : (((s[k]'hlt).toNat : Int) == 34) = true := by rw [h1]; rfl
        have H1 := Lib.hid h1
        clear h1
        go_wp2_with fail
        refine (writeByteW B b acc 92 _ rfl w2 Hw2.out (by omega) (by omega)).mono ?_
        rintro e w3 ⟨rfl, hW⟩
        have Hw3 := Lib.hid hW.isb
        have HBw3 := Lib.hid (HBw2.out.trans hW.bel)
        have hsw3 := HBw3.out.size
        clear hW Hw2 HBw2
        go_wp2_with fail
        refine (writeByteW B b (acc ++ [92]) (s[k]'hlt) _ rfl w3 Hw3.out (by simp only [List.length_append, List.length_cons, List.length_nil]; omega) (by omega)).mono ?_
        rintro e w4 ⟨rfl, hW⟩
        have Hw4 := Lib.hid hW.isb
        have HBw4 := Lib.hid (HBw3.out.trans hW.bel)
        have hsw4 := HBw4.out.size
        clear hW Hw3 HBw3
        have HX : Hid ((acc ++ [92]) ++ [(s[k]'hlt)] = l ++ (34 :: (s.data.toList.take (k + 1)).flatMap qb)) := by
          refine (?_ : _ = _)
          rw [← HQ.out [92, (s[k]'hlt)] (by unfold qb; rw [if_pos (.inl H1.out)])]
          try simp only [List.append_assoc, List.cons_append, List.nil_append]
        clear HQ
        go_wp2_with fail
        go_roundw
        case rel => exact ⟨k + 1, _, by go_num, by omega, HX.out, Hw4.out, HBw4.out⟩
        case measure => simp [intOf]; omega
      have hx1 : (((s[k]'hlt).toNat : Int) == 34) = false := by simp; omega
      by_cases h2 : (s[k]'hlt).toNat = 92
      · have hx2 : (((s[k]'hlt).toNat : Int) == 92) = true := by rw [h2]; rfl
        have H2 := Lib.hid h2
        clear h2
        go_wp2_with fail
        refine (writeByteW B b acc 92 _ rfl w2 Hw2.out (by omega) (by omega)).mono ?_
        rintro e w3 ⟨rfl, hW⟩
        have Hw3 := Lib.hid hW.isb
        have HBw3 := Lib.hid (HBw2.out.trans hW.bel)
        have hsw3 := HBw3.out.size
        clear hW Hw2 HBw2
        go_wp2_with fail
        refine (writeByteW B b (acc ++ [92]) (s[k]'hlt) _ rfl w3 Hw3.out (by simp only [List.length_append, List.length_cons, List.length_nil]; omega) (by omega)).mono ?_
        rintro e w4 ⟨rfl, hW⟩
        have Hw4 := Lib.hid hW.isb
        have HBw4 := Lib.hid (HBw3.out.trans hW.bel)
        have hsw4 := HBw4.out.size
        clear hW Hw3 HBw3
        have HX : Hid ((acc ++ [92]) ++ [(s[k]'hlt)] = l ++ (34 :: (s.data.toList.take (k + 1)).flatMap qb)) := by
          refine (?_ : _ = _)
          rw [← HQ.out [92, (s[k]'hlt)] (by unfold qb; rw [if_pos (.inr H2.out)])]
          try simp only [List.append_assoc, List.cons_append, List.nil_append]
        clear HQ
        go_wp2_with fail
        go_roundw
        case rel => exact ⟨k + 1, _, by go_num, by omega, HX.out, Hw4.out, HBw4.out⟩
        case measure => simp [intOf]; omega
      have hx2 : (((s[k]'hlt).toNat : Int) == 92) = false := by simp; omega
      by_cases h3 : (s[k]'hlt).toNat = 10
      · have hx3 : (((s[k]'hlt).toNat : Int) == 10) = true := by rw [h3]; rfl
        have H3 := Lib.hid h3
        clear h3
        go_wp2_with fail
        refine (writeStringW B b acc ⟨#[92, 110]⟩ w2 Hw2.out (by show acc.length + 2 ≤ _; omega) (by omega)).mono ?_
        rintro e w3 ⟨rfl, hW⟩
        have Hw3 := Lib.hid hW.isb
        have HBw3 := Lib.hid (HBw2.out.trans hW.bel)
        have hsw3 := HBw3.out.size
        clear hW Hw2 HBw2
        have HX : Hid (acc ++ (⟨#[92, 110]⟩ : ByteArray).data.toList = l ++ (34 :: (s.data.toList.take (k + 1)).flatMap qb)) := by
          refine (?_ : _ = _)
          rw [← HQ.out [92, 110] (by have := H3.out; unfold qb; rw [if_neg (by omega), if_pos H3.out])]
          try simp only [List.append_assoc, List.cons_append, List.nil_append]
        clear HQ
        go_wp2_with fail
        go_roundw
        case rel => exact ⟨k + 1, _, by go_num, by omega, HX.out, Hw3.out, HBw3.out⟩
        case measure => simp [intOf]; omega
      have hx3 : (((s[k]'hlt).toNat : Int) == 10) = false := by simp; omega
      by_cases h4 : (s[k]'hlt).toNat < 32
      · have hx4 : ((s[k]'hlt).toNat : Int) < 32 := by omega
        go_wp2_with fail
        refine (writeStringW B b acc ⟨#[92, 117, 48, 48]⟩ w2 Hw2.out (by show acc.length + 4 ≤ _; omega) (by omega)).mono ?_
        rintro e w3 ⟨rfl, hW⟩
        have Hw3 := Lib.hid hW.isb
        have HBw3 := Lib.hid (HBw2.out.trans hW.bel)
        have hsw3 := HBw3.out.size
        clear hW Hw2 HBw2
        obtain ⟨ac2, hac2⟩ : ∃ a, a = acc ++ (⟨#[92, 117, 48, 48]⟩ : ByteArray).data.toList := ⟨_, rfl⟩
        have HA2 := Lib.hid hac2
        have hl2 : ac2.length = acc.length + 4 := by rw [hac2]; simp
        rw [← hac2] at Hw3
        clear hac2
        have hi1 : (s[k]'hlt).toNat / 16 < ({ data := #[48, 49, 50, 51, 52, 53, 54, 55, 56, 57, 97, 98, 99, 100, 101, 102] } : ByteArray).size := by show _ < 16; omega
        have hi2 : (s[k]'hlt).toNat % 16 < ({ data := #[48, 49, 50, 51, 52, 53, 54, 55, 56, 57, 97, 98, 99, 100, 101, 102] } : ByteArray).size := by show _ < 16; omega
        go_wp2_with fail
        refine (writeByteW B b ac2 (({ data := #[48, 49, 50, 51, 52, 53, 54, 55, 56, 57, 97, 98, 99, 100, 101, 102] } : ByteArray)[(s[k]'hlt).toNat / 16]'hi1) _ rfl w3 Hw3.out (by omega) (by omega)).mono ?_
        rintro e w4 ⟨rfl, hW⟩
        have Hw4 := Lib.hid hW.isb
        have HBw4 := Lib.hid (HBw3.out.trans hW.bel)
        have hsw4 := HBw4.out.size
        clear hW Hw3 HBw3
        go_wp2_with fail
        refine (writeByteW B b (ac2 ++ [({ data := #[48, 49, 50, 51, 52, 53, 54, 55, 56, 57, 97, 98, 99, 100, 101, 102] } : ByteArray)[(s[k]'hlt).toNat / 16]'hi1]) (({ data := #[48, 49, 50, 51, 52, 53, 54, 55, 56, 57, 97, 98, 99, 100, 101, 102] } : ByteArray)[(s[k]'hlt).toNat % 16]'hi2) _ rfl w4 Hw4.out (by rw [List.length_append, hl2]; simp only [List.length_cons, List.length_nil]; omega) (by omega)).mono ?_
        rintro e w5 ⟨rfl, hW⟩
        have Hw5 := Lib.hid hW.isb
        have HBw5 := Lib.hid (HBw4.out.trans hW.bel)
        have hsw5 := HBw5.out.size
        clear hW Hw4 HBw4
        have HX : Hid ((ac2 ++ [({ data := #[48, 49, 50, 51, 52, 53, 54, 55, 56, 57, 97, 98, 99, 100, 101, 102] } : ByteArray)[(s[k]'hlt).toNat / 16]'hi1]) ++ [({ data := #[48, 49, 50, 51, 52, 53, 54, 55, 56, 57, 97, 98, 99, 100, 101, 102] } : ByteArray)[(s[k]'hlt).toNat % 16]'hi2] = l ++ (34 :: (s.data.toList.take (k + 1)).flatMap qb)) := by
          refine (?_ : _ = _)
          rw [← HQ.out [92, 117, 48, 48, hexD ((s[k]'hlt).toNat / 16), hexD ((s[k]'hlt).toNat % 16)] (by unfold qb; rw [if_neg (by omega), if_neg h3, if_pos (by omega)]), HA2.out, hex_at, hex_at]
          try simp only [List.append_assoc, List.cons_append, List.nil_append]
        clear HQ
        go_wp2_with fail
        go_roundw
        case rel => exact ⟨k + 1, _, by go_num, by omega, HX.out, Hw5.out, HBw5.out⟩
        case measure => simp [intOf]; omega
      have hx4 : ¬ ((s[k]'hlt).toNat : Int) < 32 := by omega
      by_cases h5 : (s[k]'hlt).toNat = 127
      · have hx5 : (((s[k]'hlt).toNat : Int) == 127) = true := by rw [h5]; rfl
        have H5 := Lib.hid h5
        clear h5
        go_wp2_with fail
        refine (writeStringW B b acc ⟨#[92, 117, 48, 48]⟩ w2 Hw2.out (by show acc.length + 4 ≤ _; omega) (by omega)).mono ?_
        rintro e w3 ⟨rfl, hW⟩
        have Hw3 := Lib.hid hW.isb
        have HBw3 := Lib.hid (HBw2.out.trans hW.bel)
        have hsw3 := HBw3.out.size
        clear hW Hw2 HBw2
        obtain ⟨ac2, hac2⟩ : ∃ a, a = acc ++ (⟨#[92, 117, 48, 48]⟩ : ByteArray).data.toList := ⟨_, rfl⟩
        have HA2 := Lib.hid hac2
        have hl2 : ac2.length = acc.length + 4 := by rw [hac2]; simp
        rw [← hac2] at Hw3
        clear hac2
        have hi1 : (s[k]'hlt).toNat / 16 < ({ data := #[48, 49, 50, 51, 52, 53, 54, 55, 56, 57, 97, 98, 99, 100, 101, 102] } : ByteArray).size := by show _ < 16; omega
        have hi2 : (s[k]'hlt).toNat % 16 < ({ data := #[48, 49, 50, 51, 52, 53, 54, 55, 56, 57, 97, 98, 99, 100, 101, 102] } : ByteArray).size := by show _ < 16; omega
        go_wp2_with fail
        refine (writeByteW B b ac2 (({ data := #[48, 49, 50, 51, 52, 53, 54, 55, 56, 57, 97, 98, 99, 100, 101, 102] } : ByteArray)[(s[k]'hlt).toNat / 16]'hi1) _ rfl w3 Hw3.out (by omega) (by omega)).mono ?_
        rintro e w4 ⟨rfl, hW⟩
        have Hw4 := Lib.hid hW.isb
        have HBw4 := Lib.hid (HBw3.out.trans hW.bel)
        have hsw4 := HBw4.out.size
        clear hW Hw3 HBw3
        go_wp2_with fail
        refine (writeByteW B b (ac2 ++ [({ data := #[48, 49, 50, 51, 52, 53, 54, 55, 56, 57, 97, 98, 99, 100, 101, 102] } : ByteArray)[(s[k]'hlt).toNat / 16]'hi1]) (({ data := #[48, 49, 50, 51, 52, 53, 54, 55, 56, 57, 97, 98, 99, 100, 101, 102] } : ByteArray)[(s[k]'hlt).toNat % 16]'hi2) _ rfl w4 Hw4.out (by rw [List.length_append, hl2]; simp only [List.length_cons, List.length_nil]; omega) (by omega)).mono ?_
        rintro e w5 ⟨rfl, hW⟩
        have Hw5 := Lib.hid hW.isb
        have HBw5 := Lib.hid (HBw4.out.trans hW.bel)
        have hsw5 := HBw5.out.size
        clear hW Hw4 HBw4
        have HX : Hid ((ac2 ++ [({ data := #[48, 49, 50, 51, 52, 53, 54, 55, 56, 57, 97, 98, 99, 100, 101, 102] } : ByteArray)[(s[k]'hlt).toNat / 16]'hi1]) ++ [({ data := #[48, 49, 50, 51, 52, 53, 54, 55, 56, 57, 97, 98, 99, 100, 101, 102] } : ByteArray)[(s[k]'hlt).toNat % 16]'hi2] = l ++ (34 :: (s.data.toList.take (k + 1)).flatMap qb)) := by
          refine (?_ : _ = _)
          rw [← HQ.out [92, 117, 48, 48, hexD ((s[k]'hlt).toNat / 16), hexD ((s[k]'hlt).toNat % 16)] (by have := H5.out; unfold qb; rw [if_neg (by omega), if_neg h3, if_pos (by omega)]), HA2.out, hex_at, hex_at]
          try simp only [List.append_assoc, List.cons_append, List.nil_append]
        clear HQ
        go_wp2_with fail
        go_roundw
        case rel => exact ⟨k + 1, _, by go_num, by omega, HX.out, Hw5.out, HBw5.out⟩
        case measure => simp [intOf]; omega
      have hx5 : (((s[k]'hlt).toNat : Int) == 127) = false := by simp; omega
      go_wp2_with fail
      refine (writeByteW B b acc (s[k]'hlt) _ rfl w2 Hw2.out (by omega) (by omega)).mono ?_
      rintro e w3 ⟨rfl, hW⟩
      have Hw3 := Lib.hid hW.isb
      have HBw3 := Lib.hid (HBw2.out.trans hW.bel)
      have hsw3 := HBw3.out.size
      clear hW Hw2 HBw2
      have HX : Hid (acc ++ [(s[k]'hlt)] = l ++ (34 :: (s.data.toList.take (k + 1)).flatMap qb)) := by
        refine (?_ : _ = _)
        rw [← HQ.out [(s[k]'hlt)] (by unfold qb; rw [if_neg (by omega), if_neg h3, if_neg (by omega)])]
        try simp only [List.append_assoc, List.cons_append, List.nil_append]
      clear HQ
      go_wp2_with fail
      go_roundw
      case rel => exact ⟨k + 1, _, by go_num, by omega, HX.out, Hw3.out, HBw3.out⟩
      case measure => simp [intOf]; omega
    · have hke : ¬ (k : Int) < (s.size : Int) := by omega
      have Hw2 := HI
      have HBw2 := HB2
      have HA2 : Hid (acc ++ [34] = l ++ quoteL s.data.toList) := by
        refine (?_ : _ = _)
        rw [HAC.out, List.take_of_length_le (by rw [len_data]; omega)]
        simp [quoteL]
      clear HI HB2 HAC
      go_wp2_with fail
      refine (writeByteW B b acc 34 _ rfl w2 Hw2.out (by omega) (by omega)).mono ?_
      rintro e w3 ⟨rfl, hW⟩
      have Hw3 := Lib.hid hW.isb
      have HBw3 := Lib.hid (HBw2.out.trans hW.bel)
      have hsw3 := HBw3.out.size
      clear hW Hw2 HBw2
      go_wp2_with fail
      go_end0
      refine ⟨rfl, ?_, HBw3.out⟩
      have := Hw3.out
      rw [HA2.out] at this
      exact this
/-- what Quote answers -/
def quoteA (l : List UInt8) : List UInt8 := if Lib.validD l then quoteL l else []
theorem quoteA_no {l : List UInt8} (h : Lib.validD l = false) : quoteA l = [] := by unfold quoteA; rw [h]; rfl
theorem quoteA_yes {l : List UInt8} (h : Lib.validD l = true) : quoteA l = quoteL l := by unfold quoteA; rw [h]; rfl
set_option maxHeartbeats 2000000 in
set_option maxRecDepth 100000 in
theorem quoteP_any (s : ByteArray) (w : World) (hT : Tabs w) (h : s.size ≤ 1048576) :
    Calls Tryd.prog 5 #[.string s] w fun e w' => e = .returned (.string ⟨(quoteA s.data.toList).toArray⟩) ∧ Below w.heap.size w w' := by
  have hv := utf8_ValidString s w (by omega) hT
  go_enter Tryd.func5, Tryd.ntmps5
  go_wp2_with fail
  refine hv.mono ?_
  rintro e w1 ⟨rfl, hb1⟩
  have HB1 := Lib.hid hb1
  have hs1 := hb1.size
  clear hv hb1
  cases hq : Lib.validD s.data.toList
  case false =>
    have HQA := Lib.hid (quoteA_no hq)
    clear hq
    go_wp2_with fail
    go_ret
    exact ⟨(by rw [HQA.out]; rfl), HB1.out⟩
  case true =>
    have HQA := Lib.hid (quoteA_yes hq)
    clear hq
    have hI : Lib.IsBuilderF 28 5 w1.heap.size w1.heap.size (Lib.byteCells []) (w1.alloc (.cells #[.pointer none, .slice none 0 0] 28)) := Lib.IsBuilderF.of (Lib.fresh_isBuilder 28 5 w1)
    have hA := writeText_any w1.heap.size w1.heap.size [] s _ hI (by simp; omega) (by simp)
    have HB2 : Hid (Below w1.heap.size w1 (w1.alloc (.cells #[.pointer none, .slice none 0 0] 28))) := (Below.refl _ w1).alloc (Nat.le_refl _) _
    clear hI
    go_wp2_with fail
    refine hA.mono ?_
    rintro e w2 ⟨rfl, hI2, hb2⟩
    rw [List.nil_append] at hI2
    have hB := stringW w1.heap.size w1.heap.size _ w2 hI2 (by simp [quoteL])
    have HB3 := Lib.hid (HB2.out.trans hb2)
    clear hA hI2 hb2 HB2
    go_wp2_with fail
    refine hB.mono ?_
    rintro e w3 ⟨rfl, hb3⟩
    have HB4 := Lib.hid (HB1.out.trans ((HB3.out.trans hb3).mono HB1.out.size))
    clear hB hb3
    go_wp2_with fail
    go_ret
    exact ⟨(by rw [HQA.out]; rfl), HB4.out⟩
end Go.Proofs.YthlcnofpgmpinaaDoor
