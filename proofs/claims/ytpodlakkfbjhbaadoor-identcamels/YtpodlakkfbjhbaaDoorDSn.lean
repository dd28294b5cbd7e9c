/-
  The walk over the program's own Snake: what it writes of a name, rune by rune; nothing, if that has more runes than a name may have.
-/
import Derived.Test.YtpodlakkfbjhbaaDoorDCam
namespace Go.Proofs.YtpodlakkfbjhbaaDoor
set_option linter.unusedVariables false
open Go.Shelf Go.RowKit

theorem snake_first (r : Int) (t : List Int) (h : isGreat r = true) : snakeL true (r :: t) = (r + 32) :: snakeL false t := by rw [snakeL, if_pos h, if_pos rfl]
theorem snake_great (r : Int) (t : List Int) (h : isGreat r = true) : snakeL false (r :: t) = 95 :: (r + 32) :: snakeL false t := by rw [snakeL, if_pos h, if_neg (by decide)]
theorem snake_stay (f : Bool) (r : Int) (t : List Int) (h : isGreat r = false) : snakeL f (r :: t) = r :: snakeL false t := by rw [snakeL, if_neg (by rw [h]; decide)]
theorem cells_byte (acc : List UInt8) : Lib.byteCells acc ++ [.int .u8 95] = Lib.byteCells (acc ++ [95]) := by
  rw [Lib.byteCells_append]; rfl

set_option maxHeartbeats 4000000 in
set_option maxRecDepth 1000000 in
theorem snake_any (s : ByteArray) (w : World) (hs : s.size ≤ 1048576) :
    Calls Tryd.prog 19 #[.string s] w fun e w' => e = .returned (.string ⟨(if nameOf (runes s) = true ∧ Lib.runeCount ⟨(encL (snakeL true (runes s))).toArray⟩ ≤ 40 then encL (snakeL true (runes s)) else []).toArray⟩) ∧ Below w.heap.size w w' := by
  have hN := name_any s w (by omega)
  obtain ⟨R, hR⟩ : ∃ R : List UInt8, (if nameOf (runes s) = true ∧ Lib.runeCount ⟨(encL (snakeL true (runes s))).toArray⟩ ≤ 40 then encL (snakeL true (runes s)) else []) = R := ⟨_, rfl⟩
  rw [hR]
  obtain ⟨N, hNN⟩ : ∃ N, nameOf (runes s) = N := ⟨_, rfl⟩
  rw [hNN] at hN hR
  have HR : Hid ((if N = true ∧ Lib.runeCount ⟨(encL (snakeL true (runes s))).toArray⟩ ≤ 40 then encL (snakeL true (runes s)) else []) = R) := hR
  clear hNN hR
  cases N with
  | false =>
    obtain rfl : [] = R := by rw [← HR.out, if_neg (by simp)]
    go_enter Tryd.func19, Tryd.ntmps19
    go_wp2_with (go_at_call 10; refine hN.mono ?_; rintro e w1 ⟨rfl, hb⟩)
    go_ret
    exact ⟨rfl, hb⟩
  | true =>
    go_enter Tryd.func19, Tryd.ntmps19
    go_wp2_with fail
    refine hN.mono ?_
    rintro e w1 ⟨rfl, hbn⟩
    clear hN
    have HBN : Hid (Below w.heap.size w w1) := hbn
    have hsz1 : w.heap.size ≤ w1.heap.size := hbn.size
    clear hbn
    go_wp2
    go_loopw [] (fun wr => ∃ (pos fuel : Nat) (b : Bool) (acc : List UInt8), (b = true ↔ pos = 0) ∧ Lib.IsBuilderF 43 5 w1.heap.size w1.heap.size (Lib.byteCells acc) wr ∧ wr.heap[w1.heap.size + 1]? = some (.stringIter s pos) ∧ Below w1.heap.size w1 wr ∧ acc ++ encL (snakeL b (rns s fuel pos)) = encL (snakeL true (runes s)) ∧ s.size ≤ pos + fuel ∧ acc.length ≤ 5 * pos) (fun wr => s.size - wr.iterPos (w1.heap.size + 1))
    case atStart =>
      refine ⟨0, s.size, true, [], by simp, (Lib.IsBuilderF.of (Lib.fresh_isBuilder 43 5 w1)).alloc _, ?_, ((Below.refl _ w1).alloc (Nat.le_refl _) _).alloc (by simp) _, rfl, by omega, by simp⟩
      have := World.iter_heap (w1.alloc (.cells #[.pointer none, .slice none 0 0] 43)) s 0
      simpa using this
    case round =>
      obtain ⟨pos, fuel, b, acc, hb0, hI, hit, hbw, hacc, hfu, hal⟩ := hrel
      have hsz : w1.heap.size + 1 < wr.heap.size := (Array.getElem?_eq_some_iff.1 hit).1
      by_cases hp : pos < s.size
      · have hnx : ∀ ty, (Instr.next (.pointer (some ⟨w1.heap.size + 1, 0, none⟩)) true ty).run Tryd.prog wr = _ := fun ty => Lib.run_next_any_at wr (w1.heap.size + 1) s pos ty hit hp
        have hwd := width_pos s pos hp
        have hd1 := decode_le s pos
        have hI2 := hI.iterAt hit (pos + (Utf8.decode s pos).2)
        have hit2 := Lib.iterAt_heap wr (w1.heap.size + 1) s pos (pos + (Utf8.decode s pos).2) hit
        have hbw2 := Lib.below_iterAt hbw (k := w1.heap.size + 1) (by omega) s (pos + (Utf8.decode s pos).2)
        have hsz2 : w1.heap.size ≤ (wr.iterAt (w1.heap.size + 1) s (pos + (Utf8.decode s pos).2)).heap.size := by rw [Lib.iterAt_size]; omega
        have hm0 : wr.iterPos (w1.heap.size + 1) = pos := by simp [World.iterPos, hit]
        obtain ⟨f, rfl⟩ : ∃ f, fuel = f + 1 := ⟨fuel - 1, by omega⟩
        rw [rns_step s f pos hp] at hacc
        have HM : Hid (wr.iterPos (w1.heap.size + 1) = pos) := hm0
        clear hm0
        generalize (Utf8.decode s pos).2 = wd at *
        generalize (Utf8.decode s pos).1 = rn at *
        have HA : Hid (acc ++ encL (snakeL b ((rn : Int) :: rns s f (pos + wd))) = encL (snakeL true (runes s))) := hacc
        clear hacc hit hI hbw
        generalize wr.iterAt (w1.heap.size + 1) s (pos + wd) = wi at *
        have hf2 : (false = true ↔ pos + wd = 0) := by simp; omega
        have HF : Hid (false = true ↔ pos + wd = 0) := hf2
        clear hf2
        obtain ⟨G, hG⟩ : ∃ G, isGreat (rn : Int) = G := ⟨_, rfl⟩
        have hgr := fun W => great_any (rn : Int) W
        rw [hG] at hgr
        cases G with
        | false =>
          have HX : Hid ((acc ++ Lib.encodeRune (rn : Int)) ++ encL (snakeL false (rns s f (pos + wd))) = encL (snakeL true (runes s))) := by
            refine (?_ : _ = _)
            have := HA.out
            rw [snake_stay b _ _ hG, encL_cons] at this
            rw [← this, List.append_assoc]
          have hl4 := enc_len (rn : Int)
          have hW := fun W h1 h2 => writeRune_any w1.heap.size w1.heap.size (Lib.byteCells acc) (rn : Int) (by omega) (by omega) W h1 (by rw [Lib.byteCells_length]; omega) h2
          clear HA hG hb0
          go_wp2_with (first
            | (go_at_call 34; refine (hgr _).mono ?_; rintro e w' ⟨rfl, rfl⟩)
            | fail)
          refine (hW _ hI2 hsz2).mono ?_
          rintro e W2 ⟨⟨n, rfl⟩, h1, b1, k1⟩
          go_wp2
          go_roundw
          case rel =>
            refine ⟨pos + wd, f, false, acc ++ Lib.encodeRune (rn : Int), HF.out, ?_, k1.iter hit2 (by omega), hbw2.trans b1, HX.out, by omega, by simp; omega⟩
            rw [← cells_enc]; exact Or.inr h1
          case measure =>
            rw [HM.out]
            simp only [World.iterPos, k1.iter hit2 (by omega)]
            omega
        | true =>
          have hrb : 65 ≤ (rn : Int) ∧ (rn : Int) ≤ 90 := by simpa [isGreat] using hG
          have e32 : IntKind.i32.wrap ((rn : Int) + 32) = (rn : Int) + 32 := by rw [IntKind.wrap_i32]; omega
          by_cases h0 : pos = 0
          · obtain rfl : b = true := hb0.2 h0
            have HX : Hid ((acc ++ Lib.encodeRune ((rn : Int) + 32)) ++ encL (snakeL false (rns s f (pos + wd))) = encL (snakeL true (runes s))) := by
              refine (?_ : _ = _)
              have := HA.out
              rw [snake_first _ _ hG, encL_cons] at this
              rw [← this, List.append_assoc]
            have hl4 := enc_len ((rn : Int) + 32)
            have hW := fun W h1 h2 => writeRune_any w1.heap.size w1.heap.size (Lib.byteCells acc) ((rn : Int) + 32) (by omega) (by omega) W h1 (by rw [Lib.byteCells_length]; omega) h2
            have hng : ¬ (0 : Int) < (pos : Int) := by omega
            clear HA hG hb0 h0
            go_wp2_with (first
              | (go_at_call 34; refine (hgr _).mono ?_; rintro e w' ⟨rfl, rfl⟩)
              | fail)
            refine (hW _ hI2 hsz2).mono ?_
            rintro e W2 ⟨⟨n, rfl⟩, h1, b1, k1⟩
            go_wp2
            go_roundw
            case rel =>
              refine ⟨pos + wd, f, false, acc ++ Lib.encodeRune ((rn : Int) + 32), HF.out, ?_, k1.iter hit2 (by omega), hbw2.trans b1, HX.out, by omega, by simp; omega⟩
              rw [← cells_enc]; exact Or.inr h1
            case measure =>
              rw [HM.out]
              simp only [World.iterPos, k1.iter hit2 (by omega)]
              omega
          · obtain rfl : b = false := by
              cases b with
              | false => rfl
              | true => exact absurd (hb0.1 rfl) h0
            have e95 : Lib.encodeRune 95 = [95] := by decide
            have HX : Hid (((acc ++ [95]) ++ Lib.encodeRune ((rn : Int) + 32)) ++ encL (snakeL false (rns s f (pos + wd))) = encL (snakeL true (runes s))) := by
              refine (?_ : _ = _)
              have := HA.out
              rw [snake_great _ _ hG, encL_cons, encL_cons, e95] at this
              rw [← this]; simp
            have hl4 := enc_len ((rn : Int) + 32)
            have hW0 := fun W h1 h2 => writeByte_any w1.heap.size w1.heap.size (Lib.byteCells acc) 95 W h1 (by rw [Lib.byteCells_length]; omega) h2
            have hW := fun W h1 h2 => writeRune_any w1.heap.size w1.heap.size (Lib.byteCells (acc ++ [95])) ((rn : Int) + 32) (by omega) (by omega) W h1 (by rw [Lib.byteCells_length]; simp; omega) h2
            have hng : (0 : Int) < (pos : Int) := by omega
            clear HA hG hb0 h0 e95
            go_wp2_with (first
              | (go_at_call 34; refine (hgr _).mono ?_; rintro e w' ⟨rfl, rfl⟩)
              | fail)
            refine (hW0 _ hI2 hsz2).mono ?_
            rintro e W2 ⟨rfl, h1, b1, k1⟩
            rw [cells_byte] at h1
            have hsz3 : w1.heap.size ≤ W2.heap.size := by have := b1.size; omega
            go_wp2_with fail
            refine (hW _ (Or.inr h1) hsz3).mono ?_
            rintro e W3 ⟨⟨n, rfl⟩, h3, b3, k3⟩
            go_wp2
            go_roundw
            case rel =>
              refine ⟨pos + wd, f, false, (acc ++ [95]) ++ Lib.encodeRune ((rn : Int) + 32), HF.out, ?_, k3.iter (k1.iter hit2 (by omega)) (by omega), (hbw2.trans b1).trans b3, HX.out, by omega, by simp; omega⟩
              rw [← cells_enc]; exact Or.inr h3
            case measure =>
              rw [HM.out]
              simp only [World.iterPos, k3.iter (k1.iter hit2 (by omega)) (by omega)]
              omega
      · have hnx : ∀ ty, (Instr.next (.pointer (some ⟨w1.heap.size + 1, 0, none⟩)) true ty).run Tryd.prog wr = _ := fun ty => Lib.run_next_end_at wr (w1.heap.size + 1) s pos ty hit hp
        rw [rns_end s fuel pos hp, snakeL, encL_nil, List.append_nil] at hacc
        have hlen : acc.length ≤ 100000000 := by
          rw [hacc]
          have h1 := (encL_len (snakeL true (runes s))).2
          have h2 := snake_len (runes s) true
          have h3 := runes_len s
          omega
        have HA : Hid (acc = encL (snakeL true (runes s))) := hacc
        clear hacc hb0
        have hRC := fun W => utf8_RuneCountInString (ByteArray.mk acc.toArray) W (by show acc.toArray.size < _; simp; omega)
        obtain ⟨K, hK⟩ : ∃ K, Lib.runeCount (ByteArray.mk acc.toArray) = K := ⟨_, rfl⟩
        rw [hK] at hRC
        have HRK : Hid ((if K ≤ 40 then acc else []) = R) := by
          refine (?_ : _ = R)
          rw [← HR.out, ← HA.out, hK]; simp
        clear HR
        have hKl : K ≤ 100000000 := by rw [← hK]; have := Lib.runeCount_le (ByteArray.mk acc.toArray); have e : (ByteArray.mk acc.toArray).size = acc.length := by show acc.toArray.size = _; simp
                                       omega
        clear hK
        go_wp2_with (go_at_call 33; refine (Builder_String_any_k w1.heap.size w1.heap.size acc _ hI (by omega)).mono ?_)
        rintro e W2 ⟨rfl, hI3, b1, _⟩
        have hbw3 := hbw.trans b1
        clear hnx hit hI hbw b1
        go_wp2_with fail
        refine (hRC W2).mono ?_
        rintro e W3 ⟨rfl, p3, hW3⟩
        have hI4 : Lib.IsBuilderF 43 5 w1.heap.size w1.heap.size (Lib.byteCells acc) W3 := by rw [hW3]; exact hI3.alloc _
        have hbw4 : Below w1.heap.size w1 W3 := by rw [hW3]; exact hbw3.alloc hbw3.size _
        clear hW3 hI3 hbw3 hRC
        by_cases h40 : K ≤ 40
        · obtain rfl : acc = R := by rw [← HRK.out, if_pos h40]
          have hng : ¬ (40 : Int) < (K : Int) := by omega
          go_wp2_with (go_at_call 33; refine (Builder_String_any_k w1.heap.size w1.heap.size acc _ hI4 hbw4.size).mono ?_)
          rintro e W4 ⟨rfl, _, b4, _⟩
          go_wp2
          go_ret
          exact ⟨rfl, HBN.out.trans ((hbw4.trans b4).mono hsz1)⟩
        · obtain rfl : [] = R := by rw [← HRK.out, if_neg h40]
          have hng : (40 : Int) < (K : Int) := by omega
          go_wp2_with fail
          go_ret
          exact ⟨rfl, HBN.out.trans (hbw4.mono hsz1)⟩
end Go.Proofs.YtpodlakkfbjhbaaDoor
