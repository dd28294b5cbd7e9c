/-
  The walks over the program's own Camel and Snake: what they write of a name, rune by rune.
-/
import Derived.Test.YtpodlakkfbjhbaaDoorDev
import Derived.Test.YtpodlakkfbjhbaaDoorBld
import Derived.BigCall
namespace Go.Proofs.YtpodlakkfbjhbaaDoor
set_option linter.unusedVariables false
open Go.Shelf Go.RowKit

theorem cells_enc (acc : List UInt8) (r : Int) : Lib.byteCells acc ++ Lib.runeCells r = Lib.byteCells (acc ++ Lib.encodeRune r) := by
  rw [Lib.byteCells_append, Lib.byteCells_encodeRune]
theorem camel_skip (b : Bool) (t : List Int) : camelL b (95 :: t) = camelL true t := by rw [camelL, if_pos rfl]
theorem camel_up (r : Int) (t : List Int) (h : isSmall r = true) : camelL true (r :: t) = (r - 32) :: camelL false t := by
  have h95 : r ≠ 95 := by simp only [isSmall, decide_eq_true_iff] at h; omega
  rw [camelL, if_neg h95, h]; simp
theorem camel_stay (b : Bool) (r : Int) (t : List Int) (h : r ≠ 95) (hb : (b && isSmall r) = false) : camelL b (r :: t) = r :: camelL false t := by
  rw [camelL, if_neg h, hb]; simp

set_option maxHeartbeats 4000000 in
set_option maxRecDepth 1000000 in
theorem camel_any (s : ByteArray) (w : World) (hs : s.size ≤ 1048576) :
    Calls Tryd.prog 17 #[.string s] w fun e w' => e = .returned (.string ⟨(if nameOf (runes s) = true then encL (camelL true (runes s)) else []).toArray⟩) ∧ Below w.heap.size w w' := by
  have hN := name_any s w (by omega)
  obtain ⟨N, hNN⟩ : ∃ N, nameOf (runes s) = N := ⟨_, rfl⟩
  rw [hNN] at hN ⊢
  clear hNN
  cases N with
  | false =>
    go_enter Tryd.func17, Tryd.ntmps17
    go_wp2_with (go_at_call 10; refine hN.mono ?_; rintro e w1 ⟨rfl, hb⟩)
    go_ret
    exact ⟨rfl, hb⟩
  | true =>
    rw [if_pos rfl]
    go_enter Tryd.func17, Tryd.ntmps17
    go_wp2_with (go_at_call 10; refine hN.mono ?_)
    rintro e w1 ⟨rfl, hbn⟩
    clear hN
    have HBN : Hid (Below w.heap.size w w1) := hbn
    have hsz1 : w.heap.size ≤ w1.heap.size := hbn.size
    clear hbn
    go_wp2
    go_loopw [4] (fun bg wr => ∃ (pos fuel : Nat) (b : Bool) (acc : List UInt8), bg = .bool b ∧ Lib.IsBuilderF 43 5 w1.heap.size w1.heap.size (Lib.byteCells acc) wr ∧ wr.heap[w1.heap.size + 1]? = some (.stringIter s pos) ∧ Below w1.heap.size w1 wr ∧ acc ++ encL (camelL b (rns s fuel pos)) = encL (camelL true (runes s)) ∧ s.size ≤ pos + fuel ∧ acc.length ≤ 4 * pos) (fun _ wr => s.size - wr.iterPos (w1.heap.size + 1))
    case atStart =>
      refine ⟨0, s.size, true, [], rfl, (Lib.IsBuilderF.of (Lib.fresh_isBuilder 43 5 w1)).alloc _, ?_, ((Below.refl _ w1).alloc (Nat.le_refl _) _).alloc (by simp) _, rfl, by omega, by simp⟩
      have := World.iter_heap (w1.alloc (.cells #[.pointer none, .slice none 0 0] 43)) s 0
      simpa using this
    case round =>
      obtain ⟨pos, fuel, b, acc, rfl, hI, hit, hbw, hacc, hfu, hal⟩ := hrel
      have hsz : w1.heap.size + 1 < wr.heap.size := (Array.getElem?_eq_some_iff.1 hit).1
      by_cases hp : pos < s.size
      · have hnx : ∀ ty, (Instr.next (.pointer (some ⟨w1.heap.size + 1, 0, none⟩)) true ty).run Tryd.prog wr = _ := fun ty => Lib.run_next_any_at wr (w1.heap.size + 1) s pos ty hit hp
        have hwd := width_pos s pos hp
        have hd1 := decode_le s pos
        have hI2 := hI.iterAt hit (pos + (Utf8.decode s pos).2)
        have hit2 := Lib.iterAt_heap wr (w1.heap.size + 1) s pos (pos + (Utf8.decode s pos).2) hit
        have hbw2 := Lib.below_iterAt hbw (k := w1.heap.size + 1) (by omega) s (pos + (Utf8.decode s pos).2)
        have hsz2 : w1.heap.size ≤ (wr.iterAt (w1.heap.size + 1) s (pos + (Utf8.decode s pos).2)).heap.size := by rw [Lib.iterAt_size]; omega
        have hm0 : wr.iterPos (w1.heap.size + 1) = pos := by simp [World.iterPos, hit]
        obtain ⟨f, rfl⟩ : ∃ f, fuel = f + 1 := ⟨fuel - 1, by omega⟩
        rw [rns_step s f pos hp] at hacc
        have HM : Hid (wr.iterPos (w1.heap.size + 1) = pos) := hm0
        clear hm0
        generalize (Utf8.decode s pos).2 = wd at *
        generalize (Utf8.decode s pos).1 = rn at *
        have HA : Hid (acc ++ encL (camelL b ((rn : Int) :: rns s f (pos + wd))) = encL (camelL true (runes s))) := hacc
        clear hacc hit hI hbw
        generalize wr.iterAt (w1.heap.size + 1) s (pos + wd) = wi at *
        by_cases h95 : rn = 95
        · subst h95
          go_wp2
          go_roundw
          case rel =>
            refine ⟨pos + wd, f, true, acc, rfl, hI2, hit2, hbw2, ?_, by omega, by omega⟩
            have := HA.out
            rwa [show ((95 : Nat) : Int) = 95 from rfl, camel_skip] at this
          case measure =>
            rw [HM.out]
            simp only [World.iterPos, hit2]
            omega
        · have h95' : ((rn : Int) == 95) = false := by simp; omega
          obtain ⟨S, hS⟩ : ∃ S, isSmall (rn : Int) = S := ⟨_, rfl⟩
          have hsm := fun W => small_any (rn : Int) W
          rw [hS] at hsm
          by_cases hbS : (b && S) = true
          · simp only [Bool.and_eq_true] at hbS
            obtain ⟨rfl, rfl⟩ := hbS
            have hrb : 97 ≤ (rn : Int) ∧ (rn : Int) ≤ 122 := by simpa [isSmall] using hS
            have HX : Hid ((acc ++ Lib.encodeRune ((rn : Int) - 32)) ++ encL (camelL false (rns s f (pos + wd))) = encL (camelL true (runes s))) := by
              refine (?_ : _ = _)
              have := HA.out
              rw [camel_up _ _ hS, encL_cons] at this
              rw [← this, List.append_assoc]
            have hl4 := enc_len ((rn : Int) - 32)
            have hW := fun W h1 h2 => writeRune_any w1.heap.size w1.heap.size (Lib.byteCells acc) ((rn : Int) - 32) (by omega) (by omega) W h1 (by rw [Lib.byteCells_length]; omega) h2
            have e32 : IntKind.i32.wrap ((rn : Int) + -32) = (rn : Int) - 32 := by rw [IntKind.wrap_i32]; omega
            clear HA hS
            go_wp2_with (first
              | (go_at_call 31; refine (hsm _).mono ?_; rintro e w' ⟨rfl, rfl⟩)
              | fail)
            refine (hW _ hI2 hsz2).mono ?_
            rintro e W2 ⟨⟨n, rfl⟩, h1, b1, k1⟩
            go_wp2
            go_roundw
            case rel =>
              refine ⟨pos + wd, f, false, acc ++ Lib.encodeRune ((rn : Int) - 32), rfl, ?_, k1.iter hit2 (by omega), hbw2.trans b1, HX.out, by omega, by simp; omega⟩
              rw [← cells_enc]; exact Or.inr h1
            case measure =>
              rw [HM.out]
              simp only [World.iterPos, k1.iter hit2 (by omega)]
              omega
          · have hbS' : (b && S) = false := by simpa using hbS
            have HX : Hid ((acc ++ Lib.encodeRune (rn : Int)) ++ encL (camelL false (rns s f (pos + wd))) = encL (camelL true (runes s))) := by
              refine (?_ : _ = _)
              have := HA.out
              rw [camel_stay b _ _ (by omega) (by rw [hS]; exact hbS'), encL_cons] at this
              rw [← this, List.append_assoc]
            have hl4 := enc_len (rn : Int)
            have hW := fun W h1 h2 => writeRune_any w1.heap.size w1.heap.size (Lib.byteCells acc) (rn : Int) (by omega) (by omega) W h1 (by rw [Lib.byteCells_length]; omega) h2
            clear HA hS hbS
            cases b <;> cases S
            all_goals first
              | (exfalso; revert hbS'; decide)
              | (clear hbS'
                 go_wp2_with (first
                   | (go_at_call 31; refine (hsm _).mono ?_; rintro e w' ⟨rfl, rfl⟩)
                   | fail)
                 refine (hW _ hI2 hsz2).mono ?_
                 rintro e W2 ⟨⟨n, rfl⟩, h1, b1, k1⟩
                 go_wp2
                 go_roundw
                 case rel =>
                   refine ⟨pos + wd, f, false, acc ++ Lib.encodeRune (rn : Int), rfl, ?_, k1.iter hit2 (by omega), hbw2.trans b1, HX.out, by omega, by simp; omega⟩
                   rw [← cells_enc]; exact Or.inr h1
                 case measure =>
                   rw [HM.out]
                   simp only [World.iterPos, k1.iter hit2 (by omega)]
                   omega)
      · have hnx : ∀ ty, (Instr.next (.pointer (some ⟨w1.heap.size + 1, 0, none⟩)) true ty).run Tryd.prog wr = _ := fun ty => Lib.run_next_end_at wr (w1.heap.size + 1) s pos ty hit hp
        go_wp2_with (go_at_call 33; refine (Builder_String_any_k w1.heap.size w1.heap.size acc _ hI (by omega)).mono ?_)
        rintro e W2 ⟨rfl, _, b1, _⟩
        go_wp2
        go_ret
        rw [rns_end s fuel pos hp, camelL, encL_nil, List.append_nil] at hacc
        rw [← hacc]
        exact ⟨rfl, HBN.out.trans ((hbw.trans b1).mono hsz1)⟩
end Go.Proofs.YtpodlakkfbjhbaaDoor
