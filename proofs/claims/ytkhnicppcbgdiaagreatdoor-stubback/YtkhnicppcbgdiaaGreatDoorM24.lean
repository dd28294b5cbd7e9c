/-
  The walks over the program's own Camel and Snake: what they write of a name, rune by rune.
  The walks over the program's own messageStub, rowsOf and Rows.
-/
import Derived.Test.YtkhnicppcbgdiaaGreatDoorM2
import Derived.Test.YtkhnicppcbgdiaaGreatDoorM23
import Derived.BigCall
import Derived.Test.YtkhnicppcbgdiaaGreatDoorM16
import Derived.Test.YtkhnicppcbgdiaaGreatDoorM6
import Derived.Test.YtkhnicppcbgdiaaGreatDoorM4
import Derived.Test.YtkhnicppcbgdiaaGreatDoorM5
import Derived.Test.YtkhnicppcbgdiaaGreatDoorM0
import Derived.Test.YtkhnicppcbgdiaaGreatDoorM13
import Derived.Test.YtkhnicppcbgdiaaGreatDoorM11
import Derived.Test.YtkhnicppcbgdiaaGreatDoorM10
import Derived.Test.YtkhnicppcbgdiaaGreatDoorProg
import Derived.Test.YtkhnicppcbgdiaaGreatDoorM17
import Derived.Test.YtkhnicppcbgdiaaGreatDoorM18
import Derived.Test.YtkhnicppcbgdiaaGreatDoorM3
import Derived.Test.YtkhnicppcbgdiaaGreatDoorM19
import Derived.Test.YtkhnicppcbgdiaaGreatDoorM22
import Derived.Lib.CountLaws
import Derived.Lib.ReplaceLaws
import Derived.Lib.SplitLaws
import Derived.Deep.RegionLaw
import Derived.BigQuiet
import Derived.Deep.QuietTactic
import Derived.Maps.OwnOps
import Derived.Deep.RegionHeldLaw
import Derived.Deep.Cut
import Derived.Deep.DeepCutAuto
import Derived.Deep.AppendLies
import Derived.Laws.AppendOwn
import Derived.OwnWalk
import Derived.Maps.AppendAt
import Derived.Lib.Hide
import Derived.Deep.RegionWith
import Derived.Lib.SlicesS
import Derived.Laws.AppendOwnNone
import Derived.Lib.ItoaMem
import Derived.Lib.ItoaLen
import Derived.Sort.OwnSorted
import Derived.OrdersHeld
import Derived.Deep.RegionHeld
import Derived.Deep.OwnRows
import Derived.WalkKit
namespace Go.Proofs.YtkhnicppcbgdiaaGreatDoor
set_option linter.unusedVariables false
open Go.Shelf Go.RowKit

theorem cells_enc (acc : List UInt8) (r : Int) : Lib.byteCells acc ++ Lib.runeCells r = Lib.byteCells (acc ++ Lib.encodeRune r) := by
  rw [Lib.byteCells_append, Lib.byteCells_encodeRune]
theorem camel_skip (b : Bool) (t : List Int) : camelL b (95 :: t) = camelL true t := by rw [camelL, if_pos rfl]
theorem camel_up (r : Int) (t : List Int) (h : isSmall r = true) : camelL true (r :: t) = (r - 32) :: camelL false t := by
  have h95 : r ≠ 95 := by simp only [isSmall, decide_eq_true_iff] at h; omega
  rw [camelL, if_neg h95, h]; simp
theorem camel_stay (b : Bool) (r : Int) (t : List Int) (h : r ≠ 95) (hb : (b && isSmall r) = false) : camelL b (r :: t) = r :: camelL false t := by
  rw [camelL, if_neg h, hb]; simp

set_option maxHeartbeats 4000000 in
set_option maxRecDepth 1000000 in
theorem camel_any (s : ByteArray) (w : World) (hs : s.size ≤ 1048576) :
    Calls Tryz.prog 32 #[.string s] w fun e w' => e = .returned (.string ⟨(if nameOf (runes s) = true then encL (camelL true (runes s)) else []).toArray⟩) ∧ Below w.heap.size w w' := by
  have hN := name_any s w (by omega)
  obtain ⟨N, hNN⟩ : ∃ N, nameOf (runes s) = N := ⟨_, rfl⟩
  rw [hNN] at hN ⊢
  clear hNN
  cases N with
  | false =>
    go_enter Tryz.func32, Tryz.ntmps32
    go_wp2_with (go_at_call 58; refine hN.mono ?_; rintro e w1 ⟨rfl, hb⟩)
    go_ret
    exact ⟨rfl, hb⟩
  | true =>
    rw [if_pos rfl]
    go_enter Tryz.func32, Tryz.ntmps32
    go_wp2_with (go_at_call 58; refine hN.mono ?_)
    rintro e w1 ⟨rfl, hbn⟩
    clear hN
    have HBN : Hid (Below w.heap.size w w1) := hbn
    have hsz1 : w.heap.size ≤ w1.heap.size := hbn.size
    clear hbn
    go_wp2
    go_loopw [4] (fun bg wr => ∃ (pos fuel : Nat) (b : Bool) (acc : List UInt8), bg = .bool b ∧ Lib.IsBuilderF 78 5 w1.heap.size w1.heap.size (Lib.byteCells acc) wr ∧ wr.heap[w1.heap.size + 1]? = some (.stringIter s pos) ∧ Below w1.heap.size w1 wr ∧ acc ++ encL (camelL b (rns s fuel pos)) = encL (camelL true (runes s)) ∧ s.size ≤ pos + fuel ∧ acc.length ≤ 4 * pos) (fun _ wr => s.size - wr.iterPos (w1.heap.size + 1))
    case atStart =>
      refine ⟨0, s.size, true, [], rfl, (Lib.IsBuilderF.of (Lib.fresh_isBuilder 78 5 w1)).alloc _, ?_, ((Below.refl _ w1).alloc (Nat.le_refl _) _).alloc (by simp) _, rfl, by omega, by simp⟩
      have := World.iter_heap (w1.alloc (.cells #[.pointer none, .slice none 0 0] 78)) s 0
      simpa using this
    case round =>
      obtain ⟨pos, fuel, b, acc, rfl, hI, hit, hbw, hacc, hfu, hal⟩ := hrel
      have hsz : w1.heap.size + 1 < wr.heap.size := (Array.getElem?_eq_some_iff.1 hit).1
      by_cases hp : pos < s.size
      · have hnx : ∀ ty, (Instr.next (.pointer (some ⟨w1.heap.size + 1, 0, none⟩)) true ty).run Tryz.prog wr = _ := fun ty => Lib.run_next_any_at wr (w1.heap.size + 1) s pos ty hit hp
        have hwd := width_pos s pos hp
        have hd1 := decode_le s pos
        have hI2 := hI.iterAt hit (pos + (Utf8.decode s pos).2)
        have hit2 := Lib.iterAt_heap wr (w1.heap.size + 1) s pos (pos + (Utf8.decode s pos).2) hit
        have hbw2 := Lib.below_iterAt hbw (k := w1.heap.size + 1) (by omega) s (pos + (Utf8.decode s pos).2)
        have hsz2 : w1.heap.size ≤ (wr.iterAt (w1.heap.size + 1) s (pos + (Utf8.decode s pos).2)).heap.size := by rw [Lib.iterAt_size]; omega
        have hm0 : wr.iterPos (w1.heap.size + 1) = pos := by simp [World.iterPos, hit]
        obtain ⟨f, rfl⟩ : ∃ f, fuel = f + 1 := ⟨fuel - 1, by omega⟩
        rw [rns_step s f pos hp] at hacc
        have HM : Hid (wr.iterPos (w1.heap.size + 1) = pos) := hm0
        clear hm0
        generalize (Utf8.decode s pos).2 = wd at *
        generalize (Utf8.decode s pos).1 = rn at *
        have HA : Hid (acc ++ encL (camelL b ((rn : Int) :: rns s f (pos + wd))) = encL (camelL true (runes s))) := hacc
        clear hacc hit hI hbw
        generalize wr.iterAt (w1.heap.size + 1) s (pos + wd) = wi at *
        by_cases h95 : rn = 95
        · subst h95
          go_wp2
          go_roundw
          case rel =>
            refine ⟨pos + wd, f, true, acc, rfl, hI2, hit2, hbw2, ?_, by omega, by omega⟩
            have := HA.out
            rwa [show ((95 : Nat) : Int) = 95 from rfl, camel_skip] at this
          case measure =>
            rw [HM.out]
            simp only [World.iterPos, hit2]
            omega
        · have h95' : ((rn : Int) == 95) = false := by simp; omega
          obtain ⟨S, hS⟩ : ∃ S, isSmall (rn : Int) = S := ⟨_, rfl⟩
          have hsm := fun W => small_any (rn : Int) W
          rw [hS] at hsm
          by_cases hbS : (b && S) = true
          · simp only [Bool.and_eq_true] at hbS
            obtain ⟨rfl, rfl⟩ := hbS
            have hrb : 97 ≤ (rn : Int) ∧ (rn : Int) ≤ 122 := by simpa [isSmall] using hS
            have HX : Hid ((acc ++ Lib.encodeRune ((rn : Int) - 32)) ++ encL (camelL false (rns s f (pos + wd))) = encL (camelL true (runes s))) := by
              refine (?_ : _ = _)
              have := HA.out
              rw [camel_up _ _ hS, encL_cons] at this
              rw [← this, List.append_assoc]
            have hl4 := enc_len ((rn : Int) - 32)
            have hW := fun W h1 h2 => writeRune_any w1.heap.size w1.heap.size (Lib.byteCells acc) ((rn : Int) - 32) (by omega) (by omega) W h1 (by rw [Lib.byteCells_length]; omega) h2
            have e32 : IntKind.i32.wrap ((rn : Int) + -32) = (rn : Int) - 32 := by rw [IntKind.wrap_i32]; omega
            clear HA hS
            go_wp2_with (first
              | (go_at_call 59; refine (hsm _).mono ?_; rintro e w' ⟨rfl, rfl⟩)
              | fail)
            refine (hW _ hI2 hsz2).mono ?_
            rintro e W2 ⟨⟨n, rfl⟩, h1, b1, k1⟩
            go_wp2
            go_roundw
            case rel =>
              refine ⟨pos + wd, f, false, acc ++ Lib.encodeRune ((rn : Int) - 32), rfl, ?_, k1.iter hit2 (by omega), hbw2.trans b1, HX.out, by omega, by simp; omega⟩
              rw [← cells_enc]; exact Or.inr h1
            case measure =>
              rw [HM.out]
              simp only [World.iterPos, k1.iter hit2 (by omega)]
              omega
          · have hbS' : (b && S) = false := by simpa using hbS
            have HX : Hid ((acc ++ Lib.encodeRune (rn : Int)) ++ encL (camelL false (rns s f (pos + wd))) = encL (camelL true (runes s))) := by
              refine (?_ : _ = _)
              have := HA.out
              rw [camel_stay b _ _ (by omega) (by rw [hS]; exact hbS'), encL_cons] at this
              rw [← this, List.append_assoc]
            have hl4 := enc_len (rn : Int)
            have hW := fun W h1 h2 => writeRune_any w1.heap.size w1.heap.size (Lib.byteCells acc) (rn : Int) (by omega) (by omega) W h1 (by rw [Lib.byteCells_length]; omega) h2
            clear HA hS hbS
            cases b <;> cases S
            all_goals first
              | (exfalso; revert hbS'; decide)
              | (clear hbS'
                 go_wp2_with (first
                   | (go_at_call 59; refine (hsm _).mono ?_; rintro e w' ⟨rfl, rfl⟩)
                   | fail)
                 refine (hW _ hI2 hsz2).mono ?_
                 rintro e W2 ⟨⟨n, rfl⟩, h1, b1, k1⟩
                 go_wp2
                 go_roundw
                 case rel =>
                   refine ⟨pos + wd, f, false, acc ++ Lib.encodeRune (rn : Int), rfl, ?_, k1.iter hit2 (by omega), hbw2.trans b1, HX.out, by omega, by simp; omega⟩
                   rw [← cells_enc]; exact Or.inr h1
                 case measure =>
                   rw [HM.out]
                   simp only [World.iterPos, k1.iter hit2 (by omega)]
                   omega)
      · have hnx : ∀ ty, (Instr.next (.pointer (some ⟨w1.heap.size + 1, 0, none⟩)) true ty).run Tryz.prog wr = _ := fun ty => Lib.run_next_end_at wr (w1.heap.size + 1) s pos ty hit hp
        go_wp2_with (go_at_call 37; refine (Builder_String_any_k w1.heap.size w1.heap.size acc _ hI (by omega)).mono ?_)
        rintro e W2 ⟨rfl, _, b1, _⟩
        go_wp2
        go_ret
        rw [rns_end s fuel pos hp, camelL, encL_nil, List.append_nil] at hacc
        rw [← hacc]
        exact ⟨rfl, HBN.out.trans ((hbw.trans b1).mono hsz1)⟩
end Go.Proofs.YtkhnicppcbgdiaaGreatDoor
namespace Go.Proofs.YtkhnicppcbgdiaaGreatDoor
set_option linter.unusedVariables false
open Go.ChangeShapes Go.WideShapes Go.ChangeAt Go.RowKit

/-- dots become lines -/
def undB (b : UInt8) : UInt8 := if b = 46 then 95 else b
def undL (l : List UInt8) : List UInt8 := l.map undB
theorem undL_id : ∀ {l : List UInt8}, (∀ j : Nat, l[j]? ≠ some 46) → undL l = l
  | [], _ => rfl
  | b :: t, h => by
    have hb : b ≠ 46 := fun e => h 0 (by rw [e]; rfl)
    show undB b :: undL t = b :: t
    rw [undL_id fun j => by have := h (j + 1); simpa using this]
    unfold undB; rw [if_neg hb]
theorem replace_dots : ∀ (f : Nat) (s : List UInt8), s.length < f → Lib.replaceK [46] [95] (Lib.countFrom [46] f s) s = undL s
  | 0, s, h => by omega
  | f + 1, s, h => by
    rcases index_dot s with ⟨h1, h2⟩ | ⟨i, h1, h2, h3⟩
    · rw [Lib.countFrom, if_pos (by rw [h1]; rfl), Lib.replaceK, undL_id h2]
    · have hil : i < s.length := (List.getElem?_eq_some_iff.1 h2).1
      rw [Lib.countFrom, if_neg (by rw [h1]; first | (simp; done) | (simp; omega)), h1, Nat.add_comm, Lib.replaceK_hit _ _ _ _ i h1]
      have ih := replace_dots f (s.drop (i + 1)) (by rw [List.length_drop]; omega)
      show s.take i ++ [95] ++ Lib.replaceK [46] [95] (Lib.countFrom [46] f (s.drop ((i : Int).toNat + 1))) (s.drop (i + 1)) = _
      rw [Int.toNat_natCast, ih]
      have e : s = s.take i ++ 46 :: s.drop (i + 1) := by
        obtain ⟨hl, hv⟩ := List.getElem?_eq_some_iff.1 h2
        conv => lhs; rw [← List.take_append_drop i s, List.drop_eq_getElem_cons hl, hv]
      have e1 : undL (s.take i) = s.take i := undL_id fun j hj => by
        rw [List.getElem?_take] at hj
        split at hj
        · exact h3 j (by assumption) hj
        · cases hj
      conv => rhs; rw [e]
      unfold undL at *
      rw [List.map_append, List.map_cons, e1]
      simp [undB]
theorem replaceAll_dots (s : List UInt8) : Lib.replaceAll s [46] [95] = undL s := by
  unfold Lib.replaceAll Lib.replace Lib.replaceNum
  rw [if_neg (by decide), if_pos (.inl (by decide))]
  exact replace_dots (s.length + 1) s (by omega)
theorem undL_len (l : List UInt8) : (undL l).length = l.length := by unfold undL; rw [List.length_map]
set_option maxHeartbeats 2000000 in
theorem messageStub_any (nm : List UInt8) (fa : Option Addr) (n fc : Nat) (w : World) (hM : Mx w) (h : nm.length ≤ 100000) :
    Calls Tryz.prog 33 #[.agg #[.string (mkB nm), .slice fa n fc]] w fun e w' => e = .returned (.string (mkB (undL nm))) ∧ Below w.heap.size w w' := by
  obtain ⟨Y, hY, hC, hb, hYs⟩ := box_new w #[.string (mkB nm), .slice fa n fc] 46
  have HY := Lib.hid hY
  have HB := Lib.hid hb
  obtain ⟨m, hm⟩ := hM.below hb
  have hR := strings_ReplaceAll (mkB nm) ⟨#[46]⟩ ⟨#[95]⟩ m Y (by rw [mkB_sz]; omega) hm (by decide) (by
    have := Lib.countB_le ⟨#[46]⟩ (by decide) (mkB nm).size (mkB nm) (Nat.le_refl _)
    rw [mkB_sz] at this ⊢
    rw [show (⟨#[95]⟩ : ByteArray).size = 1 from rfl]
    omega)
  have e1 : (mkB nm).data.toList = nm := by simp [mkB]
  rw [e1, show (⟨#[46]⟩ : ByteArray).data.toList = [46] from rfl, show (⟨#[95]⟩ : ByteArray).data.toList = [95] from rfl, replaceAll_dots] at hR
  have c0 := cell_at hC 0 rfl
  clear hY hC hb hYs hm
  go_enter Tryz.func33, Tryz.ntmps33
  go_upto_region 1 with fail
  rw [HY.out]
  go_wp2_with fail
  refine hR.mono ?_
  rintro e w1 ⟨rfl, hb⟩
  have HB1 := Lib.hid (HB.out.trans (hb.mono HB.out.size))
  clear hb hR c0
  have hcl := clone_any (mkB (undL nm)) w1 (by rw [mkB_sz, undL_len]; omega)
  go_wp2_with fail
  refine hcl.mono ?_
  rintro e w2 ⟨rfl, hb⟩
  go_wp2_with fail
  go_ret
  exact ⟨rfl, HB1.out.trans (hb.mono HB1.out.size)⟩
end Go.Proofs.YtkhnicppcbgdiaaGreatDoor
