/-
  The walks over the program's own messageStub, rowsOf and Rows.
-/
import Derived.Test.YtkhnicppcbgdiaaGreatDoorM13
import Derived.Test.YtkhnicppcbgdiaaGreatDoorM4
import Derived.Test.YtkhnicppcbgdiaaGreatDoorM2
import Derived.Test.YtkhnicppcbgdiaaGreatDoorM3
import Derived.Test.YtkhnicppcbgdiaaGreatDoorM0
import Derived.Test.YtkhnicppcbgdiaaGreatDoorM8
import Derived.Test.YtkhnicppcbgdiaaGreatDoorM6
import Derived.Test.YtkhnicppcbgdiaaGreatDoorM1
import Derived.Test.YtkhnicppcbgdiaaGreatDoorM5
import Derived.Test.YtkhnicppcbgdiaaGreatDoorProg
import Derived.Test.YtkhnicppcbgdiaaGreatDoorM15
import Derived.Test.YtkhnicppcbgdiaaGreatDoorM16
import Derived.Test.YtkhnicppcbgdiaaGreatDoorM19
import Derived.Test.YtkhnicppcbgdiaaGreatDoorM20
import Derived.Lib.CountLaws
import Derived.Lib.ReplaceLaws
import Derived.Lib.SplitLaws
import Derived.Deep.RegionLaw
import Derived.BigQuiet
import Derived.Deep.QuietTactic
import Derived.Maps.OwnOps
import Derived.Deep.RegionHeldLaw
import Derived.Deep.Cut
import Derived.Deep.DeepCutAuto
import Derived.Deep.AppendLies
import Derived.Laws.AppendOwn
import Derived.OwnWalk
import Derived.Maps.AppendAt
import Derived.Lib.Hide
import Derived.Deep.RegionWith
import Derived.Lib.SlicesS
import Derived.Laws.AppendOwnNone
import Derived.Lib.ItoaMem
import Derived.Lib.ItoaLen
import Derived.Sort.OwnSorted
import Derived.OrdersHeld
import Derived.Deep.RegionHeld
import Derived.Deep.OwnRows
import Derived.WalkKit
namespace Go.Proofs.YtkhnicppcbgdiaaGreatDoor
set_option linter.unusedVariables false
open Go.ChangeShapes Go.WideShapes Go.ChangeAt Go.RowKit

/-- dots become lines -/
def undB (b : UInt8) : UInt8 := if b = 46 then 95 else b
def undL (l : List UInt8) : List UInt8 := l.map undB
theorem undL_id : ∀ {l : List UInt8}, (∀ j : Nat, l[j]? ≠ some 46) → undL l = l
  | [], _ => rfl
  | b :: t, h => by
    have hb : b ≠ 46 := fun e => h 0 (by rw [e]; rfl)
    show undB b :: undL t = b :: t
    rw [undL_id fun j => by have := h (j + 1); simpa using this]
    unfold undB; rw [if_neg hb]
theorem replace_dots : ∀ (f : Nat) (s : List UInt8), s.length < f → Lib.replaceK [46] [95] (Lib.countFrom [46] f s) s = undL s
  | 0, s, h => by omega
  | f + 1, s, h => by
    rcases index_dot s with ⟨h1, h2⟩ | ⟨i, h1, h2, h3⟩
    · rw [Lib.countFrom, if_pos (by rw [h1]; rfl), Lib.replaceK, undL_id h2]
    · have hil : i < s.length := (List.getElem?_eq_some_iff.1 h2).1
      rw [Lib.countFrom, if_neg (by rw [h1]; first | (simp; done) | (simp; omega)), h1, Nat.add_comm, Lib.replaceK_hit _ _ _ _ i h1]
      have ih := replace_dots f (s.drop (i + 1)) (by rw [List.length_drop]; omega)
      show s.take i ++ [95] ++ Lib.replaceK [46] [95] (Lib.countFrom [46] f (s.drop ((i : Int).toNat + 1))) (s.drop (i + 1)) = _
      rw [Int.toNat_natCast, ih]
      have e : s = s.take i ++ 46 :: s.drop (i + 1) := by
        obtain ⟨hl, hv⟩ := List.getElem?_eq_some_iff.1 h2
        conv => lhs; rw [← List.take_append_drop i s, List.drop_eq_getElem_cons hl, hv]
      have e1 : undL (s.take i) = s.take i := undL_id fun j hj => by
        rw [List.getElem?_take] at hj
        split at hj
        · exact h3 j (by assumption) hj
        · cases hj
      conv => rhs; rw [e]
      unfold undL at *
      rw [List.map_append, List.map_cons, e1]
      simp [undB]
theorem replaceAll_dots (s : List UInt8) : Lib.replaceAll s [46] [95] = undL s := by
  unfold Lib.replaceAll Lib.replace Lib.replaceNum
  rw [if_neg (by decide), if_pos (.inl (by decide))]
  exact replace_dots (s.length + 1) s (by omega)
theorem undL_len (l : List UInt8) : (undL l).length = l.length := by unfold undL; rw [List.length_map]
set_option maxHeartbeats 2000000 in
theorem messageStub_any (nm : List UInt8) (fa : Option Addr) (n fc : Nat) (w : World) (hM : Mx w) (h : nm.length ≤ 100000) :
    Calls Tryz.prog 33 #[.agg #[.string (mkB nm), .slice fa n fc]] w fun e w' => e = .returned (.string (mkB (undL nm))) ∧ Below w.heap.size w w' := by
  obtain ⟨Y, hY, hC, hb, hYs⟩ := box_new w #[.string (mkB nm), .slice fa n fc] 46
  have HY := Lib.hid hY
  have HB := Lib.hid hb
  obtain ⟨m, hm⟩ := hM.below hb
  have hR := strings_ReplaceAll (mkB nm) ⟨#[46]⟩ ⟨#[95]⟩ m Y (by rw [mkB_sz]; omega) hm (by decide) (by
    have := Lib.countB_le ⟨#[46]⟩ (by decide) (mkB nm).size (mkB nm) (Nat.le_refl _)
    rw [mkB_sz] at this ⊢
    rw [show (⟨#[95]⟩ : ByteArray).size = 1 from rfl]
    omega)
  have e1 : (mkB nm).data.toList = nm := by simp [mkB]
  rw [e1, show (⟨#[46]⟩ : ByteArray).data.toList = [46] from rfl, show (⟨#[95]⟩ : ByteArray).data.toList = [95] from rfl, replaceAll_dots] at hR
  have c0 := cell_at hC 0 rfl
  clear hY hC hb hYs hm
  go_enter Tryz.func33, Tryz.ntmps33
  go_upto_region 1 with fail
  rw [HY.out]
  go_wp2_with fail
  refine hR.mono ?_
  rintro e w1 ⟨rfl, hb⟩
  have HB1 := Lib.hid (HB.out.trans (hb.mono HB.out.size))
  clear hb hR c0
  have hcl := clone_any (mkB (undL nm)) w1 (by rw [mkB_sz, undL_len]; omega)
  go_wp2_with fail
  refine hcl.mono ?_
  rintro e w2 ⟨rfl, hb⟩
  go_wp2_with fail
  go_ret
  exact ⟨rfl, HB1.out.trans (hb.mono HB1.out.size)⟩
end Go.Proofs.YtkhnicppcbgdiaaGreatDoor
