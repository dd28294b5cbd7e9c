/-
  The walks over the document's own timers.
-/
import Derived.Test.YtblebbmnlbmgiaaTmS
namespace Go.Proofs.Ytblebbmnlbmgiaa
set_option linter.unusedVariables false
open Go.ChangeShapes Go.WideShapes Go.ChangeAt Go.RowKit

/-- where a slice lies that is cut off ahead -/
def cutT (a : Option Addr) (c k : Nat) : Option Addr := if c = k then a else a.map (·.add (k * 2))
theorem cutT_from (a : Option Addr) (n c k : Nat) (hk : k ≤ n) (hn : n ≤ c) (W : World) :
    (Instr.slice 27 (.slice a n c) (some (.int .i64 (k : Int))) none none).run Try.prog W = .ok (.slice (cutT a c k) (n - k) (c - k)) W := by
  have h0 : (0 : Int) ≤ (k : Int) := by omega
  unfold cutT
  by_cases h : c = k
  · simp [go_sem, Instr.slice, Instr.sliceBounds, Instr.sliceBound, h, h0, hk]
  · simp [go_sem, Instr.slice, Instr.sliceBounds, Instr.sliceBound, h, h0, hk]
theorem cutT_to (a : Option Addr) (n c m : Nat) (hm : m ≤ n) (hn : n ≤ c) (W : World) :
    (Instr.slice 27 (.slice a n c) none (some (.int .i64 (m : Int))) none).run Try.prog W = .ok (.slice a m c) W := by
  have h2 : (0 : Int) ≤ (m : Int) := by omega
  have h4 : m ≤ c := by omega
  simp [go_sem, Instr.slice, Instr.sliceBounds, Instr.sliceBound, h2, h4]
theorem slT_to {w : World} {a : Option Addr} {n c : Nat} {L : List (Nat × Int)} (h : SlT w (.slice a n c) L) (i : Nat) (hi : i ≤ n) : SlT w (.slice a i c) (L.take i) := by
  obtain ⟨ao, c', e, h1, h2, h3⟩ := h
  obtain ⟨rfl, rfl, rfl⟩ := Value.slice.inj e
  have hl : (L.take i).length = i := by rw [List.length_take]; omega
  refine ⟨a, c, by rw [hl], by omega, h2, ?_⟩
  rcases h3 with ⟨h4, h5, h6⟩ | ⟨g, o, h4, h5⟩
  · exact .inl ⟨h4, by omega, h6⟩
  · refine .inr ⟨g, o, h4, fun j u hu => h5 j u ?_⟩
    rw [rowsT_take, List.getElem?_take] at hu
    split at hu
    · exact hu
    · cases hu
theorem slT_from {w : World} {a : Option Addr} {n c : Nat} {L : List (Nat × Int)} (h : SlT w (.slice a n c) L) (k : Nat) (hk : k ≤ n) : SlT w (.slice (cutT a c k) (n - k) (c - k)) (L.drop k) := by
  obtain ⟨ao, c', e, h1, h2, h3⟩ := h
  obtain ⟨rfl, rfl, rfl⟩ := Value.slice.inj e
  have hl : (L.drop k).length = L.length - k := by rw [List.length_drop]
  refine ⟨_, _, by rw [hl], by omega, by omega, ?_⟩
  rcases h3 with ⟨h4, h5, h6⟩ | ⟨g, o, h4, h5⟩
  · subst h4; exact .inl ⟨by unfold cutT; split <;> rfl, by omega, by omega⟩
  · subst h4
    by_cases hc : c = k
    · refine .inr ⟨g, o, by unfold cutT; rw [if_pos hc], fun j u hu => ?_⟩
      have : L.drop k = [] := List.drop_of_length_le (by omega)
      rw [this] at hu; simp [rowsT] at hu
    · refine .inr ⟨g, o + k * 2, ?_, fun j u hu => ?_⟩
      · unfold cutT; rw [if_neg hc]; show some ((⟨g, o, none⟩ : Addr).add (k * 2)) = _; unfold Addr.add; split <;> simp_all
      · rw [rowsT_drop, List.getElem?_drop] at hu
        rw [Nat.add_assoc]
        exact h5 _ _ hu
/-- the document's own timers lie at a place, and are just the list's -/
def HeldR (w : World) (ok : Nat → Prop) (rb : Nat) (L : List (Nat × Int)) : Prop :=
  ∃ ao c, w.cell? ⟨rb, 0, none⟩ = some (.slice ao L.length c) ∧ w.frozen? ⟨rb, 0, none⟩ = false ∧ OwnT w 0 (.slice ao L.length c) L ∧ ∀ a, ao = some a → ok a.block
theorem SlT.at {w : World} {ao : Option Addr} {n c : Nat} {L : List (Nat × Int)} (h : SlT w (.slice ao n c) L) {i : Nat} {x : Nat × Int} (hx : L[i]? = some x) :
    ∃ g o, ao = some ⟨g, o, none⟩ ∧ w.cell? ⟨g, o + i * 2, none⟩ = some (.int .u64 x.1) ∧ w.cell? ⟨g, o + i * 2 + 1, none⟩ = some (.int .i64 x.2) := by
  obtain ⟨ao', c', e, h1, h2, h3⟩ := h
  obtain ⟨rfl, rfl, rfl⟩ := Value.slice.inj e
  obtain ⟨r0, r1⟩ := rowsT_at hx
  rcases h3 with ⟨h4, h5, h6⟩ | ⟨g, o, h4, h5⟩
  · rw [List.eq_nil_of_length_eq_zero h5] at hx; simp at hx
  · exact ⟨g, o, h4, h5 _ _ r0, h5 _ _ r1⟩
theorem HeldR.old {w w' : World} {ok : Nat → Prop} {rb : Nat} {L : List (Nat × Int)} (h : HeldR w ok rb L) (hb : ∀ b, (b = rb ∨ ok b) → b < w.heap.size → w'.heap[b]? = w.heap[b]?) : HeldR w' ok rb L := by
  obtain ⟨ao, c, c0, f0, ho, hk⟩ := h
  have hlt : rb < w.heap.size := cell_lt c0
  refine ⟨ao, c, by rw [World.cell?_of_block (hb rb (.inl rfl) hlt)]; exact c0, by rw [World.frozen?_of_block (hb rb (.inl rfl) hlt)]; exact f0, ho.old (fun g hg => ?_) fun _ _ => Nat.zero_le _, hk⟩
  obtain ⟨_, h2⟩ := ho.block hg
  cases ao with
  | none => cases hg
  | some a => obtain rfl := Option.some.inj hg; exact hb _ (.inr (hk a rfl)) h2
theorem HeldR.lt {w : World} {ok : Nat → Prop} {rb : Nat} {L : List (Nat × Int)} (h : HeldR w ok rb L) : rb < w.heap.size := by
  obtain ⟨ao, c, c0, _⟩ := h; exact cell_lt c0
theorem due_at {L : List (Nat × Int)} (h : OrdL L) {k i : Nat} {d : Int} (hx : L[i]? = some (k, d)) : dueL L k = some d := due_some h (List.mem_of_getElem? hx)
theorem due_gone {L : List (Nat × Int)} {k : Nat} (h : ∀ (j : Nat) (x : Nat × Int), j < L.length → L[j]? = some x → x.1 ≠ k) : dueL L k = none := due_none fun z hz => by
  obtain ⟨j, hj⟩ := List.getElem?_of_mem hz
  exact h j z (List.getElem?_eq_some_iff.1 hj).1 hj
set_option maxHeartbeats 4000000 in
theorem dueR_any (rb k : Nat) (L : List (Nat × Int)) (ok : Nat → Prop) (w : World) (hR : HeldR w ok rb L) (hO : OrdL L) (hk : k < 18446744073709551616) (hL : L.length ≤ 1000000) :
    Calls Try.prog 15 #[ptr rb, .int .u64 k] w fun e w' => e = .returned (dueV (dueL L k)) ∧ w' = w := by
  obtain ⟨ao, c, c0, f0, ho, _⟩ := hR
  have HS := Lib.hid ho.slT
  have HO := Lib.hid hO
  clear ho hO f0
  obtain ⟨n, hn⟩ : ∃ n, L.length = n := ⟨_, rfl⟩
  rw [hn] at c0
  have HN := Lib.hid hn
  have hL : n ≤ 1000000 := by omega
  rw [hn] at HS
  clear hn
  obtain ⟨dd, hdd⟩ : ∃ dd, dueL L k = dd := ⟨_, rfl⟩
  rw [hdd]
  have HD := Lib.hid hdd
  clear hdd
  unfold ptr dueV
  go_enter Try.func15, Try.ntmps15
  go_wp2_with fail
  go_loopw [12] (fun i wr => ∃ (j : Nat), i = .int .i64 (j : Int) ∧ j ≤ n ∧ Hid (∀ (q : Nat) (x : Nat × Int), q < j → L[q]? = some x → x.1 ≠ k) ∧ wr = w) (fun i _ => n - (intOf i).toNat)
  case atStart => exact ⟨0, rfl, Nat.zero_le _, Lib.hid fun q x h => absurd h (Nat.not_lt_zero _), rfl⟩
  case round =>
    obtain ⟨j, rfl, hj, HI, rfl⟩ := hrel
    by_cases hlt : j < n
    · obtain ⟨x, hx⟩ : ∃ x, L[j]? = some x := ⟨_, List.getElem?_eq_getElem (by have := HN.out; omega)⟩
      have HX := Lib.hid hx
      obtain ⟨g, o, rfl, r0, r1⟩ := HS.out.at hx
      clear hx
      by_cases he : x.1 = k
      · have HDD : Hid (dd = some x.2) := by refine (?_ : _ = _); rw [← HD.out]; exact due_at HO.out (d := x.2) (by rw [HX.out, ← he])
        subst he
        go_wp2_with fail
        go_ret2
        exact ⟨by rw [HDD.out]; rfl, rfl⟩
      · have he2 : ¬ ((x.1 : Int) = (k : Int)) := by omega
        go_wp2_with fail
        go_roundw
        case rel => exact ⟨j + 1, by go_num, by omega, Lib.hid fun q y hq hy => by
            by_cases h : q = j
            · subst h; rw [HX.out] at hy; obtain rfl := Option.some.inj hy; exact he
            · exact HI.out q y (by omega) hy, by first | rfl | trivial⟩
        case measure => simp [intOf]; omega
    · have hlt2 : ¬ (j : Int) < (n : Int) := by omega
      have HDD : Hid (dd = none) := by refine (?_ : _ = _); rw [← HD.out]; exact due_gone fun q x hq hx => HI.out q x (by have := HN.out; omega) hx
      go_wp2_with fail
      go_ret2
      exact ⟨by rw [HDD.out]; rfl, rfl⟩
end Go.Proofs.Ytblebbmnlbmgiaa
