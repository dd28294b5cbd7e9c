/-
  What stands between dots: plain words and facts of this seat. Nothing is proved of the program here.
-/
import Derived.Test.YtpodlakkfbjhbaaDoorEnc
import Derived.Test.YtpodlakkfbjhbaaDoorRes
import Derived.Test.YtpodlakkfbjhbaaDoorDRun
import Derived.Lib.Split
import Derived.Lib.IndexMore
namespace Go.Proofs.YtpodlakkfbjhbaaDoor
set_option linter.unusedVariables false

/-- the pieces between dots; cur: what the piece at hand has so far -/
def pcs : List UInt8 → List UInt8 → List (List UInt8)
  | cur, [] => [cur]
  | cur, b :: t => if b = 46 then cur :: pcs [] t else pcs (cur ++ [b]) t
theorem pcs_nil (cur : List UInt8) : pcs cur [] = [cur] := rfl
theorem pcs_dot (cur t : List UInt8) : pcs cur (46 :: t) = cur :: pcs [] t := by rw [pcs, if_pos rfl]
theorem pcs_on (cur t : List UInt8) (b : UInt8) (h : b ≠ 46) : pcs cur (b :: t) = pcs (cur ++ [b]) t := by rw [pcs, if_neg h]
theorem pcs_len : ∀ (l cur : List UInt8), 1 ≤ (pcs cur l).length ∧ (pcs cur l).length ≤ l.length + 1
  | [], cur => by simp [pcs]
  | b :: t, cur => by
    have h1 := pcs_len t []; have h2 := pcs_len t (cur ++ [b])
    rw [pcs]; split <;> simp <;> omega
/-- joined by dots -/
def jn : List (List UInt8) → List UInt8
  | [] => []
  | [x] => x
  | x :: y :: t => x ++ [46] ++ jn (y :: t)
theorem jn_cons (x : List UInt8) (l : List (List UInt8)) (h : l ≠ []) : jn (x :: l) = x ++ [46] ++ jn l := by
  cases l with
  | nil => exact absurd rfl h
  | cons y t => rfl
theorem jn_pcs : ∀ (l cur : List UInt8), jn (pcs cur l) = cur ++ l
  | [], cur => by simp [pcs, jn]
  | b :: t, cur => by
    by_cases h : b = 46
    · subst h
      rw [pcs_dot, jn_cons _ _ (by intro e; have := (pcs_len t []).1; rw [e] at this; simp at this), jn_pcs t []]; simp
    · rw [pcs_on _ _ _ h, jn_pcs t]; simp
/-- no dot ahead of i, one at i -/
theorem pcs_hit : ∀ (l cur : List UInt8) (i : Nat), l[i]? = some 46 → (∀ j : Nat, j < i → l[j]? ≠ some 46) → pcs cur l = (cur ++ l.take i) :: pcs [] (l.drop (i + 1))
  | [], cur, i, h, _ => by simp at h
  | b :: t, cur, 0, h, _ => by
    simp at h; subst h; rw [pcs_dot]; simp
  | b :: t, cur, i + 1, h, hn => by
    have hb : b ≠ 46 := by intro e; exact hn 0 (by omega) (by simp [e])
    rw [pcs_on _ _ _ hb, pcs_hit t (cur ++ [b]) i (by simpa using h) (fun j hj => by have := hn (j + 1) (by omega); simpa using this)]
    simp
theorem pcs_miss : ∀ (l cur : List UInt8), (∀ j : Nat, l[j]? ≠ some 46) → pcs cur l = [cur ++ l]
  | [], cur, _ => by simp [pcs]
  | b :: t, cur, h => by
    have hb : b ≠ 46 := by intro e; exact h 0 (by simp [e])
    rw [pcs_on _ _ _ hb, pcs_miss t _ (fun j => by have := h (j + 1); simpa using this)]; simp
theorem occ_one (l : List UInt8) (j : Nat) (hj : j < l.length) : Lib.occAt l [46] j = decide (l[j]? = some 46) := by
  rw [Lib.occAt_iff_take _ _ _ (by simp; omega)]
  have e : (l.drop j).take [(46 : UInt8)].length = [l[j]] := by
    rw [List.drop_eq_getElem_cons hj]; rfl
  rw [e, List.getElem?_eq_getElem hj, Bool.eq_iff_iff, beq_iff_eq, decide_eq_true_iff]
  simp
theorem index_dot (l : List UInt8) : (Lib.index l [46] = -1 ∧ ∀ j : Nat, l[j]? ≠ some 46) ∨ ∃ i : Nat, Lib.index l [46] = i ∧ l[i]? = some 46 ∧ ∀ j : Nat, j < i → l[j]? ≠ some 46 := by
  rcases Lib.index_spec l [46] with ⟨h1, h2⟩ | ⟨i, h1, h2, h3, h4⟩
  · refine .inl ⟨h1, fun j hj => ?_⟩
    have hjl := (List.getElem?_eq_some_iff.1 hj).1
    have := h2 j (by omega)
    rw [occ_one l j hjl, decide_eq_false_iff_not] at this
    exact this hj
  · have hil : i < l.length := by
      have := Lib.index_room l [46] (by omega)
      simp at this; omega
    rw [occ_one l i hil, decide_eq_true_iff] at h3
    refine .inr ⟨i, h1, h3, fun j hj hj2 => ?_⟩
    have hjl : j < l.length := by omega
    have := h4 j hj
    rw [occ_one l j hjl, decide_eq_false_iff_not] at this
    exact this hj2
/-- cut at the first k dots at most -/
theorem splitK_pcs : ∀ (k : Nat) (l : List UInt8), ((pcs [] l).length ≤ k + 1 → Lib.splitK [46] 0 k l = pcs [] l) ∧ (k + 1 < (pcs [] l).length → (Lib.splitK [46] 0 k l).length = k + 1)
  | 0, l => by
    refine ⟨fun h => ?_, fun _ => rfl⟩
    rw [Lib.splitK]
    rcases index_dot l with ⟨_, h2⟩ | ⟨i, _, h2, h3⟩
    · rw [pcs_miss l [] h2]; rfl
    · rw [pcs_hit l [] i h2 h3] at h
      have := (pcs_len (l.drop (i + 1)) []).1
      rw [List.length_cons] at h; omega
  | k + 1, l => by
    rcases index_dot l with ⟨h1, h2⟩ | ⟨i, h1, h2, h3⟩
    · rw [pcs_miss l [] h2]
      refine ⟨fun _ => ?_, fun h => by simp at h⟩
      rw [Lib.splitK, if_pos (by rw [h1]; rfl)]; rfl
    · have hm : ¬ (Lib.index l [46] == -1) = true := fun e => by have := beq_iff_eq.1 e; omega
      have e : (Lib.index l [46]).toNat = i := by omega
      obtain ⟨ih1, ih2⟩ := splitK_pcs k (l.drop (i + 1))
      rw [pcs_hit l [] i h2 h3, Lib.splitK, if_neg hm, e]
      simp only [List.length_cons, List.nil_append, Nat.add_zero, List.length_nil]
      refine ⟨fun h => ?_, fun h => ?_⟩
      · rw [ih1 (by omega)]
      · rw [ih2 (by omega)]
/-- the pieces of a text -/
def pieces (s : ByteArray) : List ByteArray := (pcs [] s.data.toList).map fun l => ⟨l.toArray⟩
theorem pieces_len (s : ByteArray) : 1 ≤ (pieces s).length ∧ (pieces s).length ≤ s.size + 1 := by
  unfold pieces; rw [List.length_map, ← len_data]; exact pcs_len _ _
theorem mk_data : ∀ (xs : List ByteArray) (L : List (List UInt8)), xs.map (·.data.toList) = L → xs = L.map fun l => ⟨l.toArray⟩
  | [], L, h => by subst h; rfl
  | x :: t, L, h => by
    subst h
    rw [List.map_cons, List.map_cons, ← mk_data t _ rfl]
theorem splitB_few (s : ByteArray) (h : (pieces s).length ≤ 8) : Lib.splitB ⟨#[46]⟩ 0 (min 9 (s.size + 1) - 1) s = pieces s := by
  refine mk_data _ _ ?_
  rw [Lib.splitB_data]
  show Lib.splitK [46] 0 _ _ = _
  have hl := pieces_len s
  unfold pieces at h hl
  rw [List.length_map] at h hl
  exact (splitK_pcs _ _).1 (by omega)
theorem splitB_many (s : ByteArray) (h : 8 < (pieces s).length) : 8 < (Lib.splitB ⟨#[46]⟩ 0 (min 9 (s.size + 1) - 1) s).length := by
  have hl := pieces_len s
  unfold pieces at h hl
  rw [List.length_map] at h hl
  have e : (Lib.splitB ⟨#[46]⟩ 0 (min 9 (s.size + 1) - 1) s).length = (Lib.splitK [46] 0 (min 9 (s.size + 1) - 1) s.data.toList).length := by
    rw [← List.length_map (f := fun x : ByteArray => x.data.toList), Lib.splitB_data]
  rw [e]
  have hk : min 9 (s.size + 1) - 1 = 8 := by omega
  rw [hk]
  by_cases h9 : (pcs [] s.data.toList).length ≤ 8 + 1
  · rw [(splitK_pcs 8 _).1 h9]; exact h
  · rw [(splitK_pcs 8 _).2 (by omega)]; omega

/-! a path is short -/
theorem width_le (s : ByteArray) (pos : Nat) : (Utf8.decode s pos).2 ≤ 4 := by
  simp only [Utf8.decode]
  repeat' split
  all_goals simp
theorem size_runes (s : ByteArray) : ∀ (b pos : Nat), s.size ≤ pos + b → s.size ≤ pos + 4 * (rns s b pos).length
  | 0, pos, h => by omega
  | b + 1, pos, h => by
    by_cases hp : pos < s.size
    · have hw := width_le s pos
      have hw1 := width_pos s pos hp
      have ih := size_runes s b (pos + (Utf8.decode s pos).2) (by omega)
      rw [rns_step s b pos hp, List.length_cons]
      omega
    · omega
theorem name_size (s : ByteArray) (h : nameOf (runes s) = true) : s.size ≤ 160 := by
  have h1 := size_runes s s.size 0 (by omega)
  unfold nameOf at h
  simp only [Bool.and_eq_true, decide_eq_true_iff] at h
  have h2 : (rns s s.size 0).length ≤ 40 := h.1.1.2
  omega
theorem jn_size : ∀ (L : List (List UInt8)), (∀ x ∈ L, x.length ≤ 160) → (jn L).length ≤ 161 * L.length
  | [], _ => by simp [jn]
  | x :: t, h => by
    have hx := h x List.mem_cons_self
    have ih := jn_size t (fun y hy => h y (List.mem_cons_of_mem _ hy))
    by_cases ht : t = []
    · subst ht; simp [jn]; omega
    · rw [jn_cons x t ht]; simp; omega
/-- all pieces are names that aren't reserved -/
def allPlain (s : ByteArray) : Bool := (pieces s).all isPlain
theorem path_size (s : ByteArray) (h8 : (pieces s).length ≤ 8) (h : allPlain s = true) : s.size ≤ 2000 := by
  unfold allPlain at h
  rw [List.all_eq_true] at h
  have hj := jn_pcs s.data.toList []
  have hsz : ∀ x ∈ pcs [] s.data.toList, x.length ≤ 160 := by
    intro x hx
    have hp := h ⟨x.toArray⟩ (by unfold pieces; exact List.mem_map_of_mem hx)
    unfold isPlain at hp
    rw [isName_eq] at hp
    simp only [Bool.and_eq_true] at hp
    have := name_size _ hp.1
    simpa [ByteArray.size] using this
  have h1 := jn_size _ hsz
  rw [hj, List.nil_append, len_data] at h1
  unfold pieces at h8
  rw [List.length_map] at h8
  omega
end Go.Proofs.YtpodlakkfbjhbaaDoor
