/-
  Two readers whose words are alike but for places: messages, and whole texts; what two texts declare, one with both declares. Facts of the plain functions: nothing is proved of the program here.
  What is read of any text is formed. Facts of the plain functions: nothing is proved of the program here.
-/
import Derived.Test.YtngmimbpakmkiaaGreatDoorGmA
import Derived.Test.YtngmimbpakmkiaaGreatDoorDpDz
import Derived.Test.YtngmimbpakmkiaaGreatDoorStDz
namespace Go.Proofs.YtngmimbpakmkiaaGreatDoor
set_option linter.unusedVariables false

section
variable {x : List (Int × List UInt8)} {en en' : Int × Int}
theorem message_deep {k depth : Nat} {r : Rd} (hd : 8 < depth) (he : r.e = 0) : messageL en (k + 1) depth r = (⟨1, [], 0, 0, [], [], [], []⟩, r.fail 8 (r.here en)) := by
  have hre := Rd.fail_e r 8 (r.here en) (by decide)
  rw [messageL, if_pos hd]
  rw [Rd.take_stay en hre, Rd.name_stay en hre, Rd.take_stay en hre, bodyL_stop en _ _ _ _ _ (fun hh => hre hh.1), Rd.take_stay en hre]
  unfold Rd.nameT Rd.nameP
  rw [Rd.isName_off hre, if_neg (by decide), if_neg (by decide)]
theorem message_err {k depth : Nat} {r : Rd} (he : r.e ≠ 0) : messageL en (k + 1) depth r = (⟨1, [], 0, 0, [], [], [], []⟩, r) := by
  have h0 : (if 8 < depth then r.fail 8 (r.here en) else r) = r := by
    split
    · exact Rd.fail_stay he _ _
    · rfl
  rw [messageL, h0]
  rw [Rd.take_stay en he, Rd.name_stay en he, Rd.take_stay en he, bodyL_stop en _ _ _ _ _ (fun hh => he hh.1), Rd.take_stay en he]
  unfold Rd.nameT Rd.nameP
  rw [Rd.isName_off he, if_neg (by decide), if_neg (by decide)]
theorem Sim.messageL : ∀ (k depth : Nat), depth + k = 9 → ∀ (r r' : Rd), Sim x r r' → (x = [] ∨ (messageL en (k + 1) depth r).2.e = 0) →
    DE (messageL en (k + 1) depth r).1 (messageL en' (k + 1) depth r').1 ∧ Sim x (messageL en (k + 1) depth r).2 (messageL en' (k + 1) depth r').2 := by
  intro k
  induction k with
  | zero =>
    intro depth hk r r' h ho
    by_cases he : r.e = 0
    · have he' : r'.e = 0 := by rw [h.1]; exact he
      rw [message_deep (by omega) he, message_deep (by omega) he']
      exact ⟨fun _ => rfl, h.fail 8 (by decide) _ _⟩
    · have he' : r'.e ≠ 0 := by rw [h.1]; exact he
      rw [message_err he, message_err he']
      exact ⟨fun _ => rfl, h⟩
  | succ k ih =>
    intro depth hk r r' h ho
    rw [Go.Proofs.YtngmimbpakmkiaaGreatDoor.messageL, if_neg (by omega)] at ho
    rw [Go.Proofs.YtngmimbpakmkiaaGreatDoor.messageL, if_neg (by omega), Go.Proofs.YtngmimbpakmkiaaGreatDoor.messageL, if_neg (by omega)]
    simp only at ho ⊢
    obtain ⟨r3, h3⟩ : ∃ r3, ((r.take en tMessage).name en).take en [123] = r3 := ⟨_, rfl⟩
    rw [h3] at ho ⊢
    have q4 := ho.imp id fun k => (Rd.take_ok k).1
    have q3 : x = [] ∨ (((r.take en tMessage).name en).take en [123]).e = 0 := by
      rw [h3]
      refine q4.imp id fun k => ?_
      by_cases hz : r3.e = 0
      · exact hz
      · rw [bodyL_stop en _ _ r3 [] [] (fun hh => hz hh.1)] at k; exact k
    have q2 := q3.imp id fun k => (Rd.take_ok k).1
    have q1 := q2.imp id fun k => (Rd.name_ok k).1
    have a1 := h.take (en := en) (en' := en') tMessage q1
    have a2 := a1.name (en := en) (en' := en') q2
    have a3 := a2.1.take (en := en) (en' := en') [123] q3
    rw [h3] at a3
    have a4 := Sim.bodyL (en := en) (en' := en') (msg := Go.Proofs.YtngmimbpakmkiaaGreatDoor.messageL en (k + 1) (depth + 1)) (msg' := Go.Proofs.YtngmimbpakmkiaaGreatDoor.messageL en' (k + 1) (depth + 1)) (fun r => messageL_m en k (depth + 1) r) (fun r => messageL_m en' k (depth + 1) r) (fun r r' hs hh => ih (depth + 1) (by omega) r r' hs hh) _ _ r3 _ [] [] [] [] (Rd.m_le _) (Rd.m_le _) a3 rfl (fun _ => rfl) q4
    have a5 := a4.2.2.take (en := en) (en' := en') [125] ho
    exact ⟨fun g => by unfold sD; simp only; rw [a2.2, a4.1, a4.2.1.strip g], a5⟩
theorem Sim.declS {r r' : Rd} (h : Sim x r r') (hn : r.l ≠ []) (ho : x = [] ∨ (declS en r).2.e = 0) : DE (declS en r).1 (declS en' r').1 ∧ Sim x (declS en r).2 (declS en' r').2 := by
  unfold Go.Proofs.YtngmimbpakmkiaaGreatDoor.declS at ho ⊢
  rw [h.is (.inr hn) tMessage, h.is (.inr hn) tEnum, h.is (.inr hn) tService]
  by_cases h1 : r.is tMessage = true
  · rw [if_pos h1] at ho ⊢; rw [if_pos h1]; exact Sim.messageL 8 1 (by decide) r r' h ho
  · rw [if_neg h1] at ho ⊢; rw [if_neg h1]
    by_cases h2 : r.is tEnum = true
    · rw [if_pos h2] at ho ⊢; rw [if_pos h2]; exact h.enum ho
    · rw [if_neg h2] at ho ⊢; rw [if_neg h2]
      by_cases h3 : r.is tService = true
      · rw [if_pos h3] at ho ⊢; rw [if_pos h3]; exact h.service ho
      · rw [if_neg h3] at ho ⊢; rw [if_neg h3]; exact ⟨fun _ => rfl, h.fail 7 (by decide) _ _⟩
theorem decls_join : ∀ (f f' : Nat) (r r' : Rd) (acc acc' : List Dc), r.m ≤ f → r'.m ≤ f' → Sim x r r' → DLs acc acc' → r.e = 0 → (declsL en f r acc).2.e = 0 →
    ∃ (f'' : Nat) (r'' : Rd) (acc'' : List Dc), declsL en' f' r' acc' = declsL en' f'' r'' acc'' ∧ r''.e = 0 ∧ kt r''.l = x ∧ DLs (declsL en f r acc).1 acc'' ∧ r''.m ≤ f'' := by
  intro f
  induction f with
  | zero =>
    intro f' r r' acc acc' hm hm' h ha he ho
    exfalso
    unfold Rd.m at hm; rw [if_pos he] at hm; omega
  | succ f ih =>
    intro f' r r' acc acc' hm hm' h ha he ho
    have he' : r'.e = 0 := by rw [h.1]; exact he
    by_cases hl : r.l = []
    · refine ⟨f', r', acc', rfl, he', ?_, ?_, hm'⟩
      · have := h.2 he; rw [hl] at this; simpa [kt] using this
      · rw [declsL_stop en _ r acc (fun hh => hh.2 hl)]; exact ha
    · have hz : (declS en r).2.e = 0 := by
        by_cases hz : (declS en r).2.e = 0
        · exact hz
        · rw [declsL_err en f r acc ⟨he, hl⟩ hz] at ho; exact ho
      have hv := h.declS (en := en) (en' := en') hl (.inr hz)
      have hl' : r'.l ≠ [] := by
        intro e
        have := h.2 he
        rw [e] at this
        cases hrl : r.l with
        | nil => exact hl hrl
        | cons a b => rw [hrl] at this; simp [kt] at this
      have hm1 : 1 ≤ r'.m := by unfold Rd.m; rw [if_pos he']; omega
      obtain ⟨f', rfl⟩ : ∃ g, f' = g + 1 := ⟨f' - 1, by omega⟩
      have m1 := declS_m en r
      have m2 := declS_m en' r'
      have s1 := declsL_step en f r acc ⟨he, hl⟩
      rw [if_pos hz] at s1
      have s2 := declsL_step en' f' r' acc' ⟨he', hl'⟩
      rw [if_pos (by rw [hv.2.1]; exact hz)] at s2
      rw [s1] at ho ⊢
      rw [s2]
      exact ih f' _ _ _ _ (by omega) (by omega) hv.2 (ha.snoc hv.1) hz ho
end
theorem declsL_acc (en : Int × Int) (a : List Dc) : ∀ (f : Nat) (r : Rd) (acc : List Dc), declsL en f r (a ++ acc) = (a ++ (declsL en f r acc).1, (declsL en f r acc).2) := by
  intro f
  induction f with
  | zero => intro r acc; rfl
  | succ f ih =>
    intro r acc
    by_cases h : r.e = 0 ∧ r.l ≠ []
    · rw [declsL_go en f r _ h, declsL_go en f r _ h, List.append_assoc, List.append_assoc, List.append_assoc, ih, ih, ih, ih]
      split
      · rfl
      · split
        · rfl
        · split <;> rfl
    · rw [declsL_stop en _ r _ h, declsL_stop en _ r _ h]
theorem kt_nil {l : List Wd} (h : kt l = []) : l = [] := by
  cases l with
  | nil => rfl
  | cons a b => simp [kt] at h
/-- words of two texts, one behind the other -/
theorem fileW_join (en1 en2 en : Int × Int) (ws1 ws2 ws : List Wd) (h1 : (fileW en1 ws1).2.2 = 0) (h2 : (fileW en2 ws2).2.2 = 0) (hk : kt ws = kt ws1 ++ kt ws2) :
    (fileW en ws).2.2 = 0 ∧ DLs ((fileW en1 ws1).1 ++ (fileW en2 ws2).1) (fileW en ws).1 := by
  have g1 : (declsL en1 (ws1.length + 1) ⟨ws1, 0, 0, 0⟩ []).2.e = 0 := by
    unfold fileW at h1; simp only at h1
    by_cases hz : (declsL en1 (ws1.length + 1) ⟨ws1, 0, 0, 0⟩ []).2.e = 0
    · exact hz
    · rw [if_neg hz] at h1; exact h1
  have g2 : (declsL en2 (ws2.length + 1) ⟨ws2, 0, 0, 0⟩ []).2.e = 0 := by
    unfold fileW at h2; simp only at h2
    by_cases hz : (declsL en2 (ws2.length + 1) ⟨ws2, 0, 0, 0⟩ []).2.e = 0
    · exact hz
    · rw [if_neg hz] at h2; exact h2
  have f1 : (fileW en1 ws1).1 = (declsL en1 (ws1.length + 1) ⟨ws1, 0, 0, 0⟩ []).1 := by unfold fileW; simp only; rw [if_pos g1]
  have f2 : (fileW en2 ws2).1 = (declsL en2 (ws2.length + 1) ⟨ws2, 0, 0, 0⟩ []).1 := by unfold fileW; simp only; rw [if_pos g2]
  obtain ⟨fa, ra, aa, e1, e2, e3, e4, e5⟩ := decls_join (x := kt ws2) (en := en1) (en' := en) (ws1.length + 1) (ws.length + 1) ⟨ws1, 0, 0, 0⟩ ⟨ws, 0, 0, 0⟩ [] [] (Rd.m_le _) (Rd.m_le _) ⟨rfl, fun _ => hk⟩ (fun _ => rfl) rfl g1
  have hacc := declsL_acc en2 (declsL en1 (ws1.length + 1) ⟨ws1, 0, 0, 0⟩ []).1 (ws2.length + 1) ⟨ws2, 0, 0, 0⟩ []
  rw [List.append_nil] at hacc
  obtain ⟨fb, rb, ab, d1, d2, d3, d4, d5⟩ := decls_join (x := []) (en := en2) (en' := en) (ws2.length + 1) fa ⟨ws2, 0, 0, 0⟩ ra (declsL en1 (ws1.length + 1) ⟨ws1, 0, 0, 0⟩ []).1 aa (Rd.m_le _) e5 ⟨e2, fun _ => by rw [e3, List.append_nil]⟩ e4 rfl (by rw [hacc]; exact g2)
  have hstop : declsL en fb rb ab = (ab, rb) := declsL_stop en fb rb ab (fun hh => hh.2 (kt_nil d3))
  have hfin : declsL en (ws.length + 1) ⟨ws, 0, 0, 0⟩ [] = (ab, rb) := by rw [e1, d1, hstop]
  have f3 : fileW en ws = (ab, (0, 0), 0) := by unfold fileW; simp only; rw [hfin, if_pos d2]
  rw [f3, f1, f2]
  refine ⟨rfl, ?_⟩
  rw [hacc] at d4
  exact d4
/-- two texts, one behind the other -/
theorem file_join (s t : List UInt8) (hs : s.length ≤ 5000) (ht : t.length ≤ 5000) (h1 : (fileL s).2.2 = 0) (h2 : (fileL t).2.2 = 0) :
    (fileL (s ++ 10 :: t)).2.2 = 4 ∨ ((fileL (s ++ 10 :: t)).2.2 = 0 ∧ DLs ((fileL s).1 ++ (fileL t).1) (fileL (s ++ 10 :: t)).1) := by
  have w1 : (wordsL s).2.2 = 0 := by
    unfold fileL at h1
    by_cases hz : (wordsL s).2.2 = 0
    · exact hz
    · rw [if_neg hz] at h1; exact h1
  have w2 : (wordsL t).2.2 = 0 := by
    unfold fileL at h2
    by_cases hz : (wordsL t).2.2 = 0
    · exact hz
    · rw [if_neg hz] at h2; exact h2
  unfold fileL at *
  rw [if_pos w1] at h1 ⊢
  rw [if_pos w2] at h2 ⊢
  rcases words_join s t hs ht w1 w2 with h | ⟨h, hk⟩
  · left
    rw [if_neg (by rw [h]; decide)]
    exact h
  · right
    rw [if_pos h]
    exact fileW_join _ _ _ _ _ _ h1 h2 hk
end Go.Proofs.YtngmimbpakmkiaaGreatDoor
namespace Go.Proofs.YtngmimbpakmkiaaGreatDoor
set_option linter.unusedVariables false

def Wok (r : Rd) : Prop := ∀ x ∈ r.l, WordOK x
section
variable {en : Int × Int} {r : Rd}
theorem Wok.tail (h : Wok r) : Wok r.tail := fun x hx => h x (List.mem_of_mem_tail hx)
theorem Wok.fail (h : Wok r) (e : Int) (p : Int × Int) : Wok (r.fail e p) := by unfold Rd.fail; split <;> exact h
theorem Wok.take (h : Wok r) (t : List UInt8) : Wok (r.take en t) := by unfold Rd.take; split; exact h.tail; exact h.fail _ _
theorem Wok.name (h : Wok r) : Wok (r.name en) := by unfold Rd.name; split; exact h.tail; exact h.fail _ _
theorem Wok.number (h : Wok r) : Wok (r.number en) := by unfold Rd.number; split; exact h.tail; exact h.fail _ _
theorem Wok.pathL (first : Int × Int) : ∀ (f n : Nat) (s : List UInt8) (r : Rd), Wok r → Wok (pathL en first f n s r).2
  | 0, n, s, r, h => h
  | f + 1, n, s, r, h => by
    unfold Go.Proofs.YtngmimbpakmkiaaGreatDoor.pathL
    split
    · refine Wok.pathL first f _ _ _ ?_
      split
      · exact ((h.take _).name).fail _ _
      · exact (h.take _).name
    · exact h
theorem Wok.path (h : Wok r) : Wok (r.path en).2 := Wok.pathL _ _ _ _ _ h.name
theorem Wok.typ (h : Wok r) : Wok (r.typ en).2 := by unfold Rd.typ; split; exact h.tail; exact h.path
theorem Wok.isName (h : Wok r) (hn : r.isName = true) : plainL r.nameT = true := by
  have hn' := hn
  unfold Rd.isName at hn
  rw [Bool.and_eq_true] at hn
  obtain ⟨_, hn⟩ := hn
  unfold Rd.nameT
  rw [if_pos hn']
  unfold Rd.text
  cases hl : r.l with
  | nil => rw [hl] at hn; cases hn
  | cons x l =>
    rw [hl] at hn
    simp only [Bool.and_eq_true, decide_eq_true_iff, Bool.not_eq_true'] at hn
    have hx := h x (by rw [hl]; exact List.mem_cons_self)
    show plainL x.text = true
    unfold plainL
    rw [hn.2]
    rcases hx with ⟨_, rs, ht, hr⟩ | ⟨hk, _⟩ | ⟨hk, _⟩
    · rw [ht, runes_enc _ (fun z hz => two_of_name (name_all hr z hz)), hr]; rfl
    · omega
    · omega
theorem Wok.nameT (h : Wok r) (he : (r.name en).e = 0) : plainL r.nameT = true := h.isName (Rd.name_ok he).2.1
theorem numV_pos : ∀ (l : List UInt8) (n : Int), 0 ≤ n → l.all isDig = true → 0 ≤ numV n l
  | [], n, h, _ => h
  | b :: t, n, h, hd => by
    rw [List.all_cons, Bool.and_eq_true] at hd
    have hb := hd.1
    unfold isDig at hb
    rw [decide_eq_true_iff] at hb
    exact numV_pos t (10 * n + ((b.toNat : Int) - 48)) (by omega) hd.2
theorem Wok.numberV (h : Wok r) (he : (r.number en).e = 0) : numOK r.numberV = true := by
  have hn := (Rd.number_ok he).2.1
  have hn' := hn
  unfold Rd.isNum at hn
  rw [Bool.and_eq_true] at hn
  obtain ⟨_, hn⟩ := hn
  unfold Rd.numberV
  rw [if_pos hn']
  unfold Rd.text
  cases hl : r.l with
  | nil => rw [hl] at hn; cases hn
  | cons x l =>
    rw [hl] at hn
    have hk2 : x.kind = 2 := of_decide_eq_true hn
    have hx := h x (by rw [hl]; exact List.mem_cons_self)
    show numOK (numV 0 x.text) = true
    rcases hx with ⟨hk, _⟩ | ⟨hk, _, hr⟩ | ⟨hk, _⟩
    · omega
    · rw [Bool.and_eq_true] at hr
      have h1 := numV_pos x.text 0 (by omega) hr.1
      have h2 := hr.2
      unfold numL at h2
      simp only [Bool.and_eq_true, decide_eq_true_iff] at h2
      unfold numOK
      rw [decide_eq_true_iff]
      exact ⟨h1, h2.2⟩
    · omega
/-! a path's names are its pieces -/
theorem no_dot {t : List UInt8} (h : nameOf (runes ⟨t.toArray⟩) = true) : (46 : UInt8) ∉ t := by
  rw [name_bytes t h]
  intro hm
  unfold encL at hm
  obtain ⟨r, hr, hb⟩ := List.mem_flatMap.1 hm
  have hn := name_all h r hr
  have htw := two_of_name hn
  unfold two at htw
  by_cases h1 : r ≤ 127
  · rw [enc_small r htw.1 h1] at hb
    have e : (46 : UInt8) = UInt8.ofNat r.toNat := by simpa using hb
    have e2 : (46 : Nat) = r.toNat % 256 := by
      have := congrArg UInt8.toNat e
      simpa using this
    have : r = 46 := by omega
    subst this
    revert hn; decide
  · rw [enc_two r (by omega) htw.2] at hb
    simp only [List.mem_cons, List.not_mem_nil, or_false] at hb
    rcases hb with e | e
    · have := congrArg UInt8.toNat e
      simp only [UInt8.toNat_ofNat'] at this
      have e3 : (46 : UInt8).toNat = 46 := rfl
      omega
    · have := congrArg UInt8.toNat e
      simp only [UInt8.toNat_ofNat'] at this
      have e3 : (46 : UInt8).toNat = 46 := rfl
      omega
theorem pcs_through : ∀ (x cur t : List UInt8), (46 : UInt8) ∉ x → pcs cur (x ++ t) = pcs (cur ++ x) t
  | [], cur, t, _ => by simp
  | b :: x, cur, t, h => by
    have hb : b ≠ 46 := fun e => h (by rw [e]; exact List.mem_cons_self)
    rw [List.cons_append, pcs_on _ _ _ hb, pcs_through x _ t (fun hm => h (List.mem_cons_of_mem _ hm))]
    simp
theorem pcs_jn : ∀ (L : List (List UInt8)), L ≠ [] → (∀ x ∈ L, (46 : UInt8) ∉ x) → pcs [] (jn L) = L
  | [], h, _ => absurd rfl h
  | [x], _, h => by
    have := pcs_through x [] [] (h x List.mem_cons_self)
    rw [List.append_nil] at this
    show pcs [] x = [x]
    rw [this, pcs_nil]; rfl
  | x :: y :: t, _, h => by
    have e : jn (x :: y :: t) = x ++ 46 :: jn (y :: t) := by rw [jn_cons _ _ (by simp)]; simp
    rw [e, pcs_through x [] _ (h x List.mem_cons_self), pcs_dot, pcs_jn (y :: t) (by simp) (fun z hz => h z (List.mem_cons_of_mem _ hz))]
    rfl
theorem jn_snoc : ∀ (L : List (List UInt8)) (y : List UInt8), L ≠ [] → jn (L ++ [y]) = jn L ++ [46] ++ y
  | [], y, h => absurd rfl h
  | [x], y, _ => by rw [show [x] ++ [y] = x :: [y] from rfl, jn_cons _ _ (by simp)]; rfl
  | x :: z :: t, y, _ => by
    rw [show (x :: z :: t) ++ [y] = x :: ((z :: t) ++ [y]) from rfl, jn_cons _ _ (by simp), jn_snoc (z :: t) y (by simp), jn_cons x (z :: t) (by simp)]
    simp
theorem pathOK_jn {L : List (List UInt8)} (h0 : L ≠ []) (h8 : L.length ≤ 8) (h : ∀ x ∈ L, plainL x = true) : pathOK (jn L) = true := by
  unfold pathOK
  rw [pcs_jn L h0 (fun x hx => no_dot (plainL_name (h x hx)).1)]
  simp only [Bool.and_eq_true, decide_eq_true_iff, List.all_eq_true]
  exact ⟨h8, h⟩
theorem pathL_stay {first : Int × Int} {f n : Nat} {s : List UInt8} {r : Rd} (h : r.e ≠ 0) : pathL en first f n s r = (s, r) := pathL_off en _ _ _ _ _ (Rd.is_off h _)
theorem Wok.pathOK (first : Int × Int) : ∀ (f n : Nat) (L : List (List UInt8)) (r : Rd), Wok r → L ≠ [] → L.length = n → n ≤ 8 → (∀ x ∈ L, plainL x = true) → (Go.Proofs.YtngmimbpakmkiaaGreatDoor.pathL en first f n (jn L) r).2.e = 0 → Go.Proofs.YtngmimbpakmkiaaGreatDoor.pathOK (Go.Proofs.YtngmimbpakmkiaaGreatDoor.pathL en first f n (jn L) r).1 = true
  | 0, n, L, r, h, h0, hl, hn, hp, he => pathOK_jn h0 (by omega) hp
  | f + 1, n, L, r, h, h0, hl, hn, hp, he => by
    by_cases hi : r.is [46] = true
    · rw [pathL_on _ _ _ _ _ _ hi] at he ⊢
      by_cases h8 : n = 8
      · rw [if_pos h8] at he ⊢
        exfalso
        have hne : (((r.take en [46]).name en).fail 8 first).e ≠ 0 := by
          unfold Rd.fail
          split
          · show (8 : Int) ≠ 0; decide
          · assumption
        rw [pathL_stay hne] at he
        exact hne he
      · rw [if_neg h8] at he ⊢
        by_cases hne : ((r.take en [46]).name en).e = 0
        · have hnm := (h.take (en := en) [46]).nameT hne
          rw [← jn_snoc L _ h0] at he ⊢
          refine Wok.pathOK first f (n + 1) (L ++ [(r.take en [46]).nameT]) _ ((h.take [46]).name) (by simp) (by simp [hl]) (by omega) ?_ he
          intro x hx
          rcases List.mem_append.1 hx with hx | hx
          · exact hp x hx
          · rw [List.mem_singleton.1 hx]; exact hnm
        · rw [pathL_stay hne] at he
          exact absurd he hne
    · rw [pathL_off _ _ _ _ _ _ (by simpa using hi)]
      exact pathOK_jn h0 (by omega) hp
theorem Wok.path_ok (h : Wok r) (he : (r.path en).2.e = 0) : Go.Proofs.YtngmimbpakmkiaaGreatDoor.pathOK (r.path en).1 = true := by
  unfold Rd.path at he ⊢
  by_cases hne : (r.name en).e = 0
  · have hnm := h.nameT hne
    exact Wok.pathOK (en := en) _ _ 1 [r.nameT] _ h.name (by simp) rfl (by omega) (fun x hx => by rw [List.mem_singleton.1 hx]; exact hnm) he
  · rw [pathL_stay hne] at he
    exact absurd he hne
theorem Wok.typ_ok (h : Wok r) (he : (r.typ en).2.e = 0) : typeOK (r.typ en).1 = true := by
  unfold Rd.typ at he ⊢
  unfold typeOK
  by_cases hs : r.isScal = true
  · rw [if_pos hs]
    unfold Rd.isScal at hs
    rw [Bool.and_eq_true] at hs
    obtain ⟨_, hs⟩ := hs
    unfold Rd.text
    cases hl : r.l with
    | nil => rw [hl] at hs; cases hs
    | cons x l =>
      rw [hl] at hs
      have hs : decide (0 < scalarOf x.text) = true := hs
      show (decide (0 < scalarOf x.text) || _) = true
      rw [hs]; rfl
  · rw [if_neg hs] at he ⊢
    rw [h.path_ok he]
    simp
theorem tail_e {r : Rd} (h : ((((r.name en).take en [61]).number en).take en [59]).e = 0) : (r.name en).e = 0 ∧ (((r.name en).take en [61]).number en).e = 0 := by
  have h1 := (Rd.take_ok h).1
  have h2 := (Rd.number_ok h1).1
  exact ⟨(Rd.take_ok h2).1, h1⟩
theorem Wok.field_ok (h : Wok r) (he : (r.field en).2.e = 0) : fOK (r.field en).1 = true := by
  unfold Rd.field at he ⊢
  simp only at he ⊢
  have hw : Wok (if r.is tRepeated = true then r.take en tRepeated else r) := by
    split
    · exact h.take _
    · exact h
  generalize (if r.is tRepeated = true then r.take en tRepeated else r) = r1 at *
  obtain ⟨e1, e2⟩ := tail_e he
  have e3 := (Rd.name_ok e1).1
  unfold fOK
  simp only [Bool.and_eq_true]
  exact ⟨⟨hw.typ_ok e3, hw.typ.nameT e1⟩, (hw.typ.name.take _).numberV e2⟩
theorem Wok.value_ok (h : Wok r) (he : (r.value en).2.e = 0) : vOK (r.value en).1 = true := by
  unfold Rd.value at he ⊢
  simp only at he ⊢
  obtain ⟨e1, e2⟩ := tail_e he
  unfold vOK
  simp only [Bool.and_eq_true]
  exact ⟨h.nameT e1, (h.name.take _).numberV e2⟩
theorem path_e {r : Rd} (h : (r.path en).2.e = 0) : r.e = 0 := by
  by_cases he : r.e = 0
  · exact he
  · rw [Rd.path_stay en he] at h; exact absurd h he
theorem Wok.method_ok (h : Wok r) (he : (r.method en).2.e = 0) : mOK (r.method en).1 = true := by
  unfold Rd.method at he ⊢
  simp only at he ⊢
  have e1 := (Rd.take_ok (Rd.take_ok he).1).1
  have e2 := path_e e1
  have e3 := (Rd.take_ok (Rd.take_ok (Rd.take_ok e2).1).1).1
  have e4 := path_e e3
  have e5 := (Rd.take_ok e4).1
  unfold mOK
  simp only [Bool.and_eq_true]
  exact ⟨⟨(h.take _).nameT e5, ((h.take _).name.take _).path_ok e3⟩, (((((h.take _).name.take _).path.take _).take _).take _).path_ok e1⟩
theorem Wok.field (h : Wok r) : Wok (r.field en).2 := by
  unfold Rd.field
  simp only
  have hw : Wok (if r.is tRepeated = true then r.take en tRepeated else r) := by
    split
    · exact h.take _
    · exact h
  exact (((hw.typ.name).take _).number).take _
theorem Wok.value (h : Wok r) : Wok (r.value en).2 := by
  unfold Rd.value
  simp only
  exact ((h.name.take _).number).take _
theorem Wok.method (h : Wok r) : Wok (r.method en).2 := by
  unfold Rd.method
  simp only
  exact ((((((((h.take _).name.take _).path.take _).take _).take _).path).take _).take _)
end
section
variable {en : Int × Int}
theorem Wok.valuesL : ∀ (f : Nat) (r : Rd) (acc : List Vl), Wok r → Wok (valuesL en f r acc).2 ∧ ((Go.Proofs.YtngmimbpakmkiaaGreatDoor.valuesL en f r acc).2.e = 0 → (∀ x ∈ acc, vOK x = true) → ∀ x ∈ (Go.Proofs.YtngmimbpakmkiaaGreatDoor.valuesL en f r acc).1, vOK x = true)
  | 0, r, acc, h => ⟨h, fun _ ha => ha⟩
  | f + 1, r, acc, h => by
    rw [Go.Proofs.YtngmimbpakmkiaaGreatDoor.valuesL]
    by_cases hc : r.e = 0 ∧ r.is [125] = false
    · rw [if_pos hc]
      obtain ⟨i1, i2⟩ := Wok.valuesL f (r.value en).2 (acc ++ [(r.value en).1]) h.value
      refine ⟨i1, fun he ha => i2 he fun x hx => ?_⟩
      rcases List.mem_append.1 hx with hx | hx
      · exact ha x hx
      · rw [List.mem_singleton.1 hx]
        refine h.value_ok (en := en) ?_
        by_cases hz : (r.value en).2.e = 0
        · exact hz
        · exfalso
          cases f with
          | zero => exact hz he
          | succ f => rw [Go.Proofs.YtngmimbpakmkiaaGreatDoor.valuesL, if_neg (fun hh => hz hh.1)] at he; exact hz he
    · rw [if_neg hc]
      exact ⟨h, fun _ ha => ha⟩
theorem Wok.methodsL : ∀ (f : Nat) (r : Rd) (acc : List Mt), Wok r → Wok (methodsL en f r acc).2 ∧ ((Go.Proofs.YtngmimbpakmkiaaGreatDoor.methodsL en f r acc).2.e = 0 → (∀ x ∈ acc, mOK x = true) → ∀ x ∈ (Go.Proofs.YtngmimbpakmkiaaGreatDoor.methodsL en f r acc).1, mOK x = true)
  | 0, r, acc, h => ⟨h, fun _ ha => ha⟩
  | f + 1, r, acc, h => by
    rw [Go.Proofs.YtngmimbpakmkiaaGreatDoor.methodsL]
    by_cases hc : r.e = 0 ∧ r.is [125] = false
    · rw [if_pos hc]
      obtain ⟨i1, i2⟩ := Wok.methodsL f (r.method en).2 (acc ++ [(r.method en).1]) h.method
      refine ⟨i1, fun he ha => i2 he fun x hx => ?_⟩
      rcases List.mem_append.1 hx with hx | hx
      · exact ha x hx
      · rw [List.mem_singleton.1 hx]
        refine h.method_ok (en := en) ?_
        by_cases hz : (r.method en).2.e = 0
        · exact hz
        · exfalso
          cases f with
          | zero => exact hz he
          | succ f => rw [Go.Proofs.YtngmimbpakmkiaaGreatDoor.methodsL, if_neg (fun hh => hz hh.1)] at he; exact hz he
    · rw [if_neg hc]
      exact ⟨h, fun _ ha => ha⟩
theorem fm_enum {f k : Nat} {d : Dc} (hk : d.kind = 2) (hp : plainL d.name = true) (hf : d.fields = []) (hm : d.methods = []) (hi : d.inner = []) (hv : ∀ x ∈ d.values, vOK x = true) : fmD f k d = true := by
  unfold fmD
  rw [hp, hk, if_neg (by decide), if_pos rfl, hf, hm, hi, List.all_eq_true.2 hv]; rfl
theorem fm_service {f : Nat} {d : Dc} (hk : d.kind = 3) (hp : plainL d.name = true) (hf : d.fields = []) (hv : d.values = []) (hi : d.inner = []) (hm : ∀ x ∈ d.methods, mOK x = true) : fmD f 0 d = true := by
  unfold fmD
  rw [hp, hk, if_neg (by decide), if_neg (by decide), if_pos rfl, hf, hv, hi, List.all_eq_true.2 hm]; rfl
theorem Wok.enum {r : Rd} (h : Wok r) : Wok (r.enum en).2 ∧ ((r.enum en).2.e = 0 → ∀ f k, fmD f k (r.enum en).1 = true) := by
  unfold Rd.enum
  simp only
  obtain ⟨i1, i2⟩ := Wok.valuesL (en := en) ((((r.take en tEnum).name en).take en [123]).l.length + 1) (((r.take en tEnum).name en).take en [123]) [] (((h.take _).name).take _)
  refine ⟨i1.take _, fun he f k => ?_⟩
  have e1 := (Rd.take_ok he).1
  have e2 : (((r.take en tEnum).name en).take en [123]).e = 0 := by
    by_cases hz : (((r.take en tEnum).name en).take en [123]).e = 0
    · exact hz
    · rw [Go.Proofs.YtngmimbpakmkiaaGreatDoor.valuesL, if_neg (fun hh => hz hh.1)] at e1; exact absurd e1 hz
  have e3 := (Rd.take_ok e2).1
  exact fm_enum rfl ((h.take _).nameT e3) rfl rfl rfl (i2 e1 (fun x hx => by cases hx))
theorem Wok.service {r : Rd} (h : Wok r) : Wok (r.service en).2 ∧ ((r.service en).2.e = 0 → ∀ f, fmD f 0 (r.service en).1 = true) := by
  unfold Rd.service
  simp only
  obtain ⟨i1, i2⟩ := Wok.methodsL (en := en) ((((r.take en tService).name en).take en [123]).l.length + 1) (((r.take en tService).name en).take en [123]) [] (((h.take _).name).take _)
  refine ⟨i1.take _, fun he f => ?_⟩
  have e1 := (Rd.take_ok he).1
  have e2 : (((r.take en tService).name en).take en [123]).e = 0 := by
    by_cases hz : (((r.take en tService).name en).take en [123]).e = 0
    · exact hz
    · rw [Go.Proofs.YtngmimbpakmkiaaGreatDoor.methodsL, if_neg (fun hh => hz hh.1)] at e1; exact absurd e1 hz
  have e3 := (Rd.take_ok e2).1
  exact fm_service rfl ((h.take _).nameT e3) rfl rfl rfl (i2 e1 (fun x hx => by cases hx))
theorem bodyL_off (msg : Rd → Dc × Rd) (n : Nat) (r : Rd) (fs : List Fd) (ds : List Dc) (h : r.e ≠ 0) : bodyL en msg n r fs ds = ((fs, ds), r) := by
  cases n with
  | zero => rfl
  | succ n => rw [bodyL, if_neg (fun hh => h hh.1)]
theorem Wok.bodyL {msg : Rd → Dc × Rd} (f k : Nat) (hm : ∀ r, Wok r → Wok (msg r).2 ∧ ((msg r).2.e = 0 → fmD f k (msg r).1 = true)) :
    ∀ (n : Nat) (r : Rd) (fs : List Fd) (ds : List Dc), Wok r → Wok (bodyL en msg n r fs ds).2 ∧ ((Go.Proofs.YtngmimbpakmkiaaGreatDoor.bodyL en msg n r fs ds).2.e = 0 → (∀ x ∈ fs, fOK x = true) → (∀ d ∈ ds, fmD f k d = true) →
      (∀ x ∈ (Go.Proofs.YtngmimbpakmkiaaGreatDoor.bodyL en msg n r fs ds).1.1, fOK x = true) ∧ ∀ d ∈ (Go.Proofs.YtngmimbpakmkiaaGreatDoor.bodyL en msg n r fs ds).1.2, fmD f k d = true)
  | 0, r, fs, ds, h => ⟨h, fun _ h1 h2 => ⟨h1, h2⟩⟩
  | n + 1, r, fs, ds, h => by
    rw [Go.Proofs.YtngmimbpakmkiaaGreatDoor.bodyL]
    by_cases hc : r.e = 0 ∧ r.is [125] = false
    · rw [if_pos hc]
      by_cases hM : r.is tMessage = true
      · rw [if_pos hM]
        obtain ⟨i1, i2⟩ := Wok.bodyL f k hm n (msg r).2 fs (ds ++ [(msg r).1]) (hm r h).1
        refine ⟨i1, fun he h1 h2 => i2 he h1 fun d hd => ?_⟩
        rcases List.mem_append.1 hd with hd | hd
        · exact h2 d hd
        · rw [List.mem_singleton.1 hd]
          refine (hm r h).2 ?_
          by_cases hz : (msg r).2.e = 0
          · exact hz
          · rw [bodyL_off msg n _ _ _ hz] at he; exact absurd he hz
      · rw [if_neg hM]
        by_cases hE : r.is tEnum = true
        · rw [if_pos hE]
          obtain ⟨i1, i2⟩ := Wok.bodyL f k hm n (r.enum en).2 fs (ds ++ [(r.enum en).1]) h.enum.1
          refine ⟨i1, fun he h1 h2 => i2 he h1 fun d hd => ?_⟩
          rcases List.mem_append.1 hd with hd | hd
          · exact h2 d hd
          · rw [List.mem_singleton.1 hd]
            refine (h.enum (en := en)).2 ?_ f k
            by_cases hz : (r.enum en).2.e = 0
            · exact hz
            · rw [bodyL_off msg n _ _ _ hz] at he; exact absurd he hz
        · rw [if_neg hE]
          obtain ⟨i1, i2⟩ := Wok.bodyL f k hm n (r.field en).2 (fs ++ [(r.field en).1]) ds h.field
          refine ⟨i1, fun he h1 h2 => i2 he (fun x hx => ?_) h2⟩
          rcases List.mem_append.1 hx with hx | hx
          · exact h1 x hx
          · rw [List.mem_singleton.1 hx]
            refine h.field_ok (en := en) ?_
            by_cases hz : (r.field en).2.e = 0
            · exact hz
            · rw [bodyL_off msg n _ _ _ hz] at he; exact absurd he hz
    · rw [if_neg hc]
      exact ⟨h, fun _ h1 h2 => ⟨h1, h2⟩⟩
theorem Wok.message : ∀ (k depth : Nat), depth + k = 9 → 1 ≤ depth → ∀ r, Wok r → Wok (messageL en (k + 1) depth r).2 ∧ ((messageL en (k + 1) depth r).2.e = 0 → fmD k (depth - 1) (messageL en (k + 1) depth r).1 = true) := by
  intro k
  have gen : ∀ (k depth : Nat), 1 ≤ depth → (∀ r, Wok r → Wok (messageL en k (depth + 1) r).2 ∧ ((messageL en k (depth + 1) r).2.e = 0 → fmD (k - 1) depth (messageL en k (depth + 1) r).1 = true)) → (depth ≤ 8 → 1 ≤ k) →
      ∀ r, Wok r → Wok (messageL en (k + 1) depth r).2 ∧ ((messageL en (k + 1) depth r).2.e = 0 → fmD k (depth - 1) (messageL en (k + 1) depth r).1 = true) := by
    intro k depth h1 hm hk r h
    unfold messageL
    simp only
    have hw : Wok (if 8 < depth then r.fail 8 (r.here en) else r) := by
      split
      · exact h.fail _ _
      · exact h
    have hz8 : (if 8 < depth then r.fail 8 (r.here en) else r).e = 0 → depth ≤ 8 := by
      intro he
      by_cases h8 : 8 < depth
      · rw [if_pos h8] at he
        exfalso
        unfold Rd.fail at he
        split at he
        · cases he
        · exact absurd he (by assumption)
      · omega
    generalize (if 8 < depth then r.fail 8 (r.here en) else r) = r0 at *
    obtain ⟨i1, i2⟩ := Wok.bodyL (en := en) (k - 1) depth hm ((((r0.take en tMessage).name en).take en [123]).l.length + 1) (((r0.take en tMessage).name en).take en [123]) [] [] (((hw.take _).name).take _)
    refine ⟨i1.take _, fun he => ?_⟩
    have e1 := (Rd.take_ok he).1
    have e2 : (((r0.take en tMessage).name en).take en [123]).e = 0 := by
      by_cases hz : (((r0.take en tMessage).name en).take en [123]).e = 0
      · exact hz
      · rw [bodyL_off _ _ _ _ _ hz] at e1; exact absurd e1 hz
    have e3 := (Rd.take_ok e2).1
    have e4 := (Rd.take_ok (Rd.name_ok e3).1).1
    have h8 := hz8 e4
    have hk1 := hk h8
    obtain ⟨j1, j2⟩ := i2 e1 (fun x hx => by cases hx) (fun x hx => by cases hx)
    unfold fmD
    have hin : fmL k (depth - 1 + 1) (Go.Proofs.YtngmimbpakmkiaaGreatDoor.bodyL en (messageL en k (depth + 1)) ((((r0.take en tMessage).name en).take en [123]).l.length + 1) (((r0.take en tMessage).name en).take en [123]) [] []).1.2 = true := by
      obtain ⟨k, rfl⟩ : ∃ k', k = k' + 1 := ⟨k - 1, by omega⟩
      rw [fmL_succ, List.all_eq_true, show depth - 1 + 1 = depth by omega]
      exact j2
    simp only [hin, List.all_eq_true.2 j1, (hw.take (en := en) tMessage).nameT e3, List.isEmpty_nil, Bool.and_true, Bool.true_and, if_pos, decide_eq_true_iff]
    omega
  induction k with
  | zero =>
    intro depth hd h1 r h
    by_cases he : r.e = 0
    · rw [message_deep (by omega) he]
      refine ⟨h.fail _ _, fun hz => ?_⟩
      rw [Rd.e_fail he] at hz
      cases hz
    · rw [message_err he]
      exact ⟨h, fun hz => absurd hz he⟩
  | succ k ih =>
    intro depth hd h1 r h
    exact gen (k + 1) depth h1 (fun r hr => by
      have := ih (depth + 1) (by omega) (by omega) r hr
      simpa using this) (by omega) r h
theorem Wok.decls (f : Nat) (hf : 8 ≤ f) (hup : ∀ d, fmD 8 0 d = true → fmD f 0 d = true) : ∀ (n : Nat) (r : Rd) (ds : List Dc), Wok r → (declsL en n r ds).2.e = 0 → (∀ d ∈ ds, fmD f 0 d = true) → ∀ d ∈ (declsL en n r ds).1, fmD f 0 d = true
  | 0, r, ds, h, he, hd => hd
  | n + 1, r, ds, h, he, hd => by
    have stay : ∀ (n : Nat) (r : Rd) (ds : List Dc), r.e ≠ 0 → declsL en n r ds = (ds, r) := fun n r ds hz => by
      cases n with
      | zero => rfl
      | succ n => rw [declsL, if_neg (fun hh => hz hh.1)]
    have ok : ∀ (n : Nat) (r : Rd) (ds : List Dc), (declsL en n r ds).2.e = 0 → r.e = 0 := fun n r ds hz => by
      by_cases hr : r.e = 0
      · exact hr
      · rw [stay n r ds hr] at hz; exact hz
    have snoc : ∀ d, fmD f 0 d = true → ∀ x ∈ ds ++ [d], fmD f 0 x = true := fun d hd1 x hx => by
      rcases List.mem_append.1 hx with hx | hx
      · exact hd x hx
      · rw [List.mem_singleton.1 hx]; exact hd1
    rw [declsL] at he ⊢
    by_cases hc : r.e = 0 ∧ r.l ≠ []
    · rw [if_pos hc] at he ⊢
      by_cases hM : r.is tMessage = true
      · rw [if_pos hM] at he ⊢
        obtain ⟨m1, m2⟩ := Wok.message (en := en) 8 1 rfl (Nat.le_refl _) r h
        exact Wok.decls f hf hup n _ _ m1 he (snoc _ (hup _ (m2 (ok _ _ _ he))))
      · rw [if_neg hM] at he ⊢
        by_cases hE : r.is tEnum = true
        · rw [if_pos hE] at he ⊢
          exact Wok.decls f hf hup n _ _ h.enum.1 he (snoc _ (h.enum.2 (ok _ _ _ he) f 0))
        · rw [if_neg hE] at he ⊢
          by_cases hS : r.is tService = true
          · rw [if_pos hS] at he ⊢
            exact Wok.decls f hf hup n _ _ h.service.1 he (snoc _ (h.service.2 (ok _ _ _ he) f))
          · rw [if_neg hS] at he ⊢
            exact Wok.decls f hf hup n _ _ (h.fail _ _) he hd
    · rw [if_neg hc]
      exact hd
end
theorem fmD_up : ∀ (f k : Nat) (d : Dc), fmD f k d = true → fmD (f + 1) k d = true := by
  intro f
  have gen : ∀ (f k : Nat) (d : Dc), (fmL f (k + 1) d.inner = true → fmL (f + 1) (k + 1) d.inner = true) → fmD f k d = true → fmD (f + 1) k d = true := by
    intro f k d hi h
    unfold fmD at h ⊢
    by_cases h1 : d.kind = 1
    · rw [if_pos h1] at h ⊢
      simp only [Bool.and_eq_true] at h ⊢
      exact ⟨h.1, h.2.1, hi h.2.2⟩
    · rw [if_neg h1] at h ⊢
      exact h
  induction f with
  | zero =>
    intro k d h
    refine gen 0 k d (fun hi => ?_) h
    have : d.inner = [] := by
      have hi : d.inner.isEmpty = true := hi
      simpa using hi
    rw [this]; rfl
  | succ f ih =>
    intro k d h
    refine gen (f + 1) k d (fun hi => ?_) h
    rw [fmL_succ, List.all_eq_true] at hi ⊢
    exact fun x hx => ih (k + 1) x (hi x hx)
theorem words_ok (l : List UInt8) : ∀ x ∈ (wordsL l).1, WordOK x := by
  intro x hx
  unfold wordsL at hx
  split at hx
  · cases hx
  · exact lexL_ok _ _ _ _ _ (fun y hy => by cases hy) x hx
/-- what is read is formed -/
theorem file_fm (l : List UInt8) (h : (fileL l).2.2 = 0) : fmL 10 0 (fileL l).1 = true := by
  unfold fileL at h ⊢
  by_cases hw : (wordsL l).2.2 = 0
  · rw [if_pos hw] at h ⊢
    unfold fileW at h ⊢
    simp only at h ⊢
    split at h
    · rename_i he
      rw [if_pos he]
      rw [fmL_succ, List.all_eq_true]
      exact Wok.decls 9 (by omega) (fun d hd => fmD_up 8 0 d hd) _ _ _ (words_ok l) he (fun d hd => by cases hd)
    · rename_i he
      exact absurd h he
  · rw [if_neg hw] at h
    exact absurd h hw
end Go.Proofs.YtngmimbpakmkiaaGreatDoor
