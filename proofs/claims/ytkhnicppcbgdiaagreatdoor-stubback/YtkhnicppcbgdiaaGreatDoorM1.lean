/-
  Rows of stubs and their text, as plain functions; that the rows are found in their text, by the program's way and by the document's. Nothing is proved of the program here.
-/
import Derived.Test.YtkhnicppcbgdiaaGreatDoorM0
import Derived.Lib.IndexMore
import Derived.Lib.ItoaMem
import Derived.Lib.ItoaLen
namespace Go.Proofs.YtkhnicppcbgdiaaGreatDoor
set_option linter.unusedVariables false

def wFunc : List UInt8 := [102, 117, 110, 99, 32, 40, 99, 32]
def wClient : List UInt8 := [67, 108, 105, 101, 110, 116, 41, 32]
def wIn : List UInt8 := [40, 105, 110, 32]
def wMid : List UInt8 := [41, 32, 40]
def wStat : List UInt8 := [44, 32, 83, 116, 97, 116, 117, 115, 41]
def wCall : List UInt8 := [32, 123, 32, 114, 101, 116, 117, 114, 110, 32, 99, 97, 108, 108, 91]
def wCaller : List UInt8 := [93, 40, 99, 46, 67, 97, 108, 108, 101, 114, 44, 32]
def wEnd : List UInt8 := [44, 32, 105, 110, 41, 32, 125]
def wType : List UInt8 := [116, 121, 112, 101, 32]
def wStruct : List UInt8 := [67, 108, 105, 101, 110, 116, 32, 115, 116, 114, 117, 99, 116, 123, 32, 67, 97, 108, 108, 101, 114, 32, 125]
def wPack : List UInt8 := [112, 97, 99, 107, 97, 103, 101, 32, 115, 116, 117, 98, 115]
def wDisp : List UInt8 := [102, 117, 110, 99, 32, 68, 105, 115, 112, 97, 116, 99, 104, 40, 104, 32, 72, 97, 110, 100, 108, 101, 114, 115, 44, 32, 105, 100, 32, 105, 110, 116, 44, 32, 105, 110, 32, 97, 110, 121, 41, 32, 40, 97, 110, 121, 44, 32, 83, 116, 97, 116, 117, 115, 41, 32, 123]
def wSwitch : List UInt8 := [9, 115, 119, 105, 116, 99, 104, 32, 105, 100, 32, 123]
def wCase : List UInt8 := [9, 99, 97, 115, 101, 32]
def wColon : List UInt8 := [58]
def wRet : List UInt8 := [9, 9, 114, 101, 116, 117, 114, 110, 32, 104, 46]
def wUnder : List UInt8 := [95]
def wInDot : List UInt8 := [40, 105, 110, 46, 40]
def wClose : List UInt8 := [41, 41]
def wE1 : List UInt8 := [9, 125]
def wE2 : List UInt8 := [9, 114, 101, 116, 117, 114, 110, 32, 110, 105, 108, 44, 32, 85, 110, 105, 109, 112, 108, 101, 109, 101, 110, 116, 101, 100]
def wE3 : List UInt8 := [125]

structure Rw where
  id : Int
  sv : List UInt8
  mt : List UInt8
  inn : List UInt8
  out : List UInt8
  deriving DecidableEq
def rid (n : Int) (r : Rw) : Rw := ⟨n, r.sv, r.mt, r.inn, r.out⟩
/-- a method's line -/
def mlL (r : Rw) : List UInt8 := wFunc ++ r.sv ++ wClient ++ r.mt ++ wIn ++ r.inn ++ wMid ++ r.out ++ wStat ++ wCall ++ r.out ++ wCaller ++ Lib.itoa r.id ++ wEnd
def tyL (s : List UInt8) : List UInt8 := wType ++ s ++ wStruct
def c1L (r : Rw) : List UInt8 := wCase ++ Lib.itoa r.id ++ wColon
def c2L (r : Rw) : List UInt8 := wRet ++ r.sv ++ wUnder ++ r.mt ++ wInDot ++ r.inn ++ wClose
/-- the lines of the clients; p: the service of the row ahead -/
def headL : Option (List UInt8) → List Rw → List (List UInt8)
  | _, [] => []
  | p, r :: t => (if p = some r.sv then [] else [tyL r.sv, []]) ++ ([mlL r, []] ++ headL (some r.sv) t)
def caseL (l : List Rw) : List (List UInt8) := l.flatMap fun r => [c1L r, c2L r]
def linesT (p : Option (List UInt8)) (l : List Rw) : List (List UInt8) := [wPack, []] ++ headL p l ++ [wDisp, wSwitch] ++ caseL l ++ [wE1, wE2, wE3]
def flatT (l : List (List UInt8)) : List UInt8 := l.flatMap fun x => x ++ [10]
def textT (p : Option (List UInt8)) (l : List Rw) : List UInt8 := flatT (linesT p l)
theorem headL_first (l : List Rw) (h : ∀ r ∈ l, r.sv ≠ []) : headL none l = headL (some []) l := by
  cases l with
  | nil => rfl
  | cons r t =>
    have := h r List.mem_cons_self
    unfold headL
    rw [if_neg (by simp), if_neg (by simpa using Ne.symm this)]
theorem textT_first (l : List Rw) (h : ∀ r ∈ l, r.sv ≠ []) : textT none l = textT (some []) l := by unfold textT linesT; rw [headL_first l h]

/-- names -/
def camB (s : List UInt8) : Bool := nameOf (runes (mkB s)) && !s.contains 95
def msgN (l : List Int) : Bool := decide (1 ≤ l.length ∧ l.length ≤ 400) && isLetter (l.headD 0) && l.all nameRune
def msgB (s : List UInt8) : Bool := msgN (runes (mkB s))
def rightR (r : Rw) : Bool := camB r.sv && camB r.mt && msgB r.inn && msgB r.out
/-- bytes of a name -/
def okB (b : UInt8) : Prop := 48 ≤ b.toNat
theorem enc_ok (r : Int) (h : nameRune r = true) : ∀ b ∈ Lib.encodeRune r, okB b := by
  have h2 := two_of_name h
  unfold nameRune isLetter isDigit at h
  simp only [Bool.or_eq_true, decide_eq_true_iff] at h
  intro b hb
  by_cases hr : r ≤ 127
  · rw [enc_small r h2.1 hr] at hb
    simp only [List.mem_cons, List.not_mem_nil, or_false] at hb
    subst hb
    unfold okB
    rw [UInt8.toNat_ofNat_of_lt' (by show _ < 256; omega)]
    omega
  · rw [enc_two r (by omega) h2.2] at hb
    simp only [List.mem_cons, List.not_mem_nil, or_false] at hb
    unfold two at h2
    rcases hb with rfl | rfl
    · unfold okB; rw [UInt8.toNat_ofNat_of_lt' (by show _ < 256; omega)]; omega
    · unfold okB; rw [UInt8.toNat_ofNat_of_lt' (by show _ < 256; omega)]; omega
theorem bytes_ok (s : List UInt8) (h : ∀ r ∈ runes (mkB s), nameRune r = true) : ∀ b ∈ s, okB b := by
  have hs : (mkB s).size = s.length := by show s.toArray.size = _; simp
  have := rns_bytes (mkB s) (by rw [hs]; simp [mkB]) (mkB s).size 0 (by omega) (fun r hr => (two_of_name (h r hr)).2)
  have e : s = encL (runes (mkB s)) := by simpa [runes, mkB] using this
  intro b hb
  rw [e] at hb
  obtain ⟨r, hr, hb⟩ := List.mem_flatMap.1 hb
  exact enc_ok r (h r hr) b hb
theorem camB_ok {s : List UInt8} (h : camB s = true) : (∀ b ∈ s, okB b) ∧ s ≠ [] := by
  unfold camB at h
  rw [Bool.and_eq_true] at h
  refine ⟨bytes_ok s (name_all h.1), fun e => ?_⟩
  subst e
  exact absurd h.1 (by decide)
theorem msgB_ok {s : List UInt8} (h : msgB s = true) : ∀ b ∈ s, okB b := by
  unfold msgB msgN at h
  simp only [Bool.and_eq_true, List.all_eq_true] at h
  exact bytes_ok s h.2

/-- the first place of what stands behind a text without one of its bytes -/
theorem pre_not {p q t : List UInt8} {c : UInt8} : ∀ {x : List UInt8}, x ≠ [] → (∀ b ∈ x, b ≠ c) → (∀ b ∈ p, b ≠ c) → (p ++ c :: q).isPrefixOf (x ++ (p ++ c :: t)) = false := by
  intro x hx hxc hpc
  rw [Bool.eq_false_iff]
  intro h
  rw [List.isPrefixOf_iff_prefix] at h
  obtain ⟨u, hu⟩ := h
  have h1 : (p ++ c :: q ++ u)[p.length]? = some c := by simp
  rw [hu] at h1
  have hl : 0 < x.length := by cases x; exact absurd rfl hx; simp
  by_cases hp : p.length < x.length
  · rw [List.getElem?_append_left hp] at h1
    exact hxc _ (List.mem_of_getElem? h1) rfl
  · rw [List.getElem?_append_right (by omega), List.getElem?_append_left (by omega)] at h1
    exact hpc _ (List.mem_of_getElem? h1) rfl
theorem index_first {p q t : List UInt8} {c : UInt8} (hpc : ∀ b ∈ p, b ≠ c) : ∀ (a : List UInt8), (∀ b ∈ a, b ≠ c) → Lib.index (a ++ (p ++ c :: (q ++ t))) (p ++ c :: q) = (a.length : Int)
  | [], _ => by
    have hpre : (p ++ c :: q).isPrefixOf ([] ++ (p ++ c :: (q ++ t))) = true := by
      rw [List.isPrefixOf_iff_prefix]; exact ⟨t, by simp⟩
    cases hl : ([] ++ (p ++ c :: (q ++ t)) : List UInt8) with
    | nil => simp at hl
    | cons b l =>
      rw [hl] at hpre
      unfold Lib.index
      rw [if_pos hpre]; rfl
  | x :: a, h => by
    have ih := index_first (q := q) (t := t) hpc a (fun b hb => h b (List.mem_cons_of_mem _ hb))
    have hn := pre_not (p := p) (q := q) (t := q ++ t) (c := c) (x := x :: a) (by simp) h hpc
    rw [List.cons_append] at hn ⊢
    unfold Lib.index
    rw [if_neg (by rw [hn]; simp), ih, if_neg (by first | (simp; done) | (simp; omega))]
    simp
theorem cut_first {p q t a : List UInt8} {c : UInt8} (hpc : ∀ b ∈ p, b ≠ c) (ha : ∀ b ∈ a, b ≠ c) : Lib.cut (a ++ (p ++ c :: (q ++ t))) (p ++ c :: q) = (a, t, true) := by
  unfold Lib.cut
  rw [index_first hpc a ha, if_pos (by omega)]
  simp only [Int.toNat_natCast]
  refine Prod.ext (by simp) (Prod.ext ?_ rfl)
  show (a ++ (p ++ c :: (q ++ t))).drop (a.length + (p ++ c :: q).length) = t
  have : a ++ (p ++ c :: (q ++ t)) = (a ++ (p ++ c :: q)) ++ t := by simp
  rw [this, List.drop_left' (by simp)]

/-- what is made of one line: none: refused; some none: it is passed by -/
def stP (l : List UInt8) : Option (Option Rw) :=
  if wFunc.isPrefixOf l then
    let c1 := Lib.cut (l.drop 8) wClient
    let c2 := Lib.cut c1.2.1 wIn
    let c3 := Lib.cut c2.2.1 wMid
    let c4 := Lib.cut c3.2.1 wStat
    if camB c1.1 && camB c2.1 && msgB c3.1 && msgB c4.1 then some (some ⟨0, c1.1, c2.1, c3.1, c4.1⟩) else none
  else some none
def wStatR : List UInt8 := wStat ++ [32, 123]
/-- what stands between a beginning and the first place of what follows -/
def btw (s b e : List UInt8) : List UInt8 × List UInt8 × Bool :=
  if b.isPrefixOf s ∧ (Lib.cut (s.drop b.length) e).2.2 = true then Lib.cut (s.drop b.length) e else ([], [], false)
def stR (l : List UInt8) : Option (Option Rw) :=
  let c1 := btw l wFunc wClient
  if c1.2.2 then
    let c2 := btw c1.2.1 [] wIn
    let c3 := btw c2.2.1 [] wMid
    let c4 := btw c3.2.1 [] wStatR
    if c2.2.2 && c3.2.2 && c4.2.2 then some (some ⟨0, c1.1, c2.1, c3.1, c4.1⟩) else none
  else some none
def runSt (st : List UInt8 → Option (Option Rw)) : List Rw → List (List UInt8) → Option (List Rw)
  | acc, [] => some acc
  | acc, l :: t => match st l with
    | none => none
    | some none => runSt st acc t
    | some (some r) => runSt st (acc ++ [rid (acc.length + 1) r]) t
theorem not_in {s : List UInt8} (h : ∀ b ∈ s, okB b) (c : UInt8) (hc : c.toNat < 48) : ∀ b ∈ s, b ≠ c := by
  intro b hb e
  have := h b hb
  unfold okB at this
  subst e
  omega
theorem line_parts {r : Rw} (h : rightR r = true) :
    ∃ T, mlL r = wFunc ++ (r.sv ++ (wClient ++ (r.mt ++ (wIn ++ (r.inn ++ (wMid ++ (r.out ++ (wStatR ++ T)))))))) ∧
    Lib.cut (r.sv ++ (wClient ++ (r.mt ++ (wIn ++ (r.inn ++ (wMid ++ (r.out ++ (wStatR ++ T)))))))) wClient = (r.sv, r.mt ++ (wIn ++ (r.inn ++ (wMid ++ (r.out ++ (wStatR ++ T))))), true) ∧
    Lib.cut (r.mt ++ (wIn ++ (r.inn ++ (wMid ++ (r.out ++ (wStatR ++ T)))))) wIn = (r.mt, r.inn ++ (wMid ++ (r.out ++ (wStatR ++ T))), true) ∧
    Lib.cut (r.inn ++ (wMid ++ (r.out ++ (wStatR ++ T)))) wMid = (r.inn, r.out ++ (wStatR ++ T), true) ∧
    (Lib.cut (r.out ++ (wStatR ++ T)) wStat).1 = r.out ∧ Lib.cut (r.out ++ (wStatR ++ T)) wStatR = (r.out, T, true) := by
  unfold rightR at h
  simp only [Bool.and_eq_true] at h
  obtain ⟨⟨⟨h1, h2⟩, h3⟩, h4⟩ := h
  have k1 := (camB_ok h1).1
  have k2 := (camB_ok h2).1
  have k3 := msgB_ok h3
  have k4 := msgB_ok h4
  refine ⟨[32, 114, 101, 116, 117, 114, 110, 32, 99, 97, 108, 108, 91] ++ r.out ++ wCaller ++ Lib.itoa r.id ++ wEnd, ?_, ?_, ?_, ?_, ?_, ?_⟩
  · unfold mlL wStatR wCall; simp only [List.append_assoc, List.cons_append, List.nil_append]
  · exact cut_first (p := [67, 108, 105, 101, 110, 116]) (c := 41) (q := [32]) (by decide) (not_in k1 41 (by decide))
  · exact cut_first (p := []) (c := 40) (q := [105, 110, 32]) (by decide) (not_in k2 40 (by decide))
  · exact cut_first (p := []) (c := 41) (q := [32, 40]) (by decide) (not_in k3 41 (by decide))
  · unfold wStatR
    rw [List.append_assoc]
    rw [show Lib.cut (r.out ++ (wStat ++ ([32, 123] ++ _))) wStat = (r.out, _, true) from cut_first (p := []) (c := 44) (q := [32, 83, 116, 97, 116, 117, 115, 41]) (by decide) (not_in k4 44 (by decide))]
  · exact cut_first (p := []) (c := 44) (q := [32, 83, 116, 97, 116, 117, 115, 41, 32, 123]) (by decide) (not_in k4 44 (by decide))
theorem pre_drop (a b : List UInt8) : a.isPrefixOf (a ++ b) = true := by rw [List.isPrefixOf_iff_prefix]; exact ⟨b, rfl⟩
theorem stP_line {r : Rw} (h : rightR r = true) : stP (mlL r) = some (some (rid 0 r)) := by
  obtain ⟨T, e0, e1, e2, e3, e4, _⟩ := line_parts h
  unfold stP
  rw [e0, if_pos (pre_drop _ _), show (wFunc ++ (r.sv ++ (wClient ++ (r.mt ++ (wIn ++ (r.inn ++ (wMid ++ (r.out ++ (wStatR ++ T))))))))).drop 8 = _ from List.drop_left' rfl]
  simp only [e1, e2, e3, e4]
  unfold rightR at h
  rw [if_pos h]
  rfl
theorem btw_pre (b s e x y : List UInt8) (h : Lib.cut s e = (x, y, true)) : btw (b ++ s) b e = (x, y, true) := by
  unfold btw
  rw [List.drop_left' rfl, h, if_pos ⟨pre_drop _ _, rfl⟩]
theorem stR_line {r : Rw} (h : rightR r = true) : stR (mlL r) = some (some (rid 0 r)) := by
  obtain ⟨T, e0, e1, e2, e3, _, e5⟩ := line_parts h
  have b1 := btw_pre wFunc _ _ _ _ e1
  have b2 := btw_pre [] _ _ _ _ e2
  have b3 := btw_pre [] _ _ _ _ e3
  have b4 := btw_pre [] _ _ _ _ e5
  rw [List.nil_append] at b2 b3 b4
  unfold stR
  rw [e0]
  simp only [b1, b2, b3, b4]
  rfl
/-- lines that are passed by: they don't begin as a method's -/
theorem skip_of {l : List UInt8} (h : wFunc.isPrefixOf l = false) : stP l = some none ∧ stR l = some none := by
  constructor
  · unfold stP; rw [if_neg (by rw [h]; simp)]
  · unfold stR btw; simp [h]
theorem head_skip (l : List UInt8) (h : l.head? ≠ some 102) : wFunc.isPrefixOf l = false := by
  cases l with
  | nil => rfl
  | cons b t =>
    have hb : b ≠ 102 := by simpa using h
    show ((102 : UInt8) == b && _) = false
    rw [show ((102 : UInt8) == b) = false by simpa using Ne.symm hb]
    rfl
def numb (l : List Rw) (n : Nat) : Prop := ∀ (j : Nat) (r : Rw), l[j]? = some r → r.id = (n : Int) + j + 1
theorem numb_cons {r : Rw} {t : List Rw} {n : Nat} (h : numb (r :: t) n) : r.id = (n : Int) + 1 ∧ numb t (n + 1) := by
  refine ⟨by have := h 0 r rfl; omega, fun j x hx => ?_⟩
  have := h (j + 1) x hx
  omega
theorem run_skip (st : List UInt8 → Option (Option Rw)) (acc : List Rw) (t : List (List UInt8)) : ∀ (l : List (List UInt8)), (∀ x ∈ l, st x = some none) → runSt st acc (l ++ t) = runSt st acc t
  | [], _ => rfl
  | x :: l, h => by
    rw [List.cons_append, runSt, h x List.mem_cons_self]
    exact run_skip st acc t l fun y hy => h y (List.mem_cons_of_mem _ hy)
theorem run_head (st : List UInt8 → Option (Option Rw)) (hs : ∀ l : List UInt8, wFunc.isPrefixOf l = false → st l = some none) (hm : ∀ r, rightR r = true → st (mlL r) = some (some (rid 0 r))) (t : List (List UInt8)) :
    ∀ (l : List Rw) (p : Option (List UInt8)) (acc : List Rw), (∀ r ∈ l, rightR r = true) → numb l acc.length → runSt st acc (headL p l ++ t) = runSt st (acc ++ l) t
  | [], p, acc, _, _ => by rw [List.append_nil]; rfl
  | r :: l, p, acc, hr, hn => by
    obtain ⟨n1, n2⟩ := numb_cons hn
    have ih := run_head st hs hm t l (some r.sv) (acc ++ [r]) (fun x hx => hr x (List.mem_cons_of_mem _ hx)) (by rw [List.length_append]; exact n2)
    unfold headL
    rw [List.append_assoc, run_skip st acc _ _ (by
      intro x hx
      refine hs x (head_skip x ?_)
      split at hx
      · cases hx
      · simp only [List.mem_cons, List.not_mem_nil, or_false] at hx
        rcases hx with rfl | rfl
        · show some (116 : UInt8) ≠ some 102; decide
        · simp)]
    show runSt st acc (mlL r :: ([] :: (headL (some r.sv) l ++ t))) = _
    rw [runSt, hm r (hr r List.mem_cons_self)]
    show runSt st (acc ++ [rid (acc.length + 1) (rid 0 r)]) ([] :: _) = _
    rw [runSt, hs [] rfl]
    have e : rid ((acc.length : Int) + 1) (rid 0 r) = r := by unfold rid; rw [← n1]
    rw [e]
    rw [ih, List.append_assoc]
    rfl
theorem run_text (st : List UInt8 → Option (Option Rw)) (hs : ∀ l : List UInt8, wFunc.isPrefixOf l = false → st l = some none) (hm : ∀ r, rightR r = true → st (mlL r) = some (some (rid 0 r)))
    (l : List Rw) (p : Option (List UInt8)) (hr : ∀ r ∈ l, rightR r = true) (hn : numb l 0) : runSt st [] (linesT p l) = some l := by
  unfold linesT
  rw [List.append_assoc, List.append_assoc, List.append_assoc, run_skip st _ _ [wPack, []] (by
    intro x hx
    simp only [List.mem_cons, List.not_mem_nil, or_false] at hx
    rcases hx with rfl | rfl <;> exact hs _ rfl), run_head st hs hm _ l p [] hr hn]
  have h2 : ∀ x ∈ [wDisp, wSwitch] ++ (caseL l ++ [wE1, wE2, wE3]), st x = some none := by
    intro x hx
    rcases List.mem_append.1 hx with h | h
    · simp only [List.mem_cons, List.not_mem_nil, or_false] at h
      rcases h with rfl | rfl <;> exact hs _ rfl
    rcases List.mem_append.1 h with h | h
    · obtain ⟨r, _, h⟩ := List.mem_flatMap.1 h
      simp only [List.mem_cons, List.not_mem_nil, or_false] at h
      rcases h with rfl | rfl <;> exact hs _ (head_skip _ (by show some (9 : UInt8) ≠ some 102; decide))
    · simp only [List.mem_cons, List.not_mem_nil, or_false] at h
      rcases h with rfl | rfl | rfl <;> exact hs _ rfl
  have := run_skip st ([] ++ l) [] ([wDisp, wSwitch] ++ (caseL l ++ [wE1, wE2, wE3])) h2
  rw [List.append_nil] at this
  rw [this]
  rfl
/-- no line holds a line feed -/
theorem dec_nofeed (u : Nat) : ∀ b ∈ Lib.decDigits u, b ≠ 10 := by
  induction u using Nat.strongRecOn with
  | _ u ih =>
    by_cases h : u < 10
    · rw [Lib.decDigits, dif_pos h]
      simp only [List.mem_cons, List.not_mem_nil, or_false, forall_eq]
      exact (by decide : ∀ u : Fin 10, UInt8.ofNat (48 + u.val) ≠ 10) ⟨u, h⟩
    · rw [Lib.decDigits, dif_neg h]
      intro b hb
      rcases List.mem_append.1 hb with hb | hb
      · exact ih (u / 10) (by omega) b hb
      · simp only [List.mem_cons, List.not_mem_nil, or_false] at hb
        subst hb
        exact (by decide : ∀ u : Fin 10, UInt8.ofNat (48 + u.val) ≠ 10) ⟨u % 10, Nat.mod_lt _ (by decide)⟩
theorem digits_nofeed (n : Int) : ∀ b ∈ Lib.itoa n, b ≠ 10 := by
  unfold Lib.itoa
  split
  · intro b hb
    rcases List.mem_cons.1 hb with rfl | hb
    · decide
    · exact dec_nofeed _ b hb
  · exact dec_nofeed _
/-- a text's lines, the last one too where it doesn't end -/
def segs : Nat → List UInt8 → List (List UInt8)
  | 0, _ => []
  | f + 1, t => if t = [] then [] else (Lib.cut t [10]).1 :: segs f (Lib.cut t [10]).2.1
theorem cut_feed {a t : List UInt8} (ha : ∀ b ∈ a, b ≠ 10) : Lib.cut (a ++ 10 :: t) [10] = (a, t, true) := cut_first (p := []) (c := 10) (q := []) (by simp) ha
theorem segs_flat : ∀ (l : List (List UInt8)) (f : Nat), (∀ x ∈ l, ∀ b ∈ x, b ≠ 10) → l.length ≤ f → segs f (flatT l) = l
  | [], f, _, _ => by cases f <;> rfl
  | x :: l, f, h, hf => by
    cases f with
    | zero => simp at hf
    | succ f =>
      have e : flatT (x :: l) = x ++ 10 :: flatT l := by unfold flatT; simp
      rw [e, segs, if_neg (by simp), cut_feed (h x List.mem_cons_self)]
      show x :: segs f (flatT l) = _
      rw [segs_flat l f (fun y hy => h y (List.mem_cons_of_mem _ hy)) (by simpa using hf)]
/-- the lines that end, and what stands behind the last of them -/
def closL : List UInt8 → List UInt8 → List (List UInt8) × List UInt8
  | cur, [] => ([], cur)
  | cur, b :: t => if b = 10 then (cur :: (closL [] t).1, (closL [] t).2) else closL (cur ++ [b]) t
theorem clos_line : ∀ (x cur t : List UInt8), (∀ b ∈ x, b ≠ 10) → closL cur (x ++ 10 :: t) = ((cur ++ x) :: (closL [] t).1, (closL [] t).2)
  | [], cur, t, _ => by rw [List.append_nil, List.nil_append, closL, if_pos rfl]
  | b :: x, cur, t, h => by
    rw [List.cons_append, closL, if_neg (h b List.mem_cons_self), clos_line x (cur ++ [b]) t fun y hy => h y (List.mem_cons_of_mem _ hy), List.append_assoc]
    rfl
theorem clos_flat : ∀ l : List (List UInt8), (∀ x ∈ l, ∀ b ∈ x, b ≠ 10) → closL [] (flatT l) = (l, [])
  | [], _ => rfl
  | x :: l, h => by
    have e : flatT (x :: l) = x ++ 10 :: flatT l := by unfold flatT; simp
    rw [e, clos_line x [] _ (h x List.mem_cons_self), clos_flat l fun y hy => h y (List.mem_cons_of_mem _ hy)]
    rfl
theorem lines_nofeed (l : List Rw) (p : Option (List UInt8)) (hr : ∀ r ∈ l, rightR r = true) : ∀ x ∈ linesT p l, ∀ b ∈ x, b ≠ 10 := by
  have K : ∀ r ∈ l, (∀ b ∈ r.sv, b ≠ 10) ∧ (∀ b ∈ r.mt, b ≠ 10) ∧ (∀ b ∈ r.inn, b ≠ 10) ∧ ∀ b ∈ r.out, b ≠ 10 := by
    intro r h
    have h1 := hr r h
    unfold rightR at h1
    simp only [Bool.and_eq_true] at h1
    exact ⟨not_in (camB_ok h1.1.1.1).1 10 (by decide), not_in (camB_ok h1.1.1.2).1 10 (by decide), not_in (msgB_ok h1.1.2) 10 (by decide), not_in (msgB_ok h1.2) 10 (by decide)⟩
  have HH : ∀ (l' : List Rw) (p : Option (List UInt8)), (∀ r ∈ l', r ∈ l) → ∀ x ∈ headL p l', ∀ b ∈ x, b ≠ 10 := by
    intro l'
    induction l' with
    | nil => intro p _ x hx; cases hx
    | cons r t ih =>
      intro p hs x hx
      obtain ⟨k1, k2, k3, k4⟩ := K r (hs r List.mem_cons_self)
      unfold headL at hx
      rcases List.mem_append.1 hx with h | h
      · split at h
        · cases h
        · simp only [List.mem_cons, List.not_mem_nil, or_false] at h
          rcases h with rfl | rfl
          · intro b hb
            unfold tyL at hb
            rcases List.mem_append.1 hb with hb | hb
            · rcases List.mem_append.1 hb with hb | hb
              · exact (by decide : ∀ b ∈ wType, b ≠ 10) b hb
              · exact k1 b hb
            · exact (by decide : ∀ b ∈ wStruct, b ≠ 10) b hb
          · intro b hb; cases hb
      · rcases List.mem_append.1 h with h | h
        · simp only [List.mem_cons, List.not_mem_nil, or_false] at h
          rcases h with rfl | rfl
          · intro b hb
            unfold mlL at hb
            simp only [List.mem_append] at hb
            rcases hb with ((((((((((((hb | hb) | hb) | hb) | hb) | hb) | hb) | hb) | hb) | hb) | hb) | hb) | hb) | hb
            · exact (by decide : ∀ b ∈ wFunc, b ≠ 10) b hb
            · exact k1 b hb
            · exact (by decide : ∀ b ∈ wClient, b ≠ 10) b hb
            · exact k2 b hb
            · exact (by decide : ∀ b ∈ wIn, b ≠ 10) b hb
            · exact k3 b hb
            · exact (by decide : ∀ b ∈ wMid, b ≠ 10) b hb
            · exact k4 b hb
            · exact (by decide : ∀ b ∈ wStat, b ≠ 10) b hb
            · exact (by decide : ∀ b ∈ wCall, b ≠ 10) b hb
            · exact k4 b hb
            · exact (by decide : ∀ b ∈ wCaller, b ≠ 10) b hb
            · exact digits_nofeed _ b hb
            · exact (by decide : ∀ b ∈ wEnd, b ≠ 10) b hb
          · intro b hb; cases hb
        · exact ih (some r.sv) (fun y hy => hs y (List.mem_cons_of_mem _ hy)) x h
  intro x hx
  unfold linesT at hx
  simp only [List.mem_append] at hx
  rcases hx with (((h | h) | h) | h) | h
  · simp only [List.mem_cons, List.not_mem_nil, or_false] at h
    rcases h with rfl | rfl
    · exact (by decide : ∀ b ∈ wPack, b ≠ 10)
    · intro b hb; cases hb
  · exact HH l p (fun _ h => h) x h
  · simp only [List.mem_cons, List.not_mem_nil, or_false] at h
    rcases h with rfl | rfl
    · exact (by decide : ∀ b ∈ wDisp, b ≠ 10)
    · exact (by decide : ∀ b ∈ wSwitch, b ≠ 10)
  · obtain ⟨r, hrl, h⟩ := List.mem_flatMap.1 h
    obtain ⟨k1, k2, k3, k4⟩ := K r hrl
    simp only [List.mem_cons, List.not_mem_nil, or_false] at h
    rcases h with rfl | rfl
    · intro b hb
      unfold c1L at hb
      simp only [List.mem_append] at hb
      rcases hb with (hb | hb) | hb
      · exact (by decide : ∀ b ∈ wCase, b ≠ 10) b hb
      · exact digits_nofeed _ b hb
      · exact (by decide : ∀ b ∈ wColon, b ≠ 10) b hb
    · intro b hb
      unfold c2L at hb
      simp only [List.mem_append] at hb
      rcases hb with (((((hb | hb) | hb) | hb) | hb) | hb) | hb
      · exact (by decide : ∀ b ∈ wRet, b ≠ 10) b hb
      · exact k1 b hb
      · exact (by decide : ∀ b ∈ wUnder, b ≠ 10) b hb
      · exact k2 b hb
      · exact (by decide : ∀ b ∈ wInDot, b ≠ 10) b hb
      · exact k3 b hb
      · exact (by decide : ∀ b ∈ wClose, b ≠ 10) b hb
  · simp only [List.mem_cons, List.not_mem_nil, or_false] at h
    rcases h with rfl | rfl | rfl
    · exact (by decide : ∀ b ∈ wE1, b ≠ 10)
    · exact (by decide : ∀ b ∈ wE2, b ≠ 10)
    · exact (by decide : ∀ b ∈ wE3, b ≠ 10)
/-- what the program's Read answers -/
def readP (t : List UInt8) : Option (List Rw) := match runSt stP [] (segs t.length t) with
  | none => none
  | some l => if textT (some []) l = t then some l else none
def rightLs : Nat → List Rw → Bool
  | _, [] => true
  | n, r :: t => decide (r.id = (n : Int) + 1) && rightR r && rightLs (n + 1) t
theorem rightLs_iff : ∀ (l : List Rw) (n : Nat), rightLs n l = true → (∀ r ∈ l, rightR r = true) ∧ numb l n
  | [], n, _ => ⟨fun r h => (by cases h), fun j r h => (by simp at h)⟩
  | r :: t, n, h => by
    unfold rightLs at h
    simp only [Bool.and_eq_true, decide_eq_true_iff] at h
    obtain ⟨i1, i2⟩ := rightLs_iff t (n + 1) h.2
    refine ⟨fun x hx => ?_, fun j x hx => ?_⟩
    · rcases List.mem_cons.1 hx with rfl | hx
      · exact h.1.2
      · exact i1 x hx
    · cases j with
      | zero => simp only [List.getElem?_cons_zero, Option.some.injEq] at hx; subst hx; have := h.1.1; omega
      | succ j => have := i2 j x (by simpa using hx); omega
theorem cut_len (s e : List UInt8) : (Lib.cut s e).1.length ≤ s.length ∧ (Lib.cut s e).2.1.length ≤ s.length := by
  unfold Lib.cut
  split
  · simp only [List.length_take, List.length_drop]; omega
  · simp
theorem flat_len_lines (l : List (List UInt8)) : l.length ≤ (flatT l).length := by
  unfold flatT
  induction l with
  | nil => simp
  | cons x t ih => rw [List.flatMap_cons, List.length_append, List.length_append, List.length_cons]; simp only [List.length_cons, List.length_nil]; omega
/-- rows that are right come back of their text, by both ways -/
theorem back_text (l : List Rw) (hr : ∀ r ∈ l, rightR r = true) (hn : numb l 0) (p : Option (List UInt8)) : runSt stP [] (segs (textT p l).length (textT p l)) = some l ∧ closL [] (textT p l) = (linesT p l, []) ∧ runSt stR [] (linesT p l) = some l := by
  have hf := lines_nofeed l p hr
  refine ⟨?_, clos_flat _ hf, run_text stR (fun _ h => (skip_of h).2) (fun _ h => stR_line h) l p hr hn⟩
  unfold textT
  rw [segs_flat _ _ hf (flat_len_lines _)]
  exact run_text stP (fun _ h => (skip_of h).1) (fun _ h => stP_line h) l p hr hn
theorem sv_ne {l : List Rw} (hr : ∀ r ∈ l, rightR r = true) : ∀ r ∈ l, r.sv ≠ [] := by
  intro r h
  have h1 := hr r h
  unfold rightR at h1
  simp only [Bool.and_eq_true] at h1
  exact (camB_ok h1.1.1.1).2
/-- rows that are right are read of their text -/
theorem read_text (l : List Rw) (hr : ∀ r ∈ l, rightR r = true) (hn : numb l 0) : readP (textT (some []) l) = some l := by
  obtain ⟨k1, _, _⟩ := back_text l hr hn (some [])
  unfold readP
  rw [k1]
  simp
end Go.Proofs.YtkhnicppcbgdiaaGreatDoor
