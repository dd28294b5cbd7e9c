/-
  Frames and their bytes, as plain functions. Nothing is proved of the program here.
-/
import Derived.Test.YtckbplhplpnhaaaDoorCrS
import Derived.Test.YtckbplhplpnhaaaDoorVint
namespace Go.Proofs.YtckbplhplpnhaaaDoor
set_option linter.unusedVariables false

/-- a frame -/
structure Fr where
  kind : Int
  client : Int
  token : Int
  attempt : Int
  floor : Int
  method : Int
  deadline : Int
  status : Int
  pay : List Int

/-- whether it is formed -/
def okF (f : Fr) : Bool := decide ((f.kind = 1 ∨ f.kind = 2 ∨ f.kind = 3) ∧ 1 ≤ f.client ∧ f.client ≤ 2147483647 ∧ 1 ≤ f.token ∧ 0 ≤ f.attempt ∧ f.attempt ≤ 5 ∧ 1 ≤ f.floor ∧ f.floor ≤ f.token ∧ 0 ≤ f.method ∧ f.method ≤ 2147483647 ∧ 0 ≤ f.deadline ∧ f.deadline ≤ 1099511627776 ∧ 0 ≤ f.status ∧ f.status ≤ 255 ∧ f.pay.length ≤ 4096 ∧ (f.kind ≠ 2 → f.status = 0) ∧ (f.kind = 3 → f.pay.length = 0))
theorem okF_iff (f : Fr) : okF f = true ↔ (f.kind = 1 ∨ f.kind = 2 ∨ f.kind = 3) ∧ 1 ≤ f.client ∧ f.client ≤ 2147483647 ∧ 1 ≤ f.token ∧ 0 ≤ f.attempt ∧ f.attempt ≤ 5 ∧ 1 ≤ f.floor ∧ f.floor ≤ f.token ∧ 0 ≤ f.method ∧ f.method ≤ 2147483647 ∧ 0 ≤ f.deadline ∧ f.deadline ≤ 1099511627776 ∧ 0 ≤ f.status ∧ f.status ≤ 255 ∧ f.pay.length ≤ 4096 ∧ (f.kind ≠ 2 → f.status = 0) ∧ (f.kind = 3 → f.pay.length = 0) := by
  unfold okF; exact decide_eq_true_iff

/-- what a Go frame may hold -/
def RngF (f : Fr) : Prop := (-9223372036854775808 ≤ f.kind ∧ f.kind ≤ 9223372036854775807) ∧ (-9223372036854775808 ≤ f.client ∧ f.client ≤ 9223372036854775807) ∧ (0 ≤ f.token ∧ f.token ≤ 18446744073709551615) ∧ (-9223372036854775808 ≤ f.attempt ∧ f.attempt ≤ 9223372036854775807) ∧ (0 ≤ f.floor ∧ f.floor ≤ 18446744073709551615) ∧ (-9223372036854775808 ≤ f.method ∧ f.method ≤ 9223372036854775807) ∧ (-9223372036854775808 ≤ f.deadline ∧ f.deadline ≤ 9223372036854775807) ∧ (-9223372036854775808 ≤ f.status ∧ f.status ≤ 9223372036854775807) ∧ ∀ z ∈ f.pay, 0 ≤ z ∧ z ≤ 255

/-- its numbers, in their order -/
def numsF (f : Fr) : List Int := [f.kind, f.client, f.token, f.attempt, f.floor, f.method, f.deadline, f.status, (f.pay.length : Int)]
/-- numbers, as varints -/
def vints (l : List Int) : List Int := l.flatMap fun n => vint n.toNat
def bodyF (f : Fr) : List Int := 199 :: (vints (numsF f) ++ f.pay)
/-- a sum's bytes, the highest first -/
def four (s : Nat) : List Int := [((s / 16777216 % 256 : Nat) : Int), ((s / 65536 % 256 : Nat) : Int), ((s / 256 % 256 : Nat) : Int), ((s % 256 : Nat) : Int)]
def bytesF (f : Fr) : List Int := bodyF f ++ four (sumC (nats (bodyF f)))

theorem four_len (s : Nat) : (four s).length = 4 := rfl
theorem four_bytes (s : Nat) : ∀ z ∈ four s, 0 ≤ z ∧ z ≤ 255 := by
  intro z hz
  unfold four at hz
  simp only [List.mem_cons, List.not_mem_nil, or_false] at hz
  rcases hz with rfl | rfl | rfl | rfl <;> omega
theorem four_inj {s t : Nat} (hs : s < 4294967296) (ht : t < 4294967296) (h : four s = four t) : s = t := by
  unfold four at h
  simp only [List.cons.injEq] at h
  omega
theorem vints_nil : vints [] = [] := rfl
theorem vints_cons (n : Int) (l : List Int) : vints (n :: l) = vint n.toNat ++ vints l := by unfold vints; rw [List.flatMap_cons]
theorem vints_append (a b : List Int) : vints (a ++ b) = vints a ++ vints b := by unfold vints; rw [List.flatMap_append]
theorem vints_bytes : ∀ l : List Int, ∀ z ∈ vints l, 0 ≤ z ∧ z ≤ 255
  | [], z, h => by simp [vints_nil] at h
  | n :: l, z, h => by
    rw [vints_cons] at h
    rcases List.mem_append.1 h with h | h
    · exact vint_bytes _ z h
    · exact vints_bytes l z h
/-- each number fits 64 bits -/
def Rn (l : List Int) : Prop := ∀ n ∈ l, 0 ≤ n ∧ n ≤ 18446744073709551615
theorem vints_len : ∀ l : List Int, Rn l → l.length ≤ (vints l).length ∧ (vints l).length ≤ 10 * l.length
  | [], _ => by simp [vints_nil]
  | n :: l, h => by
    have h1 := vints_len l fun x hx => h x (List.mem_cons_of_mem _ hx)
    have h2 := h n List.mem_cons_self
    have h3 := vint_ten (n := n.toNat) (by omega)
    have h4 := vint_pos n.toNat
    rw [vints_cons, List.length_append, List.length_cons]
    omega
theorem nums_rn {f : Fr} (h : okF f = true) (ht : f.token ≤ 18446744073709551615) : Rn (numsF f) := by
  have h := (okF_iff f).1 h
  intro n hn
  unfold numsF at hn
  simp only [List.mem_cons, List.not_mem_nil, or_false] at hn
  rcases hn with rfl | rfl | rfl | rfl | rfl | rfl | rfl | rfl | rfl <;> omega
theorem body_bytes {f : Fr} (h : ∀ z ∈ f.pay, 0 ≤ z ∧ z ≤ 255) : ∀ z ∈ bodyF f, 0 ≤ z ∧ z ≤ 255 := by
  intro z hz
  unfold bodyF at hz
  rcases List.mem_cons.1 hz with rfl | hz
  · omega
  · rcases List.mem_append.1 hz with hz | hz
    · exact vints_bytes _ z hz
    · exact h z hz
theorem bytes_bytes {f : Fr} (h : ∀ z ∈ f.pay, 0 ≤ z ∧ z ≤ 255) : ∀ z ∈ bytesF f, 0 ≤ z ∧ z ≤ 255 := by
  intro z hz
  rcases List.mem_append.1 hz with hz | hz
  · exact body_bytes h z hz
  · exact four_bytes _ z hz
theorem body_len {f : Fr} (h : okF f = true) (ht : f.token ≤ 18446744073709551615) : 10 ≤ (bodyF f).length ∧ (bodyF f).length ≤ 5000 := by
  have h1 := vints_len _ (nums_rn h ht)
  have h2 := (okF_iff f).1 h
  have h3 : (numsF f).length = 9 := rfl
  unfold bodyF
  rw [List.length_cons, List.length_append]
  omega
theorem bytes_len (f : Fr) : (bytesF f).length = (bodyF f).length + 4 := by unfold bytesF; rw [List.length_append, four_len]

/-- so many numbers from the beginning of bytes, and what is left -/
def takes : Nat → List Int → Option (List Int × List Int)
  | 0, zs => some ([], zs)
  | k + 1, zs => if (dec 0 0 zs).2.2 = 0 then (takes k (zs.drop (dec 0 0 zs).2.1.toNat)).map fun p => ((dec 0 0 zs).1 :: p.1, p.2) else none
theorem dec_one {n : Int} (t : List Int) (h0 : 0 ≤ n) (h1 : n ≤ 18446744073709551615) : dec 0 0 (vint n.toNat ++ t) = (n, ((vint n.toNat).length : Int), 0) := by
  have := dec_vint n.toNat 0 0 t (by decide) (by omega) (by simp; omega)
  simp only [Nat.mul_zero, Nat.pow_zero, Nat.mul_one, Nat.zero_add] at this
  have e : ((n.toNat : Nat) : Int) = n := by omega
  rw [e] at this
  have e2 : (((0 : Nat) : Int) + ((vint n.toNat).length : Int)) = ((vint n.toNat).length : Int) := by omega
  rw [e2] at this
  exact this
theorem takes_vints : ∀ (l t : List Int), Rn l → takes l.length (vints l ++ t) = some (l, t)
  | [], t, _ => rfl
  | n :: l, t, h => by
    have h2 := h n List.mem_cons_self
    have h1 := takes_vints l t fun x hx => h x (List.mem_cons_of_mem _ hx)
    rw [vints_cons, List.append_assoc]
    show (if (dec 0 0 _).2.2 = 0 then _ else _) = _
    rw [dec_one _ h2.1 h2.2, if_pos rfl]
    simp only [Int.toNat_natCast, List.drop_left', h1, Option.map_some]
theorem takes_snoc : ∀ (k : Nat) (zs l r : List Int), takes k zs = some (l, r) → (dec 0 0 r).2.2 = 0 → takes (k + 1) zs = some (l ++ [(dec 0 0 r).1], r.drop (dec 0 0 r).2.1.toNat)
  | 0, zs, l, r, h, hd => by
    simp only [takes, Option.some.injEq, Prod.mk.injEq] at h
    obtain ⟨rfl, rfl⟩ := h
    show (if (dec 0 0 zs).2.2 = 0 then _ else _) = _
    rw [if_pos hd]
    simp [takes]
  | k + 1, zs, l, r, h, hd => by
    unfold takes at h
    by_cases h0 : (dec 0 0 zs).2.2 = 0
    · rw [if_pos h0] at h
      obtain ⟨⟨p1, p2⟩, hp, hq⟩ := Option.map_eq_some_iff.1 h
      simp only [Prod.mk.injEq] at hq
      obtain ⟨rfl, rfl⟩ := hq
      have := takes_snoc k _ p1 p2 hp hd
      show (if (dec 0 0 zs).2.2 = 0 then _ else _) = _
      rw [if_pos h0, this]
      simp
    · rw [if_neg h0] at h; cases h
theorem takes_stop : ∀ (k j : Nat) (zs l r : List Int), takes k zs = some (l, r) → (dec 0 0 r).2.2 ≠ 0 → takes (k + 1 + j) zs = none
  | 0, j, zs, l, r, h, hd => by
    simp only [takes, Option.some.injEq, Prod.mk.injEq] at h
    obtain ⟨rfl, rfl⟩ := h
    rw [show 0 + 1 + j = j + 1 by omega]
    show (if (dec 0 0 zs).2.2 = 0 then _ else _) = _
    rw [if_neg hd]
  | k + 1, j, zs, l, r, h, hd => by
    unfold takes at h
    by_cases h0 : (dec 0 0 zs).2.2 = 0
    · rw [if_pos h0] at h
      obtain ⟨⟨p1, p2⟩, hp, hq⟩ := Option.map_eq_some_iff.1 h
      simp only [Prod.mk.injEq] at hq
      obtain ⟨rfl, rfl⟩ := hq
      have := takes_stop k j _ p1 p2 hp hd
      rw [show k + 1 + 1 + j = (k + 1 + j) + 1 by omega]
      show (if (dec 0 0 zs).2.2 = 0 then _ else _) = _
      rw [if_pos h0, this]
      rfl
    · rw [if_neg h0] at h; cases h
theorem takes_len : ∀ (k : Nat) (zs l r : List Int), takes k zs = some (l, r) → l.length = k
  | 0, zs, l, r, h => by
    simp only [takes, Option.some.injEq, Prod.mk.injEq] at h
    obtain ⟨rfl, rfl⟩ := h; rfl
  | k + 1, zs, l, r, h => by
    unfold takes at h
    by_cases h0 : (dec 0 0 zs).2.2 = 0
    · rw [if_pos h0] at h
      obtain ⟨⟨p1, p2⟩, hp, hq⟩ := Option.map_eq_some_iff.1 h
      simp only [Prod.mk.injEq] at hq
      obtain ⟨rfl, rfl⟩ := hq
      have := takes_len k _ p1 p2 hp
      rw [List.length_cons, this]
    · rw [if_neg h0] at h; cases h

theorem takes_rn : ∀ (k : Nat) (zs l r : List Int), (∀ z ∈ zs, 0 ≤ z ∧ z ≤ 255) → takes k zs = some (l, r) → Rn l ∧ (∀ z ∈ r, 0 ≤ z ∧ z ≤ 255)
  | 0, zs, l, r, hz, h => by
    simp only [takes, Option.some.injEq, Prod.mk.injEq] at h
    obtain ⟨rfl, rfl⟩ := h; exact ⟨by intro n hn; simp at hn, hz⟩
  | k + 1, zs, l, r, hz, h => by
    unfold takes at h
    by_cases h0 : (dec 0 0 zs).2.2 = 0
    · rw [if_pos h0] at h
      obtain ⟨⟨p1, p2⟩, hp, hq⟩ := Option.map_eq_some_iff.1 h
      simp only [Prod.mk.injEq] at hq
      obtain ⟨rfl, rfl⟩ := hq
      have h2 := takes_rn k _ p1 p2 (fun z hz2 => hz z (List.mem_of_mem_drop hz2)) hp
      have h3 := dec_ok zs 0 0 (dec 0 0 zs).1 (dec 0 0 zs).2.1 hz (by decide) (by omega) (by have e : dec 0 0 zs = ((dec 0 0 zs).1, (dec 0 0 zs).2.1, (dec 0 0 zs).2.2) := rfl; rw [h0] at e; exact e)
      refine ⟨fun n hn => ?_, h2.2⟩
      rcases List.mem_cons.1 hn with rfl | hn
      · exact ⟨h3.1, h3.2.1⟩
      · exact h2.1 n hn
    · rw [if_neg h0] at h; cases h
/-- the frame whose numbers and payload these are -/
def mkF (l : List Int) (p : List Int) : Fr := ⟨IntKind.i64.wrap (l.getD 0 0), IntKind.i64.wrap (l.getD 1 0), l.getD 2 0, IntKind.i64.wrap (l.getD 3 0), l.getD 4 0, IntKind.i64.wrap (l.getD 5 0), IntKind.i64.wrap (l.getD 6 0), IntKind.i64.wrap (l.getD 7 0), p⟩
theorem mkF_nums {f : Fr} (h : okF f = true) : mkF (numsF f) f.pay = f := by
  have h := (okF_iff f).1 h
  cases f with
  | mk a b c d e g i j p =>
    have w : ∀ x : Int, 0 ≤ x → x ≤ 1099511627776 → IntKind.i64.wrap x = x := fun x h0 h1 => by rw [IntKind.wrap_i64]; omega
    show Fr.mk (IntKind.i64.wrap a) (IntKind.i64.wrap b) c (IntKind.i64.wrap d) e (IntKind.i64.wrap g) (IntKind.i64.wrap i) (IntKind.i64.wrap j) p = _
    rw [w a (by simp at h; omega) (by simp at h; omega), w b (by simp at h; omega) (by simp at h; omega), w d (by simp at h; omega) (by simp at h; omega), w g (by simp at h; omega) (by simp at h; omega), w i (by simp at h; omega) (by simp at h; omega), w j (by simp at h; omega) (by simp at h; omega)]

theorem getD_rn {l : List Int} (h : Rn l) (j : Nat) : 0 ≤ l.getD j 0 ∧ l.getD j 0 ≤ 18446744073709551615 := by
  rw [List.getD_eq_getElem?_getD]
  cases e : l[j]? with
  | none => simp
  | some x => exact h x (List.mem_of_getElem? e)
theorem wrap_rng (x : Int) : -9223372036854775808 ≤ IntKind.i64.wrap x ∧ IntKind.i64.wrap x ≤ 9223372036854775807 := by rw [IntKind.wrap_i64]; omega
theorem mkF_rng {l p : List Int} (h : Rn l) (hp : ∀ z ∈ p, 0 ≤ z ∧ z ≤ 255) : RngF (mkF l p) :=
  ⟨wrap_rng _, wrap_rng _, getD_rn h 2, wrap_rng _, getD_rn h 4, wrap_rng _, wrap_rng _, wrap_rng _, hp⟩
/-- some formed frame's bytes -/
def IsF (f : Fr) (b : List Int) : Prop := okF f = true ∧ f.token ≤ 18446744073709551615 ∧ bytesF f = b
/-- what the program reads of bytes that are a frame's -/
theorem read_is {f : Fr} {b : List Int} (h : IsF f b) : 5 ≤ b.length ∧ takes 9 ((b.drop 1).take (b.length - 5)) = some (numsF f, f.pay) ∧ mkF (numsF f) f.pay = f := by
  obtain ⟨h1, h2, rfl⟩ := h
  have hl := body_len h1 h2
  have e := bytes_len f
  refine ⟨by omega, ?_, mkF_nums h1⟩
  have : ((bytesF f).drop 1).take ((bytesF f).length - 5) = vints (numsF f) ++ f.pay := by
    rw [e]
    unfold bytesF bodyF
    rw [List.cons_append, List.drop_succ_cons, List.drop_zero]
    apply List.take_left'
    rw [List.length_cons]; omega
  rw [this]
  exact takes_vints (numsF f) f.pay (nums_rn h1 h2)
/-- what the document reads of them, and more behind -/
theorem readR_is {f : Fr} {b : List Int} (h : IsF f b) (t : List Int) : takes 9 ((b ++ t).drop 1) = some (numsF f, f.pay ++ four (sumC (nats (bodyF f))) ++ t) := by
  obtain ⟨h1, h2, rfl⟩ := h
  have : (bytesF f ++ t).drop 1 = vints (numsF f) ++ (f.pay ++ four (sumC (nats (bodyF f))) ++ t) := by
    unfold bytesF bodyF
    simp [List.append_assoc]
  rw [this]
  exact takes_vints (numsF f) _ (nums_rn h1 h2)
theorem nums_pay {f g : Fr} (h : numsF f = numsF g) : f.pay.length = g.pay.length := by
  unfold numsF at h
  simp only [List.cons.injEq] at h
  omega
theorem nums_eq {f g : Fr} (h : numsF f = numsF g) (hp : f.pay = g.pay) : f = g := by
  cases f; cases g
  unfold numsF at h
  simp only [List.cons.injEq] at h
  simp only [Fr.mk.injEq]
  exact ⟨h.1, h.2.1, h.2.2.1, h.2.2.2.1, h.2.2.2.2.1, h.2.2.2.2.2.1, h.2.2.2.2.2.2.1, h.2.2.2.2.2.2.2.1, hp⟩
/-- bytes with more behind are no frame's, if they are one's -/
theorem is_behind {f g : Fr} {b t : List Int} (h : IsF f b) (hg : IsF g (b ++ t)) : t = [] := by
  have h1 := readR_is h t
  have h2 := readR_is hg []
  rw [List.append_nil, h1] at h2
  simp only [Option.some.injEq, Prod.mk.injEq] at h2
  have h3 := congrArg List.length h2.2
  have h4 := nums_pay h2.1
  simp only [List.length_append, four_len, List.length_nil] at h3
  exact List.eq_nil_of_length_eq_zero (by omega)
theorem is_one {f g : Fr} {b : List Int} (h : IsF f b) (hg : IsF g b) : f = g := by
  have h1 := (read_is h).2.1
  have h2 := (read_is hg).2.1
  rw [h1] at h2
  simp only [Option.some.injEq, Prod.mk.injEq] at h2
  exact nums_eq h2.1 h2.2
/-- one byte turned: no frame's -/
theorem is_turned {f g : Fr} {b : List Int} {k : Nat} {z y : Int} (hb : ∀ x ∈ b, 0 ≤ x ∧ x ≤ 255) (h : IsF f b) (hz : b[k]? = some z) (h0 : 0 ≤ y) (h1 : y ≤ 255) (hne : z ≠ y) (hg : IsF g (b.set k y)) : False := by
  obtain ⟨_, _, rfl⟩ := h
  obtain ⟨_, _, hg⟩ := hg
  have hkl : k < (bytesF f).length := (List.getElem?_eq_some_iff.1 hz).1
  have hll : (bodyF g).length = (bodyF f).length := by
    have := congrArg List.length hg
    rw [List.length_set, bytes_len, bytes_len] at this
    omega
  have hbl := bytes_len f
  by_cases hk : k < (bodyF f).length
  · have hzf : (bodyF f)[k]? = some z := by
      unfold bytesF at hz
      rwa [List.getElem?_append_left hk] at hz
    have e : (bytesF f).set k y = (bodyF f).set k y ++ four (sumC (nats (bodyF f))) := by
      unfold bytesF
      rw [List.set_append_left _ _ hk]
    rw [e] at hg
    have h2 := List.append_inj hg (by rw [List.length_set]; exact hll)
    have hbb : ∀ x ∈ bodyF f, 0 ≤ x ∧ x ≤ 255 := fun x hx => hb x (List.mem_append_left _ hx)
    have hbb2 : ∀ x ∈ (bodyF f).set k y, 0 ≤ x ∧ x ≤ 255 := fun x hx => by
      rcases List.mem_or_eq_of_mem_set hx with hx | rfl
      · exact hbb x hx
      · exact ⟨h0, h1⟩
    rw [h2.1] at h2
    have h3 := four_inj (sumC_lt hbb2) (sumC_lt hbb) h2.2
    have hzb := hbb z (List.mem_of_getElem? hzf)
    exact sums_differ hbb hzf h0 h1 (by omega) h3
  · have e : (bytesF f).set k y = bodyF f ++ (four (sumC (nats (bodyF f)))).set (k - (bodyF f).length) y := by
      unfold bytesF
      rw [List.set_append_right _ _ (by omega)]
    rw [e] at hg
    have h2 := List.append_inj hg hll
    have h3 := h2.2
    rw [h2.1] at h3
    have hzf : (four (sumC (nats (bodyF f))))[k - (bodyF f).length]? = some z := by
      unfold bytesF at hz
      rwa [List.getElem?_append_right (by omega)] at hz
    have h4 := congrArg (fun l => l[k - (bodyF f).length]?) h3
    simp only [hzf] at h4
    rw [List.getElem?_set_self (by rw [four_len]; omega)] at h4
    exact hne (Option.some.inj h4)
end Go.Proofs.YtckbplhplpnhaaaDoor
