/-
  What was encoded is decoded as its normal value: the arithmetic. Nothing is proved of the program here.
-/
import Derived.Test.YtnopnjklcdcckaaGreatDoorM39
namespace Go.Proofs.YtnopnjklcdcckaaGreatDoor
set_option linter.unusedVariables false

/-- a tree as a value has it, all the way down -/
def dn : Nat → Nd → Nd
  | 0, y => ⟨(cn y).kind, (cn y).n, (cn y).u, (cn y).b, (cn y).s, (cn y).type, []⟩
  | f + 1, y => ⟨(cn y).kind, (cn y).n, (cn y).u, (cn y).b, (cn y).s, (cn y).type, if y.kind = 7 then y.fields.map (fun p => (p.1, p.2.map (dn f))) else []⟩
theorem dn_else (f : Nat) {y : Nd} (h : y.kind ≠ 7) : dn f y = ⟨(cn y).kind, (cn y).n, (cn y).u, (cn y).b, (cn y).s, (cn y).type, []⟩ := by
  cases f with
  | zero => rfl
  | succ f => unfold dn; rw [if_neg h]
theorem cn_msg {y : Nd} (h : y.kind = 7) : (cn y).kind = 7 ∧ (cn y).n = 0 ∧ (cn y).u = 0 ∧ (cn y).b = false ∧ (cn y).s = y.s ∧ (cn y).type = y.type := by
  unfold cn; simp [h]
theorem dn_msg (f : Nat) {y : Nd} (h : y.kind = 7) : dn (f + 1) y = ⟨7, 0, 0, false, y.s, y.type, y.fields.map (fun p => (p.1, p.2.map (dn f)))⟩ := by
  obtain ⟨h1, h2, h3, h4, h5, h6⟩ := cn_msg h
  unfold dn; rw [if_pos h, h1, h2, h3, h4, h5, h6]
/-- no deeper than so -/
def DpN : Nat → Nd → Prop
  | 0, x => x.fields = []
  | f + 1, x => ∀ p ∈ x.fields, ∀ y ∈ p.2, DpN f y
theorem dp_of {w : World} {S : Nat → Prop} : ∀ {f : Nat} {v : Value} {x : Nd}, HeldG rawS w S f v x.fields → DpN f x
  | 0, v, x, h => h.1
  | f + 1, v, x, h => fun p hp y hy => by
    obtain ⟨j, hj⟩ := List.getElem?_of_mem hp
    obtain ⟨g1, o1, c1, _, _, vs, _, hs⟩ := SlIn.at h hj
    obtain ⟨k, hk⟩ := List.getElem?_of_mem hy
    obtain ⟨g2, o2, c2, _, _, fs, _, hf⟩ := SlIn.at hs hk
    exact dp_of (hf rfl)
theorem dp_norm (ms : List MD) : ∀ (f : Nat) (x : Nd), DpN f x → DpN f (normN ms f x)
  | 0, x, h => h
  | f + 1, x, h => by
    by_cases h7 : x.kind = 7
    · rw [norm_msg ms f x h7]
      refine fun q hq y hy => ?_
      obtain ⟨p, hp, _, rfl⟩ := kept_mem hq
      obtain ⟨z, hz, rfl⟩ := List.mem_map.1 hy
      exact dp_norm ms f z (h p hp z hz)
    · rw [norm_else ms _ x h7]; exact h
theorem SlIn.map {α β : Type} {S : Nat → Prop} {k : Nat} {R : α → Nat → Nat → Prop} {R' : β → Nat → Nat → Prop} {v : Value} {xs : List α} {g : α → β} (h : SlIn S k R v xs) (hR : ∀ x a o, R x a o → R' (g x) a o) : SlIn S k R' v (xs.map g) := by
  obtain ⟨ad, c, hv, hc, h⟩ := h
  refine ⟨ad, c, by rw [hv, List.length_map], by rw [List.length_map]; exact hc, ?_⟩
  rcases h with rfl | ⟨a, o, ha, hg, h⟩
  · exact .inl rfl
  · refine .inr ⟨a, o, ha, hg, fun j x hj => ?_⟩
    rw [List.getElem?_map] at hj
    obtain ⟨y, hy, rfl⟩ := Option.map_eq_some_iff.1 hj
    exact hR y a _ (h j y hy)
theorem heldV_upTo {w : World} {S : Nat → Prop} {f g : Nat} (hfg : f ≤ g) {v : Value} {y : Nd} (h : HeldV w S f v y) : HeldV w S g v y := by
  obtain ⟨fs, hv, h⟩ := h
  exact ⟨fs, hv, fun h7 => HeldG.upTo hfg (h h7)⟩
/-- a number, written and read -/
theorem num_back {k : Int} {y : Nd} (f : Nat) (hn : isNum k = true) (h1 : 1 ≤ k) (h2 : k ≤ 10) (hb : kindB k y = true) (hr : Rg1 y) : numD k (numP k y) = dn f y := by
  have hn := of_decide_eq_true hn
  obtain ⟨⟨r1, r2⟩, r3, r4⟩ := hr
  obtain ⟨kind, n, u, b, s, type, fields⟩ := y
  dsimp only at r1 r2 r3 r4
  have hi := IntKind.wrap_i32 n
  rcases (by omega : k = 1 ∨ k = 2 ∨ k = 3 ∨ k = 4 ∨ k = 7 ∨ k = 8 ∨ k = 9) with rfl | rfl | rfl | rfl | rfl | rfl | rfl
  · have hk : kind = 1 := by simpa [kindB] using hb
    subst hk
    rw [dn_else f (y := ⟨1, n, u, b, s, type, fields⟩) (show (1 : Int) ≠ 7 by decide)]
    have e : IntKind.i64.wrap (IntKind.u64.wrap n) = n := by rw [IntKind.wrap_u64, IntKind.wrap_i64]; omega
    simp [numD, numP, cn, e]
  · have hk : kind = 2 := by simpa [kindB] using hb
    subst hk
    rw [dn_else f (y := ⟨2, n, u, b, s, type, fields⟩) (show (2 : Int) ≠ 7 by decide)]
    simp [numD, numP, cn]
  · have hk : kind = 1 := by simpa [kindB] using hb
    subst hk
    rw [dn_else f (y := ⟨1, n, u, b, s, type, fields⟩) (show (1 : Int) ≠ 7 by decide)]
    have e : zagI (zigI n) = n := by
      unfold zagI zigI
      split <;> split <;> omega
    simp [numD, numP, cn, e]
  · have hk : kind = 3 := by simpa [kindB] using hb
    subst hk
    rw [dn_else f (y := ⟨3, n, u, b, s, type, fields⟩) (show (3 : Int) ≠ 7 by decide)]
    cases b <;> simp [numD, numP, cn]
  · have hk : kind = 2 ∧ u < 4294967296 := by simpa [kindB] using hb
    obtain ⟨rfl, _⟩ := hk
    rw [dn_else f (y := ⟨2, n, u, b, s, type, fields⟩) (show (2 : Int) ≠ 7 by decide)]
    simp [numD, numP, cn]
  · have hk : kind = 2 := by simpa [kindB] using hb
    subst hk
    rw [dn_else f (y := ⟨2, n, u, b, s, type, fields⟩) (show (2 : Int) ≠ 7 by decide)]
    simp [numD, numP, cn]
  · have hk : kind = 6 := by simpa [kindB] using hb
    subst hk
    rw [dn_else f (y := ⟨6, n, u, b, s, type, fields⟩) (show (6 : Int) ≠ 7 by decide)]
    have e : IntKind.i32.wrap (IntKind.u64.wrap (IntKind.i32.wrap n)) = IntKind.i32.wrap n := by
      simp only [IntKind.wrap_i32, IntKind.wrap_u64]; omega
    simp [numD, numP, cn, e]
/-- what stands at the beginning of packed numbers -/
theorem take_num {k n : Int} (hn : OkP n) (h7 : k = 7 → n < 4294967296) (t : List Int) : takeN k (nbytes k n ++ t) = (n, ((nbytes k n).length : Int), 0) := by
  obtain ⟨g1, g2⟩ := hn
  by_cases k7 : k = 7
  · have hl := lob_length (n % 4294967296) 4
    have hv := low_lob (n % 4294967296) 4
    have en : nbytes k n = lob (n % 4294967296) 4 := by unfold nbytes; rw [if_pos k7]
    have h8 := h7 k7
    rw [en, hl]
    unfold takeN
    rw [if_pos k7, if_neg (by rw [List.length_append, hl]; omega), List.take_left' hl, hv]
    have e : n % 4294967296 % 2 ^ (8 * 4) = n := by
      have e2 : (2 : Int) ^ (8 * 4) = 4294967296 := by decide
      rw [e2]; omega
    rw [e]; rfl
  · by_cases k8 : k = 8
    · have hl := lob_length n 8
      have hv := low_lob n 8
      have en : nbytes k n = lob n 8 := by unfold nbytes; rw [if_neg k7, if_pos k8]
      rw [en, hl]
      unfold takeN
      rw [if_neg k7, if_pos k8, if_neg (by rw [List.length_append, hl]; omega), List.take_left' hl, hv]
      have e : n % 2 ^ (8 * 8) = n := by
        have e2 : (2 : Int) ^ (8 * 8) = 18446744073709551616 := by decide
        rw [e2]; omega
      rw [e]; rfl
    · have e : nbytes k n = vint n.toNat := by unfold nbytes; rw [if_neg k7, if_neg k8]
      rw [e]; exact takeN_front ⟨k7, k8⟩ ⟨g1, g2⟩ t
theorem nby_bs (k n : Int) : IsBs (nbytes k n) := by
  unfold nbytes
  repeat' split
  · exact lob_bytes _ _
  · exact lob_bytes _ _
  · exact vint_bytes _
theorem nby_pos {k n : Int} : 1 ≤ (nbytes k n).length := by
  unfold nbytes
  repeat' split
  · rw [lob_length]; omega
  · rw [lob_length]; omega
  · exact vint_pos _
theorem pack_bs (k : Int) (vs : List Nd) : IsBs (packL k vs) := fun z hz => by
  obtain ⟨u, hu, hz⟩ := List.mem_flatMap.1 hz
  exact nby_bs _ _ z hz
theorem unpack_pack {k : Int} : ∀ vs : List Nd, (∀ y ∈ vs, OkP (numP k y) ∧ (k = 7 → numP k y < 4294967296)) → unpack k (packL k vs) = some (vs.map fun y => numD k (numP k y))
  | [], _ => rfl
  | y :: t, h => by
    obtain ⟨g1, g2⟩ := h y List.mem_cons_self
    have h1 := take_num (k := k) g1 g2 (packL k t)
    have e : packL k (y :: t) = nbytes k (numP k y) ++ packL k t := by unfold packL; rw [List.flatMap_cons]
    have hp := nby_pos (k := k) (n := numP k y)
    have hne : nbytes k (numP k y) ++ packL k t ≠ [] := fun e0 => by
      have := congrArg List.length e0
      rw [List.length_append, List.length_nil] at this
      omega
    have hb := pack_bs k (y :: t)
    rw [e] at hb ⊢
    rw [unpack_on hb hne (by rw [h1]), h1]
    dsimp only
    rw [Int.toNat_natCast, List.drop_left, unpack_pack t fun g hg => h g (List.mem_cons_of_mem _ hg)]
    rfl
theorem exL_oks {α β : Type} {g : α → Except Int (List β)} {h : α → List β} : ∀ {l : List α}, (∀ x ∈ l, g x = .ok (h x)) → exL g l = .ok (l.flatMap h)
  | [], _ => rfl
  | x :: t, H => by
    rw [exL_cons, H x List.mem_cons_self, exL_oks fun y hy => H y (List.mem_cons_of_mem _ hy), List.flatMap_cons]; rfl
theorem u8s_ints : ∀ (s : List UInt8), u8s (ints s) = s
  | [] => rfl
  | b :: t => by
    have ih := u8s_ints t
    unfold u8s ints at ih ⊢
    rw [List.map_cons, List.map_cons, ih]
    simp
/-- what a value of a field is read as -/
theorem val_back {ms : List MD} {rec : Int → List Int → Except Int Nd} {msg : Nd → List Int} {rf : Int → Nd → Bool} {fd : FD} {y : Nd} (f : Nat) (hk : 1 ≤ fd.kind ∧ fd.kind ≤ 10) (hv : valP rf fd y = true) (hr : Rg1 y) (h7 : ∀ t y, rf t y = true → y.kind = 7) (hrec : fd.kind = 10 → rec fd.type (msg y) = .ok (dn f y)) : decV rec fd (singW (contB msg) fd y) = .ok [dn f y] := by
  unfold valP at hv
  unfold decV singW
  cases hn : isNum fd.kind with
  | true =>
    have h10 : fd.kind ≠ 10 := by intro e; rw [e] at hn; revert hn; decide
    rw [if_neg h10] at hv
    simp only [if_true]
    have hty : ¬ (if fd.kind = 7 then (5 : Int) else if fd.kind = 8 then 1 else 0) = 2 := by
      repeat' split
      all_goals omega
    rw [if_neg hty, num_back f hn hk.1 hk.2 hv hr]
  | false =>
    simp only [Bool.false_eq_true, if_false]
    by_cases h10 : fd.kind = 10
    · rw [if_pos h10] at hv
      have hy7 := h7 _ _ hv
      have e : contB msg y = msg y := by unfold contB; rw [if_neg (by omega), if_pos hy7]
      rw [if_pos h10, e, hrec h10]
    · rw [if_neg h10] at hv
      rw [if_neg h10]
      by_cases h5 : fd.kind = 5
      · rw [h5] at hv
        have hv : y.kind = 4 ∧ valB y.s = true := by simpa [kindB] using hv
        have e : contB msg y = ints y.s := by unfold contB; rw [if_pos (.inl hv.1)]
        rw [if_pos h5, e, u8s_ints, if_pos hv.2]
        rw [dn_else f (by omega)]
        unfold strD
        rw [u8s_ints]
        simp [cn, hv.1]
      · have h6 : fd.kind = 6 := by
          have hn : ¬ isNum fd.kind = true := by rw [hn]; simp
          unfold isNum at hn
          rw [decide_eq_true_eq] at hn
          omega
        rw [h6] at hv
        have hv : y.kind = 5 := by simpa [kindB] using hv
        have e : contB msg y = ints y.s := by unfold contB; rw [if_pos (.inr hv)]
        rw [if_neg h5, e]
        rw [dn_else f (by omega)]
        unfold strD
        rw [u8s_ints]
        simp [cn, hv]
/-- what a field's values are read as -/
theorem vals_back {rec : Int → List Int → Except Int Nd} {msg : Nd → List Int} {rf : Int → Nd → Bool} {fd : FD} {vs : List Nd} (f : Nat) (hk : 1 ≤ fd.kind ∧ fd.kind ≤ 10) (hv : ∀ y ∈ vs, valP rf fd y = true) (hr : ∀ y ∈ vs, Rg1 y) (h7 : ∀ t y, rf t y = true → y.kind = 7) (hn7 : ∀ y ∈ vs, fd.kind = 7 → numP 7 y < 4294967296) (hrec : ∀ y ∈ vs, fd.kind = 10 → rec fd.type (msg y) = .ok (dn f y)) :
    exL (decV rec fd) (wireL (contB msg) fd vs) = .ok (vs.map (dn f)) := by
  unfold wireL
  cases hp : fd.rep && isNum fd.kind with
  | true =>
    rw [if_pos rfl, exL_one]
    have hn : isNum fd.kind = true := by rw [Bool.and_eq_true] at hp; exact hp.2
    have h10 : fd.kind ≠ 10 := by intro e; rw [e] at hn; revert hn; decide
    unfold decV
    rw [if_pos hn, if_pos rfl]
    dsimp only
    rw [unpack_pack vs fun y hy => ⟨num_rg fd.kind (hr y hy), fun e => by rw [e]; exact hn7 y hy e⟩]
    dsimp only
    congr 1
    apply List.map_congr_left
    intro y hy
    have h1 := hv y hy
    unfold valP at h1
    rw [if_neg h10] at h1
    exact num_back f hn hk.1 hk.2 h1 (hr y hy)
  | false =>
    rw [if_neg (by simp)]
    have : ∀ x ∈ vs.map (singW (contB msg) fd), True := fun _ _ => trivial
    have h1 : ∀ (l : List Nd), (∀ y ∈ l, y ∈ vs) → exL (decV rec fd) (l.map (singW (contB msg) fd)) = .ok (l.map (dn f)) := by
      intro l
      induction l with
      | nil => intro _; rfl
      | cons y t ih =>
        intro hl
        have hy := hl y List.mem_cons_self
        rw [List.map_cons, exL_cons, val_back (ms := []) f hk (hv y hy) (hr y hy) h7 (hrec y hy), ih fun z hz => hl z (List.mem_cons_of_mem _ hz)]
        rfl
    exact h1 vs fun y hy => hy
/-- the values of the field of that number -/
def lookF : List (Int × List Nd) → Int → Option (List Nd)
  | [], _ => none
  | p :: t, n => if p.1 = n then some p.2 else lookF t n
theorem look_mem : ∀ {fl : List (Int × List Nd)} {n : Int} {vs : List Nd}, lookF fl n = some vs → (n, vs) ∈ fl
  | p :: t, n, vs, h => by
    unfold lookF at h
    split at h
    · rename_i hp
      have e : p.2 = vs := by injection h
      rw [← hp, ← e]; exact List.mem_cons_self
    · exact List.mem_cons_of_mem _ (look_mem h)
theorem rise_gt : ∀ {fl : List (Int × List Nd)} {a : Int}, RiseF a fl → ∀ q ∈ fl, a < q.1
  | p :: t, a, h, q, hq => by
    rcases List.mem_cons.1 hq with rfl | hq
    · exact h.1
    · have := rise_gt h.2 q hq; have := h.1; omega
theorem look_none {fl : List (Int × List Nd)} {n : Int} (h : ∀ q ∈ fl, n < q.1) : lookF fl n = none := by
  induction fl with
  | nil => rfl
  | cons p t ih =>
    unfold lookF
    rw [if_neg (by have := h p List.mem_cons_self; omega)]
    exact ih fun q hq => h q (List.mem_cons_of_mem _ hq)
theorem flat_congr {α β : Type} {l : List α} {g h : α → List β} (H : ∀ x ∈ l, g x = h x) : l.flatMap g = l.flatMap h := by
  induction l with
  | nil => rfl
  | cons x t ih => rw [List.flatMap_cons, List.flatMap_cons, H x List.mem_cons_self, ih fun y hy => H y (List.mem_cons_of_mem _ hy)]
theorem look_all {g : List Nd → List Nd} : ∀ {fs : List FD} {fl : List (Int × List Nd)} {a : Int}, RiseD fs → RiseF a fl → (∀ p ∈ fl, ∃ fd ∈ fs, fd.num = p.1) →
    (fs.flatMap fun fd => match lookF fl fd.num with
      | none => []
      | some vs => [(fd.num, g vs)]) = fl.map fun p => (p.1, g p.2)
  | [], fl, a, hr, hf, h => by
    cases fl with
    | nil => rfl
    | cons p t => obtain ⟨fd, hfd, _⟩ := h p List.mem_cons_self; cases hfd
  | fd :: t, [], a, hr, hf, h => by
    rw [List.map_nil, List.flatMap_eq_nil_iff]
    intro x hx; rfl
  | fd :: t, p :: fl, a, hr, hf, h => by
    have hrt : RiseD t := fun i j a b hij ha hb => hr (i + 1) (j + 1) a b (by omega) (by simpa using ha) (by simpa using hb)
    have hlt : ∀ x ∈ t, fd.num < x.num := fun x hx => by
      obtain ⟨j, hj⟩ := List.getElem?_of_mem hx
      exact hr 0 (j + 1) fd x (by omega) rfl (by simpa using hj)
    rw [List.flatMap_cons]
    by_cases hp : p.1 = fd.num
    · have e1 : lookF (p :: fl) fd.num = some p.2 := by unfold lookF; rw [if_pos hp]
      rw [e1]
      have ih := look_all (g := g) (fs := t) (fl := fl) (a := p.1) hrt hf.2 fun q hq => by
        obtain ⟨x, hx, hxn⟩ := h q (List.mem_cons_of_mem _ hq)
        have hq1 := rise_gt hf.2 q hq
        rcases List.mem_cons.1 hx with rfl | hx
        · omega
        · exact ⟨x, hx, hxn⟩
      rw [List.map_cons, ← ih, ← hp]
      show _ :: _ = _ :: _
      congr 1
      apply flat_congr
      intro x hx
      have e2 : lookF (p :: fl) x.num = lookF fl x.num := by
        conv => lhs; unfold lookF
        rw [if_neg (by have := hlt x hx; omega)]
      rw [e2]
    · have hgt : fd.num < p.1 := by
        obtain ⟨x, hx, hxn⟩ := h p List.mem_cons_self
        rcases List.mem_cons.1 hx with rfl | hx
        · exact absurd hxn.symm hp
        · have := hlt x hx; omega
      have e1 : lookF (p :: fl) fd.num = none := look_none fun q hq => by
        rcases List.mem_cons.1 hq with rfl | hq
        · exact hgt
        · have := rise_gt hf.2 q hq; omega
      rw [e1]
      have ih := look_all (g := g) (fs := t) (fl := p :: fl) (a := a) hrt hf fun q hq => by
        obtain ⟨x, hx, hxn⟩ := h q hq
        rcases List.mem_cons.1 hx with rfl | hx
        · exfalso
          rcases List.mem_cons.1 hq with rfl | hq
          · exact hp hxn.symm
          · have := rise_gt hf.2 q hq; omega
        · exact ⟨x, hx, hxn⟩
      rw [← ih]; rfl
/-- the fields of layer 2 that are of one number -/
theorem own_back {rec : Nd → List Int} {fs : List FD} {fd : FD} (hfd : firstF fs fd.num = some fd) : ∀ {fl : List (Int × List Nd)} {a : Int}, RiseF a fl → ownL fd (fl.flatMap (wiresF rec fs)) = match lookF fl fd.num with
    | none => []
    | some vs => wireL rec fd vs
  | [], a, h => rfl
  | p :: t, a, h => by
    have e : ownL fd ((p :: t).flatMap (wiresF rec fs)) = ownL fd (wiresF rec fs p) ++ ownL fd (t.flatMap (wiresF rec fs)) := by
      unfold ownL; rw [List.flatMap_cons, List.filter_append]
    rw [e]
    by_cases hp : p.1 = fd.num
    · have e1 : lookF (p :: t) fd.num = some p.2 := by unfold lookF; rw [if_pos hp]
      have e2 : wiresF rec fs p = wireL rec fd p.2 := by unfold wiresF; rw [hp, hfd]
      have e3 : ownL fd (t.flatMap (wiresF rec fs)) = [] := by
        unfold ownL
        rw [List.filter_eq_nil_iff]
        intro x hx hd
        obtain ⟨q, hq, hx⟩ := List.mem_flatMap.1 hx
        have h1 := wires_num rec fs q (x.num, x.ty) (List.mem_map.2 ⟨x, hx, rfl⟩)
        have h2 := rise_gt h.2 q hq
        have h3 : x.num = fd.num := of_decide_eq_true hd
        dsimp only at h1
        omega
      rw [e1, e2, e3, List.append_nil]
      show ownL fd (wireL rec fd p.2) = wireL rec fd p.2
      unfold ownL
      rw [List.filter_eq_self]
      intro x hx
      exact decide_eq_true (wire_num x hx)
    · have e1 : lookF (p :: t) fd.num = lookF t fd.num := by
        conv => lhs; unfold lookF
        rw [if_neg hp]
      have e2 : ownL fd (wiresF rec fs p) = [] := by
        unfold ownL
        rw [List.filter_eq_nil_iff]
        intro x hx hd
        have h1 := wires_num rec fs p (x.num, x.ty) (List.mem_map.2 ⟨x, hx, rfl⟩)
        have h3 : x.num = fd.num := of_decide_eq_true hd
        dsimp only at h1
        exact hp (h1.symm.trans h3)
      rw [e1, e2, List.nil_append]
      exact own_back hfd h.2
/-- a field whose bytes are read as its values -/
def FldBack (dec : Int → List Int → Except Int Nd) (rec : Nd → List Int) (h : Nd → Nd) (fs : List FD) (p : Int × List Nd) : Prop := ∃ fd, firstF fs p.1 = some fd ∧ p.2 ≠ [] ∧ (fd.rep = true ∨ p.2.length ≤ 1) ∧ exL (decV dec fd) (wireL rec fd p.2) = .ok (p.2.map h)
theorem exF_back {dec : Int → List Int → Except Int Nd} {rec : Nd → List Int} {h : Nd → Nd} {fs : List FD} (hr : RiseD fs) {fl : List (Int × List Nd)} {a : Int} (hf : RiseF a fl) (hfl : ∀ p ∈ fl, FldBack dec rec h fs p) :
    exL (decF dec (fl.flatMap (wiresF rec fs))) fs = .ok (fl.map fun p => (p.1, p.2.map h)) := by
  rw [← look_all (g := fun l => l.map h) hr hf fun p hp => by
    obtain ⟨fd, h1, _⟩ := hfl p hp
    exact ⟨fd, (firstF_some h1).1, (firstF_some h1).2⟩]
  refine exL_oks fun fd hm => ?_
  have hfd := firstF_rise hr hm
  have ho := own_back (rec := rec) hfd hf
  unfold decF toRead
  rw [ho]
  cases hl : lookF fl fd.num with
  | none =>
    dsimp only
    rw [if_pos (.inr (by simp))]
    rfl
  | some vs =>
    dsimp only
    obtain ⟨fd', h1, h2, h3, h4⟩ := hfl _ (look_mem hl)
    dsimp only at h1 h2 h3 h4
    have e : fd' = fd := Option.some.inj (h1.symm.trans hfd)
    subst e
    have hc : fd'.rep = true ∨ (wireL rec fd' vs).length < 2 := by
      rcases h3 with h3 | h3
      · exact .inl h3
      · refine .inr ?_
        unfold wireL
        split
        · simp
        · rw [List.length_map]; omega
    rw [if_pos hc]
    unfold decVs
    rw [h4]
    dsimp only
    rw [if_neg (by rw [List.length_map]; intro e0; exact h2 (List.length_eq_zero_iff.1 e0))]
theorem pc_okC {f : WF} (h : fmd f.num f.ty f.n f.d.length = true) (hn : OkP f.n) (hd : f.d.length ≤ 1000000000) (hb : IsBs f.d) : PieceOK (pcOf f) := by
  have hs := fmd_spec h
  have hpre : ∀ t, tf (f.bytes ++ t) = (pcOf f).1 := fun t => tf_front f.num f.ty f.n f.d t h hn.1 hn.2 (by omega)
  have hbs : IsBs f.bytes := fbytes_ok _ _ _ hb
  have h1 : 1 ≤ f.bytes.length := by
    unfold WF.bytes
    rw [fbytes_eq, List.length_append]
    have := vint_pos (8 * f.num + f.ty).toNat
    omega
  refine ⟨rfl, fun e => ?_, Int.toNat_natCast _, hbs, hpre, hn, fun h5 => ?_, hb, ?_⟩
  · have e' : f.bytes = [] := e
    rw [e'] at h1; simp at h1
  · have h5' : f.ty = 5 := h5
    show f.n < _
    omega
  · show f.d.length + 1 ≤ f.bytes.length
    unfold WF.bytes
    rw [fbytes_eq, List.length_append]
    have hv := vint_pos (8 * f.num + f.ty).toNat
    unfold frest
    rcases hs.2.2 with h2 | h2 | h2
    · rw [h2.2]; omega
    · rw [h2.2.1]; omega
    · rw [h2.1, if_neg (by decide), if_neg (by decide), if_neg (by decide), List.length_append]
      have := vint_pos (8 * f.num + 2).toNat
      omega
theorem wire_ty {rec : Nd → List Int} {fd : FD} {vs : List Nd} (hk : 1 ≤ fd.kind ∧ fd.kind ≤ 10) : ∀ x ∈ wireL rec fd vs, typeFits fd x.ty = true := by
  intro x hx
  unfold wireL at hx
  split at hx
  · rename_i hp
    have e : x = ⟨fd.num, 2, 0, packL fd.kind vs⟩ := by simpa using hx
    rw [Bool.and_eq_true] at hp
    rw [e]; unfold typeFits; rw [hp.1]; simp
  · obtain ⟨y, _, rfl⟩ := List.mem_map.1 hx
    unfold typeFits singW isNum ownT
    rcases (by omega : fd.kind = 1 ∨ fd.kind = 2 ∨ fd.kind = 3 ∨ fd.kind = 4 ∨ fd.kind = 5 ∨ fd.kind = 6 ∨ fd.kind = 7 ∨ fd.kind = 8 ∨ fd.kind = 9 ∨ fd.kind = 10) with e | e | e | e | e | e | e | e | e | e <;> rw [e] <;> simp
/-- what a message's bytes are read as -/
theorem dec_body {ms : List MD} {g : Nat} {t : Int} {fs : List FD} (hmd : fieldsOf ms t = fs) {W : List WF} {s : List UInt8} {T : List (TF × List Int)} (hsp : split (ints s) = some T) (hT : ∀ p ∈ T, isKn fs p = false) (hW : ∀ x ∈ W, PieceOK (pcOf x) ∧ isKn fs (pcOf x) = true) {out : List (Int × List Nd)} (hout : exL (decF (decM ms g) W) fs = .ok out) :
    decM ms (g + 1) t (W.flatMap WF.bytes ++ ints s) = .ok ⟨7, 0, 0, false, s, t, out⟩ := by
  have hTo := split_ok _ (Nat.le_refl _) (ints_ok s) hsp
  have hTf := split_flat _ _ hsp
  have hD := split_join (W.map pcOf ++ T) (fun p hp => by
    rcases List.mem_append.1 hp with hp | hp
    · obtain ⟨x, hx, rfl⟩ := List.mem_map.1 hp; exact (hW x hx).1
    · exact hTo p hp)
  have e1 : ((W.map pcOf ++ T).flatMap fun p => p.2) = W.flatMap WF.bytes ++ ints s := by
    rw [List.flatMap_append, List.flatMap_map, hTf]; rfl
  rw [e1] at hD
  have hk : knownL fs (W.map pcOf ++ T) = W := by
    unfold knownL
    have h1 : (W.map pcOf).filter (isKn fs) = W.map pcOf := by
      rw [List.filter_eq_self]
      intro p hp
      obtain ⟨x, hx, rfl⟩ := List.mem_map.1 hp
      exact (hW x hx).2
    have h2 : T.filter (isKn fs) = [] := by
      rw [List.filter_eq_nil_iff]
      intro p hp
      rw [hT p hp]; simp
    rw [List.filter_append, h1, h2, List.append_nil, List.map_map]
    exact List.map_id _
  have hu : unknL fs (W.map pcOf ++ T) = ints s := by
    unfold unknL
    have h1 : (W.map pcOf).filter (fun p => !isKn fs p) = [] := by
      rw [List.filter_eq_nil_iff]
      intro p hp
      obtain ⟨x, hx, rfl⟩ := List.mem_map.1 hp
      rw [(hW x hx).2]; simp
    have h2 : T.filter (fun p => !isKn fs p) = T := by
      rw [List.filter_eq_self]
      intro p hp
      rw [hT p hp]; rfl
    rw [List.filter_append, h1, h2, List.nil_append, hTf]
  rw [decM, hD]
  dsimp only
  rw [hmd, hk, hout, hu, u8s_ints]
theorem seven_rec {ms : List MD} {dep : Int} {f : Nat} : ∀ t y, recP ms dep f t y = true → y.kind = 7 := by
  intro t y h
  cases f with
  | zero => cases h
  | succ f =>
    have h' : fitP ms f (dep + 1) t y = true := h
    rw [fitP_eq, topP, Bool.and_eq_true, decide_eq_true_eq] at h'
    exact h'.1.1
theorem dec_encB {ms : List MD} (hK : KindOK ms) (hno : NumOK ms) : ∀ (f g : Nat) (dep t : Int) (y : Nd), dep + (g : Int) = 17 → 0 ≤ t → t < (ms.length : Int) → fitP ms f dep t y = true → DpN f y → RngG f y → bndN f y ≤ 1000000000 → decM ms g t (msgB ms f y) = .ok (dn f y) := by
  intro f
  induction f with
  | zero =>
    intro g dep t y hg h0 h1 h hd hr hb
    rw [fitP_eq, topP, Bool.and_eq_true, decide_eq_true_eq] at h
    obtain ⟨⟨h7, hty, hdep⟩, hbody⟩ := h
    obtain ⟨g, rfl⟩ : ∃ g', g = g' + 1 := ⟨g - 1, by omega⟩
    obtain ⟨md, hmd⟩ : ∃ md, ms[t.toNat]? = some md := ⟨_, List.getElem?_eq_getElem (by omega)⟩
    obtain ⟨hri, _, _⟩ := hK md (List.mem_of_getElem? hmd)
    have hfo : fieldsOf ms t = md.fields := by unfold fieldsOf; rw [hmd]
    rw [hmd] at hbody
    simp only at hbody
    unfold bodyP noneOf at hbody
    rw [Bool.and_eq_true] at hbody
    have hun := hbody.2
    cases hsp : split (ints y.s) with
    | none => rw [hsp] at hun; cases hun
    | some T =>
      rw [hsp] at hun
      have hx := dec_body (ms := ms) (g := g) (t := t) hfo (W := []) (s := y.s) hsp (fun p hp => by
        obtain ⟨i, hi⟩ := List.getElem?_of_mem hp
        have := allA_iff.1 hun i p hi
        unfold isKn; simpa using this) (fun x hx => by cases hx) (out := []) (exF_back (rec := fun _ => []) (h := id) hri (fl := []) (a := 0) trivial fun p hp => by cases hp)
      have e : dn 0 y = ⟨7, 0, 0, false, y.s, t, []⟩ := by
        obtain ⟨c1, c2, c3, c4, c5, c6⟩ := cn_msg h7
        unfold dn; rw [c1, c2, c3, c4, c5, c6, hty]
      rw [e]
      exact hx
  | succ f ih =>
    intro g dep t y hg h0 h1 h hd hr hb
    have hen := encG_of hno (f + 1) dep t y h0 h1 h
    have hml := msg_len (f + 1) y hen hr (by omega)
    rw [fitP_eq, topP, Bool.and_eq_true, decide_eq_true_eq] at h
    obtain ⟨⟨h7, hty, hdep⟩, hbody⟩ := h
    obtain ⟨g, rfl⟩ : ∃ g', g = g' + 1 := ⟨g - 1, by omega⟩
    obtain ⟨md, hmd⟩ : ∃ md, ms[t.toNat]? = some md := ⟨_, List.getElem?_eq_getElem (by omega)⟩
    obtain ⟨hri, hn1, hkk⟩ := hK md (List.mem_of_getElem? hmd)
    have hfo : fieldsOf ms t = md.fields := by unfold fieldsOf; rw [hmd]
    have hfo2 : fieldsOf ms y.type = md.fields := by rw [hty]; exact hfo
    rw [hmd] at hbody
    simp only at hbody
    unfold bodyP noneOf at hbody
    rw [Bool.and_eq_true] at hbody
    obtain ⟨hall, hun⟩ := hbody
    cases hsp : split (ints y.s) with
    | none => rw [hsp] at hun; cases hun
    | some T =>
      rw [hsp] at hun
      have hrise : RiseF 0 y.fields := rise_iff.2 fun k q hq => by
        have h2 := allA_iff.1 hall k q hq
        rw [Bool.and_eq_true] at h2
        rw [← prev_eq]
        exact of_decide_eq_true h2.1
      have hm : msgB ms (f + 1) y = (y.fields.flatMap (wiresF (contB (msgB ms f)) md.fields)).flatMap WF.bytes ++ ints y.s := by
        unfold msgB
        rw [hfo2, ← flatMap_two]
        congr 2
        funext p
        exact fldB_wires _ _ p
      have hlen : ((y.fields.flatMap (wiresF (contB (msgB ms f)) md.fields)).flatMap WF.bytes).length ≤ 1000000000 := by
        rw [hm, List.length_append] at hml
        omega
      have hW : ∀ q ∈ y.fields.flatMap (wiresF (contB (msgB ms f)) md.fields), PieceOK (pcOf q) ∧ isKn md.fields (pcOf q) = true := fun q hq => by
        have hq2 : q.bytes.length ≤ 1000000000 := by
          refine Nat.le_trans ?_ hlen
          rw [flatLen]
          exact sumL_mem (g := fun a : WF => a.bytes.length) hq
        obtain ⟨p, hp, hq⟩ := List.mem_flatMap.1 hq
        obtain ⟨fd, hfd, ⟨hm1, hm2⟩, hgk⟩ := hen.2 p hp
        rw [hfo2] at hfd
        unfold wiresF at hq
        rw [hfd] at hq
        obtain ⟨a1, a2, a3, a4⟩ := wire_fmd hm1 hm2 (fun y hy => (hr.2 p hp y hy).one) (fun y hy => (hgk y hy).1) q hq
        refine ⟨pc_okC a1 ⟨a2, a3⟩ (by omega) (wire_ok (fun y hy => contB_ok ms f y) q hq), ?_⟩
        exact knownP_iff.2 ⟨fd, (firstF_some hfd).1, (wire_num q hq).symm, wire_ty (hkk fd (firstF_some hfd).1).1 q hq⟩
      have hbk : ∀ p ∈ y.fields, FldBack (decM ms g) (contB (msgB ms f)) (dn f) md.fields p := fun p hp => by
        obtain ⟨fd, hfd, _, hgk⟩ := hen.2 p hp
        rw [hfo2] at hfd
        obtain ⟨j, hj⟩ := List.getElem?_of_mem hp
        have h2 := allA_iff.1 hall j p hj
        rw [Bool.and_eq_true] at h2
        have h3 := h2.2
        unfold fldP at h3
        rw [hfd] at h3
        simp only [Bool.and_eq_true] at h3
        obtain ⟨h4, h5, h6⟩ := h3
        have hkd := hkk fd (firstF_some hfd).1
        have hvv : ∀ z ∈ p.2, valP (recP ms dep (f + 1)) fd z = true := fun z hz => by
          obtain ⟨i, hi⟩ := List.getElem?_of_mem hz
          exact allA_iff.1 h6 i z hi
        refine ⟨fd, hfd, ?_, ?_, ?_⟩
        · intro e; rw [e] at h4; simp at h4
        · cases hrep : fd.rep with
          | true => exact .inl rfl
          | false => rw [hrep] at h5; exact .inr (by simpa using h5)
        · refine vals_back f hkd.1 hvv (fun z hz => (hr.2 p hp z hz).one) (fun t y hy => seven_rec t y hy) (fun z hz => (hgk z hz).1) fun z hz h10 => ?_
          have h8 := hvv z hz
          unfold valP at h8
          rw [if_pos h10] at h8
          have hq1 : 30 + sumL (fun y => bndN f y + 30) p.2 ≤ sumL (fun p : Int × List Nd => 30 + sumL (fun y => bndN f y + 30) p.2) y.fields := sumL_mem (g := fun p : Int × List Nd => 30 + sumL (fun y => bndN f y + 30) p.2) hp
          have hq2 : bndN f z + 30 ≤ sumL (fun y => bndN f y + 30) p.2 := sumL_mem (g := fun y => bndN f y + 30) hz
          have hb' := hb
          unfold bndN at hb'
          exact ih g (dep + 1) fd.type z (by omega) (hkd.2 h10).1 (hkd.2 h10).2 h8 (hd p hp z hz) (hr.2 p hp z hz) (by omega)
      have hx := dec_body (ms := ms) (g := g) (t := t) hfo (s := y.s) hsp (fun p hp => by
        obtain ⟨i, hi⟩ := List.getElem?_of_mem hp
        have := allA_iff.1 hun i p hi
        unfold isKn; simpa using this) hW (exF_back hri hrise hbk)
      rw [hm, dn_msg f h7, hty]
      exact hx
end Go.Proofs.YtnopnjklcdcckaaGreatDoor
