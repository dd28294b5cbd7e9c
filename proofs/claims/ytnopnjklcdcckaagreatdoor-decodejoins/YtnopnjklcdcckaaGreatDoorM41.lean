/-
  What is decoded fits, is normal, and is encoded and decoded as itself: the arithmetic. Nothing is proved of the program here.
-/
import Derived.Test.YtnopnjklcdcckaaGreatDoorM40
namespace Go.Proofs.YtnopnjklcdcckaaGreatDoor
set_option linter.unusedVariables false

theorem sumL_parts {α : Type} (g : α → Nat) (p : α → Bool) (l : List α) : sumL g (l.filter p) + sumL g (l.filter fun x => !p x) = sumL g l := by
  induction l with
  | nil => rfl
  | cons a t ih =>
    cases hp : p a with
    | true =>
      rw [List.filter_cons_of_pos hp, List.filter_cons_of_neg (by rw [hp]; simp)]
      show g a + sumL g _ + sumL g _ = g a + sumL g t
      omega
    | false =>
      rw [List.filter_cons_of_neg (by rw [hp]; simp), List.filter_cons_of_pos (by rw [hp]; rfl)]
      show sumL g _ + (g a + sumL g _) = g a + sumL g t
      omega
theorem exL_sum {α β : Type} {g : α → Except Int (List β)} {cost : β → Nat} {c : α → Nat} : ∀ {l : List α} {a : List β}, (∀ x ∈ l, ∀ b, g x = .ok b → sumL cost b ≤ c x) → exL g l = .ok a → sumL cost a ≤ sumL c l
  | [], a, h, e => by
    have : a = [] := by injection e with e; exact e.symm
    rw [this]; exact Nat.zero_le _
  | x :: t, a, h, e => by
    rw [exL_cons] at e
    cases hg : g x with
    | error er => rw [hg] at e; cases e
    | ok b =>
      cases ht : exL g t with
      | error er => rw [hg, ht] at e; cases e
      | ok m =>
        rw [hg, ht] at e
        have ha : a = b ++ m := by injection e with e; exact e.symm
        have h1 := h x List.mem_cons_self b hg
        have h2 := exL_sum (c := c) (fun y hy => h y (List.mem_cons_of_mem _ hy)) ht
        rw [ha, sumL_append]
        show _ ≤ c x + sumL c t
        omega
/-- each field of layer 2 is of one field of the message at the most -/
theorem one_own (n : Int) (k : Nat) : ∀ {fs : List FD}, RiseD fs → sumL (fun fd : FD => if n = fd.num then k else 0) fs ≤ k
  | [], _ => Nat.zero_le _
  | fd :: t, hr => by
    have hrt : RiseD t := fun i j a b hij ha hb => hr (i + 1) (j + 1) a b (by omega) (by simpa using ha) (by simpa using hb)
    have ih := one_own n k hrt
    show (if n = fd.num then k else 0) + sumL _ t ≤ k
    split
    · rename_i h
      have h0 : sumL (fun fd : FD => if n = fd.num then k else 0) t = sumL (fun _ => 0 * 1) t := by
        have a1 : sumL (fun fd : FD => if n = fd.num then k else 0) t ≤ sumL (fun _ => 0 * 1) t := sumL_le fun x hx => by
          obtain ⟨j, hj⟩ := List.getElem?_of_mem hx
          have := hr 0 (j + 1) fd x (by omega) rfl (by simpa using hj)
          rw [if_neg (by omega)]; exact Nat.zero_le _
        have a2 : sumL (fun _ : FD => 0 * 1) t = 0 := by rw [sumL_mul (fun _ => 1) 0 t]; omega
        omega
      have a2 : sumL (fun _ : FD => 0 * 1) t = 0 := by rw [sumL_mul (fun _ => 1) 0 t]; omega
      omega
    · omega
theorem own_all (g : WF → Nat) {fs : List FD} (hr : RiseD fs) : ∀ l : List WF, sumL (fun fd => sumL g (ownL fd l)) fs ≤ sumL g l
  | [] => by
    have a2 : sumL (fun _ : FD => 0 * 1) fs = 0 := by rw [sumL_mul (fun _ => 1) 0 fs]; omega
    have a1 : sumL (fun fd => sumL g (ownL fd [])) fs ≤ sumL (fun _ : FD => 0 * 1) fs := sumL_le fun x _ => Nat.le_refl _
    omega
  | x :: t => by
    have ih := own_all g hr t
    have h1 := one_own x.num (g x) hr
    have h2 : sumL (fun fd => sumL g (ownL fd (x :: t))) fs ≤ sumL (fun fd => (if x.num = fd.num then g x else 0) + sumL g (ownL fd t)) fs := sumL_le fun fd _ => by
      unfold ownL
      by_cases hx : x.num = fd.num
      · rw [List.filter_cons_of_pos (by simp [hx]), if_pos hx]; exact Nat.le_refl _
      · rw [List.filter_cons_of_neg (by simp [hx]), if_neg hx]; omega
    have h3 : ∀ (fs : List FD), sumL (fun fd => (if x.num = fd.num then g x else 0) + sumL g (ownL fd t)) fs = sumL (fun fd => if x.num = fd.num then g x else 0) fs + sumL (fun fd => sumL g (ownL fd t)) fs := by
      intro fs
      induction fs with
      | nil => rfl
      | cons a r ih =>
        simp only [sumL, ih]; omega
    rw [h3] at h2
    show _ ≤ g x + sumL g t
    omega
theorem read_own {fd : FD} {l : List WF} : sumL (fun x : WF => x.d.length + 1) (toRead fd l) ≤ sumL (fun x : WF => x.d.length + 1) (ownL fd l) := by
  have e : ownL fd (ownL fd l) = ownL fd l := by unfold ownL; rw [List.filter_filter]; simp
  have e2 : toRead fd (ownL fd l) = toRead fd l := by unfold toRead; rw [e]
  have := read_sum (fd := fd) (l := ownL fd l)
  rw [e2] at this
  exact this
theorem bnd_leaf {f : Nat} {y : Nd} (h : y.fields = []) : bndN f y = y.s.length := by
  cases f with
  | zero => rfl
  | succ f => unfold bndN; rw [h]; rfl
theorem numOf_leaf {k : Int} {y : Nd} (h : NumOf k y) : y.fields = [] ∧ y.s = [] := by
  obtain ⟨n, rfl, _⟩ := h
  exact numD_leaf k n
theorem sumL_same {α : Type} (g : α → Nat) (c : Nat) : ∀ {l : List α}, (∀ x ∈ l, g x ≤ c) → sumL g l ≤ c * l.length
  | [], _ => Nat.zero_le _
  | x :: t, h => by
    have h1 := h x List.mem_cons_self
    have h2 := sumL_same g c fun y hy => h y (List.mem_cons_of_mem _ hy)
    show g x + sumL g t ≤ c * (t.length + 1)
    rw [Nat.mul_add]; omega
theorem decV_bnd {rec : Int → List Int → Except Int Nd} {f : Nat} {fd : FD} {x : WF} (hx : ReadOK fd x) (hrec : fd.kind = 10 → ∀ y, rec fd.type x.d = .ok y → bndN f y ≤ 60 * x.d.length) {l : List Nd} (h : decV rec fd x = .ok l) : sumL (fun y => bndN f y + 30) l ≤ 60 * x.d.length + 30 := by
  unfold decV at h
  split at h
  · split at h
    · cases hu : unpack fd.kind x.d with
      | none => rw [hu] at h; cases h
      | some l' =>
        rw [hu] at h
        have hl : l = l' := by injection h with h; exact h.symm
        subst hl
        have h1 := unpack_len _ (Nat.le_refl _) hx.db hu
        have h2 := sumL_same (fun y => bndN f y + 30) 30 (l := l) fun y hy => by
          have h3 := numOf_leaf (unpack_of _ (Nat.le_refl _) hx.db hu y hy)
          rw [bnd_leaf h3.1, h3.2]; simp
        omega
    · have hl : l = [numD fd.kind x.n] := by injection h with h; exact h.symm
      subst hl
      have h3 := numD_leaf fd.kind x.n
      show bndN f _ + 30 + 0 ≤ _
      rw [bnd_leaf h3.1, h3.2]; simp
  · split at h
    · rename_i h10
      cases hr : rec fd.type x.d with
      | error e => rw [hr] at h; cases h
      | ok y =>
        rw [hr] at h
        have hl : l = [y] := by injection h with h; exact h.symm
        subst hl
        have := hrec h10 y hr
        show bndN f y + 30 + 0 ≤ _
        omega
    · split at h
      · split at h
        · have hl : l = [strD 4 x.d] := by injection h with h; exact h.symm
          subst hl
          show bndN f (strD 4 x.d) + 30 + 0 ≤ _
          rw [bnd_leaf (show (strD 4 x.d).fields = [] from rfl)]
          show (u8s x.d).length + 30 + 0 ≤ _
          rw [u8s_len]; omega
        · cases h
      · have hl : l = [strD 5 x.d] := by injection h with h; exact h.symm
        subst hl
        show bndN f (strD 5 x.d) + 30 + 0 ≤ _
        rw [bnd_leaf (show (strD 5 x.d).fields = [] from rfl)]
        show (u8s x.d).length + 30 + 0 ≤ _
        rw [u8s_len]; omega
theorem sum_sixty : ∀ (l : List WF), l ≠ [] → 30 + sumL (fun x : WF => 60 * x.d.length + 30) l ≤ 60 * sumL (fun x : WF => x.d.length + 1) l
  | [], h => absurd rfl h
  | [x], _ => by show 30 + (60 * x.d.length + 30 + 0) ≤ 60 * (x.d.length + 1 + 0); omega
  | x :: y :: t, _ => by
    have ih := sum_sixty (y :: t) (by simp)
    show 30 + (60 * x.d.length + 30 + sumL _ (y :: t)) ≤ 60 * (x.d.length + 1 + sumL _ (y :: t))
    omega
theorem decM_bnd {ms : List MD} (hK : KindOK ms) : ∀ (f : Nat) (t : Int) (zs : List Int) (x : Nd), 0 ≤ t → t < (ms.length : Int) → IsBs zs → decM ms f t zs = .ok x → bndN f x ≤ 60 * zs.length ∧ DpN f x
  | 0, t, zs, x, h0, h1, hb, h => by cases h
  | f + 1, t, zs, x, h0, h1, hb, h => by
    obtain ⟨md, hmd⟩ : ∃ md, ms[t.toNat]? = some md := ⟨_, List.getElem?_eq_getElem (by omega)⟩
    obtain ⟨hr, hn1, hk⟩ := hK md (List.mem_of_getElem? hmd)
    have hfs : fieldsOf ms t = md.fields := by unfold fieldsOf; rw [hmd]
    unfold decM at h
    rw [hfs] at h
    cases hs : split zs with
    | none => rw [hs] at h; cases h
    | some D =>
      rw [hs] at h
      dsimp only at h
      cases hL : exL (decF (decM ms f) (knownL md.fields D)) md.fields with
      | error e => rw [hL] at h; cases h
      | ok fl =>
        rw [hL] at h
        have hx : x = ⟨7, 0, 0, false, u8s (unknL md.fields D), t, fl⟩ := by injection h with h; exact h.symm
        have hP := split_ok _ (Nat.le_refl _) hb hs
        have hF := split_flat zs D hs
        have hrec : ∀ fd ∈ md.fields, ∀ y ∈ toRead fd (knownL md.fields D), fd.kind = 10 → ∀ z, decM ms f fd.type y.d = .ok z → bndN f z ≤ 60 * y.d.length ∧ DpN f z := fun fd hfd y hy h10 z hz => by
          have hty := (hk fd hfd).2 h10
          exact decM_bnd hK f fd.type y.d z hty.1 hty.2 (read_ok hr hfd hP y hy).db hz
        have hsum : sumL (fun p : Int × List Nd => 30 + sumL (fun y => bndN f y + 30) p.2) fl ≤ sumL (fun fd => 60 * sumL (fun x : WF => x.d.length + 1) (ownL fd (knownL md.fields D))) md.fields := exL_sum (fun fd hfd b hb => by
          obtain ⟨l, hv, rfl⟩ := decF_one hb
          split
          · exact Nat.zero_le _
          · rename_i hl0
            show 30 + sumL (fun y => bndN f y + 30) l + 0 ≤ _
            have hne : toRead fd (knownL md.fields D) ≠ [] := fun e => by
              rw [e] at hv
              have : l = [] := by injection hv with hv; exact hv.symm
              rw [this] at hl0; exact hl0 rfl
            have h2 : sumL (fun y => bndN f y + 30) l ≤ sumL (fun x : WF => 60 * x.d.length + 30) (toRead fd (knownL md.fields D)) := exL_sum (fun y hy b hb => decV_bnd (read_ok hr hfd hP y hy) (fun h10 z hz => (hrec fd hfd y hy h10 z hz).1) hb) hv
            have h3 := sum_sixty _ hne
            have h4 := read_own (fd := fd) (l := knownL md.fields D)
            omega) hL
        rw [sumL_mul] at hsum
        have hown := own_all (fun x : WF => x.d.length + 1) hr (knownL md.fields D)
        have hkn : sumL (fun x : WF => x.d.length + 1) (knownL md.fields D) + (unknL md.fields D).length ≤ zs.length := by
          have e1 : (unknL md.fields D).length = sumL (fun p => p.2.length) (D.filter fun p => !isKn md.fields p) := flatLen _ _
          have e2 : zs.length = sumL (fun p => p.2.length) D := by rw [← hF]; exact flatLen _ _
          have e3 := sumL_parts (fun p : TF × List Int => p.2.length) (isKn md.fields) D
          have e4 : sumL (fun x : WF => x.d.length + 1) (knownL md.fields D) ≤ sumL (fun p => p.2.length) (D.filter (isKn md.fields)) := by
            unfold knownL
            rw [sumL_map]
            exact sumL_le fun p hp => (hP p (List.mem_filter.1 hp).1).dl
          omega
        rw [hx]
        refine ⟨?_, fun p hp y hy => ?_⟩
        · unfold bndN
          dsimp only
          rw [u8s_len]
          omega
        · obtain ⟨fd, b, hfd, hg, hpb⟩ := exL_mem hL hp
          obtain ⟨l, hv, rfl⟩ := decF_one hg
          split at hpb
          · cases hpb
          · have hpe : p = (fd.num, l) := List.mem_singleton.1 hpb
            rw [hpe] at hy
            obtain ⟨q, b2, hq, hg2, hyb⟩ := exL_mem hv hy
            have hlf : ∀ z : Nd, z.fields = [] → DpN f z := fun z hz => by
              cases f with
              | zero => exact hz
              | succ f => exact fun p hp => by rw [hz] at hp; cases hp
            unfold decV at hg2
            split at hg2
            · split at hg2
              · cases hu : unpack fd.kind q.d with
                | none => rw [hu] at hg2; cases hg2
                | some l' =>
                  rw [hu] at hg2
                  have hl : b2 = l' := by injection hg2 with h; exact h.symm
                  subst hl
                  exact hlf y (numOf_leaf (unpack_of _ (Nat.le_refl _) (read_ok hr hfd hP q hq).db hu y hyb)).1
              · have hl : b2 = [numD fd.kind q.n] := by injection hg2 with h; exact h.symm
                subst hl
                rw [List.mem_singleton.1 hyb]
                exact hlf _ (numD_leaf fd.kind q.n).1
            · split at hg2
              · rename_i h10
                cases hr2 : decM ms f fd.type q.d with
                | error e => rw [hr2] at hg2; cases hg2
                | ok z =>
                  rw [hr2] at hg2
                  have hl : b2 = [z] := by injection hg2 with h; exact h.symm
                  subst hl
                  rw [List.mem_singleton.1 hyb]
                  exact (hrec fd hfd q hq h10 z hr2).2
              · split at hg2
                · split at hg2
                  · have hl : b2 = [strD 4 q.d] := by injection hg2 with h; exact h.symm
                    subst hl
                    rw [List.mem_singleton.1 hyb]
                    exact hlf _ rfl
                  · cases hg2
                · have hl : b2 = [strD 5 q.d] := by injection hg2 with h; exact h.symm
                  subst hl
                  rw [List.mem_singleton.1 hyb]
                  exact hlf _ rfl
/-- what is decoded: all that the law needs of it -/
structure DecY (s : SC) (t : Int) (y : Nd) : Prop where
  fit : FitX s 16 t y
  norm : normN s.ms 16 y = y
  fitG : FitG 100000 10000 16 y
  rng : RngG 16 y
  bnd : bndN 16 y ≤ 1000000000
  kt : KindT 16 1 y
  seven : y.kind = 7
  dp : DpN 16 y
theorem decY_of {s : SC} (hf : FitS s) {t : Int} {zs : List Int} {z : Nd} (hg : GoodM s t) (hb : IsBs zs) (hl : zs.length ≤ 4096) (h : decM s.ms 16 t zs = .ok z) : DecY s t (normN s.ms 16 z) := by
  have hK := kindOK_of hf hg.1
  have hno := numOK_of hf hg.1
  have hsm := decM_small hK (fun m hm => by have := fieldsLen_of hg.1 m hm; omega) 16 t zs z hg.2.1 hg.2.2 hb (by omega) h
  have hfi := decM_fit hK 16 1 t zs z (by decide) hg.2.1 hg.2.2 hb h
  have hbd := decM_bnd hK 16 t zs z hg.2.1 hg.2.2 hb h
  have hft := norm_fit hno 16 1 t z hg.2.1 hg.2.2 hfi
  refine ⟨⟨hg.1, hg.2.1, hg.2.2, hft⟩, norm_norm s.ms 16 z, norm_fitG s.ms 16 z hsm.1, norm_rng s.ms 16 z hsm.2, ?_, kindT_of 16 1 t _ hft, ?_, dp_norm s.ms 16 z hbd.2⟩
  · have := norm_bnd s.ms 16 z
    have := hbd.1
    omega
  · rw [fitP_eq, topP, Bool.and_eq_true, decide_eq_true_eq] at hft
    exact hft.1.1
end Go.Proofs.YtnopnjklcdcckaaGreatDoor
