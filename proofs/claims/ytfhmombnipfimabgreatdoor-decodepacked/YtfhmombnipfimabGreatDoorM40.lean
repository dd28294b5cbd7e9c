/-
  Numbers packed, in parts and alone: the arithmetic. Nothing is proved of the program here.
-/
import Derived.Test.YtfhmombnipfimabGreatDoorM38
import Derived.Test.YtfhmombnipfimabGreatDoorM39
namespace Go.Proofs.YtfhmombnipfimabGreatDoor
set_option linter.unusedVariables false

def fdP (K : Int) : FD := ⟨4, [108], K, true, 0⟩
def scP (K : Int) : SC := ⟨[⟨[65], [fdP K]⟩], [], []⟩
def K4 (K : Int) : Prop := K = 1 ∨ K = 2 ∨ K = 3 ∨ K = 4
theorem no_goes {K : Int} (h : K4 K) : ∀ x y, ¬ Goes (scP K).ms x y := by
  intro x y hg
  unfold Goes at hg
  obtain ⟨m, hm, f, hf, hk, _⟩ := hg
  have hx : x = 0 := by
    have := (List.getElem?_eq_some_iff.1 hm).1
    simp [scP] at this; omega
  subst hx
  have e : m = ⟨[65], [fdP K]⟩ := by simpa [scP] using hm.symm
  subst e
  have e2 : f = fdP K := by simpa using hf
  subst e2
  have hk' : K = 10 := hk
  unfold K4 at h
  omega
theorem form4 {K : Int} (h : K4 K) : FormS (scP K) := by
  have hn := no_goes h
  refine ⟨?_, fun i hi hr => ?_⟩
  · rcases h with rfl | rfl | rfl | rfl <;> decide +kernel
  · unfold Ring at hr
    cases hr with
    | single h => exact hn _ _ h
    | tail _ h => exact hn _ _ h
theorem fitS4 {K : Int} (h : K4 K) : FitS (scP K) := fitS_ofC ⟨by simp [scP], (fun m hm => by
    have e : m = ⟨[65], [fdP K]⟩ := by simpa [scP] using hm
    subst e
    exact ⟨by simp, by simp, fun f hf => by
      have e : f = fdP K := by simpa using hf
      subst e
      rcases h with rfl | rfl | rfl | rfl <;> decide⟩), (fun m hm => by cases hm), (fun m hm => by cases hm)⟩
theorem noText4 {K : Int} (h : K4 K) : ¬ TextIn (scP K).ms := by
  rintro ⟨m, hm, x, hx, h5⟩
  have e : m = ⟨[65], [fdP K]⟩ := by simpa [scP] using hm
  subst e
  have e : x = fdP K := by simpa using hx
  subst e
  have h5' : K = 5 := h5
  unfold K4 at h
  omega
def OkP (u : Int) : Prop := 0 ≤ u ∧ u ≤ 18446744073709551615
def vints (us : List Int) : List Int := us.flatMap fun u => vint u.toNat
theorem vints_app (a b : List Int) : vints (a ++ b) = vints a ++ vints b := List.flatMap_append
theorem vints_one (u : Int) : vints [u] = vint u.toNat := by unfold vints; simp
theorem vints_bs (us : List Int) : IsBs (vints us) := fun z hz => by
  obtain ⟨u, hu, hz⟩ := List.mem_flatMap.1 hz
  exact vint_bytes _ z hz
theorem vints_len {us : List Int} (h : ∀ u ∈ us, OkP u) : (vints us).length ≤ us.length * 10 := by
  induction us with
  | nil => simp [vints]
  | cons u t ih =>
    have h1 := vint_le u (h u List.mem_cons_self).2
    have h2 := ih fun g hg => h g (List.mem_cons_of_mem _ hg)
    unfold vints at h2 ⊢
    rw [List.flatMap_cons, List.length_append, List.length_cons, Nat.add_mul]
    omega
theorem takeN_front {k u : Int} (hk : k ≠ 7 ∧ k ≠ 8) (hu : OkP u) (t : List Int) : takeN k (vint u.toNat ++ t) = (u, ((vint u.toNat).length : Int), 0) := by
  unfold takeN
  rw [if_neg hk.1, if_neg hk.2, dec_front u.toNat t (by have := hu.2; omega), Int.toNat_of_nonneg hu.1]
theorem unpack_vints {k : Int} (hk : k ≠ 7 ∧ k ≠ 8) : ∀ us : List Int, (∀ u ∈ us, OkP u) → unpack k (vints us) = some (us.map (numD k))
  | [], _ => rfl
  | u :: t, h => by
    have h1 := takeN_front hk (h u List.mem_cons_self) (vints t)
    have e : vints (u :: t) = vint u.toNat ++ vints t := by unfold vints; rw [List.flatMap_cons]
    have hp := vint_pos u.toNat
    have hne : vint u.toNat ++ vints t ≠ [] := fun e0 => by
      have := congrArg List.length e0
      rw [List.length_append, List.length_nil] at this
      omega
    have hb := vints_bs (u :: t)
    rw [e] at hb ⊢
    rw [unpack_on hb hne (by rw [h1]), h1]
    dsimp only
    rw [Int.toNat_natCast, List.drop_left, unpack_vints hk t fun g hg => h g (List.mem_cons_of_mem _ hg)]
    rfl
theorem pc_okB {f : WF} (h : fmd f.num f.ty f.n f.d.length = true) (hn : OkP f.n) (hd : f.d.length ≤ 100000) (hb : IsBs f.d) : PieceOK (pcOf f) := by
  have hs := fmd_spec h
  have hpre : ∀ t, tf (f.bytes ++ t) = (pcOf f).1 := fun t => tf_front f.num f.ty f.n f.d t h hn.1 hn.2 (by omega)
  have hbs : IsBs f.bytes := fbytes_ok _ _ _ hb
  have h1 : 1 ≤ f.bytes.length := by
    unfold WF.bytes
    rw [fbytes_eq, List.length_append]
    have := vint_pos (8 * f.num + f.ty).toNat
    omega
  refine ⟨rfl, fun e => ?_, Int.toNat_natCast _, hbs, hpre, hn, fun h5 => ?_, hb, ?_⟩
  · have e' : f.bytes = [] := e
    rw [e'] at h1; simp at h1
  · have h5' : f.ty = 5 := h5
    show f.n < _
    omega
  · show f.d.length + 1 ≤ f.bytes.length
    unfold WF.bytes
    rw [fbytes_eq, List.length_append]
    have hv := vint_pos (8 * f.num + f.ty).toNat
    unfold frest
    rcases hs.2.2 with h2 | h2 | h2
    · rw [h2.2]; omega
    · rw [h2.2.1]; omega
    · rw [h2.1, if_neg (by decide), if_neg (by decide), if_neg (by decide), List.length_append]
      have := vint_pos (8 * f.num + 2).toNat
      omega
def outP (ys : List Nd) : Nd := ⟨7, 0, 0, false, [], 0, if ys.length = 0 then [] else [(4, ys)]⟩
theorem known4 {K : Int} (hK : K4 K) {f : WF} (hn : f.num = 4) (ht : f.ty = 0 ∨ f.ty = 2) : isKn [fdP K] (pcOf f) = true := by
  show knownP [fdP K] f.num f.ty = true
  rw [hn]
  rcases ht with ht | ht <;> rw [ht] <;> rcases hK with rfl | rfl | rfl | rfl <;> decide
theorem dec_wl {K : Int} (hK : K4 K) {ws : List WF} {ys : List Nd} (hp : ∀ f ∈ ws, PieceOK (pcOf f) ∧ f.num = 4 ∧ (f.ty = 0 ∨ f.ty = 2)) (hv : ∀ rec, exL (decV rec (fdP K)) ws = .ok ys) : decM (scP K).ms 16 0 (ws.flatMap WF.bytes) = .ok (outP ys) := by
  have hs : split (ws.flatMap WF.bytes) = some (ws.map pcOf) := by
    have h := split_join (ws.map pcOf) (fun p hp' => by obtain ⟨f, hf, rfl⟩ := List.mem_map.1 hp'; exact (hp f hf).1)
    rw [List.flatMap_map] at h
    exact h
  have hkn : ∀ p ∈ ws.map pcOf, isKn [fdP K] p = true := fun p hp' => by
    obtain ⟨f, hf, rfl⟩ := List.mem_map.1 hp'
    exact known4 hK (hp f hf).2.1 (hp f hf).2.2
  have hk : knownL [fdP K] (ws.map pcOf) = ws := by
    unfold knownL
    rw [List.filter_eq_self.2 hkn, List.map_map, show (wfOf ∘ pcOf) = id from funext fun f => rfl, List.map_id]
  have hu : unknL [fdP K] (ws.map pcOf) = [] := by
    unfold unknL
    rw [List.filter_eq_nil_iff.2 (fun p hp' => by rw [hkn p hp']; simp)]
    rfl
  have ho : ownL (fdP K) ws = ws := List.filter_eq_self.2 fun f hf => by
    have := (hp f hf).2.1
    simp [fdP, this]
  have hr : toRead (fdP K) ws = ws := by
    unfold toRead
    rw [if_pos (.inl rfl), ho]
  have hfs : fieldsOf (scP K).ms 0 = [fdP K] := rfl
  rw [decM, hfs, hs]
  dsimp only
  rw [hk, hu, exL_one]
  unfold decF decVs
  rw [hr, hv]
  rfl
theorem decV_pk {K : Int} (hK : K4 K) {us : List Int} (h : ∀ u ∈ us, OkP u) (rec : Int → List Int → Except Int Nd) : decV rec (fdP K) ⟨4, 2, 0, vints us⟩ = .ok (us.map (numD K)) := by
  have hk : K ≠ 7 ∧ K ≠ 8 := by unfold K4 at hK; omega
  have hi : isNum (fdP K).kind = true := by
    show isNum K = true
    rcases hK with rfl | rfl | rfl | rfl <;> decide
  unfold decV
  rw [if_pos hi, if_pos rfl]
  show (match unpack K (vints us) with | none => _ | some l => _) = _
  rw [unpack_vints hk us h]
theorem decV_al {K : Int} (hK : K4 K) (u : Int) (rec : Int → List Int → Except Int Nd) : decV rec (fdP K) ⟨4, 0, u, []⟩ = .ok [numD K u] := by
  have hi : isNum (fdP K).kind = true := by
    show isNum K = true
    rcases hK with rfl | rfl | rfl | rfl <;> decide
  unfold decV
  rw [if_pos hi, if_neg (fun h0 => by have h0' : (0 : Int) = 2 := h0; omega)]
  rfl
theorem pk_ok {us : List Int} (h : ∀ u ∈ us, OkP u) (hl : us.length ≤ 60) : PieceOK (pcOf ⟨4, 2, 0, vints us⟩) := by
  have h1 := vints_len h
  exact pc_okB (by unfold fmd; simp) ⟨Int.le_refl 0, by show (0 : Int) ≤ 18446744073709551615; omega⟩ (by show (vints us).length ≤ 100000; omega) (vints_bs us)
theorem al_ok {u : Int} (h : OkP u) : PieceOK (pcOf ⟨4, 0, u, []⟩) := pc_okB (by unfold fmd; simp) h (by simp) (fun z hz => by cases hz)
theorem dec_packed {K : Int} (hK : K4 K) {us : List Int} (h : ∀ u ∈ us, OkP u) (hl : us.length ≤ 60) : decM (scP K).ms 16 0 (fbytes 4 2 0 (vints us)) = .ok (outP (us.map (numD K))) := by
  have h1 := dec_wl hK (ws := [⟨4, 2, 0, vints us⟩]) (ys := us.map (numD K)) (fun f hf => by
    have e : f = ⟨4, 2, 0, vints us⟩ := by simpa using hf
    subst e
    exact ⟨pk_ok h hl, rfl, .inr rfl⟩) (fun rec => by rw [exL_one, decV_pk hK h])
  rw [List.flatMap_cons, List.flatMap_nil, List.append_nil] at h1
  exact h1
theorem dec_parted {K : Int} (hK : K4 K) {us a b : List Int} (hu : us = a ++ b) (h : ∀ u ∈ us, OkP u) (hl : us.length ≤ 60) : decM (scP K).ms 16 0 (fbytes 4 2 0 (vints a) ++ fbytes 4 2 0 (vints b)) = .ok (outP (us.map (numD K))) := by
  subst hu
  rw [List.length_append] at hl
  have ha : ∀ u ∈ a, OkP u := fun u hu => h u (List.mem_append.2 (.inl hu))
  have hb : ∀ u ∈ b, OkP u := fun u hu => h u (List.mem_append.2 (.inr hu))
  have h1 := dec_wl hK (ws := [⟨4, 2, 0, vints a⟩, ⟨4, 2, 0, vints b⟩]) (ys := (a ++ b).map (numD K)) (fun f hf => by
    have e : f = ⟨4, 2, 0, vints a⟩ ∨ f = ⟨4, 2, 0, vints b⟩ := by simpa using hf
    rcases e with rfl | rfl
    · exact ⟨pk_ok ha (by omega), rfl, .inr rfl⟩
    · exact ⟨pk_ok hb (by omega), rfl, .inr rfl⟩) (fun rec => by rw [exL_cons, exL_one, decV_pk hK ha, decV_pk hK hb, List.map_append]; rfl)
  rw [List.flatMap_cons, List.flatMap_cons, List.flatMap_nil, List.append_nil] at h1
  exact h1
def alones (us : List Int) : List Int := us.flatMap fun u => fbytes 4 0 u []
theorem alones_app (a b : List Int) : alones (a ++ b) = alones a ++ alones b := List.flatMap_append
theorem alones_one (u : Int) : alones [u] = fbytes 4 0 u [] := by unfold alones; simp
theorem alones_bs (us : List Int) : IsBs (alones us) := fun z hz => by
  obtain ⟨u, hu, hz⟩ := List.mem_flatMap.1 hz
  exact fbytes_ok _ _ _ (fun z hz => by cases hz) z hz
theorem alones_len {us : List Int} (h : ∀ u ∈ us, OkP u) : (alones us).length ≤ us.length * 20 := by
  induction us with
  | nil => simp [alones]
  | cons u t ih =>
    have h1 := fby_len 4 0 u [] (by decide) (by decide) (h u List.mem_cons_self).2 (by simp)
    have h2 := ih fun g hg => h g (List.mem_cons_of_mem _ hg)
    unfold alones at h2 ⊢
    rw [List.flatMap_cons, List.length_append, List.length_cons, Nat.add_mul]
    simp only [List.length_nil] at h1
    omega
theorem exL_al {K : Int} (hK : K4 K) (rec : Int → List Int → Except Int Nd) : ∀ us : List Int, exL (decV rec (fdP K)) (us.map fun u => ⟨4, 0, u, []⟩) = .ok (us.map (numD K))
  | [] => rfl
  | u :: t => by
    rw [List.map_cons, exL_cons, decV_al hK, exL_al hK rec t]
    rfl
theorem dec_alone {K : Int} (hK : K4 K) {us : List Int} (h : ∀ u ∈ us, OkP u) : decM (scP K).ms 16 0 (alones us) = .ok (outP (us.map (numD K))) := by
  have h1 := dec_wl hK (ws := us.map fun u => ⟨4, 0, u, []⟩) (ys := us.map (numD K)) (fun f hf => by
    obtain ⟨u, hu, rfl⟩ := List.mem_map.1 hf
    exact ⟨al_ok (h u hu), rfl, .inl rfl⟩) (fun rec => exL_al hK rec us)
  rw [List.flatMap_map] at h1
  exact h1
theorem num_kindP {K : Int} (hK : K4 K) (u : Int) : (numD K u).kind = 1 ∨ (numD K u).kind = 2 ∨ (numD K u).kind = 3 := by
  unfold numD
  rcases hK with rfl | rfl | rfl | rfl <;> simp
theorem norm_outP {K : Int} {ys : List Nd} (hy : ∀ y ∈ ys, y.kind ≠ 7) : normN (scP K).ms 16 (outP ys) = outP ys := by
  rw [norm_msg (scP K).ms 15 (outP ys) rfl]
  unfold outP keptL
  dsimp only
  by_cases h : ys.length = 0
  · rw [if_pos h]; rfl
  · rw [if_neg h]
    have hk : keepB (fieldsOf (scP K).ms 0) (4, ys) = true := rfl
    have hm : ys.map (normN (scP K).ms 15) = ys := by
      conv => rhs; rw [← List.map_id ys]
      exact List.map_congr_left fun y hy' => norm_else _ 15 y (hy y hy')
    rw [List.filter_cons, hk]
    simp only [if_true, List.filter_nil, List.map_cons, List.map_nil, hm]
theorem out_fit {K : Int} (hK : K4 K) {us : List Int} (h : ∀ u ∈ us, OkP u) (hl : us.length ≤ 60) : FitG 100000 10000 16 (outP (us.map (numD K))) ∧ KindT 16 1 (outP (us.map (numD K))) := by
  have hk16 := kindOK_of (fitS4 hK) (form4 hK)
  have hml : ∀ m ∈ (scP K).ms, m.fields.length ≤ 10000 := fun m hm => by have := fieldsLen_of (form4 hK) m hm; omega
  have hL := vints_len h
  have hb := fbytes_ok 4 2 0 (vints_bs us)
  have hfl := fby_len 4 2 0 (vints us) (by decide) (by decide) (by decide) (by omega)
  have hd := dec_packed hK h hl
  exact ⟨(decM_small hk16 hml 16 0 _ _ (by decide) (by simp [scP]) hb (by omega) hd).1, kindT_of 16 1 0 _ (decM_fit hk16 16 1 0 _ _ (by decide) (by decide) (by simp [scP]) hb hd)⟩
theorem step_take {α : Type} (l : List α) (u : α) (c : Nat) : (l.length < c → (l ++ [u]).take c = l.take c ++ [u] ∧ (l ++ [u]).drop c = l.drop c) ∧ (c ≤ l.length → (l ++ [u]).take c = l.take c ∧ (l ++ [u]).drop c = l.drop c ++ [u]) := by
  constructor
  · intro h
    rw [List.take_of_length_le (by simp; omega), List.take_of_length_le (by omega), List.drop_of_length_le (by simp; omega), List.drop_of_length_le (by omega)]
    exact ⟨rfl, rfl⟩
  · intro h
    rw [List.take_append_of_le_length h, List.drop_append_of_le_length h]
    exact ⟨rfl, rfl⟩
end Go.Proofs.YtfhmombnipfimabGreatDoor
