/-
  Two values' bytes, one behind the other: the arithmetic. Nothing is proved of the program here.
  The walks over what the laws ask first: Few.
  The walk over unicode/utf8.word of bytes: the number that the first eight of them spell.
-/
import Derived.Test.YtnopnjklcdcckaaGreatDoorM41
import Derived.Test.YtnopnjklcdcckaaGreatDoorM43
import Derived.Test.YtnopnjklcdcckaaGreatDoorM28
import Derived.Test.YtnopnjklcdcckaaGreatDoorM38
import Derived.Test.YtnopnjklcdcckaaGreatDoorM31
import Derived.Lib.ValidAsc
import Derived.Lib.EndianBits
import Derived.Deep.QuietTactic
import Derived.BigQuiet
namespace Go.Proofs.YtnopnjklcdcckaaGreatDoor
set_option linter.unusedVariables false

/-- the fields of layer 2 that a message's own fields are written as -/
def wOf (ms : List MD) (f : Nat) (fs : List FD) (y : Nd) : List WF := y.fields.flatMap (wiresF (contB (msgB ms (f - 1))) fs)
/-- a value of a field, as far as it is needed -/
structure ValOK (ms : List MD) (f : Nat) (dep : Int) (fd : FD) (v : Nd) : Prop where
  val : valP (recP ms dep f) fd v = true
  rg : Rg1 v
  n7 : fd.kind = 7 → numP 7 v < 4294967296
  msg : fd.kind = 10 → fitP ms (f - 1) (dep + 1) fd.type v = true ∧ DpN (f - 1) v ∧ RngG (f - 1) v ∧ bndN (f - 1) v ≤ 1000000000
/-- a message's bytes, in parts -/
structure Parts (ms : List MD) (f : Nat) (dep : Int) (fs : List FD) (y : Nd) (T : List (TF × List Int)) : Prop where
  bytes : msgB ms f y = (wOf ms f fs y).flatMap WF.bytes ++ ints y.s
  sp : split (ints y.s) = some T
  un : ∀ p ∈ T, isKn fs p = false
  kn : ∀ x ∈ wOf ms f fs y, PieceOK (pcOf x) ∧ isKn fs (pcOf x) = true
  own : ∀ fd ∈ fs, ownL fd (wOf ms f fs y) = match lookF y.fields fd.num with
    | none => []
    | some vs => wireL (contB (msgB ms (f - 1))) fd vs
  vals : ∀ fd ∈ fs, ∀ vs, lookF y.fields fd.num = some vs → vs ≠ [] ∧ (fd.rep = true ∨ vs.length ≤ 1) ∧ ∀ v ∈ vs, ValOK ms f dep fd v
theorem parts_of {ms : List MD} (hK : KindOK ms) (hno : NumOK ms) (f : Nat) (dep t : Int) (y : Nd) (h0 : 0 ≤ t) (h1 : t < (ms.length : Int)) (h : fitP ms f dep t y = true) (hd : DpN f y) (hr : RngG f y) (hb : bndN f y ≤ 1000000000) : ∃ T, Parts ms f dep (fieldsOf ms t) y T := by
  have hen := encG_of hno f dep t y h0 h1 h
  have hml := msg_len f y hen hr (by omega)
  rw [fitP_eq, topP, Bool.and_eq_true, decide_eq_true_eq] at h
  obtain ⟨⟨h7, hty, hdep⟩, hbody⟩ := h
  obtain ⟨md, hmd⟩ : ∃ md, ms[t.toNat]? = some md := ⟨_, List.getElem?_eq_getElem (by omega)⟩
  obtain ⟨hri, hn1, hkk⟩ := hK md (List.mem_of_getElem? hmd)
  have hfo : fieldsOf ms t = md.fields := by unfold fieldsOf; rw [hmd]
  have hfo2 : fieldsOf ms y.type = md.fields := by rw [hty]; exact hfo
  rw [hfo]
  rw [hmd] at hbody
  simp only at hbody
  unfold bodyP noneOf at hbody
  rw [Bool.and_eq_true] at hbody
  obtain ⟨hall, hun⟩ := hbody
  cases hsp : split (ints y.s) with
  | none => rw [hsp] at hun; cases hun
  | some T =>
    rw [hsp] at hun
    have hT : ∀ p ∈ T, isKn md.fields p = false := fun p hp => by
      obtain ⟨i, hi⟩ := List.getElem?_of_mem hp
      have := allA_iff.1 hun i p hi
      unfold isKn; simpa using this
    refine ⟨T, ?_⟩
    have hrise : RiseF 0 y.fields := rise_iff.2 fun k q hq => by
      have h2 := allA_iff.1 hall k q hq
      rw [Bool.and_eq_true] at h2
      rw [← prev_eq]
      exact of_decide_eq_true h2.1
    cases f with
    | zero =>
      have hf0 : y.fields = [] := hd
      refine ⟨?_, hsp, hT, ?_, ?_, ?_⟩
      · unfold wOf msgB; rw [hf0]; rfl
      · unfold wOf; rw [hf0]; intro x hx; cases hx
      · intro fd _; unfold wOf; rw [hf0]; rfl
      · intro fd _ vs hv; rw [hf0] at hv; cases hv
    | succ f =>
      have hwo : wOf ms (f + 1) md.fields y = y.fields.flatMap (wiresF (contB (msgB ms f)) md.fields) := rfl
      have hm : msgB ms (f + 1) y = (wOf ms (f + 1) md.fields y).flatMap WF.bytes ++ ints y.s := by
        rw [hwo]
        unfold msgB
        rw [hfo2, ← flatMap_two]
        congr 2
        funext p
        exact fldB_wires _ _ p
      have hlen : ((wOf ms (f + 1) md.fields y).flatMap WF.bytes).length ≤ 1000000000 := by
        rw [hm, List.length_append] at hml
        omega
      refine ⟨hm, hsp, hT, fun q hq => ?_, fun fd hfd => own_back (firstF_rise hri hfd) hrise, fun fd hfd vs hv => ?_⟩
      · have hq2 : q.bytes.length ≤ 1000000000 := by
          refine Nat.le_trans ?_ hlen
          rw [flatLen]
          exact sumL_mem (g := fun a : WF => a.bytes.length) hq
        rw [hwo] at hq
        obtain ⟨p, hp, hq⟩ := List.mem_flatMap.1 hq
        obtain ⟨fd, hfd, ⟨hm1, hm2⟩, hgk⟩ := hen.2 p hp
        rw [hfo2] at hfd
        unfold wiresF at hq
        rw [hfd] at hq
        obtain ⟨a1, a2, a3, a4⟩ := wire_fmd hm1 hm2 (fun y hy => (hr.2 p hp y hy).one) (fun y hy => (hgk y hy).1) q hq
        refine ⟨pc_okC a1 ⟨a2, a3⟩ (by omega) (wire_ok (fun y hy => contB_ok ms f y) q hq), ?_⟩
        exact knownP_iff.2 ⟨fd, (firstF_some hfd).1, (wire_num q hq).symm, wire_ty (hkk fd (firstF_some hfd).1).1 q hq⟩
      · have hp := look_mem hv
        obtain ⟨fd', hfd', _, hgk⟩ := hen.2 _ hp
        rw [hfo2] at hfd'
        have e : fd' = fd := Option.some.inj (hfd'.symm.trans (firstF_rise hri hfd))
        subst e
        dsimp only at hfd' hgk
        obtain ⟨j, hj⟩ := List.getElem?_of_mem hp
        have h2 := allA_iff.1 hall j _ hj
        rw [Bool.and_eq_true] at h2
        have h3 := h2.2
        unfold fldP at h3
        rw [hfd'] at h3
        simp only [Bool.and_eq_true] at h3
        obtain ⟨h4, h5, h6⟩ := h3
        refine ⟨?_, ?_, fun v hvm => ?_⟩
        · intro e; rw [e] at h4; simp at h4
        · cases hrep : fd'.rep with
          | true => exact .inl rfl
          | false => rw [hrep] at h5; exact .inr (by simpa using h5)
        · obtain ⟨i, hi⟩ := List.getElem?_of_mem hvm
          have h8 := allA_iff.1 h6 i v hi
          have hrv := hr.2 _ hp v hvm
          refine ⟨h8, hrv.one, (hgk v hvm).1, fun h10 => ?_⟩
          have h9 := h8
          unfold valP at h9
          rw [if_pos h10] at h9
          have hq1 : 30 + sumL (fun y => bndN f y + 30) vs ≤ sumL (fun p : Int × List Nd => 30 + sumL (fun y => bndN f y + 30) p.2) y.fields := sumL_mem (g := fun p : Int × List Nd => 30 + sumL (fun y => bndN f y + 30) p.2) hp
          have hq2 : bndN f v + 30 ≤ sumL (fun y => bndN f y + 30) vs := sumL_mem (g := fun y => bndN f y + 30) hvm
          have hb' := hb
          unfold bndN at hb'
          refine ⟨h9, hd _ hp v hvm, hrv, ?_⟩
          show bndN f v ≤ _
          omega
theorem val_seven {ms : List MD} {f : Nat} {dep : Int} {fd : FD} {v : Nd} (h : ValOK ms f dep fd v) (h10 : fd.kind = 10) : v.kind = 7 := by
  have h1 := h.val
  unfold valP at h1
  rw [if_pos h10] at h1
  exact seven_rec _ _ h1
/-- the values of a field, read -/
theorem vals_read {ms : List MD} (hK : KindOK ms) (hno : NumOK ms) {f g : Nat} {dep : Int} {fd : FD} (hg : dep + 1 + (g : Int) = 17) (hkd : (1 ≤ fd.kind ∧ fd.kind ≤ 10) ∧ (fd.kind = 10 → 0 ≤ fd.type ∧ fd.type < (ms.length : Int))) {vs : List Nd} (hv : ∀ v ∈ vs, ValOK ms f dep fd v) : exL (decV (decM ms g) fd) (wireL (contB (msgB ms (f - 1))) fd vs) = .ok (vs.map (dn (f - 1))) :=
  vals_back (f - 1) hkd.1 (fun v hm => (hv v hm).val) (fun v hm => (hv v hm).rg) (fun t y hy => seven_rec t y hy) (fun v hm => (hv v hm).n7) fun v hm h10 => by
    obtain ⟨a1, a2, a3, a4⟩ := (hv v hm).msg h10
    exact dec_encB hK hno (f - 1) g (dep + 1) fd.type v hg (hkd.2 h10).1 (hkd.2 h10).2 a1 a2 a3 a4
def okOf {β : Type} (e : Except Int (List β)) : List β := match e with
  | .ok b => b
  | .error _ => []
theorem exL_ex {α β : Type} {g : α → Except Int (List β)} {l : List α} (H : ∀ x ∈ l, ∃ b, g x = .ok b) : exL g l = .ok (l.flatMap fun x => okOf (g x)) := exL_oks fun x hx => by
  obtain ⟨b, hb⟩ := H x hx
  rw [hb]; rfl
theorem look_flat {h : FD → List (Int × List Nd)} : ∀ {fs : List FD}, RiseD fs → (∀ fd ∈ fs, h fd = [] ∨ ∃ l, h fd = [(fd.num, l)]) → ∀ fd ∈ fs, valsF (fs.flatMap h) fd.num = valsF (h fd) fd.num
  | x :: t, hr, hh, fd, hm => by
    have hrt : RiseD t := fun i j a b hij ha hb => hr (i + 1) (j + 1) a b (by omega) (by simpa using ha) (by simpa using hb)
    have hlt : ∀ z ∈ t, x.num < z.num := fun z hz => by
      obtain ⟨j, hj⟩ := List.getElem?_of_mem hz
      exact hr 0 (j + 1) x z (by omega) rfl (by simpa using hj)
    rw [List.flatMap_cons]
    rcases List.mem_cons.1 hm with rfl | hm
    · rcases hh fd List.mem_cons_self with e | ⟨l, e⟩
      · rw [e, List.nil_append]
        unfold valsF
        rw [look_none fun q hq => by
          obtain ⟨z, hz, hq⟩ := List.mem_flatMap.1 hq
          rcases hh z (List.mem_cons_of_mem _ hz) with e2 | ⟨l, e2⟩
          · rw [e2] at hq; cases hq
          · rw [e2] at hq
            rw [List.mem_singleton.1 hq]
            exact hlt z hz]
        rfl
      · rw [e]
        unfold valsF
        rw [List.singleton_append]
        unfold lookF
        rw [if_pos rfl, if_pos rfl]
    · have ih := look_flat hrt (fun z hz => hh z (List.mem_cons_of_mem _ hz)) fd hm
      rw [← ih]
      rcases hh x List.mem_cons_self with e | ⟨l, e⟩
      · rw [e, List.nil_append]
      · rw [e]
        unfold valsF
        rw [List.singleton_append]
        conv => lhs; unfold lookF
        rw [if_neg (by have := hlt fd hm; dsimp only; omega)]
theorem dec_two {ms : List MD} {g : Nat} {t : Int} {fs : List FD} (hmd : fieldsOf ms t = fs) {W1 W2 : List WF} {s1 s2 : List UInt8} {T1 T2 : List (TF × List Int)} (hs1 : split (ints s1) = some T1) (hs2 : split (ints s2) = some T2) (hT1 : ∀ p ∈ T1, isKn fs p = false) (hT2 : ∀ p ∈ T2, isKn fs p = false) (hW1 : ∀ x ∈ W1, PieceOK (pcOf x) ∧ isKn fs (pcOf x) = true) (hW2 : ∀ x ∈ W2, PieceOK (pcOf x) ∧ isKn fs (pcOf x) = true) {out : List (Int × List Nd)} (hout : exL (decF (decM ms g) (W1 ++ W2)) fs = .ok out) :
    ∃ s, decM ms (g + 1) t ((W1.flatMap WF.bytes ++ ints s1) ++ (W2.flatMap WF.bytes ++ ints s2)) = .ok ⟨7, 0, 0, false, s, t, out⟩ := by
  have hP : ∀ p ∈ (W1.map pcOf ++ T1) ++ (W2.map pcOf ++ T2), PieceOK p := fun p hp => by
    rcases List.mem_append.1 hp with hp | hp
    · rcases List.mem_append.1 hp with hp | hp
      · obtain ⟨x, hx, rfl⟩ := List.mem_map.1 hp; exact (hW1 x hx).1
      · exact split_ok _ (Nat.le_refl _) (ints_ok s1) hs1 p hp
    · rcases List.mem_append.1 hp with hp | hp
      · obtain ⟨x, hx, rfl⟩ := List.mem_map.1 hp; exact (hW2 x hx).1
      · exact split_ok _ (Nat.le_refl _) (ints_ok s2) hs2 p hp
  have hD := split_join _ hP
  have e1 : (((W1.map pcOf ++ T1) ++ (W2.map pcOf ++ T2)).flatMap fun p => p.2) = (W1.flatMap WF.bytes ++ ints s1) ++ (W2.flatMap WF.bytes ++ ints s2) := by
    rw [List.flatMap_append, List.flatMap_append, List.flatMap_append, List.flatMap_map, List.flatMap_map, split_flat _ _ hs1, split_flat _ _ hs2]; rfl
  rw [e1] at hD
  have hf : ∀ (W : List WF) (T : List (TF × List Int)), (∀ x ∈ W, PieceOK (pcOf x) ∧ isKn fs (pcOf x) = true) → (∀ p ∈ T, isKn fs p = false) → (W.map pcOf ++ T).filter (isKn fs) = W.map pcOf := fun W T hW hT => by
    have h1 : (W.map pcOf).filter (isKn fs) = W.map pcOf := by
      rw [List.filter_eq_self]
      intro p hp
      obtain ⟨x, hx, rfl⟩ := List.mem_map.1 hp
      exact (hW x hx).2
    have h2 : T.filter (isKn fs) = [] := by
      rw [List.filter_eq_nil_iff]
      intro p hp
      rw [hT p hp]; simp
    rw [List.filter_append, h1, h2, List.append_nil]
  have hk : knownL fs ((W1.map pcOf ++ T1) ++ (W2.map pcOf ++ T2)) = W1 ++ W2 := by
    unfold knownL
    rw [List.filter_append, hf W1 T1 hW1 hT1, hf W2 T2 hW2 hT2, List.map_append, List.map_map, List.map_map]
    have e : (wfOf ∘ pcOf) = id := rfl
    rw [e, List.map_id, List.map_id]
  refine ⟨u8s (unknL fs ((W1.map pcOf ++ T1) ++ (W2.map pcOf ++ T2))), ?_⟩
  rw [decM, hD]
  dsimp only
  rw [hmd, hk, hout]
theorem ownL_app (fd : FD) (a b : List WF) : ownL fd (a ++ b) = ownL fd a ++ ownL fd b := by unfold ownL; rw [List.filter_append]
/-- what one message's bytes say of a field -/
theorem own_read {ms : List MD} (hK : KindOK ms) (hno : NumOK ms) {f g : Nat} {dep : Int} {fs : List FD} {y : Nd} {T : List (TF × List Int)} (hp : Parts ms f dep fs y T) (hg : dep + 1 + (g : Int) = 17) {fd : FD} (hfd : fd ∈ fs) (hkd : (1 ≤ fd.kind ∧ fd.kind ≤ 10) ∧ (fd.kind = 10 → 0 ≤ fd.type ∧ fd.type < (ms.length : Int))) :
    exL (decV (decM ms g) fd) (ownL fd (wOf ms f fs y)) = .ok ((valsF y.fields fd.num).map (dn (f - 1))) := by
  rw [hp.own fd hfd]
  unfold valsF
  cases hl : lookF y.fields fd.num with
  | none => rfl
  | some vs => exact vals_read hK hno hg hkd (hp.vals fd hfd vs hl).2.2
theorem own_one {ms : List MD} {f : Nat} {dep : Int} {fs : List FD} {y : Nd} {T : List (TF × List Int)} (hp : Parts ms f dep fs y T) {fd : FD} (hfd : fd ∈ fs) (hrep : fd.rep = false) : ownL fd (wOf ms f fs y) = [] ∨ ∃ v, ownL fd (wOf ms f fs y) = [singW (contB (msgB ms (f - 1))) fd v] ∧ ValOK ms f dep fd v := by
  rw [hp.own fd hfd]
  cases hl : lookF y.fields fd.num with
  | none => exact .inl rfl
  | some vs =>
    obtain ⟨h1, h2, h3⟩ := hp.vals fd hfd vs hl
    rw [hrep] at h2
    have h2 : vs.length ≤ 1 := by
      rcases h2 with h | h
      · cases h
      · exact h
    match vs, h1, h2, h3 with
    | [], h1, _, _ => exact absurd rfl h1
    | [v], _, _, h3 =>
      refine .inr ⟨v, ?_, h3 v (by simp)⟩
      unfold wireL
      rw [hrep]; rfl
theorem join_dec {ms : List MD} (hK : KindOK ms) (hno : NumOK ms) : ∀ (g f1 f2 : Nat) (dep t : Int) (y1 y2 : Nd), dep + (g : Int) = 17 → 0 ≤ t → t < (ms.length : Int) → (fitP ms f1 dep t y1 = true ∧ DpN f1 y1 ∧ RngG f1 y1 ∧ bndN f1 y1 ≤ 1000000000) → (fitP ms f2 dep t y2 = true ∧ DpN f2 y2 ∧ RngG f2 y2 ∧ bndN f2 y2 ≤ 1000000000) →
    ∃ s fl, decM ms g t (msgB ms f1 y1 ++ msgB ms f2 y2) = .ok ⟨7, 0, 0, false, s, t, fl⟩ ∧ ∀ fd ∈ fieldsOf ms t, fd.rep = true → (valsF fl fd.num).length = (valsF y1.fields fd.num).length + (valsF y2.fields fd.num).length := by
  intro g
  induction g with
  | zero =>
    intro f1 f2 dep t y1 y2 hg h0 h1 ⟨hf, _⟩
    rw [fitP_eq, topP, Bool.and_eq_true, decide_eq_true_eq] at hf
    have := hf.1.2.2
    omega
  | succ g ih =>
    intro f1 f2 dep t y1 y2 hg h0 h1 ⟨a1, a2, a3, a4⟩ ⟨b1, b2, b3, b4⟩
    obtain ⟨T1, p1⟩ := parts_of hK hno f1 dep t y1 h0 h1 a1 a2 a3 a4
    obtain ⟨T2, p2⟩ := parts_of hK hno f2 dep t y2 h0 h1 b1 b2 b3 b4
    obtain ⟨md, hmd⟩ : ∃ md, ms[t.toNat]? = some md := ⟨_, List.getElem?_eq_getElem (by omega)⟩
    obtain ⟨hri, hn1, hkk⟩ := hK md (List.mem_of_getElem? hmd)
    have hfo : fieldsOf ms t = md.fields := by unfold fieldsOf; rw [hmd]
    rw [hfo] at p1 p2 ⊢
    have hgg : dep + 1 + (g : Int) = 17 := by omega
    have key : ∀ fd ∈ md.fields, ∃ l, decF (decM ms g) (wOf ms f1 md.fields y1 ++ wOf ms f2 md.fields y2) fd = .ok (if l.length = 0 then [] else [(fd.num, l)]) ∧ (fd.rep = true → l.length = (valsF y1.fields fd.num).length + (valsF y2.fields fd.num).length) := fun fd hfd => by
      have hkd := hkk fd hfd
      have r1 := own_read hK hno p1 hgg hfd hkd
      have r2 := own_read hK hno p2 hgg hfd hkd
      have hboth : decVs (decM ms g) fd (ownL fd (wOf ms f1 md.fields y1 ++ wOf ms f2 md.fields y2)) = .ok ((valsF y1.fields fd.num).map (dn (f1 - 1)) ++ (valsF y2.fields fd.num).map (dn (f2 - 1))) := by
        unfold decVs
        rw [ownL_app, exL_append, r1, r2]; rfl
      cases hrep : fd.rep with
      | true =>
        refine ⟨(valsF y1.fields fd.num).map (dn (f1 - 1)) ++ (valsF y2.fields fd.num).map (dn (f2 - 1)), ?_, fun _ => by rw [List.length_append, List.length_map, List.length_map]⟩
        unfold decF toRead
        rw [if_pos (.inl hrep), hboth]
      | false =>
        by_cases hl2 : (ownL fd (wOf ms f1 md.fields y1 ++ wOf ms f2 md.fields y2)).length < 2
        · refine ⟨(valsF y1.fields fd.num).map (dn (f1 - 1)) ++ (valsF y2.fields fd.num).map (dn (f2 - 1)), ?_, fun h => by cases h⟩
          unfold decF toRead
          rw [if_pos (.inr hl2), hboth]
        · rw [ownL_app] at hl2
          rcases own_one p1 hfd hrep with e1 | ⟨v1, e1, k1⟩
          · rcases own_one p2 hfd hrep with e2 | ⟨v2, e2, k2⟩
            · rw [e1, e2] at hl2; simp at hl2
            · rw [e1, e2] at hl2; simp at hl2
          · rcases own_one p2 hfd hrep with e2 | ⟨v2, e2, k2⟩
            · rw [e1, e2] at hl2; simp at hl2
            · have hread : toRead fd (wOf ms f1 md.fields y1 ++ wOf ms f2 md.fields y2) = [⟨(singW (contB (msgB ms (f2 - 1))) fd v2).num, (singW (contB (msgB ms (f2 - 1))) fd v2).ty, (singW (contB (msgB ms (f2 - 1))) fd v2).n, if fd.kind = 10 then (singW (contB (msgB ms (f1 - 1))) fd v1).d ++ (singW (contB (msgB ms (f2 - 1))) fd v2).d else (singW (contB (msgB ms (f2 - 1))) fd v2).d⟩] := by
                unfold toRead
                rw [ownL_app, e1, e2, if_neg (by rw [hrep]; simp)]
                simp
              by_cases h10 : fd.kind = 10
              · have hs : ∀ (f : Nat) (v : Nd), v.kind = 7 → singW (contB (msgB ms (f - 1))) fd v = ⟨fd.num, 2, 0, msgB ms (f - 1) v⟩ := fun f v h7 => by
                  unfold singW contB
                  rw [if_neg (by rw [h10]; decide), if_neg (by omega), if_pos h7]
                obtain ⟨c1, c2, c3, c4⟩ := k1.msg h10
                obtain ⟨d1, d2, d3, d4⟩ := k2.msg h10
                obtain ⟨s, fl, hz, _⟩ := ih (f1 - 1) (f2 - 1) (dep + 1) fd.type v1 v2 hgg (hkd.2 h10).1 (hkd.2 h10).2 ⟨c1, c2, c3, c4⟩ ⟨d1, d2, d3, d4⟩
                refine ⟨[⟨7, 0, 0, false, s, fd.type, fl⟩], ?_, fun h => by cases h⟩
                unfold decF decVs
                rw [hread, exL_one, hs f1 v1 (val_seven k1 h10), hs f2 v2 (val_seven k2 h10), if_pos h10]
                unfold decV
                rw [if_neg (by rw [h10]; decide), if_pos h10]
                dsimp only
                rw [hz]
              · have hd2 : exL (decV (decM ms g) fd) [singW (contB (msgB ms (f2 - 1))) fd v2] = .ok ((valsF y2.fields fd.num).map (dn (f2 - 1))) := by rw [← e2]; exact r2
                refine ⟨(valsF y2.fields fd.num).map (dn (f2 - 1)), ?_, fun h => by cases h⟩
                unfold decF decVs
                rw [hread, if_neg h10, hd2]
    have hex := exL_ex (g := decF (decM ms g) (wOf ms f1 md.fields y1 ++ wOf ms f2 md.fields y2)) (l := md.fields) fun fd hfd => by
      obtain ⟨l, hl, _⟩ := key fd hfd
      exact ⟨_, hl⟩
    obtain ⟨s, hs⟩ := dec_two (ms := ms) (g := g) (t := t) hfo p1.sp p2.sp p1.un p2.un p1.kn p2.kn hex
    rw [← p1.bytes, ← p2.bytes] at hs
    refine ⟨s, _, hs, fun fd hfd hrep => ?_⟩
    rw [look_flat hri (fun z hz => ?_) fd hfd]
    · obtain ⟨l, hl, hlen⟩ := key fd hfd
      rw [hl, ← hlen hrep]
      show (valsF (if l.length = 0 then [] else [(fd.num, l)]) fd.num).length = _
      split
      · rename_i h; rw [h]; rfl
      · unfold valsF lookF; rw [if_pos rfl]; rfl
    · obtain ⟨l, hl, _⟩ := key z hz
      rw [hl]
      show (if l.length = 0 then [] else [(z.num, l)]) = [] ∨ ∃ l', (if l.length = 0 then [] else [(z.num, l)]) = [(z.num, l')]
      split
      · exact .inl rfl
      · exact .inr ⟨l, rfl⟩
/-- the normal value keeps what is repeated -/
theorem kept_vals {ms : List MD} {g : Nd → Nd} {t : Int} {fd : FD} (hfd : firstF (fieldsOf ms t) fd.num = some fd) (hrep : fd.rep = true) : ∀ (fl : List (Int × List Nd)), (valsF (keptL ms g t fl) fd.num).length = (valsF fl fd.num).length
  | [] => rfl
  | p :: l => by
    have ih := kept_vals (g := g) hfd hrep l
    unfold keptL at ih ⊢
    by_cases hp : p.1 = fd.num
    · have hk : keepB (fieldsOf ms t) p = true := by
        unfold keepB
        rw [hp, hfd]
        simp [hrep]
      rw [List.filter_cons_of_pos hk, List.map_cons]
      unfold valsF lookF
      rw [if_pos hp, if_pos hp]
      simp
    · have e : valsF (p :: l) fd.num = valsF l fd.num := by
        unfold valsF
        conv => lhs; unfold lookF
        rw [if_neg hp]
      rw [e, ← ih]
      by_cases hk : keepB (fieldsOf ms t) p = true
      · rw [List.filter_cons_of_pos hk, List.map_cons]
        unfold valsF
        conv => lhs; unfold lookF
        rw [if_neg hp]
      · rw [List.filter_cons_of_neg hk]
theorem norm_vals {ms : List MD} {t : Int} {fd : FD} (hfd : firstF (fieldsOf ms t) fd.num = some fd) (hrep : fd.rep = true) (f : Nat) {x : Nd} (h7 : x.kind = 7) (ht : x.type = t) : (valsF (normN ms f x).fields fd.num).length = (valsF x.fields fd.num).length := by
  cases f with
  | zero => rfl
  | succ f =>
    rw [norm_msg ms f x h7]
    dsimp only
    rw [ht]
    exact kept_vals hfd hrep _
/-- all that the law needs -/
theorem join_all {s : SC} (hf : FitS s) {t : Int} {f1 f2 : Nat} {x1 x2 : Nd} (hx1 : FitX s f1 t x1) (hr1 : RngG f1 x1) (hb1 : bndN f1 x1 ≤ 1000000000) (hd1 : DpN f1 x1) (hx2 : FitX s f2 t x2) (hr2 : RngG f2 x2) (hb2 : bndN f2 x2 ≤ 1000000000) (hd2 : DpN f2 x2) (hl : (encB s f1 x1 ++ encB s f2 x2).length ≤ 4096) :
    ∃ z, decM s.ms 16 t (encB s f1 x1 ++ encB s f2 x2) = .ok z ∧ ∀ fd ∈ fieldsOf s.ms t, fd.rep = true → (valsF (normN s.ms 16 z).fields fd.num).length = (valsF x1.fields fd.num).length + (valsF x2.fields fd.num).length := by
  have hno := numOK_of hf hx1.1
  have hK := kindOK_of hf hx1.1
  have n1 := norm_fit hno f1 1 t x1 hx1.2.1 hx1.2.2.1 hx1.2.2.2
  have n2 := norm_fit hno f2 1 t x2 hx2.2.1 hx2.2.2.1 hx2.2.2.2
  have c1 := norm_bnd s.ms f1 x1
  have c2 := norm_bnd s.ms f2 x2
  obtain ⟨sz, fl, hz, hlen⟩ := join_dec hK hno 16 f1 f2 1 t (normN s.ms f1 x1) (normN s.ms f2 x2) (by decide) hx1.2.1 hx1.2.2.1 ⟨n1, dp_norm s.ms f1 x1 hd1, norm_rng s.ms f1 x1 hr1, by omega⟩ ⟨n2, dp_norm s.ms f2 x2 hd2, norm_rng s.ms f2 x2 hr2, by omega⟩
  refine ⟨_, hz, fun fd hfd hrep => ?_⟩
  obtain ⟨md, hmd⟩ : ∃ md, s.ms[t.toNat]? = some md := ⟨_, List.getElem?_eq_getElem (by have := hx1.2.1; have := hx1.2.2.1; omega)⟩
  have hfo : fieldsOf s.ms t = md.fields := by unfold fieldsOf; rw [hmd]
  have hff : firstF (fieldsOf s.ms t) fd.num = some fd := by
    rw [hfo] at hfd ⊢
    exact firstF_rise (hK md (List.mem_of_getElem? hmd)).1 hfd
  have h7 : ∀ {f : Nat} {x : Nd}, FitX s f t x → x.kind = 7 ∧ x.type = t := fun {f x} hx => by
    have := hx.2.2.2
    rw [fitP_eq, topP, Bool.and_eq_true, decide_eq_true_eq] at this
    exact ⟨this.1.1, this.1.2.1⟩
  rw [norm_vals hff hrep 16 rfl rfl, ← norm_vals hff hrep f1 (h7 hx1).1 (h7 hx1).2, ← norm_vals hff hrep f2 (h7 hx2).1 (h7 hx2).2]
  exact hlen fd hfd hrep
end Go.Proofs.YtnopnjklcdcckaaGreatDoor
namespace Go.Proofs.YtnopnjklcdcckaaGreatDoor
set_option linter.unusedVariables false
open Go.ChangeShapes Go.WideShapes Go.ChangeAt Go.RowKit

def FewAns (s : SC) (f : Nat) (x : Nd) (w : World) (e : Ending) (w' : World) : Prop := ∃ b, e = .returned (.bool b) ∧ (b = true → SmS s ∧ FitG 100000 10000 f x ∧ wtN f x ≤ 400) ∧ Below w.heap.size w w'
set_option maxHeartbeats 8000000 in
set_option maxRecDepth 20000 in
theorem few9_any (ma ea ta : Option Addr) (nm ne nt mc ec tc : Nat) (s : SC) (f : Nat) (x : Nd) (xa : Option Addr) (xl xc : Nat) (w : World) (hnm : s.ms.length = nm) (hne : s.es.length = ne) (hnt : s.ts.length = nt) (hbig : BigS s) (hH : HeldSc w (fun b => b < w.heap.size) (.slice ma nm mc) (.slice ea ne ec) (.slice ta nt tc) s) (hG : HeldG rawS w (fun b => b < w.heap.size) f (.slice xa xl xc) x.fields) (hfit : FitG 140737488355328 140737488355328 f x) :
    Calls Tryz.prog 13 #[.agg #[.slice ma nm mc, .slice ea ne ec, .slice ta nt tc], .agg #[.int .i64 x.kind, .int .i64 x.n, .int .u64 x.u, .bool x.b, .string (mkB x.s), .int .i64 x.type, .slice xa xl xc]] w fun e w' => FewAns s f x w e w' := by
  obtain ⟨Y, hY, hC, hb, hYs⟩ := box_new w #[.slice ma nm mc, .slice ea ne ec, .slice ta nt tc] 26
  obtain ⟨V, hV, hD, hVb, hVs⟩ := box_new Y #[.int .i64 x.kind, .int .i64 x.n, .int .u64 x.u, .bool x.b, .string (mkB x.s), .int .i64 x.type, .slice xa xl xc] 44
  rw [hYs] at hD
  have HY := Lib.hid hY
  have HV := Lib.hid hV
  have hBV := hb.trans (hVb.mono hb.size)
  have HBV := Lib.hid hBV
  have hCV := (hVb.block _ (by omega)).trans hC
  have hVl : w.heap.size + 2 ≤ V.heap.size := by omega
  have b0 : V.cell? ⟨w.heap.size, 0, none⟩ = some (.slice ma nm mc) := cell_at hCV 0 rfl
  have b1 : V.cell? ⟨w.heap.size, 1, none⟩ = some (.slice ea ne ec) := cell_at hCV 1 rfl
  have b2 : V.cell? ⟨w.heap.size, 2, none⟩ = some (.slice ta nt tc) := cell_at hCV 2 rfl
  have hH1 : HeldSc V (fun b => b < V.heap.size) (.slice ma nm mc) (.slice ea ne ec) (.slice ta nt tc) s := ⟨(HeldN.old hH.1 fun b hb => hBV.block b hb).more fun b hb => by have hb' : b < w.heap.size := hb; have := hBV.size; omega, (HeldN.old hH.2.1 fun b hb => hBV.block b hb).more fun b hb => by have hb' : b < w.heap.size := hb; have := hBV.size; omega, (RowsIn.old hH.2.2 fun b hb => hBV.block b hb).more fun b hb => by have hb' : b < w.heap.size := hb; have := hBV.size; omega⟩
  have h := smallS_any ma ea ta nm ne nt mc ec tc s V hnm hne hnt hbig hH1
  have HD := Lib.hid hD
  have HS2 : Hid (∀ W, Below w.heap.size w W → Calls Tryz.prog 26 #[.agg #[.int .i64 x.kind, .int .i64 x.n, .int .u64 x.u, .bool x.b, .string (mkB x.s), .int .i64 x.type, .slice xa xl xc]] W fun e w' => ∃ b, e = .returned (.bool b) ∧ (b = true → FitG 100000 10000 f x ∧ wtN f x ≤ 400) ∧ Below W.heap.size W w') := fun W hW => smallV_any f x (.slice xa xl xc) W hfit (HeldG.mv (fun b hb => hW.block b hb) (fun b hb => by have hb' : b < w.heap.size := hb; have := hW.size; omega) hG)
  clear hY hC hb hYs hV hD hVb hVs hBV hCV hH hH1 hG hfit hbig hnm hne hnt
  go_enter Tryz.func13, Tryz.ntmps13
  go_upto_region 1 with fail
  rw [HY.out, HV.out]
  go_wp2_with fail
  refine h.mono ?_
  rintro e W1 ⟨b, rfl, hsm, hb1⟩
  have HSM := Lib.hid hsm
  have hB1 := HBV.out.trans (hb1.mono HBV.out.size)
  have HB1 := Lib.hid hB1
  have hD1 := (hb1.block _ (by omega)).trans HD.out
  have k0 : W1.cell? ⟨w.heap.size + 1, 0, none⟩ = some (.int .i64 x.kind) := cell_at hD1 0 rfl
  have k1 : W1.cell? ⟨w.heap.size + 1, 1, none⟩ = some (.int .i64 x.n) := cell_at hD1 1 rfl
  have k2 : W1.cell? ⟨w.heap.size + 1, 2, none⟩ = some (.int .u64 x.u) := cell_at hD1 2 rfl
  have k3 : W1.cell? ⟨w.heap.size + 1, 3, none⟩ = some (.bool x.b) := cell_at hD1 3 rfl
  have k4 : W1.cell? ⟨w.heap.size + 1, 4, none⟩ = some (.string (mkB x.s)) := cell_at hD1 4 rfl
  have k5 : W1.cell? ⟨w.heap.size + 1, 5, none⟩ = some (.int .i64 x.type) := cell_at hD1 5 rfl
  have k6 : W1.cell? ⟨w.heap.size + 1, 6, none⟩ = some (.slice xa xl xc) := cell_at hD1 6 rfl
  have h2 := HS2.out W1 hB1
  clear h hsm hb1 hB1 hD1 b0 b1 b2
  cases b
  case false =>
    go_wp2_with fail
    go_ret
    exact ⟨false, rfl, (fun h => by cases h), HB1.out⟩
  have HSS := Lib.hid (HSM.out (by simp))
  go_wp2_with fail
  refine h2.mono ?_
  rintro e W2 ⟨b, rfl, hf2, hb2⟩
  have HF2 := Lib.hid hf2
  have HB2 := Lib.hid (HB1.out.trans (hb2.mono HB1.out.size))
  clear h2 hf2 hb2 k0 k1 k2 k3 k4 k5 k6
  go_wp2_with fail
  go_ret
  exact ⟨b, rfl, fun h => ⟨HSS.out, HF2.out h⟩, HB2.out⟩
end Go.Proofs.YtnopnjklcdcckaaGreatDoor
namespace Go.Proofs.YtnopnjklcdcckaaGreatDoor
set_option linter.unusedVariables false
open Go.ChangeShapes Go.WideShapes Go.ChangeAt Go.RowKit

/-- the bytes of t lie in a block -/
def CB (W : World) (g o : Nat) (t : ByteArray) : Prop := ∀ j, j < t.size → W.cell? ⟨g, o + j, none⟩ = some (.int .u8 ((t.get! j).toNat : Int))
theorem CB.at {W : World} {g o : Nat} {t : ByteArray} (h : CB W g o t) {j : Nat} (hj : j < t.size) {x : UInt8} (hx : t.get! j = x) : W.cell? ⟨g, o + j, none⟩ = some (.int .u8 (x.toNat : Int)) := by rw [← hx]; exact h j hj
theorem CB.drewN {W : World} {g o : Nat} {t : ByteArray} (h : CB W g o t) (q : Nat) : CB (W.drewN q) g o t := fun j hj => by
  have : (W.drewN q).cell? ⟨g, o + j, none⟩ = W.cell? ⟨g, o + j, none⟩ := by simp
  rw [this]; exact h j hj
set_option maxHeartbeats 8000000 in
set_option maxRecDepth 100000 in
theorem wordB_any (g o n c : Nat) (t : ByteArray) (w : World) (hn : t.size = n) (h8 : 8 ≤ n) (hC : CB w g o t) :
    Calls Tryz.prog 109 #[.slice (some ⟨g, o, none⟩) n c] w fun e w' => e = .returned (.int .u64 (Lib.leNat [t.get! 0, t.get! 1, t.get! 2, t.get! 3, t.get! 4, t.get! 5, t.get! 6, t.get! 7])) ∧ ∃ q, w' = w.drewN q := by
  obtain ⟨x0, hx0⟩ : ∃ x, t.get! 0 = x := ⟨_, rfl⟩
  obtain ⟨x1, hx1⟩ : ∃ x, t.get! 1 = x := ⟨_, rfl⟩
  obtain ⟨x2, hx2⟩ : ∃ x, t.get! 2 = x := ⟨_, rfl⟩
  obtain ⟨x3, hx3⟩ : ∃ x, t.get! 3 = x := ⟨_, rfl⟩
  obtain ⟨x4, hx4⟩ : ∃ x, t.get! 4 = x := ⟨_, rfl⟩
  obtain ⟨x5, hx5⟩ : ∃ x, t.get! 5 = x := ⟨_, rfl⟩
  obtain ⟨x6, hx6⟩ : ∃ x, t.get! 6 = x := ⟨_, rfl⟩
  obtain ⟨x7, hx7⟩ : ∃ x, t.get! 7 = x := ⟨_, rfl⟩
  have c0 : w.cell? ⟨g, o, none⟩ = some (.int .u8 (x0.toNat : Int)) := hC.at (j := 0) (by omega) hx0
  have c1 := hC.at (j := 1) (by omega) hx1
  have c2 := hC.at (j := 2) (by omega) hx2
  have c3 := hC.at (j := 3) (by omega) hx3
  have c4 := hC.at (j := 4) (by omega) hx4
  have c5 := hC.at (j := 5) (by omega) hx5
  have c6 := hC.at (j := 6) (by omega) hx6
  have c7 := hC.at (j := 7) (by omega) hx7
  have b0 := x0.toNat_lt; have b1 := x1.toNat_lt; have b2 := x2.toNat_lt; have b3 := x3.toNat_lt
  have b4 := x4.toNat_lt; have b5 := x5.toNat_lt; have b6 := x6.toNat_lt; have b7 := x7.toNat_lt
  rw [hx0, hx1, hx2, hx3, hx4, hx5, hx6, hx7]
  have hv : ((Lib.leNat [x0, x1, x2, x3, x4, x5, x6, x7] : Nat) : Int) = (x0.toNat : Int) + (x1.toNat : Int) * 256 + (x2.toNat : Int) * 65536 + (x3.toNat : Int) * 16777216 + (x4.toNat : Int) * 4294967296 + (x5.toNat : Int) * 1099511627776 + (x6.toNat : Int) * 281474976710656 + (x7.toNat : Int) * 72057594037927936 := by
    simp only [Lib.leNat]
    push_cast
    omega
  have q0 : (0 : Int) < (n : Int) := by omega
  have q1 : (1 : Int) < (n : Int) := by omega
  have q2 : (2 : Int) < (n : Int) := by omega
  have q3 : (3 : Int) < (n : Int) := by omega
  have q4 : (4 : Int) < (n : Int) := by omega
  have q5 : (5 : Int) < (n : Int) := by omega
  have q6 : (6 : Int) < (n : Int) := by omega
  have q7 : (7 : Int) < (n : Int) := by omega
  clear hC hx0 hx1 hx2 hx3 hx4 hx5 hx6 hx7 hn
  go_enter Tryz.func109, Tryz.ntmps109
  go_wp2
  go_quiet (fail)
  go_wp2
  go_ret
  refine ⟨?_, _, rfl⟩
  simp (disch := omega) only [u64_or8, u64_or16, u64_or24, u64_or32, u64_or40, u64_or48, u64_or56]
  rw [hv]
  rfl
end Go.Proofs.YtnopnjklcdcckaaGreatDoor
