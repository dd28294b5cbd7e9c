/-
  What is decoded: how many, how long, within which bounds. Nothing is proved of the program here.
  What the document's decode reads: fields in memory as they were split, those of one number, what is read of them. Nothing is proved of the program here.
-/
import Derived.Test.YteajlfgbmefncaaGreatDoorM29
import Derived.Test.YteajlfgbmefncaaGreatDoorM36
import Derived.Test.YteajlfgbmefncaaGreatDoorM32
namespace Go.Proofs.YteajlfgbmefncaaGreatDoor
set_option linter.unusedVariables false

theorem kindOK_of {s : SC} (hf : FitS s) (h : FormS s) : KindOK s.ms := by
  have h0 : formM s.es.length s.ms.length s.ms = true := by
    have h1 := h.1
    unfold formS at h1
    simp only [Bool.and_eq_true] at h1
    exact h1.2.2.1
  intro m hm
  obtain ⟨i, hi⟩ := List.getElem?_of_mem hm
  have h1 := allA_iff.1 h0 i m hi
  unfold goodM at h1
  rw [Bool.and_eq_true] at h1
  refine ⟨riseD_of h1.2, fun x hx => ((numOK_of hf h) m hm x hx).1.1, fun x hx => ⟨?_, ((numOK_of hf h) m hm x hx).2⟩⟩
  obtain ⟨j, hj⟩ := List.getElem?_of_mem hx
  have h2 := allA_iff.1 h1.2 j x hj
  unfold goodF at h2
  simp only [Bool.and_eq_true] at h2
  have h3 := h2.2.2.2.2
  unfold typB at h3
  split at h3
  · omega
  · split at h3
    · omega
    · have := of_decide_eq_true h3; omega
theorem fieldsLen_of {s : SC} (h : FormS s) : ∀ m ∈ s.ms, m.fields.length ≤ 32 := by
  have h0 : formM s.es.length s.ms.length s.ms = true := by
    have h1 := h.1
    unfold formS at h1
    simp only [Bool.and_eq_true] at h1
    exact h1.2.2.1
  intro m hm
  obtain ⟨i, hi⟩ := List.getElem?_of_mem hm
  have h1 := allA_iff.1 h0 i m hi
  unfold goodM at h1
  rw [Bool.and_eq_true] at h1
  exact of_decide_eq_true h1.1
theorem fitG_leaf {bs bf f : Nat} {y : Nd} (h1 : y.fields = []) (h2 : y.s.length ≤ bs) : FitG bs bf f y := by
  cases f with
  | zero => exact h2
  | succ f => exact ⟨h2, by rw [h1]; exact Nat.zero_le _, fun p hp => by rw [h1] at hp; cases hp⟩
theorem rngG_leaf {f : Nat} {y : Nd} (h1 : y.fields = []) (h2 : Rg1 y) : RngG f y := by
  cases f with
  | zero => exact h2
  | succ f => exact ⟨h2, fun p hp => by rw [h1] at hp; cases hp⟩
theorem numD_leaf (k n : Int) : (numD k n).fields = [] ∧ (numD k n).s = [] := by
  unfold numD
  repeat' split
  all_goals exact ⟨rfl, rfl⟩
theorem numD_rg {k n : Int} (h : 0 ≤ n ∧ n ≤ 18446744073709551615) : Rg1 (numD k n) := by
  unfold numD Rg1 zagI
  repeat' split
  all_goals simp only [IntKind.wrap_i64, IntKind.wrap_i32]
  all_goals omega
theorem exL_len {α β : Type} {g : α → Except Int (List β)} {c : α → Nat} : ∀ {l : List α} {a : List β}, (∀ x ∈ l, ∀ b, g x = .ok b → b.length ≤ c x) → exL g l = .ok a → a.length ≤ sumL c l
  | [], a, h, e => by
    have : a = [] := by injection e with e; exact e.symm
    rw [this]; exact Nat.zero_le _
  | x :: t, a, h, e => by
    rw [exL_cons] at e
    cases hg : g x with
    | error er => rw [hg] at e; cases e
    | ok b =>
      cases ht : exL g t with
      | error er => rw [hg, ht] at e; cases e
      | ok m =>
        rw [hg, ht] at e
        have ha : a = b ++ m := by injection e with e; exact e.symm
        have h1 := h x List.mem_cons_self b hg
        have h2 := exL_len (c := c) (fun y hy => h y (List.mem_cons_of_mem _ hy)) ht
        rw [ha, List.length_append]
        show _ ≤ c x + sumL c t
        omega
theorem sumL_const {α : Type} (l : List α) : sumL (fun _ => 1) l = l.length := by
  induction l with
  | nil => rfl
  | cons a t ih => show 1 + sumL _ t = _; rw [ih, List.length_cons]; omega
theorem known_sum {fs : List FD} {D : List (TF × List Int)} {zs : List Int} (hP : ∀ p ∈ D, PieceOK p) (hf : (D.flatMap fun p => p.2) = zs) : sumL (fun x : WF => x.d.length + 1) (knownL fs D) ≤ zs.length := by
  unfold knownL
  rw [sumL_map]
  have h1 := sumL_filter (fun p : TF × List Int => (wfOf p).d.length + 1) (isKn fs) D
  have h2 : sumL (fun p : TF × List Int => (wfOf p).d.length + 1) D ≤ sumL (fun p => p.2.length) D := sumL_le fun p hp => (hP p hp).dl
  have h3 : (D.flatMap fun p => p.2).length = sumL (fun p => p.2.length) D := flatLen _ _
  rw [hf] at h3
  omega
theorem read_sum {fd : FD} {l : List WF} : sumL (fun x : WF => x.d.length + 1) (toRead fd l) ≤ sumL (fun x : WF => x.d.length + 1) l := by
  have h1 := sumL_own (fun x : WF => x.d.length + 1) fd l
  unfold toRead
  split
  · exact h1
  · rename_i h
    split
    · exact Nat.zero_le _
    · rename_i y hy
      have hy' := List.mem_of_getLast? hy
      have h2 := sumL_mem (g := fun x : WF => x.d.length + 1) hy'
      show ((if fd.kind = 10 then (ownL fd l).flatMap WF.d else y.d).length + 1) + 0 ≤ _
      split
      · have h3 : ((ownL fd l).flatMap WF.d).length + 1 ≤ sumL (fun x : WF => x.d.length + 1) (ownL fd l) := by
          rw [flatLen]
          have : ∀ (m : List WF), y ∈ m → sumL (fun x : WF => x.d.length) m + 1 ≤ sumL (fun x : WF => x.d.length + 1) m := by
            intro m
            induction m with
            | nil => intro hm; cases hm
            | cons a t ih =>
              intro hm
              have h4 : sumL (fun x : WF => x.d.length) t ≤ sumL (fun x : WF => x.d.length + 1) t := sumL_le fun x _ => by omega
              show a.d.length + sumL _ t + 1 ≤ a.d.length + 1 + sumL _ t
              omega
          exact this _ hy'
        omega
      · omega
/-- lists and texts are short -/
theorem decM_small {ms : List MD} (hK : KindOK ms) (hml : ∀ m ∈ ms, m.fields.length ≤ 10000) : ∀ (f : Nat) (t : Int) (zs : List Int) (x : Nd), 0 ≤ t → t < (ms.length : Int) → IsBs zs → zs.length ≤ 10000 → decM ms f t zs = .ok x → FitG 100000 10000 f x ∧ RngG f x
  | 0, t, zs, x, h0, h1, hb, hl, h => by cases h
  | f + 1, t, zs, x, h0, h1, hb, hl, h => by
    obtain ⟨md, hmd⟩ : ∃ md, ms[t.toNat]? = some md := ⟨_, List.getElem?_eq_getElem (by omega)⟩
    have hmm := List.mem_of_getElem? hmd
    obtain ⟨hr, hn1, hk⟩ := hK md hmm
    have hfs : fieldsOf ms t = md.fields := by unfold fieldsOf; rw [hmd]
    unfold decM at h
    rw [hfs] at h
    cases hs : split zs with
    | none => rw [hs] at h; cases h
    | some D =>
      rw [hs] at h
      dsimp only at h
      cases hL : exL (decF (decM ms f) (knownL md.fields D)) md.fields with
      | error e => rw [hL] at h; cases h
      | ok fl =>
        rw [hL] at h
        have hx : x = ⟨7, 0, 0, false, u8s (unknL md.fields D), t, fl⟩ := by injection h with h; exact h.symm
        have hP := split_ok _ (Nat.le_refl _) hb hs
        have hF := split_flat zs D hs
        have hul : (unknL md.fields D).length ≤ zs.length := by
          have := unkn_len md.fields D D.length
          rw [List.take_length, hF] at this
          exact this
        have hfl : fl.length ≤ 10000 := by
          have := exL_len (c := fun _ => 1) (fun fd _ b hb => by
            obtain ⟨l, _, rfl⟩ := decF_one hb
            split <;> simp) hL
          rw [sumL_const] at this
          have := hml md hmm
          omega
        have hin : ∀ p ∈ fl, p.2.length ≤ 10000 ∧ ∀ y ∈ p.2, FitG 100000 10000 f y ∧ RngG f y := by
          intro p hp
          obtain ⟨fd, b, hfd, hg, hpb⟩ := exL_mem hL hp
          obtain ⟨l, hv, rfl⟩ := decF_one hg
          split at hpb
          · cases hpb
          · have hpe : p = (fd.num, l) := List.mem_singleton.1 hpb
            subst hpe
            have hok := read_ok hr hfd hP
            have hsum := Nat.le_trans (read_sum (fd := fd)) (known_sum (fs := md.fields) hP hF)
            refine ⟨?_, fun y hy => ?_⟩
            · have := exL_len (c := fun x : WF => x.d.length + 1) (fun x hx b hb => decV_len (hok x hx).db hb) hv
              dsimp only
              omega
            · obtain ⟨w, b, hw, hdv, hyb⟩ := exL_mem hv hy
              have hdl : w.d.length ≤ 10000 := by
                have := sumL_mem (g := fun x : WF => x.d.length + 1) hw
                omega
              have hO := hok w hw
              cases hnum : isNum fd.kind with
              | true =>
                unfold decV at hdv
                rw [if_pos hnum] at hdv
                have hN : NumOf fd.kind y ∨ ∃ n, y = numD fd.kind n ∧ 0 ≤ n ∧ n ≤ 18446744073709551615 := by
                  split at hdv
                  · cases hu : unpack fd.kind w.d with
                    | none => rw [hu] at hdv; cases hdv
                    | some l' =>
                      rw [hu] at hdv
                      have : b = l' := by injection hdv with hdv; exact hdv.symm
                      subst this
                      exact .inl (unpack_of _ (Nat.le_refl _) hO.db hu y hyb)
                  · have : b = [numD fd.kind w.n] := by injection hdv with hdv; exact hdv.symm
                    subst this
                    exact .inr ⟨w.n, List.mem_singleton.1 hyb, hO.n⟩
                obtain ⟨n, rfl, hn⟩ : ∃ n, y = numD fd.kind n ∧ 0 ≤ n ∧ n ≤ 18446744073709551615 := by
                  rcases hN with ⟨n, e, hn, _⟩ | h
                  · exact ⟨n, e, hn⟩
                  · exact h
                have hlf := numD_leaf fd.kind n
                exact ⟨fitG_leaf hlf.1 (by rw [hlf.2]; simp), rngG_leaf hlf.1 (numD_rg hn)⟩
              | false =>
                rw [decV_bytes hnum] at hdv
                cases hd : decB (decM ms f) fd w.d with
                | error e => rw [hd] at hdv; cases hdv
                | ok z =>
                  rw [hd] at hdv
                  have : b = [z] := by injection hdv with hdv; exact hdv.symm
                  subst this
                  have hyz : y = z := List.mem_singleton.1 hyb
                  subst hyz
                  have hsd : ∀ k, FitG 100000 10000 f (strD k w.d) ∧ RngG f (strD k w.d) := fun k => ⟨fitG_leaf rfl (by show (u8s w.d).length ≤ _; rw [u8s_len]; omega), rngG_leaf rfl (by unfold strD Rg1; dsimp only; omega)⟩
                  unfold decB at hd
                  split at hd
                  · rename_i h10
                    have hty := (hk fd hfd).2 h10
                    exact decM_small hK hml f fd.type w.d y hty.1 hty.2 hO.db hdl hd
                  · split at hd
                    · split at hd
                      · have : y = strD 4 w.d := by injection hd with hd; exact hd.symm
                        rw [this]; exact hsd 4
                      · cases hd
                    · have : y = strD 5 w.d := by injection hd with hd; exact hd.symm
                      rw [this]; exact hsd 5
        rw [hx]
        exact ⟨⟨by show (u8s (unknL md.fields D)).length ≤ _; rw [u8s_len]; omega, hfl, fun p hp => ⟨(hin p hp).1, fun y hy => ((hin p hp).2 y hy).1⟩⟩, ⟨by unfold Rg1; dsimp only; omega, fun p hp y hy => ((hin p hp).2 y hy).2⟩⟩
end Go.Proofs.YteajlfgbmefncaaGreatDoor
namespace Go.Proofs.YteajlfgbmefncaaGreatDoor
set_option linter.unusedVariables false
open Go.ChangeShapes Go.WideShapes Go.ChangeAt Go.RowKit

theorem infoFR : (Tryz.prog.info? 106).map (fun i => (i.zero, i.size, i.bytes)) = some (some (.agg #[.int .i64 0, .int .i64 0, .int .u64 0, .slice none 0 0]), 4, 48) := by kernel_rfl
def ownK (fs : List FD) (fd : FD) (l : List WF) : List WF := l.filter fun x => decide (x.num = fd.num) && knownP fs fd.num x.ty
theorem ownK_step {fs : List FD} {fd : FD} {l : List WF} {k : Nat} {x : WF} (h : l[k]? = some x) : ownK fs fd (l.take (k + 1)) = ownK fs fd (l.take k) ++ (if (decide (x.num = fd.num) && knownP fs fd.num x.ty) = true then [x] else []) := by
  unfold ownK
  rw [show l.take (k + 1) = l.take k ++ [x] from take_snoc h, List.filter_append]
  congr 1
  cases hd : (decide (x.num = fd.num) && knownP fs fd.num x.ty) <;> simp [hd]
theorem ownK_eq (fs : List FD) (fd : FD) (D : List (TF × List Int)) : ownK fs fd (D.map wfOf) = ownL fd (knownL fs D) := by
  unfold ownK ownL knownL
  rw [List.filter_map, List.filter_map, List.filter_filter]
  congr 1
  apply List.filter_congr
  intro p hp
  show (decide (p.1.num = fd.num) && knownP fs fd.num p.1.ty) = (decide (p.1.num = fd.num) && knownP fs p.1.num p.1.ty)
  by_cases h : p.1.num = fd.num
  · rw [h]
  · rw [decide_eq_false h]; rfl
theorem toRead_none {fd : FD} {l : List WF} (h : ownL fd l = []) : toRead fd l = [] := by
  unfold toRead
  rw [if_pos (.inr (by rw [h]; decide)), h]
theorem toRead_rep {fd : FD} {l : List WF} (h : fd.rep = true) : toRead fd l = ownL fd l := if_pos (.inl h)
theorem toRead_one {fd : FD} {l o : List WF} {x : WF} {n : Nat} (hr : fd.rep = false) (ho : ownL fd l = o) (hn : o.length = n + 1) (hx : o[n]? = some x) : toRead fd l = [⟨x.num, x.ty, x.n, if fd.kind = 10 then o.flatMap WF.d else x.d⟩] := by
  unfold toRead
  rw [ho]
  by_cases h2 : n = 0
  · subst h2
    rw [if_pos (.inr (by omega))]
    obtain ⟨y, hy⟩ : ∃ y, o = [y] := by
      cases o with
      | nil => simp at hn
      | cons y t =>
        have : t = [] := List.eq_nil_of_length_eq_zero (by simpa using hn)
        exact ⟨y, by rw [this]⟩
    subst hy
    have e : y = x := by simpa using hx
    subst e
    cases y
    simp
  · rw [if_neg (by rw [hr]; simp; omega), List.getLast?_eq_getElem?, hn]
    simp only [Nat.add_sub_cancel, hx]
theorem read_le {fs : List FD} {fd : FD} {D : List (TF × List Int)} {zs : List Int} (hP : ∀ p ∈ D, PieceOK p) (hf : (D.flatMap fun p => p.2) = zs) : (toRead fd (knownL fs D)).length ≤ zs.length ∧ ∀ x ∈ toRead fd (knownL fs D), x.d.length ≤ zs.length := by
  have h1 := known_sum (fs := fs) hP hf
  have h2 := read_sum (fd := fd) (l := knownL fs D)
  refine ⟨?_, fun x hx => ?_⟩
  · have h3 : sumL (fun _ : WF => 1) (toRead fd (knownL fs D)) ≤ sumL (fun x : WF => x.d.length + 1) (toRead fd (knownL fs D)) := sumL_le fun x _ => by omega
    rw [sumL_const] at h3
    omega
  · have h3 := sumL_mem (g := fun x : WF => x.d.length + 1) hx
    omega
theorem own_flat {fs : List FD} {fd : FD} {D : List (TF × List Int)} {zs : List Int} (hP : ∀ p ∈ D, PieceOK p) (hf : (D.flatMap fun p => p.2) = zs) (k : Nat) : (((ownL fd (knownL fs D)).take k).flatMap WF.d).length ≤ zs.length := by
  have h1 := known_sum (fs := fs) hP hf
  have h2 := sumL_own (fun x : WF => x.d.length + 1) fd (knownL fs D)
  have h3 := sumL_append (fun x : WF => x.d.length) ((ownL fd (knownL fs D)).take k) ((ownL fd (knownL fs D)).drop k)
  rw [List.take_append_drop] at h3
  have h4 : sumL (fun x : WF => x.d.length) (ownL fd (knownL fs D)) ≤ sumL (fun x : WF => x.d.length + 1) (ownL fd (knownL fs D)) := sumL_le fun x _ => by omega
  rw [flatLen]
  omega
theorem decRF_none {rec : Int → List Int → Except Int Nd} {known : List WF} {fd : FD} (h : ownL fd known = []) : decRF rec known fd = .ok [] := by
  unfold decRF decVs
  rw [toRead_none h]
  rfl
theorem decRF_ok {rec : Int → List Int → Except Int Nd} {known : List WF} {fd : FD} {l : List Nd} (h : decVs rec fd (toRead fd known) = .ok l) : decRF rec known fd = .ok (if keepD fd l = true then [(fd.num, l)] else []) := by
  unfold decRF
  rw [h]
theorem decRF_err {rec : Int → List Int → Except Int Nd} {known : List WF} {fd : FD} {e : Int} (h : decVs rec fd (toRead fd known) = .error e) : decRF rec known fd = .error e := by
  unfold decRF
  rw [h]
theorem decRF_len {rec : Int → List Int → Except Int Nd} {known : List WF} {l : List FD} {fl : List (Int × List Nd)} (h : exL (decRF rec known) l = .ok fl) : fl.length ≤ l.length := by
  have h1 := exL_len (c := fun _ => 1) (fun x _ b hb => by
    unfold decRF at hb
    cases hv : decVs rec x (toRead x known) with
    | error e => rw [hv] at hb; cases hb
    | ok m =>
      rw [hv] at hb
      have e : (if keepD x m = true then [(x.num, m)] else []) = b := by injection hb
      rw [← e]
      split <;> simp) h
  rwa [sumL_const] at h1
theorem mkB_apR (a b : List UInt8) : mkB (a ++ b) = mkB a ++ mkB b := by
  apply ByteArray.ext
  show (a ++ b).toArray = (mkB a ++ mkB b).data
  rw [ByteArray.data_append]
  simp [mkB]
theorem mkB_szR (l : List UInt8) : (mkB l).size = l.length := by show l.toArray.size = _; simp
theorem u8s_app (a b : List Int) : u8s (a ++ b) = u8s a ++ u8s b := by unfold u8s; rw [List.map_append]
theorem unkn_str {fs : List FD} {D : List (TF × List Int)} {k : Nat} {p : TF × List Int} (h : D[k]? = some p) (hk : isKn fs p = false) : mkB (u8s (unknL fs (D.take (k + 1)))) = mkB (u8s (unknL fs (D.take k))) ++ mkB (u8s p.2) := by
  rw [unkn_step h, hk, if_neg (by simp), u8s_app, mkB_apR]
theorem unkn_same {fs : List FD} {D : List (TF × List Int)} {k : Nat} {p : TF × List Int} (h : D[k]? = some p) (hk : isKn fs p = true) : unknL fs (D.take (k + 1)) = unknL fs (D.take k) := by
  rw [unkn_step h, hk, if_pos rfl, List.append_nil]
/-- a piece of the bytes in memory -/
def RawIn (w : World) (a : Option Addr) (D : List (TF × List Int)) : Prop := ∀ (k : Nat) (p : TF × List Int), D[k]? = some p → ∃ g ra rl rc, a = some ⟨g, 0, none⟩ ∧ g < w.heap.size ∧ w.cell? ⟨g, k, none⟩ = some (.slice ra rl rc) ∧ IsB w ra rl p.2
theorem raw_split {w : World} {B : Nat} {e : TypeId} {vF vR : Value} {xs : List FR} {ps : List Row3} {D : List (TF × List Int)} (h : SplSt w B e vF vR xs ps) (hR : FitsR ps D) : ∃ aR cR, vR = .slice aR D.length cR ∧ D.length ≤ cR ∧ RawIn w aR D := by
  obtain ⟨aF, cF, aR, cR, _, rfl, hlF, hlR, hcF, hcR⟩ := st_shapes h
  have hl : ps.length = D.length := hR.len
  rw [hl] at hlR ⊢
  refine ⟨aR, cR, rfl, hlR, fun k p hp => ?_⟩
  obtain ⟨r, p', hr, hp', hrz⟩ := fitsR_at hR k (List.getElem?_eq_some_iff.1 hp).1
  have hpp : p' = p := Option.some.inj (hp'.symm.trans hp)
  subst hpp
  obtain ⟨g, ha, h1, h2, h3⟩ := hcR k r hr
  exact ⟨g, r.a, r.len, r.cap, ha, h3, h1, by rw [← hrz]; exact h2⟩
theorem wf_split {w : World} {B : Nat} {e : TypeId} {vF vR : Value} {xs : List FR} {ps : List Row3} {D : List (TF × List Int)} (h : SplSt w B e vF vR xs ps) (hF : FitsF xs D) (hl : ∀ p ∈ D, p.1.data.length ≤ 1000000) : ∃ aF cF, vF = .slice aF D.length cF ∧ WfIn w (fun b => b < w.heap.size) (.slice aF D.length cF) (D.map wfOf) := by
  obtain ⟨aF, cF, aR, cR, rfl, _, hlF, hlR, hcF, hcR⟩ := st_shapes h
  have hln : xs.length = D.length := hF.len
  rw [hln] at hlF ⊢
  refine ⟨aF, cF, rfl, aF, cF, by rw [List.length_map], by rw [List.length_map]; exact hlF, ?_⟩
  by_cases h0 : D = []
  · left; rw [h0]; rfl
  · right
    obtain ⟨f0, hf0⟩ : ∃ f, xs[0]? = some f := ⟨_, List.getElem?_eq_getElem (by rw [hln]; exact List.length_pos_iff.2 h0)⟩
    obtain ⟨g, ha, _, _, _, _, _, hg⟩ := hcF 0 f0 hf0
    refine ⟨g, 0, ha, hg, fun j x hx => ?_⟩
    have hj : j < D.length := by
      have := (List.getElem?_eq_some_iff.1 hx).1
      rwa [List.length_map] at this
    obtain ⟨f, p, hf, hp, hsay⟩ := fits_at hF j hj
    have h1 : f.num = p.1.num := congrArg (fun t => t.1) hsay
    have h2 : f.ty = p.1.ty := congrArg (fun t => t.2.1) hsay
    have h3 : f.n = p.1.n := congrArg (fun t => t.2.2.1) hsay
    have h4 : f.d = p.1.data := congrArg (fun t => t.2.2.2) hsay
    have hxe : x = ⟨f.num, f.ty, f.n, f.d⟩ := by
      rw [List.getElem?_map, hp] at hx
      have e : wfOf p = x := by simpa using hx
      rw [← e, h1, h2, h3, h4]; rfl
    subst hxe
    obtain ⟨g', ha', e0, e1, e2, e3, hI, _⟩ := hcF j f hf
    have hgg : g' = g := by
      rw [ha] at ha'
      injection ha' with ha'
      injection ha' with ha' _
      exact ha'.symm
    subst hgg
    have hdl : f.d.length = f.len := hI.1
    refine ⟨f.a, f.cap, fun i u hu => ?_, ?_⟩
    · dsimp only at hu ⊢
      rw [hdl] at hu
      rcases i with _ | _ | _ | _ | i
      · have : Value.int .i64 f.num = u := by simpa using hu
        rw [← this]; simpa using e0
      · have : Value.int .i64 f.ty = u := by simpa using hu
        rw [← this]; simpa [Nat.add_assoc] using e1
      · have : Value.int .u64 f.n = u := by simpa using hu
        rw [← this]; simpa [Nat.add_assoc] using e2
      · have : Value.slice f.a f.len f.cap = u := by simpa using hu
        rw [← this]; simpa [Nat.add_assoc] using e3
      · simp at hu
    · have := hl p (List.mem_of_getElem? hp)
      exact bin_of hI (hF.2 f (List.mem_of_getElem? hf)) (by rw [← hdl, h4]; omega)
theorem wfIn_oneR {w : World} {S : Nat → Prop} {B : Nat} {x : WF} {a : Option Addr} {c : Nat} (hB : w.heap[B]? = some (.cells #[.int .i64 x.num, .int .i64 x.ty, .int .u64 x.n, .slice a x.d.length c] 106 (0, 0))) (hS : S B) (hd : BIn w S a c x.d) : WfIn w S (.slice (some ⟨B, 0, none⟩) 1 1) [x] := by
  refine ⟨_, _, rfl, Nat.le_refl _, .inr ⟨B, 0, rfl, hS, fun j y hj => ?_⟩⟩
  have hj0 : j = 0 := by
    have := (List.getElem?_eq_some_iff.1 hj).1
    simp at this; omega
  subst hj0
  have e : x = y := by simpa using hj
  subst e
  refine ⟨a, c, fun i u hu => ?_, hd⟩
  simp only [World.cell?, hB]
  simpa using hu
theorem ownE_keepR {w w' : World} {base : Nat} {v : Value} {xs : List Int} (h : OwnE w base v xs) (hk : ∀ g, base ≤ g → w'.heap[g]? = w.heap[g]?) : OwnE w' base v xs := h.imp (fun h => own_keep h fun b hb => hk b (own_blockB h b hb)) id
theorem ownE_sl {w : World} {base : Nat} {v : Value} {xs : List Int} (h : OwnE w base v xs) : ∃ a n c, v = .slice a n c := by
  rcases h with h | ⟨_, g, rfl⟩
  · obtain ⟨a, c, hv⟩ := own_slice h
    exact ⟨a, _, c, hv⟩
  · exact ⟨_, _, _, rfl⟩
theorem decR_kind {ms : List MD} : ∀ {f : Nat} {t : Int} {zs : List Int} {y : Nd}, decR ms f t zs = .ok y → y.kind = 7
  | 0, t, zs, y, h => by cases h
  | f + 1, t, zs, y, h => by
    unfold decR at h
    cases hs : split zs with
    | none => rw [hs] at h; cases h
    | some D =>
      rw [hs] at h
      dsimp only at h
      cases he : exL (decRF (decR ms f) (knownL (fieldsOf ms t) D)) (fieldsOf ms t) with
      | error e => rw [he] at h; cases h
      | ok fl =>
        rw [he] at h
        injection h with h
        rw [← h]
theorem numD_kinds (k n : Int) : 1 ≤ (numD k n).kind ∧ (numD k n).kind ≤ 7 := by
  unfold numD
  repeat' split
  all_goals simp
theorem decV_kinds {rec : Int → List Int → Except Int Nd} {fd : FD} {x : WF} {l : List Nd} (hb : IsBs x.d) (hrec : ∀ y, rec fd.type x.d = .ok y → y.kind = 7) (h : decV rec fd x = .ok l) : ∀ y ∈ l, 1 ≤ y.kind ∧ y.kind ≤ 7 := by
  intro y hy
  unfold decV at h
  split at h
  · split at h
    · cases hu : unpack fd.kind x.d with
      | none => rw [hu] at h; cases h
      | some m =>
        rw [hu] at h
        injection h with h
        subst h
        obtain ⟨n, rfl, _⟩ := unpack_of x.d.length (Nat.le_refl _) hb hu y hy
        exact numD_kinds _ _
    · injection h with h
      subst h
      have e : y = numD fd.kind x.n := by simpa using hy
      rw [e]; exact numD_kinds _ _
  · split at h
    · cases hr : rec fd.type x.d with
      | error e => rw [hr] at h; cases h
      | ok z =>
        rw [hr] at h
        injection h with h
        subst h
        have e : y = z := by simpa using hy
        have := hrec z hr
        rw [e]; omega
    · split at h
      · split at h
        · injection h with h
          subst h
          have e : y = strD 4 x.d := by simpa using hy
          rw [e]; simp [strD]
        · cases h
      · injection h with h
        subst h
        have e : y = strD 5 x.d := by simpa using hy
        rw [e]; simp [strD]
theorem bin_slS {w : World} {S : Nat → Prop} {a : Option Addr} {c : Nat} {zs : List Int} (h : BIn w S a c zs) : SlS w a zs.length c zs := ⟨h.isB, h.2.2.2.1, h.2.1⟩
theorem nrow_len (y : Nd) (fs : Value) : (clS.row y fs).length = 7 := rfl
theorem nrow_one (y : Nd) (fs : Value) (hf : fs.oneCell' = true) : ∀ u ∈ clS.row y fs, u.oneCell' = true := by
  intro u hu
  have h : u = .int .i64 (cn y).kind ∨ u = .int .i64 (cn y).n ∨ u = .int .u64 (cn y).u ∨ u = .bool (cn y).b ∨ u = .string (mkB (cn y).s) ∨ u = .int .i64 (cn y).type ∨ u = if y.kind = 7 then fs else .slice none 0 0 := by
    simpa [clS, crow, nrow] using hu
  rcases h with rfl | rfl | rfl | rfl | rfl | rfl | rfl
  all_goals first
    | rfl
    | (split; exact hf; rfl)
/-- the rows of nodes that lie in memory -/
theorem nds_rows {w : World} {S : Nat → Prop} {f g : Nat} : ∀ {ys : List Nd} {o : Nat}, (∀ (j : Nat) (y : Nd), ys[j]? = some y → ∃ fs, Cells w g (o + j * 7) (clS.row y fs) ∧ (y.kind = 7 → HeldG clS w S f fs y.fields)) →
    ∃ qs : List (List Value), qs.length = ys.length ∧ (∀ q ∈ qs, q.length = 7) ∧ (∀ (j : Nat) (y : Nd) (q : List Value), ys[j]? = some y → qs[j]? = some q → VRs clS f w S y q) ∧ (∀ (j : Nat) (u : Value), (qs.flatMap id)[j]? = some u → w.cell? ⟨g, o + j, none⟩ = some u) ∧ (∀ u ∈ qs.flatMap id, u.oneCell' = true) ∧ (qs.flatMap id).length = ys.length * 7
  | [], o, h => ⟨[], rfl, (fun q hq => by cases hq), (fun j y q hy => by simp at hy), (fun j u hu => by simp at hu), (fun u hu => by simp at hu), rfl⟩
  | y :: t, o, h => by
    obtain ⟨fs, h1, h2⟩ := h 0 y rfl
    obtain ⟨qs, g1, g2, g3, g4, g5, g6⟩ := nds_rows (ys := t) (o := o + 7) fun j x hx => by
      obtain ⟨fs, h1, h2⟩ := h (j + 1) x (by simpa using hx)
      exact ⟨fs, by rw [show o + 7 + j * 7 = o + (j + 1) * 7 by omega]; exact h1, h2⟩
    have h1' : Cells w g o (clS.row y fs) := by simpa using h1
    have hone : ∃ fs', clS.row y fs = clS.row y fs' ∧ fs'.oneCell' = true ∧ (y.kind = 7 → HeldG clS w S f fs' y.fields) := by
      by_cases h7 : y.kind = 7
      · obtain ⟨a, c, he⟩ := HeldG.isSl (h2 h7)
        exact ⟨fs, rfl, by rw [he]; rfl, h2⟩
      · refine ⟨.slice none 0 0, ?_, rfl, fun h => absurd h h7⟩
        simp [clS, h7]
    obtain ⟨fs', hrw, ho1, hh⟩ := hone
    rw [hrw] at h1'
    refine ⟨clS.row y fs' :: qs, by simp [g1], ?_, ?_, ?_, ?_, by rw [List.flatMap_cons, List.length_append, g6, List.length_cons]; show 7 + t.length * 7 = (t.length + 1) * 7; omega⟩
    · intro q hq
      rcases List.mem_cons.1 hq with rfl | hq
      · exact nrow_len _ _
      · exact g2 q hq
    · intro j x q hx hq
      cases j with
      | zero =>
        have e1 : y = x := by simpa using hx
        have e2 : clS.row y fs' = q := by simpa using hq
        subst e1 e2
        exact ⟨fs', rfl, fun hk => hh (by simpa [clS] using hk)⟩
      | succ j => exact g3 j x q (by simpa using hx) (by simpa using hq)
    · intro j u hu
      rw [List.flatMap_cons] at hu
      rcases Nat.lt_or_ge j 7 with hj | hj
      · rw [List.getElem?_append_left (by show j < 7; exact hj)] at hu
        exact h1' j u hu
      · rw [List.getElem?_append_right (by show 7 ≤ j; exact hj)] at hu
        have := g4 (j - 7) u hu
        rw [show o + j = o + 7 + (j - 7) by omega]; exact this
    · intro u hu
      rw [List.flatMap_cons] at hu
      rcases List.mem_append.1 hu with hu | hu
      · exact nrow_one y fs' ho1 u hu
      · exact g5 u hu
end Go.Proofs.YteajlfgbmefncaaGreatDoor
