/-
  The walks over both Emits: a schema's text of stubs.
  The walk over the law StubRows.
  The rows of a formed schema are right; their text is not too long. Nothing is proved of the program here.
-/
import Derived.Test.YtkhnicppcbgdiaaGreatDoorM32
import Derived.Test.YtkhnicppcbgdiaaGreatDoorM33
import Derived.Test.YtkhnicppcbgdiaaGreatDoorM19
import Derived.Test.YtkhnicppcbgdiaaGreatDoorM16
namespace Go.Proofs.YtkhnicppcbgdiaaGreatDoor
set_option linter.unusedVariables false
open Go.ChangeShapes Go.WideShapes Go.ChangeAt Go.RowKit

theorem fit_of_smallE {s : SC} (h : SmS s) : FitS s := by
  obtain ⟨h0, h1, h2, h3⟩ := h
  refine ⟨⟨by omega, by omega⟩, fun m hm => ?_, fun m hm => ?_, by omega, fun t ht => ?_⟩
  · obtain ⟨a, b, c⟩ := h1 m hm
    exact ⟨by omega, by omega, fun f hf => by have := c f hf; omega⟩
  · obtain ⟨a, b, c⟩ := h2 m hm
    exact ⟨by omega, by omega, fun f hf => by have := c f hf; omega⟩
  · obtain ⟨a, b⟩ := h3 t ht
    exact ⟨by omega, by omega⟩
theorem good_of {s : SC} (h : FormS s) {k : Nat} {t : TD} (ht : s.ts[k]? = some t) : t.id = (k : Int) + 1 ∧ plainL t.service = true := by
  have h1 := h.1
  unfold formS at h1
  simp only [Bool.and_eq_true] at h1
  have h2 : formT s.ms.length s.ts = true := by
    exact h1.2.2.2.2
  have h3 := allA_iff.1 h2 k t ht
  unfold goodT at h3
  simp only [Bool.and_eq_true, decide_eq_true_iff] at h3
  exact ⟨h3.1, h3.2.1⟩
theorem nmAt_len {ms : List MD} (h : ∀ m ∈ ms, m.name.length ≤ 100000) (i : Int) : (nmAt ms i).length ≤ 100000 := by
  unfold nmAt
  split
  · rename_i m hm
    exact h m (List.mem_of_getElem? hm)
  · simp
theorem rows_fit {s : SC} (hf : FitS s) (h : FormS s) : ∀ r ∈ rowsL s, FitRw r := by
  intro r hr
  obtain ⟨k, hk⟩ := List.getElem?_of_mem hr
  unfold rowsL at hk
  rw [List.getElem?_map] at hk
  obtain ⟨t, ht, rfl⟩ := Option.map_eq_some_iff.1 hk
  have hkl := (List.getElem?_eq_some_iff.1 ht).1
  have hid := (good_of h ht).1
  have hl := hf.2.2.2.1
  have c1 := camC_len t.service
  have c2 := camC_len t.name
  have c3 := nmAt_len (fun m hm => (hf.2.1 m hm).1) t.inp
  have c4 := nmAt_len (fun m hm => (hf.2.1 m hm).1) t.out
  refine ⟨?_, ?_, ?_, ?_, ?_⟩
  · show -9223372036854775808 ≤ t.id ∧ t.id ≤ 9223372036854775807
    omega
  · show (camC t.service).length ≤ 1000000
    omega
  · show (camC t.name).length ≤ 1000000
    omega
  · show (undL (nmAt s.ms t.inp)).length ≤ 1000000
    rw [undL_len]; omega
  · show (undL (nmAt s.ms t.out)).length ≤ 1000000
    rw [undL_len]; omega
theorem camC_ne {l : List UInt8} (h : plainL l = true) : camC l ≠ [] := by
  unfold plainL at h
  rw [Bool.and_eq_true] at h
  have hn : nameOf (runes (mkB l)) = true := h.1
  unfold camC
  rw [if_pos hn]
  have h2 := hn
  unfold nameOf at h2
  simp only [Bool.and_eq_true, decide_eq_true_iff] at h2
  cases hr : runes (mkB l) with
  | nil => rw [hr] at h2; simp at h2
  | cons r t =>
    rw [hr] at h2
    have hl : isLetter r = true := h2.1.2
    have h95 : r ≠ 95 := by
      intro e
      subst e
      revert hl
      decide
    intro e
    rw [camelL, if_neg h95] at e
    have h5 := encL_lenK ((if (true && isSmall r) = true then r - 32 else r) :: camelL false t)
    rw [e] at h5
    simp at h5
theorem text_two {s : SC} (h : FormS s) : textT (some []) (rowsL s) = textT none (rowsL s) := by
  refine (textT_first _ fun r hr => ?_).symm
  obtain ⟨k, hk⟩ := List.getElem?_of_mem hr
  unfold rowsL at hk
  rw [List.getElem?_map] at hk
  obtain ⟨t, ht, rfl⟩ := Option.map_eq_some_iff.1 hk
  exact camC_ne (good_of h ht).2
/-- what Emit answers -/
def EmAns (s : SC) (w : World) (e : Ending) (w' : World) : Prop := ∃ t c, e = .returned (.tuple #[.string (mkB t), .int .i64 c]) ∧ (¬ FormS s → t = [] ∧ c = 1) ∧ (FormS s → ClashS s → t = [] ∧ c = 9) ∧ (FormS s → ¬ ClashS s → t = textT none (rowsL s) ∧ c = 0) ∧ Below w.heap.size w w'
set_option maxHeartbeats 16000000 in
set_option maxRecDepth 20000 in
theorem emitP_any (ma ea ta : Option Addr) (nm ne nt mc ec tc : Nat) (s : SC) (w : World) (hT : Tabs w) (hP : Pow w) (hM : Mx w) (hnm : s.ms.length = nm) (hne : s.es.length = ne) (hnt : s.ts.length = nt) (hf : FitS s) (hH : HeldSc w (fun b => b < w.heap.size) (.slice ma nm mc) (.slice ea ne ec) (.slice ta nt tc) s) :
    Calls Tryz.prog 8 #[.agg #[.slice ma nm mc, .slice ea ne ec, .slice ta nt tc]] w fun e w' => EmAns s w e w' := by
  have HT := Lib.hid hT
  have HP := Lib.hid hP
  have HM := Lib.hid hM
  have HNM := Lib.hid hnm
  have HNE := Lib.hid hne
  have HNT := Lib.hid hnt
  have HF := Lib.hid hf
  have hntl : nt ≤ 1000000 := by have := hf.2.2.2.1; omega
  obtain ⟨Y, hY, hC, hb, hYs⟩ := box_new w #[.slice ma nm mc, .slice ea ne ec, .slice ta nt tc] 26
  have HY := Lib.hid hY
  have HB := Lib.hid hb
  have HC := Lib.hid hC
  have hHY : HeldSc Y (fun b => b < Y.heap.size) (.slice ma nm mc) (.slice ea ne ec) (.slice ta nt tc) s := heldSc_mvS hH hb
  have HHY : Hid (∀ W, Below Y.heap.size Y W → HeldSc W (fun b => b < W.heap.size) (.slice ma nm mc) (.slice ea ne ec) (.slice ta nt tc) s) := fun W hW => heldSc_mvS hHY hW
  have HW : Hid (∀ W, Below Y.heap.size Y W → Below w.heap.size w W) := fun W hW => HB.out.trans (hW.mono HB.out.size)
  have HCW : Hid (∀ W, Below Y.heap.size Y W → W.heap[w.heap.size]? = some (.cells #[.slice ma nm mc, .slice ea ne ec, .slice ta nt tc] 26 (0, 0))) := fun W h => (h.block _ (by omega)).trans HC.out
  have hFo := formP_any ma ea ta nm ne nt mc ec tc s Y hnm hne hnt hf hHY
  have c0 := cell_at hC 0 rfl
  have c1 := cell_at hC 1 rfl
  have c2 := cell_at hC 2 rfl
  clear hY hC hb hH hHY hT hP hM hnm hne hnt hf
  go_enter Tryz.func8, Tryz.ntmps8
  go_upto_region 1 with fail
  rw [HY.out]
  go_wp2_with fail
  refine hFo.mono ?_
  rintro e w1 ⟨b, rfl, hbf, hb1⟩
  have HB1 := Lib.hid hb1
  have HBF := Lib.hid hbf
  clear c0 c1 c2 hb1 hbf hFo
  have d0 := cell_at (HCW.out w1 HB1.out) 0 rfl
  have d1 := cell_at (HCW.out w1 HB1.out) 1 rfl
  have d2 := cell_at (HCW.out w1 HB1.out) 2 rfl
  cases b
  case false =>
    have HN : Hid (¬ FormS s) := fun h => by have := HBF.out.2 h; cases this
    clear HBF
    go_wp2_with fail
    go_ret2
    exact ⟨[], 1, rfl, fun _ => ⟨rfl, rfl⟩, fun h => absurd h HN.out, fun h => absurd h HN.out, HW.out _ HB1.out⟩
  case true =>
    have HN : Hid (FormS s) := HBF.out.1 rfl
    clear HBF
    have hr := rowsOf_any ma ea ta nm ne nt mc ec tc s w1 (HM.out.below (HW.out _ HB1.out)) HNM.out HNE.out HNT.out HF.out (inT_of HN.out) (HHY.out _ HB1.out)
    go_wp2_with fail
    refine hr.mono ?_
    rintro e w2 ⟨v, rfl, hO, hb2⟩
    have HB2 := Lib.hid (HB1.out.trans (hb2.mono HB1.out.size))
    obtain ⟨ra, rc, rfl⟩ := own_slice hO
    have hrl : (rowsL s).length = nt := by unfold rowsL; rw [List.length_map, HNT.out]
    have hRI : RowsIn w2 (fun b => b < w2.heap.size) 5 rrow (.slice ra (rowsL s).length rc) (rowsL s) := rwP_in hO
    rw [hrl] at hRI ⊢
    have HRI := Lib.hid hRI
    have HRL := Lib.hid hrl
    clear hr hO hb2 d0 d1 d2 hRI hrl
    have d0 := cell_at (HCW.out w2 HB2.out) 0 rfl
    have d1 := cell_at (HCW.out w2 HB2.out) 1 rfl
    have d2 := cell_at (HCW.out w2 HB2.out) 2 rfl
    have hc := twice_any ma ea ta ra nm ne nt mc ec tc rc s w2 (HM.out.below (HW.out _ HB2.out)) HNM.out HNT.out HF.out (HHY.out _ HB2.out) HRI.out
    go_wp2_with fail
    refine hc.mono ?_
    rintro e w3 ⟨b, rfl, hbf, hb3⟩
    have HB3 := Lib.hid (HB2.out.trans (hb3.mono HB2.out.size))
    have HBF := Lib.hid hbf
    have HRI3 := Lib.hid (rows_mv HRI.out hb3)
    clear hc hb3 hbf d0 d1 d2 HRI
    cases b
    case true =>
      have HC2 : Hid (ClashS s) := HBF.out.1 rfl
      go_wp2_with fail
      go_ret2
      exact ⟨[], 9, rfl, fun h => absurd HN.out h, fun _ _ => ⟨rfl, rfl⟩, fun _ h => absurd HC2.out h, HW.out _ HB3.out⟩
    case false =>
      have HC2 : Hid (¬ ClashS s) := fun h => by have := HBF.out.2 h; cases this
      have ht := written_any ra nt rc (rowsL s) w3 (HP.out.below (HW.out _ HB3.out)) HRL.out hntl (rows_fit HF.out HN.out) HRI3.out
      go_wp2_with fail
      refine ht.mono ?_
      rintro e w4 ⟨rfl, hb4⟩
      have HB4 := Lib.hid (HB3.out.trans (hb4.mono HB3.out.size))
      clear ht hb4
      go_wp2_with fail
      go_ret2
      exact ⟨_, 0, rfl, fun h => absurd HN.out h, fun _ h => absurd h HC2.out, fun _ _ => ⟨text_two HN.out, rfl⟩, HW.out _ HB4.out⟩
end Go.Proofs.YtkhnicppcbgdiaaGreatDoor
namespace Go.Proofs.YtkhnicppcbgdiaaGreatDoor
set_option linter.unusedVariables false
open Go.ChangeShapes Go.WideShapes Go.ChangeAt Go.RowKit

/-- rows that are right are read of the document's text of them -/
theorem right_read (l : List Rw) (h : rightLs 0 l = true) : readP (textT none l) = some l := by
  obtain ⟨a, b⟩ := rightLs_iff l 0 h
  rw [textT_first l (sv_ne a)]
  exact read_text l a b
end Go.Proofs.YtkhnicppcbgdiaaGreatDoor
namespace Go.Proofs.YtkhnicppcbgdiaaGreatDoor
set_option linter.unusedVariables false
open Go.ChangeShapes Go.WideShapes Go.ChangeAt Go.RowKit

theorem enc_no95 (r : Int) (h : nameRune r = true) (h95 : r ≠ 95) : ∀ b ∈ Lib.encodeRune r, b ≠ 95 := by
  have h2 := two_of_name h
  intro b hb e
  subst e
  by_cases hr : r ≤ 127
  · rw [enc_small r h2.1 hr] at hb
    simp only [List.mem_cons, List.not_mem_nil, or_false] at hb
    have h3 := congrArg UInt8.toNat hb
    rw [UInt8.toNat_ofNat_of_lt' (by show _ < 256; omega)] at h3
    have h4 : (95 : UInt8).toNat = 95 := rfl
    have := h2.1
    omega
  · rw [enc_two r (by omega) h2.2] at hb
    simp only [List.mem_cons, List.not_mem_nil, or_false] at hb
    unfold two at h2
    have h4 : (95 : UInt8).toNat = 95 := rfl
    rcases hb with hb | hb
    · have h3 := congrArg UInt8.toNat hb
      rw [UInt8.toNat_ofNat_of_lt' (by show _ < 256; omega)] at h3
      omega
    · have h3 := congrArg UInt8.toNat hb
      rw [UInt8.toNat_ofNat_of_lt' (by show _ < 256; omega)] at h3
      omega
theorem name_parts {l : List Int} (h : nameOf l = true) : (1 ≤ l.length ∧ l.length ≤ 40) ∧ isLetter (l.headD 0) = true ∧ ∀ r ∈ l, nameRune r = true := by
  unfold nameOf at h
  simp only [Bool.and_eq_true, decide_eq_true_iff, List.all_eq_true] at h
  exact ⟨h.1.1, h.1.2, h.2⟩
theorem plain_nm {l : List UInt8} (h : plainL l = true) : nameOf (runes ⟨l.toArray⟩) = true := by
  unfold plainL at h
  rw [Bool.and_eq_true] at h
  exact h.1
theorem camB_camC {l : List UInt8} (h : plainL l = true) : camB (camC l) = true := by
  have hn := plain_nm h
  obtain ⟨h1, h2, h3⟩ := name_parts hn
  have hn2 : nameOf (runes (mkB l)) = true := hn
  unfold camC
  rw [if_pos hn2]
  have e0 : runes (mkB l) = runes ⟨l.toArray⟩ := rfl
  rw [e0]
  generalize runes ⟨l.toArray⟩ = rs at h1 h2 h3
  have hcn := camel_name rs true h3
  have hcl := camel_lenK rs true
  have hre : runes (mkB (encL (camelL true rs))) = camelL true rs := runes_enc _ fun r hr => two_of_name (hcn r hr).1
  unfold camB
  rw [hre, Bool.and_eq_true]
  constructor
  · unfold nameOf
    rw [Bool.and_eq_true, Bool.and_eq_true, decide_eq_true_iff, List.all_eq_true]
    cases rs with
    | nil => simp at h1
    | cons r t =>
      have h2 : isLetter r = true := h2
      have h95 : r ≠ 95 := by
        intro e
        subst e
        revert h2
        decide
      have e2 : camelL true (r :: t) = (if (true && isSmall r) = true then r - 32 else r) :: camelL false t := by rw [camelL, if_neg h95]
      refine ⟨⟨⟨?_, by omega⟩, ?_⟩, fun q hq => (hcn q hq).1⟩
      · rw [e2, List.length_cons]; omega
      · rw [e2]
        show isLetter (if (true && isSmall r) = true then r - 32 else r) = true
        rw [Bool.true_and]
        split
        · rename_i hsm
          unfold isSmall at hsm
          rw [decide_eq_true_iff] at hsm
          unfold isLetter
          rw [decide_eq_true_iff]
          omega
        · exact h2
  · rw [Bool.not_eq_true', ← Bool.not_eq_true, List.contains_iff_mem]
    intro hm
    obtain ⟨r, hr, hb⟩ := List.mem_flatMap.1 hm
    exact enc_no95 r (hcn r hr).1 (hcn r hr).2 _ hb rfl
theorem name_enc (x : List UInt8) (h : ∀ r ∈ runes (mkB x), nameRune r = true) : x = encL (runes ⟨x.toArray⟩) := by
  have hs : (mkB x).size = x.length := by show x.toArray.size = _; simp
  have := rns_bytes (mkB x) (by rw [hs]; simp [mkB]) (mkB x).size 0 (by omega) (fun r hr => (two_of_name (h r hr)).2)
  simpa [runes, mkB] using this
theorem und_app (a b : List UInt8) : undL (a ++ b) = undL a ++ undL b := List.map_append
theorem und_plain {x : List UInt8} (h : plainL x = true) : undL x = x := by
  have hn := plain_nm h
  have hb := bytes_ok x (name_parts hn).2.2
  refine undL_id fun j e => ?_
  have := hb 46 (List.mem_of_getElem? e)
  revert this
  unfold okB
  decide
theorem und_join : ∀ (L : List (List UInt8)), L ≠ [] → (∀ x ∈ L, plainL x = true) → ∃ rs : List Int, undL (jn L) = encL rs ∧ 1 ≤ rs.length ∧ rs.length ≤ 41 * L.length ∧ isLetter (rs.headD 0) = true ∧ ∀ r ∈ rs, nameRune r = true
  | [], h, _ => absurd rfl h
  | x :: L, _, hp => by
    have hx := hp x List.mem_cons_self
    have hn := plain_nm hx
    obtain ⟨h1, h2, h3⟩ := name_parts hn
    have hux := und_plain hx
    have hxe := name_enc x h3
    by_cases hL : L = []
    · subst hL
      refine ⟨runes ⟨x.toArray⟩, ?_, h1.1, by simp; omega, h2, h3⟩
      show undL (jn [x]) = _
      rw [show jn [x] = x from rfl, hux]; exact hxe
    · obtain ⟨rs, e, l1, l2, l3, l4⟩ := und_join L hL fun y hy => hp y (List.mem_cons_of_mem _ hy)
      refine ⟨runes ⟨x.toArray⟩ ++ 95 :: rs, ?_, by rw [List.length_append, List.length_cons]; omega, ?_, ?_, ?_⟩
      · rw [jn_cons x L hL, und_app, und_app, hux, e, encL_append, encL_cons, ← hxe, List.append_assoc, enc_small 95 (by omega) (by omega)]
        rfl
      · rw [List.length_append, List.length_cons, List.length_cons]; omega
      · cases hr : runes ⟨x.toArray⟩ with
        | nil => rw [hr] at h1; simp at h1
        | cons r t => rw [hr] at h2; exact h2
      · intro r hr
        rcases List.mem_append.1 hr with hr | hr
        · exact h3 r hr
        · rcases List.mem_cons.1 hr with rfl | hr
          · decide
          · exact l4 r hr
theorem msgB_path {p : List UInt8} (h : pathOK p = true) : msgB (undL p) = true := by
  unfold pathOK at h
  rw [Bool.and_eq_true, decide_eq_true_iff, List.all_eq_true] at h
  have hne : pcs [] p ≠ [] := by
    intro e
    have := (pcs_len p []).1
    rw [e] at this; simp at this
  obtain ⟨rs, e, l1, l2, l3, l4⟩ := und_join (pcs [] p) hne h.2
  rw [jn_pcs, List.nil_append] at e
  unfold msgB
  rw [e]
  have hre : runes (mkB (encL rs)) = rs := runes_enc _ fun r hr => two_of_name (l4 r hr)
  rw [hre]
  unfold msgN
  rw [Bool.and_eq_true, Bool.and_eq_true, decide_eq_true_iff, List.all_eq_true]
  exact ⟨⟨⟨l1, by have := h.1; omega⟩, l3⟩, l4⟩
theorem rights : ∀ (l : List Rw) (n : Nat), (∀ (k : Nat) (r : Rw), l[k]? = some r → r.id = ((n + k : Nat) : Int) + 1 ∧ rightR r = true) → rightLs n l = true
  | [], n, _ => rfl
  | r :: t, n, h => by
    have h0 := h 0 r rfl
    unfold rightLs
    rw [Bool.and_eq_true, Bool.and_eq_true, decide_eq_true_iff]
    refine ⟨⟨by have := h0.1; simpa using this, h0.2⟩, rights t (n + 1) fun k r hr => ?_⟩
    have := h (k + 1) r hr
    exact ⟨by have := this.1; rw [show n + 1 + k = n + (k + 1) by omega]; exact this, this.2⟩
theorem nm_path {s : SC} (h : FormS s) {i : Int} (hi : inB s.ms.length i = true) : pathOK (nmAt s.ms i) = true := by
  unfold inB at hi
  rw [decide_eq_true_iff] at hi
  have hlt : i.toNat < s.ms.length := by omega
  have h1 := h.1
  unfold formS at h1
  simp only [Bool.and_eq_true] at h1
  have h2 : formN (namesS s) = true := h1.2.1
  have hg : s.ms[i.toNat]? = some s.ms[i.toNat] := List.getElem?_eq_getElem hlt
  have h3 : (namesS s)[i.toNat]? = some (s.ms[i.toNat]).name := by
    unfold namesS
    rw [List.getElem?_append_left (by rw [List.length_map]; exact hlt), List.getElem?_map, hg]
    rfl
  have h4 := allA_iff.1 h2 _ _ h3
  unfold goodN at h4
  rw [Bool.and_eq_true] at h4
  unfold nmAt
  rw [hg]
  exact h4.1
theorem good_all {s : SC} (h : FormS s) {k : Nat} {t : TD} (ht : s.ts[k]? = some t) : t.id = (k : Int) + 1 ∧ plainL t.service = true ∧ plainL t.name = true ∧ inB s.ms.length t.inp = true ∧ inB s.ms.length t.out = true := by
  have h1 := h.1
  unfold formS at h1
  simp only [Bool.and_eq_true] at h1
  have h2 : formT s.ms.length s.ts = true := h1.2.2.2.2
  have h3 := allA_iff.1 h2 k t ht
  unfold goodT at h3
  simp only [Bool.and_eq_true, decide_eq_true_iff] at h3
  exact ⟨h3.1, h3.2.1, h3.2.2.1, h3.2.2.2.2.1, h3.2.2.2.2.2⟩
/-- the rows of a formed schema may be read -/
theorem rows_right {s : SC} (h : FormS s) : rightLs 0 (rowsL s) = true := by
  refine rights _ 0 fun k r hr => ?_
  unfold rowsL at hr
  rw [List.getElem?_map] at hr
  obtain ⟨t, ht, rfl⟩ := Option.map_eq_some_iff.1 hr
  obtain ⟨g1, g2, g3, g4, g5⟩ := good_all h ht
  refine ⟨by show t.id = _; rw [g1, Nat.zero_add], ?_⟩
  unfold rightR rowL
  simp only [Bool.and_eq_true]
  exact ⟨⟨⟨camB_camC g2, camB_camC g3⟩, msgB_path (nm_path h g4)⟩, msgB_path (nm_path h g5)⟩
theorem ts_few {s : SC} (h : FormS s) : s.ts.length ≤ 64 := by
  have h1 := h.1
  unfold formS lenB at h1
  simp only [Bool.and_eq_true, decide_eq_true_iff] at h1
  exact h1.1.2.2
theorem rowsL_len (s : SC) : (rowsL s).length = s.ts.length := by unfold rowsL; rw [List.length_map]
theorem text_short {s : SC} (hf : FitS s) (h : FormS s) : (textT none (rowsL s)).length ≤ 1000000000 := by
  rw [← text_two h]
  have h1 := text_len (rowsL s) (rows_fit hf h)
  have h2 := ts_few h
  rw [rowsL_len] at h1
  omega
/-- what the program reads of the stubs of a formed schema -/
theorem stubs_read {s : SC} (hf : FitS s) (h : FormS s) : readP (textT none (rowsL s)) = some (rowsL s) ∧ ∀ l, runSt stP [] (segs (textT none (rowsL s)).length (textT none (rowsL s))) = some l → (∀ r ∈ l, FitRw r) ∧ l.length ≤ 1000000 := by
  have hr := rows_right h
  refine ⟨right_read _ hr, fun l hl => ?_⟩
  obtain ⟨a, b⟩ := rightLs_iff (rowsL s) 0 hr
  have h2 := (back_text (rowsL s) a b none).1
  rw [h2] at hl
  obtain rfl := Option.some.inj hl
  exact ⟨rows_fit hf h, by rw [rowsL_len]; have := ts_few h; omega⟩
end Go.Proofs.YtkhnicppcbgdiaaGreatDoor
