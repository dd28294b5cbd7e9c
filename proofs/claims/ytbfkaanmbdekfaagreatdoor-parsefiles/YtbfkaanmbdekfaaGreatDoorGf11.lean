/-
  What the laws of this layer ask of Words, as one sentence (DevWords), and, where it holds, the walk over the laws' own awake.
  The walk over the program's own Words: the words of a text, or its error, and place.
  The walk over the program's own File.
  The walk over the laws' own awake, and what a slice of declarations in memory leads to.
  The walks over the document's own Scalar and Reserved.
-/
import Derived.Test.YtbfkaanmbdekfaaGreatDoorGf10
import Derived.Test.YtbfkaanmbdekfaaGreatDoorProg
import Derived.Test.YtbfkaanmbdekfaaGreatDoorGf2
import Derived.Deep.RegionWith
import Derived.Deep.QuietTactic
import Derived.BigQuiet
import Derived.Deep.RegionLaw
import Derived.Deep.RegionHeldLaw
import Derived.Deep.DeepCutAuto
import Derived.Lib.IndexBytes
import Derived.Test.YtbfkaanmbdekfaaGreatDoorGf9
namespace Go.Proofs.YtbfkaanmbdekfaaGreatDoor
set_option linter.unusedVariables false
open Go.ChangeShapes Go.WideShapes Go.ChangeAt Go.RowKit

/-- words lie in memory, from a block's first place on, four cells each -/
def HeldW (w : World) (ad : Option Addr) (ws : List Wd) : Prop :=
  ws = [] ∨ ∃ g, ad = some ⟨g, 0, none⟩ ∧ ∀ (j : Nat) (x : Wd), ws[j]? = some x → w.cell? ⟨g, j * 4, none⟩ = some (.int .i64 x.kind) ∧ w.cell? ⟨g, j * 4 + 1, none⟩ = some (.string (mkB x.text)) ∧
    w.cell? ⟨g, j * 4 + 2, none⟩ = some (.int .i64 (x.line : Int)) ∧ w.cell? ⟨g, j * 4 + 3, none⟩ = some (.int .i64 (x.col : Int))
theorem heldW_old {w w' : World} {ad : Option Addr} {ws : List Wd} (h : HeldW w ad ws) (hb : Below w.heap.size w w') : HeldW w' ad ws := by
  rcases h with h | ⟨g, rfl, h⟩
  · exact .inl h
  · refine .inr ⟨g, rfl, fun j x hj => ?_⟩
    obtain ⟨h1, h2, h3, h4⟩ := h j x hj
    have hlt : g < w.heap.size := by
      by_cases hg : g < w.heap.size
      · exact hg
      · simp [World.cell?, Array.getElem?_eq_none (Nat.le_of_not_lt hg)] at h1
    refine ⟨?_, ?_, ?_, ?_⟩
    · rw [hb.cell hlt]; exact h1
    · rw [hb.cell hlt]; exact h2
    · rw [hb.cell hlt]; exact h3
    · rw [hb.cell hlt]; exact h4
theorem heldW_at {w : World} {ad : Option Addr} {ws : List Wd} (h : HeldW w ad ws) {j : Nat} {x : Wd} (hj : ws[j]? = some x) :
    ∃ g, ad = some ⟨g, 0, none⟩ ∧ w.cell? ⟨g, j * 4, none⟩ = some (.int .i64 x.kind) ∧ w.cell? ⟨g, j * 4 + 1, none⟩ = some (.string (mkB x.text)) ∧ w.cell? ⟨g, j * 4 + 2, none⟩ = some (.int .i64 (x.line : Int)) ∧ w.cell? ⟨g, j * 4 + 3, none⟩ = some (.int .i64 (x.col : Int)) := by
  rcases h with rfl | ⟨g, hg, h⟩
  · simp at hj
  · exact ⟨g, hg, h j x hj⟩
/-- what Words answers, as the laws see it -/
def LAns (a : List Wd × (Nat × Nat) × Int) (e : Ending) (w' : World) : Prop :=
  ∃ (ad : Option Addr) (c : Nat) (pl pc : Int), e = .returned (.tuple #[.slice ad a.1.length c, .agg #[.int .i64 pl, .int .i64 pc], .int .i64 a.2.2]) ∧ HeldW w' ad a.1 ∧ a.1.length ≤ c ∧ (a.2.2 ≠ 0 → pl = (a.2.1.1 : Int) ∧ pc = (a.2.1.2 : Int))
/-- what the program's Words is to answer -/
def DevWords : Prop := ∀ (s : ByteArray) (w : World), Errs w → s.size ≤ 9223372036854775807 →
  Calls Tryz.prog 15 #[.string s] w fun e w' => LAns (wordsL s.data.toList) e w' ∧ Below w.heap.size w w'
theorem lexL_err : ∀ (f : Nat) (l : List UInt8) (line col : Nat) (acc : List Wd), (lexL f l line col acc).2.2 ≠ 0 → (lexL f l line col acc).1 = []
  | 0, l, line, col, acc, h => absurd rfl h
  | f + 1, l, line, col, acc, h => by
    by_cases h0 : l = []
    · subst h0; rw [lexL_end] at h; exact absurd rfl h
    · by_cases h10 : (nx l).1 = 10
      · rw [lexL_feed f l _ _ _ h0 h10] at h ⊢; exact lexL_err f _ _ _ _ h
      · by_cases hb : (nx l).1 = 32 ∨ (nx l).1 = 9
        · rw [lexL_blank f l _ _ _ h0 hb] at h ⊢; exact lexL_err f _ _ _ _ h
        · by_cases hr : (nx l).1 = 47 ∧ l[1]? = some 47
          · rw [lexL_remark f l _ _ _ h0 hr.1 hr.2] at h ⊢; exact lexL_err f _ _ _ _ h
          · rw [lexL_word f l _ _ _ ⟨h0, h10, fun h => hb (.inl h), fun h => hb (.inr h), hr⟩] at h ⊢
            by_cases c1 : rightL (headW l).1 (l.take (headW l).2.1) (nx l).1 = false
            · rw [if_pos c1]
            · rw [if_neg c1] at h ⊢
              by_cases c2 : acc.length = 4000
              · rw [if_pos c2]
              · rw [if_neg c2] at h ⊢
                exact lexL_err f _ _ _ _ h
theorem words_err (l : List UInt8) (h : (wordsL l).2.2 ≠ 0) : (wordsL l).1 = [] := by
  unfold wordsL at h ⊢
  split
  · rfl
  · rename_i c; rw [if_neg c] at h; exact lexL_err _ _ _ _ _ h
theorem words_count (l : List UInt8) : (wordsL l).1.length ≤ 4000 := by
  unfold wordsL
  split
  · simp
  · exact lexL_count _ _ _ _ _ (by simp)
theorem words_aw : (wordsL [97, 61, 49, 59, 47, 47, 32, 120]).2.2 = 0 ∧ (wordsL [97, 61, 49, 59, 47, 47, 32, 120]).1.length = 4 ∧ ((wordsL [97, 61, 49, 59, 47, 47, 32, 120]).1[2]?.map fun x => (x.kind, x.text)) = some (2, [49]) := by
  decide +kernel
end Go.Proofs.YtbfkaanmbdekfaaGreatDoor
namespace Go.Proofs.YtbfkaanmbdekfaaGreatDoor
set_option linter.unusedVariables false
open Go.ChangeShapes Go.WideShapes Go.ChangeAt Go.RowKit

theorem flatD_get : ∀ (xs : List Wd) (j : Nat) (x : Wd) (i : Nat), i < 4 → xs[j]? = some x → (xs.flatMap wrowD)[j * 4 + i]? = (wrowD x)[i]?
  | [], j, x, i, hi, h => by simp at h
  | a :: t, 0, x, i, hi, h => by
    have : a = x := by simpa using h
    subst this
    rw [List.flatMap_cons, List.getElem?_append_left (by simp [wrowD]; omega)]; simp
  | a :: t, j + 1, x, i, hi, h => by
    have hl : (wrowD a).length = 4 := rfl
    rw [List.flatMap_cons, List.getElem?_append_right (by rw [hl]; omega), hl, show (j + 1) * 4 + i - 4 = j * 4 + i by omega]
    exact flatD_get t j x i hi (by simpa using h)
theorem ownD_held {w : World} {base : Nat} {v : Value} {xs : List Wd} (h : OwnD w base v xs) : ∃ ad c, v = .slice ad xs.length c ∧ HeldW w ad xs ∧ xs.length ≤ c := by
  obtain ⟨hl, ⟨rfl, h0⟩ | ⟨g, cap, cur, rfl, hg, hh, h3, h4, h5, h6⟩⟩ := h
  · exact ⟨none, 0, by rw [h0], .inl (List.eq_nil_of_length_eq_zero h0), by omega⟩
  · refine ⟨_, cap, rfl, .inr ⟨g, rfl, fun j x hj => ?_⟩, h3⟩
    have hjl := (List.getElem?_eq_some_iff.1 hj).1
    have key : ∀ i, i < 4 → w.cell? ⟨g, j * 4 + i, none⟩ = (wrowD x)[i]? := fun i hi => by
      have e := flatD_get xs j x i hi hj
      rw [← h6, List.getElem?_take, if_pos (by omega)] at e
      simp only [World.cell?, hh]
      rw [← e]
      simp
    exact ⟨key 0 (by omega), key 1 (by omega), key 2 (by omega), key 3 (by omega)⟩
set_option maxHeartbeats 2000000 in
theorem clone_any (s : ByteArray) (w : World) (hs : s.size ≤ 1048576) :
    Calls Tryz.prog 29 #[.string s] w fun e w' => e = .returned (.string s) ∧ Below w.heap.size w w' := by
  have h := stringslite_Clone s w (by omega)
  go_enter Tryz.func29, Tryz.ntmps29
  go_wp2_with fail
  refine h.mono ?_
  rintro e w1 ⟨rfl, hb⟩
  go_wp2_with fail
  go_ret
  exact ⟨rfl, hb⟩
/-- the program's answer, in a form that the walk leaves alone -/
def DAns (a : List Wd × (Nat × Nat) × Int) (e : Ending) (w' : World) : Prop := LAns a e w'
theorem dans_err (pl pc : Nat) (er : Int) (w' : World) : DAns ([], (pl, pc), er) (.returned (.tuple #[.slice none 0 0, .agg #[.int .i64 (pl : Int), .int .i64 (pc : Int)], .int .i64 er])) w' :=
  ⟨none, 0, _, _, rfl, .inl rfl, Nat.le_refl _, fun _ => ⟨rfl, rfl⟩⟩
set_option maxHeartbeats 8000000 in
set_option maxRecDepth 20000 in
theorem wordsD_any (s : ByteArray) (w : World) (hE : Errs w) (hs : s.size ≤ 9223372036854775807) :
    Calls Tryz.prog 15 #[.string s] w fun e w' => DAns (wordsL s.data.toList) e w' ∧ Below w.heap.size w w' := by
  by_cases h2 : s.size ≤ 20000
  · have h2' : ¬ (20000 : Int) < (s.size : Int) := by omega
    have HW : Hid (wordsL s.data.toList = lexL s.size s.data.toList 1 1 []) := by
      refine (?_ : _ = _)
      unfold wordsL; rw [if_neg (by rw [len_data]; omega), len_data]
    have HE : Hid (Errs w) := hE
    clear hE hs
    have HL : Hid (s.data.toList.length = s.size) := len_data s
    obtain ⟨ANS, hANS⟩ : ∃ a, wordsL s.data.toList = a := ⟨_, rfl⟩
    rw [hANS] at HW ⊢
    clear hANS
    go_enter Tryz.func15, Tryz.ntmps15
    go_wp2_with fail
    go_loopw [6, 7] (fun v en wr => ∃ (p e line col c f : Nat) (acc : List Wd), en = .int .i64 (e : Int) ∧ Sd w wr w.heap.size s p line col v acc ∧ Gap s.data.toList c p e ∧ p ≤ s.size ∧ e ≤ s.size ∧ s.size ≤ e + f ∧ line ≤ p + 1 ∧ col ≤ p + 1 ∧ acc.length ≤ 4000 ∧ ANS = lexL f (s.data.toList.drop e) line (col + c) acc) (fun _ _ wr => s.size - wr.iterPos (w.heap.size + 2))
    case atStart => exact ⟨0, 0, 1, 1, 0, s.size, [], rfl, Sd.start w s, rfl, by omega, by omega, by omega, by omega, by omega, by simp, by rw [List.drop_zero]; exact HW.out⟩
    case round =>
      obtain ⟨p, e, line, col, c, f, acc, rfl, hSd, hG, hps, hes, hf, hln, hcl, hac, hans⟩ := hrel
      have HA : Hid (ANS = lexL f (s.data.toList.drop e) line (col + c) acc) := hans
      have HG : Hid (Gap s.data.toList c p e) := hG
      obtain ⟨oa, oc, rfl⟩ := ownD_slice hSd.own
      have HS : Hid (Sd w wr w.heap.size s p line col (.slice oa acc.length oc) acc) := hSd
      have hpe : p + c ≤ e := hG.le
      have hit := hSd.it
      have hm0 : wr.iterPos (w.heap.size + 2) = p := by simp [World.iterPos, hit]
      have HM : Hid (wr.iterPos (w.heap.size + 2) = p) := hm0
      clear hans hG hSd hm0
      by_cases hp : p < s.size
      · have hnx : ∀ ty, (Instr.next (.pointer (some ⟨w.heap.size + 2, 0, none⟩)) true ty).run Tryz.prog wr = _ := fun ty => Lib.run_next_any_at wr (w.heap.size + 2) s p ty hit hp
        have hne : s.data.toList.drop p ≠ [] := drop_some (by rw [HL.out]; exact hp)
        have hdd : Lib.decodeL (s.data.toList.drop p) = Utf8.decode s p := Lib.decodeL_drop s p
        have hrn := rn_nx _ hne
        have hwl := nx_width _ hne
        have hwd : (nx (s.data.toList.drop p)).2 = (Utf8.decode s p).2 := by rw [← hrn.2, hdd]
        rw [List.length_drop, HL.out, hwd] at hwl
        have HRN : Hid (rn (s.data.toList.drop p) = ((Utf8.decode s p).1 : Int)) := by refine (?_ : _ = _); unfold rn; rw [hdd]
        have HWD : Hid ((nx (s.data.toList.drop p)).2 = (Utf8.decode s p).2) := hwd
        have HS1 : Hid (Sd w (wr.iterAt (w.heap.size + 2) s (p + (Utf8.decode s p).2)) w.heap.size s (p + (Utf8.decode s p).2) line col (.slice oa acc.length oc) acc) := HS.out.next _
        clear hrn hdd hwd HS hit
        generalize (Utf8.decode s p).2 = wd at *
        generalize ((Utf8.decode s p).1 : Int) = r at *
        generalize wr.iterAt (w.heap.size + 2) s (p + wd) = wi at *
        obtain ⟨p0, p1, fz0, fz1, a0, a1, fa0, fa1⟩ := HS1.out.cells
        by_cases hin : p < e
        · have hge : ¬ (e : Int) ≤ (p : Int) := by omega
          have hc1 : ∃ c', c = c' + 1 := by
            cases c with
            | zero => have : p = e := HG.out; omega
            | succ c => exact ⟨c, rfl⟩
          obtain ⟨c, rfl⟩ := hc1
          have h10 : r ≠ 10 := by
            have := HG.out.2.1
            rw [← HRN.out]
            exact fun h => this ((rn_is _ hne 10 (by omega) (by omega)).1 h)
          have HG2 : Hid (Gap s.data.toList c (p + wd) e) := by have := HG.out.2.2; rw [HWD.out] at this; exact this
          have hBe := behindL_any line col r wi (by omega) (by omega)
          rw [if_neg h10, if_neg h10] at hBe
          have HX : Hid (ANS = lexL f (s.data.toList.drop e) line (col + 1 + c) acc) := by
            refine (?_ : _ = _)
            rw [HA.out]; congr 1; omega
          clear HA HG HRN hne h10 a0 a1 fa0 fa1
          go_wp2_with fail
          refine hBe.mono ?_
          rintro e2 W2 ⟨rfl, hb2⟩
          have HS2 : Hid (Sd w W2 w.heap.size s (p + wd) line col (.slice oa acc.length oc) acc) := HS1.out.old hb2
          obtain ⟨q0, q1, qf0, qf1, _, _, _, _⟩ := HS2.out.cells
          have HS3 := HS2.out.place line (col + 1)
          clear hBe hb2 p0 p1 fz0 fz1
          go_wp2_with fail
          go_roundw
          case rel => exact ⟨p + wd, e, line, col + 1, c, f, acc, rfl, HS3, HG2.out, by omega, by omega, by omega, by omega, by omega, by omega, HX.out⟩
          case measure => exact Nat.lt_of_le_of_lt (Nat.le_of_eq (congrArg (fun z => s.size - z) HS3.iterPos)) (by rw [HM.out]; omega)
        · obtain rfl : c = 0 := by omega
          obtain rfl : p = e := by omega
          have hge : (p : Int) ≤ (p : Int) := by omega
          obtain ⟨f, rfl⟩ : ∃ f', f = f' + 1 := ⟨f - 1, by omega⟩
          have HLT := Lib.hid (lex_take f (s.data.toList.drop p) line col acc hne)
          have hE1 : Errs wi := errs_below HE.out HS1.out.below
          have hxd : (s.extract p s.size).data.toList = s.data.toList.drop p := Lib.extract_to_end s p
          have hxs : (s.extract p s.size).size ≤ 1048576 := by rw [← len_data, hxd, List.length_drop, HL.out]; omega
          have hTk := takeD_any (s.extract p s.size) r wi hE1 hxs (by rw [hxd]; exact hne) (by rw [hxd]; exact HRN.out)
          rw [hxd] at hTk
          have htl : p + (takeL (s.data.toList.drop p)).2 ≤ s.size := by
            have := take_le _ hne; rw [List.length_drop, HL.out] at this; omega
          have HTX : Hid (∀ n, (s.data.toList.drop p).drop n = s.data.toList.drop (p + n)) := fun n => List.drop_drop
          have HEX : Hid (∀ n, (s.data.toList.drop p).take n = (s.extract p (p + n)).data.toList) := fun n => by
            rw [Lib.extract_data]; congr 1; omega
          have HGS : Hid (∀ c n, Gap (s.data.toList.drop p) (c + 1) 0 n → Gap s.data.toList c (p + wd) (p + n)) := fun c n h => by
            have h' := h.shift.2.2
            simp only [Nat.add_zero] at h'
            rw [HWD.out] at h'
            exact h'
          have HW10 : Hid (r = 10 → wd = 1) := fun h => by
            rw [← HWD.out]
            have h10 := (rn_is _ hne 10 (by omega) (by omega)).1 (HRN.out.trans h)
            exact width_ascii _ hne (by omega) (by omega)
          have HA' : Hid (ANS = lexL (f + 1) (s.data.toList.drop p) line col acc) := HA.out
          have hrnv := HRN.out
          rw [hrnv] at HLT
          clear HA HG HRN HWD hxd hxs hE1 hne hrnv
          generalize (takeL (s.data.toList.drop p)) = kn at *
          obtain ⟨k, n⟩ := kn
          have hw1 : IntKind.i64.wrap ((p : Int) + (n : Int)) = ((p + n : Nat) : Int) := by rw [IntKind.wrap_i64]; have : p + n ≤ s.size := htl; omega
          have htl : p + n ≤ s.size := htl
          have hTk : Calls Tryz.prog 33 #[.string (s.extract p s.size), .int .i32 r] wi fun e w' => e = .returned (.tuple #[.int .i64 k, .int .i64 (n : Int)]) ∧ Below wi.heap.size wi w' := hTk
          rcases HLT.out with ⟨h0, hlex⟩ | ⟨hkn, hr10, hlex⟩ | ⟨hk0, hn1, hr10, c, hgap, hlex⟩ | ⟨hk0, hn1, hr10, c, hgap, hlex⟩
          · obtain rfl : n = 0 := h0
            obtain rfl : ANS = ([], (line, col), 6) := by rw [HA'.out]; exact hlex
            clear HLT hlex p0 p1 fz0 fz1 a0 a1 fa0 fa1
            go_wp2_with fail
            refine hTk.mono ?_
            rintro e2 W2 ⟨rfl, hb2⟩
            have HS2 : Hid (Sd w W2 w.heap.size s (p + wd) line col (.slice oa acc.length oc) acc) := HS1.out.old hb2
            obtain ⟨p0, p1, fz0, fz1, a0, a1, fa0, fa1⟩ := HS2.out.cells
            obtain ⟨r0, r1, _, hB⟩ := HS2.out.final (.int .i64 (line : Int)) (.int .i64 (col : Int))
            clear hTk hb2
            go_wp2_with fail
            go_region
            all_goals
              go_wp2_with fail
              refine bodyPost_ret (v := .tuple #[.slice none 0 0, .agg #[.int .i64 (line : Int), .int .i64 (col : Int)], .int .i64 6]) (by simp [results, Tryz.results15, go_sem, r0, r1]) rfl ⟨dans_err _ _ _ _, hB.drew⟩
          · obtain ⟨rfl, rfl⟩ : k = 0 ∧ n = 1 := by have := hkn; simp only [Prod.mk.injEq] at this; exact this
            obtain rfl : r = 10 := hr10
            have hwd1 := (HW10.out rfl).symm
            subst hwd1
            have HX : Hid (ANS = lexL f (s.data.toList.drop (p + 1)) (line + 1) (1 + 0) acc) := by
              refine (?_ : _ = _)
              rw [HA'.out, hlex, HTX.out]
            clear HLT hlex hkn p0 p1 fz0 fz1 a0 a1 fa0 fa1
            go_wp2_with fail
            refine hTk.mono ?_
            rintro e2 W2 ⟨rfl, hb2⟩
            have HS2 : Hid (Sd w W2 w.heap.size s (p + 1) line col (.slice oa acc.length oc) acc) := HS1.out.old hb2
            obtain ⟨p0, p1, fz0, fz1, a0, a1, fa0, fa1⟩ := HS2.out.cells
            have hBe := behindL_any line col 10 W2 (by omega) (by omega)
            rw [if_pos rfl, if_pos rfl] at hBe
            clear hTk hb2
            go_wp2_with fail
            refine hBe.mono ?_
            rintro e3 W3 ⟨rfl, hb3⟩
            have HS3 : Hid (Sd w W3 w.heap.size s (p + 1) line col (.slice oa acc.length oc) acc) := HS2.out.old hb3
            obtain ⟨q0, q1, qf0, qf1, _, _, _, _⟩ := HS3.out.cells
            have HS4 := HS3.out.place (line + 1) 1
            clear hBe hb3 p0 p1 fz0 fz1 a0 a1 fa0 fa1
            go_wp2_with fail
            go_roundw
            case rel => exact ⟨p + 1, p + 1, line + 1, 1, 0, f, acc, rfl, HS4, rfl, by omega, by omega, by omega, by omega, by omega, by omega, HX.out⟩
            case measure => exact Nat.lt_of_le_of_lt (Nat.le_of_eq (congrArg (fun z => s.size - z) HS4.iterPos)) (by rw [HM.out]; omega)
          · obtain rfl : k = 0 := hk0
            have h10 : r ≠ 10 := hr10
            have hn1 : 1 ≤ n := hn1
            have HG2 : Hid (Gap s.data.toList c (p + wd) (p + n)) := HGS.out c n hgap
            have hn0 : ((n : Int) == 0) = false := beq_eq_false_iff_ne.2 (by omega)
            have HX : Hid (ANS = lexL f (s.data.toList.drop (p + n)) line (col + 1 + c) acc) := by
              refine (?_ : _ = _)
              rw [HA'.out, hlex, HTX.out]; congr 1; omega
            clear HLT hlex hr10 hgap HGS p0 p1 fz0 fz1 a0 a1 fa0 fa1
            go_wp2_with fail
            refine hTk.mono ?_
            rintro e2 W2 ⟨rfl, hb2⟩
            have HS2 : Hid (Sd w W2 w.heap.size s (p + wd) line col (.slice oa acc.length oc) acc) := HS1.out.old hb2
            obtain ⟨p0, p1, fz0, fz1, a0, a1, fa0, fa1⟩ := HS2.out.cells
            have hBe := behindL_any line col r W2 (by omega) (by omega)
            rw [if_neg h10, if_neg h10] at hBe
            clear hTk hb2 h10
            go_wp2_with fail
            refine hBe.mono ?_
            rintro e3 W3 ⟨rfl, hb3⟩
            have HS3 : Hid (Sd w W3 w.heap.size s (p + wd) line col (.slice oa acc.length oc) acc) := HS2.out.old hb3
            obtain ⟨q0, q1, qf0, qf1, _, _, _, _⟩ := HS3.out.cells
            have HS4 := HS3.out.place line (col + 1)
            clear hBe hb3 p0 p1 fz0 fz1 a0 a1 fa0 fa1
            go_wp2_with fail
            go_roundw
            case rel => exact ⟨p + wd, p + n, line, col + 1, c, f, acc, rfl, HS4, HG2.out, by omega, by omega, by omega, by omega, by omega, by omega, HX.out⟩
            case measure => exact Nat.lt_of_le_of_lt (Nat.le_of_eq (congrArg (fun z => s.size - z) HS4.iterPos)) (by rw [HM.out]; omega)
          · have hk0 : (k == 0) = false := beq_eq_false_iff_ne.2 hk0
            have h10 : r ≠ 10 := hr10
            have hn1 : 1 ≤ n := hn1
            have hn0 : ((n : Int) == 0) = false := beq_eq_false_iff_ne.2 (by omega)
            by_cases hac4 : acc.length = 4000
            · obtain rfl : ANS = ([], (line, col), 4) := by rw [HA'.out, hlex, if_pos hac4]
              have h4 : ((acc.length : Int) == 4000) = true := by rw [beq_iff_eq]; omega
              clear HLT hlex hr10 hgap HGS p0 p1 fz0 fz1 a0 a1 fa0 fa1 hac4
              go_wp2_with fail
              refine hTk.mono ?_
              rintro e2 W2 ⟨rfl, hb2⟩
              have HS2 : Hid (Sd w W2 w.heap.size s (p + wd) line col (.slice oa acc.length oc) acc) := HS1.out.old hb2
              obtain ⟨p0, p1, fz0, fz1, a0, a1, fa0, fa1⟩ := HS2.out.cells
              obtain ⟨r0, r1, _, hB⟩ := HS2.out.final (.int .i64 (line : Int)) (.int .i64 (col : Int))
              clear hTk hb2
              go_wp2_with fail
              go_region
              all_goals
                go_wp2_with fail
                refine bodyPost_ret (v := .tuple #[.slice none 0 0, .agg #[.int .i64 (line : Int), .int .i64 (col : Int)], .int .i64 4]) (by simp [results, Tryz.results15, go_sem, r0, r1]) rfl ⟨dans_err _ _ _ _, hB.drew⟩
            · have h4 : ((acc.length : Int) == 4000) = false := beq_eq_false_iff_ne.2 (by omega)
              have HG2 : Hid (Gap s.data.toList c (p + wd) (p + n)) := HGS.out c n hgap
              obtain ⟨tx, htx⟩ : ∃ tx, s.extract p (p + n) = tx := ⟨_, rfl⟩
              have htxs : tx.size ≤ 1048576 := by
                rw [← htx, ← len_data, ← HEX.out, List.length_take, List.length_drop, HL.out]; omega
              have HX : Hid (ANS = lexL f (s.data.toList.drop (p + n)) line (col + 1 + c) (acc ++ [Wd.mk k tx.data.toList line col])) := by
                refine (?_ : _ = _)
                rw [HA'.out, hlex, if_neg hac4, HTX.out]
                show lexL f _ line (col + (c + 1)) (acc ++ [Wd.mk k ((s.data.toList.drop p).take n) line col]) = _
                rw [HEX.out n, htx]; congr 1; omega
              have hCl := fun W => clone_any tx W htxs
              have hBe' := fun W => behindL_any line col r W (by omega) (by omega)
              rw [if_neg h10, if_neg h10] at hBe'
              clear HLT hlex hr10 hgap HGS p0 p1 fz0 fz1 a0 a1 fa0 fa1 htxs h10
              go_wp2_with fail
              refine hTk.mono ?_
              rintro e2 W2 ⟨rfl, hb2⟩
              have HS2 : Hid (Sd w W2 w.heap.size s (p + wd) line col (.slice oa acc.length oc) acc) := HS1.out.old hb2
              obtain ⟨p0, p1, fz0, fz1, a0, a1, fa0, fa1⟩ := HS2.out.cells
              clear hTk hb2
              have hsl : ∀ W, (Instr.slice 9 (.string s) (some (.int .i64 (p : Int))) (some (.int .i64 ((p : Int) + (n : Int)))) none).run Tryz.prog W = .ok (.string tx) W := fun W => by
                rw [run_slice_string (P := Tryz.prog) W 9 s .i64 .i64 (p : Int) ((p : Int) + (n : Int)) Tryz.underlying9 (by omega) (by omega) (by omega), ← htx]
                congr 3
              go_wp2_with fail
              go_region_held_law (fun W => W.cell? ⟨w.heap.size + 1, 0, none⟩ = some (.int .i64 (line : Int)) ∧ W.cell? ⟨w.heap.size + 1, 1, none⟩ = some (.int .i64 (col : Int)))
                (first
                  | exact ⟨hS6.cells.1, hS6.cells.2.1⟩
                  | exact ⟨(hS5.alloc _).cells.1, (hS5.alloc _).cells.2.1⟩
                  | exact ⟨hS5.cells.1, hS5.cells.2.1⟩
                  | exact ⟨p0, p1⟩)
                (first
                  | (go_at_call 29; refine (hCl _).mono ?_; rintro e5 W5 ⟨rfl, hb5⟩; have hS5 := HS2.out.drew.old hb5)
                  | (refine hS5.push (Wd.mk k tx.data.toList line col) rfl _ _ rfl _ rfl rfl rfl (by omega) ?_; intro g cap W6 hS6))
              all_goals
                clear p0 p1 fz0 fz1 a0 a1 fa0 fa1
                obtain ⟨p0, p1, fz0, fz1, a0, a1, fa0, fa1⟩ := hS6.cells
                have HS6 := Lib.hid hS6
                go_wp2_with fail
                refine (hBe' _).mono ?_
                rintro e7 W7 ⟨rfl, hb7⟩
                have HS7 := Lib.hid (HS6.out.old hb7)
                obtain ⟨q0, q1, qf0, qf1, _, _, _, _⟩ := HS7.out.cells
                have HS8 := HS7.out.place line (col + 1)
                clear hBe' hb7 hS5 hS6 hb5 p0 p1 fz0 fz1 a0 a1 fa0 fa1
                go_wp2_with fail
                go_roundw
                case rel => exact ⟨p + wd, p + n, line, col + 1, c, f, acc ++ [Wd.mk k tx.data.toList line col], rfl, HS8, HG2.out, by omega, by omega, by omega, by omega, by omega, by simp; omega, HX.out⟩
                case measure => exact Nat.lt_of_le_of_lt (Nat.le_of_eq (congrArg (fun z => s.size - z) HS8.iterPos)) (by rw [HM.out]; omega)
      · have hnx : ∀ ty, (Instr.next (.pointer (some ⟨w.heap.size + 2, 0, none⟩)) true ty).run Tryz.prog wr = _ := fun ty => Lib.run_next_end_at wr (w.heap.size + 2) s p ty hit hp
        obtain rfl : c = 0 := by omega
        obtain rfl : p = e := by omega
        have HEN : Hid (ANS = (acc, (0, 0), 0)) := by
          refine (?_ : _ = _)
          rw [HA.out, List.drop_eq_nil_of_le (by rw [HL.out]; omega), lexL_end]
        obtain ⟨p0, p1, fz0, fz1, a0, a1, fa0, fa1⟩ := HS.out.cells
        obtain ⟨r0, r1, hO, hB⟩ := HS.out.final (.int .i64 0) (.int .i64 0)
        have HO := Lib.hid hO
        clear HA hO
        go_wp2_with fail
        refine bodyPost_ret (v := .tuple #[.slice oa acc.length oc, .agg #[.int .i64 0, .int .i64 0], .int .i64 0]) (by simp [results, Tryz.results15, go_sem, r0, r1]) rfl ⟨?_, hB⟩
        obtain ⟨ad, cc, he, hh, hl⟩ := ownD_held HO.out
        rw [HEN.out]
        refine ⟨ad, cc, 0, 0, by rw [he], hh, hl, fun h => absurd rfl h⟩
  · have h2' : (20000 : Int) < (s.size : Int) := by omega
    have HW : Hid (wordsL s.data.toList = ([], (1, 1), 4)) := by
      refine (?_ : _ = _)
      unfold wordsL; rw [if_pos (by rw [len_data]; omega)]
    obtain ⟨ANS, hANS⟩ : ∃ a, wordsL s.data.toList = a := ⟨_, rfl⟩
    rw [hANS] at HW ⊢
    clear hANS
    have hz : ((w.alloc (.cells #[.int .i64 1, .int .i64 1] 25)).alloc (.cells #[.int .i64 1, .int .i64 1] 25)).drew.heap[w.heap.size]? = some (.cells #[.int .i64 1, .int .i64 1] 25 (0, 0)) := by
      show ((w.heap.push _).push _)[w.heap.size]? = _
      rw [Array.getElem?_push_lt (by simp)]; simp
    have hB : Below w.heap.size w ((w.alloc (.cells #[.int .i64 1, .int .i64 1] 25)).alloc (.cells #[.int .i64 1, .int .i64 1] 25)).drew := (((Below.refl _ w).alloc (Nat.le_refl _) _).alloc (by simp) _).drew
    have HZ := Lib.hid hz
    clear hz
    go_enter Tryz.func15, Tryz.ntmps15
    go_wp2_with fail
    go_region
    all_goals
      go_wp2_with fail
      generalize ((w.alloc (.cells #[.int .i64 1, .int .i64 1] 25)).alloc (.cells #[.int .i64 1, .int .i64 1] 25)).drew = W at *
      have r0 : W.cell? ⟨w.heap.size, 0, none⟩ = some (.int .i64 1) := by simp [World.cell?, HZ.out]
      have r1 : W.cell? ⟨w.heap.size, 1, none⟩ = some (.int .i64 1) := by simp [World.cell?, HZ.out]
      refine bodyPost_ret (v := .tuple #[.slice none 0 0, .agg #[.int .i64 1, .int .i64 1], .int .i64 4]) (by simp [results, Tryz.results15, go_sem, r0, r1]) rfl ⟨?_, hB⟩
      rw [HW.out]
      exact dans_err 1 1 4 _
theorem devWords : DevWords := fun s w hE hs => wordsD_any s w hE hs
end Go.Proofs.YtbfkaanmbdekfaaGreatDoor
namespace Go.Proofs.YtbfkaanmbdekfaaGreatDoor
set_option linter.unusedVariables false
open Go.ChangeShapes Go.WideShapes Go.ChangeAt Go.RowKit

/-- the blocks of what is declared: behind the reader, and not the slice's own -/
def AwayG (R : Nat) (wx : World) (v : Value) (b : Nat) : Prop := R + 1 ≤ b ∧ b < wx.heap.size ∧ v.ownBlock ≠ some b
structure Df (w0 wx : World) (A R : Nat) (en : Int × Int) (q : Rd) (v : Value) (ds : List Dc) (rs : List (List Value)) : Prop where
  rd : DrAt wx R en q
  bel : Below w0.heap.size w0 wx
  ans : wx.heap[A]? = some (.cells #[.int .i64 0, .int .i64 0] 25 (0, 0))
  decls : De 9 wx (R + 1) (AwayG R wx v) v ds rs
  ge : w0.heap.size ≤ A
  lt : A < R
section
variable {w0 wx w' : World} {A R : Nat} {en : Int × Int} {q q' : Rd} {v : Value} {ds : List Dc} {rs : List (List Value)}
theorem Df.step (h : Df w0 wx A R en q v ds rs) (hr : DrAt w' R en q') (hg : wx.grownBy w' (some R)) : Df w0 w' A R en q' v ds rs := by
  have hl := h.lt
  have hge := h.ge
  have hRl := h.rd.lt
  have hs := hg.size
  have hb : ∀ b, R + 1 ≤ b → b < wx.heap.size → w'.heap[b]? = wx.heap[b]? := fun b h1 h2 => hg.block b h2 (by intro e; cases e; omega)
  exact ⟨hr, h.bel.grown hg (by have := h.bel.size; omega) (fun k hk => by cases hk; omega), by rw [hg.block A (by omega) (by intro e; cases e; omega)]; exact h.ans,
    h.decls.keep (fun b hb' => hb b (own_block h.decls.own b hb').1 (own_block h.decls.own b hb').2) (fun b hb' => hb b hb'.1 hb'.2.1) (fun b hb' => ⟨hb'.1, by have := hb'.2.1; omega, hb'.2.2⟩), hge, hl⟩
theorem Df.alloc (h : Df w0 wx A R en q v ds rs) (o : Obj) : Df w0 (wx.alloc o) A R en q v ds rs := h.step (h.rd.alloc o) (World.grownBy_alloc _ _ _)
theorem Df.below (h : Df w0 wx A R en q v ds rs) (hb : Below wx.heap.size wx w') : Df w0 w' A R en q v ds rs := h.step (h.rd.below hb) (grownBy_below hb _)
theorem Df.push (h : Df w0 wx A R en q v ds rs) (x : Dc) (kf kv km ki : Value) (hkid : Kids 9 wx (AwayG R wx v) kf kv km ki x) (hone : ∀ u ∈ drow x kf kv km ki, u.oneCell' = true) {ops : Array Oper} {rest : List Oper} {o : Oper} {a : Act} {Q : Exit → Act → World → Prop} (hgd : o.guard = none) (s' x' : Operand)
    (ho : o.op = .call { callee := .builtin .append, args := #[s', x'], argTypes := #[23, 23] })
    (crow : Array Value) (hcs : crow = (drow x kf kv km ki).toArray) (hs : a.eval s' = v) (hx : a.eval x' = .slice (some ⟨wx.heap.size, 0, none⟩) 1 1) (hbd : ds.length ≤ 100000)
    (hk : ∀ g cap W, Df w0 W A R en q (.slice (some ⟨g, 0, none⟩) (ds.length + 1) cap) (ds ++ [x]) (rs ++ [drow x kf kv km ki]) → wpList Tryz.prog ops Q rest (a.put o.dst (.slice (some ⟨g, 0, none⟩) (ds.length + 1) cap)) W) :
    wpList Tryz.prog ops Q (o :: rest) a (wx.alloc (.cells crow 44)) := by
  subst hcs
  have hRl := h.rd.lt
  have hl := h.lt
  have hge := h.ge
  have ha := h.alloc (.cells (drow x kf kv km ki).toArray 44)
  obtain ⟨i0, hi0, hz0, hz1, hz2⟩ := info_parts infoDcD
  refine wpList_append_lies _ hgd s' x' 23 ho (R + 1) 44 i0 _ 8 136 Tryz.underlying23 hi0 hz0 hz1 hz2 rfl (by decide) v ds.length (rs.flatMap id) hs ha.decls.own ⟨wx.heap.size, 0, none⟩ 1 1 (drow x kf kv km ki) hx rfl ?_ hone (by decide) (by unfold maxLen; omega) (by omega) (by simp; omega) _ rfl ?_
  · exact World.news_of_block (cs := (drow x kf kv km ki).toArray) (t := 44) (fr := (0, 0)) (by show (wx.heap.push _)[wx.heap.size]? = _; simp)
  · intro g cap W hown hg hat hlt
    have hsa : (wx.alloc (.cells (drow x kf kv km ki).toArray 44)).heap.size = wx.heap.size + 1 := by simp
    have hsW := hg.size
    have hkW : ∀ b, b < wx.heap.size → v.ownBlock ≠ some b → W.heap[b]? = wx.heap[b]? := fun b hb hne => by
      rw [hg.block b (by rw [hsa]; omega) (fun e => hne e.symm), alloc_heap_old _ _ _ hb]
    have hno : ∀ b, b < R + 1 → v.ownBlock ≠ some b := fun b hb e => by have := (own_block h.decls.own b e).1; omega
    have hgb : R + 1 ≤ g := by
      rcases hat with e | e
      · exact (own_block h.decls.own g e).1
      · rw [hsa] at e; omega
    have hAw : ∀ b, AwayG R wx v b → AwayG R W (.slice (some ⟨g, 0, none⟩) (ds.length + 1) cap) b := fun b hb' => by
      refine ⟨hb'.1, by have := hb'.2.1; rw [hsa] at hsW; omega, ?_⟩
      intro e
      have e' : g = b := by simpa [Value.ownBlock] using e
      subst e'
      rcases hat with e | e
      · exact hb'.2.2 e
      · have := hb'.2.1; rw [hsa] at e; omega
    refine hk g cap W ⟨h.rd.old fun b hb => hkW b (by omega) (hno b hb), (h.bel.alloc (by have := h.bel.size; omega) _).grown hg (by rw [hsa]; have := h.bel.size; omega) (fun b hb => by have := (own_block h.decls.own b hb).1; omega), by rw [hkW A (by omega) (hno A (by omega))]; exact h.ans, ⟨?_, ?_, ?_⟩, hge, hl⟩
    · rw [List.length_append, List.flatMap_append]
      simpa using hown
    · rw [List.length_append, List.length_append, h.decls.len]; rfl
    · intro j d hj
      by_cases hjl : j < ds.length
      · rw [List.getElem?_append_left hjl] at hj
        obtain ⟨f1, v1, m1, i1, hr1, hk1⟩ := h.decls.kids j d hj
        exact ⟨f1, v1, m1, i1, by rw [List.getElem?_append_left (by rw [h.decls.len]; exact hjl)]; exact hr1, (hk1.old fun b hb' => hkW b hb'.2.1 hb'.2.2).more hAw⟩
      · have hjn := (List.getElem?_eq_some_iff.1 hj).1
        rw [List.length_append] at hjn
        have hje : j = ds.length := by simp at hjn; omega
        subst hje
        rw [List.getElem?_append_right (Nat.le_refl _), Nat.sub_self] at hj
        have e : x = d := by simpa using hj
        subst e
        exact ⟨kf, kv, km, ki, by rw [← h.decls.len, List.getElem?_append_right (Nat.le_refl _), Nat.sub_self]; rfl, (hkid.old fun b hb' => hkW b hb'.2.1 hb'.2.2).more hAw⟩
end
/-- what File answers -/
def GAns (a : List Dc × (Int × Int) × Int) (e : Ending) (w' : World) : Prop :=
  ∃ (ad : Option Addr) (c : Nat) (pl pc : Int), e = .returned (.tuple #[.slice ad a.1.length c, .agg #[.int .i64 pl, .int .i64 pc], .int .i64 a.2.2]) ∧ HeldD 10 w' (fun b => b < w'.heap.size) (.slice ad a.1.length c) a.1 ∧ (a.2.2 ≠ 0 → pl = a.2.1.1 ∧ pc = a.2.1.2)
theorem gans_err (pl pc er : Int) (w' : World) : GAns ([], (pl, pc), er) (.returned (.tuple #[.slice none 0 0, .agg #[.int .i64 pl, .int .i64 pc], .int .i64 er])) w' :=
  ⟨none, 0, pl, pc, rfl, HeldD.nil _ _ _ _ _, fun _ => ⟨rfl, rfl⟩⟩
theorem words_goodX (l : List UInt8) : ∀ x ∈ (wordsL l).1, GoodX x := by
  intro x hx
  refine ⟨words_good l x hx, fun hk => ?_⟩
  have hok : WordOK x := by
    unfold wordsL at hx
    split at hx
    · simp at hx
    · exact lexL_ok _ _ _ _ _ (by simp) x hx
  rcases hok with ⟨h1, _⟩ | ⟨_, ⟨rs, h2, h3, h4⟩, _⟩ | ⟨h3, _⟩
  · omega
  · intro e
    rw [e] at h2
    cases rs with
    | nil => exact h3 rfl
    | cons a t =>
      have := congrArg List.length h2
      unfold encL at this
      rw [List.flatMap_cons, List.length_append] at this
      have ht := h4 a (by simp)
      have : (Lib.encodeRune a).length = 0 := by simp at this; omega
      have hp := (enc_len a).1
      omega
  · omega
set_option maxHeartbeats 16000000 in
set_option maxRecDepth 20000 in
theorem fileD_any (s : ByteArray) (w : World) (hT : Errs w) (hs : s.size ≤ 9223372036854775807) :
    Calls Tryz.prog 6 #[.string s] w fun e w' => GAns (fileL s.data.toList) e w' ∧ Below w.heap.size w w' := by
  have hb0 := (Below.refl w.heap.size w).alloc (Nat.le_refl _) (.cells #[.int .i64 0, .int .i64 0] 25)
  have HB0 := Lib.hid hb0
  have HA0 := Lib.hid (alloc_heap_new w (.cells #[.int .i64 0, .int .i64 0] 25))
  have hW := wordsD_any s (w.alloc (.cells #[.int .i64 0, .int .i64 0] 25)) (errs_below hT hb0) hs
  have hzV : (w.alloc (.cells #[.int .i64 0, .int .i64 0] 25)).heap.size = w.heap.size + 1 := by simp
  clear hb0 hT
  by_cases h0 : (wordsL s.data.toList).2.2 = 0
  · have hfl : fileL s.data.toList = fileW (((endOf s.data.toList).1 : Int), ((endOf s.data.toList).2 : Int)) (wordsL s.data.toList).1 := by unfold fileL; rw [if_pos h0]
    have hsh : s.size ≤ 20000 := by have := words_short _ h0; rw [len_data] at this; exact this
    have hEn := fun W => behindD_any s W (by omega)
    have HGD := Lib.hid (words_goodX s.data.toList)
    have HFW := Lib.hid (words_few s.data.toList)
    rw [hfl]
    obtain ⟨en, hen⟩ : ∃ en : Int × Int, (((endOf s.data.toList).1 : Int), ((endOf s.data.toList).2 : Int)) = en := ⟨_, rfl⟩
    rw [hen]
    have e1 : ((endOf s.data.toList).1 : Int) = en.1 := by rw [← hen]
    have e2 : ((endOf s.data.toList).2 : Int) = en.2 := by rw [← hen]
    rw [e1, e2] at hEn
    obtain ⟨WS, hWS⟩ : ∃ WS, wordsL s.data.toList = WS := ⟨_, rfl⟩
    rw [hWS] at hW h0 HGD HFW ⊢
    obtain ⟨ws, wp, we⟩ := WS
    have h0' : we = 0 := h0
    subst h0'
    clear hfl h0 hen e1 e2 hWS
    obtain ⟨DL, hDL⟩ : ∃ DL, declsL en (ws.length + 1) ⟨ws, 0, 0, 0⟩ [] = DL := ⟨_, rfl⟩
    have HDL := Lib.hid hDL
    have hfw : fileW en ws = if DL.2.e = 0 then (DL.1, (0, 0), 0) else ([], (DL.2.pl, DL.2.pc), DL.2.e) := by unfold fileW; rw [hDL]
    show Calls _ _ _ _ fun e w' => GAns (fileW en ws) e w' ∧ _
    rw [hfw]
    obtain ⟨ANS, hANS⟩ : ∃ A : List Dc × (Int × Int) × Int, (if DL.2.e = 0 then (DL.1, (0, 0), 0) else ([], (DL.2.pl, DL.2.pc), DL.2.e)) = A := ⟨_, rfl⟩
    have HAN := Lib.hid hANS
    rw [hANS]
    clear hfw hDL hANS
    go_enter Tryz.func6, Tryz.ntmps6
    go_wp2_with fail
    generalize w.alloc (.cells #[.int .i64 0, .int .i64 0] 25) = V0 at *
    refine hW.mono ?_
    rintro e w1 ⟨⟨ad, c, wl, wc, rfl, hheld, hlc, _⟩, hb1⟩
    have HWA := Lib.hid hheld
    have HB1 := Lib.hid (HB0.out.trans (hb1.mono (by omega)))
    have HA1 : Hid (w1.heap[w.heap.size]? = some (.cells #[.int .i64 0, .int .i64 0] 25 (0, 0))) := by refine (?_ : _ = _); rw [hb1.block _ (by omega)]; exact HA0.out
    have hz1 := hb1.size
    have hlc' : ws.length ≤ c := hlc
    clear hW hheld hb1 HB0 HA0 hlc
    go_wp2_with fail
    refine (hEn _).mono ?_
    rintro e w2 ⟨rfl, hb2⟩
    have hzA : (w1.alloc (.cells #[.int .i64 wl, .int .i64 wc] 25)).heap.size = w1.heap.size + 1 := by simp
    have HB2 := Lib.hid ((HB1.out.alloc HB1.out.size (.cells #[.int .i64 wl, .int .i64 wc] 25)).trans (hb2.mono (by have := HB1.out.size; omega)))
    have hz2 := hb2.size
    have HA2 : Hid (w2.heap[w.heap.size]? = some (.cells #[.int .i64 0, .int .i64 0] 25 (0, 0))) := by refine (?_ : _ = _); rw [hb2.block _ (by omega), alloc_heap_old _ _ _ (by omega)]; exact HA1.out
    have HW2 : Hid (WordsAt w2 w2.heap.size ad ws) := by
      refine (?_ : WordsAt w2 w2.heap.size ad ws)
      rcases HWA.out with hh | ⟨g, rfl, hh⟩
      · exact .inl hh
      · by_cases hws : ws = []
        · exact .inl hws
        · have hg : g < w1.heap.size := by
            cases ws with
            | nil => exact absurd rfl hws
            | cons x t => exact cell_lt (hh 0 x rfl).1
          refine .inr ⟨g, 0, rfl, by omega, fun j x hj => ?_⟩
          have eb : w2.heap[g]? = w1.heap[g]? := by rw [hb2.block g (by omega), alloc_heap_old _ _ _ hg]
          obtain ⟨x1, x2, x3, x4⟩ := hh j x hj
          rw [Nat.zero_add, Nat.zero_add, Nat.zero_add, Nat.zero_add]
          exact ⟨by rw [World.cell?_of_block eb]; exact x1, by rw [World.cell?_of_block eb]; exact x2, by rw [World.cell?_of_block eb]; exact x3, by rw [World.cell?_of_block eb]; exact x4⟩
    clear hb2 HWA HB1 HA1 hEn
    go_wp2_with fail
    have HRD : Hid (DrAt (w2.alloc (.cells #[.slice ad ws.length c, .int .i64 en.1, .int .i64 en.2, .int .i64 0, .int .i64 0, .int .i64 0] 52)) w2.heap.size en ⟨ws, 0, 0, 0⟩) :=
      ⟨⟨ad, c, alloc_heap_new _ _, hlc', HW2.out.old fun k hk => alloc_heap_old _ _ _ hk⟩, HGD.out, HFW.out⟩
    have HLF : Hid (Df w (w2.alloc (.cells #[.slice ad ws.length c, .int .i64 en.1, .int .i64 en.2, .int .i64 0, .int .i64 0, .int .i64 0] 52)) w.heap.size w2.heap.size en ⟨ws, 0, 0, 0⟩ (.slice none 0 0) [] []) :=
      ⟨HRD.out, HB2.out.alloc HB2.out.size _, by rw [alloc_heap_old _ _ _ (by omega)]; exact HA2.out, De.nil _ _ _ _, Nat.le_refl _, by omega⟩
    have hfew : ws.length ≤ 4000 := HFW.out
    clear HRD HW2 HB2 HA2 HGD HFW
    generalize w2.heap.size = R at *
    go_loopw [9] (fun v wr => ∃ (f : Nat) (q : Rd) (ds : List Dc) (rs : List (List Value)), Df w wr w.heap.size R en q v ds rs ∧ q.e = 0 ∧ q.m ≤ f ∧ ds.length + q.m ≤ 4001 ∧ DL = declsL en f q ds) (fun _ wr => rdM wr R)
    case atStart => exact ⟨ws.length + 1, ⟨ws, 0, 0, 0⟩, [], [], HLF.out, rfl, Rd.m_le _, by have := Rd.m_le ⟨ws, 0, 0, 0⟩; show 0 + _ ≤ _; have e : (Rd.mk ws 0 0 0).l.length = ws.length := rfl; omega, HDL.out.symm⟩
    case round =>
      obtain ⟨f, q, ds, rs, hLf, he, hmf, hacc, hdl⟩ := hrel
      obtain ⟨va0, vc0, rfl⟩ := own_slice hLf.decls.own
      have HDQ := Lib.hid hdl
      have HLf := Lib.hid hLf
      obtain ⟨qa, qc, hql, hqw, _, c0, c1, c2, c3, c4, c5, hqf⟩ := hLf.rd.get
      have HM0 := Lib.hid hLf.rd.m
      have hAR := hLf.lt
      have hRl := hLf.rd.lt
      clear hdl hLf hqw hqf c1 c2 c3 c4 c5
      by_cases hne : q.l = []
      · obtain rfl : DL = (ds, q) := by rw [HDQ.out, declsL_stop en f q ds (fun hh => hh.2 hne)]
        obtain rfl : ANS = (ds, (0, 0), 0) := by rw [← HAN.out, if_pos he]
        have hA := HLf.out.ans
        have a0 : wr.cell? ⟨w.heap.size, 0, none⟩ = some (.int .i64 0) := by simp [World.cell?, hA]
        have a1 : wr.cell? ⟨w.heap.size, 1, none⟩ = some (.int .i64 0) := by simp [World.cell?, hA]
        have b0 : wr.frozen? ⟨w.heap.size, 0, none⟩ = false := by simp [World.frozen?, hA]
        have b1 : wr.frozen? ⟨w.heap.size, 1, none⟩ = false := by simp [World.frozen?, hA]
        rw [hne] at c0
        have c0' : wr.cell? ⟨R, 0, none⟩ = some (.slice qa 0 qc) := c0
        have HST : Hid (∃ Y, (wr.setCell ⟨w.heap.size, 0, none⟩ (.int .i64 0)).setCell ⟨w.heap.size, 1, none⟩ (.int .i64 0) = Y ∧ Y.cell? ⟨w.heap.size, 0, none⟩ = some (.int .i64 0) ∧ Y.cell? ⟨w.heap.size, 1, none⟩ = some (.int .i64 0) ∧ Below w.heap.size w Y ∧ (∀ b, b ≠ w.heap.size → Y.heap[b]? = wr.heap[b]?)) := by
          refine (?_ : ∃ Y, _)
          have g1 : (wr.setCell ⟨w.heap.size, 0, none⟩ (.int .i64 0)).heap[w.heap.size]? = some (.cells #[.int .i64 0, .int .i64 0] 25 (0, 0)) := setCell_heap hA _
          have g2 : ((wr.setCell ⟨w.heap.size, 0, none⟩ (.int .i64 0)).setCell ⟨w.heap.size, 1, none⟩ (.int .i64 0)).heap[w.heap.size]? = some (.cells #[.int .i64 0, .int .i64 0] 25 (0, 0)) := setCell_heap g1 _
          have g3 := (HLf.out.bel.setCell (p := ⟨w.heap.size, 0, none⟩) (Nat.le_refl _) (.int .i64 0)).setCell (p := ⟨w.heap.size, 1, none⟩) (Nat.le_refl _) (.int .i64 0)
          have g4 : ∀ b, b ≠ w.heap.size → ((wr.setCell ⟨w.heap.size, 0, none⟩ (.int .i64 0)).setCell ⟨w.heap.size, 1, none⟩ (.int .i64 0)).heap[b]? = wr.heap[b]? := fun b hb => by rw [Below.heap_setCell _ _ _ _ hb, Below.heap_setCell _ _ _ _ hb]
          generalize (wr.setCell ⟨w.heap.size, 0, none⟩ (.int .i64 0)).setCell ⟨w.heap.size, 1, none⟩ (.int .i64 0) = Y at *
          exact ⟨Y, rfl, by simp [World.cell?, g2], by simp [World.cell?, g2], g3, g4⟩
        obtain ⟨Y, hY, r0, r1, hBY, hoY⟩ := HST.out
        have HY := Lib.hid hY
        have HHD : Hid (HeldD 10 Y (fun b => b < Y.heap.size) (.slice va0 ds.length vc0) ds) := by
          refine (?_ : HeldD 10 Y _ _ _)
          have hsY : Y.heap.size = wr.heap.size := by rw [← hY]; simp
          have hd := HLf.out.decls.keep (w' := Y) (S' := AwayG R wr (.slice va0 ds.length vc0)) (fun b hb => hoY b (by have := (own_block HLf.out.decls.own b hb).1; omega)) (fun b hb => hoY b (by have := hb.1; omega)) (fun b hb => hb)
          refine hd.held (fun b hb => by rw [hsY]; exact hb.2.1) fun b hb => ?_
          rw [hsY]; exact (own_block HLf.out.decls.own b hb).2
        clear hne c0 hY hoY he hA HST
        go_wp2_with fail
        rw [HY.out]
        exact bodyPost_ret (v := .tuple #[.slice va0 ds.length vc0, .agg #[.int .i64 0, .int .i64 0], .int .i64 0]) (by simp [results, Tryz.results6, go_sem, r0, r1]) rfl ⟨⟨va0, vc0, 0, 0, rfl, HHD.out, fun h => absurd rfl h⟩, hBY⟩
      · have hm1 : 1 ≤ q.m := by unfold Rd.m; rw [if_pos he]; omega
        obtain ⟨f, rfl⟩ : ∃ f', f = f' + 1 := ⟨f - 1, by omega⟩
        have hql0 : 0 < q.l.length := List.length_pos_iff.2 hne
        have hz : (0 : Int) < (q.l.length : Int) := by omega
        have HVO : Hid (∀ b, (Value.slice va0 ds.length vc0).ownBlock = some b → b < wr.heap.size) := fun b hb => (own_block HLf.out.decls.own b hb).2
        have hRec := declarationD_any R en q wr he HLf.out.rd
        have hmch := declS_m en q
        have HOK : Hid ((declS en q).2.e = 0 → DL = declsL en f (declS en q).2 (ds ++ [(declS en q).1])) := fun hz => by rw [HDQ.out, declsL_step en f q ds ⟨he, hne⟩, if_pos hz]
        have HNO : Hid ((declS en q).2.e ≠ 0 → DL.2 = (declS en q).2) := fun hz => by rw [HDQ.out, declsL_err en f q ds ⟨he, hne⟩ hz]
        generalize declS en q = CH at *
        clear HDQ hne
        go_wp2_with fail
        refine hRec.mono ?_
        rintro e W5 ⟨d, fa, fn, fc, va, vn, vc, ma, mn, mc, ia, inn, ic, rfl, hd, hr5, hg5, hkid⟩
        have HL5 := Lib.hid (HLf.out.step hr5 hg5)
        have hz5 := hg5.size
        have HKD : Hid (∀ ob, Kids 9 (W5.alloc ob) (AwayG R (W5.alloc ob) (.slice va0 ds.length vc0)) (.slice fa fn fc) (.slice va vn vc) (.slice ma mn mc) (.slice ia inn ic) d) := fun ob => by
          refine (hkid.old fun b hb => alloc_heap_old _ _ _ hb.2).more fun b hb => ?_
          have hb1 := hb.1
          have hb2 := hb.2
          exact ⟨by omega, by simp; omega, fun e => by have := HVO.out b e; omega⟩
        have HDD := Lib.hid hd
        clear hRec hkid hr5 hg5 c0 hd
        by_cases hce : CH.2.e = 0
        · have hdt : decide (CH.2.e = 0) = true := decide_eq_true hce
          rw [hdt]
          obtain rfl : d = CH.1 := HDD.out hce
          have HDG := Lib.hid (HOK.out hce)
          have HLA := Lib.hid (HL5.out.alloc (.cells #[.int .i64 CH.1.kind, .string (mkB CH.1.name), .int .i64 CH.1.line, .int .i64 CH.1.col, .slice fa fn fc, .slice va vn vc, .slice ma mn mc, .slice ia inn ic] 44))
          have HKA := Lib.hid (HKD.out (.cells #[.int .i64 CH.1.kind, .string (mkB CH.1.name), .int .i64 CH.1.line, .int .i64 CH.1.col, .slice fa fn fc, .slice va vn vc, .slice ma mn mc, .slice ia inn ic] 44))
          have hnw := alloc_heap_new W5 (.cells #[.int .i64 CH.1.kind, .string (mkB CH.1.name), .int .i64 CH.1.line, .int .i64 CH.1.col, .slice fa fn fc, .slice va vn vc, .slice ma mn mc, .slice ia inn ic] 44)
          clear hdt HOK HNO HKD HDD
          go_upto_region 8 with fail
          generalize W5.alloc (.cells #[.int .i64 CH.1.kind, .string (mkB CH.1.name), .int .i64 CH.1.line, .int .i64 CH.1.col, .slice fa fn fc, .slice va vn vc, .slice ma mn mc, .slice ia inn ic] 44) = Y at *
          generalize W5.heap.size = I at *
          have p0 : Y.cell? ⟨I, 0, none⟩ = some (.int .i64 CH.1.kind) := by simp [World.cell?, hnw]
          have p1 : Y.cell? ⟨I, 1, none⟩ = some (.string (mkB CH.1.name)) := by simp [World.cell?, hnw]
          have p2 : Y.cell? ⟨I, 2, none⟩ = some (.int .i64 CH.1.line) := by simp [World.cell?, hnw]
          have p3 : Y.cell? ⟨I, 3, none⟩ = some (.int .i64 CH.1.col) := by simp [World.cell?, hnw]
          have p4 : Y.cell? ⟨I, 4, none⟩ = some (.slice fa fn fc) := by simp [World.cell?, hnw]
          have p5 : Y.cell? ⟨I, 5, none⟩ = some (.slice va vn vc) := by simp [World.cell?, hnw]
          have p6 : Y.cell? ⟨I, 6, none⟩ = some (.slice ma mn mc) := by simp [World.cell?, hnw]
          have p7 : Y.cell? ⟨I, 7, none⟩ = some (.slice ia inn ic) := by simp [World.cell?, hnw]
          clear hnw
          go_wp2_with (at_builtin; refine HLA.out.push CH.1 _ _ _ _ HKA.out (by intro u hu; simp only [drow, List.mem_cons, List.not_mem_nil, or_false] at hu; rcases hu with rfl | rfl | rfl | rfl | rfl | rfl | rfl | rfl <;> rfl) rfl _ _ rfl _ rfl rfl rfl (by omega) ?_)
          intro g cap W6 hL6
          have HL6 := Lib.hid hL6
          clear hL6 p0 p1 p2 p3 p4 p5 p6 p7
          go_wp2_with fail
          go_roundw
          case rel => exact ⟨f, CH.2, ds ++ [CH.1], _, HL6.out, hce, by omega, by simp; omega, HDG.out⟩
          case measure =>
            have e1 := HL6.out.rd.m
            have e2 := HM0.out
            exact Nat.lt_of_le_of_lt (Nat.le_of_eq e1) (by rw [e2]; omega)
        · have hdf : decide (CH.2.e = 0) = false := decide_eq_false hce
          rw [hdf]
          have hD2 := HNO.out hce
          obtain rfl : ANS = ([], (CH.2.pl, CH.2.pc), CH.2.e) := by rw [← HAN.out, hD2, if_neg hce]
          have HLA := Lib.hid (HL5.out.alloc (.cells #[.int .i64 d.kind, .string (mkB d.name), .int .i64 d.line, .int .i64 d.col, .slice fa fn fc, .slice va vn vc, .slice ma mn mc, .slice ia inn ic] 44))
          clear hdf HOK HNO HKD HDD hD2
          go_upto_region 9 with fail
          generalize W5.alloc (.cells #[.int .i64 d.kind, .string (mkB d.name), .int .i64 d.line, .int .i64 d.col, .slice fa fn fc, .slice va vn vc, .slice ma mn mc, .slice ia inn ic] 44) = Y at *
          obtain ⟨_, _, _, _, _, _, _, _, k3, k4, k5, _⟩ := HLA.out.rd.get
          have hA := HLA.out.ans
          have a0 : Y.cell? ⟨w.heap.size, 0, none⟩ = some (.int .i64 0) := by simp [World.cell?, hA]
          have a1 : Y.cell? ⟨w.heap.size, 1, none⟩ = some (.int .i64 0) := by simp [World.cell?, hA]
          have b0 : Y.frozen? ⟨w.heap.size, 0, none⟩ = false := by simp [World.frozen?, hA]
          have b1 : Y.frozen? ⟨w.heap.size, 1, none⟩ = false := by simp [World.frozen?, hA]
          have HBL := Lib.hid HLA.out.bel
          have HA := Lib.hid hA
          clear hA HLA HL5 HLf
          go_region
          all_goals
            go_wp2_with fail
            have g1 : (Y.setCell ⟨w.heap.size, 0, none⟩ (.int .i64 CH.2.pl)).heap[w.heap.size]? = some (.cells #[.int .i64 CH.2.pl, .int .i64 0] 25 (0, 0)) := setCell_heap HA.out _
            have g2 : ((Y.setCell ⟨w.heap.size, 0, none⟩ (.int .i64 CH.2.pl)).setCell ⟨w.heap.size, 1, none⟩ (.int .i64 CH.2.pc)).heap[w.heap.size]? = some (.cells #[.int .i64 CH.2.pl, .int .i64 CH.2.pc] 25 (0, 0)) := setCell_heap g1 _
            have g3 := (HBL.out.setCell (p := ⟨w.heap.size, 0, none⟩) (Nat.le_refl _) (.int .i64 CH.2.pl)).setCell (p := ⟨w.heap.size, 1, none⟩) (Nat.le_refl _) (.int .i64 CH.2.pc)
            generalize (Y.setCell ⟨w.heap.size, 0, none⟩ (.int .i64 CH.2.pl)).setCell ⟨w.heap.size, 1, none⟩ (.int .i64 CH.2.pc) = Z at *
            have r0 : Z.cell? ⟨w.heap.size, 0, none⟩ = some (.int .i64 CH.2.pl) := by simp [World.cell?, g2]
            have r1 : Z.cell? ⟨w.heap.size, 1, none⟩ = some (.int .i64 CH.2.pc) := by simp [World.cell?, g2]
            exact bodyPost_ret (v := .tuple #[.slice none 0 0, .agg #[.int .i64 CH.2.pl, .int .i64 CH.2.pc], .int .i64 CH.2.e]) (by simp [results, Tryz.results6, go_sem, r0, r1]) rfl ⟨gans_err _ _ _ _, g3.drew⟩
  · have hfl : fileL s.data.toList = ([], (((wordsL s.data.toList).2.1.1 : Int), ((wordsL s.data.toList).2.1.2 : Int)), (wordsL s.data.toList).2.2) := by unfold fileL; rw [if_neg h0]
    rw [hfl]
    have hwe := words_err _ h0
    obtain ⟨WS, hWS⟩ : ∃ WS, wordsL s.data.toList = WS := ⟨_, rfl⟩
    rw [hWS] at hW h0 hwe ⊢
    obtain ⟨ws, ⟨PL, PC⟩, ER⟩ := WS
    have hwe' : ws = [] := hwe
    subst hwe'
    have h0e : ¬ ER = 0 := h0
    have h0' : (ER != 0) = true := by simpa using h0e
    show Calls _ _ _ _ fun e w' => GAns ([], ((PL : Int), (PC : Int)), ER) e w' ∧ _
    clear hfl h0 hwe hWS
    go_enter Tryz.func6, Tryz.ntmps6
    go_wp2_with fail
    generalize w.alloc (.cells #[.int .i64 0, .int .i64 0] 25) = V0 at *
    refine hW.mono ?_
    rintro e w1 ⟨⟨ad, c, wl, wc, rfl, _, _, hpp⟩, hb1⟩
    obtain ⟨p1, p2⟩ := hpp h0e
    have p1 : wl = (PL : Int) := p1
    have p2 : wc = (PC : Int) := p2
    subst p1 p2
    have HB1 := Lib.hid (HB0.out.trans (hb1.mono (by omega)))
    have hz1 := hb1.size
    have hA1 : ∀ o, (w1.alloc o).heap[w.heap.size]? = some (.cells #[.int .i64 0, .int .i64 0] 25 (0, 0)) := fun o => by rw [alloc_heap_old _ _ _ (by omega), hb1.block _ (by omega)]; exact HA0.out
    have HA1 := Lib.hid hA1
    clear hW hb1 hA1 h0e
    go_upto_region 3 with fail
    have q0 : (w1.alloc (.cells #[.int .i64 (PL : Int), .int .i64 (PC : Int)] 25)).cell? ⟨w1.heap.size, 0, none⟩ = some (.int .i64 (PL : Int)) := by simp
    have q1 : (w1.alloc (.cells #[.int .i64 (PL : Int), .int .i64 (PC : Int)] 25)).cell? ⟨w1.heap.size, 1, none⟩ = some (.int .i64 (PC : Int)) := by simp
    have HAV := Lib.hid (HA1.out (.cells #[.int .i64 (PL : Int), .int .i64 (PC : Int)] 25))
    have HBV := Lib.hid (HB1.out.alloc HB1.out.size (.cells #[.int .i64 (PL : Int), .int .i64 (PC : Int)] 25))
    clear HA1
    generalize w1.alloc (.cells #[.int .i64 (PL : Int), .int .i64 (PC : Int)] 25) = V at *
    have hA := HAV.out
    have a0 : V.cell? ⟨w.heap.size, 0, none⟩ = some (.int .i64 0) := by simp [World.cell?, hA]
    have a1 : V.cell? ⟨w.heap.size, 1, none⟩ = some (.int .i64 0) := by simp [World.cell?, hA]
    have b0 : V.frozen? ⟨w.heap.size, 0, none⟩ = false := by simp [World.frozen?, hA]
    have b1 : V.frozen? ⟨w.heap.size, 1, none⟩ = false := by simp [World.frozen?, hA]
    clear hA
    go_region
    all_goals
      go_wp2_with fail
      have g1 : (V.setCell ⟨w.heap.size, 0, none⟩ (.int .i64 (PL : Int))).heap[w.heap.size]? = some (.cells #[.int .i64 (PL : Int), .int .i64 0] 25 (0, 0)) := setCell_heap HAV.out _
      have g2 : ((V.setCell ⟨w.heap.size, 0, none⟩ (.int .i64 (PL : Int))).setCell ⟨w.heap.size, 1, none⟩ (.int .i64 (PC : Int))).heap[w.heap.size]? = some (.cells #[.int .i64 (PL : Int), .int .i64 (PC : Int)] 25 (0, 0)) := setCell_heap g1 _
      have g3 := (HBV.out.setCell (p := ⟨w.heap.size, 0, none⟩) (Nat.le_refl _) (.int .i64 (PL : Int))).setCell (p := ⟨w.heap.size, 1, none⟩) (Nat.le_refl _) (.int .i64 (PC : Int))
      generalize (V.setCell ⟨w.heap.size, 0, none⟩ (.int .i64 (PL : Int))).setCell ⟨w.heap.size, 1, none⟩ (.int .i64 (PC : Int)) = Y at *
      have r0 : Y.cell? ⟨w.heap.size, 0, none⟩ = some (.int .i64 (PL : Int)) := by simp [World.cell?, g2]
      have r1 : Y.cell? ⟨w.heap.size, 1, none⟩ = some (.int .i64 (PC : Int)) := by simp [World.cell?, g2]
      exact bodyPost_ret (v := .tuple #[.slice none 0 0, .agg #[.int .i64 (PL : Int), .int .i64 (PC : Int)], .int .i64 ER]) (by simp [results, Tryz.results6, go_sem, r0, r1]) rfl ⟨gans_err _ _ _ _, g3.drew⟩
end Go.Proofs.YtbfkaanmbdekfaaGreatDoor
namespace Go.Proofs.YtbfkaanmbdekfaaGreatDoor
set_option linter.unusedVariables false
open Go.ChangeShapes Go.WideShapes Go.ChangeAt Go.RowKit

abbrev awT : List UInt8 := [109, 101, 115, 115, 97, 103, 101, 32, 65, 32, 123, 32, 105, 110, 116, 54, 52, 32, 120, 32, 61, 32, 49, 59, 32, 125]
theorem file_aw : (fileL awT).2.2 = 0 ∧ (fileL awT).1.length = 1 ∧ ((fileL awT).1[0]?.map fun d => d.fields.map fun f => f.num) = some [1] := by
  decide +kernel
/-- one declaration, and the first cells of it -/
theorem held_one {f : Nat} {w : World} {S : Nat → Prop} {v : Value} {d : Dc} {t : List Dc} (h : HeldD f w S v (d :: t)) : ∃ f' g o c fs vs ms ins, f = f' + 1 ∧ v = .slice (some ⟨g, o, none⟩) (t.length + 1) c ∧ t.length + 1 ≤ c ∧ S g ∧
    w.cell? ⟨g, o, none⟩ = some (.int .i64 d.kind) ∧ w.cell? ⟨g, o + 1, none⟩ = some (.string (mkB d.name)) ∧ w.cell? ⟨g, o + 4, none⟩ = some fs ∧ w.cell? ⟨g, o + 5, none⟩ = some vs ∧ w.cell? ⟨g, o + 6, none⟩ = some ms ∧ w.cell? ⟨g, o + 7, none⟩ = some ins ∧
    RowsIn w S 6 frow fs d.fields ∧ RowsIn w S 4 vrow vs d.values ∧ RowsIn w S 5 mrow ms d.methods ∧ HeldD f' w S ins d.inner := by
  cases f with
  | zero => cases h.1
  | succ f =>
    obtain ⟨ad, c, hv, hc, h | ⟨g, o, rfl, hg, h⟩⟩ := h
    · cases h
    · obtain ⟨fs, vs, ms, ins, h0, h1, h2, h3, h4⟩ := h 0 d rfl
      refine ⟨f, g, o, c, fs, vs, ms, ins, rfl, hv, hc, hg, ?_, ?_, ?_, ?_, ?_, ?_, h1, h2, h3, h4⟩
      · have := h0 0 _ rfl; simpa using this
      · have := h0 1 _ rfl; simpa using this
      · have := h0 4 _ rfl; simpa using this
      · have := h0 5 _ rfl; simpa using this
      · have := h0 6 _ rfl; simpa using this
      · have := h0 7 _ rfl; simpa using this
theorem rows_one {α : Type} {w : World} {S : Nat → Prop} {k : Nat} {row : α → List Value} {v : Value} {x : α} {t : List α} (h : RowsIn w S k row v (x :: t)) : ∃ g o c, v = .slice (some ⟨g, o, none⟩) (t.length + 1) c ∧ t.length + 1 ≤ c ∧ ∀ (i : Nat) (u : Value), (row x)[i]? = some u → w.cell? ⟨g, o + i, none⟩ = some u := by
  obtain ⟨ad, c, hv, hc, h | ⟨g, o, rfl, hg, h⟩⟩ := h
  · cases h
  · exact ⟨g, o, c, hv, hc, fun i u hu => by have := h 0 x rfl i u hu; simpa using this⟩
set_option maxHeartbeats 4000000 in
set_option maxRecDepth 20000 in
theorem awake_any (w : World) (hT : Errs w) :
    Calls Tryz.prog 5 #[] w fun e w' => e = .returned (.bool true) ∧ Below w.heap.size w w' := by
  have hF := fileD_any ⟨#[109, 101, 115, 115, 97, 103, 101, 32, 65, 32, 123, 32, 105, 110, 116, 54, 52, 32, 120, 32, 61, 32, 49, 59, 32, 125]⟩ w hT (by decide)
  have eA : (ByteArray.mk #[109, 101, 115, 115, 97, 103, 101, 32, 65, 32, 123, 32, 105, 110, 116, 54, 52, 32, 120, 32, 61, 32, 49, 59, 32, 125]).data.toList = awT := rfl
  rw [eA] at hF
  obtain ⟨f1, f2, f3⟩ := file_aw
  generalize fileL awT = FL at *
  obtain ⟨ds, pp, er⟩ := FL
  have f1' : er = 0 := f1
  subst f1'
  have f2' : ds.length = 1 := f2
  obtain ⟨d, rfl⟩ : ∃ d, ds = [d] := by
    cases ds with
    | nil => cases f2'
    | cons d t =>
      cases t with
      | nil => exact ⟨d, rfl⟩
      | cons a b => simp at f2'
  have f3' : d.fields.map (fun f => f.num) = [1] := by simpa using f3
  obtain ⟨x, hx, hx1⟩ : ∃ x, d.fields = [x] ∧ x.num = 1 := by
    cases hd : d.fields with
    | nil => rw [hd] at f3'; cases f3'
    | cons x t =>
      rw [hd] at f3'
      simp only [List.map_cons, List.cons.injEq, List.map_eq_nil_iff] at f3'
      exact ⟨x, by rw [f3'.2], f3'.1⟩
  clear f1 f2 f3 f2' f3' eA hT
  go_enter Tryz.func5, Tryz.ntmps5
  go_wp2_with fail
  refine hF.mono ?_
  rintro e w1 ⟨⟨ad, c, pl, pc, rfl, hH, _⟩, hb1⟩
  have hHo := hH.old (w' := w1.alloc (.cells #[.int .i64 pl, .int .i64 pc] 25)) (fun b hb => alloc_heap_old _ _ _ hb)
  obtain ⟨f', g, o, c', fs, vs, ms, ins, h10, hv, u1, u2, u3, u4, k4, u5, u6, u7, hR, u8⟩ := held_one hHo
  clear h10 u1 u2 u3 u4 u5 u6 u7 u8
  simp only [Value.slice.injEq] at hv
  obtain ⟨rfl, v1, v2⟩ := hv
  clear v1 v2
  rw [hx] at hR
  obtain ⟨g2, o2, c2, rfl, v3, hrow⟩ := rows_one hR
  clear v3
  have k6 := hrow 3 _ rfl
  rw [hx1] at k6
  have HB := Lib.hid (hb1.alloc hb1.size (.cells #[.int .i64 pl, .int .i64 pc] 25))
  have e1 : ([d] : List Dc).length = 1 := rfl
  clear hF hH hHo hR hrow hb1
  go_upto_region 2 with fail
  generalize w1.alloc (.cells #[.int .i64 pl, .int .i64 pc] 25) = V at *
  go_wp2_with fail
  go_ret
  exact ⟨rfl, HB.out⟩
end Go.Proofs.YtbfkaanmbdekfaaGreatDoor
namespace Go.Proofs.YtbfkaanmbdekfaaGreatDoor
set_option linter.unusedVariables false
open Go.ChangeShapes Go.WideShapes Go.ChangeAt Go.RowKit

theorem retI {a b : Int} (h : a = b) : Ending.returned (.int .i64 a) = .returned (.int .i64 b) := by rw [h]
set_option maxHeartbeats 1000000 in
theorem scalarR_any (s : ByteArray) (w : World) :
    Calls Tryz.prog 78 #[.string s] w fun e w' => e = .returned (.int .i64 (scalarOf s.toList)) ∧ w' = w := by
  go_enter Tryz.func78, Tryz.ntmps78
  go_wp2
  all_goals
    go_ret
    refine ⟨retI ?_, rfl⟩
    unfold scalarOf
    simp [*]
set_option maxHeartbeats 1000000 in
theorem reservedR_any (s : ByteArray) (w : World) :
    Calls Tryz.prog 77 #[.string s] w fun e w' => e = .returned (.bool (resOf s.toList)) ∧ w' = w := by
  have hS := fun W => scalarR_any s W
  unfold resOf
  generalize scalarOf s.toList = k at *
  go_enter Tryz.func77, Tryz.ntmps77
  go_wp2_with (go_at_call 78; refine (hS _).mono ?_; rintro e w' ⟨rfl, rfl⟩)
  all_goals
    go_ret
    refine ⟨retB ?_, rfl⟩
    clear hS
    first
      | (simp [*]; done)
      | simp_all
end Go.Proofs.YtbfkaanmbdekfaaGreatDoor
