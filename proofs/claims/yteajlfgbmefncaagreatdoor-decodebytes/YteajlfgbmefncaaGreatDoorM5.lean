/-
  The walk over the document's own TakeField where the field has no bytes of its own (type 2, length 0) and ends where the slice's room ends.
  The document's own TakeField, whole: of any bytes it answers what 'tf' says, and makes new memory alone.
  What bytes are split into: the fields, each with its bytes; or none. And how a call's answer says it. Nothing is proved of the program here.
  Values of messages as plain trees, and what fits, as plain functions. Nothing is proved of the program here.
  Of a schema that is formed the program's 'fits' and the document's are one. Nothing is proved of the program here.
  The walks over the program's own Same of declarations.
-/
import Derived.Test.YteajlfgbmefncaaGreatDoorM4
import Derived.Deep.DeepCutAuto
import Derived.Test.YteajlfgbmefncaaGreatDoorM1
import Derived.Lib.ValidLaws
import Derived.Test.YteajlfgbmefncaaGreatDoorM0
import Derived.Test.YteajlfgbmefncaaGreatDoorProg
import Derived.Deep.Cut
import Derived.Lib.SlicesS
namespace Go.Proofs.YteajlfgbmefncaaGreatDoor
set_option linter.unusedVariables false
open Go.ChangeShapes Go.WideShapes Go.ChangeAt Go.RowKit
set_option maxRecDepth 20000 in
set_option maxHeartbeats 4000000 in
theorem takeFieldR_2zero (b off : Nat) (w : World) (N : Int) (k q : Nat)
    (HT : ∀ W, Below w.heap.size w W → Calls Tryz.prog 92 #[.slice (some ⟨b, off, none⟩) (k + q) (k + q)] W fun e w' =>
      e = .returned (.tuple #[.int .u64 N, .int .i64 k, .int .i64 0]) ∧ w' = W)
    (HT2 : ∀ W, Below w.heap.size w W → Calls Tryz.prog 92 #[.slice (some ⟨b, off + k, none⟩) q q] W fun e w' =>
      e = .returned (.tuple #[.int .u64 0, .int .i64 q, .int .i64 0]) ∧ w' = W)
    (hN0 : 0 ≤ N) (hN1 : N ≤ 18446744073709551615) (h1 : 1 ≤ N / 8) (h2 : N / 8 ≤ 536870911) (hty : N % 8 = 2) (hk10 : k ≤ 10) (hq10 : q ≤ 10) (hq : 1 ≤ q) :
    Calls Tryz.prog 64 #[.slice (some ⟨b, off, none⟩) (k + q) (k + q)] w fun e w' => TfAns w w' e ⟨N / 8, 2, 0, [], k + q, 0⟩ := by
  have HTT : Hid _ := HT
  have HTT2 : Hid _ := HT2
  clear HT HT2
  have hck : ¬ k + q = k := by omega
  go_enter Tryz.func64, Tryz.ntmps64
  go_wp2_with fail
  refine (HTT.out _ ((Below.refl _ _).alloc (Nat.le_refl _) _)).mono ?_
  rintro e w' ⟨rfl, rfl⟩
  clear HTT
  go_wp2_with fail
  refine (HTT2.out _ (((Below.refl _ _).alloc (Nat.le_refl _) _).alloc (by simp) _)).mono ?_
  rintro e w' ⟨rfl, rfl⟩
  clear HTT2
  go_wp2_with fail
  go_cut [] (fun wx => ∃ a3 c3, wx.cell? ⟨w.heap.size + 1, 0, none⟩ = some (.int .i64 (N / 8)) ∧ wx.cell? ⟨w.heap.size + 1, 1, none⟩ = some (.int .i64 2) ∧ wx.cell? ⟨w.heap.size + 1, 2, none⟩ = some (.int .u64 0) ∧ wx.cell? ⟨w.heap.size + 1, 3, none⟩ = some (.slice a3 0 c3) ∧
    (∀ o, o < 4 → ∃ v, wx.cell? ⟨w.heap.size, o, none⟩ = some v) ∧ (∀ o, wx.frozen? ⟨w.heap.size, o, none⟩ = false) ∧ Below w.heap.size w wx ∧ w.heap.size + 2 ≤ wx.heap.size ∧ NoA a3 0 c3 ∧
    (∀ w', (∀ b o, w.heap.size + 2 ≤ b → w'.cell? ⟨b, o, none⟩ = wx.cell? ⟨b, o, none⟩) → IsB w' a3 0 []))
  case first =>
    have hw0 : IntKind.i64.wrap 0 = 0 := by decide
    have hw2 : IntKind.i64.wrap ((k : Int) + (q : Int)) = (k : Int) + (q : Int) := by rw [IntKind.wrap_i64]; omega
    have hA3 : 0 ≤ (k : Int) + (q : Int) := by omega
    have hmx : max ((k : Int) + (q : Int)) 0 = (k : Int) + (q : Int) := by omega
    have hT2 : ((k : Int) + (q : Int)).toNat = k + q := by omega
    have HBW : Hid (Below w.heap.size w ((w.alloc (.cells #[.int .i64 0, .int .i64 0, .int .u64 0, .slice none 0 0] 106)).alloc (.cells #[.int .i64 (N / 8), .int .i64 2, .int .u64 0, .slice none 0 0] 106)).drew) := (((Below.refl _ _).alloc (Nat.le_refl _) _).alloc (by simp) _).drew
    go_region_law (refine stepE_append rfl (.tmp 107) (.tmp 114) rfl (w.heap.size + 2) (.slice none 0 0) [] rfl (.inl (own_nil _ _)) (some ⟨b, off, none⟩) 0 0 [] rfl ⟨rfl, by simp, .inl rfl⟩ (by simp) (by simp) (by simp) ?_; intro v3 w3 hown3 hb3; simp only [List.nil_append] at hown3; obtain ⟨a3, c3, rfl, hno3, hst3⟩ := ownE_isB hown3 (by simp) (by simp); simp only [List.length_nil] at hno3 hst3 ⊢; have hb03 : Below w.heap.size w w3 := HBW.out.trans (hb3.mono (by omega)); obtain ⟨hcc, hff⟩ := below_rules hb3; have hz3 : w.heap.size + 2 ≤ w3.heap.size := (by have := hb3.size; simp at this; omega))
    all_goals
      have HCC : Hid (∀ b o, b < w.heap.size + 2 → w3.cell? ⟨b, o, none⟩ = _) := hcc
      have HFF : Hid (∀ b o, b < w.heap.size + 2 → w3.frozen? ⟨b, o, none⟩ = _) := hff
      have HST3 : Hid _ := hst3
      have HN3 : Hid _ := hno3
      clear hcc hff hst3 hno3 hw0 hw2 hA3 hmx hT2 hown3 hb3
      go_wp2_with fail
      go_meet
      have hcc := HCC.out
      have hff := HFF.out
      have hst3 := HST3.out
      have hno3 := HN3.out
      refine ⟨a3, c3, ?_, ?_, ?_, ?_, ?_, ?_, hb03.setCell (by simp) _, by simpa using hz3, ⟨fun h => ⟨rfl, (hno3.1 h).2⟩, hno3.2⟩, ?_⟩
      · rw [World.cell?_setCell_other _ _ _ _ (by simp), hcc _ _ (by omega)]; simp
      · rw [World.cell?_setCell_other _ _ _ _ (by simp), hcc _ _ (by omega)]; simp
      · rw [World.cell?_setCell_other _ _ _ _ (by simp), hcc _ _ (by omega)]; simp
      · refine World.cell?_setCell_same _ _ _ (u := .slice none 0 0) ?_
        rw [hcc _ _ (by omega)]; simp
      · intro o ho
        rw [World.cell?_setCell_other _ _ _ _ (by simp), hcc _ _ (by omega)]
        match o, ho with
        | 0, _ => exact ⟨_, by simp; rfl⟩
        | 1, _ => exact ⟨_, by simp; rfl⟩
        | 2, _ => exact ⟨_, by simp; rfl⟩
        | 3, _ => exact ⟨_, by simp; rfl⟩
      · intro o
        rw [World.frozen?_setCell, hff _ _ (by omega)]; simp
      · intro w' h
        exact hst3 w' (fun b o hb => (h b o hb).trans (World.cell?_setCell_other _ _ _ _ (by simp <;> omega)))
  case rest =>
    obtain ⟨a3, c3, e0, e1, e2, e3, hex, hfr, hbx, hzx, hno3, hst⟩ := hcut
    obtain ⟨v0, r0⟩ := hex 0 (by omega)
    obtain ⟨v1, r1⟩ := hex 1 (by omega)
    obtain ⟨v2, r2⟩ := hex 2 (by omega)
    obtain ⟨v3, r3⟩ := hex 3 (by omega)
    have HBX : Hid (Below w.heap.size w wc) := hbx
    have HST : Hid (∀ w', (∀ b o, w.heap.size + 2 ≤ b → w'.cell? ⟨b, o, none⟩ = wc.cell? ⟨b, o, none⟩) → IsB w' a3 0 []) := hst
    have HN3 : Hid (NoA a3 0 c3) := hno3
    clear hex hbx hst hno3
    go_wp2_with fail
    refine bodyPost_ret (v := .tuple #[.agg #[.int .i64 (N / 8), .int .i64 2, .int .u64 0, .slice a3 0 c3], .int .i64 (k + q), .int .i64 0]) ?_ rfl ⟨a3, 0, c3, rfl, ?_, HN3.out, ?_⟩
    · simp [results, Tryz.results64, go_sem, r0, r1, r2, r3]
    · refine stable_newB ?_
      intro w2 h2
      refine HST.out _ (fun b o hb => ?_)
      rw [h2 b o (by omega), World.cell?_setCell_other _ _ _ _ (by simp <;> omega), World.cell?_setCell_other _ _ _ _ (by simp <;> omega), World.cell?_setCell_other _ _ _ _ (by simp <;> omega), World.cell?_setCell_other _ _ _ _ (by simp <;> omega)]
    · exact (((HBX.out.setCell (by simp) _).setCell (by simp) _).setCell (by simp) _).setCell (by simp) _
end Go.Proofs.YteajlfgbmefncaaGreatDoor
namespace Go.Proofs.YteajlfgbmefncaaGreatDoor
set_option linter.unusedVariables false
open Go.ChangeShapes Go.WideShapes Go.ChangeAt Go.RowKit

theorem dec_q : ∀ (zs : List Int) (X : Int) (k : Nat), k ≤ 9 → 0 ≤ (dec X k zs).2.1 ∧ (dec X k zs).2.1 ≤ 10
  | [], X, k, _ => by rw [dec_nil]; simp
  | z :: zs, X, k, hk => by
    by_cases hf : k = 9 ∧ 1 < z
    · rw [dec_form _ _ _ _ hf.1 hf.2]; simp
    · by_cases h1 : z < 128
      · rw [dec_end _ _ _ _ hf h1]; simp only []; omega
      · rw [dec_on _ _ _ _ hf (by omega)]
        exact dec_q zs _ (k + 1) (by omega)
theorem dec_triple (zs : List Int) : ∃ N K E, dec 0 0 zs = (N, K, E) := ⟨_, _, _, rfl⟩

theorem takeFieldR_len (a : Option Addr) (len cap : Nat) (zs : List Int) (w : World) (hB : IsB w a len zs) (hlc : len ≤ cap) (hcm : cap ≤ 9223372036854775807) (hlm : len ≤ 140737488351232) :
    Calls Tryz.prog 64 #[.slice a len cap] w fun e w' => TfAns w w' e (tf zs) := by
  obtain ⟨N, K, E, hd⟩ := dec_triple zs
  unfold tf
  rw [hd]
  simp only []
  by_cases hE : E = 0
  · subst hE
    rw [if_neg (by simp)]
    obtain ⟨hN0, hN1, hK0, hKl, hK10⟩ := dec_ok zs 0 0 N K (isB_bytes hB) (by simp) (by omega) (by simpa using hd)
    obtain ⟨k, rfl⟩ := Int.eq_ofNat_of_zero_le (show 0 ≤ K by omega)
    have hzl := hB.1
    obtain ⟨b, off, _, rfl, _⟩ := isB_at hB (show 0 < len by omega)
    have HT : ∀ W, Below w.heap.size w W → Calls Tryz.prog 92 #[.slice (some ⟨b, off, none⟩) len cap] W fun e w' =>
        e = .returned (.tuple #[.int .u64 N, .int .i64 k, .int .i64 0]) ∧ w' = W := by
      intro W hW
      have := takeRB_any _ len cap zs W (isB_old hB hW)
      rw [hd] at this; exact this
    rw [Int.toNat_natCast]
    unfold tfBody
    by_cases hbad : N / 8 < 1 ∨ 536870911 < N / 8 ∨ ¬(N % 8 = 0 ∨ N % 8 = 1 ∨ N % 8 = 2 ∨ N % 8 = 5)
    · rw [if_pos hbad]
      exact takeFieldR_form _ len cap zs w hB N k hd hN0 hN1 hbad
    · rw [if_neg hbad]
      have h1 : 1 ≤ N / 8 := by omega
      have h2 : N / 8 ≤ 536870911 := by omega
      obtain ⟨X, Q, F, hq⟩ := dec_triple (zs.drop k)
      have hQ := dec_q (zs.drop k) 0 0 (by omega)
      rw [hq] at hQ ⊢
      simp only [] at hQ ⊢
      have HT2 : ∀ W, Below w.heap.size w W → Calls Tryz.prog 92 #[.slice (some (cutAt b off cap k)) (len - k) (cap - k)] W fun e w' =>
          e = .returned (.tuple #[.int .u64 X, .int .i64 Q, .int .i64 F]) ∧ w' = W := by
        intro W hW
        have := takeRB_any _ (len - k) (cap - k) (zs.drop k) W (isB_cut (isB_old hB hW) hlc k (by omega))
        rw [hq] at this; exact this
      by_cases t0 : N % 8 = 0
      · rw [if_pos t0]
        exact takeFieldR_0 b off len cap zs w N k HT X Q F HT2 hN0 hN1 h1 h2 t0 (by omega) hlc (by omega) (by omega) hQ.1 hQ.2
      · rw [if_neg t0]
        by_cases t2 : N % 8 = 2
        · rw [if_pos t2]
          by_cases hF : F = 0
          · subst hF
            rw [if_neg (by simp)]
            obtain ⟨hX0, hX1, hQ0, hQl, _⟩ := dec_ok (zs.drop k) 0 0 X Q (fun z hz => isB_bytes hB z (List.mem_of_mem_drop hz)) (by simp) (by omega) (by simpa using hq)
            obtain ⟨q, rfl⟩ := Int.eq_ofNat_of_zero_le (show 0 ≤ Q by omega)
            rw [List.length_drop] at hQl ⊢
            by_cases hs : ((zs.length - k : Nat) : Int) - (q : Int) < X
            · rw [if_pos hs]
              exact takeFieldR_2short b off len cap w N k HT X q HT2 hN0 hN1 h1 h2 t2 (by omega) hlc (by omega) (by omega) (by omega) (by omega) hX0 hX1 (by omega)
            · rw [if_neg hs]
              obtain ⟨x, rfl⟩ := Int.eq_ofNat_of_zero_le hX0
              rw [Int.toNat_natCast, Int.toNat_natCast, List.drop_drop]
              by_cases hc2 : cap = k + q
              · obtain rfl : x = 0 := by omega
                obtain rfl : len = k + q := by omega
                subst hc2
                have := takeFieldR_2zero b off w N k q HT (by
                  intro W hW
                  have h := HT2 W hW
                  rw [cutAt_in (by omega), show k + q - k = q by omega] at h
                  simpa using h) hN0 hN1 h1 h2 t2 (by omega) (by omega) (by omega)
                simpa using this
              · exact takeFieldR_2ok zs b off len cap w N k HT hB x q HT2 hN0 hN1 h1 h2 t2 (by omega) hlc hcm hlm (by omega) (by omega) (by omega) x rfl (by omega) hc2
          · rw [if_pos (by simpa using hF)]
            exact takeFieldR_2err b off len cap w N k HT X Q F HT2 hN0 hN1 h1 h2 t2 (by omega) hlc (by omega) (by omega) hF
        · rw [if_neg t2]
          by_cases t5 : N % 8 = 5
          · rw [if_pos t5]
            exact takeFieldR_5 b off len cap zs w N k hB HT hN0 hN1 h1 h2 t5 (by omega) hlc (by omega) (by omega)
          · rw [if_neg t5]
            exact takeFieldR_1 b off len cap zs w N k hB HT hN0 hN1 h1 h2 (by omega) (by omega) hlc (by omega) (by omega)
  · rw [if_pos (by simpa using hE)]
    exact takeFieldR_err a len cap zs w hB N K E hd hE
end Go.Proofs.YteajlfgbmefncaaGreatDoor
namespace Go.Proofs.YteajlfgbmefncaaGreatDoor
set_option linter.unusedVariables false
open Go.ChangeShapes Go.WideShapes Go.ChangeAt Go.RowKit

theorem dec_e : ∀ (zs : List Int) (X : Int) (k : Nat), (dec X k zs).2.2 = 0 ∨ (dec X k zs).2.2 = 2 ∨ (dec X k zs).2.2 = 5
  | [], X, k => by rw [dec_nil]; simp
  | z :: zs, X, k => by
    by_cases hf : k = 9 ∧ 1 < z
    · rw [dec_form _ _ _ _ hf.1 hf.2]; simp
    · by_cases h1 : z < 128
      · rw [dec_end _ _ _ _ hf h1]; simp
      · rw [dec_on _ _ _ _ hf (by omega)]
        exact dec_e zs _ (k + 1)
theorem tf_e (zs : List Int) : (tf zs).e = 0 ∨ (tf zs).e = 2 ∨ (tf zs).e = 5 := by
  have h1 := dec_e zs 0 0
  unfold tf
  split
  · simpa [tfErr] using h1
  · generalize (zs.drop (dec 0 0 zs).2.1.toNat) = rest
    have h2 := dec_e rest 0 0
    unfold tfBody
    split
    · simp [tfErr]
    · split
      · split
        · simpa [tfErr] using h2
        · simp
      · split
        · split
          · simpa [tfErr] using h2
          · split <;> simp [tfErr]
        · split
          · split <;> simp [tfErr]
          · split <;> simp [tfErr]
theorem tf_k (zs : List Int) (hb : ∀ z ∈ zs, 0 ≤ z ∧ z ≤ 255) (h : (tf zs).e = 0) : 1 ≤ (tf zs).k ∧ (tf zs).k ≤ zs.length := by
  obtain ⟨N, K, E, hd⟩ := dec_triple zs
  unfold tf at h ⊢
  rw [hd] at h ⊢
  simp only [] at h ⊢
  by_cases hE : E = 0
  · subst hE
    rw [if_neg (by simp)] at h ⊢
    obtain ⟨hN0, hN1, hK0, hKl, hK10⟩ := dec_ok zs 0 0 N K hb (by simp) (by omega) (by simpa using hd)
    obtain ⟨k, rfl⟩ := Int.eq_ofNat_of_zero_le (show 0 ≤ K by omega)
    rw [Int.toNat_natCast] at h ⊢
    have hl : (zs.drop k).length = zs.length - k := List.length_drop
    have hbr : ∀ z ∈ zs.drop k, 0 ≤ z ∧ z ≤ 255 := fun z hz => hb z (List.mem_of_mem_drop hz)
    generalize zs.drop k = rest at *
    obtain ⟨X, Q, F, hq⟩ := dec_triple rest
    unfold tfBody at h ⊢
    rw [hq] at h ⊢
    simp only [] at h ⊢
    split at h
    · simp [tfErr] at h
    · rename_i hbad
      rw [if_neg hbad]
      split at h
      · rename_i h0
        rw [if_pos h0]
        split at h
        · rename_i hF; simp [tfErr] at h; exact absurd h hF
        · rename_i hF
          rw [if_neg hF]
          have hF0 : F = 0 := by simpa using hF
          subst hF0
          obtain ⟨_, _, hq0, hql, _⟩ := dec_ok rest 0 0 X Q hbr (by simp) (by omega) (by simpa using hq)
          simp only []
          omega
      · rename_i h0
        rw [if_neg h0]
        split at h
        · rename_i h2
          rw [if_pos h2]
          split at h
          · rename_i hF; simp [tfErr] at h; exact absurd h hF
          · rename_i hF
            rw [if_neg hF]
            have hF0 : F = 0 := by simpa using hF
            subst hF0
            obtain ⟨hX0, _, hq0, hql, _⟩ := dec_ok rest 0 0 X Q hbr (by simp) (by omega) (by simpa using hq)
            split at h
            · simp [tfErr] at h
            · rename_i hs
              rw [if_neg hs]
              simp only []
              omega
        · rename_i h2
          rw [if_neg h2]
          split at h
          · rename_i h5
            rw [if_pos h5]
            split at h
            · simp [tfErr] at h
            · rename_i h4
              rw [if_neg h4]
              simp only []
              omega
          · rename_i h5
            rw [if_neg h5]
            split at h
            · simp [tfErr] at h
            · rename_i h8
              rw [if_neg h8]
              simp only []
              omega
  · rw [if_pos (by simpa using hE)] at h
    simp [tfErr] at h
    exact absurd h hE

/-- the fields that bytes are made of, each with its bytes; fuel: at least as many as there are bytes -/
def spl : Nat → List Int → Option (List (TF × List Int))
  | _, [] => some []
  | 0, _ :: _ => none
  | n + 1, z :: zs => if (tf (z :: zs)).e ≠ 0 then none else (spl n ((z :: zs).drop (tf (z :: zs)).k.toNat)).map (((tf (z :: zs), (z :: zs).take (tf (z :: zs)).k.toNat)) :: ·)
theorem spl_nil (n : Nat) : spl n [] = some [] := by cases n <;> rfl
theorem spl_err (n : Nat) (zs : List Int) (h : zs ≠ []) (he : (tf zs).e ≠ 0) : spl n zs = none := by
  cases zs with
  | nil => exact absurd rfl h
  | cons z zs => cases n with
    | zero => rfl
    | succ n => rw [spl, if_pos he]
theorem spl_on (n : Nat) (zs : List Int) (h : zs ≠ []) (he : (tf zs).e = 0) : spl (n + 1) zs = (spl n (zs.drop (tf zs).k.toNat)).map ((tf zs, zs.take (tf zs).k.toNat) :: ·) := by
  cases zs with
  | nil => exact absurd rfl h
  | cons z zs => rw [spl, if_neg (by simpa using he)]
theorem spl_fuel : ∀ (n m : Nat) (zs : List Int), (∀ z ∈ zs, 0 ≤ z ∧ z ≤ 255) → zs.length ≤ n → zs.length ≤ m → spl n zs = spl m zs
  | 0, m, zs, hb, hn, hm => by
    have : zs = [] := List.eq_nil_of_length_eq_zero (by omega)
    subst this; rw [spl_nil, spl_nil]
  | n + 1, 0, zs, hb, hn, hm => by
    have : zs = [] := List.eq_nil_of_length_eq_zero (by omega)
    subst this; rw [spl_nil, spl_nil]
  | n + 1, m + 1, zs, hb, hn, hm => by
    by_cases h0 : zs = []
    · subst h0; rw [spl_nil, spl_nil]
    · by_cases he : (tf zs).e = 0
      · have hk := tf_k zs hb he
        rw [spl_on n zs h0 he, spl_on m zs h0 he, spl_fuel n m _ (fun z hz => hb z (List.mem_of_mem_drop hz)) (by rw [List.length_drop]; omega) (by rw [List.length_drop]; omega)]
      · rw [spl_err _ zs h0 he, spl_err _ zs h0 he]
/-- the same, with fuel enough -/
def split (zs : List Int) : Option (List (TF × List Int)) := spl zs.length zs
theorem split_nil : split [] = some [] := rfl
theorem split_err (zs : List Int) (h : zs ≠ []) (he : (tf zs).e ≠ 0) : split zs = none := spl_err _ zs h he
theorem split_on (zs : List Int) (hb : ∀ z ∈ zs, 0 ≤ z ∧ z ≤ 255) (h : zs ≠ []) (he : (tf zs).e = 0) : split zs = (split (zs.drop (tf zs).k.toNat)).map ((tf zs, zs.take (tf zs).k.toNat) :: ·) := by
  have hk := tf_k zs hb he
  unfold split
  obtain ⟨n, hn⟩ : ∃ n, zs.length = n + 1 := ⟨zs.length - 1, by omega⟩
  rw [hn, spl_on n zs h he, spl_fuel n (zs.drop (tf zs).k.toNat).length _ (fun z hz => hb z (List.mem_of_mem_drop hz)) (by rw [List.length_drop]; omega) (Nat.le_refl _)]

/-- what a field says, and what is taken of bytes -/
def FR.says (f : FR) : Int × Int × Int × List Int := (f.num, f.ty, f.n, f.d)
def TF.says (t : TF) : Int × Int × Int × List Int := (t.num, t.ty, t.n, t.data)
def FitsF (fs : List FR) (D : List (TF × List Int)) : Prop := (fs.map FR.says = D.map fun p => p.1.says) ∧ ∀ f ∈ fs, NoA f.a f.len f.cap
def FitsR (rs : List Row3) (D : List (TF × List Int)) : Prop := ((rs.map fun r => r.zs) = D.map fun p => p.2) ∧ ∀ r ∈ rs, NoA r.a r.len r.cap
/-- what a call that splits answers -/
def SpAns (e : TypeId) (w w' : World) (en : Ending) : Option (List (TF × List Int)) → Prop
  | none => en = .returned (.tuple #[.slice none 0 0, .slice none 0 0, .int .i64 2]) ∧ Below w.heap.size w w'
  | some D => ∃ vF vR fs rs, en = .returned (.tuple #[vF, vR, .int .i64 0]) ∧ SplSt w' w.heap.size e vF vR fs rs ∧ FitsF fs D ∧ FitsR rs D ∧ Below w.heap.size w w'
theorem fits_snoc {fs : List FR} {rs : List Row3} {D : List (TF × List Int)} (hF : FitsF fs D) (hR : FitsR rs D) (f : FR) (r : Row3) (p : TF × List Int) (h1 : f.says = p.1.says) (h2 : r.zs = p.2) (h3 : NoA f.a f.len f.cap) (h4 : NoA r.a r.len r.cap) : FitsF (fs ++ [f]) (D ++ [p]) ∧ FitsR (rs ++ [r]) (D ++ [p]) := by
  refine ⟨⟨?_, fun x hx => ?_⟩, ?_, fun x hx => ?_⟩
  · simp [hF.1, h1]
  · rcases List.mem_append.1 hx with hx | hx
    · exact hF.2 x hx
    · have : x = f := by simpa using hx
      rw [this]; exact h3
  · simp [hR.1, h2]
  · rcases List.mem_append.1 hx with hx | hx
    · exact hR.2 x hx
    · have : x = r := by simpa using hx
      rw [this]; exact h4
theorem FitsF.nil : FitsF [] [] := ⟨rfl, fun _ h => by cases h⟩
theorem FitsR.nil : FitsR [] [] := ⟨rfl, fun _ h => by cases h⟩
theorem FitsF.len {fs : List FR} {D : List (TF × List Int)} (h : FitsF fs D) : fs.length = D.length := by
  have := congrArg List.length h.1
  simpa using this
theorem FitsR.len {rs : List Row3} {D : List (TF × List Int)} (h : FitsR rs D) : rs.length = D.length := by
  have := congrArg List.length h.1
  simpa using this
end Go.Proofs.YteajlfgbmefncaaGreatDoor
namespace Go.Proofs.YteajlfgbmefncaaGreatDoor
set_option linter.unusedVariables false

/-- a value: what it is by its kind (1 to 7), and all that a node can hold -/
structure Nd where
  kind : Int
  n : Int
  u : Int
  b : Bool
  s : List UInt8
  type : Int
  fields : List (Int × List Nd)
def ints (s : List UInt8) : List Int := s.map fun b => (b.toNat : Int)
theorem ints_len (s : List UInt8) : (ints s).length = s.length := by unfold ints; simp
theorem ints_ok (s : List UInt8) : ∀ z ∈ ints s, 0 ≤ z ∧ z ≤ 255 := by
  intro z hz
  unfold ints at hz
  obtain ⟨b, _, rfl⟩ := List.mem_map.1 hz
  have := b.toNat_lt
  omega
/-- the type of a field's value alone: the program's, and the document's -/
def ownT (k : Int) : Int := if k = 1 ∨ k = 2 ∨ k = 3 ∨ k = 4 ∨ k = 9 then 0 else if k = 7 then 5 else if k = 8 then 1 else 2
def wireT (k : Int) : Int := if k = 7 then 5 else if k = 8 then 1 else if k = 5 ∨ k = 6 ∨ k = 10 then 2 else 0
def typeFits (f : FD) (ty : Int) : Bool := decide (ty = ownT f.kind) || (f.rep && decide (ty = 2))
def knownB (num ty : Int) (f : FD) : Bool := decide (f.num = num) && typeFits f ty
/-- known to the message: the program's -/
def knownP (fs : List FD) (num ty : Int) : Bool := !allB (atB fs fun _ f => !knownB num ty f) fs.length
/-- the first field of that number -/
def isFirst (fs : List FD) (num : Int) (i : Nat) (f : FD) : Prop := fs[i]? = some f ∧ f.num = num ∧ ∀ (j : Nat) (g : FD), j < i → fs[j]? = some g → g.num ≠ num
def NoField (fs : List FD) (num : Int) : Prop := ∀ (j : Nat) (g : FD), fs[j]? = some g → g.num ≠ num
def firstF : List FD → Int → Option FD
  | [], _ => none
  | f :: t, num => if f.num = num then some f else firstF t num
theorem firstF_is : ∀ {fs : List FD} {num : Int} {i : Nat} {f : FD}, isFirst fs num i f → firstF fs num = some f
  | [], num, i, f, h => by have := h.1; simp at this
  | x :: t, num, 0, f, h => by
    have e : x = f := by simpa using h.1
    subst e
    rw [firstF, if_pos h.2.1]
  | x :: t, num, i + 1, f, h => by
    rw [firstF, if_neg (h.2.2 0 x (by omega) rfl)]
    exact firstF_is ⟨by simpa using h.1, h.2.1, fun j g hj hg => h.2.2 (j + 1) g (by omega) (by simpa using hg)⟩
theorem firstF_no : ∀ {fs : List FD} {num : Int}, NoField fs num → firstF fs num = none
  | [], num, h => rfl
  | x :: t, num, h => by
    rw [firstF, if_neg (h 0 x rfl)]
    exact firstF_no fun j g hg => h (j + 1) g (by simpa using hg)
theorem firstF_some : ∀ {fs : List FD} {num : Int} {f : FD}, firstF fs num = some f → f ∈ fs ∧ f.num = num
  | x :: t, num, f, h => by
    rw [firstF] at h
    split at h
    · cases h; exact ⟨List.mem_cons_self, by assumption⟩
    · have := firstF_some h; exact ⟨List.mem_cons_of_mem _ this.1, this.2⟩
theorem firstF_none : ∀ {fs : List FD} {num : Int}, firstF fs num = none → ∀ f ∈ fs, f.num ≠ num
  | [], num, h, f, hf => by cases hf
  | x :: t, num, h, f, hf => by
    rw [firstF] at h
    split at h
    · cases h
    · rcases List.mem_cons.1 hf with rfl | hf
      · assumption
      · exact firstF_none h f hf
/-- known to the message: the document's -/
def knownR (fs : List FD) (num ty : Int) : Bool := match firstF fs num with
  | none => false
  | some f => decide (ty = wireT f.kind) || (f.rep && (decide (wireT f.kind ≠ 2) && decide (ty = 2)))
/-- fields' bytes of which none is known -/
def noneOf (known : Int → Int → Bool) (s : List UInt8) : Bool := match split (ints s) with
  | none => false
  | some D => allA D fun _ p => !known p.1.num p.1.ty
def valB (s : List UInt8) : Bool := Lib.validD s
def kindB (k : Int) (x : Nd) : Bool := if k = 1 ∨ k = 3 then decide (x.kind = 1) else if k = 2 ∨ k = 8 then decide (x.kind = 2) else if k = 7 then decide (x.kind = 2 ∧ x.u < 4294967296)
  else if k = 4 then decide (x.kind = 3) else if k = 5 then decide (x.kind = 4) && valB x.s else if k = 6 then decide (x.kind = 5) else if k = 9 then decide (x.kind = 6) else false
/-- a value fits a field's kind: the program's -/
def valP (rec : Int → Nd → Bool) (f : FD) (x : Nd) : Bool := if f.kind = 10 then rec f.type x else kindB f.kind x
def fldP (rec : Int → Nd → Bool) (fs : List FD) (x : Int × List Nd) : Bool := match firstF fs x.1 with
  | none => false
  | some f => !decide (x.2.length = 0) && ((decide (x.2.length ≤ 1) || f.rep) && allA x.2 fun _ y => valP rec f y)
def prevF (fl : List (Int × List Nd)) : Nat → Int
  | 0 => 0
  | k + 1 => match fl[k]? with
    | some f => f.1
    | none => 0
def bodyP (rec : Int → Nd → Bool) (fs : List FD) (x : Nd) : Bool := allA x.fields (fun k y => decide (prevF x.fields k < y.1) && fldP rec fs y) && noneOf (knownP fs) x.s
def topP (ms : List MD) (rec : Int → Nd → Bool) (dep t : Int) (x : Nd) : Bool := decide (x.kind = 7 ∧ x.type = t ∧ dep ≤ 16) && (match ms[t.toNat]? with
    | none => false
    | some m => bodyP rec m.fields x)
/-- a value fits a message, so deep: the program's -/
def fitP (ms : List MD) : Nat → Int → Int → Nd → Bool
  | 0, dep, t, x => topP ms (fun _ _ => false) dep t x
  | f + 1, dep, t, x => topP ms (fun t y => fitP ms f (dep + 1) t y) dep t x
/-- what lies in it -/
def recP (ms : List MD) (dep : Int) : Nat → Int → Nd → Bool
  | 0 => fun _ _ => false
  | f + 1 => fun t y => fitP ms f (dep + 1) t y
theorem fitP_eq (ms : List MD) (f : Nat) (dep t : Int) (x : Nd) : fitP ms f dep t x = topP ms (recP ms dep f) dep t x := by cases f <;> rfl
end Go.Proofs.YteajlfgbmefncaaGreatDoor
namespace Go.Proofs.YteajlfgbmefncaaGreatDoor
set_option linter.unusedVariables false

def kindOf (k : Int) : Int := if k = 1 ∨ k = 3 then 1 else if k = 2 ∨ k = 7 ∨ k = 8 then 2 else if k = 4 then 3 else if k = 5 then 4 else if k = 6 then 5 else if k = 9 then 6 else 7
/-- a node as a value has it: nothing that does not belong to its kind -/
def cn (y : Nd) : Nd := ⟨if 1 ≤ y.kind ∧ y.kind ≤ 7 then y.kind else 0, if y.kind = 1 then y.n else if y.kind = 6 then IntKind.i32.wrap y.n else 0, if y.kind = 2 then y.u else 0, if y.kind = 3 then y.b else false,
  if y.kind = 4 ∨ y.kind = 5 ∨ y.kind = 7 then y.s else [], if y.kind = 7 then y.type else 0, if y.kind = 7 then y.fields else []⟩
theorem good_of {ne nm : Nat} {fs : List FD} (h : formF ne nm fs = true) {k : Nat} {f : FD} (hf : fs[k]? = some f) : prevN fs k < f.num ∧ 1 ≤ f.kind ∧ f.kind ≤ 10 := by
  have h1 := allA_iff.1 h k f hf
  unfold goodF at h1
  simp only [Bool.and_eq_true, decide_eq_true_eq] at h1
  refine ⟨h1.1, ?_⟩
  have h2 := h1.2.2.2.2
  unfold typB at h2
  split at h2
  · omega
  · split at h2
    · omega
    · have := of_decide_eq_true h2; omega
theorem rise_of {ne nm : Nat} {fs : List FD} (h : formF ne nm fs = true) : ∀ (j i : Nat) (f g : FD), i < j → fs[i]? = some f → fs[j]? = some g → f.num < g.num := by
  intro j
  induction j with
  | zero => intro i f g hi; omega
  | succ j ih =>
    intro i f g hi hf hg
    have h1 := (good_of h hg).1
    obtain ⟨y, hy⟩ : ∃ y, fs[j]? = some y := ⟨_, List.getElem?_eq_getElem (by have := (List.getElem?_eq_some_iff.1 hg).1; omega)⟩
    rw [prevN_step hy] at h1
    by_cases hij : i = j
    · subst hij; rw [hf] at hy; cases hy; exact h1
    · exact Int.lt_trans (ih i f y (by omega) hf hy) h1
theorem one_of {ne nm : Nat} {fs : List FD} (h : formF ne nm fs = true) {f g : FD} (hf : f ∈ fs) (hg : g ∈ fs) (e : f.num = g.num) : f = g := by
  obtain ⟨i, hi⟩ := List.getElem?_of_mem hf
  obtain ⟨j, hj⟩ := List.getElem?_of_mem hg
  rcases Nat.lt_trichotomy i j with h1 | h1 | h1
  · have := rise_of h j i f g h1 hi hj; omega
  · subst h1; rw [hi] at hj; cases hj; rfl
  · have := rise_of h i j g f h1 hj hi; omega
theorem knownP_iff {fs : List FD} {num ty : Int} : knownP fs num ty = true ↔ ∃ f ∈ fs, f.num = num ∧ typeFits f ty = true := by
  unfold knownP
  rw [Bool.not_eq_true', ← Bool.not_eq_true, allB_iff]
  constructor
  · intro h
    apply Classical.byContradiction
    intro hn
    refine h fun j hj => ?_
    obtain ⟨y, hy⟩ : ∃ y, fs[j]? = some y := ⟨_, List.getElem?_eq_getElem hj⟩
    rw [atB_some hy, Bool.not_eq_true', ← Bool.not_eq_true]
    unfold knownB
    intro hk
    simp only [Bool.and_eq_true, decide_eq_true_eq] at hk
    exact hn ⟨y, List.mem_of_getElem? hy, hk⟩
  · rintro ⟨f, hf, h1, h2⟩ h
    obtain ⟨j, hj⟩ := List.getElem?_of_mem hf
    have := h j (List.getElem?_eq_some_iff.1 hj).1
    rw [atB_some hj, Bool.not_eq_true'] at this
    unfold knownB at this
    rw [h2, decide_eq_true h1] at this
    cases this
theorem fits_kind {f : FD} (h1 : 1 ≤ f.kind) (h2 : f.kind ≤ 10) (ty : Int) : typeFits f ty = (decide (ty = wireT f.kind) || (f.rep && (decide (wireT f.kind ≠ 2) && decide (ty = 2)))) := by
  obtain ⟨num, name, kind, rep, type⟩ := f
  simp only at h1 h2
  unfold typeFits
  dsimp only
  rcases (by omega : kind = 1 ∨ kind = 2 ∨ kind = 3 ∨ kind = 4 ∨ kind = 5 ∨ kind = 6 ∨ kind = 7 ∨ kind = 8 ∨ kind = 9 ∨ kind = 10) with rfl | rfl | rfl | rfl | rfl | rfl | rfl | rfl | rfl | rfl <;>
    simp only [ownT, wireT] <;> cases rep <;> simp
theorem known_eq {ne nm : Nat} {fs : List FD} (h : formF ne nm fs = true) (num ty : Int) : knownP fs num ty = knownR fs num ty := by
  unfold knownR
  cases hq : firstF fs num with
  | none =>
    simp only
    rw [← Bool.not_eq_true, knownP_iff]
    rintro ⟨f, hf, h1, _⟩
    exact firstF_none hq f hf h1
  | some f =>
    simp only
    obtain ⟨hf, hn⟩ := firstF_some hq
    obtain ⟨i, hi⟩ := List.getElem?_of_mem hf
    obtain ⟨_, k1, k2⟩ := good_of h hi
    rw [← fits_kind k1 k2]
    rw [Bool.eq_iff_iff, knownP_iff]
    constructor
    · rintro ⟨g, hg, h1, h2⟩
      rw [one_of h hf hg (hn.trans h1.symm)]; exact h2
    · intro h2; exact ⟨f, hf, hn, h2⟩
end Go.Proofs.YteajlfgbmefncaaGreatDoor
namespace Go.Proofs.YteajlfgbmefncaaGreatDoor
set_option linter.unusedVariables false
open Go.ChangeShapes Go.WideShapes Go.ChangeAt Go.RowKit

theorem RowsIn.isSl {α : Type} {w : World} {S : Nat → Prop} {k : Nat} {row : α → List Value} {v : Value} {xs : List α} (h : RowsIn w S k row v xs) : ∃ ad c, v = .slice ad xs.length c := by
  obtain ⟨ad, c, hv, _⟩ := h; exact ⟨ad, c, hv⟩
end Go.Proofs.YteajlfgbmefncaaGreatDoor
