/-
  The walk over the document's Quote.
-/
import Derived.Test.YthlcnofpgmpinaaDoorQtP
import Derived.Test.YthlcnofpgmpinaaDoorRun
import Derived.Test.YthlcnofpgmpinaaDoorEncS
import Derived.BigQuiet
import Derived.Laws.DeepStrings4
namespace Go.Proofs.YthlcnofpgmpinaaDoor
set_option linter.unusedVariables false
open Go.ChangeShapes Go.WideShapes Go.ChangeAt Go.RowKit

theorem rns_nat (s : ByteArray) : ∀ (b i : Nat), ∀ r ∈ rns s b i, ∃ n : Nat, r = (n : Int) ∧ n ≤ 2147483647
  | 0, i, r, h => by
    by_cases hi : i < s.size
    · unfold rns at h; cases h
    · rw [rns_end s _ i hi] at h; cases h
  | b + 1, i, r, h => by
    by_cases hi : i < s.size
    · rw [rns_step s b i hi] at h
      rcases List.mem_cons.1 h with rfl | h
      · exact ⟨_, rfl, decode_le s i⟩
      · exact rns_nat s b _ r h
    · rw [rns_end s _ i hi] at h; cases h
theorem qr_len (r : Int) : (qr r).length ≤ 6 := by
  have := enc_len r
  unfold qr
  repeat' split
  all_goals first
    | (rw [List.length_cons]; omega)
    | (simp; done)
    | omega
theorem qr_flat_len : ∀ l : List Int, (l.flatMap qr).length ≤ 6 * l.length
  | [] => by simp
  | c :: t => by
    have h1 := qr_len c
    have h2 := qr_flat_len t
    rw [List.flatMap_cons, List.length_append, List.length_cons]; omega
theorem qr_snoc {l : List Int} {k : Nat} {c : Int} (h : l[k]? = some c) : (l.take (k + 1)).flatMap qr = (l.take k).flatMap qr ++ qr c := by
  rw [List.take_add_one, h, List.flatMap_append]
  simp
theorem sumS (a b : ByteArray) (hn : a.size + b.size ≤ 9223372036854775807) (W : World) : (Op.stringOp .add a b).run Tryd.prog W = .ok (.string (a ++ b)) W :=
  run_string_add_sum W _ _ (by omega)
theorem rune_str (w : World) (g : Nat) (r : Int) (h : w.cell? ⟨g, 0, none⟩ = some (.int .i32 r)) : (convert 31 9 (.slice (some ⟨g, 0, none⟩) 1 1)).run Tryd.prog w = .ok (.string ⟨(Lib.encodeRune r).toArray⟩) w := by
  have := run_convert_runes (P := Tryd.prog) w 31 9 21 ⟨g, 0, none⟩ 1 1 [r] (by simp) Tryd.underlying31 Tryd.underlying21 Tryd.underlying9 (by
    intro j hj
    have hj1 : j < 1 := by simpa using hj
    have e : j = 0 := by omega
    subst e
    have ea : (⟨g, 0, none⟩ : Addr).add 0 = ⟨g, 0, none⟩ := by unfold Addr.add; split <;> simp_all
    rw [ea]; exact h)
  rw [show [r].take 1 = [r] from rfl, runesBytes_eq, encL_cons, encL_nil, List.append_nil] at this
  exact this
theorem alloc_hn (w : World) (o : Obj) : (w.alloc o).heap[w.heap.size]? = some o := by
  show (w.heap.push o)[w.heap.size]? = _
  simp
theorem esc_app (X : ByteArray) (l : List UInt8) : X ++ (⟨#[92]⟩ : ByteArray) ++ ⟨l.toArray⟩ = X ++ ⟨(92 :: l).toArray⟩ := by
  have e : (⟨#[92]⟩ : ByteArray) ++ ⟨l.toArray⟩ = ⟨(92 :: l).toArray⟩ := by rw [ByteArray.mk_append_mk]; simp
  rw [ByteArray.append_assoc, e]
theorem hex_cut (n : Nat) (h : n < 16) : ({ data := #[48, 49, 50, 51, 52, 53, 54, 55, 56, 57, 97, 98, 99, 100, 101, 102] } : ByteArray).extract n (n + 1) = ⟨#[hexD n]⟩ := by
  have e : ∀ i : Fin 16, ({ data := #[48, 49, 50, 51, 52, 53, 54, 55, 56, 57, 97, 98, 99, 100, 101, 102] } : ByteArray).extract i.val (i.val + 1) = ⟨#[hexD i.val]⟩ := by decide +kernel
  exact e ⟨n, h⟩
theorem and_low (m : Nat) (h : m < 128) : bits .and .i32 (m : Int) 15 = ((m % 16 : Nat) : Int) := by
  have e : ∀ i : Fin 128, bits .and .i32 (i.val : Int) 15 = ((i.val % 16 : Nat) : Int) := by decide +kernel
  exact e ⟨m, h⟩
theorem cut_hex (n : Nat) (h : n < 16) (W : World) : (Instr.slice 9 (.string ({ data := #[48, 49, 50, 51, 52, 53, 54, 55, 56, 57, 97, 98, 99, 100, 101, 102] } : ByteArray)) (some (.int .i32 (n : Int))) (some (.int .i32 ((n : Int) + 1))) none).run Tryd.prog W = .ok (.string ⟨#[hexD n]⟩) W := by
  rw [run_slice_string_if W 9 _ .i32 .i32 (n : Int) ((n : Int) + 1) Tryd.underlying9, if_pos ⟨by omega, by show _ ≤ (16 : Int); omega⟩, if_pos ⟨by omega, by omega⟩]
  rw [Int.toNat_natCast, show ((n : Int) + 1).toNat = n + 1 from by omega, hex_cut n h]
set_option maxHeartbeats 16000000 in
set_option maxRecDepth 100000 in
theorem quoteR_any (s : ByteArray) (w : World) (hT : Tabs w) (h : s.size ≤ 1048576) :
    Calls Tryd.prog 6 #[.string s] w fun e w' => e = .returned (.string ⟨(quoteA s.data.toList).toArray⟩) ∧ Below w.heap.size w w' := by
  have hR := runesR_any s w hT (by omega)
  go_enter Tryd.func6, Tryd.ntmps6
  go_wp2_with fail
  refine hR.mono ?_
  rintro e w1 ⟨hif, hb1⟩
  have HB1 := Lib.hid hb1
  have hs1 := hb1.size
  clear hR hb1 hT
  cases hq : Lib.validD s.data.toList
  case false =>
    rw [hq, if_neg (by decide)] at hif
    subst hif
    have HQA := Lib.hid (quoteA_no hq)
    clear hq
    go_wp2_with fail
    go_ret
    exact ⟨(by rw [HQA.out]; rfl), HB1.out⟩
  case true =>
    rw [hq, if_pos rfl] at hif
    obtain ⟨g, c, rfl, hH, hlc⟩ := hif
    have hrl := runes_len s
    have HNN : Hid (∀ r ∈ runes s, ∃ n : Nat, r = (n : Int) ∧ n ≤ 2147483647) := rns_nat s _ _
    have HQA : Hid (quoteA s.data.toList = 34 :: ((runes s).flatMap qr ++ [34])) := by
      refine (?_ : _ = _)
      rw [quoteA_yes hq, quote_runes s hq]; rfl
    have HH := Lib.hid hH
    obtain ⟨rs, hrs⟩ : ∃ rs, runes s = rs := ⟨_, rfl⟩
    rw [hrs] at hrl HNN HQA HH hlc ⊢
    clear hq hH hrs
    obtain ⟨n, hn⟩ : ∃ n, rs.length = n := ⟨_, rfl⟩
    have HN := Lib.hid hn
    rw [hn] at hrl hlc ⊢
    clear hn
    have h6 : n ≤ 1048576 := by omega
    go_wp2_with fail
    go_loopw [5, 17] (fun out i wr => ∃ (k : Nat) (X : ByteArray), out = .string X ∧ i = .int .i64 (k : Int) ∧ k ≤ n ∧ X = ⟨(34 :: (rs.take k).flatMap qr).toArray⟩ ∧ Below w1.heap.size w1 wr) (fun _ i _ => n - (intOf i).toNat)
    case atStart => exact ⟨0, ⟨#[34]⟩, rfl, rfl, Nat.zero_le _, rfl, Below.refl _ _⟩
    case round =>
      generalize wr = w2 at *
      obtain ⟨k, X, rfl, rfl, hk, hX, hb2⟩ := hrel
      have hXs : X.size ≤ 1 + 6 * k := by
        have := qr_flat_len (rs.take k)
        rw [List.length_take] at this
        rw [hX]
        show (34 :: (rs.take k).flatMap qr).toArray.size ≤ _
        rw [List.size_toArray, List.length_cons]
        omega
      have hs2 := hb2.size
      have HB2 := Lib.hid hb2
      have HX := Lib.hid hX
      clear hX hb2
      by_cases hlt : k < n
      · obtain ⟨r, hr⟩ : ∃ r, rs[k]? = some r := ⟨_, List.getElem?_eq_getElem (by have := HN.out; omega)⟩
        obtain ⟨m, rfl, hm⟩ := HNN.out r (List.mem_of_getElem? hr)
        have hce : w2.cell? ⟨g, k, none⟩ = some (.int .i32 (m : Int)) := heldR_old HH.out HB2.out k _ hr
        have HSN : Hid (∀ x : List UInt8, qr (m : Int) = x → X ++ ⟨x.toArray⟩ = ⟨(34 :: (rs.take (k + 1)).flatMap qr).toArray⟩) := fun x hx => by
          rw [HX.out, qr_snoc hr, hx, ByteArray.mk_append_mk]; simp
        have hwk : IntKind.i64.wrap ((k : Int) + 1) = (k : Int) + 1 := by rw [IntKind.wrap_i64]; omega
        have hel := enc_len (m : Int)
        have hcv := rune_str (w2.alloc (.cells #[.int .i32 (m : Int)] 21)) w2.heap.size (m : Int) (by rw [Lib.cell_of_heap (alloc_hn _ _)]; rfl)
        have HBA : Hid (Below w1.heap.size w1 (w2.alloc (.cells #[.int .i32 (m : Int)] 21))) := HB2.out.alloc (by omega) _
        have hes : (ByteArray.mk (Lib.encodeRune (m : Int)).toArray).size ≤ 4 := by show (Lib.encodeRune (m : Int)).toArray.size ≤ 4; rw [List.size_toArray]; omega
        obtain ⟨E, hE⟩ : ∃ E, E = ByteArray.mk (Lib.encodeRune (m : Int)).toArray := ⟨_, rfl⟩
        rw [← hE] at hcv hes
        have HE := Lib.hid hE
        clear hE hr HX
        by_cases h1 : m = 34
        · have hx1 : ((m : Int) == 34) = true := by rw [h1]; rfl
          have H1 := Lib.hid h1
          clear h1
          have hS1 := sumS X ⟨#[92]⟩ (by show X.size + 1 ≤ _; omega)
          have hS2 := sumS (X ++ ⟨#[92]⟩) E (by rw [ByteArray.size_append]; show X.size + 1 + E.size ≤ _; omega)
          have HY : Hid ((X ++ ⟨#[92]⟩) ++ E = ⟨(34 :: (rs.take (k + 1)).flatMap qr).toArray⟩) := by
            refine (?_ : _ = _)
            rw [← HSN.out (92 :: Lib.encodeRune (m : Int)) (by have := H1.out; unfold qr; rw [if_pos (.inl (by omega))])]
            all_goals first
              | rfl
              | (rw [HE.out]; done)
              | (rw [HE.out, esc_app]; done)
          clear HSN
          go_wp2_with fail
          go_roundw
          case rel => exact ⟨k + 1, _, rfl, by go_num, by omega, HY.out, HBA.out⟩
          case measure => simp [intOf]; omega
        have hx1 : ((m : Int) == 34) = false := by simp; omega
        by_cases h2 : m = 92
        · have hx2 : ((m : Int) == 92) = true := by rw [h2]; rfl
          have H2 := Lib.hid h2
          clear h2
          have hS1 := sumS X ⟨#[92]⟩ (by show X.size + 1 ≤ _; omega)
          have hS2 := sumS (X ++ ⟨#[92]⟩) E (by rw [ByteArray.size_append]; show X.size + 1 + E.size ≤ _; omega)
          have HY : Hid ((X ++ ⟨#[92]⟩) ++ E = ⟨(34 :: (rs.take (k + 1)).flatMap qr).toArray⟩) := by
            refine (?_ : _ = _)
            rw [← HSN.out (92 :: Lib.encodeRune (m : Int)) (by have := H2.out; unfold qr; rw [if_pos (.inr (by omega))])]
            all_goals first
              | rfl
              | (rw [HE.out]; done)
              | (rw [HE.out, esc_app]; done)
          clear HSN
          go_wp2_with fail
          go_roundw
          case rel => exact ⟨k + 1, _, rfl, by go_num, by omega, HY.out, HBA.out⟩
          case measure => simp [intOf]; omega
        have hx2 : ((m : Int) == 92) = false := by simp; omega
        by_cases h3 : m = 10
        · have hx3 : ((m : Int) == 10) = true := by rw [h3]; rfl
          have H3 := Lib.hid h3
          clear h3
          have hS1 := sumS X ⟨#[92, 110]⟩ (by show X.size + 2 ≤ _; omega)
          have HY : Hid (X ++ ⟨#[92, 110]⟩ = ⟨(34 :: (rs.take (k + 1)).flatMap qr).toArray⟩) := by
            refine (?_ : _ = _)
            rw [← HSN.out [92, 110] (by have := H3.out; unfold qr; rw [if_neg (by omega), if_pos (by omega)])]
            all_goals first
              | rfl
              | (rw [HE.out]; done)
              | (rw [HE.out, esc_app]; done)
          clear HSN
          go_wp2_with fail
          go_roundw
          case rel => exact ⟨k + 1, _, rfl, by go_num, by omega, HY.out, HB2.out⟩
          case measure => simp [intOf]; omega
        have hx3 : ((m : Int) == 10) = false := by simp; omega
        by_cases h4 : m < 32
        · have hx4 : (m : Int) < 32 := by omega
          obtain ⟨P, hP⟩ : ∃ P, m / 16 = P := ⟨_, rfl⟩
          obtain ⟨Q, hQ⟩ : ∃ Q, m % 16 = Q := ⟨_, rfl⟩
          have hP16 : P < 16 := by omega
          have hQ16 : Q < 16 := by omega
          have HP := Lib.hid hP
          have HQ := Lib.hid hQ
          have hPI : (m : Int) / 16 = (P : Int) := by omega
          have hQI : bits .and .i32 (m : Int) 15 = (Q : Int) := by rw [and_low m (by omega), hQ]
          have hPw : IntKind.i32.wrap ((P : Int) + 1) = (P : Int) + 1 := by rw [IntKind.wrap_i32]; omega
          have hQw : IntKind.i32.wrap ((Q : Int) + 1) = (Q : Int) + 1 := by rw [IntKind.wrap_i32]; omega
          have hc1 := cut_hex P hP16
          have hc2 := cut_hex Q hQ16
          clear hP hQ
          have hS1 := sumS X ⟨#[92, 117, 48, 48]⟩ (by show X.size + 4 ≤ _; omega)
          have hS2 := sumS (X ++ ⟨#[92, 117, 48, 48]⟩) ⟨#[hexD P]⟩ (by rw [ByteArray.size_append]; show X.size + 4 + 1 ≤ _; omega)
          have hS3 := sumS ((X ++ ⟨#[92, 117, 48, 48]⟩) ++ ⟨#[hexD P]⟩) ⟨#[hexD Q]⟩ (by rw [ByteArray.size_append, ByteArray.size_append]; show X.size + 4 + 1 + 1 ≤ _; omega)
          have HY : Hid (((X ++ ⟨#[92, 117, 48, 48]⟩) ++ ⟨#[hexD P]⟩) ++ ⟨#[hexD Q]⟩ = ⟨(34 :: (rs.take (k + 1)).flatMap qr).toArray⟩) := by
            refine (?_ : _ = _)
            rw [← HSN.out [92, 117, 48, 48, hexD P, hexD Q] (by unfold qr; rw [if_neg (by omega), if_neg (by omega), if_pos (by omega), Int.toNat_natCast, HP.out, HQ.out])]
            rw [ByteArray.append_assoc, ByteArray.append_assoc, ByteArray.mk_append_mk, ByteArray.mk_append_mk]
            try rfl
          clear HSN
          go_upto_region 15 with fail
          go_quiet (fail)
          have HB5 : Hid (Below w1.heap.size w1 (w2.drewN nq)) := by first | exact HB2.out.trans ⟨rfl, rfl, rfl, Nat.le_refl _, fun _ _ => rfl⟩ | exact HB2.out.trans ⟨rfl, rfl, rfl, HB2.out.size, fun _ _ => rfl⟩
          go_wp2_with fail
          go_roundw
          case rel => exact ⟨k + 1, _, rfl, by go_num, by omega, HY.out, HB5.out⟩
          case measure => simp [intOf]; omega
        have hx4 : ¬ (m : Int) < 32 := by omega
        by_cases h5 : m = 127
        · have hx5 : ((m : Int) == 127) = true := by rw [h5]; rfl
          have H5 := Lib.hid h5
          clear h5
          obtain ⟨P, hP⟩ : ∃ P, m / 16 = P := ⟨_, rfl⟩
          obtain ⟨Q, hQ⟩ : ∃ Q, m % 16 = Q := ⟨_, rfl⟩
          have h5 := H5.out
          have hP16 : P < 16 := by omega
          have hQ16 : Q < 16 := by omega
          have HP := Lib.hid hP
          have HQ := Lib.hid hQ
          have hPI : (m : Int) / 16 = (P : Int) := by omega
          have hQI : bits .and .i32 (m : Int) 15 = (Q : Int) := by rw [and_low m (by omega), hQ]
          have hPw : IntKind.i32.wrap ((P : Int) + 1) = (P : Int) + 1 := by rw [IntKind.wrap_i32]; omega
          have hQw : IntKind.i32.wrap ((Q : Int) + 1) = (Q : Int) + 1 := by rw [IntKind.wrap_i32]; omega
          have hc1 := cut_hex P hP16
          have hc2 := cut_hex Q hQ16
          clear hP hQ h5
          have hS1 := sumS X ⟨#[92, 117, 48, 48]⟩ (by show X.size + 4 ≤ _; omega)
          have hS2 := sumS (X ++ ⟨#[92, 117, 48, 48]⟩) ⟨#[hexD P]⟩ (by rw [ByteArray.size_append]; show X.size + 4 + 1 ≤ _; omega)
          have hS3 := sumS ((X ++ ⟨#[92, 117, 48, 48]⟩) ++ ⟨#[hexD P]⟩) ⟨#[hexD Q]⟩ (by rw [ByteArray.size_append, ByteArray.size_append]; show X.size + 4 + 1 + 1 ≤ _; omega)
          have HY : Hid (((X ++ ⟨#[92, 117, 48, 48]⟩) ++ ⟨#[hexD P]⟩) ++ ⟨#[hexD Q]⟩ = ⟨(34 :: (rs.take (k + 1)).flatMap qr).toArray⟩) := by
            refine (?_ : _ = _)
            rw [← HSN.out [92, 117, 48, 48, hexD P, hexD Q] (by have := H5.out; unfold qr; rw [if_neg (by omega), if_neg (by omega), if_pos (by omega), Int.toNat_natCast, HP.out, HQ.out])]
            rw [ByteArray.append_assoc, ByteArray.append_assoc, ByteArray.mk_append_mk, ByteArray.mk_append_mk]
            try rfl
          clear HSN
          go_upto_region 15 with fail
          go_quiet (fail)
          have HB5 : Hid (Below w1.heap.size w1 (w2.drewN nq)) := by first | exact HB2.out.trans ⟨rfl, rfl, rfl, Nat.le_refl _, fun _ _ => rfl⟩ | exact HB2.out.trans ⟨rfl, rfl, rfl, HB2.out.size, fun _ _ => rfl⟩
          go_wp2_with fail
          go_roundw
          case rel => exact ⟨k + 1, _, rfl, by go_num, by omega, HY.out, HB5.out⟩
          case measure => simp [intOf]; omega
        have hx5 : ((m : Int) == 127) = false := by simp; omega
        have hS1 := sumS X E (by omega)
        have HY : Hid (X ++ E = ⟨(34 :: (rs.take (k + 1)).flatMap qr).toArray⟩) := by
          refine (?_ : _ = _)
          rw [← HSN.out (Lib.encodeRune (m : Int)) (by unfold qr; rw [if_neg (by omega), if_neg (by omega), if_neg (by omega)])]
          all_goals first
            | rfl
            | (rw [HE.out]; done)
            | (rw [HE.out, esc_app]; done)
        clear HSN
        go_wp2_with fail
        go_roundw
        case rel => exact ⟨k + 1, _, rfl, by go_num, by omega, HY.out, HBA.out⟩
        case measure => simp [intOf]; omega
      · have hke : ¬ (k : Int) < (n : Int) := by omega
        have hS1 := sumS X ⟨#[34]⟩ (by show X.size + 1 ≤ _; omega)
        have HY : Hid (X ++ ⟨#[34]⟩ = ⟨(quoteA s.data.toList).toArray⟩) := by
          refine (?_ : _ = _)
          rw [HX.out, HQA.out, List.take_of_length_le (by rw [HN.out]; omega), ByteArray.mk_append_mk]
          simp
        have HE := Lib.hid (HB1.out.trans (HB2.out.mono HB1.out.size))
        clear HX
        go_wp2_with fail
        go_ret
        exact ⟨(by rw [← HY.out]; rfl), HE.out⟩
end Go.Proofs.YthlcnofpgmpinaaDoor
