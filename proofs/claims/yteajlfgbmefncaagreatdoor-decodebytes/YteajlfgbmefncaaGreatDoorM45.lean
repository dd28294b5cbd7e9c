/-
  Schemas that came in as an argument: what their reading says. Nothing is proved of the program here.
  Slices of bytes, of numbers and of fields that came in as an argument: what their reading says. Nothing is proved of the program here.
-/
import Derived.Test.YteajlfgbmefncaaGreatDoorM44
import Derived.Test.YteajlfgbmefncaaGreatDoorM9
import Derived.Test.YteajlfgbmefncaaGreatDoorM7
import Derived.Test.YteajlfgbmefncaaGreatDoorM19
namespace Go.Proofs.YteajlfgbmefncaaGreatDoor
set_option linter.unusedVariables false
open Go.ChangeShapes Go.WideShapes Go.ChangeAt Go.RowKit Go.Joins

set_option maxRecDepth 100000 in
theorem trodS2 {H : Type} {enc : TypeId × Value → H} {W : World} {t : TypeId} {f0 f1 : Field} {fuel : Nat} {cs : List Value} {y : DataW H × List MemPlace} (ht : Tryz.prog.underlying t = some (.struct #[f0, f1])) (h : DataW.trod enc Tryz.prog W 0 (fun _ => true) true fuel t cs = some y) (hw : Wok2 y.1 t) :
    ∃ (y0 y1 : DataW H × List MemPlace) (n : Nat), fuel = n + 1 ∧ cs.length = Tryz.prog.cellsOf t ∧ (DataW.trod enc Tryz.prog W 0 (fun _ => true) true n f0.type ((cs.drop f0.offset).take (Tryz.prog.cellsOf f0.type)) = some y0 ∧ Wok2 y0.1 f0.type) ∧ (DataW.trod enc Tryz.prog W 0 (fun _ => true) true n f1.type ((cs.drop f1.offset).take (Tryz.prog.cellsOf f1.type)) = some y1 ∧ Wok2 y1.1 f1.type) := by
  obtain ⟨xs, n, hn, rfl, hl, hlen, hf⟩ := DataW.trod_struct ht h
  match xs, hlen with
  | [y0, y1], _ => exact ⟨y0, y1, n, hn, hl, ⟨by simpa using hf 0 f0 rfl, wok_struct ht hw 0 f0 y0.1 rfl rfl⟩, ⟨by simpa using hf 1 f1 rfl, wok_struct ht hw 1 f1 y1.1 rfl rfl⟩⟩
theorem cI : Tryz.prog.cellsOf 3 = 1 := by kernel_rfl
theorem cB : Tryz.prog.cellsOf 4 = 1 := by kernel_rfl
theorem cS : Tryz.prog.cellsOf 9 = 1 := by kernel_rfl
set_option maxRecDepth 100000 in
theorem fd_of_trod {H : Type} {enc : TypeId × Value → H} {W : World} {fuel : Nat} {cs : List Value} {y : DataW H × List MemPlace} (h : DataW.trod enc Tryz.prog W 0 (fun _ => true) true fuel 51 cs = some y) (hw : Wok2 y.1 51) :
    ∃ x : FD, cs = fdrow x ∧ x.name.length ≤ N47 := by
  obtain ⟨y0, y1, y2, y3, y4, n, _, hl, ⟨h0, w0⟩, ⟨h1, w1⟩, ⟨h2, w2⟩, ⟨h3, w3⟩, ⟨h4, w4⟩⟩ := trodS5 Tryz.underlying51 h hw
  rw [show Tryz.prog.cellsOf 51 = 5 by kernel_rfl] at hl
  match cs, hl with
  | [c0, c1, c2, c3, c4], _ =>
    dsimp only at h0 h1 h2 h3 h4
    simp only [cI, cB, cS, List.drop_zero, List.drop_succ_cons, List.take_succ_cons, List.take_zero] at h0 h1 h2 h3 h4
    obtain ⟨a, e0, _, _⟩ := DataW.trod_int Tryz.underlying3 h0
    obtain ⟨l1, e1, g1⟩ := str_of_trod h1 w1
    obtain ⟨b, e2, _, _⟩ := DataW.trod_int Tryz.underlying3 h2
    obtain ⟨c, e3, _⟩ := DataW.trod_bool Tryz.underlying4 h3
    obtain ⟨d, e4, _, _⟩ := DataW.trod_int Tryz.underlying3 h4
    simp only [List.cons.injEq, and_true] at e0 e1 e2 e3 e4
    subst e0 e1 e2 e3 e4
    exact ⟨⟨a, l1, b, c, d⟩, rfl, g1⟩
set_option maxRecDepth 100000 in
theorem vd_of_trod {H : Type} {enc : TypeId × Value → H} {W : World} {fuel : Nat} {cs : List Value} {y : DataW H × List MemPlace} (h : DataW.trod enc Tryz.prog W 0 (fun _ => true) true fuel 62 cs = some y) (hw : Wok2 y.1 62) :
    ∃ x : VD, cs = vdrow x ∧ x.name.length ≤ N47 := by
  obtain ⟨y0, y1, n, _, hl, ⟨h0, w0⟩, ⟨h1, w1⟩⟩ := trodS2 Tryz.underlying62 h hw
  rw [show Tryz.prog.cellsOf 62 = 2 by kernel_rfl] at hl
  match cs, hl with
  | [c0, c1], _ =>
    dsimp only at h0 h1
    simp only [cI, cS, List.drop_zero, List.drop_succ_cons, List.take_succ_cons, List.take_zero] at h0 h1
    obtain ⟨l0, e0, g0⟩ := str_of_trod h0 w0
    obtain ⟨a, e1, _, _⟩ := DataW.trod_int Tryz.underlying3 h1
    simp only [List.cons.injEq, and_true] at e0 e1
    subst e0 e1
    exact ⟨⟨l0, a⟩, rfl, g0⟩
set_option maxRecDepth 100000 in
theorem td_of_trod {H : Type} {enc : TypeId × Value → H} {W : World} {fuel : Nat} {cs : List Value} {y : DataW H × List MemPlace} (h : DataW.trod enc Tryz.prog W 0 (fun _ => true) true fuel 64 cs = some y) (hw : Wok2 y.1 64) :
    ∃ x : TD, cs = tdrow x ∧ (x.name.length ≤ N47 ∧ x.service.length ≤ N47) := by
  obtain ⟨y0, y1, y2, y3, y4, n, _, hl, ⟨h0, w0⟩, ⟨h1, w1⟩, ⟨h2, w2⟩, ⟨h3, w3⟩, ⟨h4, w4⟩⟩ := trodS5 Tryz.underlying64 h hw
  rw [show Tryz.prog.cellsOf 64 = 5 by kernel_rfl] at hl
  match cs, hl with
  | [c0, c1, c2, c3, c4], _ =>
    dsimp only at h0 h1 h2 h3 h4
    simp only [cI, cS, List.drop_zero, List.drop_succ_cons, List.take_succ_cons, List.take_zero] at h0 h1 h2 h3 h4
    obtain ⟨a, e0, _, _⟩ := DataW.trod_int Tryz.underlying3 h0
    obtain ⟨l1, e1, g1⟩ := str_of_trod h1 w1
    obtain ⟨l2, e2, g2⟩ := str_of_trod h2 w2
    obtain ⟨c, e3, _, _⟩ := DataW.trod_int Tryz.underlying3 h3
    obtain ⟨d, e4, _, _⟩ := DataW.trod_int Tryz.underlying3 h4
    simp only [List.cons.injEq, and_true] at e0 e1 e2 e3 e4
    subst e0 e1 e2 e3 e4
    exact ⟨⟨a, l1, l2, c, d⟩, rfl, g2, g1⟩
/-- rows that hold a name and a slice, as named tables -/
theorem heldN_of {α β : Type} {nm : α → List UInt8} {kids : α → List β} {k : Nat} {row : β → List Value} {W : World} {v : Value} {ps : List (α × Value)}
    (h : RowsIn W (fun b => b < W.heap.size) 2 (fun p : α × Value => [.string (mkB (nm p.1)), p.2]) v ps) (hk : ∀ p ∈ ps, RowsIn W (fun b => b < W.heap.size) k row p.2 (kids p.1)) :
    HeldN nm kids k row W (fun b => b < W.heap.size) v (ps.map Prod.fst) := by
  obtain ⟨ad, c, hv, hc, hr⟩ := h
  refine ⟨ad, c, by rw [List.length_map]; exact hv, by rw [List.length_map]; exact hc, ?_⟩
  rcases hr with hr | ⟨g, o, ha, hg, hrow⟩
  · left; rw [hr]; rfl
  · right
    refine ⟨g, o, ha, hg, fun j x hj => ?_⟩
    rw [List.getElem?_map] at hj
    obtain ⟨p, hp, rfl⟩ := Option.map_eq_some_iff.1 hj
    have hR := hk p (List.mem_of_getElem? hp)
    obtain ⟨ka, kc, hsl, hrest⟩ := hR
    refine ⟨ka, kc, ?_, ?_, ?_⟩
    · have := hrow j p hp 0 _ rfl; simpa [Nat.add_assoc] using this
    · have := hrow j p hp 1 _ rfl
      rw [← hsl]; simpa [Nat.add_assoc] using this
    · rw [← hsl]; exact ⟨ka, kc, hsl, hrest⟩
set_option maxRecDepth 100000 in
theorem ms_of_trod {H : Type} {enc : TypeId × Value → H} {W : World} {fuel : Nat} {cs : List Value} {y : DataW H × List MemPlace} (h : DataW.trod enc Tryz.prog W 0 (fun _ => true) true fuel 22 cs = some y) (hw : Wok2 y.1 22) :
    ∃ v xs, cs = [v] ∧ HeldM W (fun b => b < W.heap.size) v xs ∧ xs.length ≤ N47 ∧ ∀ m ∈ xs, m.name.length ≤ N47 ∧ m.fields.length ≤ N47 ∧ ∀ f ∈ m.fields, f.name.length ≤ N47 := by
  obtain ⟨v, ps, rfl, hR, hlen, hfit⟩ := slice_rows (α := MD × Value) 22 54 2 (fun p => [.string (mkB p.1.name), p.2]) (fun p => RowsIn W (fun b => b < W.heap.size) 5 fdrow p.2 p.1.fields ∧ p.1.name.length ≤ N47 ∧ p.1.fields.length ≤ N47 ∧ ∀ f ∈ p.1.fields, f.name.length ≤ N47)
    Tryz.underlying22 (by kernel_rfl) (by omega) (fun p => rfl) (by rw [show Tryz.prog.bytesOf 54 = 40 by kernel_rfl]; omega) (fun n hn cs y hq hwq => by
      obtain ⟨y0, y1, n2, _, hl, ⟨h0, w0⟩, ⟨h1, w1⟩⟩ := trodS2 Tryz.underlying54 hq hwq
      rw [show Tryz.prog.cellsOf 54 = 2 by kernel_rfl] at hl
      match cs, hl with
      | [c0, c1], _ =>
        dsimp only at h0 h1
        simp only [cS, show Tryz.prog.cellsOf 52 = 1 by kernel_rfl, List.drop_zero, List.drop_succ_cons, List.take_succ_cons, List.take_zero] at h0 h1
        obtain ⟨l0, e0, g0⟩ := str_of_trod h0 w0
        obtain ⟨v1, fs, e1, R1, n1, f1⟩ := slice_rows 52 51 5 fdrow _ Tryz.underlying52 (by kernel_rfl) (by omega) (fun _ => rfl) (by rw [show Tryz.prog.bytesOf 51 = 48 by kernel_rfl]; omega) (fun _ _ cs y h hw => fd_of_trod h hw) h1 w1
        simp only [List.cons.injEq, and_true] at e0 e1
        subst e0 e1
        exact ⟨(⟨l0, fs⟩, _), rfl, R1, g0, n1, f1⟩) h hw
  exact ⟨v, ps.map Prod.fst, rfl, heldN_of hR fun p hp => (hfit p hp).1, by rw [List.length_map]; exact hlen, fun m hm => by obtain ⟨p, hp, rfl⟩ := List.mem_map.1 hm; exact (hfit p hp).2⟩
set_option maxRecDepth 100000 in
theorem es_of_trod {H : Type} {enc : TypeId × Value → H} {W : World} {fuel : Nat} {cs : List Value} {y : DataW H × List MemPlace} (h : DataW.trod enc Tryz.prog W 0 (fun _ => true) true fuel 23 cs = some y) (hw : Wok2 y.1 23) :
    ∃ v xs, cs = [v] ∧ HeldE W (fun b => b < W.heap.size) v xs ∧ xs.length ≤ N47 ∧ ∀ m ∈ xs, m.name.length ≤ N47 ∧ m.values.length ≤ N47 ∧ ∀ f ∈ m.values, f.name.length ≤ N47 := by
  obtain ⟨v, ps, rfl, hR, hlen, hfit⟩ := slice_rows (α := ED × Value) 23 60 2 (fun p => [.string (mkB p.1.name), p.2]) (fun p => RowsIn W (fun b => b < W.heap.size) 2 vdrow p.2 p.1.values ∧ p.1.name.length ≤ N47 ∧ p.1.values.length ≤ N47 ∧ ∀ f ∈ p.1.values, f.name.length ≤ N47)
    Tryz.underlying23 (by kernel_rfl) (by omega) (fun p => rfl) (by rw [show Tryz.prog.bytesOf 60 = 40 by kernel_rfl]; omega) (fun n hn cs y hq hwq => by
      obtain ⟨y0, y1, n2, _, hl, ⟨h0, w0⟩, ⟨h1, w1⟩⟩ := trodS2 Tryz.underlying60 hq hwq
      rw [show Tryz.prog.cellsOf 60 = 2 by kernel_rfl] at hl
      match cs, hl with
      | [c0, c1], _ =>
        dsimp only at h0 h1
        simp only [cS, show Tryz.prog.cellsOf 58 = 1 by kernel_rfl, List.drop_zero, List.drop_succ_cons, List.take_succ_cons, List.take_zero] at h0 h1
        obtain ⟨l0, e0, g0⟩ := str_of_trod h0 w0
        obtain ⟨v1, fs, e1, R1, n1, f1⟩ := slice_rows 58 62 2 vdrow _ Tryz.underlying58 (by kernel_rfl) (by omega) (fun _ => rfl) (by rw [show Tryz.prog.bytesOf 62 = 24 by kernel_rfl]; omega) (fun _ _ cs y h hw => vd_of_trod h hw) h1 w1
        simp only [List.cons.injEq, and_true] at e0 e1
        subst e0 e1
        exact ⟨(⟨l0, fs⟩, _), rfl, R1, g0, n1, f1⟩) h hw
  exact ⟨v, ps.map Prod.fst, rfl, heldN_of hR fun p hp => (hfit p hp).1, by rw [List.length_map]; exact hlen, fun m hm => by obtain ⟨p, hp, rfl⟩ := List.mem_map.1 hm; exact (hfit p hp).2⟩
set_option maxRecDepth 100000 in
/-- a schema that was handed in -/
theorem open_schema {H : Type} {enc : TypeId × Value → H} {W : World} {r : Reach} {b0 : Nat} {v : Value} {d : DataW H} {p : List MemPlace}
    (hv : Value.okWide Tryz.prog W r b0 26 v) (h : DataW.Trod enc Tryz.prog W 0 (fun _ => true) true 26 v d p) (hw : Wok2 d 26) :
    ∃ (a b c : Value) (s : SC), v = .agg #[a, b, c] ∧ HeldSc W (fun b => b < W.heap.size) a b c s ∧ BigS s := by
  obtain ⟨xs, rfl, hsz⟩ := okWide_struct Tryz.underlying26 hv
  obtain ⟨fuel, hf⟩ := h
  obtain ⟨y0, y1, y2, n, _, hl, ⟨h0, w0⟩, ⟨h1, w1⟩, ⟨h2, w2⟩⟩ := trodS3 Tryz.underlying26 hf hw
  rw [show Tryz.prog.cellsOf 26 = 3 by kernel_rfl] at hl
  obtain ⟨l⟩ := xs
  simp only [Value.cells] at hl h0 h1 h2
  match l, hl with
  | [c0, c1, c2], _ =>
    simp only [show Tryz.prog.cellsOf 22 = 1 by kernel_rfl, show Tryz.prog.cellsOf 23 = 1 by kernel_rfl, show Tryz.prog.cellsOf 24 = 1 by kernel_rfl, List.drop_zero, List.drop_succ_cons, List.take_succ_cons, List.take_zero] at h0 h1 h2
    obtain ⟨v0, ms, e0, HM, n0, b0⟩ := ms_of_trod h0 w0
    obtain ⟨v1, es, e1, HE, n1, b1⟩ := es_of_trod h1 w1
    obtain ⟨v2, ts, e2, HT, n2, b2⟩ := slice_rows 24 64 5 tdrow _ Tryz.underlying24 (by kernel_rfl) (by omega) (fun _ => rfl) (by rw [show Tryz.prog.bytesOf 64 = 56 by kernel_rfl]; omega) (fun _ _ cs y h hw => td_of_trod h hw) h2 w2
    simp only [List.cons.injEq, and_true] at e0 e1 e2
    subst e0 e1 e2
    exact ⟨_, _, _, ⟨ms, es, ts⟩, rfl, ⟨HM, HE, HT⟩, ⟨n0, n1, n2⟩, b0, b1, b2⟩
end Go.Proofs.YteajlfgbmefncaaGreatDoor
namespace Go.Proofs.YteajlfgbmefncaaGreatDoor
set_option linter.unusedVariables false
open Go.ChangeShapes Go.WideShapes Go.ChangeAt Go.RowKit Go.Joins

theorem bd_u8B {a : Int} (w : (Lit.int .u8 a).wf = true) : 0 ≤ a ∧ a ≤ 255 := by
  simpa [Lit.wf, IntKind.min, IntKind.max, IntKind.bits, IntKind.signed] using w
set_option maxRecDepth 100000 in
theorem bs_of_trod {H : Type} {enc : TypeId × Value → H} {W : World} {fuel : Nat} {cs : List Value} {y : DataW H × List MemPlace} (h : DataW.trod enc Tryz.prog W 0 (fun _ => true) true fuel 27 cs = some y) (hw : Wok2 y.1 27) :
    ∃ a c zs, cs = [.slice a (zs : List Int).length c] ∧ BIn W (fun b => b < W.heap.size) a c zs := by
  obtain ⟨v, zs, rfl, ⟨ad, c, rfl, hlc, hr⟩, hlen, hfit⟩ := slice_rows (α := Int) 27 5 1 (fun z => [.int .u8 z]) (fun z => 0 ≤ z ∧ z ≤ 255) Tryz.underlying27 (by kernel_rfl) (by omega) (fun _ => rfl) (by rw [show Tryz.prog.bytesOf 5 = 1 by kernel_rfl]; omega) (fun n hn cs y hq hwq => by
    obtain ⟨z, e, _, hz⟩ := DataW.trod_int Tryz.underlying5 hq
    exact ⟨z, e, bd_u8B hz⟩) h hw
  have hno : (ad = none → zs.length = 0 ∧ c = 0) ∧ c ≤ 9223372036854775807 := by
    rcases DataW.trod_slice Tryz.underlying27 h with ⟨hcs, _⟩ | ⟨x, l, c', elems, rest, m, _, hcs, _, _, hl, hmx, _⟩
    · simp only [List.cons.injEq, and_true] at hcs
      obtain ⟨h1, h2, h3⟩ := Value.slice.inj hcs
      exact ⟨fun _ => ⟨h2, h3⟩, by omega⟩
    · simp only [List.cons.injEq, and_true] at hcs
      obtain ⟨h1, h2, h3⟩ := Value.slice.inj hcs
      exact ⟨(fun h => by rw [h] at h1; cases h1), by unfold maxLen at hmx; omega⟩
  refine ⟨ad, c, zs, rfl, hlen, hno.1, ?_, hlc, hno.2⟩
  rcases hr with hr | ⟨g, o, ha, hg, hrow⟩
  · exact .inl hr
  · refine .inr ⟨g, o, ha, hg, fun j z hj => ?_, hfit⟩
    have := hrow j z hj 0 _ rfl
    simpa using this
set_option maxRecDepth 100000 in
/-- bytes that were handed in -/
theorem open_bytes {H : Type} {enc : TypeId × Value → H} {W : World} {r : Reach} {b0 : Nat} {v : Value} {d : DataW H} {p : List MemPlace}
    (hv : Value.okWide Tryz.prog W r b0 27 v) (h : DataW.Trod enc Tryz.prog W 0 (fun _ => true) true 27 v d p) (hw : Wok2 d 27) :
    ∃ (a : Option Addr) (c : Nat) (zs : List Int), v = .slice a zs.length c ∧ BIn W (fun b => b < W.heap.size) a c zs := by
  obtain ⟨a, len, cap, rfl⟩ := okWide_slice Tryz.underlying27 hv
  obtain ⟨fuel, hf⟩ := h
  obtain ⟨a', c', zs, e, hb⟩ := bs_of_trod hf hw
  have e2 : Value.slice a len cap = .slice a' zs.length c' := by simpa [Value.cells] using e
  exact ⟨a', c', zs, e2, hb⟩
end Go.Proofs.YteajlfgbmefncaaGreatDoor
