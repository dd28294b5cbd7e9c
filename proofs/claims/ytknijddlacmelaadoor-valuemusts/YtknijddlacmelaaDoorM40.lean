/-
  Values that came in as an argument: what their reading says. Nothing is proved of the program here.
-/
import Derived.Test.YtknijddlacmelaaDoorM39
import Derived.Test.YtknijddlacmelaaDoorM10
namespace Go.Proofs.YtknijddlacmelaaDoor
set_option linter.unusedVariables false
open Go.ChangeShapes Go.WideShapes Go.ChangeAt Go.RowKit Go.Joins

set_option maxRecDepth 100000 in
theorem trodN7 {H : Type} {enc : TypeId × Value → H} {W : World} {t : TypeId} {f0 f1 f2 f3 f4 f5 f6 : Field} {fuel : Nat} {cs : List Value} {y : DataW H × List MemPlace} (ht : Tryd.prog.underlying t = some (.struct #[f0, f1, f2, f3, f4, f5, f6])) (h : DataW.trod enc Tryd.prog W 0 (fun _ => true) true fuel t cs = some y) (hw : Wok2 y.1 t) :
    ∃ (y0 y1 y2 y3 y4 y5 y6 : DataW H × List MemPlace) (n : Nat), fuel = n + 1 ∧ cs.length = Tryd.prog.cellsOf t ∧ (DataW.trod enc Tryd.prog W 0 (fun _ => true) true n f0.type ((cs.drop f0.offset).take (Tryd.prog.cellsOf f0.type)) = some y0 ∧ Wok2 y0.1 f0.type) ∧ (DataW.trod enc Tryd.prog W 0 (fun _ => true) true n f1.type ((cs.drop f1.offset).take (Tryd.prog.cellsOf f1.type)) = some y1 ∧ Wok2 y1.1 f1.type) ∧ (DataW.trod enc Tryd.prog W 0 (fun _ => true) true n f2.type ((cs.drop f2.offset).take (Tryd.prog.cellsOf f2.type)) = some y2 ∧ Wok2 y2.1 f2.type) ∧ (DataW.trod enc Tryd.prog W 0 (fun _ => true) true n f3.type ((cs.drop f3.offset).take (Tryd.prog.cellsOf f3.type)) = some y3 ∧ Wok2 y3.1 f3.type) ∧ (DataW.trod enc Tryd.prog W 0 (fun _ => true) true n f4.type ((cs.drop f4.offset).take (Tryd.prog.cellsOf f4.type)) = some y4 ∧ Wok2 y4.1 f4.type) ∧ (DataW.trod enc Tryd.prog W 0 (fun _ => true) true n f5.type ((cs.drop f5.offset).take (Tryd.prog.cellsOf f5.type)) = some y5 ∧ Wok2 y5.1 f5.type) ∧ (DataW.trod enc Tryd.prog W 0 (fun _ => true) true n f6.type ((cs.drop f6.offset).take (Tryd.prog.cellsOf f6.type)) = some y6 ∧ Wok2 y6.1 f6.type) := by
  obtain ⟨xs, n, hn, rfl, hl, hlen, hf⟩ := DataW.trod_struct ht h
  match xs, hlen with
  | [y0, y1, y2, y3, y4, y5, y6], _ => exact ⟨y0, y1, y2, y3, y4, y5, y6, n, hn, hl, ⟨by simpa using hf 0 f0 rfl, wok_struct ht hw 0 f0 y0.1 rfl rfl⟩, ⟨by simpa using hf 1 f1 rfl, wok_struct ht hw 1 f1 y1.1 rfl rfl⟩, ⟨by simpa using hf 2 f2 rfl, wok_struct ht hw 2 f2 y2.1 rfl rfl⟩, ⟨by simpa using hf 3 f3 rfl, wok_struct ht hw 3 f3 y3.1 rfl rfl⟩, ⟨by simpa using hf 4 f4 rfl, wok_struct ht hw 4 f4 y4.1 rfl rfl⟩, ⟨by simpa using hf 5 f5 rfl, wok_struct ht hw 5 f5 y5.1 rfl rfl⟩, ⟨by simpa using hf 6 f6 rfl, wok_struct ht hw 6 f6 y6.1 rfl rfl⟩⟩
theorem cU64 : Tryd.prog.cellsOf 22 = 1 := by kernel_rfl
theorem cI64 : Tryd.prog.cellsOf 2 = 1 := by kernel_rfl
theorem cNF : Tryd.prog.cellsOf 23 = 1 := by kernel_rfl
theorem cNN : Tryd.prog.cellsOf 41 = 1 := by kernel_rfl
theorem fitG_up {bs bf : Nat} {w : World} {S : Nat → Prop} : ∀ {f g : Nat}, f ≤ g → ∀ {x : Nd} {fs : Value}, FitG bs bf f x → HeldG rawS w S f fs x.fields → FitG bs bf g x := by
  intro f
  induction f with
  | zero =>
    intro g hg x fs hf h
    cases g with
    | zero => exact hf
    | succ g => exact ⟨hf, by rw [h.1]; exact Nat.zero_le _, fun p hp => by rw [h.1] at hp; cases hp⟩
  | succ f ih =>
    intro g hg x fs hf h
    obtain ⟨g, rfl⟩ : ∃ g', g = g' + 1 := ⟨g - 1, by omega⟩
    refine ⟨hf.1, hf.2.1, fun p hp => ⟨(hf.2.2 p hp).1, fun y hy => ?_⟩⟩
    obtain ⟨j, hj⟩ := List.getElem?_of_mem hp
    obtain ⟨_, _, _, _, _, vs, _, hv⟩ := SlIn.at h hj
    obtain ⟨k, hk⟩ := List.getElem?_of_mem hy
    obtain ⟨_, _, _, _, _, fs2, _, h2⟩ := SlIn.at hv hk
    exact ih (by omega) ((hf.2.2 p hp).2 y hy) (h2 rfl)
/-- a node's members: what one says -/
def NodeFit (W : World) (n : Nat) (p : Nd × Value) : Prop := HeldG rawS W (fun b => b < W.heap.size) n p.2 p.1.fields ∧ FitG 140737488355328 140737488355328 n p.1 ∧ RngG n p.1
def FieldsIn (W : World) (n : Nat) (v : Value) (fl : List (Int × List Nd)) : Prop := HeldG rawS W (fun b => b < W.heap.size) n v fl ∧ fl.length ≤ 140737488355328 ∧ ∀ p ∈ fl, p.2.length ≤ 140737488355328 ∧ ∀ y ∈ p.2, FitG 140737488355328 140737488355328 (n - 1) y ∧ RngG (n - 1) y
theorem FieldsIn.fit {W : World} {n : Nat} {v : Value} {fl : List (Int × List Nd)} (h : FieldsIn W n v fl) (x : Nd) (hx : x.fields = fl) (hs : x.s.length ≤ 140737488355328) : FitG 140737488355328 140737488355328 n x := by
  cases n with
  | zero => exact hs
  | succ n => exact ⟨hs, by rw [hx]; exact h.2.1, by rw [hx]; exact fun p hp => ⟨(h.2.2 p hp).1, fun y hy => ((h.2.2 p hp).2 y hy).1⟩⟩
theorem FieldsIn.rng {W : World} {n : Nat} {v : Value} {fl : List (Int × List Nd)} (h : FieldsIn W n v fl) (x : Nd) (hx : x.fields = fl) (hs : Rg1 x) : RngG n x := by
  cases n with
  | zero => exact hs
  | succ n => exact ⟨hs, by rw [hx]; exact fun p hp y hy => ((h.2.2 p hp).2 y hy).2⟩
theorem rngG_up {w : World} {S : Nat → Prop} : ∀ {f g : Nat}, f ≤ g → ∀ {x : Nd} {fs : Value}, RngG f x → HeldG rawS w S f fs x.fields → RngG g x := by
  intro f
  induction f with
  | zero =>
    intro g hg x fs hf h
    cases g with
    | zero => exact hf
    | succ g => exact ⟨hf, fun p hp => by rw [h.1] at hp; cases hp⟩
  | succ f ih =>
    intro g hg x fs hf h
    obtain ⟨g, rfl⟩ : ∃ g', g = g' + 1 := ⟨g - 1, by omega⟩
    refine ⟨hf.1, fun p hp y hy => ?_⟩
    obtain ⟨j, hj⟩ := List.getElem?_of_mem hp
    obtain ⟨_, _, _, _, _, vs, _, hv⟩ := SlIn.at h hj
    obtain ⟨k, hk⟩ := List.getElem?_of_mem hy
    obtain ⟨_, _, _, _, _, fs2, _, h2⟩ := SlIn.at hv hk
    exact ih (by omega) (hf.2 p hp y hy) (h2 rfl)
set_option maxRecDepth 100000 in
theorem node_of_trod {H : Type} {enc : TypeId × Value → H} {W : World} (n : Nat) (ih : ∀ m, m < n → ∀ {cs : List Value} {y : DataW H × List MemPlace}, DataW.trod enc Tryd.prog W 0 (fun _ => true) true m 23 cs = some y → Wok2 y.1 23 →
      ∃ v fl, cs = [v] ∧ FieldsIn W m v fl) {cs : List Value} {y : DataW H × List MemPlace}
    (h : DataW.trod enc Tryd.prog W 0 (fun _ => true) true n 25 cs = some y) (hw : Wok2 y.1 25) :
    ∃ p : Nd × Value, cs = nrow p.1 p.2 ∧ NodeFit W n p := by
  obtain ⟨y0, y1, y2, y3, y4, y5, y6, m, hm, hl, ⟨h0, w0⟩, ⟨h1, w1⟩, ⟨h2, w2⟩, ⟨h3, w3⟩, ⟨h4, w4⟩, ⟨h5, w5⟩, ⟨h6, w6⟩⟩ := trodN7 Tryd.underlying25 h hw
  rw [show Tryd.prog.cellsOf 25 = 7 by kernel_rfl] at hl
  match cs, hl with
  | [c0, c1, c2, c3, c4, c5, c6], _ =>
    dsimp only at h0 h1 h2 h3 h4 h5 h6
    simp only [cI, cB, cS, cU64, cI64, cNF, List.drop_zero, List.drop_succ_cons, List.take_succ_cons, List.take_zero] at h0 h1 h2 h3 h4 h5 h6
    obtain ⟨kd, e0, _, _⟩ := DataW.trod_int Tryd.underlying3 h0
    obtain ⟨nn, e1, _, r1⟩ := DataW.trod_int Tryd.underlying2 h1
    obtain ⟨uu, e2, _, r2⟩ := DataW.trod_int Tryd.underlying22 h2
    obtain ⟨b, e3, _⟩ := DataW.trod_bool Tryd.underlying4 h3
    obtain ⟨ss, e4, g4⟩ := str_of_trod h4 w4
    obtain ⟨ty, e5, _, _⟩ := DataW.trod_int Tryd.underlying3 h5
    obtain ⟨v6, fl, e6, hF⟩ := ih m (by omega) h6 w6
    simp only [List.cons.injEq, and_true] at e0 e1 e2 e3 e4 e5 e6
    subst e0 e1 e2 e3 e4 e5 e6
    have hfit := hF.fit ⟨kd, nn, uu, b, ss, ty, fl⟩ rfl g4
    exact ⟨(⟨kd, nn, uu, b, ss, ty, fl⟩, _), rfl, HeldG.upTo (by omega) hF.1, fitG_up (by omega) hfit hF.1, rngG_up (by omega) (hF.rng ⟨kd, nn, uu, b, ss, ty, fl⟩ rfl ⟨bd_i64 r1, bd_u64 r2⟩) hF.1⟩
theorem slIn_of {α β : Type} {W : World} {S : Nat → Prop} {k : Nat} {row : α → List Value} {v : Value} {ps : List α} (h : RowsIn W S k row v ps) (g : α → β) (R : β → Nat → Nat → Prop) (hR : ∀ p ∈ ps, ∀ b o, Cells W b o (row p) → R (g p) b o) : SlIn S k R v (ps.map g) := by
  obtain ⟨ad, c, hv, hc, hr⟩ := h
  refine ⟨ad, c, by rw [List.length_map]; exact hv, by rw [List.length_map]; exact hc, ?_⟩
  rcases hr with hr | ⟨b, o, ha, hg, hrow⟩
  · left; rw [hr]; rfl
  · right
    refine ⟨b, o, ha, hg, fun j x hj => ?_⟩
    rw [List.getElem?_map] at hj
    obtain ⟨p, hp, rfl⟩ := Option.map_eq_some_iff.1 hj
    refine hR p (List.mem_of_getElem? hp) _ _ fun i u hu => ?_
    have := hrow j p hp i u hu
    rwa [Nat.add_assoc]
set_option maxRecDepth 100000 in
theorem fields_of_trod {H : Type} {enc : TypeId × Value → H} {W : World} : ∀ (fuel : Nat) {cs : List Value} {y : DataW H × List MemPlace}, DataW.trod enc Tryd.prog W 0 (fun _ => true) true fuel 23 cs = some y → Wok2 y.1 23 →
    ∃ v fl, cs = [v] ∧ FieldsIn W fuel v fl := by
  intro fuel
  induction fuel using Nat.strongRecOn with
  | _ fuel ih =>
    intro cs y h hw
    cases fuel with
    | zero => simp [DataW.trod] at h
    | succ fuel =>
      obtain ⟨v, ps, rfl, hR, hlen, hfit⟩ := slice_rows (α := (Int × List Nd) × Value) 23 43 2 (fun p => [.int .i64 p.1.1, p.2]) (fun p => ValsG rawS W (fun b => b < W.heap.size) fuel p.2 p.1.2 ∧ p.1.2.length ≤ 140737488355328 ∧ ∀ y ∈ p.1.2, FitG 140737488355328 140737488355328 fuel y ∧ RngG fuel y)
        Tryd.underlying23 (by kernel_rfl) (by omega) (fun p => rfl) (by rw [show Tryd.prog.bytesOf 43 = 32 by kernel_rfl]; omega) (fun n hn cs y hq hwq => by
          have hn' : n = fuel := by omega
          subst hn'
          obtain ⟨y0, y1, n2, hn2, hl, ⟨h0, w0⟩, ⟨h1, w1⟩⟩ := trodS2 Tryd.underlying43 hq hwq
          rw [show Tryd.prog.cellsOf 43 = 2 by kernel_rfl] at hl
          match cs, hl with
          | [c0, c1], _ =>
            dsimp only at h0 h1
            simp only [cI, cNN, List.drop_zero, List.drop_succ_cons, List.take_succ_cons, List.take_zero] at h0 h1
            obtain ⟨nu, e0, _, _⟩ := DataW.trod_int Tryd.underlying3 h0
            obtain ⟨v1, qs, e1, R1, n1, f1⟩ := slice_rows (α := Nd × Value) 41 25 7 (fun p => nrow p.1 p.2) (fun p => NodeFit W n p) Tryd.underlying41 (by kernel_rfl) (by omega) (fun _ => rfl) (by rw [show Tryd.prog.bytesOf 25 = 80 by kernel_rfl]; omega) (fun k hk cs y h hw => by
              obtain ⟨p, hp, hpf⟩ := node_of_trod k (fun m hm => ih m (by omega)) h hw
              exact ⟨p, hp, HeldG.upTo (by omega) hpf.1, fitG_up (by omega) hpf.2.1 hpf.1, rngG_up (by omega) hpf.2.2 hpf.1⟩) h1 w1
            simp only [List.cons.injEq, and_true] at e0 e1
            subst e0 e1
            exact ⟨((nu, qs.map Prod.fst), _), rfl, slIn_of R1 Prod.fst _ (fun p hp b o hc => ⟨p.2, hc, fun _ => (f1 p hp).1⟩), by rw [List.length_map]; exact n1, fun y hy => by obtain ⟨p, hp, rfl⟩ := List.mem_map.1 hy; exact (f1 p hp).2⟩) h hw
      refine ⟨v, ps.map Prod.fst, rfl, slIn_of hR Prod.fst _ (fun p hp b o hc => ⟨p.2, hc, (hfit p hp).1⟩), by rw [List.length_map]; exact hlen, fun q hq => ?_⟩
      obtain ⟨p, hp, rfl⟩ := List.mem_map.1 hq
      exact (hfit p hp).2
set_option maxRecDepth 100000 in
/-- a value that was handed in -/
theorem open_node {H : Type} {enc : TypeId × Value → H} {W : World} {r : Reach} {b0 : Nat} {v : Value} {d : DataW H} {p : List MemPlace}
    (hv : Value.okWide Tryd.prog W r b0 25 v) (h : DataW.Trod enc Tryd.prog W 0 (fun _ => true) true 25 v d p) (hw : Wok2 d 25) :
    ∃ (f : Nat) (x : Nd) (fs : Value), v = .agg #[.int .i64 x.kind, .int .i64 x.n, .int .u64 x.u, .bool x.b, .string (mkB x.s), .int .i64 x.type, fs] ∧ HeldG rawS W (fun b => b < W.heap.size) f fs x.fields ∧ FitG 140737488355328 140737488355328 f x ∧ RngG f x := by
  obtain ⟨xs, rfl, hsz⟩ := okWide_struct Tryd.underlying25 hv
  obtain ⟨fuel, hf⟩ := h
  obtain ⟨q, hq, hqf⟩ := node_of_trod fuel (fun m _ => fields_of_trod m) hf hw
  obtain ⟨l⟩ := xs
  simp only [Value.cells] at hq
  have hl : l = nrow q.1 q.2 := by simpa using hq
  subst hl
  exact ⟨fuel, q.1, q.2, rfl, hqf.1, hqf.2⟩
end Go.Proofs.YtknijddlacmelaaDoor
