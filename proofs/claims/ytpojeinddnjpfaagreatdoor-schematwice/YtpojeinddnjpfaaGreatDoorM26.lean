/-
  The walks over the program's first, meant, inside and around.
-/
import Derived.Test.YtpojeinddnjpfaaGreatDoorM0
import Derived.Test.YtpojeinddnjpfaaGreatDoorM25
import Derived.Test.YtpojeinddnjpfaaGreatDoorM20
import Derived.Lib.SlicesS
namespace Go.Proofs.YtpojeinddnjpfaaGreatDoor
set_option linter.unusedVariables false
open Go.ChangeShapes Go.WideShapes Go.ChangeAt Go.RowKit

theorem mkB_neS {a b : List UInt8} (h : ¬ a = b) : mkB a ≠ mkB b := fun e => h (by simpa [mkB] using e)
theorem mkB_beqS {a b : List UInt8} (h : ¬ a = b) : ((mkB a).toList == (mkB b).toList) = false := (Lib.bytes_beq_false_iff _ _).2 (mkB_neS h)
abbrev RmV := List UInt8 × Value × List Dc
def rrow (p : RmV) : List Value := [.string (mkB p.1), p.2.1]
theorem infoRm : (Tryz.prog.info? 173).map (fun i => (i.zero, i.size, i.bytes)) = some (some (.agg #[.string ⟨#[]⟩, .slice none 0 0]), 2, 40) := by kernel_rfl
theorem rm_pushG {base : Nat} {v : Value} {xs : List RmV} (wy : World) (x : RmV) (bk : Nat) (hp : wy.ownsRow base 173 2 v xs.length (xs.flatMap rrow) ∧ wy.heap[bk]? = some (.cells (rrow x).toArray 173 (0, 0)) ∧ base ≤ wy.heap.size) (hone : x.2.1.oneCell' = true)
  {Post : Nat → Nat → World → Prop} (hpost : ∀ g cap W, W.ownsRow base 173 2 (.slice (some ⟨g, 0, none⟩) (xs.length + 1) cap) (xs ++ [x]).length ((xs ++ [x]).flatMap rrow) → wy.grownBy W v.ownBlock → Post g cap W)
  {ops : Array Oper} {o : Oper} {a : Act} {K : Act → World → Prop} {Q : Exit → Act → World → Prop} {E : Prop} (hgd : o.guard = none) (s' x' : Operand)
  (ho : o.op = .call { callee := .builtin .append, args := #[s', x'], argTypes := #[237, 237] }) (hs : a.eval s' = v) (hx : a.eval x' = .slice (some ⟨bk, 0, none⟩) 1 1) (hbd : xs.length ≤ 100000)
  (hk : ∀ g cap W, Post g cap W → K (a.put o.dst (.slice (some ⟨g, 0, none⟩) (xs.length + 1) cap)) W) :
  if Region.wanted o (yielded ops a.tmps) = true then Oper.wp Tryz.prog o a wy K Q else E := by
 obtain ⟨i0, hi0, hz0, hz1, hz2⟩ := info_parts infoRm
 obtain ⟨h, hB, hb0⟩ := hp
 refine step_append_lies _ hgd s' x' 237 ho base 173 i0 _ 2 40 Tryz.underlying237 hi0 hz0 hz1 hz2 rfl (by decide) v xs.length (xs.flatMap rrow) hs h ⟨bk, 0, none⟩ 1 1 (rrow x) hx rfl ?_ (by intro u hu; simp only [rrow, List.mem_cons, List.not_mem_nil, or_false] at hu; rcases hu with rfl | rfl <;> first | rfl | exact hone) (by decide) (by unfold maxLen; omega) (by omega) hb0 _ rfl ?_
 ·exact World.news_of_block (cs := (rrow x).toArray) (t := 173) (fr := (0, 0)) hB
 ·intro g cap W hown hg hat hlt
  refine hk g cap W (hpost g cap W ?_ hg)
  rw [List.length_append, List.flatMap_append]
  simpa using hown
theorem own_base {w : World} {base base' : Nat} {E : TypeId} {k n : Nat} {v : Value} {xs : List Value} (h : w.ownsRow base E k v n xs) (hb : base' ≤ base) : w.ownsRow base' E k v n xs := by
 obtain ⟨h1, h2 | ⟨g, cap, cur, hv, hg, h⟩⟩ := h
 ·exact ⟨h1, .inl h2⟩
 ·exact ⟨h1, .inr ⟨g, cap, cur, hv, by omega, h⟩⟩
def FirstAns (f N : Nat) (w : World) (S : Nat → Prop) (res : Option (Dc × List Rm)) (e : Ending) (w' : World) : Prop :=
 (∃ (d : Dc) (rs : List Rm) (fa : Option Addr) (fc : Nat) (va : Option Addr) (vc : Nat) (ma : Option Addr) (mc : Nat) (ia : Option Addr) (ic : Nat) (rv : Value) (R : List RmV), res = some (d, rs) ∧ e = .returned (.tuple #[.agg #[.int .i64 d.kind, .string (mkB d.name), .int .i64 d.line, .int .i64 d.col, .slice fa d.fields.length fc, .slice va d.values.length vc, .slice ma d.methods.length mc, .slice ia d.inner.length ic], rv, .bool true]) ∧ Kids f w' S (.slice fa d.fields.length fc) (.slice va d.values.length vc) (.slice ma d.methods.length mc) (.slice ia d.inner.length ic) d ∧
   w'.ownsRow w.heap.size 173 2 rv R.length (R.flatMap rrow) ∧ R.map (fun p : RmV => ((p.1, p.2.2) : Rm)) = rs ∧ (∀ p ∈ R, HeldD f w' S p.2.1 p.2.2) ∧ R.length ≤ N) ∨
 (res = none ∧ e = .returned (.tuple #[.agg #[.int .i64 0, .string ⟨#[]⟩, .int .i64 0, .int .i64 0, .slice none 0 0, .slice none 0 0, .slice none 0 0, .slice none 0 0], .slice none 0 0, .bool false]))
theorem goP_nil (rec : List UInt8 → List Dc → Option (Dc × List Rm)) (a : List UInt8) (all : List Dc) (wh : List UInt8) : goP rec a all wh [] = none := rfl
set_option maxHeartbeats 16000000 in
set_option maxRecDepth 20000 in
theorem first_any : ∀ (f : Nat) (ds : List Dc) (v : Value) (a wh : List UInt8) (S : Nat → Prop) (w : World), ctL f ds ≤ 100000 → FitD f ds → TxtD f ds → a.length ≤ wh.length → wh.length ≤ 4000000000000 → HeldD f w S v ds → (∀ b, S b → b < w.heap.size) →
  Calls Tryz.prog 199 #[.agg #[.string (mkB a), v], .string (mkB wh)] w fun e w' => FirstAns f (ctL f ds) w S (firstP f a ds wh) e w' ∧ Below w.heap.size w w' := by
 intro f
 induction f with
 | zero =>
  rintro ds v a wh S w _ _ _ hal hwl ⟨rfl, ad, c, rfl⟩ hS
  go_enter Tryz.func199, Tryz.ntmps199
  go_upto_region 1 with fail
  have hV0 : ((w.alloc (.cells #[.string (mkB a), .slice ad 0 c] 173)).alloc (.cells #[.int .i64 0, .string ⟨#[]⟩, .int .i64 0, .int .i64 0, .slice none 0 0, .slice none 0 0, .slice none 0 0, .slice none 0 0] 69)).heap[w.heap.size]? = some (.cells #[.string (mkB a), .slice ad 0 c] 173 (0, 0)) := by
   rw [alloc_heap_old _ _ _ (by simp)]; exact alloc_heap_new _ _
  have hV1 : ((w.alloc (.cells #[.string (mkB a), .slice ad 0 c] 173)).alloc (.cells #[.int .i64 0, .string ⟨#[]⟩, .int .i64 0, .int .i64 0, .slice none 0 0, .slice none 0 0, .slice none 0 0, .slice none 0 0] 69)).heap[w.heap.size + 1]? = some (.cells #[.int .i64 0, .string ⟨#[]⟩, .int .i64 0, .int .i64 0, .slice none 0 0, .slice none 0 0, .slice none 0 0, .slice none 0 0] 69 (0, 0)) := by
   have := alloc_heap_new (w.alloc (.cells #[.string (mkB a), .slice ad 0 c] 173)) (.cells #[.int .i64 0, .string ⟨#[]⟩, .int .i64 0, .int .i64 0, .slice none 0 0, .slice none 0 0, .slice none 0 0, .slice none 0 0] 69)
   simpa using this
  have hVb : Below w.heap.size w ((w.alloc (.cells #[.string (mkB a), .slice ad 0 c] 173)).alloc (.cells #[.int .i64 0, .string ⟨#[]⟩, .int .i64 0, .int .i64 0, .slice none 0 0, .slice none 0 0, .slice none 0 0, .slice none 0 0] 69)) := ((Below.refl _ w).alloc (Nat.le_refl _) _).alloc (by simp) _
  have hVs : ((w.alloc (.cells #[.string (mkB a), .slice ad 0 c] 173)).alloc (.cells #[.int .i64 0, .string ⟨#[]⟩, .int .i64 0, .int .i64 0, .slice none 0 0, .slice none 0 0, .slice none 0 0, .slice none 0 0] 69)).heap.size = w.heap.size + 2 := by simp
  generalize ((w.alloc (.cells #[.string (mkB a), .slice ad 0 c] 173)).alloc (.cells #[.int .i64 0, .string ⟨#[]⟩, .int .i64 0, .int .i64 0, .slice none 0 0, .slice none 0 0, .slice none 0 0, .slice none 0 0] 69)) = V at *
  have c0 := cell_at hV0 0 rfl
  have c1 := cell_at hV0 1 rfl
  have HV0 := Lib.hid hV0
  have HV1 := Lib.hid hV1
  have HVb := Lib.hid hVb
  have HVs := Lib.hid hVs
  clear hV0 hV1 hVb hVs
  obtain ⟨A, hA⟩ : ∃ A, a.length = A := ⟨_, rfl⟩
  rw [hA] at hal
  have za : (mkB a).size = A := by rw [mkB_size, hA]
  have hsl := sl_from wh A hal
  have hA0 : (0 : Int) ≤ (A : Int) := by omega
  have hex : (mkB wh).extract A (mkB wh).size = mkB (wh.drop A) := mk_drop wh A
  have hA1 : (A : Int) ≤ ((mkB wh).size : Int) := by rw [mkB_size]; omega
  go_wp2_with fail
  go_loopw [22] (fun i wr => i = .int .i64 0 ∧ wr = V) (fun _ _ => 0)
  case atStart => exact ⟨rfl, rfl⟩
  case round =>
   obtain ⟨rfl, hwr⟩ := hrel
   subst hwr
   have k0 := cell_at HV1.out 0 rfl
   have k1 := cell_at HV1.out 1 rfl
   have k2 := cell_at HV1.out 2 rfl
   have k3 := cell_at HV1.out 3 rfl
   have k4 := cell_at HV1.out 4 rfl
   have k5 := cell_at HV1.out 5 rfl
   have k6 := cell_at HV1.out 6 rfl
   have k7 := cell_at HV1.out 7 rfl
   have kf : ∀ j, wr.frozen? ⟨w.heap.size + 1, j, none⟩ = false := fun j => by simp [World.frozen?, HV1.out]
   have f0 := kf 0
   have f1 := kf 1
   have f2 := kf 2
   have f3 := kf 3
   have f4 := kf 4
   have f5 := kf 5
   have f6 := kf 6
   have f7 := kf 7
   obtain ⟨Y, hY, y8, yo, yz, yb⟩ := set8_all HV1.out (.int .i64 0) (.string ⟨#[]⟩) (.int .i64 0) (.int .i64 0) (.slice none 0 0) (.slice none 0 0) (.slice none 0 0) (.slice none 0 0)
   have HY : Hid (Below w.heap.size w Y) := HVb.out.trans (yb.mono (by omega))
   have HYE := Lib.hid hY
   have r0 := cell_at y8 0 rfl
   have r1 := cell_at y8 1 rfl
   have r2 := cell_at y8 2 rfl
   have r3 := cell_at y8 3 rfl
   have r4 := cell_at y8 4 rfl
   have r5 := cell_at y8 5 rfl
   have r6 := cell_at y8 6 rfl
   have r7 := cell_at y8 7 rfl
   clear hY y8 yo yz yb
   go_wp2_with fail
   rw [HYE.out]
   refine bodyPost_ret (v := .tuple #[.agg #[.int .i64 0, .string ⟨#[]⟩, .int .i64 0, .int .i64 0, .slice none 0 0, .slice none 0 0, .slice none 0 0, .slice none 0 0], .slice none 0 0, .bool false]) (by simp [results, Tryz.results199, go_sem, r0, r1, r2, r3, r4, r5, r6, r7]) rfl ?_
   exact ⟨.inr ⟨rfl, rfl⟩, HY.out⟩
 | succ f ih =>
  intro ds v a wh S w hf hfit htxt hal hwl hH hS
  obtain ⟨ad, c, rfl⟩ := hH.isSlD
  have HH := Lib.hid hH
  have HFT := Lib.hid hfit
  have HTX := Lib.hid htxt
  have HS := Lib.hid hS
  have hlen := hfit.1
  obtain ⟨n, hn⟩ : ∃ n, ds.length = n := ⟨_, rfl⟩
  have HN := Lib.hid hn
  obtain ⟨RES, hR⟩ : ∃ r, firstP (f + 1) a ds wh = r := ⟨_, rfl⟩
  have HR := Lib.hid hR
  rw [hn] at hlen ⊢
  rw [hR]
  clear hH hfit htxt hS hn hR
  go_enter Tryz.func199, Tryz.ntmps199
  go_upto_region 1 with fail
  have hV0 : ((w.alloc (.cells #[.string (mkB a), .slice ad n c] 173)).alloc (.cells #[.int .i64 0, .string ⟨#[]⟩, .int .i64 0, .int .i64 0, .slice none 0 0, .slice none 0 0, .slice none 0 0, .slice none 0 0] 69)).heap[w.heap.size]? = some (.cells #[.string (mkB a), .slice ad n c] 173 (0, 0)) := by
   rw [alloc_heap_old _ _ _ (by simp)]; exact alloc_heap_new _ _
  have hV1 : ((w.alloc (.cells #[.string (mkB a), .slice ad n c] 173)).alloc (.cells #[.int .i64 0, .string ⟨#[]⟩, .int .i64 0, .int .i64 0, .slice none 0 0, .slice none 0 0, .slice none 0 0, .slice none 0 0] 69)).heap[w.heap.size + 1]? = some (.cells #[.int .i64 0, .string ⟨#[]⟩, .int .i64 0, .int .i64 0, .slice none 0 0, .slice none 0 0, .slice none 0 0, .slice none 0 0] 69 (0, 0)) := by
   have := alloc_heap_new (w.alloc (.cells #[.string (mkB a), .slice ad n c] 173)) (.cells #[.int .i64 0, .string ⟨#[]⟩, .int .i64 0, .int .i64 0, .slice none 0 0, .slice none 0 0, .slice none 0 0, .slice none 0 0] 69)
   simpa using this
  have hVb : Below w.heap.size w ((w.alloc (.cells #[.string (mkB a), .slice ad n c] 173)).alloc (.cells #[.int .i64 0, .string ⟨#[]⟩, .int .i64 0, .int .i64 0, .slice none 0 0, .slice none 0 0, .slice none 0 0, .slice none 0 0] 69)) := ((Below.refl _ w).alloc (Nat.le_refl _) _).alloc (by simp) _
  have hVs : ((w.alloc (.cells #[.string (mkB a), .slice ad n c] 173)).alloc (.cells #[.int .i64 0, .string ⟨#[]⟩, .int .i64 0, .int .i64 0, .slice none 0 0, .slice none 0 0, .slice none 0 0, .slice none 0 0] 69)).heap.size = w.heap.size + 2 := by simp
  generalize ((w.alloc (.cells #[.string (mkB a), .slice ad n c] 173)).alloc (.cells #[.int .i64 0, .string ⟨#[]⟩, .int .i64 0, .int .i64 0, .slice none 0 0, .slice none 0 0, .slice none 0 0, .slice none 0 0] 69)) = V at *
  have c0 := cell_at hV0 0 rfl
  have c1 := cell_at hV0 1 rfl
  have HV0 := Lib.hid hV0
  have HV1 := Lib.hid hV1
  have HVb := Lib.hid hVb
  have HVs := Lib.hid hVs
  clear hV0 hV1 hVb hVs
  obtain ⟨A, hA⟩ : ∃ A, a.length = A := ⟨_, rfl⟩
  rw [hA] at hal
  have za : (mkB a).size = A := by rw [mkB_size, hA]
  have zw : (mkB wh).size = wh.length := mkB_size wh
  obtain ⟨rest, hrest⟩ : ∃ r, wh.drop A = r := ⟨_, rfl⟩
  have hsl := sl_from wh A hal
  have hA0 : (0 : Int) ≤ (A : Int) := by omega
  have hex : (mkB wh).extract A wh.length = mkB (wh.drop A) := by have := mk_drop wh A; rw [zw] at this; exact this
  rw [hrest] at hsl hex
  have hA1 : (A : Int) ≤ (wh.length : Int) := by omega
  have HAL := Lib.hid hA
  have HRT := Lib.hid hrest
  clear hA hrest
  go_wp2_with fail
  clear hsl hex c0 c1
  go_loopw [22] (fun i wr => ∃ j : Nat, i = .int .i64 (j : Int) ∧ j ≤ n ∧ Below V.heap.size V wr ∧ goP (fun a' ds' => firstP f a' ds' wh) a ds wh (ds.drop j) = RES) (fun i _ => n - (intOf i).toNat)
  case atStart => exact ⟨0, rfl, by omega, Below.refl _ _, HR.out⟩
  case round =>
   generalize wr = w1 at *
   obtain ⟨j, rfl, hj, hbq, hgo⟩ := hrel
   have HBQ := Lib.hid hbq
   have HGO := Lib.hid hgo
   have hs1 : w.heap.size + 2 ≤ w1.heap.size := by have := hbq.size; rw [HVs.out] at this; exact this
   have HBw : Hid (Below w.heap.size w w1) := HVb.out.trans (hbq.mono HVb.out.size)
   have HX0 : Hid (w1.heap[w.heap.size]? = some (.cells #[.string (mkB a), .slice ad n c] 173 (0, 0))) := (hbq.block _ (by rw [HVs.out]; omega)).trans HV0.out
   have HX1 : Hid (w1.heap[w.heap.size + 1]? = some (.cells #[.int .i64 0, .string ⟨#[]⟩, .int .i64 0, .int .i64 0, .slice none 0 0, .slice none 0 0, .slice none 0 0, .slice none 0 0] 69 (0, 0))) := (hbq.block _ (by rw [HVs.out]; omega)).trans HV1.out
   clear hbq hgo
   by_cases hjn : j < n
   ·obtain ⟨d, hd⟩ : ∃ d, ds[j]? = some d := ⟨_, List.getElem?_eq_getElem (by have := HN.out; omega)⟩
    have hdm := List.mem_of_getElem? hd
    have hfd := HFT.out.2 d hdm
    have htd := HTX.out d hdm
    have hn1 := htd.1
    have hdr : ds.drop j = d :: ds.drop (j + 1) := by
     rw [List.drop_eq_getElem_cons (by have := HN.out; omega), (List.getElem?_eq_some_iff.1 hd).2]
    have hci : ctL f d.inner + 1 ≤ ctL (f + 1) ds := by have h1 := ct_take f ds hd; unfold ctD at h1; omega
    have hG1 := HGO.out
    rw [hdr, goP_cons, HAL.out, HRT.out] at hG1
    have HG1 := Lib.hid hG1
    obtain ⟨g, o, c0, fa, fc, va, vc, ma, mc, ia, ic, hsl, hg, e0, e1, e2, e3, e4, e5, e6, e7, kd⟩ := decl_at HH.out (W := w1) (fun b hb => HBw.out.block b (HS.out b hb)) hd
    rw [HN.out] at hsl
    obtain ⟨rfl, rfl⟩ : ad = some ⟨g, o, none⟩ ∧ c = c0 := by
     injection hsl with h1 _ h3
     exact ⟨h1, h3⟩
    have hgw : g < w.heap.size := HS.out g hg
    have HKD := Lib.hid kd
    have hj0 : (0 : Int) ≤ (j : Int) := by omega
    have hj1 : (j : Int) < (n : Int) := by omega
    have hwq : IntKind.i64.wrap ((j : Int) + 1) = (j : Int) + 1 := by rw [IntKind.wrap_i64]; omega
    have hY : (w1.alloc (.cells #[.int .i64 d.kind, .string (mkB d.name), .int .i64 d.line, .int .i64 d.col, .slice fa d.fields.length fc, .slice va d.values.length vc, .slice ma d.methods.length mc, .slice ia d.inner.length ic] 69)).heap[w1.heap.size]? = some (.cells #[.int .i64 d.kind, .string (mkB d.name), .int .i64 d.line, .int .i64 d.col, .slice fa d.fields.length fc, .slice va d.values.length vc, .slice ma d.methods.length mc, .slice ia d.inner.length ic] 69 (0, 0)) := alloc_heap_new _ _
    have hbY : Below w1.heap.size w1 (w1.alloc (.cells #[.int .i64 d.kind, .string (mkB d.name), .int .i64 d.line, .int .i64 d.col, .slice fa d.fields.length fc, .slice va d.values.length vc, .slice ma d.methods.length mc, .slice ia d.inner.length ic] 69)) := (Below.refl _ w1).alloc (Nat.le_refl _) _
    clear hd hdm hdr hG1 hsl kd HGO
    go_upto_region 5 with fail
    generalize (w1.alloc (.cells #[.int .i64 d.kind, .string (mkB d.name), .int .i64 d.line, .int .i64 d.col, .slice fa d.fields.length fc, .slice va d.values.length vc, .slice ma d.methods.length mc, .slice ia d.inner.length ic] 69)) = Y at *
    have hlY := blk_lt hY
    have HYB := Lib.hid hbY
    have HYC := Lib.hid hY
    have HY0 : Hid (Y.heap[w.heap.size]? = some (.cells #[.string (mkB a), .slice (some ⟨g, o, none⟩) n c] 173 (0, 0))) := (hbY.block _ (by omega)).trans HX0.out
    have HY1 : Hid (Y.heap[w.heap.size + 1]? = some (.cells #[.int .i64 0, .string ⟨#[]⟩, .int .i64 0, .int .i64 0, .slice none 0 0, .slice none 0 0, .slice none 0 0, .slice none 0 0] 69 (0, 0))) := (hbY.block _ (by omega)).trans HX1.out
    have HYw : Hid (Below w.heap.size w Y) := HBw.out.trans (hbY.mono HBw.out.size)
    have hsY := hbY.size
    have y1 := cell_at hY 1 rfl
    clear e0 e1 e2 e3 e4 e5 e6 e7 hY hbY
    by_cases h1 : d.name = rest
    ·subst h1
     have HRS : Hid (RES = some (d, [(a, ds)])) := by have := HG1.out; rw [if_pos rfl] at this; exact this.symm
     go_upto_region 6 with fail
     have l0 : ∀ W : World, (W.heap[w1.heap.size]? = some (.cells #[.int .i64 d.kind, .string (mkB d.name), .int .i64 d.line, .int .i64 d.col, .slice fa d.fields.length fc, .slice va d.values.length vc, .slice ma d.methods.length mc, .slice ia d.inner.length ic] 69 (0, 0)) ∧ W.heap[w.heap.size]? = some (.cells #[.string (mkB a), .slice (some ⟨g, o, none⟩) n c] 173 (0, 0))) → W.cell? ⟨w1.heap.size, 0, none⟩ = some (.int .i64 d.kind) := fun W h => by simp [World.cell?, h.1]
     have l1 : ∀ W : World, (W.heap[w1.heap.size]? = some (.cells #[.int .i64 d.kind, .string (mkB d.name), .int .i64 d.line, .int .i64 d.col, .slice fa d.fields.length fc, .slice va d.values.length vc, .slice ma d.methods.length mc, .slice ia d.inner.length ic] 69 (0, 0)) ∧ W.heap[w.heap.size]? = some (.cells #[.string (mkB a), .slice (some ⟨g, o, none⟩) n c] 173 (0, 0))) → W.cell? ⟨w1.heap.size, 1, none⟩ = some (.string (mkB d.name)) := fun W h => by simp [World.cell?, h.1]
     have l2 : ∀ W : World, (W.heap[w1.heap.size]? = some (.cells #[.int .i64 d.kind, .string (mkB d.name), .int .i64 d.line, .int .i64 d.col, .slice fa d.fields.length fc, .slice va d.values.length vc, .slice ma d.methods.length mc, .slice ia d.inner.length ic] 69 (0, 0)) ∧ W.heap[w.heap.size]? = some (.cells #[.string (mkB a), .slice (some ⟨g, o, none⟩) n c] 173 (0, 0))) → W.cell? ⟨w1.heap.size, 2, none⟩ = some (.int .i64 d.line) := fun W h => by simp [World.cell?, h.1]
     have l3 : ∀ W : World, (W.heap[w1.heap.size]? = some (.cells #[.int .i64 d.kind, .string (mkB d.name), .int .i64 d.line, .int .i64 d.col, .slice fa d.fields.length fc, .slice va d.values.length vc, .slice ma d.methods.length mc, .slice ia d.inner.length ic] 69 (0, 0)) ∧ W.heap[w.heap.size]? = some (.cells #[.string (mkB a), .slice (some ⟨g, o, none⟩) n c] 173 (0, 0))) → W.cell? ⟨w1.heap.size, 3, none⟩ = some (.int .i64 d.col) := fun W h => by simp [World.cell?, h.1]
     have l4 : ∀ W : World, (W.heap[w1.heap.size]? = some (.cells #[.int .i64 d.kind, .string (mkB d.name), .int .i64 d.line, .int .i64 d.col, .slice fa d.fields.length fc, .slice va d.values.length vc, .slice ma d.methods.length mc, .slice ia d.inner.length ic] 69 (0, 0)) ∧ W.heap[w.heap.size]? = some (.cells #[.string (mkB a), .slice (some ⟨g, o, none⟩) n c] 173 (0, 0))) → W.cell? ⟨w1.heap.size, 4, none⟩ = some (.slice fa d.fields.length fc) := fun W h => by simp [World.cell?, h.1]
     have l5 : ∀ W : World, (W.heap[w1.heap.size]? = some (.cells #[.int .i64 d.kind, .string (mkB d.name), .int .i64 d.line, .int .i64 d.col, .slice fa d.fields.length fc, .slice va d.values.length vc, .slice ma d.methods.length mc, .slice ia d.inner.length ic] 69 (0, 0)) ∧ W.heap[w.heap.size]? = some (.cells #[.string (mkB a), .slice (some ⟨g, o, none⟩) n c] 173 (0, 0))) → W.cell? ⟨w1.heap.size, 5, none⟩ = some (.slice va d.values.length vc) := fun W h => by simp [World.cell?, h.1]
     have l6 : ∀ W : World, (W.heap[w1.heap.size]? = some (.cells #[.int .i64 d.kind, .string (mkB d.name), .int .i64 d.line, .int .i64 d.col, .slice fa d.fields.length fc, .slice va d.values.length vc, .slice ma d.methods.length mc, .slice ia d.inner.length ic] 69 (0, 0)) ∧ W.heap[w.heap.size]? = some (.cells #[.string (mkB a), .slice (some ⟨g, o, none⟩) n c] 173 (0, 0))) → W.cell? ⟨w1.heap.size, 6, none⟩ = some (.slice ma d.methods.length mc) := fun W h => by simp [World.cell?, h.1]
     have l7 : ∀ W : World, (W.heap[w1.heap.size]? = some (.cells #[.int .i64 d.kind, .string (mkB d.name), .int .i64 d.line, .int .i64 d.col, .slice fa d.fields.length fc, .slice va d.values.length vc, .slice ma d.methods.length mc, .slice ia d.inner.length ic] 69 (0, 0)) ∧ W.heap[w.heap.size]? = some (.cells #[.string (mkB a), .slice (some ⟨g, o, none⟩) n c] 173 (0, 0))) → W.cell? ⟨w1.heap.size, 7, none⟩ = some (.slice ia d.inner.length ic) := fun W h => by simp [World.cell?, h.1]
     have m0 : ∀ W : World, (W.heap[w1.heap.size]? = some (.cells #[.int .i64 d.kind, .string (mkB d.name), .int .i64 d.line, .int .i64 d.col, .slice fa d.fields.length fc, .slice va d.values.length vc, .slice ma d.methods.length mc, .slice ia d.inner.length ic] 69 (0, 0)) ∧ W.heap[w.heap.size]? = some (.cells #[.string (mkB a), .slice (some ⟨g, o, none⟩) n c] 173 (0, 0))) → W.cell? ⟨w.heap.size, 0, none⟩ = some (.string (mkB a)) := fun W h => by simp [World.cell?, h.2]
     have m1 : ∀ W : World, (W.heap[w1.heap.size]? = some (.cells #[.int .i64 d.kind, .string (mkB d.name), .int .i64 d.line, .int .i64 d.col, .slice fa d.fields.length fc, .slice va d.values.length vc, .slice ma d.methods.length mc, .slice ia d.inner.length ic] 69 (0, 0)) ∧ W.heap[w.heap.size]? = some (.cells #[.string (mkB a), .slice (some ⟨g, o, none⟩) n c] 173 (0, 0))) → W.cell? ⟨w.heap.size, 1, none⟩ = some (.slice (some ⟨g, o, none⟩) n c) := fun W h => by simp [World.cell?, h.2]
     have hk0 : Y.drew.heap[w1.heap.size]? = some (.cells #[.int .i64 d.kind, .string (mkB d.name), .int .i64 d.line, .int .i64 d.col, .slice fa d.fields.length fc, .slice va d.values.length vc, .slice ma d.methods.length mc, .slice ia d.inner.length ic] 69 (0, 0)) ∧ Y.drew.heap[w.heap.size]? = some (.cells #[.string (mkB a), .slice (some ⟨g, o, none⟩) n c] 173 (0, 0)) := ⟨HYC.out, HY0.out⟩
     have hka : ∀ (W : World) (ob : Obj), (W.heap[w1.heap.size]? = some (.cells #[.int .i64 d.kind, .string (mkB d.name), .int .i64 d.line, .int .i64 d.col, .slice fa d.fields.length fc, .slice va d.values.length vc, .slice ma d.methods.length mc, .slice ia d.inner.length ic] 69 (0, 0)) ∧ W.heap[w.heap.size]? = some (.cells #[.string (mkB a), .slice (some ⟨g, o, none⟩) n c] 173 (0, 0))) → (W.alloc ob).heap[w1.heap.size]? = some (.cells #[.int .i64 d.kind, .string (mkB d.name), .int .i64 d.line, .int .i64 d.col, .slice fa d.fields.length fc, .slice va d.values.length vc, .slice ma d.methods.length mc, .slice ia d.inner.length ic] 69 (0, 0)) ∧ (W.alloc ob).heap[w.heap.size]? = some (.cells #[.string (mkB a), .slice (some ⟨g, o, none⟩) n c] 173 (0, 0)) := fun W ob h => ⟨by rw [alloc_heap_old _ _ _ (blk_lt h.1)]; exact h.1, by rw [alloc_heap_old _ _ _ (blk_lt h.2)]; exact h.2⟩
     have hks : ∀ (W : World) (i : Nat) (x : Value), (W.heap[w1.heap.size]? = some (.cells #[.int .i64 d.kind, .string (mkB d.name), .int .i64 d.line, .int .i64 d.col, .slice fa d.fields.length fc, .slice va d.values.length vc, .slice ma d.methods.length mc, .slice ia d.inner.length ic] 69 (0, 0)) ∧ W.heap[w.heap.size]? = some (.cells #[.string (mkB a), .slice (some ⟨g, o, none⟩) n c] 173 (0, 0))) → (W.setCell ⟨w.heap.size + 1, i, none⟩ x).heap[w1.heap.size]? = some (.cells #[.int .i64 d.kind, .string (mkB d.name), .int .i64 d.line, .int .i64 d.col, .slice fa d.fields.length fc, .slice va d.values.length vc, .slice ma d.methods.length mc, .slice ia d.inner.length ic] 69 (0, 0)) ∧ (W.setCell ⟨w.heap.size + 1, i, none⟩ x).heap[w.heap.size]? = some (.cells #[.string (mkB a), .slice (some ⟨g, o, none⟩) n c] 173 (0, 0)) := fun W i x h => ⟨by rw [Below.heap_setCell _ _ _ _ (by show w1.heap.size ≠ w.heap.size + 1; omega)]; exact h.1, by rw [Below.heap_setCell _ _ _ _ (by show w.heap.size ≠ w.heap.size + 1; omega)]; exact h.2⟩
     have HA1 : Hid (∀ o, (Y.alloc o).heap[w.heap.size + 1]? = some (.cells #[.int .i64 0, .string ⟨#[]⟩, .int .i64 0, .int .i64 0, .slice none 0 0, .slice none 0 0, .slice none 0 0, .slice none 0 0] 69 (0, 0))) := fun o => by rw [alloc_heap_old _ _ _ (show w.heap.size + 1 < Y.heap.size from blk_lt HY1.out)]; exact HY1.out
     have k0 := cell_at HY1.out 0 rfl
     have q0 : ∀ o, (Y.alloc o).cell? ⟨w.heap.size + 1, 0, none⟩ = some (.int .i64 0) := fun o => by have := HA1.out o; simp [World.cell?, this]
     have k1 := cell_at HY1.out 1 rfl
     have q1 : ∀ o, (Y.alloc o).cell? ⟨w.heap.size + 1, 1, none⟩ = some (.string ⟨#[]⟩) := fun o => by have := HA1.out o; simp [World.cell?, this]
     have k2 := cell_at HY1.out 2 rfl
     have q2 : ∀ o, (Y.alloc o).cell? ⟨w.heap.size + 1, 2, none⟩ = some (.int .i64 0) := fun o => by have := HA1.out o; simp [World.cell?, this]
     have k3 := cell_at HY1.out 3 rfl
     have q3 : ∀ o, (Y.alloc o).cell? ⟨w.heap.size + 1, 3, none⟩ = some (.int .i64 0) := fun o => by have := HA1.out o; simp [World.cell?, this]
     have k4 := cell_at HY1.out 4 rfl
     have q4 : ∀ o, (Y.alloc o).cell? ⟨w.heap.size + 1, 4, none⟩ = some (.slice none 0 0) := fun o => by have := HA1.out o; simp [World.cell?, this]
     have k5 := cell_at HY1.out 5 rfl
     have q5 : ∀ o, (Y.alloc o).cell? ⟨w.heap.size + 1, 5, none⟩ = some (.slice none 0 0) := fun o => by have := HA1.out o; simp [World.cell?, this]
     have k6 := cell_at HY1.out 6 rfl
     have q6 : ∀ o, (Y.alloc o).cell? ⟨w.heap.size + 1, 6, none⟩ = some (.slice none 0 0) := fun o => by have := HA1.out o; simp [World.cell?, this]
     have k7 := cell_at HY1.out 7 rfl
     have q7 : ∀ o, (Y.alloc o).cell? ⟨w.heap.size + 1, 7, none⟩ = some (.slice none 0 0) := fun o => by have := HA1.out o; simp [World.cell?, this]
     have kf : ∀ j, Y.frozen? ⟨w.heap.size + 1, j, none⟩ = false := fun j => by simp [World.frozen?, HY1.out]
     have qf : ∀ o j, (Y.alloc o).frozen? ⟨w.heap.size + 1, j, none⟩ = false := fun o j => by have := HA1.out o; simp [World.frozen?, this]
     have f0 := kf 0
     have p0 := fun o => qf o 0
     have f1 := kf 1
     have p1 := fun o => qf o 1
     have f2 := kf 2
     have p2 := fun o => qf o 2
     have f3 := kf 3
     have p3 := fun o => qf o 3
     have f4 := kf 4
     have p4 := fun o => qf o 4
     have f5 := kf 5
     have p5 := fun o => qf o 5
     have f6 := kf 6
     have p6 := fun o => qf o 6
     have f7 := kf 7
     have p7 := fun o => qf o 7
     have b0 : Y.cell? ⟨w1.heap.size, 0, none⟩ = some (.int .i64 d.kind) := l0 Y hk0
     have b1 : Y.cell? ⟨w1.heap.size, 1, none⟩ = some (.string (mkB d.name)) := l1 Y hk0
     have b2 : Y.cell? ⟨w1.heap.size, 2, none⟩ = some (.int .i64 d.line) := l2 Y hk0
     have b3 : Y.cell? ⟨w1.heap.size, 3, none⟩ = some (.int .i64 d.col) := l3 Y hk0
     have b4 : Y.cell? ⟨w1.heap.size, 4, none⟩ = some (.slice fa d.fields.length fc) := l4 Y hk0
     have b5 : Y.cell? ⟨w1.heap.size, 5, none⟩ = some (.slice va d.values.length vc) := l5 Y hk0
     have b6 : Y.cell? ⟨w1.heap.size, 6, none⟩ = some (.slice ma d.methods.length mc) := l6 Y hk0
     have b7 : Y.cell? ⟨w1.heap.size, 7, none⟩ = some (.slice ia d.inner.length ic) := l7 Y hk0
     have b8 : Y.cell? ⟨w.heap.size, 0, none⟩ = some (.string (mkB a)) := m0 Y hk0
     have b9 : Y.cell? ⟨w.heap.size, 1, none⟩ = some (.slice (some ⟨g, o, none⟩) n c) := m1 Y hk0
     go_region
     all_goals go_wp2_with fail
     all_goals clear l0 l1 l2 l3 l4 l5 l6 l7 m0 m1 hka hks k0 k1 k2 k3 k4 k5 k6 k7 q0 q1 q2 q3 q4 q5 q6 q7 kf qf f0 f1 f2 f3 f4 f5 f6 f7 p0 p1 p2 p3 p4 p5 p6 p7 b0 b1 b2 b3 b4 b5 b6 b7 b8 b9
     ·obtain ⟨Y2, hY2, y8, yo, yz, yb⟩ := set8_all HY1.out (.int .i64 d.kind) (.string (mkB d.name)) (.int .i64 d.line) (.int .i64 d.col) (.slice fa d.fields.length fc) (.slice va d.values.length vc) (.slice ma d.methods.length mc) (.slice ia d.inner.length ic)
      rw [hY2]
      have z8 : (Y2.alloc (.cells #[.string (mkB a), .slice (some ⟨g, o, none⟩) n c] 173)).heap[w.heap.size + 1]? = some (.cells #[.int .i64 d.kind, .string (mkB d.name), .int .i64 d.line, .int .i64 d.col, .slice fa d.fields.length fc, .slice va d.values.length vc, .slice ma d.methods.length mc, .slice ia d.inner.length ic] 69 (0, 0)) := by rw [alloc_heap_old _ _ _ (blk_lt y8)]; exact y8
      have zr : (Y2.alloc (.cells #[.string (mkB a), .slice (some ⟨g, o, none⟩) n c] 173)).heap[Y.heap.size]? = some (.cells #[.string (mkB a), .slice (some ⟨g, o, none⟩) n c] 173 (0, 0)) := by rw [← yz]; exact alloc_heap_new _ _
      have zb : Below w.heap.size w (Y2.alloc (.cells #[.string (mkB a), .slice (some ⟨g, o, none⟩) n c] 173)) := (HYw.out.trans (yb.mono (by omega))).alloc (by rw [yz]; exact HYw.out.size) _
      generalize Y2.alloc (.cells #[.string (mkB a), .slice (some ⟨g, o, none⟩) n c] 173) = Z at *
      have r0 := cell_at z8 0 rfl
      have r1 := cell_at z8 1 rfl
      have r2 := cell_at z8 2 rfl
      have r3 := cell_at z8 3 rfl
      have r4 := cell_at z8 4 rfl
      have r5 := cell_at z8 5 rfl
      have r6 := cell_at z8 6 rfl
      have r7 := cell_at z8 7 rfl
      have HKZ : Hid (Kids (f + 1) Z.drew S (.slice fa d.fields.length fc) (.slice va d.values.length vc) (.slice ma d.methods.length mc) (.slice ia d.inner.length ic) d) := (HKD.out.old (w' := Z.drew) fun b hb => (zb.block b (HS.out b hb)).trans (HBw.out.block b (HS.out b hb)).symm).up
      have HHZ : Hid (HeldD (f + 1) Z.drew S (.slice (some ⟨g, o, none⟩) n c) ds) := by
       refine (?_ : HeldD _ _ _ _ _)
       have := HeldD.old (w' := Z.drew) (fun b hb => zb.block b (HS.out b hb)) HH.out
       rw [HN.out] at this
       exact this
      have HOZ : Hid (Z.drew.ownsRow w.heap.size 173 2 (.slice (some ⟨Y.heap.size, 0, none⟩) 1 1) [((a, .slice (some ⟨g, o, none⟩) n c, ds) : RmV)].length ([((a, .slice (some ⟨g, o, none⟩) n c, ds) : RmV)].flatMap rrow)) := ⟨rfl, .inr ⟨Y.heap.size, 1, #[.string (mkB a), .slice (some ⟨g, o, none⟩) n c], rfl, HYw.out.size, zr, Nat.le_refl _, by unfold maxLen; omega, rfl, rfl⟩⟩
      exact bodyPost_ret (v := .tuple #[.agg #[.int .i64 d.kind, .string (mkB d.name), .int .i64 d.line, .int .i64 d.col, .slice fa d.fields.length fc, .slice va d.values.length vc, .slice ma d.methods.length mc, .slice ia d.inner.length ic], .slice (some ⟨Y.heap.size, 0, none⟩) 1 1, .bool true]) (by simp [results, Tryz.results199, go_sem, r0, r1, r2, r3, r4, r5, r6, r7]) rfl ⟨.inl ⟨d, _, fa, fc, va, vc, ma, mc, ia, ic, _, [(a, .slice (some ⟨g, o, none⟩) n c, ds)], HRS.out, rfl, HKZ.out, HOZ.out, rfl, fun p hp => by rw [List.mem_singleton.1 hp]; exact HHZ.out, by show 1 ≤ _; omega⟩, zb.drew⟩
     ·obtain ⟨Z, hZ, z8, yo, yz, yb⟩ := set8_all (HA1.out (.cells #[.string (mkB a), .slice (some ⟨g, o, none⟩) n c] 173)) (.int .i64 d.kind) (.string (mkB d.name)) (.int .i64 d.line) (.int .i64 d.col) (.slice fa d.fields.length fc) (.slice va d.values.length vc) (.slice ma d.methods.length mc) (.slice ia d.inner.length ic)
      rw [hZ]
      have zr : Z.heap[Y.heap.size]? = some (.cells #[.string (mkB a), .slice (some ⟨g, o, none⟩) n c] 173 (0, 0)) := by rw [yo _ (by omega)]; exact alloc_heap_new _ _
      have zb : Below w.heap.size w Z := (HYw.out.alloc HYw.out.size _).trans (yb.mono (by omega))
      have r0 := cell_at z8 0 rfl
      have r1 := cell_at z8 1 rfl
      have r2 := cell_at z8 2 rfl
      have r3 := cell_at z8 3 rfl
      have r4 := cell_at z8 4 rfl
      have r5 := cell_at z8 5 rfl
      have r6 := cell_at z8 6 rfl
      have r7 := cell_at z8 7 rfl
      have HKZ : Hid (Kids (f + 1) Z.drew S (.slice fa d.fields.length fc) (.slice va d.values.length vc) (.slice ma d.methods.length mc) (.slice ia d.inner.length ic) d) := (HKD.out.old (w' := Z.drew) fun b hb => (zb.block b (HS.out b hb)).trans (HBw.out.block b (HS.out b hb)).symm).up
      have HHZ : Hid (HeldD (f + 1) Z.drew S (.slice (some ⟨g, o, none⟩) n c) ds) := by
       refine (?_ : HeldD _ _ _ _ _)
       have := HeldD.old (w' := Z.drew) (fun b hb => zb.block b (HS.out b hb)) HH.out
       rw [HN.out] at this
       exact this
      have HOZ : Hid (Z.drew.ownsRow w.heap.size 173 2 (.slice (some ⟨Y.heap.size, 0, none⟩) 1 1) [((a, .slice (some ⟨g, o, none⟩) n c, ds) : RmV)].length ([((a, .slice (some ⟨g, o, none⟩) n c, ds) : RmV)].flatMap rrow)) := ⟨rfl, .inr ⟨Y.heap.size, 1, #[.string (mkB a), .slice (some ⟨g, o, none⟩) n c], rfl, HYw.out.size, zr, Nat.le_refl _, by unfold maxLen; omega, rfl, rfl⟩⟩
      exact bodyPost_ret (v := .tuple #[.agg #[.int .i64 d.kind, .string (mkB d.name), .int .i64 d.line, .int .i64 d.col, .slice fa d.fields.length fc, .slice va d.values.length vc, .slice ma d.methods.length mc, .slice ia d.inner.length ic], .slice (some ⟨Y.heap.size, 0, none⟩) 1 1, .bool true]) (by simp [results, Tryz.results199, go_sem, r0, r1, r2, r3, r4, r5, r6, r7]) rfl ⟨.inl ⟨d, _, fa, fc, va, vc, ma, mc, ia, ic, _, [(a, .slice (some ⟨g, o, none⟩) n c, ds)], HRS.out, rfl, HKZ.out, HOZ.out, rfl, fun p hp => by rw [List.mem_singleton.1 hp]; exact HHZ.out, by show 1 ≤ _; omega⟩, zb.drew⟩
    ·have HNE := Lib.hid h1
     have t' := mkB_beqS h1
     have t'' := beq_eq_false_iff_ne.2 h1
     obtain ⟨D, hD⟩ : ∃ D, d.name.length = D := ⟨_, rfl⟩
     have zn : (mkB d.name).size = D := by rw [mkB_size, hD]
     have hD1 : D ≤ 200000000 := by rw [← hD]; exact hn1
     have s1 := sumS (mkB d.name) ⟨#[46]⟩ 200000000 (by omega) (by show _ + 1 ≤ _; omega)
     have hHP := strings_HasPrefix (mkB rest) (mkB d.name ++ ⟨#[46]⟩) Y
     have eP : Lib.hasPrefix (mkB rest).data.toList (mkB d.name ++ ⟨#[46]⟩).data.toList = headed d.name rest := by
      show List.isPrefixOf (mkB d.name ++ mkB [46]).data.toList rest = _
      rw [← mkB_cat]; rfl
     rw [eP] at hHP
     have hG2 := HG1.out
     rw [if_neg h1] at hG2
     have hhr := headed_iff d.name rest
     have HHR := Lib.hid hhr
     obtain ⟨hb, hhb⟩ : ∃ b, headed d.name rest = b := ⟨_, rfl⟩
     rw [hhb] at hHP hG2 HHR
     have HG2 := Lib.hid hG2
     have HD := Lib.hid hD
     have HFD := Lib.hid hfd
     have HTD := Lib.hid htd
     clear eP hhb hG2 hhr hD hfd htd h1 HG1
     go_wp2_with fail
     refine hHP.mono ?_
     rintro e Y9 ⟨rfl, h9⟩
     have h9 := h9.symm
     subst h9
     clear hHP s1 t' t''
     cases hb
     ·have HBQ2 := Lib.hid (HBQ.out.trans (HYB.out.mono HBQ.out.size))
      have HG3 : Hid (goP (fun a' ds' => firstP f a' ds' wh) a ds wh (ds.drop (j + 1)) = RES) := by have := HG2.out; rw [if_neg (by decide)] at this; exact this
      go_wp2_with fail
      go_roundw
      case rel => exact ⟨j + 1, by go_num, by omega, HBQ2.out, HG3.out⟩
      case measure => simp [intOf]; omega
     ·have HG3 : Hid ((match firstP f (wh.take (A + D + 1)) d.inner wh with | some (x, o) => some (x, o ++ [(a, ds)]) | none => goP (fun a' ds' => firstP f a' ds' wh) a ds wh (ds.drop (j + 1))) = RES) := by
       have := HG2.out
       rw [if_pos rfl, HD.out] at this
       exact this
      have hK : A + D + 1 ≤ wh.length := by
       obtain ⟨r', hr'⟩ := HHR.out.1 rfl
       have h2 := congrArg List.length HRT.out
       rw [List.length_drop, hr', List.length_append, HD.out, List.length_cons] at h2
       omega
      have hsl2 := sl_to wh (A + D + 1) hK
      obtain ⟨M, hM⟩ : ∃ M, wh.take (A + D + 1) = M := ⟨_, rfl⟩
      have hMl : M.length ≤ wh.length := by rw [← hM, List.length_take]; omega
      have hex2 : (mkB wh).extract 0 (A + D + 1) = mkB M := by rw [mk_take, hM]
      rw [hM] at HG3 hsl2
      rw [show (((A + D + 1 : Nat)) : Int) = (A : Int) + (D : Int) + 1 by omega] at hsl2
      have htn : ((A : Int) + (D : Int) + 1).toNat = A + D + 1 := by omega
      have hw1 : IntKind.i64.wrap ((A : Int) + (D : Int)) = (A : Int) + (D : Int) := by rw [IntKind.wrap_i64]; omega
      have hw2 : IntKind.i64.wrap ((A : Int) + (D : Int) + 1) = (A : Int) + (D : Int) + 1 := by rw [IntKind.wrap_i64]; omega
      have hK0 : (0 : Int) ≤ (A : Int) + (D : Int) + 1 := by omega
      have hK1 : (A : Int) + (D : Int) + 1 ≤ (wh.length : Int) := by omega
      have yb0 := cell_at HY0.out 0 rfl
      have y7 := cell_at HYC.out 7 rfl
      have hRec := ih d.inner (.slice ia d.inner.length ic) M wh S Y (by omega) HFD.out.2.2.2 HTD.out.2.2.2.2 hMl hwl (HeldD.old (fun b hb => HYB.out.block b (by have := HS.out b hb; omega)) HKD.out.2.2.2) (fun b hb => by have := HS.out b hb; omega)
      obtain ⟨RS, hRS⟩ : ∃ r, firstP f M d.inner wh = r := ⟨_, rfl⟩
      rw [hRS] at hRec HG3
      clear hM hRS
      go_wp2_with fail
      refine hRec.mono ?_
      rintro e W3 ⟨hans, hb3⟩
      have HB3 := Lib.hid hb3
      have HW3 : Hid (Below w.heap.size w W3) := HYw.out.trans (hb3.mono HYw.out.size)
      have hs3 := hb3.size
      have H30 : Hid (W3.heap[w.heap.size]? = some (.cells #[.string (mkB a), .slice (some ⟨g, o, none⟩) n c] 173 (0, 0))) := (hb3.block _ (blk_lt HY0.out)).trans HY0.out
      have H31 : Hid (W3.heap[w.heap.size + 1]? = some (.cells #[.int .i64 0, .string ⟨#[]⟩, .int .i64 0, .int .i64 0, .slice none 0 0, .slice none 0 0, .slice none 0 0, .slice none 0 0] 69 (0, 0))) := (hb3.block _ (blk_lt HY1.out)).trans HY1.out
      clear hRec hb3 hsl2 hex2 htn hw1 hw2 hK0 hK1 yb0 y7
      rcases hans with ⟨d2, rs2, hfa, hfc, hva, hvc, hma, hmc, hia, hic, rv, R, hres, rfl, hk2, hown2, hmap, hheld, hRl⟩ | ⟨hres, rfl⟩
      ·have HRS : Hid (RES = some (d2, rs2 ++ [(a, ds)])) := by have := HG3.out; rw [hres] at this; exact this.symm
       have HK2 := Lib.hid hk2
       have HO2 := Lib.hid hown2
       have HMP := Lib.hid hmap
       have HHE := Lib.hid hheld
       obtain ⟨ra, rc, hrv⟩ := own_slice hown2
       subst hrv
       clear hres hk2 hown2 hmap hheld
       have hC : (W3.alloc (.cells #[.int .i64 d2.kind, .string (mkB d2.name), .int .i64 d2.line, .int .i64 d2.col, .slice hfa d2.fields.length hfc, .slice hva d2.values.length hvc, .slice hma d2.methods.length hmc, .slice hia d2.inner.length hic] 69)).heap[W3.heap.size]? = some (.cells #[.int .i64 d2.kind, .string (mkB d2.name), .int .i64 d2.line, .int .i64 d2.col, .slice hfa d2.fields.length hfc, .slice hva d2.values.length hvc, .slice hma d2.methods.length hmc, .slice hia d2.inner.length hic] 69 (0, 0)) := alloc_heap_new _ _
       have hCb : Below W3.heap.size W3 (W3.alloc (.cells #[.int .i64 d2.kind, .string (mkB d2.name), .int .i64 d2.line, .int .i64 d2.col, .slice hfa d2.fields.length hfc, .slice hva d2.values.length hvc, .slice hma d2.methods.length hmc, .slice hia d2.inner.length hic] 69)) := (Below.refl _ W3).alloc (Nat.le_refl _) _
       have HOC := Lib.hid (HO2.out.alloc (.cells #[.int .i64 d2.kind, .string (mkB d2.name), .int .i64 d2.line, .int .i64 d2.col, .slice hfa d2.fields.length hfc, .slice hva d2.values.length hvc, .slice hma d2.methods.length hmc, .slice hia d2.inner.length hic] 69))
       go_upto_region 11 with fail
       generalize (W3.alloc (.cells #[.int .i64 d2.kind, .string (mkB d2.name), .int .i64 d2.line, .int .i64 d2.col, .slice hfa d2.fields.length hfc, .slice hva d2.values.length hvc, .slice hma d2.methods.length hmc, .slice hia d2.inner.length hic] 69)) = Y3 at *
       have H40 : Hid (Y3.heap[w.heap.size]? = some (.cells #[.string (mkB a), .slice (some ⟨g, o, none⟩) n c] 173 (0, 0))) := (hCb.block _ (blk_lt H30.out)).trans H30.out
       have H41 : Hid (Y3.heap[w.heap.size + 1]? = some (.cells #[.int .i64 0, .string ⟨#[]⟩, .int .i64 0, .int .i64 0, .slice none 0 0, .slice none 0 0, .slice none 0 0, .slice none 0 0] 69 (0, 0))) := (hCb.block _ (blk_lt H31.out)).trans H31.out
       have HY3 : Hid (Below w.heap.size w Y3) := HW3.out.trans (hCb.mono HW3.out.size)
       have hs4 := hCb.size
       have hC3 := blk_lt hC
       have HC := Lib.hid hC
       have l0 := cell_at hC 0 rfl
       have l1 := cell_at hC 1 rfl
       have l2 := cell_at hC 2 rfl
       have l3 := cell_at hC 3 rfl
       have l4 := cell_at hC 4 rfl
       have l5 := cell_at hC 5 rfl
       have l6 := cell_at hC 6 rfl
       have l7 := cell_at hC 7 rfl
       have m0 := cell_at H40.out 0 rfl
       have m1 := cell_at H40.out 1 rfl
       have HA1 : Hid (∀ o, (Y3.alloc o).heap[w.heap.size + 1]? = some (.cells #[.int .i64 0, .string ⟨#[]⟩, .int .i64 0, .int .i64 0, .slice none 0 0, .slice none 0 0, .slice none 0 0, .slice none 0 0] 69 (0, 0))) := fun o => by rw [alloc_heap_old _ _ _ (blk_lt H41.out)]; exact H41.out
       have HA2 : Hid (∀ o, (Y3.alloc o).heap[W3.heap.size]? = some (.cells #[.int .i64 d2.kind, .string (mkB d2.name), .int .i64 d2.line, .int .i64 d2.col, .slice hfa d2.fields.length hfc, .slice hva d2.values.length hvc, .slice hma d2.methods.length hmc, .slice hia d2.inner.length hic] 69 (0, 0))) := fun o => by rw [alloc_heap_old _ _ _ (blk_lt HC.out)]; exact HC.out
       have k0 := cell_at H41.out 0 rfl
       have q0 : ∀ o, (Y3.alloc o).cell? ⟨w.heap.size + 1, 0, none⟩ = some (.int .i64 0) := fun o => by have := HA1.out o; simp [World.cell?, this]
       have k1 := cell_at H41.out 1 rfl
       have q1 : ∀ o, (Y3.alloc o).cell? ⟨w.heap.size + 1, 1, none⟩ = some (.string ⟨#[]⟩) := fun o => by have := HA1.out o; simp [World.cell?, this]
       have k2 := cell_at H41.out 2 rfl
       have q2 : ∀ o, (Y3.alloc o).cell? ⟨w.heap.size + 1, 2, none⟩ = some (.int .i64 0) := fun o => by have := HA1.out o; simp [World.cell?, this]
       have k3 := cell_at H41.out 3 rfl
       have q3 : ∀ o, (Y3.alloc o).cell? ⟨w.heap.size + 1, 3, none⟩ = some (.int .i64 0) := fun o => by have := HA1.out o; simp [World.cell?, this]
       have k4 := cell_at H41.out 4 rfl
       have q4 : ∀ o, (Y3.alloc o).cell? ⟨w.heap.size + 1, 4, none⟩ = some (.slice none 0 0) := fun o => by have := HA1.out o; simp [World.cell?, this]
       have k5 := cell_at H41.out 5 rfl
       have q5 : ∀ o, (Y3.alloc o).cell? ⟨w.heap.size + 1, 5, none⟩ = some (.slice none 0 0) := fun o => by have := HA1.out o; simp [World.cell?, this]
       have k6 := cell_at H41.out 6 rfl
       have q6 : ∀ o, (Y3.alloc o).cell? ⟨w.heap.size + 1, 6, none⟩ = some (.slice none 0 0) := fun o => by have := HA1.out o; simp [World.cell?, this]
       have k7 := cell_at H41.out 7 rfl
       have q7 : ∀ o, (Y3.alloc o).cell? ⟨w.heap.size + 1, 7, none⟩ = some (.slice none 0 0) := fun o => by have := HA1.out o; simp [World.cell?, this]
       have x0 : ∀ o, (Y3.alloc o).cell? ⟨W3.heap.size, 0, none⟩ = some (.int .i64 d2.kind) := fun o => by have := HA2.out o; simp [World.cell?, this]
       have x1 : ∀ o, (Y3.alloc o).cell? ⟨W3.heap.size, 1, none⟩ = some (.string (mkB d2.name)) := fun o => by have := HA2.out o; simp [World.cell?, this]
       have x2 : ∀ o, (Y3.alloc o).cell? ⟨W3.heap.size, 2, none⟩ = some (.int .i64 d2.line) := fun o => by have := HA2.out o; simp [World.cell?, this]
       have x3 : ∀ o, (Y3.alloc o).cell? ⟨W3.heap.size, 3, none⟩ = some (.int .i64 d2.col) := fun o => by have := HA2.out o; simp [World.cell?, this]
       have x4 : ∀ o, (Y3.alloc o).cell? ⟨W3.heap.size, 4, none⟩ = some (.slice hfa d2.fields.length hfc) := fun o => by have := HA2.out o; simp [World.cell?, this]
       have x5 : ∀ o, (Y3.alloc o).cell? ⟨W3.heap.size, 5, none⟩ = some (.slice hva d2.values.length hvc) := fun o => by have := HA2.out o; simp [World.cell?, this]
       have x6 : ∀ o, (Y3.alloc o).cell? ⟨W3.heap.size, 6, none⟩ = some (.slice hma d2.methods.length hmc) := fun o => by have := HA2.out o; simp [World.cell?, this]
       have x7 : ∀ o, (Y3.alloc o).cell? ⟨W3.heap.size, 7, none⟩ = some (.slice hia d2.inner.length hic) := fun o => by have := HA2.out o; simp [World.cell?, this]
       have kf : ∀ j, Y3.frozen? ⟨w.heap.size + 1, j, none⟩ = false := fun j => by simp [World.frozen?, H41.out]
       have qf : ∀ o j, (Y3.alloc o).frozen? ⟨w.heap.size + 1, j, none⟩ = false := fun o j => by have := HA1.out o; simp [World.frozen?, this]
       have f0 := kf 0
       have p0 := fun o => qf o 0
       have f1 := kf 1
       have p1 := fun o => qf o 1
       have f2 := kf 2
       have p2 := fun o => qf o 2
       have f3 := kf 3
       have p3 := fun o => qf o 3
       have f4 := kf 4
       have p4 := fun o => qf o 4
       have f5 := kf 5
       have p5 := fun o => qf o 5
       have f6 := kf 6
       have p6 := fun o => qf o 6
       have f7 := kf 7
       have p7 := fun o => qf o 7
       have HPA : Hid ((∀ wy : World, wy = (Y3.alloc (.cells #[.string (mkB a), .slice (some ⟨g, o, none⟩) n c] 173)).drew → wy.ownsRow Y.heap.size 173 2 (.slice ra R.length rc) R.length (R.flatMap rrow) ∧ wy.heap[Y3.heap.size]? = some (.cells (rrow ((a, .slice (some ⟨g, o, none⟩) n c, ds) : RmV)).toArray 173 (0, 0)) ∧ Y.heap.size ≤ wy.heap.size) ∧ (∀ wy : World, wy = (Y3.alloc (.cells #[.string (mkB a), .slice (some ⟨g, o, none⟩) n c] 173)).drew → ∀ g2 cap2 W, W.ownsRow Y.heap.size 173 2 (.slice (some ⟨g2, 0, none⟩) (R.length + 1) cap2) (R ++ [((a, .slice (some ⟨g, o, none⟩) n c, ds) : RmV)]).length ((R ++ [((a, .slice (some ⟨g, o, none⟩) n c, ds) : RmV)]).flatMap rrow) → wy.grownBy W (Value.slice ra R.length rc).ownBlock → (fun (g2 cap2 : Nat) (W : World) => W.ownsRow Y.heap.size 173 2 (.slice (some ⟨g2, 0, none⟩) (R.length + 1) cap2) (R ++ [((a, .slice (some ⟨g, o, none⟩) n c, ds) : RmV)]).length ((R ++ [((a, .slice (some ⟨g, o, none⟩) n c, ds) : RmV)]).flatMap rrow) ∧ Below w.heap.size w W ∧ W.heap[w.heap.size + 1]? = some (.cells #[.int .i64 0, .string ⟨#[]⟩, .int .i64 0, .int .i64 0, .slice none 0 0, .slice none 0 0, .slice none 0 0, .slice none 0 0] 69 (0, 0)) ∧ W.heap[W3.heap.size]? = some (.cells #[.int .i64 d2.kind, .string (mkB d2.name), .int .i64 d2.line, .int .i64 d2.col, .slice hfa d2.fields.length hfc, .slice hva d2.values.length hvc, .slice hma d2.methods.length hmc, .slice hia d2.inner.length hic] 69 (0, 0))) g2 cap2 W)) := by
        refine (?_ : _ ∧ _)
        obtain ⟨Z, hZ⟩ : ∃ Z, (Y3.alloc (.cells #[.string (mkB a), .slice (some ⟨g, o, none⟩) n c] 173)).drew = Z := ⟨_, rfl⟩
        have zo : Z.ownsRow Y.heap.size 173 2 (.slice ra R.length rc) R.length (R.flatMap rrow) := by rw [← hZ]; exact (HOC.out.alloc _).drew
        have zr : Z.heap[Y3.heap.size]? = some (.cells #[.string (mkB a), .slice (some ⟨g, o, none⟩) n c] 173 (0, 0)) := by rw [← hZ]; exact alloc_heap_new Y3 _
        have zs : Y.heap.size ≤ Z.heap.size := by rw [← hZ]; show Y.heap.size ≤ (Y3.heap.push _).size; simp; omega
        have zb : Below w.heap.size w Z := by rw [← hZ]; exact (HY3.out.alloc HY3.out.size _).drew
        have z8 : Z.heap[w.heap.size + 1]? = some (.cells #[.int .i64 0, .string ⟨#[]⟩, .int .i64 0, .int .i64 0, .slice none 0 0, .slice none 0 0, .slice none 0 0, .slice none 0 0] 69 (0, 0)) := by rw [← hZ]; exact HA1.out _
        have zc : Z.heap[W3.heap.size]? = some (.cells #[.int .i64 d2.kind, .string (mkB d2.name), .int .i64 d2.line, .int .i64 d2.col, .slice hfa d2.fields.length hfc, .slice hva d2.values.length hvc, .slice hma d2.methods.length hmc, .slice hia d2.inner.length hic] 69 (0, 0)) := by rw [← hZ]; exact HA2.out _
        have key : (Z.ownsRow Y.heap.size 173 2 (.slice ra R.length rc) R.length (R.flatMap rrow) ∧ Z.heap[Y3.heap.size]? = some (.cells (rrow ((a, .slice (some ⟨g, o, none⟩) n c, ds) : RmV)).toArray 173 (0, 0)) ∧ Y.heap.size ≤ Z.heap.size) ∧ Below w.heap.size w Z ∧ Z.heap[w.heap.size + 1]? = some (.cells #[.int .i64 0, .string ⟨#[]⟩, .int .i64 0, .int .i64 0, .slice none 0 0, .slice none 0 0, .slice none 0 0, .slice none 0 0] 69 (0, 0)) := ⟨⟨zo, zr, zs⟩, zb, z8⟩
        refine ⟨fun wy e => by rw [e, hZ]; exact key.1, fun wy e g2 cap2 W h1 h2 => ⟨h1, ?_, ?_, ?_⟩⟩
        ·rw [e, hZ] at h2
         exact key.2.1.grown h2 (by have := HYw.out.size; have := key.1.2.2; omega) (fun b hb => by have := (own_block HOC.out b hb).1; have := HYw.out.size; omega)
        ·rw [e, hZ] at h2
         rw [h2.block _ (blk_lt key.2.2) (fun e2 => by have := (own_block HOC.out _ e2.symm).1; omega)]; exact key.2.2
        ·rw [e, hZ] at h2
         rw [h2.block _ (blk_lt zc) (fun e2 => by have := (own_block HO2.out _ e2.symm).2; omega)]; exact zc
       have HPB : Hid ((∀ wy : World, wy = (((((((((Y3.setCell ⟨w.heap.size + 1, 0, none⟩ (.int .i64 d2.kind)).setCell ⟨w.heap.size + 1, 1, none⟩ (.string (mkB d2.name))).setCell ⟨w.heap.size + 1, 2, none⟩ (.int .i64 d2.line)).setCell ⟨w.heap.size + 1, 3, none⟩ (.int .i64 d2.col)).setCell ⟨w.heap.size + 1, 4, none⟩ (.slice hfa d2.fields.length hfc)).setCell ⟨w.heap.size + 1, 5, none⟩ (.slice hva d2.values.length hvc)).setCell ⟨w.heap.size + 1, 6, none⟩ (.slice hma d2.methods.length hmc)).setCell ⟨w.heap.size + 1, 7, none⟩ (.slice hia d2.inner.length hic)).alloc (.cells #[.string (mkB a), .slice (some ⟨g, o, none⟩) n c] 173)).drew → wy.ownsRow Y.heap.size 173 2 (.slice ra R.length rc) R.length (R.flatMap rrow) ∧ wy.heap[Y3.heap.size]? = some (.cells (rrow ((a, .slice (some ⟨g, o, none⟩) n c, ds) : RmV)).toArray 173 (0, 0)) ∧ Y.heap.size ≤ wy.heap.size) ∧ (∀ wy : World, wy = (((((((((Y3.setCell ⟨w.heap.size + 1, 0, none⟩ (.int .i64 d2.kind)).setCell ⟨w.heap.size + 1, 1, none⟩ (.string (mkB d2.name))).setCell ⟨w.heap.size + 1, 2, none⟩ (.int .i64 d2.line)).setCell ⟨w.heap.size + 1, 3, none⟩ (.int .i64 d2.col)).setCell ⟨w.heap.size + 1, 4, none⟩ (.slice hfa d2.fields.length hfc)).setCell ⟨w.heap.size + 1, 5, none⟩ (.slice hva d2.values.length hvc)).setCell ⟨w.heap.size + 1, 6, none⟩ (.slice hma d2.methods.length hmc)).setCell ⟨w.heap.size + 1, 7, none⟩ (.slice hia d2.inner.length hic)).alloc (.cells #[.string (mkB a), .slice (some ⟨g, o, none⟩) n c] 173)).drew → ∀ g2 cap2 W, W.ownsRow Y.heap.size 173 2 (.slice (some ⟨g2, 0, none⟩) (R.length + 1) cap2) (R ++ [((a, .slice (some ⟨g, o, none⟩) n c, ds) : RmV)]).length ((R ++ [((a, .slice (some ⟨g, o, none⟩) n c, ds) : RmV)]).flatMap rrow) → wy.grownBy W (Value.slice ra R.length rc).ownBlock → (fun (g2 cap2 : Nat) (W : World) => W.ownsRow Y.heap.size 173 2 (.slice (some ⟨g2, 0, none⟩) (R.length + 1) cap2) (R ++ [((a, .slice (some ⟨g, o, none⟩) n c, ds) : RmV)]).length ((R ++ [((a, .slice (some ⟨g, o, none⟩) n c, ds) : RmV)]).flatMap rrow) ∧ Below w.heap.size w W ∧ W.heap[w.heap.size + 1]? = some (.cells #[.int .i64 d2.kind, .string (mkB d2.name), .int .i64 d2.line, .int .i64 d2.col, .slice hfa d2.fields.length hfc, .slice hva d2.values.length hvc, .slice hma d2.methods.length hmc, .slice hia d2.inner.length hic] 69 (0, 0))) g2 cap2 W)) := by
        refine (?_ : _ ∧ _)
        obtain ⟨Z0, hZ0, z80, yo, yz, yb⟩ := set8_all (w := Y3) H41.out (.int .i64 d2.kind) (.string (mkB d2.name)) (.int .i64 d2.line) (.int .i64 d2.col) (.slice hfa d2.fields.length hfc) (.slice hva d2.values.length hvc) (.slice hma d2.methods.length hmc) (.slice hia d2.inner.length hic)
        have yz : Z0.heap.size = Y3.heap.size := yz
        obtain ⟨Z, hZ⟩ : ∃ Z, (((((((((Y3.setCell ⟨w.heap.size + 1, 0, none⟩ (.int .i64 d2.kind)).setCell ⟨w.heap.size + 1, 1, none⟩ (.string (mkB d2.name))).setCell ⟨w.heap.size + 1, 2, none⟩ (.int .i64 d2.line)).setCell ⟨w.heap.size + 1, 3, none⟩ (.int .i64 d2.col)).setCell ⟨w.heap.size + 1, 4, none⟩ (.slice hfa d2.fields.length hfc)).setCell ⟨w.heap.size + 1, 5, none⟩ (.slice hva d2.values.length hvc)).setCell ⟨w.heap.size + 1, 6, none⟩ (.slice hma d2.methods.length hmc)).setCell ⟨w.heap.size + 1, 7, none⟩ (.slice hia d2.inner.length hic)).alloc (.cells #[.string (mkB a), .slice (some ⟨g, o, none⟩) n c] 173)).drew = Z := ⟨_, rfl⟩
        have hZ' : (Z0.alloc (.cells #[.string (mkB a), .slice (some ⟨g, o, none⟩) n c] 173)).drew = Z := by rw [← hZ0]; exact hZ
        have zo : Z.ownsRow Y.heap.size 173 2 (.slice ra R.length rc) R.length (R.flatMap rrow) := by rw [← hZ']; exact (World.ownsRow.alloc (own_keep HOC.out fun b hb => yo b (by have := (own_block HOC.out b hb).1; omega)) _).drew
        have zr : Z.heap[Y3.heap.size]? = some (.cells #[.string (mkB a), .slice (some ⟨g, o, none⟩) n c] 173 (0, 0)) := by rw [← hZ', ← yz]; exact alloc_heap_new Z0 _
        have zs : Y.heap.size ≤ Z.heap.size := by rw [← hZ']; show Y.heap.size ≤ (Z0.heap.push _).size; simp; omega
        have zb : Below w.heap.size w Z := by rw [← hZ']; exact ((HY3.out.trans (yb.mono (by omega))).alloc (by rw [yz]; exact HY3.out.size) _).drew
        have z8 : Z.heap[w.heap.size + 1]? = some (.cells #[.int .i64 d2.kind, .string (mkB d2.name), .int .i64 d2.line, .int .i64 d2.col, .slice hfa d2.fields.length hfc, .slice hva d2.values.length hvc, .slice hma d2.methods.length hmc, .slice hia d2.inner.length hic] 69 (0, 0)) := by rw [← hZ']; show (Z0.alloc (.cells #[.string (mkB a), .slice (some ⟨g, o, none⟩) n c] 173)).heap[_]? = _; rw [alloc_heap_old _ _ _ (blk_lt z80)]; exact z80
        have key : (Z.ownsRow Y.heap.size 173 2 (.slice ra R.length rc) R.length (R.flatMap rrow) ∧ Z.heap[Y3.heap.size]? = some (.cells (rrow ((a, .slice (some ⟨g, o, none⟩) n c, ds) : RmV)).toArray 173 (0, 0)) ∧ Y.heap.size ≤ Z.heap.size) ∧ Below w.heap.size w Z ∧ Z.heap[w.heap.size + 1]? = some (.cells #[.int .i64 d2.kind, .string (mkB d2.name), .int .i64 d2.line, .int .i64 d2.col, .slice hfa d2.fields.length hfc, .slice hva d2.values.length hvc, .slice hma d2.methods.length hmc, .slice hia d2.inner.length hic] 69 (0, 0)) := ⟨⟨zo, zr, zs⟩, zb, z8⟩
        refine ⟨fun wy e => by rw [e, hZ]; exact key.1, fun wy e g2 cap2 W h1 h2 => ⟨h1, ?_, ?_⟩⟩
        ·rw [e, hZ] at h2
         exact key.2.1.grown h2 (by have := HYw.out.size; have := key.1.2.2; omega) (fun b hb => by have := (own_block HOC.out b hb).1; have := HYw.out.size; omega)
        ·rw [e, hZ] at h2
         rw [h2.block _ (blk_lt key.2.2) (fun e2 => by have := (own_block HOC.out _ e2.symm).1; omega)]; exact key.2.2
       have HPC : Hid ((∀ wy : World, wy = (((((((((Y3.alloc (.cells #[.string (mkB a), .slice (some ⟨g, o, none⟩) n c] 173)).setCell ⟨w.heap.size + 1, 0, none⟩ (.int .i64 d2.kind)).setCell ⟨w.heap.size + 1, 1, none⟩ (.string (mkB d2.name))).setCell ⟨w.heap.size + 1, 2, none⟩ (.int .i64 d2.line)).setCell ⟨w.heap.size + 1, 3, none⟩ (.int .i64 d2.col)).setCell ⟨w.heap.size + 1, 4, none⟩ (.slice hfa d2.fields.length hfc)).setCell ⟨w.heap.size + 1, 5, none⟩ (.slice hva d2.values.length hvc)).setCell ⟨w.heap.size + 1, 6, none⟩ (.slice hma d2.methods.length hmc)).setCell ⟨w.heap.size + 1, 7, none⟩ (.slice hia d2.inner.length hic)).drew → wy.ownsRow Y.heap.size 173 2 (.slice ra R.length rc) R.length (R.flatMap rrow) ∧ wy.heap[Y3.heap.size]? = some (.cells (rrow ((a, .slice (some ⟨g, o, none⟩) n c, ds) : RmV)).toArray 173 (0, 0)) ∧ Y.heap.size ≤ wy.heap.size) ∧ (∀ wy : World, wy = (((((((((Y3.alloc (.cells #[.string (mkB a), .slice (some ⟨g, o, none⟩) n c] 173)).setCell ⟨w.heap.size + 1, 0, none⟩ (.int .i64 d2.kind)).setCell ⟨w.heap.size + 1, 1, none⟩ (.string (mkB d2.name))).setCell ⟨w.heap.size + 1, 2, none⟩ (.int .i64 d2.line)).setCell ⟨w.heap.size + 1, 3, none⟩ (.int .i64 d2.col)).setCell ⟨w.heap.size + 1, 4, none⟩ (.slice hfa d2.fields.length hfc)).setCell ⟨w.heap.size + 1, 5, none⟩ (.slice hva d2.values.length hvc)).setCell ⟨w.heap.size + 1, 6, none⟩ (.slice hma d2.methods.length hmc)).setCell ⟨w.heap.size + 1, 7, none⟩ (.slice hia d2.inner.length hic)).drew → ∀ g2 cap2 W, W.ownsRow Y.heap.size 173 2 (.slice (some ⟨g2, 0, none⟩) (R.length + 1) cap2) (R ++ [((a, .slice (some ⟨g, o, none⟩) n c, ds) : RmV)]).length ((R ++ [((a, .slice (some ⟨g, o, none⟩) n c, ds) : RmV)]).flatMap rrow) → wy.grownBy W (Value.slice ra R.length rc).ownBlock → (fun (g2 cap2 : Nat) (W : World) => W.ownsRow Y.heap.size 173 2 (.slice (some ⟨g2, 0, none⟩) (R.length + 1) cap2) (R ++ [((a, .slice (some ⟨g, o, none⟩) n c, ds) : RmV)]).length ((R ++ [((a, .slice (some ⟨g, o, none⟩) n c, ds) : RmV)]).flatMap rrow) ∧ Below w.heap.size w W ∧ W.heap[w.heap.size + 1]? = some (.cells #[.int .i64 d2.kind, .string (mkB d2.name), .int .i64 d2.line, .int .i64 d2.col, .slice hfa d2.fields.length hfc, .slice hva d2.values.length hvc, .slice hma d2.methods.length hmc, .slice hia d2.inner.length hic] 69 (0, 0))) g2 cap2 W)) := by
        refine (?_ : _ ∧ _)
        obtain ⟨Z0, hZ0, z80, yo, yz, yb⟩ := set8_all (w := Y3.alloc (.cells #[.string (mkB a), .slice (some ⟨g, o, none⟩) n c] 173)) (HA1.out _) (.int .i64 d2.kind) (.string (mkB d2.name)) (.int .i64 d2.line) (.int .i64 d2.col) (.slice hfa d2.fields.length hfc) (.slice hva d2.values.length hvc) (.slice hma d2.methods.length hmc) (.slice hia d2.inner.length hic)
        have yz : Z0.heap.size = Y3.heap.size + 1 := by rw [yz]; simp
        obtain ⟨Z, hZ⟩ : ∃ Z, (((((((((Y3.alloc (.cells #[.string (mkB a), .slice (some ⟨g, o, none⟩) n c] 173)).setCell ⟨w.heap.size + 1, 0, none⟩ (.int .i64 d2.kind)).setCell ⟨w.heap.size + 1, 1, none⟩ (.string (mkB d2.name))).setCell ⟨w.heap.size + 1, 2, none⟩ (.int .i64 d2.line)).setCell ⟨w.heap.size + 1, 3, none⟩ (.int .i64 d2.col)).setCell ⟨w.heap.size + 1, 4, none⟩ (.slice hfa d2.fields.length hfc)).setCell ⟨w.heap.size + 1, 5, none⟩ (.slice hva d2.values.length hvc)).setCell ⟨w.heap.size + 1, 6, none⟩ (.slice hma d2.methods.length hmc)).setCell ⟨w.heap.size + 1, 7, none⟩ (.slice hia d2.inner.length hic)).drew = Z := ⟨_, rfl⟩
        have hZ' : Z0.drew = Z := by rw [← hZ0]; exact hZ
        have zo : Z.ownsRow Y.heap.size 173 2 (.slice ra R.length rc) R.length (R.flatMap rrow) := by rw [← hZ']; exact World.ownsRow.drew (own_keep (HOC.out.alloc _) fun b hb => yo b (by have := (own_block HOC.out b hb).1; omega))
        have zr : Z.heap[Y3.heap.size]? = some (.cells #[.string (mkB a), .slice (some ⟨g, o, none⟩) n c] 173 (0, 0)) := by rw [← hZ']; exact (yo _ (by omega)).trans (alloc_heap_new _ _)
        have zs : Y.heap.size ≤ Z.heap.size := by rw [← hZ']; show _ ≤ Z0.heap.size; omega
        have zb : Below w.heap.size w Z := by rw [← hZ']; exact ((HY3.out.alloc HY3.out.size _).trans (yb.mono (by omega))).drew
        have z8 : Z.heap[w.heap.size + 1]? = some (.cells #[.int .i64 d2.kind, .string (mkB d2.name), .int .i64 d2.line, .int .i64 d2.col, .slice hfa d2.fields.length hfc, .slice hva d2.values.length hvc, .slice hma d2.methods.length hmc, .slice hia d2.inner.length hic] 69 (0, 0)) := by rw [← hZ']; exact z80
        have key : (Z.ownsRow Y.heap.size 173 2 (.slice ra R.length rc) R.length (R.flatMap rrow) ∧ Z.heap[Y3.heap.size]? = some (.cells (rrow ((a, .slice (some ⟨g, o, none⟩) n c, ds) : RmV)).toArray 173 (0, 0)) ∧ Y.heap.size ≤ Z.heap.size) ∧ Below w.heap.size w Z ∧ Z.heap[w.heap.size + 1]? = some (.cells #[.int .i64 d2.kind, .string (mkB d2.name), .int .i64 d2.line, .int .i64 d2.col, .slice hfa d2.fields.length hfc, .slice hva d2.values.length hvc, .slice hma d2.methods.length hmc, .slice hia d2.inner.length hic] 69 (0, 0)) := ⟨⟨zo, zr, zs⟩, zb, z8⟩
        refine ⟨fun wy e => by rw [e, hZ]; exact key.1, fun wy e g2 cap2 W h1 h2 => ⟨h1, ?_, ?_⟩⟩
        ·rw [e, hZ] at h2
         exact key.2.1.grown h2 (by have := HYw.out.size; have := key.1.2.2; omega) (fun b hb => by have := (own_block HOC.out b hb).1; have := HYw.out.size; omega)
        ·rw [e, hZ] at h2
         rw [h2.block _ (blk_lt key.2.2) (fun e2 => by have := (own_block HOC.out _ e2.symm).1; omega)]; exact key.2.2
       clear hC hCb
       go_region_law (first
        | (refine rm_pushG _ ((a, .slice (some ⟨g, o, none⟩) n c, ds) : RmV) Y3.heap.size (HPA.out.1 _ (by with_reducible rfl)) rfl (HPA.out.2 _ (by with_reducible rfl)) rfl _ _ rfl rfl rfl (by omega) ?_; rintro g2 cap2 W4 ⟨ho4, hb4, h84, hu4⟩; obtain ⟨z0c, z1c, z2c, z3c, z4c, z5c, z6c, z7c, z0f, z1f, z2f, z3f, z4f, z5f, z6f, z7f⟩ := z8_cells h84; have u0 : W4.cell? ⟨W3.heap.size, 0, none⟩ = some (.int .i64 d2.kind) := (by simp [World.cell?, hu4]); have u1 : W4.cell? ⟨W3.heap.size, 1, none⟩ = some (.string (mkB d2.name)) := (by simp [World.cell?, hu4]); have u2 : W4.cell? ⟨W3.heap.size, 2, none⟩ = some (.int .i64 d2.line) := (by simp [World.cell?, hu4]); have u3 : W4.cell? ⟨W3.heap.size, 3, none⟩ = some (.int .i64 d2.col) := (by simp [World.cell?, hu4]); have u4 : W4.cell? ⟨W3.heap.size, 4, none⟩ = some (.slice hfa d2.fields.length hfc) := (by simp [World.cell?, hu4]); have u5 : W4.cell? ⟨W3.heap.size, 5, none⟩ = some (.slice hva d2.values.length hvc) := (by simp [World.cell?, hu4]); have u6 : W4.cell? ⟨W3.heap.size, 6, none⟩ = some (.slice hma d2.methods.length hmc) := (by simp [World.cell?, hu4]); have u7 : W4.cell? ⟨W3.heap.size, 7, none⟩ = some (.slice hia d2.inner.length hic) := (by simp [World.cell?, hu4]))
        | (refine rm_pushG _ ((a, .slice (some ⟨g, o, none⟩) n c, ds) : RmV) Y3.heap.size (HPB.out.1 _ (by with_reducible rfl)) rfl (HPB.out.2 _ (by with_reducible rfl)) rfl _ _ rfl rfl rfl (by omega) ?_; rintro g2 cap2 W4 ⟨ho4, hb4, h84⟩)
        | (refine rm_pushG _ ((a, .slice (some ⟨g, o, none⟩) n c, ds) : RmV) Y3.heap.size (HPC.out.1 _ (by with_reducible rfl)) rfl (HPC.out.2 _ (by with_reducible rfl)) rfl _ _ rfl rfl rfl (by omega) ?_; rintro g2 cap2 W4 ⟨ho4, hb4, h84⟩))
       all_goals go_wp2_with fail
       all_goals
        obtain ⟨Z, hZ, z8, yo, yz, yb⟩ := set8_all h84 (.int .i64 d2.kind) (.string (mkB d2.name)) (.int .i64 d2.line) (.int .i64 d2.col) (.slice hfa d2.fields.length hfc) (.slice hva d2.values.length hvc) (.slice hma d2.methods.length hmc) (.slice hia d2.inner.length hic)
        rw [hZ]
        have hwY := HYw.out.size
        have zb : Below w.heap.size w Z := hb4.trans (yb.mono (by omega))
        have r0 := cell_at z8 0 rfl
        have r1 := cell_at z8 1 rfl
        have r2 := cell_at z8 2 rfl
        have r3 := cell_at z8 3 rfl
        have r4 := cell_at z8 4 rfl
        have r5 := cell_at z8 5 rfl
        have r6 := cell_at z8 6 rfl
        have r7 := cell_at z8 7 rfl
        have hold : ∀ b, S b → Z.heap[b]? = W3.heap[b]? := fun b hb => (zb.block b (HS.out b hb)).trans (HW3.out.block b (HS.out b hb)).symm
        have HKZ : Hid (Kids (f + 1) Z S (.slice hfa d2.fields.length hfc) (.slice hva d2.values.length hvc) (.slice hma d2.methods.length hmc) (.slice hia d2.inner.length hic) d2) := (HK2.out.old hold).up
        have HHZ : Hid (HeldD (f + 1) Z S (.slice (some ⟨g, o, none⟩) n c) ds) := by
         refine (?_ : HeldD _ _ _ _ _)
         have := HeldD.old (w' := Z) (fun b hb => zb.block b (HS.out b hb)) HH.out
         rw [HN.out] at this
         exact this
        have HOZ : Hid (Z.ownsRow w.heap.size 173 2 (.slice (some ⟨g2, 0, none⟩) (R.length + 1) cap2) (R ++ [((a, .slice (some ⟨g, o, none⟩) n c, ds) : RmV)]).length ((R ++ [((a, .slice (some ⟨g, o, none⟩) n c, ds) : RmV)]).flatMap rrow)) := own_base (own_keep ho4 fun b hb => yo b (by have := (own_block ho4 b hb).1; omega)) hwY
        have HMZ : Hid ((R ++ [((a, .slice (some ⟨g, o, none⟩) n c, ds) : RmV)]).map (fun p : RmV => ((p.1, p.2.2) : Rm)) = rs2 ++ [(a, ds)]) := by
         refine (?_ : _ = _)
         rw [List.map_append, HMP.out]; rfl
        have HHR2 : Hid (∀ p ∈ R ++ [((a, .slice (some ⟨g, o, none⟩) n c, ds) : RmV)], HeldD (f + 1) Z S p.2.1 p.2.2) := fun p hp => by
         rcases List.mem_append.1 hp with hp | hp
         ·exact (HeldD.old hold (HHE.out p hp)).up
         ·rw [List.mem_singleton.1 hp]; exact HHZ.out
        exact bodyPost_ret (v := .tuple #[.agg #[.int .i64 d2.kind, .string (mkB d2.name), .int .i64 d2.line, .int .i64 d2.col, .slice hfa d2.fields.length hfc, .slice hva d2.values.length hvc, .slice hma d2.methods.length hmc, .slice hia d2.inner.length hic], .slice (some ⟨g2, 0, none⟩) (R.length + 1) cap2, .bool true]) (by simp [results, Tryz.results199, go_sem, r0, r1, r2, r3, r4, r5, r6, r7]) rfl ⟨.inl ⟨d2, _, hfa, hfc, hva, hvc, hma, hmc, hia, hic, _, R ++ [((a, .slice (some ⟨g, o, none⟩) n c, ds) : RmV)], HRS.out, rfl, HKZ.out, HOZ.out, HMZ.out, HHR2.out, by rw [List.length_append]; show R.length + 1 ≤ _; omega⟩, zb⟩
      ·have HG4 : Hid (goP (fun a' ds' => firstP f a' ds' wh) a ds wh (ds.drop (j + 1)) = RES) := by have := HG3.out; rw [hres] at this; exact this
       have HBQ3 : Hid (Below V.heap.size V (W3.alloc (.cells #[.int .i64 0, .string ⟨#[]⟩, .int .i64 0, .int .i64 0, .slice none 0 0, .slice none 0 0, .slice none 0 0, .slice none 0 0] 69))) := ((HBQ.out.trans (HYB.out.mono HBQ.out.size)).trans (HB3.out.mono (by have h1 := HBQ.out.size; omega))).alloc (by have h1 := HBQ.out.size; omega) _
       go_wp2_with fail
       go_roundw
       case rel => exact ⟨j + 1, by go_num, by omega, HBQ3.out, HG4.out⟩
       case measure => simp [intOf]; omega
   ·have hjn' : ¬ (j : Int) < (n : Int) := by omega
    have HRS : Hid (RES = none) := by have := HGO.out; rw [List.drop_eq_nil_of_le (by have := HN.out; omega), goP_nil] at this; exact this.symm
    have k0 := cell_at HX1.out 0 rfl
    have k1 := cell_at HX1.out 1 rfl
    have k2 := cell_at HX1.out 2 rfl
    have k3 := cell_at HX1.out 3 rfl
    have k4 := cell_at HX1.out 4 rfl
    have k5 := cell_at HX1.out 5 rfl
    have k6 := cell_at HX1.out 6 rfl
    have k7 := cell_at HX1.out 7 rfl
    have kf : ∀ j, w1.frozen? ⟨w.heap.size + 1, j, none⟩ = false := fun j => by simp [World.frozen?, HX1.out]
    have f0 := kf 0
    have f1 := kf 1
    have f2 := kf 2
    have f3 := kf 3
    have f4 := kf 4
    have f5 := kf 5
    have f6 := kf 6
    have f7 := kf 7
    obtain ⟨Y, hY, y8, yo, yz, yb⟩ := set8_all HX1.out (.int .i64 0) (.string ⟨#[]⟩) (.int .i64 0) (.int .i64 0) (.slice none 0 0) (.slice none 0 0) (.slice none 0 0) (.slice none 0 0)
    have HY : Hid (Below w.heap.size w Y) := HBw.out.trans (yb.mono (by omega))
    have HYE := Lib.hid hY
    have r0 := cell_at y8 0 rfl
    have r1 := cell_at y8 1 rfl
    have r2 := cell_at y8 2 rfl
    have r3 := cell_at y8 3 rfl
    have r4 := cell_at y8 4 rfl
    have r5 := cell_at y8 5 rfl
    have r6 := cell_at y8 6 rfl
    have r7 := cell_at y8 7 rfl
    clear hY y8 yo yz yb
    go_wp2_with fail
    rw [HYE.out]
    refine bodyPost_ret (v := .tuple #[.agg #[.int .i64 0, .string ⟨#[]⟩, .int .i64 0, .int .i64 0, .slice none 0 0, .slice none 0 0, .slice none 0 0, .slice none 0 0], .slice none 0 0, .bool false]) (by simp [results, Tryz.results199, go_sem, r0, r1, r2, r3, r4, r5, r6, r7]) rfl ?_
    exact ⟨.inr ⟨HRS.out, rfl⟩, HY.out⟩
end Go.Proofs.YtpojeinddnjpfaaGreatDoor
namespace Go.Proofs.YtpojeinddnjpfaaGreatDoor
set_option linter.unusedVariables false
open Go.ChangeShapes Go.WideShapes Go.ChangeAt Go.RowKit

theorem mkB_nil : mkB [] = ⟨#[]⟩ := rfl
set_option maxHeartbeats 4000000 in
theorem named_any (d : Dc) (fa : Option Addr) (fc : Nat) (va : Option Addr) (vc : Nat) (ma : Option Addr) (mc : Nat) (ia : Option Addr) (ic : Nat) (nm : List UInt8) (cp : Nat) (w : World) (hc : w.cell? ⟨cp, 0, none⟩ = some (.string (mkB nm))) :
  Calls Tryz.prog 201 #[.agg #[.int .i64 d.kind, .string (mkB d.name), .int .i64 d.line, .int .i64 d.col, .slice fa d.fields.length fc, .slice va d.values.length vc, .slice ma d.methods.length mc, .slice ia d.inner.length ic], .pointer (some ⟨cp, 0, none⟩)] w fun e w' => e = .returned (.bool (decide (d.name = nm))) ∧ Below w.heap.size w w' := by
 have hlc := cell_lt hc
 obtain ⟨RB, hRB⟩ : ∃ b, decide (d.name = nm) = b := ⟨_, rfl⟩
 rw [hRB]
 have HRB := Lib.hid hRB
 clear hRB
 have hV : (w.alloc (.cells #[.int .i64 d.kind, .string (mkB d.name), .int .i64 d.line, .int .i64 d.col, .slice fa d.fields.length fc, .slice va d.values.length vc, .slice ma d.methods.length mc, .slice ia d.inner.length ic] 69)).heap[w.heap.size]? = some (.cells #[.int .i64 d.kind, .string (mkB d.name), .int .i64 d.line, .int .i64 d.col, .slice fa d.fields.length fc, .slice va d.values.length vc, .slice ma d.methods.length mc, .slice ia d.inner.length ic] 69 (0, 0)) := alloc_heap_new _ _
 have hb : Below w.heap.size w (w.alloc (.cells #[.int .i64 d.kind, .string (mkB d.name), .int .i64 d.line, .int .i64 d.col, .slice fa d.fields.length fc, .slice va d.values.length vc, .slice ma d.methods.length mc, .slice ia d.inner.length ic] 69)) := (Below.refl _ w).alloc (Nat.le_refl _) _
 go_enter Tryz.func201, Tryz.ntmps201
 go_upto_region 1 with fail
 generalize (w.alloc (.cells #[.int .i64 d.kind, .string (mkB d.name), .int .i64 d.line, .int .i64 d.col, .slice fa d.fields.length fc, .slice va d.values.length vc, .slice ma d.methods.length mc, .slice ia d.inner.length ic] 69)) = V at *
 have c0 : V.cell? ⟨cp, 0, none⟩ = some (.string (mkB nm)) := by rw [hb.cell hlc]; exact hc
 have c1 := cell_at hV 1 rfl
 have HB := Lib.hid hb
 clear hV hb hc
 by_cases h1 : d.name = nm
 ·obtain rfl : RB = true := by rw [← HRB.out]; exact decide_eq_true h1
  rw [h1] at c1
  clear h1
  go_wp2_with fail
  go_ret
  exact ⟨rfl, HB.out⟩
 ·obtain rfl : RB = false := by rw [← HRB.out]; exact decide_eq_false h1
  have t' := mkB_beqS h1
  have t'' := beq_eq_false_iff_ne.2 h1
  go_wp2_with fail
  go_ret
  exact ⟨rfl, HB.out⟩
set_option maxHeartbeats 8000000 in
set_option maxRecDepth 20000 in
theorem indexF_any (f : Nat) (ds : List Dc) (v : Value) (nm : List UInt8) (cp : Nat) (S : Nat → Prop) (w : World) (hc : w.cell? ⟨cp, 0, none⟩ = some (.string (mkB nm))) (hl : ds.length ≤ 100000) (hH : HeldD (f + 1) w S v ds) (hS : ∀ b, S b → b < w.heap.size) :
  Calls Tryz.prog 218 #[v, .func (.func 201) #[] #[.pointer (some ⟨cp, 0, none⟩)]] w fun e w' => (∃ r : Int, e = .returned (.int .i64 r) ∧ decide (0 ≤ r) = ds.any (fun d => decide (d.name = nm))) ∧ Below w.heap.size w w' := by
 obtain ⟨ad, c, rfl⟩ := hH.isSlD
 have HH := Lib.hid hH
 have HS := Lib.hid hS
 have hlc := cell_lt hc
 have HC := Lib.hid hc
 obtain ⟨n, hn⟩ : ∃ n, ds.length = n := ⟨_, rfl⟩
 have HN := Lib.hid hn
 obtain ⟨RES, hR⟩ : ∃ r, ds.any (fun d => decide (d.name = nm)) = r := ⟨_, rfl⟩
 have HR := Lib.hid hR
 rw [hn] at hl ⊢
 rw [hR]
 clear hH hS hc hn hR
 go_enter Tryz.func218, Tryz.ntmps218
 go_wp2_with fail
 go_loopw [8] (fun i wr => ∃ j : Nat, i = .int .i64 (j : Int) ∧ j ≤ n ∧ Below w.heap.size w wr ∧ (ds.drop j).any (fun d => decide (d.name = nm)) = RES) (fun i _ => n - (intOf i).toNat)
 case atStart => exact ⟨0, rfl, by omega, Below.refl _ _, HR.out⟩
 case round =>
  obtain ⟨j, rfl, hj, hbq, hany⟩ := hrel
  have HBQ := Lib.hid hbq
  have HAN := Lib.hid hany
  have hsw := hbq.size
  clear hbq hany
  by_cases hjn : j < n
  ·obtain ⟨d, hd⟩ : ∃ d, ds[j]? = some d := ⟨_, List.getElem?_eq_getElem (by have := HN.out; omega)⟩
   have hdr : ds.drop j = d :: ds.drop (j + 1) := by
    rw [List.drop_eq_getElem_cons (by have := HN.out; omega), (List.getElem?_eq_some_iff.1 hd).2]
   have hA := HAN.out
   rw [hdr, List.any_cons] at hA
   obtain ⟨g, o, c0, fa, fc, va, vc, ma, mc, ia, ic, hsl, hg, e0, e1, e2, e3, e4, e5, e6, e7, kd⟩ := decl_at HH.out (W := wr) (fun b hb => HBQ.out.block b (HS.out b hb)) hd
   rw [HN.out] at hsl
   obtain ⟨rfl, rfl⟩ : ad = some ⟨g, o, none⟩ ∧ c = c0 := by
    injection hsl with h1 _ h3
    exact ⟨h1, h3⟩
   have hj0 : (0 : Int) ≤ (j : Int) := by omega
   have hj1 : (j : Int) < (n : Int) := by omega
   have hwq : IntKind.i64.wrap ((j : Int) + 1) = (j : Int) + 1 := by rw [IntKind.wrap_i64]; omega
   have hCall := named_any d fa fc va vc ma mc ia ic nm cp wr (by rw [HBQ.out.cell hlc]; exact HC.out)
   obtain ⟨b, hb⟩ : ∃ b, decide (d.name = nm) = b := ⟨_, rfl⟩
   rw [hb] at hCall hA
   have HA := Lib.hid hA
   clear hd hdr hsl kd hA hb
   go_wp2_with fail
   refine hCall.mono ?_
   rintro e Y ⟨rfl, hbY⟩
   have HBY := Lib.hid (HBQ.out.trans (hbY.mono hsw))
   clear hCall hbY e0 e1 e2 e3 e4 e5 e6 e7
   cases b with
   | true =>
    have HRT : Hid (RES = true) := by have := HA.out; rw [Bool.true_or] at this; exact this.symm
    go_wp2_with fail
    go_ret
    exact ⟨⟨_, rfl, by rw [HRT.out]; exact decide_eq_true hj0⟩, HBY.out⟩
   | false =>
    go_wp2_with fail
    go_roundw
    case rel => exact ⟨j + 1, by go_num, by omega, HBY.out, by have := HA.out; rw [Bool.false_or] at this; exact this⟩
    case measure => simp [intOf]; omega
  ·have hjn' : ¬ (j : Int) < (n : Int) := by omega
   have HRF : Hid (RES = false) := by have := HAN.out; rw [List.drop_eq_nil_of_le (by have := HN.out; omega)] at this; exact this.symm
   go_wp2_with fail
   go_ret
   exact ⟨⟨_, rfl, by rw [HRF.out]; decide⟩, HBQ.out⟩
set_option maxHeartbeats 4000000 in
theorem contains_any (f : Nat) (ds : List Dc) (v : Value) (nm : List UInt8) (cp : Nat) (S : Nat → Prop) (w : World) (hc : w.cell? ⟨cp, 0, none⟩ = some (.string (mkB nm))) (hl : ds.length ≤ 100000) (hH : HeldD (f + 1) w S v ds) (hS : ∀ b, S b → b < w.heap.size) :
  Calls Tryz.prog 202 #[v, .func (.func 201) #[] #[.pointer (some ⟨cp, 0, none⟩)]] w fun e w' => e = .returned (.bool (ds.any (fun d => decide (d.name = nm)))) ∧ Below w.heap.size w w' := by
 have h := indexF_any f ds v nm cp S w hc hl hH hS
 obtain ⟨ad, c, rfl⟩ := hH.isSlD
 have H := Lib.hid h
 generalize ds.any (fun d => decide (d.name = nm)) = RES at *
 clear hc hl hH hS h
 go_enter Tryz.func202, Tryz.ntmps202
 go_wp2_with fail
 refine H.out.mono ?_
 rintro e w1 ⟨⟨r, rfl, hr⟩, hb⟩
 have HR := Lib.hid hr
 clear hr
 go_wp2_with fail
 go_ret
 exact ⟨by rw [← HR.out]; rfl, hb⟩
end Go.Proofs.YtpojeinddnjpfaaGreatDoor
namespace Go.Proofs.YtpojeinddnjpfaaGreatDoor
set_option linter.unusedVariables false
open Go.ChangeShapes Go.WideShapes Go.ChangeAt Go.RowKit

set_option maxHeartbeats 4000000 in
theorem inside_any (d : Dc) (fa : Option Addr) (fc : Nat) (va : Option Addr) (vc : Nat) (ma : Option Addr) (mc : Nat) (ia : Option Addr) (ic : Nat) (wh : List UInt8) (w : World) (hw : wh.length ≤ 4000000000000) :
  Calls Tryz.prog 200 #[.agg #[.int .i64 d.kind, .string (mkB d.name), .int .i64 d.line, .int .i64 d.col, .slice fa d.fields.length fc, .slice va d.values.length vc, .slice ma d.methods.length mc, .slice ia d.inner.length ic], .string (mkB wh)] w fun e w' => e = .returned (.agg #[.string (mkB (wh ++ [46])), .slice ia d.inner.length ic]) ∧ Below w.heap.size w w' := by
 have s1 := sumS (mkB wh) ⟨#[46]⟩ 4000000000000 (by rw [mkB_size]; exact hw) (by show _ + 1 ≤ _; omega)
 have e1 : mkB wh ++ ⟨#[46]⟩ = mkB (wh ++ [46]) := (mkB_cat wh [46]).symm
 rw [e1] at s1
 generalize wh ++ [46] = M at *
 clear e1
 have hV0 : ((w.alloc (.cells #[.int .i64 d.kind, .string (mkB d.name), .int .i64 d.line, .int .i64 d.col, .slice fa d.fields.length fc, .slice va d.values.length vc, .slice ma d.methods.length mc, .slice ia d.inner.length ic] 69)).alloc (.cells #[.string ⟨#[]⟩, .slice none 0 0] 173)).heap[w.heap.size]? = some (.cells #[.int .i64 d.kind, .string (mkB d.name), .int .i64 d.line, .int .i64 d.col, .slice fa d.fields.length fc, .slice va d.values.length vc, .slice ma d.methods.length mc, .slice ia d.inner.length ic] 69 (0, 0)) := by
  rw [alloc_heap_old _ _ _ (by simp)]; exact alloc_heap_new _ _
 have hV1 : ((w.alloc (.cells #[.int .i64 d.kind, .string (mkB d.name), .int .i64 d.line, .int .i64 d.col, .slice fa d.fields.length fc, .slice va d.values.length vc, .slice ma d.methods.length mc, .slice ia d.inner.length ic] 69)).alloc (.cells #[.string ⟨#[]⟩, .slice none 0 0] 173)).heap[w.heap.size + 1]? = some (.cells #[.string ⟨#[]⟩, .slice none 0 0] 173 (0, 0)) := by
  have := alloc_heap_new (w.alloc (.cells #[.int .i64 d.kind, .string (mkB d.name), .int .i64 d.line, .int .i64 d.col, .slice fa d.fields.length fc, .slice va d.values.length vc, .slice ma d.methods.length mc, .slice ia d.inner.length ic] 69)) (.cells #[.string ⟨#[]⟩, .slice none 0 0] 173)
  simpa using this
 have hVb : Below w.heap.size w ((w.alloc (.cells #[.int .i64 d.kind, .string (mkB d.name), .int .i64 d.line, .int .i64 d.col, .slice fa d.fields.length fc, .slice va d.values.length vc, .slice ma d.methods.length mc, .slice ia d.inner.length ic] 69)).alloc (.cells #[.string ⟨#[]⟩, .slice none 0 0] 173)) := ((Below.refl _ w).alloc (Nat.le_refl _) _).alloc (by simp) _
 go_enter Tryz.func200, Tryz.ntmps200
 go_upto_region 1 with fail
 generalize ((w.alloc (.cells #[.int .i64 d.kind, .string (mkB d.name), .int .i64 d.line, .int .i64 d.col, .slice fa d.fields.length fc, .slice va d.values.length vc, .slice ma d.methods.length mc, .slice ia d.inner.length ic] 69)).alloc (.cells #[.string ⟨#[]⟩, .slice none 0 0] 173)) = V at *
 have c7 := cell_at hV0 7 rfl
 have k0 := cell_at hV1 0 rfl
 have k1 := cell_at hV1 1 rfl
 have f0 := frozen_at hV1 0
 have f1 := frozen_at hV1 1
 have g2 := setCell_heap (setCell_heap (j := 0) hV1 (.string (mkB M))) (j := 1) (.slice ia d.inner.length ic)
 have hb2 : Below w.heap.size w ((V.setCell ⟨w.heap.size + 1, 0, none⟩ (.string (mkB M))).setCell ⟨w.heap.size + 1, 1, none⟩ (.slice ia d.inner.length ic)) := (hVb.setCell (p := ⟨w.heap.size + 1, 0, none⟩) (by show w.heap.size ≤ w.heap.size + 1; omega) _).setCell (p := ⟨w.heap.size + 1, 1, none⟩) (by show w.heap.size ≤ w.heap.size + 1; omega) _
 have HB2 := Lib.hid hb2
 have HG2 := Lib.hid g2
 clear hV0 hV1 hVb hb2 g2
 go_wp2_with fail
 have g2 := HG2.out
 have hb2 := HB2.out
 clear HG2 HB2
 generalize ((V.setCell ⟨w.heap.size + 1, 0, none⟩ (.string (mkB M))).setCell ⟨w.heap.size + 1, 1, none⟩ (.slice ia d.inner.length ic)) = Z at *
 have r0 := cell_at g2 0 rfl
 have r1 := cell_at g2 1 rfl
 exact bodyPost_ret (v := .agg #[.string (mkB M), .slice ia d.inner.length ic]) (by simp [results, Tryz.results200, go_sem, r0, r1]) rfl ⟨rfl, hb2⟩
def MeantAns (f : Nat) (S : Nat → Prop) (res : Option Dc) (e : Ending) (w' : World) : Prop :=
 (∃ (d : Dc) (fa : Option Addr) (fc : Nat) (va : Option Addr) (vc : Nat) (ma : Option Addr) (mc : Nat) (ia : Option Addr) (ic : Nat), res = some d ∧ e = .returned (.tuple #[.agg #[.int .i64 d.kind, .string (mkB d.name), .int .i64 d.line, .int .i64 d.col, .slice fa d.fields.length fc, .slice va d.values.length vc, .slice ma d.methods.length mc, .slice ia d.inner.length ic], .bool true]) ∧ Kids f w' S (.slice fa d.fields.length fc) (.slice va d.values.length vc) (.slice ma d.methods.length mc) (.slice ia d.inner.length ic) d) ∨
 (res = none ∧ e = .returned (.tuple #[.agg #[.int .i64 0, .string ⟨#[]⟩, .int .i64 0, .int .i64 0, .slice none 0 0, .slice none 0 0, .slice none 0 0, .slice none 0 0], .bool false]))
set_option maxHeartbeats 16000000 in
set_option maxRecDepth 20000 in
theorem meant_any (f : Nat) (top : List Dc) (tv : Value) (a : List UInt8) (ds : List Dc) (v : Value) (nm : List UInt8) (S : Nat → Prop) (w : World) (hct : ctL (f + 1) top ≤ 100000) (hfit : FitD (f + 1) top) (htxt : TxtD (f + 1) top) (hdl : ds.length ≤ 100000) (hal : a.length ≤ 2000000000000) (hnl : nm.length ≤ 200000000)
  (hT : HeldD (f + 1) w S tv top) (hH : HeldD (f + 1) w S v ds) (hS : ∀ b, S b → b < w.heap.size) :
  Calls Tryz.prog 174 #[.agg #[.string ⟨#[]⟩, tv], .agg #[.string (mkB a), v], .string (mkB nm)] w fun e w' => MeantAns (f + 1) S (meantP (f + 1) top a ds nm) e w' ∧ Below w.heap.size w w' := by
 obtain ⟨ta, tc, rfl⟩ := hT.isSlD
 obtain ⟨ad, c, rfl⟩ := hH.isSlD
 have hV0 : ((((w.alloc (.cells #[.string ⟨#[]⟩, .slice ta top.length tc] 173)).alloc (.cells #[.string (mkB a), .slice ad ds.length c] 173)).alloc (.cells #[.string (mkB nm)] 9)).alloc (.cells #[.int .i64 0, .string ⟨#[]⟩, .int .i64 0, .int .i64 0, .slice none 0 0, .slice none 0 0, .slice none 0 0, .slice none 0 0] 69)).heap[w.heap.size]? = some (.cells #[.string ⟨#[]⟩, .slice ta top.length tc] 173 (0, 0)) := by
  rw [alloc_heap_old _ _ _ (by simp <;> omega), alloc_heap_old _ _ _ (by simp <;> omega), alloc_heap_old _ _ _ (by simp)]; exact alloc_heap_new _ _
 have hV1 : ((((w.alloc (.cells #[.string ⟨#[]⟩, .slice ta top.length tc] 173)).alloc (.cells #[.string (mkB a), .slice ad ds.length c] 173)).alloc (.cells #[.string (mkB nm)] 9)).alloc (.cells #[.int .i64 0, .string ⟨#[]⟩, .int .i64 0, .int .i64 0, .slice none 0 0, .slice none 0 0, .slice none 0 0, .slice none 0 0] 69)).heap[w.heap.size + 1]? = some (.cells #[.string (mkB a), .slice ad ds.length c] 173 (0, 0)) := by
  rw [alloc_heap_old _ _ _ (by simp <;> omega), alloc_heap_old _ _ _ (by simp)]
  have := alloc_heap_new (w.alloc (.cells #[.string ⟨#[]⟩, .slice ta top.length tc] 173)) (.cells #[.string (mkB a), .slice ad ds.length c] 173)
  simpa using this
 have hV2 : ((((w.alloc (.cells #[.string ⟨#[]⟩, .slice ta top.length tc] 173)).alloc (.cells #[.string (mkB a), .slice ad ds.length c] 173)).alloc (.cells #[.string (mkB nm)] 9)).alloc (.cells #[.int .i64 0, .string ⟨#[]⟩, .int .i64 0, .int .i64 0, .slice none 0 0, .slice none 0 0, .slice none 0 0, .slice none 0 0] 69)).heap[w.heap.size + 2]? = some (.cells #[.string (mkB nm)] 9 (0, 0)) := by
  rw [alloc_heap_old _ _ _ (by simp)]
  have := alloc_heap_new ((w.alloc (.cells #[.string ⟨#[]⟩, .slice ta top.length tc] 173)).alloc (.cells #[.string (mkB a), .slice ad ds.length c] 173)) (.cells #[.string (mkB nm)] 9)
  simpa using this
 have hV3 : ((((w.alloc (.cells #[.string ⟨#[]⟩, .slice ta top.length tc] 173)).alloc (.cells #[.string (mkB a), .slice ad ds.length c] 173)).alloc (.cells #[.string (mkB nm)] 9)).alloc (.cells #[.int .i64 0, .string ⟨#[]⟩, .int .i64 0, .int .i64 0, .slice none 0 0, .slice none 0 0, .slice none 0 0, .slice none 0 0] 69)).heap[w.heap.size + 3]? = some (.cells #[.int .i64 0, .string ⟨#[]⟩, .int .i64 0, .int .i64 0, .slice none 0 0, .slice none 0 0, .slice none 0 0, .slice none 0 0] 69 (0, 0)) := by
  have := alloc_heap_new (((w.alloc (.cells #[.string ⟨#[]⟩, .slice ta top.length tc] 173)).alloc (.cells #[.string (mkB a), .slice ad ds.length c] 173)).alloc (.cells #[.string (mkB nm)] 9)) (.cells #[.int .i64 0, .string ⟨#[]⟩, .int .i64 0, .int .i64 0, .slice none 0 0, .slice none 0 0, .slice none 0 0, .slice none 0 0] 69)
  simpa using this
 have hVb : Below w.heap.size w ((((w.alloc (.cells #[.string ⟨#[]⟩, .slice ta top.length tc] 173)).alloc (.cells #[.string (mkB a), .slice ad ds.length c] 173)).alloc (.cells #[.string (mkB nm)] 9)).alloc (.cells #[.int .i64 0, .string ⟨#[]⟩, .int .i64 0, .int .i64 0, .slice none 0 0, .slice none 0 0, .slice none 0 0, .slice none 0 0] 69)) := ((((Below.refl _ w).alloc (Nat.le_refl _) _).alloc (by simp) _).alloc (by simp <;> omega) _).alloc (by simp <;> omega) _
 have hVs : ((((w.alloc (.cells #[.string ⟨#[]⟩, .slice ta top.length tc] 173)).alloc (.cells #[.string (mkB a), .slice ad ds.length c] 173)).alloc (.cells #[.string (mkB nm)] 9)).alloc (.cells #[.int .i64 0, .string ⟨#[]⟩, .int .i64 0, .int .i64 0, .slice none 0 0, .slice none 0 0, .slice none 0 0, .slice none 0 0] 69)).heap.size = w.heap.size + 4 := by simp
 have hmf : ∀ (fn : Fn) (first cap : Array Value) (W : World), (Instr.makeFunc fn first cap).run Tryz.prog W = .ok (.func fn first cap) W := fun _ _ _ _ => rfl
 obtain ⟨RES, hR⟩ : ∃ r, meantP (f + 1) top a ds nm = r := ⟨_, rfl⟩
 have HR := Lib.hid hR
 rw [hR]
 have HT := Lib.hid hT
 have HH := Lib.hid hH
 have HS := Lib.hid hS
 clear hR hT hH hS
 go_enter Tryz.func174, Tryz.ntmps174
 go_upto_region 1 with fail
 generalize ((((w.alloc (.cells #[.string ⟨#[]⟩, .slice ta top.length tc] 173)).alloc (.cells #[.string (mkB a), .slice ad ds.length c] 173)).alloc (.cells #[.string (mkB nm)] 9)).alloc (.cells #[.int .i64 0, .string ⟨#[]⟩, .int .i64 0, .int .i64 0, .slice none 0 0, .slice none 0 0, .slice none 0 0, .slice none 0 0] 69)) = V at *
 have HV0 := Lib.hid hV0
 have HV1 := Lib.hid hV1
 have HV2 := Lib.hid hV2
 have HV3 := Lib.hid hV3
 have HVb := Lib.hid hVb
 have HVs := Lib.hid hVs
 have c1 := cell_at hV1 1 rfl
 have hC := contains_any f ds (.slice ad ds.length c) nm (w.heap.size + 2) S V (by simp [World.cell?, hV2]) hdl (HeldD.old (fun b hb => hVb.block b (HS.out b hb)) HH.out) (fun b hb => by have := HS.out b hb; omega)
 obtain ⟨b, hb⟩ : ∃ b, ds.any (fun d => decide (d.name = nm)) = b := ⟨_, rfl⟩
 rw [hb] at hC
 have HAN := Lib.hid hb
 clear hV0 hV1 hV2 hV3 hVb hVs hb
 go_wp2_with fail
 refine hC.mono ?_
 rintro e W1 ⟨rfl, hb1⟩
 have hs1 : w.heap.size + 4 ≤ W1.heap.size := by have := hb1.size; rw [HVs.out] at this; exact this
 have HX0 : Hid (W1.heap[w.heap.size]? = some (.cells #[.string ⟨#[]⟩, .slice ta top.length tc] 173 (0, 0))) := (hb1.block _ (by rw [HVs.out]; omega)).trans HV0.out
 have HX1 : Hid (W1.heap[w.heap.size + 1]? = some (.cells #[.string (mkB a), .slice ad ds.length c] 173 (0, 0))) := (hb1.block _ (by rw [HVs.out]; omega)).trans HV1.out
 have HX2 : Hid (W1.heap[w.heap.size + 2]? = some (.cells #[.string (mkB nm)] 9 (0, 0))) := (hb1.block _ (by rw [HVs.out]; omega)).trans HV2.out
 have HX3 : Hid (W1.heap[w.heap.size + 3]? = some (.cells #[.int .i64 0, .string ⟨#[]⟩, .int .i64 0, .int .i64 0, .slice none 0 0, .slice none 0 0, .slice none 0 0, .slice none 0 0] 69 (0, 0))) := (hb1.block _ (by rw [HVs.out]; omega)).trans HV3.out
 have HW1 : Hid (Below w.heap.size w W1) := HVb.out.trans (hb1.mono HVb.out.size)
 clear hC hb1 c1 hmf
 cases b with
 | false =>
  have HRN : Hid (RES = none) := by
   refine (?_ : _ = _)
   rw [← HR.out]; unfold meantP; rw [HAN.out]; rfl
  have k0 := cell_at HX3.out 0 rfl
  have k1 := cell_at HX3.out 1 rfl
  have k2 := cell_at HX3.out 2 rfl
  have k3 := cell_at HX3.out 3 rfl
  have k4 := cell_at HX3.out 4 rfl
  have k5 := cell_at HX3.out 5 rfl
  have k6 := cell_at HX3.out 6 rfl
  have k7 := cell_at HX3.out 7 rfl
  have kf : ∀ j, W1.frozen? ⟨w.heap.size + 3, j, none⟩ = false := fun j => by simp [World.frozen?, HX3.out]
  have f0 := kf 0
  have f1 := kf 1
  have f2 := kf 2
  have f3 := kf 3
  have f4 := kf 4
  have f5 := kf 5
  have f6 := kf 6
  have f7 := kf 7
  obtain ⟨Y, hY, y8, yo, yz, yb⟩ := set8_all HX3.out (.int .i64 0) (.string ⟨#[]⟩) (.int .i64 0) (.int .i64 0) (.slice none 0 0) (.slice none 0 0) (.slice none 0 0) (.slice none 0 0)
  have HY : Hid (Below w.heap.size w Y) := HW1.out.trans (yb.mono (by omega))
  have HYE := Lib.hid hY
  have r0 := cell_at y8 0 rfl
  have r1 := cell_at y8 1 rfl
  have r2 := cell_at y8 2 rfl
  have r3 := cell_at y8 3 rfl
  have r4 := cell_at y8 4 rfl
  have r5 := cell_at y8 5 rfl
  have r6 := cell_at y8 6 rfl
  have r7 := cell_at y8 7 rfl
  clear hY y8 yo yz yb
  go_wp2_with fail
  rw [HYE.out]
  refine bodyPost_ret (v := .tuple #[.agg #[.int .i64 0, .string ⟨#[]⟩, .int .i64 0, .int .i64 0, .slice none 0 0, .slice none 0 0, .slice none 0 0, .slice none 0 0], .bool false]) (by simp [results, Tryz.results174, go_sem, r0, r1, r2, r3, r4, r5, r6, r7]) rfl ?_
  exact ⟨.inr ⟨HRN.out, rfl⟩, HY.out⟩
 | true =>
  have m0 := cell_at HX0.out 0 rfl
  have m1 := cell_at HX0.out 1 rfl
  have m2 := cell_at HX1.out 0 rfl
  have m3 := cell_at HX2.out 0 rfl
  have s1 := sumS (mkB a) (mkB nm) 2000000000000 (by rw [mkB_size]; exact hal) (by rw [mkB_size]; omega)
  rw [← mkB_cat] at s1
  have hF := first_any (f + 1) top (.slice ta top.length tc) [] (a ++ nm) S W1 hct hfit htxt (by simp) (by rw [List.length_append]; omega) (HeldD.old (fun b hb => HW1.out.block b (HS.out b hb)) HT.out) (fun b hb => by have := HS.out b hb; omega)
  rw [mkB_nil] at hF
  have hM : (match firstP (f + 1) [] top (a ++ nm) with | some (d, _) => if d.kind = 1 ∨ d.kind = 2 then some d else none | none => none) = RES := by
   rw [← HR.out]; unfold meantP; rw [HAN.out]; rfl
  obtain ⟨P, hP⟩ : ∃ P, a ++ nm = P := ⟨_, rfl⟩
  rw [hP] at hF s1 hM
  obtain ⟨FR, hFR⟩ : ∃ r, firstP (f + 1) [] top P = r := ⟨_, rfl⟩
  rw [hFR] at hF hM
  have HM := Lib.hid hM
  clear hM hP hFR
  go_wp2_with fail
  refine hF.mono ?_
  rintro e W2 ⟨hans, hb2⟩
  have HB2 := Lib.hid hb2
  have HW2 : Hid (Below w.heap.size w W2) := HW1.out.trans (hb2.mono HW1.out.size)
  have hs2 : w.heap.size + 4 ≤ W2.heap.size := by have := hb2.size; omega
  have HY3 : Hid (W2.heap[w.heap.size + 3]? = some (.cells #[.int .i64 0, .string ⟨#[]⟩, .int .i64 0, .int .i64 0, .slice none 0 0, .slice none 0 0, .slice none 0 0, .slice none 0 0] 69 (0, 0))) := (hb2.block _ (by omega)).trans HX3.out
  clear hF hb2 m0 m1 m2 m3 s1
  rcases hans with ⟨d, rs, fa, fc, va, vc, ma, mc, ia, ic, rv, R, hres, rfl, hk, hown, -, -, -⟩ | ⟨hres, rfl⟩
  ·have HKD := Lib.hid hk
   obtain ⟨ra, rc, hrv⟩ := own_slice hown
   subst hrv
   have HM1 : Hid ((if d.kind = 1 ∨ d.kind = 2 then some d else none) = RES) := by have := HM.out; rw [hres] at this; exact this
   have hC : (W2.alloc (.cells #[.int .i64 d.kind, .string (mkB d.name), .int .i64 d.line, .int .i64 d.col, .slice fa d.fields.length fc, .slice va d.values.length vc, .slice ma d.methods.length mc, .slice ia d.inner.length ic] 69)).heap[W2.heap.size]? = some (.cells #[.int .i64 d.kind, .string (mkB d.name), .int .i64 d.line, .int .i64 d.col, .slice fa d.fields.length fc, .slice va d.values.length vc, .slice ma d.methods.length mc, .slice ia d.inner.length ic] 69 (0, 0)) := alloc_heap_new _ _
   have hCb : Below W2.heap.size W2 (W2.alloc (.cells #[.int .i64 d.kind, .string (mkB d.name), .int .i64 d.line, .int .i64 d.col, .slice fa d.fields.length fc, .slice va d.values.length vc, .slice ma d.methods.length mc, .slice ia d.inner.length ic] 69)) := (Below.refl _ W2).alloc (Nat.le_refl _) _
   clear hres hk hown
   go_upto_region 5 with fail
   generalize (W2.alloc (.cells #[.int .i64 d.kind, .string (mkB d.name), .int .i64 d.line, .int .i64 d.col, .slice fa d.fields.length fc, .slice va d.values.length vc, .slice ma d.methods.length mc, .slice ia d.inner.length ic] 69)) = Y at *
   have HY := Lib.hid (HW2.out.trans (hCb.mono HW2.out.size))
   have HZ3 : Hid (Y.heap[w.heap.size + 3]? = some (.cells #[.int .i64 0, .string ⟨#[]⟩, .int .i64 0, .int .i64 0, .slice none 0 0, .slice none 0 0, .slice none 0 0, .slice none 0 0] 69 (0, 0))) := (hCb.block _ (by omega)).trans HY3.out
   have HKY : Hid (Kids (f + 1) Y S (.slice fa d.fields.length fc) (.slice va d.values.length vc) (.slice ma d.methods.length mc) (.slice ia d.inner.length ic) d) := HKD.out.old fun b hb => hCb.block b (by have := HS.out b hb; omega)
   have l0 := cell_at hC 0 rfl
   have l1 := cell_at hC 1 rfl
   have l2 := cell_at hC 2 rfl
   have l3 := cell_at hC 3 rfl
   have l4 := cell_at hC 4 rfl
   have l5 := cell_at hC 5 rfl
   have l6 := cell_at hC 6 rfl
   have l7 := cell_at hC 7 rfl
   clear hC hCb
   by_cases hk12 : d.kind = 1 ∨ d.kind = 2
   ·have HRS : Hid (RES = some d) := by have := HM1.out; rw [if_pos hk12] at this; exact this.symm
    have k0 := cell_at HZ3.out 0 rfl
    have k1 := cell_at HZ3.out 1 rfl
    have k2 := cell_at HZ3.out 2 rfl
    have k3 := cell_at HZ3.out 3 rfl
    have k4 := cell_at HZ3.out 4 rfl
    have k5 := cell_at HZ3.out 5 rfl
    have k6 := cell_at HZ3.out 6 rfl
    have k7 := cell_at HZ3.out 7 rfl
    have kf : ∀ j, Y.frozen? ⟨w.heap.size + 3, j, none⟩ = false := fun j => by simp [World.frozen?, HZ3.out]
    have f0 := kf 0
    have f1 := kf 1
    have f2 := kf 2
    have f3 := kf 3
    have f4 := kf 4
    have f5 := kf 5
    have f6 := kf 6
    have f7 := kf 7
    obtain ⟨Z, hZ, z8, yo, yz, yb⟩ := set8_all HZ3.out (.int .i64 d.kind) (.string (mkB d.name)) (.int .i64 d.line) (.int .i64 d.col) (.slice fa d.fields.length fc) (.slice va d.values.length vc) (.slice ma d.methods.length mc) (.slice ia d.inner.length ic)
    have HB : Hid (Below w.heap.size w Z) := HY.out.trans (yb.mono (by omega))
    have HKZ : Hid (Kids (f + 1) Z S (.slice fa d.fields.length fc) (.slice va d.values.length vc) (.slice ma d.methods.length mc) (.slice ia d.inner.length ic) d) := HKY.out.old fun b hb => yo b (by have := HS.out b hb; omega)
    have HZE := Lib.hid hZ
    have r0 := cell_at z8 0 rfl
    have r1 := cell_at z8 1 rfl
    have r2 := cell_at z8 2 rfl
    have r3 := cell_at z8 3 rfl
    have r4 := cell_at z8 4 rfl
    have r5 := cell_at z8 5 rfl
    have r6 := cell_at z8 6 rfl
    have r7 := cell_at z8 7 rfl
    clear hZ z8 yo yz yb
    rcases hk12 with h1 | h2
    ·rw [h1] at l0
     go_wp2_with fail
     rw [← h1, HZE.out]
     refine bodyPost_ret (v := .tuple #[.agg #[.int .i64 d.kind, .string (mkB d.name), .int .i64 d.line, .int .i64 d.col, .slice fa d.fields.length fc, .slice va d.values.length vc, .slice ma d.methods.length mc, .slice ia d.inner.length ic], .bool true]) (by simp [results, Tryz.results174, go_sem, r0, r1, r2, r3, r4, r5, r6, r7]) rfl ?_
     exact ⟨.inl ⟨d, fa, fc, va, vc, ma, mc, ia, ic, HRS.out, rfl, HKZ.out⟩, HB.out⟩
    ·rw [h2] at l0
     go_wp2_with fail
     rw [← h2, HZE.out]
     refine bodyPost_ret (v := .tuple #[.agg #[.int .i64 d.kind, .string (mkB d.name), .int .i64 d.line, .int .i64 d.col, .slice fa d.fields.length fc, .slice va d.values.length vc, .slice ma d.methods.length mc, .slice ia d.inner.length ic], .bool true]) (by simp [results, Tryz.results174, go_sem, r0, r1, r2, r3, r4, r5, r6, r7]) rfl ?_
     exact ⟨.inl ⟨d, fa, fc, va, vc, ma, mc, ia, ic, HRS.out, rfl, HKZ.out⟩, HB.out⟩
   ·have HRN : Hid (RES = none) := by have := HM1.out; rw [if_neg hk12] at this; exact this.symm
    have h1 : ¬ d.kind = 1 := fun e => hk12 (.inl e)
    have h2 : ¬ d.kind = 2 := fun e => hk12 (.inr e)
    have h1' : (d.kind != 1) = true := bne_iff_ne.2 h1
    have h2' : (d.kind != 2) = true := bne_iff_ne.2 h2
    have k0 := cell_at HZ3.out 0 rfl
    have k1 := cell_at HZ3.out 1 rfl
    have k2 := cell_at HZ3.out 2 rfl
    have k3 := cell_at HZ3.out 3 rfl
    have k4 := cell_at HZ3.out 4 rfl
    have k5 := cell_at HZ3.out 5 rfl
    have k6 := cell_at HZ3.out 6 rfl
    have k7 := cell_at HZ3.out 7 rfl
    have kf : ∀ j, Y.frozen? ⟨w.heap.size + 3, j, none⟩ = false := fun j => by simp [World.frozen?, HZ3.out]
    have f0 := kf 0
    have f1 := kf 1
    have f2 := kf 2
    have f3 := kf 3
    have f4 := kf 4
    have f5 := kf 5
    have f6 := kf 6
    have f7 := kf 7
    obtain ⟨Y, hY, y8, yo, yz, yb⟩ := set8_all HZ3.out (.int .i64 0) (.string ⟨#[]⟩) (.int .i64 0) (.int .i64 0) (.slice none 0 0) (.slice none 0 0) (.slice none 0 0) (.slice none 0 0)
    have HY : Hid (Below w.heap.size w Y) := HY.out.trans (yb.mono (by omega))
    have HYE := Lib.hid hY
    have r0 := cell_at y8 0 rfl
    have r1 := cell_at y8 1 rfl
    have r2 := cell_at y8 2 rfl
    have r3 := cell_at y8 3 rfl
    have r4 := cell_at y8 4 rfl
    have r5 := cell_at y8 5 rfl
    have r6 := cell_at y8 6 rfl
    have r7 := cell_at y8 7 rfl
    clear hY y8 yo yz yb
    go_wp2_with fail
    rw [HYE.out]
    refine bodyPost_ret (v := .tuple #[.agg #[.int .i64 0, .string ⟨#[]⟩, .int .i64 0, .int .i64 0, .slice none 0 0, .slice none 0 0, .slice none 0 0, .slice none 0 0], .bool false]) (by simp [results, Tryz.results174, go_sem, r0, r1, r2, r3, r4, r5, r6, r7]) rfl ?_
    exact ⟨.inr ⟨HRN.out, rfl⟩, HY.out⟩
  ·have HRN : Hid (RES = none) := by have := HM.out; rw [hres] at this; exact this.symm
   have hZ3 : (W2.alloc (.cells #[.int .i64 0, .string ⟨#[]⟩, .int .i64 0, .int .i64 0, .slice none 0 0, .slice none 0 0, .slice none 0 0, .slice none 0 0] 69)).heap[w.heap.size + 3]? = some (.cells #[.int .i64 0, .string ⟨#[]⟩, .int .i64 0, .int .i64 0, .slice none 0 0, .slice none 0 0, .slice none 0 0, .slice none 0 0] 69 (0, 0)) := by rw [alloc_heap_old _ _ _ (by omega)]; exact HY3.out
   have hYb : Below w.heap.size w (W2.alloc (.cells #[.int .i64 0, .string ⟨#[]⟩, .int .i64 0, .int .i64 0, .slice none 0 0, .slice none 0 0, .slice none 0 0, .slice none 0 0] 69)) := HW2.out.alloc HW2.out.size _
   clear hres
   go_upto_region 5 with fail
   generalize (W2.alloc (.cells #[.int .i64 0, .string ⟨#[]⟩, .int .i64 0, .int .i64 0, .slice none 0 0, .slice none 0 0, .slice none 0 0, .slice none 0 0] 69)) = Y at *
   have HZ3 := Lib.hid hZ3
   have HYb := Lib.hid hYb
   clear hZ3 hYb
   have k0 := cell_at HZ3.out 0 rfl
   have k1 := cell_at HZ3.out 1 rfl
   have k2 := cell_at HZ3.out 2 rfl
   have k3 := cell_at HZ3.out 3 rfl
   have k4 := cell_at HZ3.out 4 rfl
   have k5 := cell_at HZ3.out 5 rfl
   have k6 := cell_at HZ3.out 6 rfl
   have k7 := cell_at HZ3.out 7 rfl
   have kf : ∀ j, Y.frozen? ⟨w.heap.size + 3, j, none⟩ = false := fun j => by simp [World.frozen?, HZ3.out]
   have f0 := kf 0
   have f1 := kf 1
   have f2 := kf 2
   have f3 := kf 3
   have f4 := kf 4
   have f5 := kf 5
   have f6 := kf 6
   have f7 := kf 7
   obtain ⟨Y, hY, y8, yo, yz, yb⟩ := set8_all HZ3.out (.int .i64 0) (.string ⟨#[]⟩) (.int .i64 0) (.int .i64 0) (.slice none 0 0) (.slice none 0 0) (.slice none 0 0) (.slice none 0 0)
   have HY : Hid (Below w.heap.size w Y) := HYb.out.trans (yb.mono (by omega))
   have HYE := Lib.hid hY
   have r0 := cell_at y8 0 rfl
   have r1 := cell_at y8 1 rfl
   have r2 := cell_at y8 2 rfl
   have r3 := cell_at y8 3 rfl
   have r4 := cell_at y8 4 rfl
   have r5 := cell_at y8 5 rfl
   have r6 := cell_at y8 6 rfl
   have r7 := cell_at y8 7 rfl
   clear hY y8 yo yz yb
   go_wp2_with fail
   rw [HYE.out]
   refine bodyPost_ret (v := .tuple #[.agg #[.int .i64 0, .string ⟨#[]⟩, .int .i64 0, .int .i64 0, .slice none 0 0, .slice none 0 0, .slice none 0 0, .slice none 0 0], .bool false]) (by simp [results, Tryz.results174, go_sem, r0, r1, r2, r3, r4, r5, r6, r7]) rfl ?_
   exact ⟨.inr ⟨HRN.out, rfl⟩, HY.out⟩
end Go.Proofs.YtpojeinddnjpfaaGreatDoor
namespace Go.Proofs.YtpojeinddnjpfaaGreatDoor
set_option linter.unusedVariables false
open Go.ChangeShapes Go.WideShapes Go.ChangeAt Go.RowKit

theorem rm_join {base b2 : Nat} {wx : World} {v u : Value} {xs ys : List RmV} (h : wx.ownsRow base 173 2 v xs.length (xs.flatMap rrow)) (hb0 : base ≤ wx.heap.size) (k : wx.ownsRow b2 173 2 u ys.length (ys.flatMap rrow)) (hone : ∀ y ∈ ys, y.2.1.oneCell' = true)
  {ops : Array Oper} {rest : List Oper} {o : Oper} {a : Act} {Q : Exit → Act → World → Prop} (hgd : o.guard = none) (s' x' : Operand)
  (ho : o.op = .call { callee := .builtin .append, args := #[s', x'], argTypes := #[237, 237] }) (hs : a.eval s' = v) (hx : a.eval x' = u) (hbd : xs.length + ys.length ≤ 1000000)
  (hk : ∀ v' W, W.ownsRow base 173 2 v' (xs ++ ys).length ((xs ++ ys).flatMap rrow) → wx.grownBy W v.ownBlock → wpList Tryz.prog ops Q rest (a.put o.dst v') W) :
  wpList Tryz.prog ops Q (o :: rest) a wx := by
 obtain ⟨i0, hi0, hz0, hz1, hz2⟩ := info_parts infoRm
 obtain ⟨kl, ⟨ku, k0⟩ | ⟨g, cap, cur, ku, hg, hh, h3, h4, h5, h6⟩⟩ := k
 ·refine wpList_append_own_none hgd s' x' 237 ho base 173 i0 2 Tryz.underlying237 hi0 v xs.length _ hs h (hx.trans ku) ?_
  have : ys = [] := List.eq_nil_of_length_eq_zero k0
  subst this
  refine hk v wx (by rw [List.append_nil]; exact h) (World.grownBy.refl _ _)
 ·refine wpList_append_own_at _ hgd s' x' 237 ho base 173 i0 _ 2 40 Tryz.underlying237 hi0 hz0 hz1 hz2 rfl (by decide) v xs.length _ hs h ⟨g, 0, none⟩ ys.length cap (ys.flatMap rrow) (hx.trans ku) kl ?_ ?_ (by unfold maxLen; omega) (by omega) hb0 ?_
  ·intro j y hy
   rw [← h6] at hy
   have hadd : (⟨g, 0, none⟩ : Addr).add j = ⟨g, j, none⟩ := by unfold Addr.add; split <;> simp_all
   rw [hadd]
   rw [List.getElem?_take] at hy
   split at hy
   ·simp only [World.cell?, hh]
    simpa using hy
   ·cases hy
  ·intro y hy
   obtain ⟨p, hp, hy⟩ := List.mem_flatMap.1 hy
   simp only [rrow, List.mem_cons, List.not_mem_nil, or_false] at hy
   rcases hy with rfl | rfl
   ·rfl
   ·exact hone p hp
  ·intro v' W hown hgr _ hat
   refine hk v' W ?_ hgr
   rw [List.length_append, List.flatMap_append]
   exact hown
theorem inner_len {f : Nat} {w : World} {S : Nat → Prop} {v : Value} {ds : List Dc} (h : HeldD (f + 1) w S v ds) (hf : FitD (f + 1) ds) {d : Dc} (hd : d ∈ ds) : d.inner.length ≤ 100000 := by
 obtain ⟨j, hj⟩ := List.getElem?_of_mem hd
 obtain ⟨_, _, _, _, _, _, _, _, _, _, _, _, _, _, _, _, _, _, _, _, _, kd⟩ := decl_at h (W := w) (fun _ _ => rfl) hj
 cases f with
 | zero => have := kd.2.2.2.1; rw [this]; simp
 | succ f => exact (hf.2 d hd).2.2.2.1
theorem first_small : ∀ (f : Nat) (ds : List Dc) (a wh : List UInt8) (w : World) (S : Nat → Prop) (v : Value), HeldD f w S v ds → FitD f ds → a.length ≤ wh.length → ∀ (d : Dc) (rs : List Rm), firstP f a ds wh = some (d, rs) →
  d.inner.length ≤ 100000 ∧ ∀ p ∈ rs, p.1.length ≤ wh.length ∧ p.2.length ≤ 100000 := by
 intro f
 induction f with
 | zero => intro ds a wh w S v _ _ _ d rs h; cases h
 | succ f ih =>
  intro ds a wh w S v hH hF hal d rs h
  rw [firstP_succ] at h
  have key : ∀ t : List Dc, (∀ x ∈ t, x ∈ ds) → ∀ (d : Dc) (rs : List Rm), goP (fun a' ds' => firstP f a' ds' wh) a ds wh t = some (d, rs) → d.inner.length ≤ 100000 ∧ ∀ p ∈ rs, p.1.length ≤ wh.length ∧ p.2.length ≤ 100000 := by
   intro t
   induction t with
   | nil => intro _ d rs h; cases h
   | cons x t iht =>
    intro ht d rs h
    have hx := ht x List.mem_cons_self
    have ht' : ∀ y ∈ t, y ∈ ds := fun y hy => ht y (List.mem_cons_of_mem _ hy)
    rw [goP_cons] at h
    split at h
    ·cases h
     exact ⟨inner_len hH hF hx, fun p hp => by rw [List.mem_singleton.1 hp]; exact ⟨hal, hF.1⟩⟩
    ·split at h
     ·obtain ⟨j, hj⟩ := List.getElem?_of_mem hx
      obtain ⟨_, _, _, _, _, _, _, _, _, _, _, _, _, _, _, _, _, _, _, _, _, kd⟩ := decl_at hH (W := w) (fun _ _ => rfl) hj
      cases hf : firstP f (wh.take (a.length + x.name.length + 1)) x.inner wh with
      | none => rw [hf] at h; exact iht ht' d rs h
      | some z =>
       obtain ⟨z1, z2⟩ := z
       have hlt : (wh.take (a.length + x.name.length + 1)).length ≤ wh.length := by rw [List.length_take]; omega
       obtain ⟨q1, q2⟩ := ih x.inner _ wh w S _ kd.2.2.2 (hF.2 x hx).2.2.2 hlt z1 z2 hf
       rw [hf] at h
       cases h
       refine ⟨q1, fun p hp => ?_⟩
       rcases List.mem_append.1 hp with hp | hp
       ·exact q2 p hp
       ·rw [List.mem_singleton.1 hp]; exact ⟨hal, hF.1⟩
     ·exact iht ht' d rs h
  exact key ds (fun _ h => h) d rs h
def AroundAns (f : Nat) (w : World) (S : Nat → Prop) (res : Option (List Rm)) (e : Ending) (w' : World) : Prop :=
 (∃ (rs : List Rm) (rv : Value) (R : List RmV), res = some rs ∧ e = .returned (.tuple #[rv, .bool true]) ∧ w'.ownsRow w.heap.size 173 2 rv R.length (R.flatMap rrow) ∧ R.map (fun p : RmV => ((p.1, p.2.2) : Rm)) = rs ∧ (∀ p ∈ R, HeldD f w' S p.2.1 p.2.2) ∧ R.length ≤ 200000) ∨
 (res = none ∧ e = .returned (.tuple #[.slice none 0 0, .bool false]))
set_option maxHeartbeats 16000000 in
set_option maxRecDepth 20000 in
theorem around_any (f : Nat) (top : List Dc) (tv : Value) (sc : List UInt8) (S : Nat → Prop) (w : World) (hct : ctL (f + 1) top ≤ 100000) (hfit : FitD (f + 1) top) (htxt : TxtD (f + 1) top) (hsl : sc.length ≤ 1000000000000)
  (hT : HeldD (f + 1) w S tv top) (hS : ∀ b, S b → b < w.heap.size) :
  Calls Tryz.prog 173 #[.agg #[.string ⟨#[]⟩, tv], .string (mkB sc)] w fun e w' => AroundAns (f + 1) w S (aroundP (f + 1) top sc) e w' ∧ Below w.heap.size w w' := by
 obtain ⟨ta, tc, rfl⟩ := hT.isSlD
 have hV0 : (w.alloc (.cells #[.string ⟨#[]⟩, .slice ta top.length tc] 173)).heap[w.heap.size]? = some (.cells #[.string ⟨#[]⟩, .slice ta top.length tc] 173 (0, 0)) := alloc_heap_new _ _
 have hVb : Below w.heap.size w (w.alloc (.cells #[.string ⟨#[]⟩, .slice ta top.length tc] 173)) := (Below.refl _ w).alloc (Nat.le_refl _) _
 have hVs : (w.alloc (.cells #[.string ⟨#[]⟩, .slice ta top.length tc] 173)).heap.size = w.heap.size + 1 := by simp
 have hVs1 : w.heap.size + 1 ≤ (w.alloc (.cells #[.string ⟨#[]⟩, .slice ta top.length tc] 173)).heap.size := by rw [hVs]; omega
 clear hVs
 obtain ⟨RES, hR⟩ : ∃ r, aroundP (f + 1) top sc = r := ⟨_, rfl⟩
 have HR := Lib.hid hR
 rw [hR]
 have HT := Lib.hid hT
 have HS := Lib.hid hS
 clear hR hT hS
 go_enter Tryz.func173, Tryz.ntmps173
 go_upto_region 1 with fail
 generalize (w.alloc (.cells #[.string ⟨#[]⟩, .slice ta top.length tc] 173)) = V at *
 have HV0 := Lib.hid hV0
 have HVb := Lib.hid hVb
 have m0 := cell_at hV0 0 rfl
 have m1 := cell_at hV0 1 rfl
 clear hV0 hVb
 by_cases h0 : sc = []
 ·subst h0
  have HRS : Hid (RES = some [([], top)]) := HR.out.symm
  have HO : Hid ((V.alloc (.cells #[.string ⟨#[]⟩, .slice ta top.length tc] 173)).ownsRow w.heap.size 173 2 (.slice (some ⟨V.heap.size, 0, none⟩) 1 1) [(([], .slice ta top.length tc, top) : RmV)].length ([(([], .slice ta top.length tc, top) : RmV)].flatMap rrow)) := ⟨rfl, .inr ⟨V.heap.size, 1, #[.string ⟨#[]⟩, .slice ta top.length tc], rfl, by omega, alloc_heap_new _ _, Nat.le_refl _, by unfold maxLen; omega, rfl, rfl⟩⟩
  have HB : Hid (Below w.heap.size w (V.alloc (.cells #[.string ⟨#[]⟩, .slice ta top.length tc] 173))) := HVb.out.alloc HVb.out.size _
  have HHE : Hid (HeldD (f + 1) (V.alloc (.cells #[.string ⟨#[]⟩, .slice ta top.length tc] 173)) S (.slice ta top.length tc) top) := HeldD.old (fun b hb => HB.out.block b (HS.out b hb)) HT.out
  rw [mkB_nil]
  go_wp2_with fail
  go_ret2
  exact ⟨.inl ⟨_, _, [([], .slice ta top.length tc, top)], HRS.out, rfl, HO.out, rfl, fun p hp => by rw [List.mem_singleton.1 hp]; exact HHE.out, by simp⟩, HB.out⟩
 ·have t' : ((mkB sc).toList == (mkB []).toList) = false := mkB_beqS h0
  rw [mkB_nil] at t'
  have t'' := beq_eq_false_iff_ne.2 h0
  have t3 : (mkB sc).toList.isEmpty = false := by rw [mkB_list]; simpa [List.isEmpty_iff] using h0
  have hF := first_any (f + 1) top (.slice ta top.length tc) [] sc S V hct hfit htxt (by simp) (by omega) (HeldD.old (fun b hb => HVb.out.block b (HS.out b hb)) HT.out) (fun b hb => by have := HS.out b hb; omega)
  rw [mkB_nil] at hF
  have hsm := first_small (f + 1) top [] sc w S _ HT.out hfit (by simp)
  have hM : (match firstP (f + 1) [] top sc with | some (d, o) => if d.kind = 1 then some ((sc ++ [46], d.inner) :: o) else none | none => none) = RES := by
   rw [← HR.out]; unfold aroundP; rw [if_neg h0]; rfl
  obtain ⟨FR, hFR⟩ : ∃ r, firstP (f + 1) [] top sc = r := ⟨_, rfl⟩
  rw [hFR] at hF hM hsm
  have HM := Lib.hid hM
  have HSM := Lib.hid hsm
  clear hM hFR hsm h0
  go_wp2_with fail
  refine hF.mono ?_
  rintro e W2 ⟨hans, hb2⟩
  have HW2 : Hid (Below w.heap.size w W2) := HVb.out.trans (hb2.mono HVb.out.size)
  have hs2 : w.heap.size + 1 ≤ W2.heap.size := by have := hb2.size; omega
  clear hF hb2 m0 m1 t' t'' t3
  rcases hans with ⟨d, rs, fa, fc, va, vc, ma, mc, ia, ic, rv, R, hres, rfl, hk, hown, hmap, hheld, hRl⟩ | ⟨hres, rfl⟩
  ·have HKD := Lib.hid hk
   obtain ⟨ra, rc, hrv⟩ := own_slice hown
   subst hrv
   have HM1 : Hid ((if d.kind = 1 then some ((sc ++ [46], d.inner) :: rs) else none) = RES) := by have := HM.out; rw [hres] at this; exact this
   have HOW := Lib.hid hown
   have HMP := Lib.hid hmap
   have HHE := Lib.hid hheld
   have hC : (W2.alloc (.cells #[.int .i64 d.kind, .string (mkB d.name), .int .i64 d.line, .int .i64 d.col, .slice fa d.fields.length fc, .slice va d.values.length vc, .slice ma d.methods.length mc, .slice ia d.inner.length ic] 69)).heap[W2.heap.size]? = some (.cells #[.int .i64 d.kind, .string (mkB d.name), .int .i64 d.line, .int .i64 d.col, .slice fa d.fields.length fc, .slice va d.values.length vc, .slice ma d.methods.length mc, .slice ia d.inner.length ic] 69 (0, 0)) := alloc_heap_new _ _
   have hCb : Below W2.heap.size W2 (W2.alloc (.cells #[.int .i64 d.kind, .string (mkB d.name), .int .i64 d.line, .int .i64 d.col, .slice fa d.fields.length fc, .slice va d.values.length vc, .slice ma d.methods.length mc, .slice ia d.inner.length ic] 69)) := (Below.refl _ W2).alloc (Nat.le_refl _) _
   have HOY := Lib.hid (HOW.out.alloc (.cells #[.int .i64 d.kind, .string (mkB d.name), .int .i64 d.line, .int .i64 d.col, .slice fa d.fields.length fc, .slice va d.values.length vc, .slice ma d.methods.length mc, .slice ia d.inner.length ic] 69))
   clear hres hk hown hmap hheld
   go_upto_region 4 with fail
   generalize (W2.alloc (.cells #[.int .i64 d.kind, .string (mkB d.name), .int .i64 d.line, .int .i64 d.col, .slice fa d.fields.length fc, .slice va d.values.length vc, .slice ma d.methods.length mc, .slice ia d.inner.length ic] 69)) = Y at *
   have HY := Lib.hid (HW2.out.trans (hCb.mono HW2.out.size))
   have HCB := Lib.hid hCb
   have hsY := hCb.size
   have l0 := cell_at hC 0 rfl
   have l1 := cell_at hC 1 rfl
   have l2 := cell_at hC 2 rfl
   have l3 := cell_at hC 3 rfl
   have l4 := cell_at hC 4 rfl
   have l5 := cell_at hC 5 rfl
   have l6 := cell_at hC 6 rfl
   have l7 := cell_at hC 7 rfl
   clear hC hCb
   by_cases h1 : d.kind = 1
   ·have HRS : Hid (RES = some ((sc ++ [46], d.inner) :: rs)) := by have := HM1.out; rw [if_pos h1] at this; exact this.symm
    have hIn := inside_any d fa fc va vc ma mc ia ic sc Y (by omega)
    rw [h1] at l0 hIn
    have hMl : (sc ++ [46]).length = sc.length + 1 := by simp
    obtain ⟨M, hM⟩ : ∃ M, sc ++ [46] = M := ⟨_, rfl⟩
    rw [hM] at hIn HRS
    clear hM hMl
    go_wp2_with fail
    refine hIn.mono ?_
    rintro e W5 ⟨rfl, hb5⟩
    have HW5 : Hid (Below w.heap.size w W5) := HY.out.trans (hb5.mono HY.out.size)
    have hs5 := hb5.size
    have HO5 : Hid ((W5.alloc (.cells #[.string (mkB M), .slice ia d.inner.length ic] 173)).ownsRow W5.heap.size 173 2 (.slice (some ⟨W5.heap.size, 0, none⟩) 1 1) [((M, .slice ia d.inner.length ic, d.inner) : RmV)].length ([((M, .slice ia d.inner.length ic, d.inner) : RmV)].flatMap rrow)) := ⟨rfl, .inr ⟨W5.heap.size, 1, #[.string (mkB M), .slice ia d.inner.length ic], rfl, Nat.le_refl _, alloc_heap_new _ _, Nat.le_refl _, by unfold maxLen; omega, rfl, rfl⟩⟩
    have HR5 : Hid ((W5.alloc (.cells #[.string (mkB M), .slice ia d.inner.length ic] 173)).ownsRow V.heap.size 173 2 (.slice ra R.length rc) R.length (R.flatMap rrow)) := World.ownsRow.alloc (own_keep HOY.out fun b hb => hb5.block b (own_block HOY.out b hb).2) _
    have HB5 : Hid (Below w.heap.size w (W5.alloc (.cells #[.string (mkB M), .slice ia d.inner.length ic] 173))) := HW5.out.alloc HW5.out.size _
    have HOLD : Hid (∀ b, S b → (W5.alloc (.cells #[.string (mkB M), .slice ia d.inner.length ic] 173)).heap[b]? = W2.heap[b]?) := fun b hb => (HB5.out.block b (HS.out b hb)).trans (HW2.out.block b (HS.out b hb)).symm
    have hone : ∀ y ∈ R, y.2.1.oneCell' = true := fun y hy => by
     obtain ⟨_, _, e⟩ := (HHE.out y hy).isSlD
     rw [e]; rfl
    clear hIn hb5 l0 l1 l2 l3 l4 l5 l6 l7
    go_wp2_with (at_builtin; refine rm_join HO5.out (by simp) HR5.out hone rfl _ _ rfl rfl rfl (by show 1 + R.length ≤ _; omega) ?_)
    intro v6 W6 hown6 hgr6
    have HO6 : Hid (W6.ownsRow W5.heap.size 173 2 v6 (((M, .slice ia d.inner.length ic, d.inner) : RmV) :: R).length ((((M, .slice ia d.inner.length ic, d.inner) : RmV) :: R).flatMap rrow)) := by
     refine (?_ : World.ownsRow _ _ _ _ _ _ _)
     first | exact hown6 | simpa using hown6
    have HB6 : Hid (Below w.heap.size w W6) := HB5.out.grown hgr6 HB5.out.size (fun b hb => by have := (own_block HO5.out b hb).1; have := HW5.out.size; omega)
    have HOLD6 : Hid (∀ b, S b → W6.heap[b]? = W2.heap[b]?) := fun b hb => (HB6.out.block b (HS.out b hb)).trans (HW2.out.block b (HS.out b hb)).symm
    have HO7 := Lib.hid (own_base HO6.out HW5.out.size)
    have HHD : Hid (HeldD (f + 1) W6 S (.slice ia d.inner.length ic) d.inner) := HeldD.old HOLD6.out HKD.out.2.2.2
    have HHR : Hid (∀ p ∈ (((M, .slice ia d.inner.length ic, d.inner) : RmV) :: R), HeldD (f + 1) W6 S p.2.1 p.2.2) := fun p hp => by
     rcases List.mem_cons.1 hp with rfl | hp
     ·exact HHD.out
     ·exact HeldD.old HOLD6.out (HHE.out p hp)
    obtain ⟨qa, qc, hqv⟩ := own_slice HO6.out
    subst hqv
    clear hown6 hgr6
    go_wp2_with fail
    go_ret2
    exact ⟨.inl ⟨_, _, ((M, .slice ia d.inner.length ic, d.inner) : RmV) :: R, HRS.out, rfl, HO7.out, by rw [List.map_cons, HMP.out], HHR.out, by rw [List.length_cons]; omega⟩, HB6.out⟩
   ·have HRN : Hid (RES = none) := by have := HM1.out; rw [if_neg h1] at this; exact this.symm
    have h1' : (d.kind != 1) = true := bne_iff_ne.2 h1
    go_wp2_with fail
    go_ret2
    exact ⟨.inr ⟨HRN.out, rfl⟩, HY.out⟩
  ·have HRN : Hid (RES = none) := by have := HM.out; rw [hres] at this; exact this.symm
   have HYb : Hid (Below w.heap.size w (W2.alloc (.cells #[.int .i64 0, .string ⟨#[]⟩, .int .i64 0, .int .i64 0, .slice none 0 0, .slice none 0 0, .slice none 0 0, .slice none 0 0] 69))) := HW2.out.alloc HW2.out.size _
   clear hres
   go_wp2_with fail
   go_ret2
   exact ⟨.inr ⟨HRN.out, rfl⟩, HYb.out⟩
end Go.Proofs.YtpojeinddnjpfaaGreatDoor
