/-
  The walks over the program's ofBytes and ofField: the values of one field.
  The walk over the program's fieldValues: the values of all these fields, in order.
-/
import Derived.Test.YtnopnjklcdcckaaGreatDoorM30
import Derived.Test.YtnopnjklcdcckaaGreatDoorM19
namespace Go.Proofs.YtnopnjklcdcckaaGreatDoor
set_option linter.unusedVariables false
open Go.ChangeShapes Go.WideShapes Go.ChangeAt Go.RowKit

theorem run_strT (T : TypeId) (hT : Tryz.prog.underlying T = some .string) (w : World) (a : Option Addr) (len cap : Nat) (zs : List Int) (hB : IsB w a len zs) :
    (convert 27 T (.slice a len cap)).run Tryz.prog w = .ok (.string (mkB (u8s zs))) w := by
  have e : mkB (u8s zs) = strOfNums zs := rfl
  rw [e]
  obtain ⟨h1, h2, h3⟩ := hB
  by_cases h0 : len = 0
  · subst h0
    have hz : zs = [] := List.eq_nil_of_length_eq_zero h1
    subst hz
    cases a with
    | none => exact run_convert_bytes_nil w 27 5 Tryz.underlying27 Tryz.underlying5 0 cap T hT
    | some x =>
      rw [run_convert_bytes_string w 27 T 5 (some x) 0 cap Tryz.underlying27 Tryz.underlying5 hT,
        run_bytesToString w x 0 cap [] (by simpa using run_loadCells_list (P := Tryz.prog) w x [] (by simp))]
      rfl
  · rcases h3 with rfl | ⟨b, off, rfl, hh⟩
    · simp at h1; omega
    · refine run_convert_bytes_arg w 27 5 Tryz.underlying27 Tryz.underlying5 b off len cap zs h1 ?_ T hT
      intro i hi
      have : zs[i]? = some (zs.getD i 0) := by
        rw [List.getD_eq_getElem?_getD, List.getElem?_eq_getElem (by omega)]; rfl
      exact hh.1 i _ this
/-- what a call that reads a message answers -/
def MAns (f : Nat) (r : Except Int Nd) (w : World) (e : Ending) (w' : World) : Prop := match r with
  | .error x => x ≠ 0 ∧ e = .returned (.tuple #[.nilIface, .int .i64 x]) ∧ Below w.heap.size w w'
  | .ok y => ∃ v, e = .returned (.tuple #[v, .int .i64 0]) ∧ HeldV w' (fun b => w.heap.size ≤ b ∧ b < w'.heap.size) f v y ∧ Below w.heap.size w w'
/-- the value of one field of bytes -/
def decB (rec : Int → List Int → Except Int Nd) (fd : FD) (d : List Int) : Except Int Nd :=
  if fd.kind = 10 then rec fd.type d else if fd.kind = 5 then (if valB (u8s d) then .ok (strD 4 d) else .error 13) else .ok (strD 5 d)
def oneE : Except Int Nd → Except Int (List Nd)
  | .error e => .error e
  | .ok y => .ok [y]
theorem decV_bytes {rec : Int → List Int → Except Int Nd} {fd : FD} {x : WF} (h : isNum fd.kind = false) : decV rec fd x = oneE (decB rec fd x.d) := by
  unfold decV decB
  rw [if_neg (by rw [h]; simp)]
  by_cases h10 : fd.kind = 10
  · rw [if_pos h10, if_pos h10]; cases rec fd.type x.d <;> rfl
  · rw [if_neg h10, if_neg h10]
    by_cases h5 : fd.kind = 5
    · rw [if_pos h5, if_pos h5]
      cases valB (u8s x.d) <;> rfl
    · rw [if_neg h5, if_neg h5]; rfl
/-- the contracts that a field's values lean on -/
def ValC (w : World) : Prop := ∀ (W : World) (a : Option Addr) (len cap : Nat) (zs : List Int), Below w.heap.size w W → IsB W a len zs → len ≤ cap → cap ≤ 9223372036854775807 → len ≤ 100000 → Calls Tryz.prog 89 #[.slice a len cap] W fun e w' => e = .returned (.bool (valB (u8s zs))) ∧ Below W.heap.size W w'
def MsgC (ma ea ta : Option Addr) (nm ne nt mc ec tc : Nat) (f : Nat) (t dep : Int) (rec : Int → List Int → Except Int Nd) (w : World) : Prop := ∀ (W : World) (a : Option Addr) (len cap : Nat) (zs : List Int), Below w.heap.size w W → IsB W a len zs → len ≤ cap → cap ≤ 9223372036854775807 → len ≤ 100000 → Calls Tryz.prog 19 #[.agg #[.slice ma nm mc, .slice ea ne ec, .slice ta nt tc], .int .i64 t, .slice a len cap, .int .i64 dep] W fun e w' => MAns f (rec t zs) W e w'
theorem ValC.mv {w W : World} (h : ValC w) (hW : Below w.heap.size w W) : ValC W := fun W2 a len cap zs hb => h W2 a len cap zs (hW.trans (hb.mono hW.size))
theorem MsgC.mv {ma ea ta : Option Addr} {nm ne nt mc ec tc f : Nat} {t dep : Int} {rec : Int → List Int → Except Int Nd} {w W : World} (h : MsgC ma ea ta nm ne nt mc ec tc f t dep rec w) (hW : Below w.heap.size w W) : MsgC ma ea ta nm ne nt mc ec tc f t dep rec W := fun W2 a len cap zs hb => h W2 a len cap zs (hW.trans (hb.mono hW.size))
set_option maxHeartbeats 8000000 in
set_option maxRecDepth 20000 in
theorem ofBytes_any (ma ea ta : Option Addr) (nm ne nt mc ec tc : Nat) (fd : FD) (dep : Int) (f : Nat) (rec : Int → List Int → Except Int Nd) (a : Option Addr) (len cap : Nat) (zs : List Int) (w : World) (hdep : 0 ≤ dep ∧ dep ≤ 100) (hB : IsB w a len zs) (hlc : len ≤ cap) (hcm : cap ≤ 9223372036854775807) (hlm : len ≤ 100000) (hval : fd.kind = 5 → ValC w) (hmsg : fd.kind = 10 → MsgC ma ea ta nm ne nt mc ec tc f fd.type (dep + 1) rec w) :
    Calls Tryz.prog 77 #[.agg #[.slice ma nm mc, .slice ea ne ec, .slice ta nt tc], .agg #[.int .i64 fd.num, .string (mkB fd.name), .int .i64 fd.kind, .bool fd.rep, .int .i64 fd.type], .slice a len cap, .int .i64 dep] w fun e w' => MAns f (decB rec fd zs) w e w' := by
  obtain ⟨Y, hY, hC, hb, hYs⟩ := box_new w #[.slice ma nm mc, .slice ea ne ec, .slice ta nt tc] 26
  obtain ⟨V, hV', hD, hVb, hVs⟩ := box_new Y #[.int .i64 fd.num, .string (mkB fd.name), .int .i64 fd.kind, .bool fd.rep, .int .i64 fd.type] 52
  have HY := Lib.hid hY
  have HV := Lib.hid hV'
  rw [hYs] at hD
  have hC2 := (hVb.block _ (by omega)).trans hC
  have hBV := hb.trans (hVb.mono hb.size)
  have HBV := Lib.hid hBV
  have hVl : w.heap.size + 2 = V.heap.size := by omega
  have s0 : V.cell? ⟨w.heap.size, 0, none⟩ = some (.slice ma nm mc) := cell_at hC2 0 rfl
  have s1 : V.cell? ⟨w.heap.size, 1, none⟩ = some (.slice ea ne ec) := cell_at hC2 1 rfl
  have s2 : V.cell? ⟨w.heap.size, 2, none⟩ = some (.slice ta nt tc) := cell_at hC2 2 rfl
  have q0 : V.cell? ⟨w.heap.size + 1, 0, none⟩ = some (.int .i64 fd.num) := cell_at hD 0 rfl
  have q1 : V.cell? ⟨w.heap.size + 1, 1, none⟩ = some (.string (mkB fd.name)) := cell_at hD 1 rfl
  have q2 : V.cell? ⟨w.heap.size + 1, 2, none⟩ = some (.int .i64 fd.kind) := cell_at hD 2 rfl
  have q3 : V.cell? ⟨w.heap.size + 1, 3, none⟩ = some (.bool fd.rep) := cell_at hD 3 rfl
  have q4 : V.cell? ⟨w.heap.size + 1, 4, none⟩ = some (.int .i64 fd.type) := cell_at hD 4 rfl
  have hIV : IsB V a len zs := isB_old hB hBV
  obtain ⟨K, hK⟩ : ∃ K, fd.kind = K := ⟨_, rfl⟩
  rw [hK] at q2 hval hmsg
  by_cases h10 : K = 10
  · have hm := hmsg h10 V a len cap zs hBV hIV hlc hcm hlm
    have HDB : Hid (decB rec fd zs = rec fd.type zs) := by
      refine (?_ : _ = _)
      unfold decB; rw [hK, if_pos h10]
    rw [HDB.out]
    have hw1 : IntKind.i64.wrap (dep + 1) = dep + 1 := by rw [IntKind.wrap_i64]; omega
    generalize rec fd.type zs = R at *
    subst h10
    clear hval hmsg HDB hIV hB hY hC hb hYs hV' hD hVb hVs hC2 hBV hK
    go_enter Tryz.func77, Tryz.ntmps77
    go_upto_region 1 with fail
    rw [HY.out, HV.out]
    go_wp2_with fail
    refine hm.mono ?_
    intro e W hans
    clear hm s0 s1 s2 q0 q1 q2 q3 q4
    cases R with
    | error x =>
      obtain ⟨h0, rfl, hb⟩ := hans
      go_wp2_with fail
      go_ret2
      exact ⟨h0, rfl, HBV.out.trans (hb.mono HBV.out.size)⟩
    | ok y =>
      obtain ⟨v, rfl, hv, hb⟩ := hans
      have hs := hb.size
      go_wp2_with fail
      go_ret2
      exact ⟨v, rfl, hv.mv (fun _ _ => rfl) (fun b hb => ⟨by have := hb.1; omega, hb.2⟩), HBV.out.trans (hb.mono HBV.out.size)⟩
  have d10 : (K == 10) = false := by simp [h10]
  by_cases h5 : K = 5
  · have hm := hval h5 V a len cap zs hBV hIV hlc hcm hlm
    have HDB : Hid (decB rec fd zs = if valB (u8s zs) then .ok (strD 4 zs) else .error 13) := by
      refine (?_ : _ = _)
      unfold decB; rw [hK, if_neg h10, if_pos h5]
    rw [HDB.out]
    have hst := fun W (hW : Below V.heap.size V W) => run_strT 83 Tryz.underlying83 W a len cap zs (isB_old hIV hW)
    generalize valB (u8s zs) = R at *
    subst h5
    clear hval hmsg HDB hIV hB hY hC hb hYs hV' hD hVb hVs hC2 hBV hK h10
    go_enter Tryz.func77, Tryz.ntmps77
    go_upto_region 1 with fail
    rw [HY.out, HV.out]
    go_wp2_with fail
    refine hm.mono ?_
    rintro e W ⟨rfl, hb⟩
    have hs9 := hst W hb
    clear hm hst s0 s1 s2 q0 q1 q2 q3 q4
    have hbw := HBV.out.trans (hb.mono HBV.out.size)
    cases R with
    | false =>
      go_wp2_with fail
      go_ret2
      exact ⟨by decide, rfl, hbw⟩
    | true =>
      go_wp2_with fail
      go_ret2
      exact ⟨_, rfl, ⟨.nilFunc, rfl, fun h => absurd h (by simp [strD])⟩, hbw⟩
  · have HDB : Hid (decB rec fd zs = .ok (strD 5 zs)) := by
      refine (?_ : _ = _)
      unfold decB; rw [hK, if_neg h10, if_neg h5]
    rw [HDB.out]
    have d5 : (K == 5) = false := by simp [h5]
    have hst := run_strT 84 Tryz.underlying84 V a len cap zs hIV
    clear hval hmsg HDB hIV hB hY hC hb hYs hV' hD hVb hVs hC2 hBV hK
    go_enter Tryz.func77, Tryz.ntmps77
    go_upto_region 1 with fail
    rw [HY.out, HV.out]
    go_wp2_with fail
    go_ret2
    exact ⟨_, rfl, ⟨.nilFunc, rfl, fun h => absurd h (by simp [strD])⟩, HBV.out⟩
set_option maxHeartbeats 8000000 in
set_option maxRecDepth 20000 in
theorem ofField_any (ma ea ta : Option Addr) (nm ne nt mc ec tc : Nat) (fd : FD) (dep : Int) (f : Nat) (rec : Int → List Int → Except Int Nd) (x : WF) (da : Option Addr) (dc : Nat) (w : World) (hdep : 0 ≤ dep ∧ dep ≤ 100) (hn : 0 ≤ x.n ∧ x.n ≤ 18446744073709551615) (hB : BIn w (fun b => b < w.heap.size) da dc x.d) (hlm : x.d.length ≤ 100000) (hval : fd.kind = 5 → ValC w) (hmsg : fd.kind = 10 → MsgC ma ea ta nm ne nt mc ec tc f fd.type (dep + 1) rec w) :
    Calls Tryz.prog 59 #[.agg #[.slice ma nm mc, .slice ea ne ec, .slice ta nt tc], .agg #[.int .i64 fd.num, .string (mkB fd.name), .int .i64 fd.kind, .bool fd.rep, .int .i64 fd.type], .agg #[.int .i64 x.num, .int .i64 x.ty, .int .u64 x.n, .slice da x.d.length dc], .int .i64 dep] w fun e w' => VsAns f (decV rec fd x) w e w' := by
  obtain ⟨Y, hY, hC, hb, hYs⟩ := box_new w #[.slice ma nm mc, .slice ea ne ec, .slice ta nt tc] 26
  obtain ⟨V, hV', hD, hVb, hVs⟩ := box_new Y #[.int .i64 fd.num, .string (mkB fd.name), .int .i64 fd.kind, .bool fd.rep, .int .i64 fd.type] 52
  have HY := Lib.hid hY
  have HV := Lib.hid hV'
  rw [hYs] at hD
  have hC2 := (hVb.block _ (by omega)).trans hC
  have hBV := hb.trans (hVb.mono hb.size)
  have HBV := Lib.hid hBV
  have hVl : w.heap.size + 2 = V.heap.size := by omega
  have s0 : V.cell? ⟨w.heap.size, 0, none⟩ = some (.slice ma nm mc) := cell_at hC2 0 rfl
  have s1 : V.cell? ⟨w.heap.size, 1, none⟩ = some (.slice ea ne ec) := cell_at hC2 1 rfl
  have s2 : V.cell? ⟨w.heap.size, 2, none⟩ = some (.slice ta nt tc) := cell_at hC2 2 rfl
  have q0 : V.cell? ⟨w.heap.size + 1, 0, none⟩ = some (.int .i64 fd.num) := cell_at hD 0 rfl
  have q1 : V.cell? ⟨w.heap.size + 1, 1, none⟩ = some (.string (mkB fd.name)) := cell_at hD 1 rfl
  have q2 : V.cell? ⟨w.heap.size + 1, 2, none⟩ = some (.int .i64 fd.kind) := cell_at hD 2 rfl
  have q3 : V.cell? ⟨w.heap.size + 1, 3, none⟩ = some (.bool fd.rep) := cell_at hD 3 rfl
  have q4 : V.cell? ⟨w.heap.size + 1, 4, none⟩ = some (.int .i64 fd.type) := cell_at hD 4 rfl
  obtain ⟨Z, hZ', hE, hZb, hZs⟩ := box_new V #[.int .i64 x.num, .int .i64 x.ty, .int .u64 x.n, .slice da x.d.length dc] 125
  have HZ := Lib.hid hZ'
  have hBZ := hBV.trans (hZb.mono hBV.size)
  have HBZ := Lib.hid hBZ
  have hZl : w.heap.size + 3 = Z.heap.size := by omega
  have hC3 := (hZb.block _ (by omega)).trans hC2
  have hD3 := (hZb.block _ (by omega)).trans hD
  clear s0 s1 s2 q0 q1 q2 q3 q4
  have s0 : Z.cell? ⟨w.heap.size, 0, none⟩ = some (.slice ma nm mc) := cell_at hC3 0 rfl
  have s1 : Z.cell? ⟨w.heap.size, 1, none⟩ = some (.slice ea ne ec) := cell_at hC3 1 rfl
  have s2 : Z.cell? ⟨w.heap.size, 2, none⟩ = some (.slice ta nt tc) := cell_at hC3 2 rfl
  have q0 : Z.cell? ⟨w.heap.size + 1, 0, none⟩ = some (.int .i64 fd.num) := cell_at hD3 0 rfl
  have q1 : Z.cell? ⟨w.heap.size + 1, 1, none⟩ = some (.string (mkB fd.name)) := cell_at hD3 1 rfl
  have q2 : Z.cell? ⟨w.heap.size + 1, 2, none⟩ = some (.int .i64 fd.kind) := cell_at hD3 2 rfl
  have q3 : Z.cell? ⟨w.heap.size + 1, 3, none⟩ = some (.bool fd.rep) := cell_at hD3 3 rfl
  have q4 : Z.cell? ⟨w.heap.size + 1, 4, none⟩ = some (.int .i64 fd.type) := cell_at hD3 4 rfl
  have p0 : Z.cell? ⟨V.heap.size, 0, none⟩ = some (.int .i64 x.num) := cell_at hE 0 rfl
  have p1 : Z.cell? ⟨V.heap.size, 1, none⟩ = some (.int .i64 x.ty) := cell_at hE 1 rfl
  have p2 : Z.cell? ⟨V.heap.size, 2, none⟩ = some (.int .u64 x.n) := cell_at hE 2 rfl
  have p3 : Z.cell? ⟨V.heap.size, 3, none⟩ = some (.slice da x.d.length dc) := cell_at hE 3 rfl
  have hBI : BIn Z (fun b => b < Z.heap.size) da dc x.d := hB.mv (fun b hb => hBZ.block b hb) (fun b hb => by have hb' : b < w.heap.size := hb; omega)
  have hin := isNumD_any fd.kind Z
  cases hk : isNum fd.kind
  case false =>
    have hm := ofBytes_any ma ea ta nm ne nt mc ec tc fd dep f rec da x.d.length dc x.d Z hdep hBI.isB hBI.2.2.2.1 hBI.2.2.2.2 hlm (fun h => (hval h).mv hBZ) (fun h => (hmsg h).mv hBZ)
    rw [decV_bytes hk]
    rw [hk] at hin
    generalize decB rec fd x.d = R at *
    clear hval hmsg hY hC hb hYs hV' hD hVb hVs hC2 hBV hBZ hC3 hD3 hE hZ' hZb hZs hB HBV hBI hk
    go_enter Tryz.func59, Tryz.ntmps59
    go_upto_region 1 with fail
    rw [HY.out, HV.out, HZ.out]
    go_wp2_with fail
    refine hin.mono ?_
    rintro e w9 ⟨rfl, h9⟩
    have h9 := h9.symm
    subst h9
    clear hin
    go_wp2_with fail
    refine hm.mono ?_
    intro e W hans
    clear hm s0 s1 s2 q0 q1 q2 q3 q4 p0 p1 p2 p3
    cases R with
    | error er =>
      obtain ⟨h0, rfl, hb⟩ := hans
      obtain ⟨A, hA, hAC, hAb, hAs⟩ := box_new W #[.nilIface] 31
      have HA := Lib.hid hA
      have HBA := Lib.hid (HBZ.out.trans ((hb.trans (hAb.mono hb.size)).mono HBZ.out.size))
      clear hA hAC hAb hAs hb
      go_wp2_with fail
      rw [HA.out]
      go_ret2
      exact ⟨h0, ⟨_, rfl⟩, HBA.out⟩
    | ok y =>
      obtain ⟨v, rfl, hv, hb⟩ := hans
      have hs := hb.size
      have hfm := val_form hv
      obtain ⟨A, hA, hAC, hAb, hAs⟩ := box_new W #[v] 31
      have HA := Lib.hid hA
      have HBA := Lib.hid (HBZ.out.trans ((hb.trans (hAb.mono hb.size)).mono HBZ.out.size))
      have HVN := Lib.hid (vals_new (f := f) (W := W) (S := fun b => w.heap.size ≤ b ∧ b < A.heap.size) hAC ⟨by omega, by omega⟩ (hv.mv (fun b hb => hAb.block b hb.2) (fun b hb => ⟨by have := hb.1; omega, by have := hb.2; omega⟩)))
      clear hAC hAb hAs hb hv hA
      rcases hfm with rfl | ⟨U, u, rfl⟩
      all_goals
        go_wp2_with fail
        rw [HA.out]
        go_ret2
        exact ⟨_, _, rfl, (fun h => by cases h), HVN.out, HBA.out⟩
  case true =>
    rw [hk] at hin
    have HDV : Hid (decV rec fd x = if x.ty = 2 then unpR fd.kind x.d else .ok [numD fd.kind x.n]) := by
      refine (?_ : _ = _)
      unfold decV; rw [if_pos hk]; split <;> rfl
    rw [HDV.out]
    by_cases h2 : x.ty = 2
    · rw [if_pos h2]
      have hm := unpacked_any fd.kind f da x.d.length dc x.d Z hBI.isB hBI.2.2.2.1 hBI.2.2.2.2 hlm
      generalize unpR fd.kind x.d = R at *
      rw [h2] at p1
      clear hval hmsg hY hC hb hYs hV' hD hVb hVs hC2 hBV hBZ hC3 hD3 hE hZ' hZb hZs hB HBV hBI hk HDV h2
      go_enter Tryz.func59, Tryz.ntmps59
      go_upto_region 1 with fail
      rw [HY.out, HV.out, HZ.out]
      go_wp2_with fail
      refine hin.mono ?_
      rintro e w9 ⟨rfl, h9⟩
      have h9 := h9.symm
      subst h9
      clear hin
      go_wp2_with fail
      refine hm.mono ?_
      intro e W hans
      clear hm s0 s1 s2 q0 q1 q2 q3 q4 p0 p1 p2 p3
      cases R with
      | error er =>
        obtain ⟨h0, ⟨v, rfl⟩, hb⟩ := hans
        have HBA := Lib.hid (HBZ.out.trans (hb.mono HBZ.out.size))
        clear hb
        go_wp2_with fail
        go_ret2
        exact ⟨h0, ⟨_, rfl⟩, HBA.out⟩
      | ok l =>
        obtain ⟨a, c, rfl, hnl, hv, hb⟩ := hans
        have HBA := Lib.hid (HBZ.out.trans (hb.mono HBZ.out.size))
        have HVN := Lib.hid (ValsG.mv (w' := W) (S' := fun b => w.heap.size ≤ b ∧ b < W.heap.size) (fun _ _ => rfl) (fun b hb => ⟨by have := hb.1; omega, hb.2⟩) hv)
        clear hb hv
        go_wp2_with fail
        go_ret2
        exact ⟨_, _, rfl, hnl, HVN.out, HBA.out⟩
    · rw [if_neg h2]
      have d2 : (x.ty == 2) = false := by simp [h2]
      have hm := ofNumber_any fd.kind x.n Z hn.1 hn.2
      obtain ⟨U, u, hV⟩ := ival_num fd.kind x.n
      have hk7 := numD_kind fd.kind x.n
      have hv : HeldV Z (fun b => w.heap.size ≤ b ∧ b < Z.heap.size) f (.iface U u) (numD fd.kind x.n) := ⟨.nilFunc, hV.symm, fun h => absurd h hk7⟩
      rw [hV] at hm
      generalize numD fd.kind x.n = N at *
      obtain ⟨A, hA, hAC, hAb, hAs⟩ := box_new Z #[.iface U u] 31
      have HA := Lib.hid hA
      have HBA := Lib.hid (HBZ.out.trans (hAb.mono HBZ.out.size))
      have HVN := Lib.hid (vals_new (f := f) (W := Z) (S := fun b => w.heap.size ≤ b ∧ b < A.heap.size) hAC ⟨by omega, by omega⟩ (hv.mv (fun b hb => hAb.block b hb.2) (fun b hb => ⟨hb.1, by have := hb.2; omega⟩)))
      clear hval hmsg hY hC hb hYs hV' hD hVb hVs hC2 hBV hBZ hC3 hD3 hE hZ' hZb hZs hB HBV hBI hk HDV hAC hAb hAs hv hA hV hk7
      go_enter Tryz.func59, Tryz.ntmps59
      go_upto_region 1 with fail
      rw [HY.out, HV.out, HZ.out]
      go_wp2_with fail
      refine hin.mono ?_
      rintro e w9 ⟨rfl, h9⟩
      have h9 := h9.symm
      subst h9
      clear hin
      go_wp2_with fail
      refine hm.mono ?_
      rintro e w9 ⟨rfl, h9⟩
      have h9 := h9.symm
      subst h9
      clear hm s0 s1 s2 q0 q1 q2 q3 q4 p0 p1 p2 p3
      go_wp2_with fail
      rw [HA.out]
      go_ret2
      exact ⟨_, _, rfl, (fun h => by cases h), HVN.out, HBA.out⟩
end Go.Proofs.YtnopnjklcdcckaaGreatDoor
namespace Go.Proofs.YtnopnjklcdcckaaGreatDoor
set_option linter.unusedVariables false
open Go.ChangeShapes Go.WideShapes Go.ChangeAt Go.RowKit

theorem decV_len {rec : Int → List Int → Except Int Nd} {fd : FD} {x : WF} (hb : IsBs x.d) {l : List Nd} (h : decV rec fd x = .ok l) : l.length ≤ x.d.length + 1 := by
  cases hk : isNum fd.kind with
  | false =>
    rw [decV_bytes hk] at h
    cases hd : decB rec fd x.d with
    | error e => rw [hd] at h; cases h
    | ok y =>
      rw [hd] at h
      have : l = [y] := by injection h with h; exact h.symm
      rw [this]; simp
  | true =>
    unfold decV at h
    rw [if_pos hk] at h
    split at h
    · cases hu : unpack fd.kind x.d with
      | none => rw [hu] at h; cases h
      | some l' =>
        rw [hu] at h
        have : l = l' := by injection h with h; exact h.symm
        have h2 := unpack_len _ (Nat.le_refl _) hb hu
        rw [this]; omega
    · have : l = [numD fd.kind x.n] := by injection h with h; exact h.symm
      rw [this]; simp
set_option maxHeartbeats 16000000 in
set_option maxRecDepth 20000 in
theorem fieldValues_any (ma ea ta : Option Addr) (nm ne nt mc ec tc : Nat) (fd : FD) (dep : Int) (f : Nat) (rec : Int → List Int → Except Int Nd) (ad : Option Addr) (n c : Nat) (ws : List WF) (w : World) (hdep : 0 ≤ dep ∧ dep ≤ 100) (hn : ws.length = n) (hn1 : n ≤ 100000) (hW : WfIn w (fun b => b < w.heap.size) (.slice ad n c) ws) (hok : ∀ x ∈ ws, (0 ≤ x.n ∧ x.n ≤ 18446744073709551615) ∧ x.d.length ≤ 100000) (hval : fd.kind = 5 → ValC w) (hmsg : fd.kind = 10 → MsgC ma ea ta nm ne nt mc ec tc f fd.type (dep + 1) rec w) :
    Calls Tryz.prog 34 #[.agg #[.slice ma nm mc, .slice ea ne ec, .slice ta nt tc], .agg #[.int .i64 fd.num, .string (mkB fd.name), .int .i64 fd.kind, .bool fd.rep, .int .i64 fd.type], .slice ad n c, .int .i64 dep] w fun e w' => VsAns f (decVs rec fd ws) w e w' := by
  obtain ⟨Y, hY, hC, hb, hYs⟩ := box_new w #[.slice ma nm mc, .slice ea ne ec, .slice ta nt tc] 26
  obtain ⟨V, hV', hD, hVb, hVs⟩ := box_new Y #[.int .i64 fd.num, .string (mkB fd.name), .int .i64 fd.kind, .bool fd.rep, .int .i64 fd.type] 52
  have HY := Lib.hid hY
  have HV := Lib.hid hV'
  rw [hYs] at hD
  have hC2 := (hVb.block _ (by omega)).trans hC
  have hBV := hb.trans (hVb.mono hb.size)
  have HBV := Lib.hid hBV
  have hVl : w.heap.size + 2 = V.heap.size := by omega
  have s0 : V.cell? ⟨w.heap.size, 0, none⟩ = some (.slice ma nm mc) := cell_at hC2 0 rfl
  have s1 : V.cell? ⟨w.heap.size, 1, none⟩ = some (.slice ea ne ec) := cell_at hC2 1 rfl
  have s2 : V.cell? ⟨w.heap.size, 2, none⟩ = some (.slice ta nt tc) := cell_at hC2 2 rfl
  have q0 : V.cell? ⟨w.heap.size + 1, 0, none⟩ = some (.int .i64 fd.num) := cell_at hD 0 rfl
  have q1 : V.cell? ⟨w.heap.size + 1, 1, none⟩ = some (.string (mkB fd.name)) := cell_at hD 1 rfl
  have q2 : V.cell? ⟨w.heap.size + 1, 2, none⟩ = some (.int .i64 fd.kind) := cell_at hD 2 rfl
  have q3 : V.cell? ⟨w.heap.size + 1, 3, none⟩ = some (.bool fd.rep) := cell_at hD 3 rfl
  have q4 : V.cell? ⟨w.heap.size + 1, 4, none⟩ = some (.int .i64 fd.type) := cell_at hD 4 rfl
  have hC2' := hC2
  clear s0 s1 s2 q0 q1 q2 q3 q4
  have HCA := Lib.hid hC2
  have HDA := Lib.hid hD
  have HVAL : Hid (fd.kind = 5 → ValC V) := fun h => (hval h).mv hBV
  have HMSG : Hid (fd.kind = 10 → MsgC ma ea ta nm ne nt mc ec tc f fd.type (dep + 1) rec V) := fun h => (hmsg h).mv hBV
  have HWI := Lib.hid hW
  have HN := Lib.hid hn
  have HOK := Lib.hid hok
  clear hval hmsg hW hn hok hY hC hb hYs hV' hD hVb hVs hC2 hBV hC2'
  go_enter Tryz.func34, Tryz.ntmps34
  go_upto_region 1 with fail
  rw [HY.out, HV.out]
  go_wp2_with fail
  go_loopw [10, 17] (fun ov i wr => ∃ (k : Nat) (o' : Value) (vs : List Nd) (rs : List (List Value)), o' = ov ∧ i = .int .i64 (k : Int) ∧ k ≤ n ∧ vs.length ≤ k * 100001 ∧ exL (decV rec fd) (ws.take k) = .ok vs ∧ Below V.heap.size V wr ∧ Gr (VRs valS f) wr V.heap.size 31 1 o' vs rs ∧ (vs = [] → o' = .slice none 0 0)) (fun _ i _ => n - (intOf i).toNat)
  case atStart => exact ⟨0, _, [], [], rfl, rfl, Nat.zero_le _, Nat.le_refl _, rfl, Below.refl _ _, Gr.nil _ _ _ _ _, fun _ => rfl⟩
  case round =>
    generalize wr = w1 at *
    obtain ⟨k, o', vs, rs, rfl, rfl, hk, hvl, hex, hbel, hgr, hnil⟩ := hrel
    obtain ⟨oa, oc, hov⟩ := own_slice hgr.own
    obtain ⟨m, hm⟩ : ∃ m, vs.length = m := ⟨_, rfl⟩
    rw [hm] at hov hvl
    subst hov
    have HNIL := Lib.hid hnil
    have HBE := Lib.hid hbel
    have HGR := Lib.hid hgr
    have HM := Lib.hid hm
    have HEX := Lib.hid hex
    have hws := hbel.size
    have hBw := HBV.out.trans (hbel.mono HBV.out.size)
    have HBW := Lib.hid hBw
    have HFB : Hid (∀ b, (Value.slice oa m oc).ownBlock = some b → V.heap.size ≤ b ∧ b < w1.heap.size) := hgr.blk
    clear hgr hm hex hnil
    by_cases hkn : k < n
    · obtain ⟨x, hx⟩ : ∃ x, ws[k]? = some x := ⟨_, List.getElem?_eq_getElem (by have := HN.out; omega)⟩
      obtain ⟨g, go, gc, hsl, hg, da, dc, hcl, hbi⟩ := SlIn.at HWI.out hx
      rw [HN.out] at hsl
      obtain ⟨rfl, rfl⟩ := slice_two hsl
      have hgN : g < w.heap.size := hg
      have hcl2 := hcl.old (hBw.block g hgN)
      have HXX := Lib.hid hx
      obtain ⟨hxn, hxl⟩ := HOK.out x (List.mem_of_getElem? hx)
      have HBS : Hid (IsBs x.d) := fun z hz => isB_bytes hbi.isB z hz
      have e0 : w1.cell? ⟨g, go + k * 4, none⟩ = some (.int .i64 x.num) := by have := hcl2 0 _ rfl; simpa using this
      have e1 : w1.cell? ⟨g, go + k * 4 + 1, none⟩ = some (.int .i64 x.ty) := by have := hcl2 1 _ rfl; simpa using this
      have e2 : w1.cell? ⟨g, go + k * 4 + 2, none⟩ = some (.int .u64 x.n) := by have := hcl2 2 _ rfl; simpa using this
      have e3 : w1.cell? ⟨g, go + k * 4 + 3, none⟩ = some (.slice da x.d.length dc) := by have := hcl2 3 _ rfl; simpa using this
      have hk0 : (0 : Int) ≤ (k : Int) := by omega
      have hk1 : (k : Int) < (n : Int) := by omega
      have hwk : IntKind.i64.wrap ((k : Int) + 1) = (k : Int) + 1 := by rw [IntKind.wrap_i64]; omega
      obtain ⟨X, hX, hXC, hXb, hXs⟩ := box_new w1 #[.int .i64 x.num, .int .i64 x.ty, .int .u64 x.n, .slice da x.d.length dc] 125
      have HX := Lib.hid hX
      have hBX := hBw.trans (hXb.mono hBw.size)
      have hVX := hbel.trans (hXb.mono hws)
      have HVX := Lib.hid hVX
      have hcA := (hVX.block w.heap.size (by omega)).trans HCA.out
      have hdA := (hVX.block (w.heap.size + 1) (by omega)).trans HDA.out
      have s0 : X.cell? ⟨w.heap.size, 0, none⟩ = some (.slice ma nm mc) := cell_at hcA 0 rfl
      have s1 : X.cell? ⟨w.heap.size, 1, none⟩ = some (.slice ea ne ec) := cell_at hcA 1 rfl
      have s2 : X.cell? ⟨w.heap.size, 2, none⟩ = some (.slice ta nt tc) := cell_at hcA 2 rfl
      have q0 : X.cell? ⟨w.heap.size + 1, 0, none⟩ = some (.int .i64 fd.num) := cell_at hdA 0 rfl
      have q1 : X.cell? ⟨w.heap.size + 1, 1, none⟩ = some (.string (mkB fd.name)) := cell_at hdA 1 rfl
      have q2 : X.cell? ⟨w.heap.size + 1, 2, none⟩ = some (.int .i64 fd.kind) := cell_at hdA 2 rfl
      have q3 : X.cell? ⟨w.heap.size + 1, 3, none⟩ = some (.bool fd.rep) := cell_at hdA 3 rfl
      have q4 : X.cell? ⟨w.heap.size + 1, 4, none⟩ = some (.int .i64 fd.type) := cell_at hdA 4 rfl
      have p0 : X.cell? ⟨w1.heap.size, 0, none⟩ = some (.int .i64 x.num) := cell_at hXC 0 rfl
      have p1 : X.cell? ⟨w1.heap.size, 1, none⟩ = some (.int .i64 x.ty) := cell_at hXC 1 rfl
      have p2 : X.cell? ⟨w1.heap.size, 2, none⟩ = some (.int .u64 x.n) := cell_at hXC 2 rfl
      have p3 : X.cell? ⟨w1.heap.size, 3, none⟩ = some (.slice da x.d.length dc) := cell_at hXC 3 rfl
      have hcall := ofField_any ma ea ta nm ne nt mc ec tc fd dep f rec x da dc X hdep hxn (hbi.mv (fun b hb => hBX.block b hb) (fun b hb => by have hb' : b < w.heap.size := hb; have := hBX.size; omega)) hxl (fun h => (HVAL.out h).mv hVX) (fun h => (HMSG.out h).mv hVX)
      have hXl : w1.heap.size + 1 = X.heap.size := by omega
      clear hsl hg hcl hbi hcl2 hx hX hXC hXb hXs hcA hdA hVX hBX hBw hbel hxn
      go_upto_region 5 with fail
      rw [HX.out]
      clear e0 e1 e2 e3
      go_wp2_with fail
      refine hcall.mono ?_
      intro e W5 hans
      clear hcall s0 s1 s2 q0 q1 q2 q3 q4 p0 p1 p2 p3
      cases hR : decV rec fd x with
      | error er =>
        rw [hR] at hans
        obtain ⟨h0, ⟨v, rfl⟩, hb⟩ := hans
        have HRES : Hid (decVs rec fd ws = .error er) := exL_err HXX.out HEX.out hR
        have hE2 : (er == 0) = false := by simp [h0]
        have hE3 : (er != 0) = true := by simp [h0]
        have HBA := Lib.hid (HBV.out.trans ((HVX.out.trans (hb.mono HVX.out.size)).mono HBV.out.size))
        clear hb hR
        go_wp2_with fail
        go_ret2
        rw [HRES.out]
        exact ⟨h0, ⟨_, rfl⟩, HBA.out⟩
      | ok l =>
        rw [hR] at hans
        obtain ⟨va, vc, rfl, hnl, hv, hb⟩ := hans
        have HST := Lib.hid (exL_step HXX.out HEX.out hR)
        have hll := decV_len HBS.out hR
        have hb5 := hb.size
        have HB5 := Lib.hid (HVX.out.trans (hb.mono HVX.out.size))
        have HGX : Hid (Gr (VRs valS f) W5 V.heap.size 31 1 (.slice oa m oc) vs rs) := HGR.out.keep (mvsV valS f) (fun b h1 h2 => by
          have hw1 : Below w1.heap.size w1 W5 := by
            have h3 : Below w1.heap.size w1 X := by rw [← HX.out]; exact (Below.refl _ _).alloc (Nat.le_refl _) _
            exact h3.trans (hb.mono h3.size)
          exact hw1.block b h2) (by omega)
        have HOW : Hid (W5.ownsRow V.heap.size 31 1 (.slice oa m oc) m (rs.flatMap id)) := by
          refine (?_ : World.ownsRow _ _ _ _ _ _ _)
          have := HGX.out.own
          rw [HM.out] at this
          exact this
        clear hb hR
        by_cases hl0 : l = []
        · subst hl0
          obtain ⟨rfl, rfl⟩ := hnl rfl
          clear hnl hv
          have hm2 : m ≤ (k + 1) * 100001 := Nat.le_trans hvl (Nat.mul_le_mul_right _ (by omega))
          have hb0 : V.heap.size ≤ W5.heap.size := by omega
          obtain ⟨i0, hi0, hz0, hz1, hz2⟩ := info_parts infoVV
          go_wp2_with (at_builtin; refine wpList_append_own_none rfl _ _ _ rfl V.heap.size 31 i0 1 Tryz.underlying53 hi0 (.slice oa m oc) m (rs.flatMap id) rfl HOW.out rfl ?_)
          go_wp2_with fail
          go_roundw
          case rel => exact ⟨k + 1, _, vs, rs, rfl, by go_num, by omega, (by rw [HM.out]; exact hm2), by have := HST.out; rw [List.append_nil] at this; exact this, HB5.out, HGX.out, HNIL.out⟩
          case measure => simp [intOf]; omega
        · obtain ⟨ad5, c5, hsl5, hlc5, h0 | ⟨g5, o5, rfl, hg5, hc5⟩⟩ := hv
          · exact absurd h0 hl0
          obtain ⟨q, hq⟩ : ∃ q, l.length = q := ⟨_, rfl⟩
          have HQ := Lib.hid hq
          have hq0 : 0 < q := by rw [← hq]; exact List.length_pos_iff.2 hl0
          rw [hq] at hsl5 hll ⊢
          obtain ⟨rfl, rfl⟩ := slice_two hsl5
          obtain ⟨qs, g1, g2, g3, g4, gg5, g6⟩ := vals_rows (w := W5) (S := fun b => X.heap.size ≤ b ∧ b < W5.heap.size) (f := f) (g := g5) (ys := l) (o := o5) fun j y hj => by
            obtain ⟨fs, h1, h2⟩ := hc5 j y hj
            exact ⟨fs, by have h1' := h1; have hk1 : valS.k = 1 := rfl; rw [hk1, Nat.mul_one] at h1'; exact h1', fun hk => h2 (by simp [valS, hk])⟩
          have G1 := Lib.hid g1
          have G2 := Lib.hid g2
          have G3 := Lib.hid g3
          have G4 := Lib.hid g4
          have G5 := Lib.hid gg5
          have G6 := Lib.hid g6
          clear g1 g2 g3 g4 gg5 g6 hc5 hsl5 hq hnl
          have hb0 : V.heap.size ≤ W5.heap.size := by omega
          have hm3 : m + q ≤ (k + 1) * 100001 := by rw [Nat.add_mul]; omega
          have hmb : m + q ≤ 20000000000 := by omega
          go_wp2_with (at_builtin; refine wpushL (T := 31) (base := V.heap.size) (n := m) (v := .slice oa m oc) (xs := rs.flatMap id) Tryz.underlying53 infoVV rfl (by decide) HOW.out hb0 ⟨g5, o5, none⟩ q _ (qs.flatMap id) (by rw [G6.out, HQ.out, Nat.mul_one]) G5.out (fun j u hu => by rw [add_zero]; exact G4.out j u hu) hq0 rfl _ _ rfl rfl rfl (by unfold maxLen; omega) (by omega) ?_; intro g6 cap6 W6 hown6 hgr6 hat6 hlt6)
          have HG6 : Hid (Gr (VRs valS f) W6 V.heap.size 31 1 (.slice (some ⟨g6, 0, none⟩) (m + q) cap6) (vs ++ l) (rs ++ qs)) := HGX.out.pushN (mvsV valS f) G1.out G2.out (fun j y r h1 h2 => mvsV valS f _ _ _ _ _ _ (G3.out j y r h1 h2) (fun _ _ => rfl) (fun b hb => ⟨by have := hb.1; omega, hb.2, fun e => by have := (HFB.out b e).2; have := hb.1; omega⟩)) HM.out HQ.out hown6 hgr6 hat6
          have HB6 : Hid (Below V.heap.size V W6) := HB5.out.grown hgr6 (by omega) (fun b hb => (HFB.out b hb).1)
          clear hown6 hgr6 hat6 hlt6
          go_wp2_with fail
          go_roundw
          case rel => exact ⟨k + 1, _, vs ++ l, _, rfl, by go_num, by omega, (by rw [List.length_append, HM.out, HQ.out]; exact hm3), HST.out, HB6.out, HG6.out, fun h => absurd (List.append_eq_nil_iff.1 h).2 hl0⟩
          case measure => simp [intOf]; omega
    · have hkn' : ¬ (k : Int) < (n : Int) := by omega
      have hre : decVs rec fd ws = .ok vs := by
        have h1 := HEX.out
        rw [List.take_of_length_le (by have := HN.out; omega)] at h1
        exact h1
      have HRE := Lib.hid hre
      have HVS := Lib.hid (HGR.out.vals (s := valS) (fun b => w.heap.size ≤ b ∧ b < w1.heap.size) (fun b h1 h2 => ⟨by omega, h2⟩))
      have HNL : Hid (vs = [] → oa = none ∧ oc = 0) := by
        refine (?_ : _ → _)
        intro h
        have h0 := Value.slice.inj (HNIL.out h)
        exact ⟨h0.1, h0.2.2⟩
      clear hre
      go_wp2_with fail
      go_ret2
      rw [HRE.out]
      exact ⟨oa, oc, by rw [HM.out]; rfl, HNL.out, by rw [HM.out]; exact HVS.out, HBW.out⟩
end Go.Proofs.YtnopnjklcdcckaaGreatDoor
