/-
  The walk over the program's own File.
  The laws' own text: what Check answers for it, as plain data.
-/
import Derived.Test.YtpojeinddnjpfaaGreatDoorM0
import Derived.Test.YtpojeinddnjpfaaGreatDoorM13
import Derived.Test.YtpojeinddnjpfaaGreatDoorM44
import Derived.Test.YtpojeinddnjpfaaGreatDoorM16
namespace Go.Proofs.YtpojeinddnjpfaaGreatDoor
set_option linter.unusedVariables false
open Go.ChangeShapes Go.WideShapes Go.ChangeAt Go.RowKit

def AwayG (R : Nat) (wx : World) (v : Value) (b : Nat) : Prop := R + 1 ≤ b ∧ b < wx.heap.size ∧ v.ownBlock ≠ some b
structure Df (w0 wx : World) (A R : Nat) (en : Int × Int) (q : Rd) (v : Value) (ds : List Dc) (rs : List (List Value)) : Prop where
 rd : DrAt wx R en q
 bel : Below w0.heap.size w0 wx
 ans : wx.heap[A]? = some (.cells #[.int .i64 0, .int .i64 0] 31 (0, 0))
 decls : De 9 wx (R + 1) (AwayG R wx v) v ds rs
 ge : w0.heap.size ≤ A
 lt : A < R
section
variable {w0 wx w' : World} {A R : Nat} {en : Int × Int} {q q' : Rd} {v : Value} {ds : List Dc} {rs : List (List Value)}
theorem Df.step (h : Df w0 wx A R en q v ds rs) (hr : DrAt w' R en q') (hg : wx.grownBy w' (some R)) : Df w0 w' A R en q' v ds rs := by
 have hl := h.lt
 have hge := h.ge
 have hRl := h.rd.lt
 have hs := hg.size
 have hb : ∀ b, R + 1 ≤ b → b < wx.heap.size → w'.heap[b]? = wx.heap[b]? := fun b h1 h2 => hg.block b h2 (by intro e; cases e; omega)
 exact ⟨hr, h.bel.grown hg (by have := h.bel.size; omega) (fun k hk => by cases hk; omega), by rw [hg.block A (by omega) (by intro e; cases e; omega)]; exact h.ans,
  h.decls.keep (fun b hb' => hb b (own_block h.decls.own b hb').1 (own_block h.decls.own b hb').2) (fun b hb' => hb b hb'.1 hb'.2.1) (fun b hb' => ⟨hb'.1, by have := hb'.2.1; omega, hb'.2.2⟩), hge, hl⟩
theorem Df.alloc (h : Df w0 wx A R en q v ds rs) (o : Obj) : Df w0 (wx.alloc o) A R en q v ds rs := h.step (h.rd.alloc o) (World.grownBy_alloc _ _ _)
theorem Df.below (h : Df w0 wx A R en q v ds rs) (hb : Below wx.heap.size wx w') : Df w0 w' A R en q v ds rs := h.step (h.rd.below hb) (grownBy_below hb _)
theorem Df.push (h : Df w0 wx A R en q v ds rs) (x : Dc) (kf kv km ki : Value) (hkid : Kids 9 wx (AwayG R wx v) kf kv km ki x) (hone : ∀ u ∈ drow x kf kv km ki, u.oneCell' = true) {ops : Array Oper} {rest : List Oper} {o : Oper} {a : Act} {Q : Exit → Act → World → Prop} (hgd : o.guard = none) (s' x' : Operand)
  (ho : o.op = .call { callee := .builtin .append, args := #[s', x'], argTypes := #[35, 35] })
  (crow : Array Value) (hcs : crow = (drow x kf kv km ki).toArray) (hs : a.eval s' = v) (hx : a.eval x' = .slice (some ⟨wx.heap.size, 0, none⟩) 1 1) (hbd : ds.length ≤ 100000)
  (hk : ∀ g cap W, Df w0 W A R en q (.slice (some ⟨g, 0, none⟩) (ds.length + 1) cap) (ds ++ [x]) (rs ++ [drow x kf kv km ki]) → wpList Tryz.prog ops Q rest (a.put o.dst (.slice (some ⟨g, 0, none⟩) (ds.length + 1) cap)) W) :
  wpList Tryz.prog ops Q (o :: rest) a (wx.alloc (.cells crow 69)) := by
 subst hcs
 have hRl := h.rd.lt
 have hl := h.lt
 have hge := h.ge
 have ha := h.alloc (.cells (drow x kf kv km ki).toArray 69)
 obtain ⟨i0, hi0, hz0, hz1, hz2⟩ := info_parts infoDcD
 refine wpList_append_lies _ hgd s' x' 35 ho (R + 1) 69 i0 _ 8 136 Tryz.underlying35 hi0 hz0 hz1 hz2 rfl (by decide) v ds.length (rs.flatMap id) hs ha.decls.own ⟨wx.heap.size, 0, none⟩ 1 1 (drow x kf kv km ki) hx rfl ?_ hone (by decide) (by unfold maxLen; omega) (by omega) (by simp; omega) _ rfl ?_
 ·exact World.news_of_block (cs := (drow x kf kv km ki).toArray) (t := 69) (fr := (0, 0)) (by show (wx.heap.push _)[wx.heap.size]? = _; simp)
 ·intro g cap W hown hg hat hlt
  have hsa : (wx.alloc (.cells (drow x kf kv km ki).toArray 69)).heap.size = wx.heap.size + 1 := by simp
  have hsW := hg.size
  have hkW : ∀ b, b < wx.heap.size → v.ownBlock ≠ some b → W.heap[b]? = wx.heap[b]? := fun b hb hne => by
   rw [hg.block b (by rw [hsa]; omega) (fun e => hne e.symm), alloc_heap_old _ _ _ hb]
  have hno : ∀ b, b < R + 1 → v.ownBlock ≠ some b := fun b hb e => by have := (own_block h.decls.own b e).1; omega
  have hgb : R + 1 ≤ g := by
   rcases hat with e | e
   ·exact (own_block h.decls.own g e).1
   ·rw [hsa] at e; omega
  have hAw : ∀ b, AwayG R wx v b → AwayG R W (.slice (some ⟨g, 0, none⟩) (ds.length + 1) cap) b := fun b hb' => by
   refine ⟨hb'.1, by have := hb'.2.1; rw [hsa] at hsW; omega, ?_⟩
   intro e
   have e' : g = b := by simpa [Value.ownBlock] using e
   subst e'
   rcases hat with e | e
   ·exact hb'.2.2 e
   ·have := hb'.2.1; rw [hsa] at e; omega
  refine hk g cap W ⟨h.rd.old fun b hb => hkW b (by omega) (hno b hb), (h.bel.alloc (by have := h.bel.size; omega) _).grown hg (by rw [hsa]; have := h.bel.size; omega) (fun b hb => by have := (own_block h.decls.own b hb).1; omega), by rw [hkW A (by omega) (hno A (by omega))]; exact h.ans, ⟨?_, ?_, ?_⟩, hge, hl⟩
  ·rw [List.length_append, List.flatMap_append]
   simpa using hown
  ·rw [List.length_append, List.length_append, h.decls.len]; rfl
  ·intro j d hj
   by_cases hjl : j < ds.length
   ·rw [List.getElem?_append_left hjl] at hj
    obtain ⟨f1, v1, m1, i1, hr1, hk1⟩ := h.decls.kids j d hj
    exact ⟨f1, v1, m1, i1, by rw [List.getElem?_append_left (by rw [h.decls.len]; exact hjl)]; exact hr1, (hk1.old fun b hb' => hkW b hb'.2.1 hb'.2.2).more hAw⟩
   ·have hjn := (List.getElem?_eq_some_iff.1 hj).1
    rw [List.length_append] at hjn
    have hje : j = ds.length := by simp at hjn; omega
    subst hje
    rw [List.getElem?_append_right (Nat.le_refl _), Nat.sub_self] at hj
    have e : x = d := by simpa using hj
    subst e
    exact ⟨kf, kv, km, ki, by rw [← h.decls.len, List.getElem?_append_right (Nat.le_refl _), Nat.sub_self]; rfl, (hkid.old fun b hb' => hkW b hb'.2.1 hb'.2.2).more hAw⟩
end
def GAns (a : List Dc × (Int × Int) × Int) (e : Ending) (w' : World) : Prop :=
 ∃ (ad : Option Addr) (c : Nat) (pl pc : Int), e = .returned (.tuple #[.slice ad a.1.length c, .agg #[.int .i64 pl, .int .i64 pc], .int .i64 a.2.2]) ∧ HeldD 10 w' (fun b => b < w'.heap.size) (.slice ad a.1.length c) a.1 ∧ (a.2.2 ≠ 0 → pl = a.2.1.1 ∧ pc = a.2.1.2)
theorem gans_err (pl pc er : Int) (w' : World) : GAns ([], (pl, pc), er) (.returned (.tuple #[.slice none 0 0, .agg #[.int .i64 pl, .int .i64 pc], .int .i64 er])) w' :=
 ⟨none, 0, pl, pc, rfl, HeldD.nil _ _ _ _ _, fun _ => ⟨rfl, rfl⟩⟩
theorem words_goodX (l : List UInt8) : ∀ x ∈ (wordsL l).1, GoodX x := by
 intro x hx
 refine ⟨words_good l x hx, fun hk => ?_⟩
 have hok : WordOK x := by
  unfold wordsL at hx
  split at hx
  ·simp at hx
  ·exact lexL_ok _ _ _ _ _ (by simp) x hx
 rcases hok with ⟨h1, _⟩ | ⟨_, ⟨rs, h2, h3, h4⟩, _⟩ | ⟨h3, _⟩
 ·omega
 ·intro e
  rw [e] at h2
  cases rs with
  | nil => exact h3 rfl
  | cons a t =>
   have := congrArg List.length h2
   unfold encL at this
   rw [List.flatMap_cons, List.length_append] at this
   have ht := h4 a (by simp)
   have : (Lib.encodeRune a).length = 0 := by simp at this; omega
   have hp := (enc_len a).1
   omega
 ·omega
set_option maxHeartbeats 16000000 in
set_option maxRecDepth 20000 in
theorem fileD_any (s : ByteArray) (w : World) (hT : Errs w) (hs : s.size ≤ 9223372036854775807) :
  Calls Tryz.prog 38 #[.string s] w fun e w' => GAns (fileL s.data.toList) e w' ∧ Below w.heap.size w w' := by
 have hb0 := (Below.refl w.heap.size w).alloc (Nat.le_refl _) (.cells #[.int .i64 0, .int .i64 0] 31)
 have HB0 := Lib.hid hb0
 have HA0 := Lib.hid (alloc_heap_new w (.cells #[.int .i64 0, .int .i64 0] 31))
 have hW := wordsD_any s (w.alloc (.cells #[.int .i64 0, .int .i64 0] 31)) (errs_below hT hb0) hs
 have hzV : (w.alloc (.cells #[.int .i64 0, .int .i64 0] 31)).heap.size = w.heap.size + 1 := by simp
 clear hb0 hT
 by_cases h0 : (wordsL s.data.toList).2.2 = 0
 ·have hfl : fileL s.data.toList = fileW (((endOf s.data.toList).1 : Int), ((endOf s.data.toList).2 : Int)) (wordsL s.data.toList).1 := by unfold fileL; rw [if_pos h0]
  have hsh : s.size ≤ 20000 := by have := words_short _ h0; rw [len_data] at this; exact this
  have hEn := fun W => behindD_any s W (by omega)
  have HGD := Lib.hid (words_goodX s.data.toList)
  have HFW := Lib.hid (words_few s.data.toList)
  rw [hfl]
  obtain ⟨en, hen⟩ : ∃ en : Int × Int, (((endOf s.data.toList).1 : Int), ((endOf s.data.toList).2 : Int)) = en := ⟨_, rfl⟩
  rw [hen]
  have e1 : ((endOf s.data.toList).1 : Int) = en.1 := by rw [← hen]
  have e2 : ((endOf s.data.toList).2 : Int) = en.2 := by rw [← hen]
  rw [e1, e2] at hEn
  obtain ⟨WS, hWS⟩ : ∃ WS, wordsL s.data.toList = WS := ⟨_, rfl⟩
  rw [hWS] at hW h0 HGD HFW ⊢
  obtain ⟨ws, wp, we⟩ := WS
  have h0' : we = 0 := h0
  subst h0'
  clear hfl h0 hen e1 e2 hWS
  obtain ⟨DL, hDL⟩ : ∃ DL, declsL en (ws.length + 1) ⟨ws, 0, 0, 0⟩ [] = DL := ⟨_, rfl⟩
  have HDL := Lib.hid hDL
  have hfw : fileW en ws = if DL.2.e = 0 then (DL.1, (0, 0), 0) else ([], (DL.2.pl, DL.2.pc), DL.2.e) := by unfold fileW; rw [hDL]
  show Calls _ _ _ _ fun e w' => GAns (fileW en ws) e w' ∧ _
  rw [hfw]
  obtain ⟨ANS, hANS⟩ : ∃ A : List Dc × (Int × Int) × Int, (if DL.2.e = 0 then (DL.1, (0, 0), 0) else ([], (DL.2.pl, DL.2.pc), DL.2.e)) = A := ⟨_, rfl⟩
  have HAN := Lib.hid hANS
  rw [hANS]
  clear hfw hDL hANS
  go_enter Tryz.func38, Tryz.ntmps38
  go_wp2_with fail
  generalize w.alloc (.cells #[.int .i64 0, .int .i64 0] 31) = V0 at *
  refine hW.mono ?_
  rintro e w1 ⟨⟨ad, c, wl, wc, rfl, hheld, hlc, _⟩, hb1⟩
  have HWA := Lib.hid hheld
  have HB1 := Lib.hid (HB0.out.trans (hb1.mono (by omega)))
  have HA1 : Hid (w1.heap[w.heap.size]? = some (.cells #[.int .i64 0, .int .i64 0] 31 (0, 0))) := by refine (?_ : _ = _); rw [hb1.block _ (by omega)]; exact HA0.out
  have hz1 := hb1.size
  have hlc' : ws.length ≤ c := hlc
  clear hW hheld hb1 HB0 HA0 hlc
  go_wp2_with fail
  refine (hEn _).mono ?_
  rintro e w2 ⟨rfl, hb2⟩
  have hzA : (w1.alloc (.cells #[.int .i64 wl, .int .i64 wc] 31)).heap.size = w1.heap.size + 1 := by simp
  have HB2 := Lib.hid ((HB1.out.alloc HB1.out.size (.cells #[.int .i64 wl, .int .i64 wc] 31)).trans (hb2.mono (by have := HB1.out.size; omega)))
  have hz2 := hb2.size
  have HA2 : Hid (w2.heap[w.heap.size]? = some (.cells #[.int .i64 0, .int .i64 0] 31 (0, 0))) := by refine (?_ : _ = _); rw [hb2.block _ (by omega), alloc_heap_old _ _ _ (by omega)]; exact HA1.out
  have HW2 : Hid (WordsAt w2 w2.heap.size ad ws) := by
   refine (?_ : WordsAt w2 w2.heap.size ad ws)
   rcases HWA.out with hh | ⟨g, rfl, hh⟩
   ·exact .inl hh
   ·by_cases hws : ws = []
    ·exact .inl hws
    ·have hg : g < w1.heap.size := by
      cases ws with
      | nil => exact absurd rfl hws
      | cons x t => exact cell_lt (hh 0 x rfl).1
     refine .inr ⟨g, 0, rfl, by omega, fun j x hj => ?_⟩
     have eb : w2.heap[g]? = w1.heap[g]? := by rw [hb2.block g (by omega), alloc_heap_old _ _ _ hg]
     obtain ⟨x1, x2, x3, x4⟩ := hh j x hj
     rw [Nat.zero_add, Nat.zero_add, Nat.zero_add, Nat.zero_add]
     exact ⟨by rw [World.cell?_of_block eb]; exact x1, by rw [World.cell?_of_block eb]; exact x2, by rw [World.cell?_of_block eb]; exact x3, by rw [World.cell?_of_block eb]; exact x4⟩
  clear hb2 HWA HB1 HA1 hEn
  go_wp2_with fail
  have HRD : Hid (DrAt (w2.alloc (.cells #[.slice ad ws.length c, .int .i64 en.1, .int .i64 en.2, .int .i64 0, .int .i64 0, .int .i64 0] 145)) w2.heap.size en ⟨ws, 0, 0, 0⟩) :=
   ⟨⟨ad, c, alloc_heap_new _ _, hlc', HW2.out.old fun k hk => alloc_heap_old _ _ _ hk⟩, HGD.out, HFW.out⟩
  have HLF : Hid (Df w (w2.alloc (.cells #[.slice ad ws.length c, .int .i64 en.1, .int .i64 en.2, .int .i64 0, .int .i64 0, .int .i64 0] 145)) w.heap.size w2.heap.size en ⟨ws, 0, 0, 0⟩ (.slice none 0 0) [] []) :=
   ⟨HRD.out, HB2.out.alloc HB2.out.size _, by rw [alloc_heap_old _ _ _ (by omega)]; exact HA2.out, De.nil _ _ _ _, Nat.le_refl _, by omega⟩
  have hfew : ws.length ≤ 4000 := HFW.out
  clear HRD HW2 HB2 HA2 HGD HFW
  generalize w2.heap.size = R at *
  go_loopw [9] (fun v wr => ∃ (f : Nat) (q : Rd) (ds : List Dc) (rs : List (List Value)), Df w wr w.heap.size R en q v ds rs ∧ q.e = 0 ∧ q.m ≤ f ∧ ds.length + q.m ≤ 4001 ∧ DL = declsL en f q ds) (fun _ wr => rdM wr R)
  case atStart => exact ⟨ws.length + 1, ⟨ws, 0, 0, 0⟩, [], [], HLF.out, rfl, Rd.m_le _, by have := Rd.m_le ⟨ws, 0, 0, 0⟩; show 0 + _ ≤ _; have e : (Rd.mk ws 0 0 0).l.length = ws.length := rfl; omega, HDL.out.symm⟩
  case round =>
   obtain ⟨f, q, ds, rs, hLf, he, hmf, hacc, hdl⟩ := hrel
   obtain ⟨va0, vc0, rfl⟩ := own_slice hLf.decls.own
   have HDQ := Lib.hid hdl
   have HLf := Lib.hid hLf
   obtain ⟨qa, qc, hql, hqw, _, c0, c1, c2, c3, c4, c5, hqf⟩ := hLf.rd.get
   have HM0 := Lib.hid hLf.rd.m
   have hAR := hLf.lt
   have hRl := hLf.rd.lt
   clear hdl hLf hqw hqf c1 c2 c3 c4 c5
   by_cases hne : q.l = []
   ·obtain rfl : DL = (ds, q) := by rw [HDQ.out, declsL_stop en f q ds (fun hh => hh.2 hne)]
    obtain rfl : ANS = (ds, (0, 0), 0) := by rw [← HAN.out, if_pos he]
    have hA := HLf.out.ans
    have a0 := cell_at hA 0 rfl
    have a1 := cell_at hA 1 rfl
    have b0 := frozen_at hA 0
    have b1 := frozen_at hA 1
    rw [hne] at c0
    have c0' : wr.cell? ⟨R, 0, none⟩ = some (.slice qa 0 qc) := c0
    have HST : Hid (∃ Y, (wr.setCell ⟨w.heap.size, 0, none⟩ (.int .i64 0)).setCell ⟨w.heap.size, 1, none⟩ (.int .i64 0) = Y ∧ Y.cell? ⟨w.heap.size, 0, none⟩ = some (.int .i64 0) ∧ Y.cell? ⟨w.heap.size, 1, none⟩ = some (.int .i64 0) ∧ Below w.heap.size w Y ∧ (∀ b, b ≠ w.heap.size → Y.heap[b]? = wr.heap[b]?)) := by
     refine (?_ : ∃ Y, _)
     have g1 : (wr.setCell ⟨w.heap.size, 0, none⟩ (.int .i64 0)).heap[w.heap.size]? = some (.cells #[.int .i64 0, .int .i64 0] 31 (0, 0)) := setCell_heap hA _
     have g2 : ((wr.setCell ⟨w.heap.size, 0, none⟩ (.int .i64 0)).setCell ⟨w.heap.size, 1, none⟩ (.int .i64 0)).heap[w.heap.size]? = some (.cells #[.int .i64 0, .int .i64 0] 31 (0, 0)) := setCell_heap g1 _
     have g3 := (HLf.out.bel.setCell (p := ⟨w.heap.size, 0, none⟩) (Nat.le_refl _) (.int .i64 0)).setCell (p := ⟨w.heap.size, 1, none⟩) (Nat.le_refl _) (.int .i64 0)
     have g4 : ∀ b, b ≠ w.heap.size → ((wr.setCell ⟨w.heap.size, 0, none⟩ (.int .i64 0)).setCell ⟨w.heap.size, 1, none⟩ (.int .i64 0)).heap[b]? = wr.heap[b]? := fun b hb => by rw [Below.heap_setCell _ _ _ _ hb, Below.heap_setCell _ _ _ _ hb]
     generalize (wr.setCell ⟨w.heap.size, 0, none⟩ (.int .i64 0)).setCell ⟨w.heap.size, 1, none⟩ (.int .i64 0) = Y at *
     exact ⟨Y, rfl, by simp [World.cell?, g2], by simp [World.cell?, g2], g3, g4⟩
    obtain ⟨Y, hY, r0, r1, hBY, hoY⟩ := HST.out
    have HY := Lib.hid hY
    have HHD : Hid (HeldD 10 Y (fun b => b < Y.heap.size) (.slice va0 ds.length vc0) ds) := by
     refine (?_ : HeldD 10 Y _ _ _)
     have hsY : Y.heap.size = wr.heap.size := by rw [← hY]; simp
     have hd := HLf.out.decls.keep (w' := Y) (S' := AwayG R wr (.slice va0 ds.length vc0)) (fun b hb => hoY b (by have := (own_block HLf.out.decls.own b hb).1; omega)) (fun b hb => hoY b (by have := hb.1; omega)) (fun b hb => hb)
     refine hd.held (fun b hb => by rw [hsY]; exact hb.2.1) fun b hb => ?_
     rw [hsY]; exact (own_block HLf.out.decls.own b hb).2
    clear hne c0 hY hoY he hA HST
    go_wp2_with fail
    rw [HY.out]
    exact bodyPost_ret (v := .tuple #[.slice va0 ds.length vc0, .agg #[.int .i64 0, .int .i64 0], .int .i64 0]) (by simp [results, Tryz.results38, go_sem, r0, r1]) rfl ⟨⟨va0, vc0, 0, 0, rfl, HHD.out, fun h => absurd rfl h⟩, hBY⟩
   ·have hm1 : 1 ≤ q.m := by unfold Rd.m; rw [if_pos he]; omega
    obtain ⟨f, rfl⟩ : ∃ f', f = f' + 1 := ⟨f - 1, by omega⟩
    have hql0 : 0 < q.l.length := List.length_pos_iff.2 hne
    have hz : (0 : Int) < (q.l.length : Int) := by omega
    have HVO : Hid (∀ b, (Value.slice va0 ds.length vc0).ownBlock = some b → b < wr.heap.size) := fun b hb => (own_block HLf.out.decls.own b hb).2
    have hRec := declarationD_any R en q wr he HLf.out.rd
    have hmch := declS_m en q
    have HOK : Hid ((declS en q).2.e = 0 → DL = declsL en f (declS en q).2 (ds ++ [(declS en q).1])) := fun hz => by rw [HDQ.out, declsL_step en f q ds ⟨he, hne⟩, if_pos hz]
    have HNO : Hid ((declS en q).2.e ≠ 0 → DL.2 = (declS en q).2) := fun hz => by rw [HDQ.out, declsL_err en f q ds ⟨he, hne⟩ hz]
    generalize declS en q = CH at *
    clear HDQ hne
    go_wp2_with fail
    refine hRec.mono ?_
    rintro e W5 ⟨d, fa, fn, fc, va, vn, vc, ma, mn, mc, ia, inn, ic, rfl, hd, hr5, hg5, hkid⟩
    have HL5 := Lib.hid (HLf.out.step hr5 hg5)
    have hz5 := hg5.size
    have HKD : Hid (∀ ob, Kids 9 (W5.alloc ob) (AwayG R (W5.alloc ob) (.slice va0 ds.length vc0)) (.slice fa fn fc) (.slice va vn vc) (.slice ma mn mc) (.slice ia inn ic) d) := fun ob => by
     refine (hkid.old fun b hb => alloc_heap_old _ _ _ hb.2).more fun b hb => ?_
     have hb1 := hb.1
     have hb2 := hb.2
     exact ⟨by omega, by simp; omega, fun e => by have := HVO.out b e; omega⟩
    have HDD := Lib.hid hd
    clear hRec hkid hr5 hg5 c0 hd
    by_cases hce : CH.2.e = 0
    ·have hdt : decide (CH.2.e = 0) = true := decide_eq_true hce
     rw [hdt]
     obtain rfl : d = CH.1 := HDD.out hce
     have HDG := Lib.hid (HOK.out hce)
     have HLA := Lib.hid (HL5.out.alloc (.cells #[.int .i64 CH.1.kind, .string (mkB CH.1.name), .int .i64 CH.1.line, .int .i64 CH.1.col, .slice fa fn fc, .slice va vn vc, .slice ma mn mc, .slice ia inn ic] 69))
     have HKA := Lib.hid (HKD.out (.cells #[.int .i64 CH.1.kind, .string (mkB CH.1.name), .int .i64 CH.1.line, .int .i64 CH.1.col, .slice fa fn fc, .slice va vn vc, .slice ma mn mc, .slice ia inn ic] 69))
     have hnw := alloc_heap_new W5 (.cells #[.int .i64 CH.1.kind, .string (mkB CH.1.name), .int .i64 CH.1.line, .int .i64 CH.1.col, .slice fa fn fc, .slice va vn vc, .slice ma mn mc, .slice ia inn ic] 69)
     clear hdt HOK HNO HKD HDD
     go_upto_region 8 with fail
     generalize W5.alloc (.cells #[.int .i64 CH.1.kind, .string (mkB CH.1.name), .int .i64 CH.1.line, .int .i64 CH.1.col, .slice fa fn fc, .slice va vn vc, .slice ma mn mc, .slice ia inn ic] 69) = Y at *
     generalize W5.heap.size = I at *
     have p0 := cell_at hnw 0 rfl
     have p1 := cell_at hnw 1 rfl
     have p2 := cell_at hnw 2 rfl
     have p3 := cell_at hnw 3 rfl
     have p4 := cell_at hnw 4 rfl
     have p5 := cell_at hnw 5 rfl
     have p6 := cell_at hnw 6 rfl
     have p7 := cell_at hnw 7 rfl
     clear hnw
     go_wp2_with (at_builtin; refine HLA.out.push CH.1 _ _ _ _ HKA.out (by intro u hu; simp only [drow, List.mem_cons, List.not_mem_nil, or_false] at hu; rcases hu with rfl | rfl | rfl | rfl | rfl | rfl | rfl | rfl <;> rfl) rfl _ _ rfl _ rfl rfl rfl (by omega) ?_)
     intro g cap W6 hL6
     have HL6 := Lib.hid hL6
     clear hL6 p0 p1 p2 p3 p4 p5 p6 p7
     go_wp2_with fail
     go_roundw
     case rel => exact ⟨f, CH.2, ds ++ [CH.1], _, HL6.out, hce, by omega, by simp; omega, HDG.out⟩
     case measure =>
      have e1 := HL6.out.rd.m
      have e2 := HM0.out
      exact Nat.lt_of_le_of_lt (Nat.le_of_eq e1) (by rw [e2]; omega)
    ·have hdf : decide (CH.2.e = 0) = false := decide_eq_false hce
     rw [hdf]
     have hD2 := HNO.out hce
     obtain rfl : ANS = ([], (CH.2.pl, CH.2.pc), CH.2.e) := by rw [← HAN.out, hD2, if_neg hce]
     have HLA := Lib.hid (HL5.out.alloc (.cells #[.int .i64 d.kind, .string (mkB d.name), .int .i64 d.line, .int .i64 d.col, .slice fa fn fc, .slice va vn vc, .slice ma mn mc, .slice ia inn ic] 69))
     clear hdf HOK HNO HKD HDD hD2
     go_upto_region 9 with fail
     generalize W5.alloc (.cells #[.int .i64 d.kind, .string (mkB d.name), .int .i64 d.line, .int .i64 d.col, .slice fa fn fc, .slice va vn vc, .slice ma mn mc, .slice ia inn ic] 69) = Y at *
     obtain ⟨_, _, _, _, _, _, _, _, k3, k4, k5, _⟩ := HLA.out.rd.get
     have hA := HLA.out.ans
     have a0 := cell_at hA 0 rfl
     have a1 := cell_at hA 1 rfl
     have b0 := frozen_at hA 0
     have b1 := frozen_at hA 1
     have HBL := Lib.hid HLA.out.bel
     have HA := Lib.hid hA
     clear hA HLA HL5 HLf
     go_region
     all_goals
      go_wp2_with fail
      have g1 : (Y.setCell ⟨w.heap.size, 0, none⟩ (.int .i64 CH.2.pl)).heap[w.heap.size]? = some (.cells #[.int .i64 CH.2.pl, .int .i64 0] 31 (0, 0)) := setCell_heap HA.out _
      have g2 : ((Y.setCell ⟨w.heap.size, 0, none⟩ (.int .i64 CH.2.pl)).setCell ⟨w.heap.size, 1, none⟩ (.int .i64 CH.2.pc)).heap[w.heap.size]? = some (.cells #[.int .i64 CH.2.pl, .int .i64 CH.2.pc] 31 (0, 0)) := setCell_heap g1 _
      have g3 := (HBL.out.setCell (p := ⟨w.heap.size, 0, none⟩) (Nat.le_refl _) (.int .i64 CH.2.pl)).setCell (p := ⟨w.heap.size, 1, none⟩) (Nat.le_refl _) (.int .i64 CH.2.pc)
      generalize (Y.setCell ⟨w.heap.size, 0, none⟩ (.int .i64 CH.2.pl)).setCell ⟨w.heap.size, 1, none⟩ (.int .i64 CH.2.pc) = Z at *
      have r0 := cell_at g2 0 rfl
      have r1 := cell_at g2 1 rfl
      exact bodyPost_ret (v := .tuple #[.slice none 0 0, .agg #[.int .i64 CH.2.pl, .int .i64 CH.2.pc], .int .i64 CH.2.e]) (by simp [results, Tryz.results38, go_sem, r0, r1]) rfl ⟨gans_err _ _ _ _, g3.drew⟩
 ·have hfl : fileL s.data.toList = ([], (((wordsL s.data.toList).2.1.1 : Int), ((wordsL s.data.toList).2.1.2 : Int)), (wordsL s.data.toList).2.2) := by unfold fileL; rw [if_neg h0]
  rw [hfl]
  have hwe := words_err _ h0
  obtain ⟨WS, hWS⟩ : ∃ WS, wordsL s.data.toList = WS := ⟨_, rfl⟩
  rw [hWS] at hW h0 hwe ⊢
  obtain ⟨ws, ⟨PL, PC⟩, ER⟩ := WS
  have hwe' : ws = [] := hwe
  subst hwe'
  have h0e : ¬ ER = 0 := h0
  have h0' : (ER != 0) = true := by simpa using h0e
  show Calls _ _ _ _ fun e w' => GAns ([], ((PL : Int), (PC : Int)), ER) e w' ∧ _
  clear hfl h0 hwe hWS
  go_enter Tryz.func38, Tryz.ntmps38
  go_wp2_with fail
  generalize w.alloc (.cells #[.int .i64 0, .int .i64 0] 31) = V0 at *
  refine hW.mono ?_
  rintro e w1 ⟨⟨ad, c, wl, wc, rfl, _, _, hpp⟩, hb1⟩
  obtain ⟨p1, p2⟩ := hpp h0e
  have p1 : wl = (PL : Int) := p1
  have p2 : wc = (PC : Int) := p2
  subst p1 p2
  have HB1 := Lib.hid (HB0.out.trans (hb1.mono (by omega)))
  have hz1 := hb1.size
  have hA1 : ∀ o, (w1.alloc o).heap[w.heap.size]? = some (.cells #[.int .i64 0, .int .i64 0] 31 (0, 0)) := fun o => by rw [alloc_heap_old _ _ _ (by omega), hb1.block _ (by omega)]; exact HA0.out
  have HA1 := Lib.hid hA1
  clear hW hb1 hA1 h0e
  go_upto_region 3 with fail
  have q0 : (w1.alloc (.cells #[.int .i64 (PL : Int), .int .i64 (PC : Int)] 31)).cell? ⟨w1.heap.size, 0, none⟩ = some (.int .i64 (PL : Int)) := by simp
  have q1 : (w1.alloc (.cells #[.int .i64 (PL : Int), .int .i64 (PC : Int)] 31)).cell? ⟨w1.heap.size, 1, none⟩ = some (.int .i64 (PC : Int)) := by simp
  have HAV := Lib.hid (HA1.out (.cells #[.int .i64 (PL : Int), .int .i64 (PC : Int)] 31))
  have HBV := Lib.hid (HB1.out.alloc HB1.out.size (.cells #[.int .i64 (PL : Int), .int .i64 (PC : Int)] 31))
  clear HA1
  generalize w1.alloc (.cells #[.int .i64 (PL : Int), .int .i64 (PC : Int)] 31) = V at *
  have hA := HAV.out
  have a0 := cell_at hA 0 rfl
  have a1 := cell_at hA 1 rfl
  have b0 := frozen_at hA 0
  have b1 := frozen_at hA 1
  clear hA
  go_region
  all_goals
   go_wp2_with fail
   have g1 : (V.setCell ⟨w.heap.size, 0, none⟩ (.int .i64 (PL : Int))).heap[w.heap.size]? = some (.cells #[.int .i64 (PL : Int), .int .i64 0] 31 (0, 0)) := setCell_heap HAV.out _
   have g2 : ((V.setCell ⟨w.heap.size, 0, none⟩ (.int .i64 (PL : Int))).setCell ⟨w.heap.size, 1, none⟩ (.int .i64 (PC : Int))).heap[w.heap.size]? = some (.cells #[.int .i64 (PL : Int), .int .i64 (PC : Int)] 31 (0, 0)) := setCell_heap g1 _
   have g3 := (HBV.out.setCell (p := ⟨w.heap.size, 0, none⟩) (Nat.le_refl _) (.int .i64 (PL : Int))).setCell (p := ⟨w.heap.size, 1, none⟩) (Nat.le_refl _) (.int .i64 (PC : Int))
   generalize (V.setCell ⟨w.heap.size, 0, none⟩ (.int .i64 (PL : Int))).setCell ⟨w.heap.size, 1, none⟩ (.int .i64 (PC : Int)) = Y at *
   have r0 := cell_at g2 0 rfl
   have r1 := cell_at g2 1 rfl
   exact bodyPost_ret (v := .tuple #[.slice none 0 0, .agg #[.int .i64 (PL : Int), .int .i64 (PC : Int)], .int .i64 ER]) (by simp [results, Tryz.results38, go_sem, r0, r1]) rfl ⟨gans_err _ _ _ _, g3.drew⟩
end Go.Proofs.YtpojeinddnjpfaaGreatDoor
namespace Go.Proofs.YtpojeinddnjpfaaGreatDoor
set_option linter.unusedVariables false

def okB : Nat → List Dc → Bool
 | 0, _ => true
 | f + 1, ds => decide (ds.length ≤ 100000) && ds.all fun d => decide (d.fields.length ≤ 100000) && decide (d.values.length ≤ 100000) && decide (d.methods.length ≤ 100000) && decide (d.name.length ≤ 200000000) &&
   d.fields.all (fun x => decide (x.type.length ≤ 200000000) && decide (x.name.length ≤ 200000000)) && d.values.all (fun x => decide (x.name.length ≤ 200000000)) && d.methods.all (fun x => decide (x.name.length ≤ 200000000) && decide (x.inp.length ≤ 200000000) && decide (x.out.length ≤ 200000000)) && okB f d.inner
theorem okB_fit : ∀ (f : Nat) (ds : List Dc), okB f ds = true → FitD f ds ∧ TxtD f ds
 | 0, _, _ => ⟨trivial, trivial⟩
 | f + 1, ds, h => by
  rw [okB] at h
  simp only [Bool.and_eq_true, decide_eq_true_iff, List.all_eq_true] at h
  refine ⟨⟨h.1, fun d hd => ?_⟩, fun d hd => ?_⟩
  all_goals
   obtain ⟨⟨⟨⟨⟨⟨⟨a1, a2⟩, a3⟩, a4⟩, a5⟩, a6⟩, a7⟩, a8⟩ := h.2 d hd
   have hi := okB_fit f d.inner a8
  ·exact ⟨a1, a2, a3, hi.1⟩
  ·exact ⟨a4, a5, a6, fun x hx => ⟨(a7 x hx).1.1, (a7 x hx).1.2, (a7 x hx).2⟩, hi.2⟩
def awT8 : List UInt8 := [109, 101, 115, 115, 97, 103, 101, 32, 65, 32, 123, 32, 105, 110, 116, 54, 52, 32, 120, 32, 61, 32, 49, 59, 32, 125, 32, 115, 101, 114, 118, 105, 99, 101, 32, 83, 32, 123, 32, 114, 112, 99, 32, 109, 40, 65, 41, 32, 114, 101, 116, 117, 114, 110, 115, 32, 40, 65, 41, 59, 32, 125]
def awD8 : List Dc := (fileL awT8).1
theorem aw8_err : (fileL awT8).2.2 = 0 := by decide +kernel
theorem aw8_ok : okB 10 awD8 = true ∧ ctL 10 awD8 ≤ 2000 ∧ fmL 10 0 awD8 = true := by decide +kernel
theorem aw8_chk : (checkP 9 awD8 none).2 = ((0, 0), 0) ∧ (checkP 9 awD8 none).1.ms.length = 1 ∧ (checkP 9 awD8 none).1.ts.map (·.id) = [1] := by decide +kernel
theorem aw8_ms : ((tabLP 9 (noSvc awD8) (locL 10 [] awD8) (locL 10 [] awD8).length (locL 10 [] awD8)).ms.all fun m => m.fields.all fun g => decide (g.kind ≠ 10)) = true := by decide +kernel
theorem no_ring {ms : List MD} (h : (ms.all fun m => m.fields.all fun g => decide (g.kind ≠ 10)) = true) (t : Nat) : ¬ Ring ms t := by
 have hno : ∀ a b, ¬ Goes ms a b := by
  rintro a b ⟨m, hm, g, hg, hk, -, -⟩
  have h1 := List.all_eq_true.1 h m (List.mem_of_getElem? hm)
  have h2 := List.all_eq_true.1 h1 g hg
  exact of_decide_eq_true h2 hk
 intro hr
 unfold Ring at hr
 cases hr with
 | single h => exact hno _ _ h
 | tail _ h => exact hno _ _ h
theorem aw8_one {r : SC × (Int × Int) × Int} (h : CkP 9 awD8 r) : r = checkP 9 awD8 none := by
 obtain ⟨o, ho, rfl⟩ := h
 cases o with
 | none => rfl
 | some p =>
  obtain ⟨i, x, hx, hk, hr, -, -⟩ := ho
  exact absurd hr (no_ring aw8_ms _)
end Go.Proofs.YtpojeinddnjpfaaGreatDoor
