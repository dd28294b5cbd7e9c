/-
  Walks and plain words (DpH DpK).
-/
import Derived.Test.YtpojeinddnjpfaaGreatDoorM5
import Derived.Deep.RegionWith
import Derived.Deep.RegionHeldLaw
import Derived.Deep.RegionLaw
namespace Go.Proofs.YtpojeinddnjpfaaGreatDoor
set_option linter.unusedVariables false
open Go.ChangeShapes Go.WideShapes Go.ChangeAt Go.RowKit

section
variable {w0 wx:World} {R:Nat} {en:Int × Int} {q:Rd} {D:Nat} {T:TypeId} {x0 x4 x5 x6 x7:Value}
set_option maxHeartbeats 8000000 in
set_option maxRecDepth 20000 in
theorem Ig (h:Lv w0 wx R en q D T #[x0,.string ⟨#[]⟩,.int .i64 0,.int .i64 0,x4,x5,x6,x7]) (he:q.e=0) (s:ByteArray) (hs:s.data.toList≠[]) :
  Calls Tryz.prog 158 #[.pointer (some ⟨R,0,none⟩),.pointer (some ⟨D,0,none⟩),.string s] wx fun x w'=>∃ (nm:List UInt8) (pl pc:Int),x=.returned (.bool (decide ((((q.take en s.data.toList).name en).take en [123]).e=0)))∧
   ((((q.take en s.data.toList).name en).take en [123]).e=0→nm=(q.take en s.data.toList).aL∧pl=((q.take en s.data.toList).nameP en).1∧pc=((q.take en s.data.toList).nameP en).2)∧
   Lv w0 w' R en (((q.take en s.data.toList).name en).take en [123]) D T #[x0,.string (aC nm),.int .i64 pl,.int .i64 pc,x4,x5,x6,x7]:=by
 have hW:=fun W hW=>dY (w0:=w0) (R:=R) (en:=en) (q:=q) (D:=D) (T:=T) (cs:=#[x0,.string ⟨#[]⟩,.int .i64 0,.int .i64 0,x4,x5,x6,x7]) (wx:=W) hW he s hs
 have hE1:=Rd.jP en he s.data.toList
 generalize q.take en s.data.toList=q1 at *
 by_cases hi:q.is s.data.toList=true
 ·rw[hi]at hW hE1
  have Rp:q1.e=0:=of_decide_eq_true hE1
  have hN:=fun W hW=>Au (w0:=w0) (R:=R) (en:=en) (q:=q1) (D:=D) (T:=T) (cs:=#[x0,.string ⟨#[]⟩,.int .i64 0,.int .i64 0,x4,x5,x6,x7]) (wx:=W) hW Rp 1 2 (by simp) (by simp) (by decide)
  have hE2:=Rd.sI en Rp
  have hNC:yX en q1 #[x0,.string ⟨#[]⟩,.int .i64 0,.int .i64 0,x4,x5,x6,x7] 1 2=if q1.isName=true then #[x0,.string (aC q1.aL),.int .i64 (q1.nameP en).1,.int .i64 (q1.nameP en).2,x4,x5,x6,x7] else #[x0,.string ⟨#[]⟩,.int .i64 0,.int .i64 0,x4,x5,x6,x7]:=rfl
  rw[hNC]at hN
  generalize q1.name en=q2 at *
  by_cases hi2:q1.isName=true
  ·rw[hi2,if_pos rfl]at hN
   rw[hi2]at hE2
   have Oe:q2.e=0:=of_decide_eq_true hE2
   have Of:=Rd.jP en Oe [123]
   have hV:=fun W hW=>dY (w0:=w0) (R:=R) (en:=en) (q:=q2) (D:=D) (T:=T) (cs:=#[x0,.string (aC q1.aL),.int .i64 (q1.nameP en).1,.int .i64 (q1.nameP en).2,x4,x5,x6,x7]) (wx:=W) hW Oe ⟨#[123]⟩ (by decide)
   have aJn:(ByteArray.mk #[123]).data.toList=[123]:=rfl
   rw[aJn]at hV
   rw[Of]
   have HL:=aB h
   clear hi hE1 aJn hi2 h hNC hE2
   go_enter Tryz.func158,Tryz.ntmps158
   go_wp2_with fail
   refine wp_region_any (by kernel_rfl) ?_
   change wpAny _ _ _ _ _ _ _ (World.drew _)
   refine wpAny_take (i:=0) (v:=.pointer (some ⟨R,0,none⟩)) rfl (by kernel_rfl) (by kernel_rfl) (by kernel_rfl) (fun _ _ _ h=>h) (.inl ⟨by kernel_rfl,fun W=>by go_simp⟩) ?_
   refine wpAny_take (i:=1) (v:=.string s) rfl (by kernel_rfl) (by kernel_rfl) (by kernel_rfl) (fun _ _ _ h=>h) (.inl ⟨by kernel_rfl,fun W=>by go_simp⟩) ?_
   refine wpAny_ready (rs:=[2]) (by kernel_rfl) (by simp) (AllReady.cons rfl (fun K hK=>?_) AllReady.nil)
   go_simp
   refine(hW _ HL.out.drew).mono ?_
   rintro e W1 ⟨rfl,h1⟩
   dsimp only
   refine hK _ _ ?_
   clear hK K
   refine wpAny_take (i:=3) (v:=.bool true) rfl (by kernel_rfl) (by kernel_rfl) (by kernel_rfl) (fun _ _ _ h=>h) (.inl ⟨by kernel_rfl,fun W=>by go_simp⟩) ?_
   refine wpAny_take (i:=4) (v:=.pointer (some ⟨R,0,none⟩)) rfl (by kernel_rfl) (by kernel_rfl) (by kernel_rfl) (fun _ _ _ h=>h) (.inl ⟨by kernel_rfl,fun W=>by go_simp⟩) ?_
   refine wpAny_take (i:=5) (v:=.pointer (some ⟨D,0,none⟩)) rfl (by kernel_rfl) (by kernel_rfl) (by kernel_rfl) (fun _ _ _ h=>h) (.inl ⟨by kernel_rfl,fun W=>by go_simp⟩) ?_
   refine wpAny_take (i:=6) (v:=.pointer (some ⟨D,0,none⟩)) rfl (by kernel_rfl) (by kernel_rfl) (by kernel_rfl) (fun _ _ _ h=>h) (.inl ⟨by kernel_rfl,fun W=>by go_simp⟩) ?_
   refine wpAny_take (i:=7) (v:=.pointer (some ⟨D,1,none⟩)) rfl (by kernel_rfl) (by kernel_rfl) (by kernel_rfl) (fun _ _ _ h=>h) (.inl ⟨by kernel_rfl,fun W=>by go_simp⟩) ?_
   refine wpAny_take (i:=8) (v:=.pointer (some ⟨D,0,none⟩)) rfl (by kernel_rfl) (by kernel_rfl) (by kernel_rfl) (fun _ _ _ h=>h) (.inl ⟨by kernel_rfl,fun W=>by go_simp⟩) ?_
   refine wpAny_take (i:=9) (v:=.pointer (some ⟨D,0,none⟩)) rfl (by kernel_rfl) (by kernel_rfl) (by kernel_rfl) (fun _ _ _ h=>h) (.inl ⟨by kernel_rfl,fun W=>by go_simp⟩) ?_
   refine wpAny_take (i:=10) (v:=.pointer (some ⟨D,2,none⟩)) rfl (by kernel_rfl) (by kernel_rfl) (by kernel_rfl) (fun _ _ _ h=>h) (.inl ⟨by kernel_rfl,fun W=>by go_simp⟩) ?_
   refine wpAny_ready (rs:=[11]) (by kernel_rfl) (by simp) (AllReady.cons rfl (fun K hK=>?_) AllReady.nil)
   go_simp
   refine(hN _ h1).mono ?_
   rintro e W2 ⟨rfl,h2⟩
   dsimp only
   refine hK _ _ ?_
   clear hK K
   refine wpAny_take (i:=12) (v:=.bool true) rfl (by kernel_rfl) (by kernel_rfl) (by kernel_rfl) (fun _ _ _ h=>h) (.inl ⟨by kernel_rfl,fun W=>by go_simp⟩) ?_
   refine wpAny_take (i:=13) (v:=.bool true) rfl (by kernel_rfl) (by kernel_rfl) (by kernel_rfl) (fun _ _ _ h=>h) (.inl ⟨by kernel_rfl,fun W=>by go_simp⟩) ?_
   refine wpAny_take (i:=14) (v:=.pointer (some ⟨R,0,none⟩)) rfl (by kernel_rfl) (by kernel_rfl) (by kernel_rfl) (fun _ _ _ h=>h) (.inl ⟨by kernel_rfl,fun W=>by go_simp⟩) ?_
   refine wpAny_ready (rs:=[15]) (by kernel_rfl) (by simp) (AllReady.cons rfl (fun K hK=>?_) AllReady.nil)
   go_simp
   refine(hV _ h2).mono ?_
   rintro e W3 ⟨rfl,h3⟩
   dsimp only
   refine hK _ _ ?_
   clear hK K
   refine wpAny_take (i:=16) (v:=.bool (q2.is [123])) rfl (by kernel_rfl) (by kernel_rfl) (by kernel_rfl) (fun _ _ _ h=>h) (.inl ⟨by kernel_rfl,fun W=>by go_simp⟩) ?_
   refine wpAny_take (i:=17) (v:=.bool (q2.is [123])) rfl (by kernel_rfl) (by kernel_rfl) (by kernel_rfl) (fun _ _ _ h=>h) (.inl ⟨by kernel_rfl,fun W=>by go_simp⟩) ?_
   refine wpAny_done (by kernel_rfl) ?_ _
   go_wp2_with fail
   exact bodyPost_ret (v:=.bool (q2.is [123])) (by kernel_rfl) (by kernel_rfl) ⟨q1.aL,_,_,rfl,fun _=>⟨rfl,rfl,rfl⟩,h3⟩
  ·have aDs:q1.isName=false:=by simpa using hi2
   rw[aDs,if_neg (by decide)]at hN
   rw[aDs]at hE2
   have Oe:q2.e≠0:=of_decide_eq_false hE2
   rw[Rd.aP en Oe,hE2]
   have HL:=aB h
   clear hi hE1 hi2 aDs h hNC hE2
   go_enter Tryz.func158,Tryz.ntmps158
   go_wp2_with fail
   refine wp_region_any (by kernel_rfl) ?_
   change wpAny _ _ _ _ _ _ _ (World.drew _)
   refine wpAny_take (i:=0) (v:=.pointer (some ⟨R,0,none⟩)) rfl (by kernel_rfl) (by kernel_rfl) (by kernel_rfl) (fun _ _ _ h=>h) (.inl ⟨by kernel_rfl,fun W=>by go_simp⟩) ?_
   refine wpAny_take (i:=1) (v:=.string s) rfl (by kernel_rfl) (by kernel_rfl) (by kernel_rfl) (fun _ _ _ h=>h) (.inl ⟨by kernel_rfl,fun W=>by go_simp⟩) ?_
   refine wpAny_ready (rs:=[2]) (by kernel_rfl) (by simp) (AllReady.cons rfl (fun K hK=>?_) AllReady.nil)
   go_simp
   refine(hW _ HL.out.drew).mono ?_
   rintro e W1 ⟨rfl,h1⟩
   dsimp only
   refine hK _ _ ?_
   clear hK K
   refine wpAny_take (i:=3) (v:=.bool true) rfl (by kernel_rfl) (by kernel_rfl) (by kernel_rfl) (fun _ _ _ h=>h) (.inl ⟨by kernel_rfl,fun W=>by go_simp⟩) ?_
   refine wpAny_take (i:=4) (v:=.pointer (some ⟨R,0,none⟩)) rfl (by kernel_rfl) (by kernel_rfl) (by kernel_rfl) (fun _ _ _ h=>h) (.inl ⟨by kernel_rfl,fun W=>by go_simp⟩) ?_
   refine wpAny_take (i:=5) (v:=.pointer (some ⟨D,0,none⟩)) rfl (by kernel_rfl) (by kernel_rfl) (by kernel_rfl) (fun _ _ _ h=>h) (.inl ⟨by kernel_rfl,fun W=>by go_simp⟩) ?_
   refine wpAny_take (i:=6) (v:=.pointer (some ⟨D,0,none⟩)) rfl (by kernel_rfl) (by kernel_rfl) (by kernel_rfl) (fun _ _ _ h=>h) (.inl ⟨by kernel_rfl,fun W=>by go_simp⟩) ?_
   refine wpAny_take (i:=7) (v:=.pointer (some ⟨D,1,none⟩)) rfl (by kernel_rfl) (by kernel_rfl) (by kernel_rfl) (fun _ _ _ h=>h) (.inl ⟨by kernel_rfl,fun W=>by go_simp⟩) ?_
   refine wpAny_take (i:=8) (v:=.pointer (some ⟨D,0,none⟩)) rfl (by kernel_rfl) (by kernel_rfl) (by kernel_rfl) (fun _ _ _ h=>h) (.inl ⟨by kernel_rfl,fun W=>by go_simp⟩) ?_
   refine wpAny_take (i:=9) (v:=.pointer (some ⟨D,0,none⟩)) rfl (by kernel_rfl) (by kernel_rfl) (by kernel_rfl) (fun _ _ _ h=>h) (.inl ⟨by kernel_rfl,fun W=>by go_simp⟩) ?_
   refine wpAny_take (i:=10) (v:=.pointer (some ⟨D,2,none⟩)) rfl (by kernel_rfl) (by kernel_rfl) (by kernel_rfl) (fun _ _ _ h=>h) (.inl ⟨by kernel_rfl,fun W=>by go_simp⟩) ?_
   refine wpAny_ready (rs:=[11]) (by kernel_rfl) (by simp) (AllReady.cons rfl (fun K hK=>?_) AllReady.nil)
   go_simp
   refine(hN _ h1).mono ?_
   rintro e W2 ⟨rfl,h2⟩
   dsimp only
   refine hK _ _ ?_
   clear hK K
   refine wpAny_take (i:=12) (v:=.bool false) rfl (by kernel_rfl) (by kernel_rfl) (by kernel_rfl) (fun _ _ _ h=>h) (.inl ⟨by kernel_rfl,fun W=>by go_simp⟩) ?_
   refine wpAny_take (i:=13) (v:=.bool false) rfl (by kernel_rfl) (by kernel_rfl) (by kernel_rfl) (fun _ _ _ h=>h) (.inl ⟨by kernel_rfl,fun W=>by go_simp⟩) ?_
   refine wpAny_take (i:=14) (v:=undef) rfl (by kernel_rfl) (by kernel_rfl) (by kernel_rfl) (fun _ _ _ h=>h) (.inr ⟨by kernel_rfl,rfl⟩) ?_
   refine wpAny_take (i:=15) (v:=undef) rfl (by kernel_rfl) (by kernel_rfl) (by kernel_rfl) (fun _ _ _ h=>h) (.inr ⟨by kernel_rfl,rfl⟩) ?_
   refine wpAny_take (i:=16) (v:=.bool false) rfl (by kernel_rfl) (by kernel_rfl) (by kernel_rfl) (fun _ _ _ h=>h) (.inl ⟨by kernel_rfl,fun W=>by go_simp⟩) ?_
   refine wpAny_take (i:=17) (v:=.bool false) rfl (by kernel_rfl) (by kernel_rfl) (by kernel_rfl) (fun _ _ _ h=>h) (.inl ⟨by kernel_rfl,fun W=>by go_simp⟩) ?_
   refine wpAny_done (by kernel_rfl) ?_ _
   go_wp2_with fail
   exact bodyPost_ret (v:=.bool false) (by kernel_rfl) (by kernel_rfl) ⟨[],0,0,rfl,fun hx=>absurd hx Oe,h2⟩
 ·have hi':q.is s.data.toList=false:=by simpa using hi
  rw[hi']at hW hE1
  have Rp:q1.e≠0:=of_decide_eq_false hE1
  rw[Rd.lF en Rp,Rd.aP en Rp,hE1]
  have HL:=aB h
  clear hi hi' hE1 h
  go_enter Tryz.func158,Tryz.ntmps158
  go_wp2_with fail
  refine wp_region_any (by kernel_rfl) ?_
  change wpAny _ _ _ _ _ _ _ (World.drew _)
  refine wpAny_take (i:=0) (v:=.pointer (some ⟨R,0,none⟩)) rfl (by kernel_rfl) (by kernel_rfl) (by kernel_rfl) (fun _ _ _ h=>h) (.inl ⟨by kernel_rfl,fun W=>by go_simp⟩) ?_
  refine wpAny_take (i:=1) (v:=.string s) rfl (by kernel_rfl) (by kernel_rfl) (by kernel_rfl) (fun _ _ _ h=>h) (.inl ⟨by kernel_rfl,fun W=>by go_simp⟩) ?_
  refine wpAny_ready (rs:=[2]) (by kernel_rfl) (by simp) (AllReady.cons rfl (fun K hK=>?_) AllReady.nil)
  go_simp
  refine(hW _ HL.out.drew).mono ?_
  rintro e W1 ⟨rfl,h1⟩
  dsimp only
  refine hK _ _ ?_
  clear hK K
  refine wpAny_take (i:=3) (v:=.bool false) rfl (by kernel_rfl) (by kernel_rfl) (by kernel_rfl) (fun _ _ _ h=>h) (.inl ⟨by kernel_rfl,fun W=>by go_simp⟩) ?_
  refine wpAny_take (i:=4) (v:=undef) rfl (by kernel_rfl) (by kernel_rfl) (by kernel_rfl) (fun _ _ _ h=>h) (.inr ⟨by kernel_rfl,rfl⟩) ?_
  refine wpAny_take (i:=5) (v:=undef) rfl (by kernel_rfl) (by kernel_rfl) (by kernel_rfl) (fun _ _ _ h=>h) (.inr ⟨by kernel_rfl,rfl⟩) ?_
  refine wpAny_take (i:=6) (v:=undef) rfl (by kernel_rfl) (by kernel_rfl) (by kernel_rfl) (fun _ _ _ h=>h) (.inr ⟨by kernel_rfl,rfl⟩) ?_
  refine wpAny_take (i:=7) (v:=undef) rfl (by kernel_rfl) (by kernel_rfl) (by kernel_rfl) (fun _ _ _ h=>h) (.inr ⟨by kernel_rfl,rfl⟩) ?_
  refine wpAny_take (i:=8) (v:=undef) rfl (by kernel_rfl) (by kernel_rfl) (by kernel_rfl) (fun _ _ _ h=>h) (.inr ⟨by kernel_rfl,rfl⟩) ?_
  refine wpAny_take (i:=9) (v:=undef) rfl (by kernel_rfl) (by kernel_rfl) (by kernel_rfl) (fun _ _ _ h=>h) (.inr ⟨by kernel_rfl,rfl⟩) ?_
  refine wpAny_take (i:=10) (v:=undef) rfl (by kernel_rfl) (by kernel_rfl) (by kernel_rfl) (fun _ _ _ h=>h) (.inr ⟨by kernel_rfl,rfl⟩) ?_
  refine wpAny_take (i:=11) (v:=undef) rfl (by kernel_rfl) (by kernel_rfl) (by kernel_rfl) (fun _ _ _ h=>h) (.inr ⟨by kernel_rfl,rfl⟩) ?_
  refine wpAny_take (i:=12) (v:=.bool false) rfl (by kernel_rfl) (by kernel_rfl) (by kernel_rfl) (fun _ _ _ h=>h) (.inl ⟨by kernel_rfl,fun W=>by go_simp⟩) ?_
  refine wpAny_take (i:=13) (v:=.bool false) rfl (by kernel_rfl) (by kernel_rfl) (by kernel_rfl) (fun _ _ _ h=>h) (.inl ⟨by kernel_rfl,fun W=>by go_simp⟩) ?_
  refine wpAny_take (i:=14) (v:=undef) rfl (by kernel_rfl) (by kernel_rfl) (by kernel_rfl) (fun _ _ _ h=>h) (.inr ⟨by kernel_rfl,rfl⟩) ?_
  refine wpAny_take (i:=15) (v:=undef) rfl (by kernel_rfl) (by kernel_rfl) (by kernel_rfl) (fun _ _ _ h=>h) (.inr ⟨by kernel_rfl,rfl⟩) ?_
  refine wpAny_take (i:=16) (v:=.bool false) rfl (by kernel_rfl) (by kernel_rfl) (by kernel_rfl) (fun _ _ _ h=>h) (.inl ⟨by kernel_rfl,fun W=>by go_simp⟩) ?_
  refine wpAny_take (i:=17) (v:=.bool false) rfl (by kernel_rfl) (by kernel_rfl) (by kernel_rfl) (fun _ _ _ h=>h) (.inl ⟨by kernel_rfl,fun W=>by go_simp⟩) ?_
  refine wpAny_done (by kernel_rfl) ?_ _
  go_wp2_with fail
  exact bodyPost_ret (v:=.bool false) (by kernel_rfl) (by kernel_rfl) ⟨[],0,0,rfl,fun hx=>absurd hx Rp,h1⟩
end
structure Do (w0 wx:World) (R:Nat) (en:Int × Int) (q:Rd) (T:TypeId) (za cs:Array Value):Prop where
 rd:bW wx R en q
 gr:w0.grownBy wx (some R)
 ans:wx.heap[w0.heap.size]? = some (.cells za T (0,0))
 loc:wx.heap[w0.heap.size+1]? = some (.cells cs T (0,0))
 lt:R<w0.heap.size
section
variable {w0 wx w':World} {R:Nat} {en:Int × Int} {q q':Rd} {T:TypeId} {za cs:Array Value}
theorem Do.size (h:Do w0 wx R en q T za cs):w0.heap.size+2≤wx.heap.size:=by
 have:=(Array.getElem?_eq_some_iff.1 h.loc).1;omega
theorem Do.step (h:Do w0 wx R en q T za cs) (hr:bW w' R en q') (hg:wx.grownBy w' (some R)):Do w0 w' R en q' T za cs:=by
 have hs:=h.size
 have hl:=h.lt
 exact⟨hr,h.gr.trans hg,by rw[hg.block _ (by omega) (by intro e;cases e;omega)];exact h.ans,by rw[hg.block _ (by omega) (by intro e;cases e;omega)];exact h.loc,hl⟩
theorem Do.below (h:Do w0 wx R en q T za cs) (hb:Below wx.heap.size wx w'):Do w0 w' R en q T za cs:=h.step (h.rd.below hb) (grownBy_below hb _)
theorem Do.alloc (h:Do w0 wx R en q T za cs) (o:Obj):Do w0 (wx.alloc o) R en q T za cs:=h.step (h.rd.alloc o) (World.grownBy_alloc _ _ _)
theorem Do.drew (h:Do w0 wx R en q T za cs):Do w0 wx.drew R en q T za cs:=h.step h.rd.drew (grownBy_drew _ _)
theorem Do.set (h:Do w0 wx R en q T za cs) (j:Nat) (x:Value):Do w0 (wx.setCell ⟨w0.heap.size+1,j,none⟩ x) R en q T za (cs.setIfInBounds j x):=by
 have hl:=h.lt
 refine⟨h.rd.far _ _ (by omega) _,cT h.gr (grownBy_set _ _ _ _) (fun k hk=>by cases hk;left;omega),?_,aG h.loc _,hl⟩
 rw[Below.heap_setCell _ _ _ _ (by show w0.heap.size≠w0.heap.size+1;omega)];exact h.ans
theorem Do.far (h:Do w0 wx R en q T za cs) (g j:Nat) (hg:w0.heap.size+2≤g) (x:Value):Do w0 (wx.setCell ⟨g,j,none⟩ x) R en q T za cs:=by
 have hl:=h.lt
 refine⟨h.rd.far _ _ (by omega) _,cT h.gr (grownBy_set _ _ _ _) (fun k hk=>by cases hk;left;omega),?_,?_,hl⟩
 ·rw[Below.heap_setCell _ _ _ _ (by show w0.heap.size≠g;omega)];exact h.ans
 ·rw[Below.heap_setCell _ _ _ _ (by show w0.heap.size+1≠g;omega)];exact h.loc
theorem Do.cell (h:Do w0 wx R en q T za cs) (j:Nat):wx.cell? ⟨w0.heap.size+1,j,none⟩=cs[j]?∧wx.frozen? ⟨w0.heap.size+1,j,none⟩=false∧wx.cell? ⟨w0.heap.size,j,none⟩=za[j]?∧wx.frozen? ⟨w0.heap.size,j,none⟩=false:=by
 simp[World.cell?,World.frozen?,h.loc,h.ans]
theorem Do.tail (h:Do w0 wx R en q T za cs) {sL:Option Addr} {n c:Nat} (hr:bW (wx.setCell ⟨R,0,none⟩ (.slice sL n c)) R en q'):Do w0 (wx.setCell ⟨R,0,none⟩ (.slice sL n c)) R en q' T za cs:=h.step hr (grownBy_set _ _ _ _)
theorem Do.start (w:World) {R:Nat} {en:Int × Int} {r:Rd} (h:bW w R en r) (T:TypeId) (za cs:Array Value):Do w ((w.alloc (.cells za T)).alloc (.cells cs T)) R en r T za cs:=by
 have hl:=h.lt
 have e1:(w.alloc (.cells za T)).heap.size=w.heap.size+1:=by simp
 refine⟨(h.alloc _).alloc _,(World.grownBy_alloc _ _ _).trans (World.grownBy_alloc _ _ _),?_,?_,hl⟩
 ·rw[aD _ _ _ (by rw[e1];omega)];exact alloc_heap_new _ _
 ·rw[←e1];exact alloc_heap_new _ _
end
structure Dl (w0 wx:World) (R:Nat) (en:Int × Int) (q:Rd) (T:TypeId) (za cs:Array Value) (E:TypeId) (k:Nat) (v:Value) (n:Nat) (xs:List Value):Prop where
 lo:Do w0 wx R en q T za cs
 own:wx.ownsRow (w0.heap.size+2) E k v n xs
section
variable {w0 wx w':World} {R:Nat} {en:Int × Int} {q q':Rd} {T:TypeId} {za cs:Array Value} {E:TypeId} {k:Nat} {v:Value} {n:Nat} {xs:List Value}
theorem Dl.step (h:Dl w0 wx R en q T za cs E k v n xs) (hr:bW w' R en q') (hg:wx.grownBy w' (some R)):Dl w0 w' R en q' T za cs E k v n xs:=by
 have hl:=h.lo.lt
 refine⟨h.lo.step hr hg,aR h.own fun b hb=>hg.block b (aE h.own b hb).2 ?_⟩
 intro e;cases e
 have:=(aE h.own R hb).1
 omega
theorem Dl.below (h:Dl w0 wx R en q T za cs E k v n xs) (hb:Below wx.heap.size wx w'):Dl w0 w' R en q T za cs E k v n xs:=h.step (h.lo.rd.below hb) (grownBy_below hb _)
theorem Dl.alloc (h:Dl w0 wx R en q T za cs E k v n xs) (o:Obj):Dl w0 (wx.alloc o) R en q T za cs E k v n xs:=h.step (h.lo.rd.alloc o) (World.grownBy_alloc _ _ _)
theorem Dl.far (h:Dl w0 wx R en q T za cs E k v n xs) (g j:Nat) (hg:w0.heap.size+2≤g) (hne:v.ownBlock≠some g) (x:Value):Dl w0 (wx.setCell ⟨g,j,none⟩ x) R en q T za cs E k v n xs:=
 ⟨h.lo.far g j hg x,aR h.own fun b hb=>Below.heap_setCell _ _ _ _ (fun e=>hne (by rw[hb];exact congrArg some e))⟩
theorem Dl.set (h:Dl w0 wx R en q T za cs E k v n xs) (j:Nat) (x:Value):Dl w0 (wx.setCell ⟨w0.heap.size+1,j,none⟩ x) R en q T za (cs.setIfInBounds j x) E k v n xs:=
 ⟨h.lo.set j x,aR h.own fun b hb=>Below.heap_setCell _ _ _ _ (fun e=>by have h1:=(aE h.own b hb).1;have e':b=w0.heap.size+1:=e;omega)⟩
theorem Dl.push (h:Dl w0 wx R en q T za cs E k v n xs) {ops:Array Oper} {rest:List Oper} {o:Oper} {a:Act} {Q:Exit→Act→World→Prop} (hgd:o.guard=none) (s' x':Operand) (t:TypeId)
  (ho:o.op=.call { callee:=.builtin .append,args:=#[s',x'],argTypes:=#[t,t] }) (ht:Tryz.prog.underlying t=some (.slice E)) (z:Value) (bytes:Nat)
  (hi:(Tryz.prog.info? E).map (fun i=>(i.zero,i.size,i.bytes))=some (some z,k,bytes)) (hzs:z.cells.size=k) (hk0:0<k) (row:List Value) (hrow:row.length=k) (hone:∀ u∈row,u.oneCell'=true)
  (nO:Array Value) (hcs:nO=row.toArray) (hs:a.eval s'=v) (hx:a.eval x'=.slice (some ⟨wx.heap.size,0,none⟩) 1 1) (hbd:n≤100000) (hby:bytes≤1000)
  (hk:∀ g cap W,Dl w0 W R en q T za cs E k (.slice (some ⟨g,0,none⟩) (n+1) cap) (n+1) (xs++row)→wpList Tryz.prog ops Q rest (a.put o.dst (.slice (some ⟨g,0,none⟩) (n+1) cap)) W) :
  wpList Tryz.prog ops Q (o :: rest) a (wx.alloc (.cells nO E)):=by
 subst hcs
 have hsz:=h.lo.size
 have hl:=h.lo.lt
 have ha:=h.alloc (.cells row.toArray E)
 obtain⟨i0,hi0,hz0,hz1,hz2⟩:=info_parts hi
 have hmul:(n+1)*bytes≤100001*1000:=Nat.mul_le_mul (by omega) hby
 refine wpList_append_lies _ hgd s' x' t ho (w0.heap.size+2) E i0 z k bytes ht hi0 hz0 hz1 hz2 hzs hk0 v n xs hs ha.own ⟨wx.heap.size,0,none⟩ 1 1 row hx (by rw[hrow];omega) ?_ hone (by decide) (by unfold maxLen;omega) (by omega) (by simp;omega) _ rfl ?_
 ·exact World.news_of_block (cs:=row.toArray) (t:=E) (fr:=(0,0)) (by show (wx.heap.push _)[wx.heap.size]? = _;simp)
 ·intro g cap W hown hg _ _
  refine hk g cap W ⟨?_,hown⟩
  have hb:∀ b,b<w0.heap.size+2→W.heap[b]? = (wx.alloc (.cells row.toArray E)).heap[b]?:=fun b hb=>hg.block b (by simp;omega) (fun e=>by have:=(aE h.own b e.symm).1;omega)
  refine⟨ha.lo.rd.old fun b hb'=>hb b (by omega),cT ha.lo.gr hg (fun b hb'=>by left;have:=(aE h.own b hb').1;omega),?_,?_,hl⟩
  ·rw[hb _ (by omega)];exact ha.lo.ans
  ·rw[hb _ (by omega)];exact ha.lo.loc
end
theorem Ze:(Tryz.prog.info? 74).map (fun i=>(i.zero,i.size,i.bytes))=some (some (.agg #[.string ⟨#[]⟩,.int .i64 0,.int .i64 0,.int .i64 0]),4,40):=by kernel_rfl
theorem Do.cV {w0 wx:World} {R:Nat} {en:Int × Int} {q:Rd} {T:TypeId} {x0 x1 x2 x3 x4 x5 x6 x7:Value} (h:Do w0 wx R en q T z8 #[x0,x1,x2,x3,x4,x5,x6,x7]) :
  (wx.cell? ⟨w0.heap.size+1,0,none⟩=some x0∧wx.cell? ⟨w0.heap.size+1,1,none⟩=some x1∧wx.cell? ⟨w0.heap.size+1,2,none⟩=some x2∧wx.cell? ⟨w0.heap.size+1,3,none⟩=some x3∧wx.cell? ⟨w0.heap.size+1,4,none⟩=some x4∧wx.cell? ⟨w0.heap.size+1,5,none⟩=some x5∧wx.cell? ⟨w0.heap.size+1,6,none⟩=some x6∧wx.cell? ⟨w0.heap.size+1,7,none⟩=some x7)∧
  (wx.cell? ⟨w0.heap.size,0,none⟩=some (.int .i64 0)∧wx.cell? ⟨w0.heap.size,1,none⟩=some (.string ⟨#[]⟩)∧wx.cell? ⟨w0.heap.size,2,none⟩=some (.int .i64 0)∧wx.cell? ⟨w0.heap.size,3,none⟩=some (.int .i64 0)∧wx.cell? ⟨w0.heap.size,4,none⟩=some (.slice none 0 0)∧wx.cell? ⟨w0.heap.size,5,none⟩=some (.slice none 0 0)∧wx.cell? ⟨w0.heap.size,6,none⟩=some (.slice none 0 0)∧wx.cell? ⟨w0.heap.size,7,none⟩=some (.slice none 0 0))∧
  (∀ j,wx.frozen? ⟨w0.heap.size,j,none⟩=false)∧(∀ j,wx.frozen? ⟨w0.heap.size+1,j,none⟩=false):=by
 have hl:=h.loc
 have ha:=h.ans
 refine⟨⟨?_,?_,?_,?_,?_,?_,?_,?_⟩,⟨?_,?_,?_,?_,?_,?_,?_,?_⟩,?_,?_⟩
 all_goals simp[World.cell?,World.frozen?,hl,ha]
theorem Do.sN {w0 wx:World} {R:Nat} {en:Int × Int} {q:Rd} {T:TypeId} {x0 x1 x2 x3 x4 x5 x6 x7:Value} (h:Do w0 wx R en q T z8 #[x0,x1,x2,x3,x4,x5,x6,x7]) :
  ∃ Y,((((((((wx.setCell ⟨w0.heap.size,0,none⟩ x0).setCell ⟨w0.heap.size,1,none⟩ x1).setCell ⟨w0.heap.size,2,none⟩ x2).setCell ⟨w0.heap.size,3,none⟩ x3).setCell ⟨w0.heap.size,4,none⟩ x4).setCell ⟨w0.heap.size,5,none⟩ x5).setCell ⟨w0.heap.size,6,none⟩ x6).setCell ⟨w0.heap.size,7,none⟩ x7)=Y∧bW Y R en q∧w0.grownBy Y (some R)∧(∀ b,b≠w0.heap.size→Y.heap[b]? = wx.heap[b]?)∧
   (Y.cell? ⟨w0.heap.size,0,none⟩=some x0∧Y.cell? ⟨w0.heap.size,1,none⟩=some x1∧Y.cell? ⟨w0.heap.size,2,none⟩=some x2∧Y.cell? ⟨w0.heap.size,3,none⟩=some x3∧Y.cell? ⟨w0.heap.size,4,none⟩=some x4∧Y.cell? ⟨w0.heap.size,5,none⟩=some x5∧Y.cell? ⟨w0.heap.size,6,none⟩=some x6∧Y.cell? ⟨w0.heap.size,7,none⟩=some x7):=by
 have hl:=h.lt
 have s8:=aDn h.ans x0 x1 x2 x3 x4 x5 x6 x7
 have ho:∀ b,b≠w0.heap.size→((((((((wx.setCell ⟨w0.heap.size,0,none⟩ x0).setCell ⟨w0.heap.size,1,none⟩ x1).setCell ⟨w0.heap.size,2,none⟩ x2).setCell ⟨w0.heap.size,3,none⟩ x3).setCell ⟨w0.heap.size,4,none⟩ x4).setCell ⟨w0.heap.size,5,none⟩ x5).setCell ⟨w0.heap.size,6,none⟩ x6).setCell ⟨w0.heap.size,7,none⟩ x7).heap[b]? = wx.heap[b]?:=fun b hb=>by
  rw[Below.heap_setCell _ _ _ _ hb,Below.heap_setCell _ _ _ _ hb,Below.heap_setCell _ _ _ _ hb,Below.heap_setCell _ _ _ _ hb,Below.heap_setCell _ _ _ _ hb,Below.heap_setCell _ _ _ _ hb,Below.heap_setCell _ _ _ _ hb,Below.heap_setCell _ _ _ _ hb]
 have hg:wx.grownBy ((((((((wx.setCell ⟨w0.heap.size,0,none⟩ x0).setCell ⟨w0.heap.size,1,none⟩ x1).setCell ⟨w0.heap.size,2,none⟩ x2).setCell ⟨w0.heap.size,3,none⟩ x3).setCell ⟨w0.heap.size,4,none⟩ x4).setCell ⟨w0.heap.size,5,none⟩ x5).setCell ⟨w0.heap.size,6,none⟩ x6).setCell ⟨w0.heap.size,7,none⟩ x7) (some w0.heap.size):=(((((((grownBy_set _ _ _ _).trans (grownBy_set _ _ _ _)).trans (grownBy_set _ _ _ _)).trans (grownBy_set _ _ _ _)).trans (grownBy_set _ _ _ _)).trans (grownBy_set _ _ _ _)).trans (grownBy_set _ _ _ _)).trans (grownBy_set _ _ _ _)
 generalize ((((((((wx.setCell ⟨w0.heap.size,0,none⟩ x0).setCell ⟨w0.heap.size,1,none⟩ x1).setCell ⟨w0.heap.size,2,none⟩ x2).setCell ⟨w0.heap.size,3,none⟩ x3).setCell ⟨w0.heap.size,4,none⟩ x4).setCell ⟨w0.heap.size,5,none⟩ x5).setCell ⟨w0.heap.size,6,none⟩ x6).setCell ⟨w0.heap.size,7,none⟩ x7)=Y at *
 refine⟨Y,rfl,h.rd.old fun k hk=>ho k (by omega),cT h.gr hg (fun k hk=>by cases hk;exact .inl (Nat.le_refl _)),ho,?_⟩
 refine⟨?_,?_,?_,?_,?_,?_,?_,?_⟩
 all_goals simp[World.cell?,s8]
theorem Zf:(Tryz.prog.info? 77).map (fun i=>(i.zero,i.size,i.bytes))=some (some (.agg #[.string ⟨#[]⟩,.string ⟨#[]⟩,.string ⟨#[]⟩,.int .i64 0,.int .i64 0]),5,64):=by kernel_rfl
theorem Zg:(Tryz.prog.info? 71).map (fun i=>(i.zero,i.size,i.bytes))=some (some (.agg #[.bool false,.string ⟨#[]⟩,.string ⟨#[]⟩,.int .i64 0,.int .i64 0,.int .i64 0]),6,64):=by kernel_rfl
theorem uZ:(Tryz.prog.info? 69).map (fun i=>(i.zero,i.size,i.bytes))=some (some (.agg #[.int .i64 0,.string ⟨#[]⟩,.int .i64 0,.int .i64 0,.slice none 0 0,.slice none 0 0,.slice none 0 0,.slice none 0 0]),8,136):=by kernel_rfl
structure De (f:Nat) (w:World) (base:Nat) (S:Nat→Prop) (v:Value) (ds:List Dc) (rs:List (List Value)):Prop where
 own:w.ownsRow base 69 8 v ds.length (rs.flatMap id)
 len:rs.length=ds.length
 kids:∀ (j:Nat) (d:Dc),ds[j]? = some d→∃ fs vs ms ins,rs[j]? = some (eZ d fs vs ms ins)∧Kids f w S fs vs ms ins d
theorem De.nil (f:Nat) (w:World) (base:Nat) (S:Nat→Prop):De f w base S (.slice none 0 0) [] []:=⟨World.ownsRow_nil _ _ _ _,rfl,fun j d h=>by simp at h⟩
theorem De.Zh {f:Nat} {w:World} {base:Nat} {S:Nat→Prop} {v:Value} {ds:List Dc} {rs:List (List Value)} (h:De f w base S v ds rs):∀ r∈rs,r.length=8:=by
 intro r hr
 obtain⟨j,hj⟩:=List.getElem?_of_mem hr
 have hlt:=(List.getElem?_eq_some_iff.1 hj).1
 have hlt2:j<ds.length:=by rw[←h.len];exact hlt
 obtain⟨fs,vs,ms,ins,h1,_⟩:=h.kids j (ds[j]'hlt2) (by rw[List.getElem?_eq_getElem hlt2])
 rw[hj]at h1
 rw[Option.some.inj h1];rfl
theorem De.held {f:Nat} {w:World} {base:Nat} {S S':Nat→Prop} {v:Value} {ds:List Dc} {rs:List (List Value)} (h:De f w base S v ds rs) (hS:∀ b,S b→S' b) (hv:∀ b,v.ownBlock=some b→S' b):aM (f+1) w S' v ds:=by
 have h8:=h.Zh
 have hk:=h.kids
 have hlen:=h.len
 obtain⟨hl,⟨rfl,h0⟩ | ⟨g,cap,cur,rfl,hg,hh,h3,h4,h5,h6⟩⟩:=h.own
 ·exact⟨none,0,by rw[h0],by omega,.inl (List.eq_nil_of_length_eq_zero h0)⟩
 ·refine⟨_,cap,rfl,h3,.inr ⟨g,0,rfl,hv g rfl,fun j d hj=>?_⟩⟩
  obtain⟨fs,vs,ms,ins,hr,hkd⟩:=hk j d hj
  refine⟨fs,vs,ms,ins,fun i u hu=>?_,hkd.more hS⟩
  have hi:i<8:=(List.getElem?_eq_some_iff.1 hu).1
  have e:=Sl rs j _ i h8 hi hr
  have hjl:=(List.getElem?_eq_some_iff.1 hj).1
  rw[←h6,List.getElem?_take,if_pos (by omega),hu]at e
  simp only[World.cell?,hh]
  rw[Nat.zero_add]
  simpa using e
theorem De.keep {f:Nat} {w w':World} {base:Nat} {S S':Nat→Prop} {v:Value} {ds:List Dc} {rs:List (List Value)} (h:De f w base S v ds rs) (ho:∀ b,v.ownBlock=some b→w'.heap[b]? = w.heap[b]?) (hb:∀ b,S b→w'.heap[b]? = w.heap[b]?) (hS:∀ b,S b→S' b):De f w' base S' v ds rs:=
 ⟨aR h.own ho,h.len,fun j d hj=>by
  obtain⟨fs,vs,ms,ins,h1,h2⟩:=h.kids j d hj
  exact⟨fs,vs,ms,ins,h1,(h2.old hb).more hS⟩⟩
def pN (w0 wx:World) (fs ins:Value) (b:Nat):Prop:=w0.heap.size+2≤b∧b<wx.heap.size∧fs.ownBlock≠some b∧ins.ownBlock≠some b
structure Dm (f:Nat) (w0 wx:World) (R:Nat) (en:Int × Int) (q:Rd) (nm:List UInt8) (pl pc:Int) (fs ins:Value) (fl:List Fd) (ds:List Dc) (rs:List (List Value)):Prop where
 lo:Do w0 wx R en q 69 z8 #[.int .i64 1,.string (aC nm),.int .i64 pl,.int .i64 pc,fs,.slice none 0 0,.slice none 0 0,ins]
 mY:wx.ownsRow (w0.heap.size+2) 71 6 fs fl.length (fl.flatMap pZ)
 decls:De f wx (w0.heap.size+2) (pN w0 wx fs ins) ins ds rs
 apart:∀ b,fs.ownBlock=some b→ins.ownBlock≠some b
section
variable {f:Nat} {w0 wx w':World} {R:Nat} {en:Int × Int} {q q':Rd} {nm:List UInt8} {pl pc:Int} {fs ins:Value} {fl:List Fd} {ds:List Dc} {rs:List (List Value)}
theorem Dm.step (h:Dm f w0 wx R en q nm pl pc fs ins fl ds rs) (hr:bW w' R en q') (hg:wx.grownBy w' (some R)):Dm f w0 w' R en q' nm pl pc fs ins fl ds rs:=by
 have hl:=h.lo.lt
 have hs:=hg.size
 have hb:∀ b,w0.heap.size+2≤b→b<wx.heap.size→w'.heap[b]? = wx.heap[b]?:=fun b h1 h2=>hg.block b h2 (by intro e;cases e;omega)
 refine⟨h.lo.step hr hg,aR h.mY fun b hb'=>hb b (aE h.mY b hb').1 (aE h.mY b hb').2,h.decls.keep (fun b hb'=>hb b (aE h.decls.own b hb').1 (aE h.decls.own b hb').2) (fun b hb'=>hb b hb'.1 hb'.2.1) (fun b hb'=>⟨hb'.1,by have:=hb'.2.1;omega,hb'.2.2⟩),h.apart⟩
theorem Dm.alloc (h:Dm f w0 wx R en q nm pl pc fs ins fl ds rs) (o:Obj):Dm f w0 (wx.alloc o) R en q nm pl pc fs ins fl ds rs:=h.step (h.lo.rd.alloc o) (World.grownBy_alloc _ _ _)
theorem Dm.drew (h:Dm f w0 wx R en q nm pl pc fs ins fl ds rs):Dm f w0 wx.drew R en q nm pl pc fs ins fl ds rs:=h.step h.lo.rd.drew (grownBy_drew _ _)
theorem Dm.aJo (h:Dm f w0 wx R en q nm pl pc fs ins fl ds rs) (x:Fd) {ops:Array Oper} {o:Oper} {a:Act} {K:Act→World→Prop} {Q:Exit→Act→World→Prop} {E:Prop} (hgd:o.guard=none) (s' x':Operand)
  (ho:o.op=.call { callee:=.builtin .append,args:=#[s',x'],argTypes:=#[65,65] })
  (nO:Array Value) (hcs:nO=(pZ x).toArray) (hs:a.eval s'=fs) (hx:a.eval x'=.slice (some ⟨wx.heap.size,0,none⟩) 1 1) (hbd:fl.length≤100000)
  (hk:∀ g cap W,(∀ cs,Do w0 wx R en q 69 z8 cs→Do w0 W R en q 69 z8 cs)→
   Dm f w0 (W.setCell ⟨w0.heap.size+1,4,none⟩ (.slice (some ⟨g,0,none⟩) (fl.length+1) cap)) R en q nm pl pc (.slice (some ⟨g,0,none⟩) (fl.length+1) cap) ins (fl++[x]) ds rs→K (a.put o.dst (.slice (some ⟨g,0,none⟩) (fl.length+1) cap)) W) :
  if Region.wanted o (yielded ops a.tmps)=true then Oper.wp Tryz.prog o a (wx.alloc (.cells nO 71)) K Q else E:=by
 subst hcs
 have hsz:=h.lo.size
 have hl:=h.lo.lt
 have ha:=h.alloc (.cells (pZ x).toArray 71)
 obtain⟨i0,hi0,hz0,hz1,hz2⟩:=info_parts Zg
 refine step_append_lies _ hgd s' x' 65 ho (w0.heap.size+2) 71 i0 _ 6 64 Tryz.underlying65 hi0 hz0 hz1 hz2 rfl (by decide) fs fl.length (fl.flatMap pZ) hs ha.mY ⟨wx.heap.size,0,none⟩ 1 1 (pZ x) hx rfl ?_ ?_ (by decide) (by unfold maxLen;omega) (by omega) (by simp;omega) _ rfl ?_
 ·exact World.news_of_block (cs:=(pZ x).toArray) (t:=71) (fr:=(0,0)) (by show (wx.heap.push _)[wx.heap.size]? = _;simp)
 ·intro u hu
  simp only[pZ,List.mem_cons,List.not_mem_nil,or_false]at hu
  rcases hu with rfl | rfl | rfl | rfl | rfl | rfl <;> rfl
 ·intro g cap W hown hg hat hlt
  have hsa:(wx.alloc (.cells (pZ x).toArray 71)).heap.size=wx.heap.size+1:=by simp
  have hsW:=hg.size
  have hb:∀ b,b<wx.heap.size+1→fs.ownBlock≠some b→W.heap[b]? = (wx.alloc (.cells (pZ x).toArray 71)).heap[b]?:=fun b hb hne=>hg.block b (by rw[hsa];exact hb) (fun e=>hne e.symm)
  have hlow:∀ b,b<w0.heap.size+2→W.heap[b]? = wx.heap[b]?:=fun b hb'=>by
   rw[hb b (by omega) (fun e=>by have:=(aE h.mY b e).1;omega),aD _ _ _ (by omega)]
  have hLo:∀ cs,Do w0 wx R en q 69 z8 cs→Do w0 W R en q 69 z8 cs:=fun cs hc=>
   ⟨hc.rd.old fun b hb'=>hlow b (by omega),cT (hc.gr.trans (World.grownBy_alloc _ _ _)) hg (fun b hb'=>by left;have:=(aE h.mY b hb').1;omega),by rw[hlow _ (by omega)];exact hc.ans,by rw[hlow _ (by omega)];exact hc.loc,hl⟩
  have hgb:w0.heap.size+2≤g:=by
   rcases hat with e | e
   ·exact(aE h.mY g e).1
   ·rw[hsa]at e;omega
  have hgi:ins.ownBlock≠some g:=by
   rcases hat with e | e
   ·exact h.apart g e
   ·intro e2;have:=(aE h.decls.own g e2).2;rw[hsa]at e;omega
  refine hk g cap W hLo ⟨(hLo _ h.lo).set 4 _,?_,?_,?_⟩
  ·rw[List.length_append,List.flatMap_append]
   refine aR (w:=W) (by simpa using hown) fun b hb'=>Below.heap_setCell _ _ _ _ ?_
   have e:g=b:=by simpa [Value.ownBlock]using hb'
   show b≠w0.heap.size+1
   omega
  ·have hns:∀ b,pN w0 wx fs ins b→b≠g:=fun b hbA e=>by
    subst e
    rcases hat with e | e
    ·exact hbA.2.2.1 e
    ·have:=hbA.2.1;rw[hsa]at e;omega
   have hkW:∀ b,w0.heap.size+2≤b→b<wx.heap.size→fs.ownBlock≠some b→(W.setCell ⟨w0.heap.size+1,4,none⟩ (.slice (some ⟨g,0,none⟩) (fl.length+1) cap)).heap[b]? = wx.heap[b]?:=fun b h1 h2 h3=>by
    rw[Below.heap_setCell _ _ _ _ (by show b≠w0.heap.size+1;omega),hb b (by omega) h3,aD _ _ _ h2]
   refine h.decls.keep (fun b hb'=>hkW b (aE h.decls.own b hb').1 (aE h.decls.own b hb').2 (fun e=>h.apart b e hb')) (fun b hb'=>hkW b hb'.1 hb'.2.1 hb'.2.2.1) (fun b hb'=>⟨hb'.1,?_,?_,hb'.2.2.2⟩)
   ·have e1:(W.setCell ⟨w0.heap.size+1,4,none⟩ (.slice (some ⟨g,0,none⟩) (fl.length+1) cap)).heap.size=W.heap.size:=by simp
    have:=hb'.2.1
    rw[hsa]at hsW
    omega
   ·intro e
    have e':g=b:=by simpa [Value.ownBlock]using e
    exact hns b hb' e'.symm
  ·intro b hb'
   have e':g=b:=by simpa [Value.ownBlock]using hb'
   rw[←e'];exact hgi
theorem Dm.final (h:Dm f w0 wx R en q nm pl pc fs ins fl ds rs):∃ Y,((((((((wx.setCell ⟨w0.heap.size,0,none⟩ (.int .i64 1)).setCell ⟨w0.heap.size,1,none⟩ (.string (aC nm))).setCell ⟨w0.heap.size,2,none⟩ (.int .i64 pl)).setCell ⟨w0.heap.size,3,none⟩ (.int .i64 pc)).setCell ⟨w0.heap.size,4,none⟩ fs).setCell ⟨w0.heap.size,5,none⟩ (.slice none 0 0)).setCell ⟨w0.heap.size,6,none⟩ (.slice none 0 0)).setCell ⟨w0.heap.size,7,none⟩ ins)=Y∧bW Y R en q∧w0.grownBy Y (some R)∧
  (Y.cell? ⟨w0.heap.size,0,none⟩=some (.int .i64 1)∧Y.cell? ⟨w0.heap.size,1,none⟩=some (.string (aC nm))∧Y.cell? ⟨w0.heap.size,2,none⟩=some (.int .i64 pl)∧Y.cell? ⟨w0.heap.size,3,none⟩=some (.int .i64 pc)∧Y.cell? ⟨w0.heap.size,4,none⟩=some fs∧Y.cell? ⟨w0.heap.size,5,none⟩=some (.slice none 0 0)∧Y.cell? ⟨w0.heap.size,6,none⟩=some (.slice none 0 0)∧Y.cell? ⟨w0.heap.size,7,none⟩=some ins)∧
  Kids (f+1) Y (fun b=>w0.heap.size+2≤b∧b<Y.heap.size) fs (.slice none 0 0) (.slice none 0 0) ins ⟨1,nm,pl,pc,fl,[],[],ds⟩:=by
 have hsz:=h.lo.size
 obtain⟨Y,hY,Ih,Ii,Cl,hc⟩:=h.lo.sN
 have hsY:wx.heap.size≤Y.heap.size:=by rw[←hY];simp
 refine⟨Y,hY,Ih,Ii,hc,?_,RowsIn.nil _ _ _ _ _ _,RowsIn.nil _ _ _ _ _ _,?_⟩
 ·refine gZ (k:=6) (row:=pZ) (xs:=fl) (fun _=>rfl) (aR h.mY fun b hb=>Cl b (by have:=(aE h.mY b hb).1;omega)) _ fun b hb=>?_
  have:=aE h.mY b hb
  exact⟨this.1,by omega⟩
 ·have hd:=h.decls.keep (w':=Y) (S':=pN w0 wx fs ins) (fun b hb=>Cl b (by have:=(aE h.decls.own b hb).1;omega)) (fun b hb=>Cl b (by have:=hb.1;omega)) (fun b hb=>hb)
  refine hd.held (fun b hb=>⟨hb.1,by have:=hb.2.1;omega⟩) fun b hb=>?_
  have:=aE h.decls.own b hb
  exact⟨this.1,by omega⟩
end
theorem Do.Sx {w wx:World} {R:Nat} {en:Int × Int} {q:Rd} {T:TypeId} {za cs:Array Value} (hlt:R<w.heap.size) (h:Lv (w.alloc (.cells za T)) wx R en q (w.heap.size+1) T cs):Do w wx R en q T za cs:=by
 refine⟨h.rd,(World.grownBy_alloc _ _ _).trans h.gr,?_,h.loc,hlt⟩
 rw[h.gr.block w.heap.size (by simp) (by intro e;cases e;omega)]
 exact alloc_heap_new _ _
end Go.Proofs.YtpojeinddnjpfaaGreatDoor
