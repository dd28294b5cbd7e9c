/-
  Walks and plain words (DpQ DpU).
-/
import Derived.Test.YtpojeinddnjpfaaGreatDoorM6
import Derived.Test.YtpojeinddnjpfaaGreatDoorM0
namespace Go.Proofs.YtpojeinddnjpfaaGreatDoor
set_option linter.unusedVariables false
open Go.ChangeShapes Go.WideShapes Go.ChangeAt Go.RowKit

theorem fZ {w:World} {base:Nat} {E:TypeId} {k g n cap:Nat} {xs:List Value} (h:w.ownsRow base E k (.slice (some ⟨g,0,none⟩) n cap) n xs) (j:Nat) (x:Value):(w.setCell ⟨g,j,none⟩ x).ownsRow base E k (.slice (some ⟨g,0,none⟩) n cap) n (xs.set j x):=by
 obtain⟨h1,⟨h2,_⟩ | ⟨g',cap',cur,hv,hg,hh,h3,h4,h5,h6⟩⟩:=h
 ·cases h2
 ·simp only[Value.slice.injEq,Option.some.injEq,Addr.mk.injEq,and_true,true_and]at hv
  obtain⟨rfl,rfl⟩:=hv
  refine⟨by rw[List.length_set];exact h1,.inr ⟨g,cap,cur.setIfInBounds j x,rfl,hg,aG hh x,h3,h4,by rw[Array.size_setIfInBounds];exact h5,?_⟩⟩
  rw[Array.toList_setIfInBounds,List.take_set,h6]
def S8 (W:World) (g m:Nat) (x0 x1 x2 x3 x4 x5 x6 x7:Value):World:=
 (((((((W.setCell ⟨g,m,none⟩ x0).setCell ⟨g,m+1,none⟩ x1).setCell ⟨g,m+2,none⟩ x2).setCell ⟨g,m+3,none⟩ x3).setCell ⟨g,m+4,none⟩ x4).setCell ⟨g,m+5,none⟩ x5).setCell ⟨g,m+6,none⟩ x6).setCell ⟨g,m+7,none⟩ x7
theorem fT (W:World) (g m:Nat) (x0 x1 x2 x3 x4 x5 x6 x7:Value) (b:Nat) (hb:b≠g):(S8 W g m x0 x1 x2 x3 x4 x5 x6 x7).heap[b]? = W.heap[b]?:=by
 unfold S8
 rw[Below.heap_setCell _ _ _ _ hb,Below.heap_setCell _ _ _ _ hb,Below.heap_setCell _ _ _ _ hb,Below.heap_setCell _ _ _ _ hb,Below.heap_setCell _ _ _ _ hb,Below.heap_setCell _ _ _ _ hb,Below.heap_setCell _ _ _ _ hb,Below.heap_setCell _ _ _ _ hb]
theorem oS (W:World) (g m:Nat) (x0 x1 x2 x3 x4 x5 x6 x7:Value):(S8 W g m x0 x1 x2 x3 x4 x5 x6 x7).heap.size=W.heap.size:=by simp[S8,World.setCell]
theorem Dy (W:World) (g m:Nat) (x0 x1 x2 x3 x4 x5 x6 x7:Value):W.grownBy (S8 W g m x0 x1 x2 x3 x4 x5 x6 x7) (some g):=
 (((((((grownBy_set _ _ _ _).trans (grownBy_set _ _ _ _)).trans (grownBy_set _ _ _ _)).trans (grownBy_set _ _ _ _)).trans (grownBy_set _ _ _ _)).trans (grownBy_set _ _ _ _)).trans (grownBy_set _ _ _ _)).trans (grownBy_set _ _ _ _)
theorem fA (xs l:List Value) (m i:Nat) (x:Value) (h:xs.length=m):(xs++l).set (m+i) x=xs++l.set i x:=by
 rw[List.set_append,if_neg (by omega),h,Nat.add_sub_cancel_left]
theorem aDu {w:World} {base:Nat} {E:TypeId} {g n cap m:Nat} {xs:List Value} {z0 z1 z2 z3 z4 z5 z6 z7:Value} (h:w.ownsRow base E 8 (.slice (some ⟨g,0,none⟩) n cap) n (xs++[z0,z1,z2,z3,z4,z5,z6,z7])) (hm:xs.length=m) (x0 x1 x2 x3 x4 x5 x6 x7:Value) :
  (S8 w g m x0 x1 x2 x3 x4 x5 x6 x7).ownsRow base E 8 (.slice (some ⟨g,0,none⟩) n cap) n (xs++[x0,x1,x2,x3,x4,x5,x6,x7]):=by
 have:=fZ (fZ (fZ (fZ (fZ (fZ (fZ (fZ h (m+0) x0) (m+1) x1) (m+2) x2) (m+3) x3) (m+4) x4) (m+5) x5) (m+6) x6) (m+7) x7
 rw[fA _ _ m 0 _ hm,fA _ _ m 1 _ hm,fA _ _ m 2 _ hm,fA _ _ m 3 _ hm,fA _ _ m 4 _ hm,fA _ _ m 5 _ hm,fA _ _ m 6 _ hm,fA _ _ m 7 _ hm]at this
 exact this
theorem Og {w:World} {base:Nat} {E:TypeId} {g n cap m:Nat} {xs:List Value} {z0 z1 z2 z3 z4 z5 z6 z7:Value} (h:w.ownsRow base E 8 (.slice (some ⟨g,0,none⟩) n cap) n (xs++[z0,z1,z2,z3,z4,z5,z6,z7])) (hm:xs.length=m) :
  (w.cell? ⟨g,m,none⟩=some z0∧w.cell? ⟨g,m+1,none⟩=some z1∧w.cell? ⟨g,m+2,none⟩=some z2∧w.cell? ⟨g,m+3,none⟩=some z3∧w.cell? ⟨g,m+4,none⟩=some z4∧w.cell? ⟨g,m+5,none⟩=some z5∧w.cell? ⟨g,m+6,none⟩=some z6∧w.cell? ⟨g,m+7,none⟩=some z7)∧∀ j,w.frozen? ⟨g,j,none⟩=false:=by
 obtain⟨h1,⟨h2,_⟩ | ⟨g',cap',cur,hv,hg,hh,h3,h4,h5,h6⟩⟩:=h
 ·cases h2
 ·simp only[Value.slice.injEq,Option.some.injEq,Addr.mk.injEq,and_true,true_and]at hv
  obtain⟨rfl,rfl⟩:=hv
  have hc:∀ i u,i<8→[z0,z1,z2,z3,z4,z5,z6,z7][i]? = some u→w.cell? ⟨g,m+i,none⟩=some u:=by
   intro i u hi hu
   have e:(xs++[z0,z1,z2,z3,z4,z5,z6,z7])[m+i]? = some u:=by
    rw[List.getElem?_append_right (by omega),hm,Nat.add_sub_cancel_left];exact hu
   have hlen:m+8=n*8:=by rw[←h1,List.length_append,hm];rfl
   rw[←h6,List.getElem?_take,if_pos (by omega)]at e
   simp only[World.cell?,hh]
   simpa using e
  refine⟨⟨hc 0 _ (by decide) rfl,hc 1 _ (by decide) rfl,hc 2 _ (by decide) rfl,hc 3 _ (by decide) rfl,hc 4 _ (by decide) rfl,hc 5 _ (by decide) rfl,hc 6 _ (by decide) rfl,hc 7 _ (by decide) rfl⟩,fun j=>by simp[World.frozen?,hh]⟩
theorem Ea:∀ (rs:List (List Value)),(∀ r∈rs,r.length=8)→(rs.flatMap id).length=rs.length*8
 | [],_=>rfl
 | a :: t,h=>by
  have:=Ea t (fun r hr=>h r (by simp[hr]))
  have ha:=h a (by simp)
  rw[List.flatMap_cons,List.length_append,this,List.length_cons]
  show a.length+_=_
  omega
section
variable {f:Nat} {w0 wx w':World} {R:Nat} {en:Int × Int} {q q':Rd} {nm:List UInt8} {pl pc:Int} {fs ins:Value} {fl:List Fd} {ds:List Dc} {rs:List (List Value)}
theorem Dm.aCi (h:Dm f w0 wx R en q nm pl pc fs ins fl ds rs) (x:Dc) (kf kv km ki:Value) (iW:Kids f wx (pN w0 wx fs ins) kf kv km ki x) {ops:Array Oper} {o:Oper} {a:Act} {K:Act→World→Prop} {Q:Exit→Act→World→Prop} {E:Prop} (hgd:o.guard=none) (s' x':Operand)
  (ho:o.op=.call { callee:=.builtin .append,args:=#[s',x'],argTypes:=#[35,35] })
  (hs:a.eval s'=ins) (hx:a.eval x'=.slice (some ⟨wx.heap.size,0,none⟩) 1 1) (hbd:ds.length≤100000)
  (hk:∀ g cap W,(∀ cs,Do w0 wx R en q 69 z8 cs→Do w0 W R en q 69 z8 cs)→
   ((W.cell? ⟨g,ds.length*8,none⟩=some (.int .i64 0)∧W.cell? ⟨g,ds.length*8+1,none⟩=some (.string ⟨#[]⟩)∧W.cell? ⟨g,ds.length*8+2,none⟩=some (.int .i64 0)∧W.cell? ⟨g,ds.length*8+3,none⟩=some (.int .i64 0)∧W.cell? ⟨g,ds.length*8+4,none⟩=some (.slice none 0 0)∧W.cell? ⟨g,ds.length*8+5,none⟩=some (.slice none 0 0)∧W.cell? ⟨g,ds.length*8+6,none⟩=some (.slice none 0 0)∧W.cell? ⟨g,ds.length*8+7,none⟩=some (.slice none 0 0))∧∀ j,W.frozen? ⟨g,j,none⟩=false)→w0.heap.size+2≤g→
   Dm f w0 ((S8 W g (ds.length*8) (.int .i64 x.kind) (.string (aC x.name)) (.int .i64 x.line) (.int .i64 x.col) kf kv km ki).setCell ⟨w0.heap.size+1,7,none⟩ (.slice (some ⟨g,0,none⟩) (ds.length+1) cap)) R en q nm pl pc fs (.slice (some ⟨g,0,none⟩) (ds.length+1) cap) fl (ds++[x]) (rs++[eZ x kf kv km ki])→K (a.put o.dst (.slice (some ⟨g,0,none⟩) (ds.length+1) cap)) W) :
  if Region.wanted o (yielded ops a.tmps)=true then Oper.wp Tryz.prog o a (wx.alloc (.cells z8 69)) K Q else E:=by
 have hsz:=h.lo.size
 have hl:=h.lo.lt
 have ha:=h.alloc (.cells z8 69)
 obtain⟨i0,hi0,hz0,hz1,hz2⟩:=info_parts uZ
 refine step_append_lies _ hgd s' x' 35 ho (w0.heap.size+2) 69 i0 _ 8 136 Tryz.underlying35 hi0 hz0 hz1 hz2 rfl (by decide) ins ds.length (rs.flatMap id) hs ha.decls.own ⟨wx.heap.size,0,none⟩ 1 1 [.int .i64 0,.string ⟨#[]⟩,.int .i64 0,.int .i64 0,.slice none 0 0,.slice none 0 0,.slice none 0 0,.slice none 0 0] hx rfl ?_ (by intro u hu;simp only[List.mem_cons,List.not_mem_nil,or_false]at hu;rcases hu with rfl | rfl | rfl | rfl | rfl | rfl | rfl | rfl <;> rfl) (by decide) (by unfold maxLen;omega) (by omega) (by simp;omega) _ rfl ?_
 ·exact World.news_of_block (cs:=z8) (t:=69) (fr:=(0,0)) (by show (wx.heap.push _)[wx.heap.size]? = _;simp)
 ·intro g cap W hown hg hat hlt
  have hsa:(wx.alloc (.cells z8 69)).heap.size=wx.heap.size+1:=by simp
  have hsW:=hg.size
  have hb:∀ b,b<wx.heap.size+1→ins.ownBlock≠some b→W.heap[b]? = (wx.alloc (.cells z8 69)).heap[b]?:=fun b hb hne=>hg.block b (by rw[hsa];exact hb) (fun e=>hne e.symm)
  have hlow:∀ b,b<w0.heap.size+2→W.heap[b]? = wx.heap[b]?:=fun b hb'=>by
   rw[hb b (by omega) (fun e=>by have:=(aE h.decls.own b e).1;omega),aD _ _ _ (by omega)]
  have hLo:∀ cs,Do w0 wx R en q 69 z8 cs→Do w0 W R en q 69 z8 cs:=fun cs hc=>
   ⟨hc.rd.old fun b hb'=>hlow b (by omega),cT (hc.gr.trans (World.grownBy_alloc _ _ _)) hg (fun b hb'=>by left;have:=(aE h.decls.own b hb').1;omega),by rw[hlow _ (by omega)];exact hc.ans,by rw[hlow _ (by omega)];exact hc.loc,hl⟩
  have hgb:w0.heap.size+2≤g:=by
   rcases hat with e | e
   ·exact(aE h.decls.own g e).1
   ·rw[hsa]at e;omega
  have hgi:fs.ownBlock≠some g:=by
   rcases hat with e | e
   ·exact fun e2=>h.apart g e2 e
   ·intro e2;have:=(aE h.mY g e2).2;rw[hsa]at e;omega
  have hbg:∀ b,b<wx.heap.size→ins.ownBlock≠some b→b≠g:=fun b h1 h2 e=>by
   subst e
   rcases hat with e | e
   ·exact h2 e
   ·rw[hsa]at e;omega
  have aCj:(rs.flatMap id).length=ds.length*8:=by rw[Ea rs h.decls.Zh,h.decls.len]
  have hkW:∀ b,w0.heap.size+2≤b→b<wx.heap.size→ins.ownBlock≠some b→((S8 W g (ds.length*8) (.int .i64 x.kind) (.string (aC x.name)) (.int .i64 x.line) (.int .i64 x.col) kf kv km ki).setCell ⟨w0.heap.size+1,7,none⟩ (.slice (some ⟨g,0,none⟩) (ds.length+1) cap)).heap[b]? = wx.heap[b]?:=fun b h1 h2 h3=>by
   rw[Below.heap_setCell _ _ _ _ (by show b≠w0.heap.size+1;omega),fT _ _ _ _ _ _ _ _ _ _ _ b (hbg b h2 h3),hb b (by omega) h3,aD _ _ _ h2]
  have hAw:∀ b,pN w0 wx fs ins b→pN w0 ((S8 W g (ds.length*8) (.int .i64 x.kind) (.string (aC x.name)) (.int .i64 x.line) (.int .i64 x.col) kf kv km ki).setCell ⟨w0.heap.size+1,7,none⟩ (.slice (some ⟨g,0,none⟩) (ds.length+1) cap)) fs (.slice (some ⟨g,0,none⟩) (ds.length+1) cap) b:=fun b hb'=>by
   refine⟨hb'.1,?_,hb'.2.2.1,?_⟩
   ·have e1:((S8 W g (ds.length*8) (.int .i64 x.kind) (.string (aC x.name)) (.int .i64 x.line) (.int .i64 x.col) kf kv km ki).setCell ⟨w0.heap.size+1,7,none⟩ (.slice (some ⟨g,0,none⟩) (ds.length+1) cap)).heap.size=W.heap.size:=by rw[show ∀ (V:World) (p:Addr) (u:Value),(V.setCell p u).heap.size=V.heap.size from fun V p u=>by simp[World.setCell],oS]
    have:=hb'.2.1
    rw[hsa]at hsW
    omega
   ·intro e
    have e':g=b:=by simpa [Value.ownBlock]using e
    subst e'
    rcases hat with e | e
    ·exact hb'.2.2.2 e
    ·have:=hb'.2.1;rw[hsa]at e;omega
  have hLS:∀ cs,Do w0 wx R en q 69 z8 cs→Do w0 (S8 W g (ds.length*8) (.int .i64 x.kind) (.string (aC x.name)) (.int .i64 x.line) (.int .i64 x.col) kf kv km ki) R en q 69 z8 cs:=fun cs hc=>by
   have hc':=hLo cs hc
   exact⟨hc'.rd.old fun b hb'=>fT _ _ _ _ _ _ _ _ _ _ _ b (by omega),cT hc'.gr (Dy _ _ _ _ _ _ _ _ _ _ _) (fun b hb'=>by cases hb';left;omega),by rw[fT _ _ _ _ _ _ _ _ _ _ _ _ (by omega)];exact hc'.ans,by rw[fT _ _ _ _ _ _ _ _ _ _ _ _ (by omega)];exact hc'.loc,hl⟩
  refine hk g cap W hLo (Og hown aCj) hgb ⟨(hLS _ h.lo).set 7 _,?_,⟨?_,?_,?_⟩,?_⟩
  ·exact aR h.mY fun b hb'=>hkW b (aE h.mY b hb').1 (aE h.mY b hb').2 (fun e=>h.apart b hb' e)
  ·rw[List.length_append,List.flatMap_append]
   refine aR (w:=(S8 W g (ds.length*8) (.int .i64 x.kind) (.string (aC x.name)) (.int .i64 x.line) (.int .i64 x.col) kf kv km ki)) (by simpa [eZ]using aDu hown aCj (.int .i64 x.kind) (.string (aC x.name)) (.int .i64 x.line) (.int .i64 x.col) kf kv km ki) fun b hb'=>Below.heap_setCell _ _ _ _ ?_
   have e:g=b:=by simpa [Value.ownBlock]using hb'
   show b≠w0.heap.size+1
   omega
  ·rw[List.length_append,List.length_append,h.decls.len];rfl
  ·intro j d hj
   by_cases hjl:j<ds.length
   ·rw[List.getElem?_append_left hjl]at hj
    obtain⟨f1,v1,m1,i1,hr1,hk1⟩:=h.decls.kids j d hj
    exact⟨f1,v1,m1,i1,by rw[List.getElem?_append_left (by rw[h.decls.len];exact hjl)];exact hr1,(hk1.old fun b hb'=>hkW b hb'.1 hb'.2.1 hb'.2.2.2).more hAw⟩
   ·have hjn:=(List.getElem?_eq_some_iff.1 hj).1
    rw[List.length_append]at hjn
    have pD:j=ds.length:=by simp at hjn;omega
    subst pD
    rw[List.getElem?_append_right (Nat.le_refl _),Nat.sub_self]at hj
    have e:x=d:=by simpa using hj
    subst e
    exact⟨kf,kv,km,ki,by rw[←h.decls.len,List.getElem?_append_right (Nat.le_refl _),Nat.sub_self];rfl,(iW.old fun b hb'=>hkW b hb'.1 hb'.2.1 hb'.2.2.2).more hAw⟩
  ·intro b hb' e
   have e':g=b:=by simpa [Value.ownBlock]using e
   rw[←e']at hb'
   exact hgi hb'
end
set_option maxHeartbeats 16000000 in
set_option maxRecDepth 20000 in
theorem Oh (R:Nat) (en:Int × Int) (r:Rd) (w:World) (he:r.e=0) (h:bW w R en r) :
  Calls Tryz.prog 117 #[.pointer (some ⟨R,0,none⟩)] w fun x w'=>∃ (nm:List UInt8) (pl pc:Int) (acc:List Vl) (vs:Value),x=.returned (.tuple #[dval 2 nm pl pc (.slice none 0 0) vs (.slice none 0 0) (.slice none 0 0),.bool (decide ((r.enum en).2.e=0))])∧
   ((r.enum en).2.e=0→(r.enum en).1=⟨2,nm,pl,pc,[],acc,[],[]⟩)∧bW w' R en (r.enum en).2∧w.grownBy w' (some R)∧w'.ownsRow (w.heap.size+2) 74 4 vs acc.length (acc.flatMap sJ):=by
 have hlt:=h.lt
 have xX:=h.few
 have aJq:=Rd.Ar r
 have hL0:Lv (w.alloc (.cells z8 69)) ((w.alloc (.cells z8 69)).alloc (.cells #[.int .i64 2,.string ⟨#[]⟩,.int .i64 0,.int .i64 0,.slice none 0 0,.slice none 0 0,.slice none 0 0,.slice none 0 0] 69)) R en r (w.heap.size+1) 69 #[.int .i64 2,.string ⟨#[]⟩,.int .i64 0,.int .i64 0,.slice none 0 0,.slice none 0 0,.slice none 0 0,.slice none 0 0]:=by
  have:=Lv.start (w.alloc (.cells z8 69)) (w.alloc (.cells z8 69)) (h.alloc _) (World.grownBy.refl _ _) (by simp;omega) 69 #[.int .i64 2,.string ⟨#[]⟩,.int .i64 0,.int .i64 0,.slice none 0 0,.slice none 0 0,.slice none 0 0,.slice none 0 0]
  rw[show (w.alloc (.cells z8 69)).heap.size=w.heap.size+1 by simp]at this
  exact this
 have hHd:=Ig hL0 he ⟨#[101,110,117,109]⟩ (by decide)
 have eT:(ByteArray.mk #[101,110,117,109]).data.toList=cZ:=rfl
 rw[eT]at hHd
 have fE:=aB (Rd.cL en r cZ)
 have tK:Hid (r.enum en=(⟨2,(r.take en cZ).aL,((r.take en cZ).nameP en).1,((r.take en cZ).nameP en).2,[],(dX en ((((r.take en cZ).name en).take en [123]).l.length+1) (((r.take en cZ).name en).take en [123]) []).1,[],[]⟩,(dX en ((((r.take en cZ).name en).take en [123]).l.length+1) (((r.take en cZ).name en).take en [123]) []).2.take en [125])):=rfl
 obtain⟨EN,Ij⟩:∃ EN,r.enum en=EN:=⟨_,rfl⟩
 rw[Ij]at tK ⊢
 generalize r.take en cZ=q1 at *
 have Hm:=aB (Rd.gX en q1)
 have Yc:=aB (Rd.cL en (q1.name en) [123])
 obtain⟨NM,hNM⟩:∃ NM,q1.aL=NM:=⟨_,rfl⟩
 obtain⟨PL,Rq⟩:∃ PL,(q1.nameP en).1=PL:=⟨_,rfl⟩
 obtain⟨PC,hPC⟩:∃ PC,(q1.nameP en).2=PC:=⟨_,rfl⟩
 rw[hNM,Rq,hPC]at tK hHd
 generalize (q1.name en).take en [123]=q3 at *
 obtain⟨VS,hVS⟩:∃ VS,dX en (q3.l.length+1) q3 []=VS:=⟨_,rfl⟩
 have Sz:=aB hVS
 rw[hVS]at tK
 have hq3:q3.m≤4001:=by have:=Yc.out;have:=Hm.out;have:=fE.out;omega
 have HQ3:=aB (Rd.Ar q3)
 clear Ij hL0 eT h hNM Rq hPC hVS fE Hm Yc
 go_enter Tryz.func117,Tryz.ntmps117
 go_wp2_with fail
 refine hHd.mono ?_
 rintro e w1 ⟨nm,pl,pc,rfl,hnm,hL1⟩
 have xS:Hid (q3.e=0→nm=NM∧pl=PL∧pc=PC):=hnm
 have HL1:=aB (Do.Sx hlt hL1)
 clear hHd hnm hL1
 go_wp2_with fail
 go_loopw [5] (fun s5 wr=>∃ (f:Nat) (q:Rd) (acc:List Vl) (vs:Value),s5=.bool (decide (q.e=0))∧Dl w wr R en q 69 z8 #[.int .i64 2,.string (aC nm),.int .i64 pl,.int .i64 pc,.slice none 0 0,vs,.slice none 0 0,.slice none 0 0] 74 4 vs acc.length (acc.flatMap sJ)∧q.m≤f∧acc.length+q.m≤4001∧(q.e=0→q3.e=0∧VS=dX en f q acc)∧(q.e≠0→VS.2=q)) (fun _ wr=>rdM wr R)
 case atStart=>
  refine⟨q3.l.length+1,q3,[],.slice none 0 0,rfl,⟨HL1.out,World.ownsRow_nil _ _ _ _⟩,HQ3.out,by simpa using hq3,fun hz=>⟨hz,Sz.out.symm⟩,fun hz=>?_⟩
  rw[←Sz.out,mA en _ q3 [] (fun hh=>hz hh.1)]
 case round=>
  obtain⟨f,q,acc,vs,rfl,Ta,hmf,hacc,hok,hno⟩:=hrel
  obtain⟨va,vc,rfl⟩:=aO Ta.own
  have Ik:=aB Ta
  have Zi:=Ta.lo.size
  have Su:=aB Ta.lo.rd.m
  clear Ta
  by_cases he0:q.e=0
  ·have hd0:decide (q.e=0)=true:=decide_eq_true he0
   rw[hd0]
   obtain⟨Eb,hvs⟩:=hok he0
   have HQE:=aB Eb
   have Zj:=aB hvs
   have nN:=jI R en q ⟨#[125]⟩ wr he0 (by decide) Ik.out.lo.rd
   have e125:(ByteArray.mk #[125]).data.toList=[125]:=rfl
   rw[e125]at nN
   clear hno hok e125 hvs hd0 Eb
   by_cases hi:q.is [125]=true
   ·have hsk:q.skip [125]=q.tail:=by unfold Rd.skip;rw[if_pos hi]
    have htk:q.take en [125]=q.tail:=by unfold Rd.take;rw[if_pos hi]
    rw[hsk,hi]at nN
    have Mc:VS=(acc,q):=by rw[Zj.out,mA en f q acc (fun hh=>by rw[hi]at hh;exact absurd hh.2 (by decide))]
    have HE2:Hid (EN.2=q.tail):=by refine(?_:_=_);rw[tK.out,Mc];exact htk
    have vA:Hid (EN.1=⟨2,nm,pl,pc,[],acc,[],[]⟩):=by
     refine(?_:_=_)
     obtain⟨a1,a2,a3⟩:=xS.out HQE.out
     rw[tK.out,Mc,a1,a2,a3]
    have lI:Hid (decide (EN.2.e=0)=true):=by refine(?_:_=_);rw[HE2.out];exact decide_eq_true he0
    clear hi hsk htk Mc Zj
    go_wp2_with fail
    refine nN.mono ?_
    rintro e w5 ⟨rfl,iT,hg5⟩
    have qQ:=aB (Ik.out.step iT hg5)
    obtain⟨⟨c0,c1,c2,c3,c4,c5',c6,c7⟩,⟨a0,a1,a2,a3,a4,a5,a6,a7⟩,hf,_⟩:=qQ.out.lo.cV
    obtain⟨Y,hY,Ih,Ii,Cl,y0,y1,y2,y3,y4,y5,y6,y7⟩:=qQ.out.lo.sN
    have uI:Hid (Y.ownsRow (w.heap.size+2) 74 4 (.slice va acc.length vc) acc.length (acc.flatMap sJ)):=aR qQ.out.own fun b hb=>Cl b (by have:=(aE qQ.out.own b hb).1;omega)
    have HY:=aB hY
    have b0:=hf 0
    have b1:=hf 1
    have b2:=hf 2
    have b3:=hf 3
    have b4:=hf 4
    have b5:=hf 5
    have b6:=hf 6
    have b7:=hf 7
    clear hY hf nN iT hg5 Cl
    go_wp2_with fail
    rw[HY.out]
    exact bodyPost_ret (v:=.tuple #[dval 2 nm pl pc (.slice none 0 0) (.slice va acc.length vc) (.slice none 0 0) (.slice none 0 0),.bool true]) (by unfold dval;simp[results,Tryz.results117,go_sem,y0,y1,y2,y3,y4,y5,y6,y7]) rfl ⟨nm,pl,pc,acc,_,by rw[lI.out],fun _=>vA.out,by rw[HE2.out];exact Ih,Ii,uI.out⟩
   ·have hi':q.is [125]=false:=by simpa using hi
    have hsk:q.skip [125]=q:=by unfold Rd.skip;rw[if_neg hi]
    rw[hsk,hi']at nN
    have hm1:1≤q.m:=by unfold Rd.m;rw[if_pos he0];omega
    obtain⟨f,rfl⟩:∃ f',f=f'+1:=⟨f - 1,by omega⟩
    have hmv:=Rd.Lw en q
    have fS:Hid (VS=dX en f (q.value en).2 (acc++[(q.value en).1])):=by
     refine(?_:_=_)
     rw[Zj.out,Hz en f q acc ⟨he0,hi'⟩]
    have vB:Hid (q.value en=(⟨q.aL,((q.name en).take en [61]).cR,(q.nameP en).1,(q.nameP en).2⟩,(((q.name en).take en [61]).number en).take en [59])):=rfl
    obtain⟨jQ,Ec⟩:∃ jQ,q.value en=jQ:=⟨_,rfl⟩
    rw[Ec]at fS vB hmv
    clear Zj hi hi' hsk Ec
    go_wp2_with fail
    refine nN.mono ?_
    rintro e w5 ⟨rfl,iT,hg5⟩
    have qQ:=aB (Ik.out.step iT hg5)
    have hsz5:=qQ.out.lo.size
    have sB:Hid (Lv w5 (w5.alloc (.cells #[.string ⟨#[]⟩,.int .i64 0,.int .i64 0,.int .i64 0] 74)) R en q w5.heap.size 74 #[.string ⟨#[]⟩,.int .i64 0,.int .i64 0,.int .i64 0]):=Lv.start w5 w5 iT (World.grownBy.refl _ _) iT.lt 74 #[.string ⟨#[]⟩,.int .i64 0,.int .i64 0,.int .i64 0]
    clear nN iT hg5
    go_upto_region 5 with fail
    generalize w5.alloc (.cells #[.string ⟨#[]⟩,.int .i64 0,.int .i64 0,.int .i64 0] 74)=V5 at *
    obtain⟨G,hG⟩:∃ G,w5.heap.size=G:=⟨_,rfl⟩
    rw[hG]at sB ⊢
    go_cut [5] from 10 to 38 (fun s5 wz=>∃ el:Vl,s5=.bool (decide (jQ.2.e=0))∧(jQ.2.e=0→el=jQ.1)∧Lv w5 wz R en jQ.2 G 74 #[.string (aC el.name),.int .i64 el.num,.int .i64 el.line,.int .i64 el.col])
    case first=>
     have kM:=fun W (hW:Lv w5 W R en q G 74 #[.string (aC []),.int .i64 0,.int .i64 0,.int .i64 0])=>Au hW he0 0 2 (by simp) (by simp) (by decide)
     unfold yX at kM
     have hE1:=Rd.sI en he0
     obtain⟨x1,hx1⟩:∃ x,q.name en=x:=⟨_,rfl⟩
     rw[hx1]at kM hE1
     by_cases hb1:q.isName=true
     ·rw[hb1]at hE1
      have e1:x1.e=0:=of_decide_eq_true hE1
      rw[if_pos hb1,hb1]at kM
      have hC2:=fun W (hW:Lv w5 W R en x1 G 74 #[.string (aC q.aL),.int .i64 0,.int .i64 (q.nameP en).1,.int .i64 (q.nameP en).2])=>dY hW e1 ⟨#[61]⟩ (by decide)
      have eB2:(ByteArray.mk #[61]).data.toList=[61]:=rfl
      rw[eB2]at hC2
      clear eB2
      have hE2:=Rd.jP en e1 [61]
      obtain⟨x2,hx2⟩:∃ x,x1.take en [61]=x:=⟨_,rfl⟩
      rw[hx2]at hC2 hE2
      by_cases hb2:x1.is [61]=true
      ·rw[hb2]at hE2
       have e2:x2.e=0:=of_decide_eq_true hE2
       rw[hb2]at hC2
       have vC:=fun W (hW:Lv w5 W R en x2 G 74 #[.string (aC q.aL),.int .i64 0,.int .i64 (q.nameP en).1,.int .i64 (q.nameP en).2])=>Dv hW e2 1 (by simp)
       unfold uX at vC
       have Of:=Rd.Dj en e2
       obtain⟨x3,hx3⟩:∃ x,x2.number en=x:=⟨_,rfl⟩
       rw[hx3]at vC Of
       by_cases hb3:x2.isNum=true
       ·rw[hb3]at Of
        have e3:x3.e=0:=of_decide_eq_true Of
        rw[if_pos hb3,hb3]at vC
        have Cm:=fun W (hW:Lv w5 W R en x3 G 74 #[.string (aC q.aL),.int .i64 x2.cR,.int .i64 (q.nameP en).1,.int .i64 (q.nameP en).2])=>dY hW e3 ⟨#[59]⟩ (by decide)
        have eB4:(ByteArray.mk #[59]).data.toList=[59]:=rfl
        rw[eB4]at Cm
        clear eB4
        have Md:=Rd.jP en e3 [59]
        obtain⟨x4,hx4⟩:∃ x,x3.take en [59]=x:=⟨_,rfl⟩
        rw[hx4]at Cm Md
        go_wp2_with fail
        refine(kM _ sB.out).mono ?_
        rintro e v1 ⟨rfl,l1⟩
        have l1:Lv w5 v1 R en x1 G 74 #[.string (aC q.aL),.int .i64 0,.int .i64 (q.nameP en).1,.int .i64 (q.nameP en).2]:=l1
        go_wp2_with fail
        refine(hC2 _ l1).mono ?_
        rintro e v2 ⟨rfl,l2⟩
        have l2:Lv w5 v2 R en x2 G 74 #[.string (aC q.aL),.int .i64 0,.int .i64 (q.nameP en).1,.int .i64 (q.nameP en).2]:=l2
        go_wp2_with fail
        refine(vC _ l2).mono ?_
        rintro e v3 ⟨rfl,l3⟩
        have l3:Lv w5 v3 R en x3 G 74 #[.string (aC q.aL),.int .i64 x2.cR,.int .i64 (q.nameP en).1,.int .i64 (q.nameP en).2]:=l3
        go_wp2_with fail
        refine(Cm _ l3).mono ?_
        rintro e v4 ⟨rfl,l4⟩
        have l4:Lv w5 v4 R en x4 G 74 #[.string (aC q.aL),.int .i64 x2.cR,.int .i64 (q.nameP en).1,.int .i64 (q.nameP en).2]:=l4
        go_wp2_with fail
        go_meet
        have hVV:jQ=(⟨q.aL,x2.cR,(q.nameP en).1,(q.nameP en).2⟩,x4):=by rw[vB.out,hx1,hx2,hx3,hx4]
        have hV2:jQ.2=x4:=by rw[hVV]
        have hV1:jQ.1=⟨q.aL,x2.cR,(q.nameP en).1,(q.nameP en).2⟩:=by rw[hVV]
        exact⟨⟨q.aL,x2.cR,(q.nameP en).1,(q.nameP en).2⟩,by rw[hV2];exact congrArg Value.bool Md.symm,fun _=>hV1.symm,by rw[hV2];exact l4⟩
       ·have Ed:(x2.isNum)=false:=by simpa using hb3
        rw[Ed]at Of
        have n3:x3.e≠0:=of_decide_eq_false Of
        rw[if_neg hb3,Ed]at vC
        go_wp2_with fail
        refine(kM _ sB.out).mono ?_
        rintro e v1 ⟨rfl,l1⟩
        have l1:Lv w5 v1 R en x1 G 74 #[.string (aC q.aL),.int .i64 0,.int .i64 (q.nameP en).1,.int .i64 (q.nameP en).2]:=l1
        go_wp2_with fail
        refine(hC2 _ l1).mono ?_
        rintro e v2 ⟨rfl,l2⟩
        have l2:Lv w5 v2 R en x2 G 74 #[.string (aC q.aL),.int .i64 0,.int .i64 (q.nameP en).1,.int .i64 (q.nameP en).2]:=l2
        go_wp2_with fail
        refine(vC _ l2).mono ?_
        rintro e v3 ⟨rfl,l3⟩
        have l3:Lv w5 v3 R en x3 G 74 #[.string (aC q.aL),.int .i64 0,.int .i64 (q.nameP en).1,.int .i64 (q.nameP en).2]:=l3
        go_wp2_with fail
        go_meet
        have hV2:jQ.2=x3:=by rw[vB.out];show (((q.name en).take en [61]).number en).take en [59]=_;rw[hx1,hx2,hx3,Rd.aP en n3]
        exact⟨⟨q.aL,0,(q.nameP en).1,(q.nameP en).2⟩,by rw[hV2];exact congrArg Value.bool (decide_eq_false n3).symm,fun h=>absurd (hV2▸h) n3,by rw[hV2];exact l3⟩
      ·have Ee:(x1.is [61])=false:=by simpa using hb2
       rw[Ee]at hE2
       have n2:x2.e≠0:=of_decide_eq_false hE2
       rw[Ee]at hC2
       go_wp2_with fail
       refine(kM _ sB.out).mono ?_
       rintro e v1 ⟨rfl,l1⟩
       have l1:Lv w5 v1 R en x1 G 74 #[.string (aC q.aL),.int .i64 0,.int .i64 (q.nameP en).1,.int .i64 (q.nameP en).2]:=l1
       go_wp2_with fail
       refine(hC2 _ l1).mono ?_
       rintro e v2 ⟨rfl,l2⟩
       have l2:Lv w5 v2 R en x2 G 74 #[.string (aC q.aL),.int .i64 0,.int .i64 (q.nameP en).1,.int .i64 (q.nameP en).2]:=l2
       go_wp2_with fail
       go_meet
       have hV2:jQ.2=x2:=by rw[vB.out];show (((q.name en).take en [61]).number en).take en [59]=_;rw[hx1,hx2,Rd.iK en n2,Rd.aP en n2]
       exact⟨⟨q.aL,0,(q.nameP en).1,(q.nameP en).2⟩,by rw[hV2];exact congrArg Value.bool (decide_eq_false n2).symm,fun h=>absurd (hV2▸h) n2,by rw[hV2];exact l2⟩
     ·have Ef:(q.isName)=false:=by simpa using hb1
      rw[Ef]at hE1
      have n1:x1.e≠0:=of_decide_eq_false hE1
      rw[if_neg hb1,Ef]at kM
      go_wp2_with fail
      refine(kM _ sB.out).mono ?_
      rintro e v1 ⟨rfl,l1⟩
      have l1:Lv w5 v1 R en x1 G 74 #[.string (aC []),.int .i64 0,.int .i64 0,.int .i64 0]:=l1
      go_wp2_with fail
      go_meet
      have hV2:jQ.2=x1:=by rw[vB.out];show (((q.name en).take en [61]).number en).take en [59]=_;rw[hx1,Rd.aP en n1,Rd.iK en n1,Rd.aP en n1]
      exact⟨⟨[],0,0,0⟩,by rw[hV2];exact congrArg Value.bool (decide_eq_false n1).symm,fun h=>absurd (hV2▸h) n1,by rw[hV2];exact l1⟩
    case rest=>
     obtain⟨el,rfl,hel,hLz⟩:=hcut
     generalize wc=W8 at *
     have HEL:=aB hel
     have Rr:=aB (qQ.out.step hLz.rd hLz.gr)
     have gA:=hLz.loc
     have p0:=aA gA 0 rfl
     have p1:=aA gA 1 rfl
     have p2:=aA gA 2 rfl
     have p3:=aA gA 3 rfl
     have d5:=Rr.out.lo.cV.1.2.2.2.2.2.1
     clear hel hLz gA sB vB
     go_wp2_with (at_builtin;refine Rr.out.push rfl _ _ 66 rfl Tryz.underlying66 _ 40 Ze rfl (by decide) (sJ el) rfl (by intro u hu;simp only[sJ,List.mem_cons,List.not_mem_nil,or_false]at hu;rcases hu with rfl | rfl | rfl | rfl <;> rfl) _ rfl rfl rfl (by omega) (by decide) ?_)
     intro g cap W hLW
     have HLW:=aB hLW
     have hkk:=hLW.lo.cV
     have k5:=hkk.1.2.2.2.2.2.1
     have kf:=hkk.2.2.2 5
     clear d5 p0 p1 p2 p3 hLW hkk
     go_wp2_with fail
     have HLZ:Dl w (W.setCell ⟨w.heap.size+1,5,none⟩ (.slice (some ⟨g,0,none⟩) (acc.length+1) cap)) R en jQ.2 69 z8 #[.int .i64 2,.string (aC nm),.int .i64 pl,.int .i64 pc,.slice none 0 0,(.slice (some ⟨g,0,none⟩) (acc.length+1) cap),.slice none 0 0,.slice none 0 0] 74 4 (.slice (some ⟨g,0,none⟩) (acc.length+1) cap) (acc++[el]).length ((acc++[el]).flatMap sJ):=by
      have:=HLW.out.set 5 (.slice (some ⟨g,0,none⟩) (acc.length+1) cap)
      rw[List.length_append,List.flatMap_append]
      simpa using this
     go_roundw
     case rel=>
      refine⟨f,jQ.2,acc++[el],_,rfl,HLZ,by omega,by simp;omega,fun hz=>⟨HQE.out,?_⟩,fun hz=>?_⟩
      ·rw[HEL.out hz];exact fS.out
      ·rw[fS.out,mA en f jQ.2 _ (fun hh=>hz hh.1)]
     case measure=>
      have e1:=HLZ.lo.rd.m
      have e2:=Su.out
      exact Nat.lt_of_le_of_lt (Nat.le_of_eq e1) (by rw[e2];omega)
  ·have hd0:decide (q.e=0)=false:=decide_eq_false he0
   rw[hd0]
   have hV2:=hno he0
   have HE2:Hid (EN.2=q):=by refine(?_:_=_);rw[tK.out,hV2];exact Rd.aP en he0 _
   have lI:Hid (decide (EN.2.e=0)=false):=by refine(?_:_=_);rw[HE2.out];exact hd0
   obtain⟨⟨c0,c1,c2,c3,c4,c5',c6,c7⟩,⟨a0,a1,a2,a3,a4,a5,a6,a7⟩,hf,_⟩:=Ik.out.lo.cV
   obtain⟨Y,hY,Ih,Ii,Cl,y0,y1,y2,y3,y4,y5,y6,y7⟩:=Ik.out.lo.sN
   have uI:Hid (Y.ownsRow (w.heap.size+2) 74 4 (.slice va acc.length vc) acc.length (acc.flatMap sJ)):=aR Ik.out.own fun b hb=>Cl b (by have:=(aE Ik.out.own b hb).1;omega)
   have HY:=aB hY
   have b0:=hf 0
   have b1:=hf 1
   have b2:=hf 2
   have b3:=hf 3
   have b4:=hf 4
   have b5:=hf 5
   have b6:=hf 6
   have b7:=hf 7
   clear hY hf Cl hno hok hV2 hd0
   go_wp2_with fail
   rw[HY.out]
   exact bodyPost_ret (v:=.tuple #[dval 2 nm pl pc (.slice none 0 0) (.slice va acc.length vc) (.slice none 0 0) (.slice none 0 0),.bool false]) (by unfold dval;simp[results,Tryz.results117,go_sem,y0,y1,y2,y3,y4,y5,y6,y7]) rfl ⟨nm,pl,pc,acc,_,by rw[lI.out],fun hx=>absurd hx (of_decide_eq_false lI.out),by rw[HE2.out];exact Ih,Ii,uI.out⟩
end Go.Proofs.YtpojeinddnjpfaaGreatDoor
