/-
  Walks and plain words (DpO ShW SkX).
-/
import Derived.Test.YtpojeinddnjpfaaGreatDoorM0
import Derived.Test.YtpojeinddnjpfaaGreatDoorM10
import Derived.Test.YtpojeinddnjpfaaGreatDoorM45
import Derived.Test.YtpojeinddnjpfaaGreatDoorM13
import Derived.Test.YtpojeinddnjpfaaGreatDoorM44
namespace Go.Proofs.YtpojeinddnjpfaaGreatDoor
set_option linter.unusedVariables false
open Go.ChangeShapes Go.WideShapes Go.ChangeAt Go.RowKit

def Ai (R:Nat) (wx:World) (v:Value) (b:Nat):Prop:=R+1≤b∧b<wx.heap.size∧v.ownBlock≠some b
structure Df (w0 wx:World) (A R:Nat) (en:Int × Int) (q:Rd) (v:Value) (ds:List Dc) (rs:List (List Value)):Prop where
 rd:bW wx R en q
 Xy:Below w0.heap.size w0 wx
 ans:wx.heap[A]? = some (.cells #[.int .i64 0,.int .i64 0] 31 (0,0))
 decls:De 9 wx (R+1) (Ai R wx v) v ds rs
 ge:w0.heap.size≤A
 lt:A<R
section
variable {w0 wx w':World} {A R:Nat} {en:Int × Int} {q q':Rd} {v:Value} {ds:List Dc} {rs:List (List Value)}
theorem Df.step (h:Df w0 wx A R en q v ds rs) (hr:bW w' R en q') (hg:wx.grownBy w' (some R)):Df w0 w' A R en q' v ds rs:=by
 have hl:=h.lt
 have hge:=h.ge
 have hRl:=h.rd.lt
 have hs:=hg.size
 have hb:∀ b,R+1≤b→b<wx.heap.size→w'.heap[b]? = wx.heap[b]?:=fun b h1 h2=>hg.block b h2 (by intro e;cases e;omega)
 exact⟨hr,h.Xy.grown hg (by have:=h.Xy.size;omega) (fun k hk=>by cases hk;omega),by rw[hg.block A (by omega) (by intro e;cases e;omega)];exact h.ans,
  h.decls.keep (fun b hb'=>hb b (aE h.decls.own b hb').1 (aE h.decls.own b hb').2) (fun b hb'=>hb b hb'.1 hb'.2.1) (fun b hb'=>⟨hb'.1,by have:=hb'.2.1;omega,hb'.2.2⟩),hge,hl⟩
theorem Df.alloc (h:Df w0 wx A R en q v ds rs) (o:Obj):Df w0 (wx.alloc o) A R en q v ds rs:=h.step (h.rd.alloc o) (World.grownBy_alloc _ _ _)
theorem Df.below (h:Df w0 wx A R en q v ds rs) (hb:Below wx.heap.size wx w'):Df w0 w' A R en q v ds rs:=h.step (h.rd.below hb) (grownBy_below hb _)
theorem Df.push (h:Df w0 wx A R en q v ds rs) (x:Dc) (kf kv km ki:Value) (iW:Kids 9 wx (Ai R wx v) kf kv km ki x) (hone:∀ u∈eZ x kf kv km ki,u.oneCell'=true) {ops:Array Oper} {rest:List Oper} {o:Oper} {a:Act} {Q:Exit→Act→World→Prop} (hgd:o.guard=none) (s' x':Operand)
  (ho:o.op=.call { callee:=.builtin .append,args:=#[s',x'],argTypes:=#[35,35] })
  (nO:Array Value) (hcs:nO=(eZ x kf kv km ki).toArray) (hs:a.eval s'=v) (hx:a.eval x'=.slice (some ⟨wx.heap.size,0,none⟩) 1 1) (hbd:ds.length≤100000)
  (hk:∀ g cap W,Df w0 W A R en q (.slice (some ⟨g,0,none⟩) (ds.length+1) cap) (ds++[x]) (rs++[eZ x kf kv km ki])→wpList Tryz.prog ops Q rest (a.put o.dst (.slice (some ⟨g,0,none⟩) (ds.length+1) cap)) W) :
  wpList Tryz.prog ops Q (o :: rest) a (wx.alloc (.cells nO 69)):=by
 subst hcs
 have hRl:=h.rd.lt
 have hl:=h.lt
 have hge:=h.ge
 have ha:=h.alloc (.cells (eZ x kf kv km ki).toArray 69)
 obtain⟨i0,hi0,hz0,hz1,hz2⟩:=info_parts uZ
 refine wpList_append_lies _ hgd s' x' 35 ho (R+1) 69 i0 _ 8 136 Tryz.underlying35 hi0 hz0 hz1 hz2 rfl (by decide) v ds.length (rs.flatMap id) hs ha.decls.own ⟨wx.heap.size,0,none⟩ 1 1 (eZ x kf kv km ki) hx rfl ?_ hone (by decide) (by unfold maxLen;omega) (by omega) (by simp;omega) _ rfl ?_
 ·exact World.news_of_block (cs:=(eZ x kf kv km ki).toArray) (t:=69) (fr:=(0,0)) (by show (wx.heap.push _)[wx.heap.size]? = _;simp)
 ·intro g cap W hown hg hat hlt
  have hsa:(wx.alloc (.cells (eZ x kf kv km ki).toArray 69)).heap.size=wx.heap.size+1:=by simp
  have hsW:=hg.size
  have hkW:∀ b,b<wx.heap.size→v.ownBlock≠some b→W.heap[b]? = wx.heap[b]?:=fun b hb hne=>by
   rw[hg.block b (by rw[hsa];omega) (fun e=>hne e.symm),aD _ _ _ hb]
  have hno:∀ b,b<R+1→v.ownBlock≠some b:=fun b hb e=>by have:=(aE h.decls.own b e).1;omega
  have hgb:R+1≤g:=by
   rcases hat with e | e
   ·exact(aE h.decls.own g e).1
   ·rw[hsa]at e;omega
  have hAw:∀ b,Ai R wx v b→Ai R W (.slice (some ⟨g,0,none⟩) (ds.length+1) cap) b:=fun b hb'=>by
   refine⟨hb'.1,by have:=hb'.2.1;rw[hsa]at hsW;omega,?_⟩
   intro e
   have e':g=b:=by simpa [Value.ownBlock]using e
   subst e'
   rcases hat with e | e
   ·exact hb'.2.2 e
   ·have:=hb'.2.1;rw[hsa]at e;omega
  refine hk g cap W ⟨h.rd.old fun b hb=>hkW b (by omega) (hno b hb),(h.Xy.alloc (by have:=h.Xy.size;omega) _).grown hg (by rw[hsa];have:=h.Xy.size;omega) (fun b hb=>by have:=(aE h.decls.own b hb).1;omega),by rw[hkW A (by omega) (hno A (by omega))];exact h.ans,⟨?_,?_,?_⟩,hge,hl⟩
  ·rw[List.length_append,List.flatMap_append]
   simpa using hown
  ·rw[List.length_append,List.length_append,h.decls.len];rfl
  ·intro j d hj
   by_cases hjl:j<ds.length
   ·rw[List.getElem?_append_left hjl]at hj
    obtain⟨f1,v1,m1,i1,hr1,hk1⟩:=h.decls.kids j d hj
    exact⟨f1,v1,m1,i1,by rw[List.getElem?_append_left (by rw[h.decls.len];exact hjl)];exact hr1,(hk1.old fun b hb'=>hkW b hb'.2.1 hb'.2.2).more hAw⟩
   ·have hjn:=(List.getElem?_eq_some_iff.1 hj).1
    rw[List.length_append]at hjn
    have pD:j=ds.length:=by simp at hjn;omega
    subst pD
    rw[List.getElem?_append_right (Nat.le_refl _),Nat.sub_self]at hj
    have e:x=d:=by simpa using hj
    subst e
    exact⟨kf,kv,km,ki,by rw[←h.decls.len,List.getElem?_append_right (Nat.le_refl _),Nat.sub_self];rfl,(iW.old fun b hb'=>hkW b hb'.2.1 hb'.2.2).more hAw⟩
end
def aBt (a:List Dc × (Int × Int) × Int) (e:Ending) (w':World):Prop:=
 ∃ (ad:Option Addr) (c:Nat) (pl pc:Int),e=.returned (.tuple #[.slice ad a.1.length c,.agg #[.int .i64 pl,.int .i64 pc],.int .i64 a.2.2])∧aM 10 w' (fun b=>b<w'.heap.size) (.slice ad a.1.length c) a.1∧(a.2.2≠0→pl=a.2.1.1∧pc=a.2.1.2)
theorem Hi (pl pc er:Int) (w':World):aBt ([],(pl,pc),er) (.returned (.tuple #[.slice none 0 0,.agg #[.int .i64 pl,.int .i64 pc],.int .i64 er])) w':=
 ⟨none,0,pl,pc,rfl,aM.nil _ _ _ _ _,fun _=>⟨rfl,rfl⟩⟩
theorem Hj (l:List UInt8):∀ x∈(cG l).1,aCd x:=by
 intro x hx
 refine⟨Ia l x hx,fun hk=>?_⟩
 have hok:vR x:=by
  unfold cG at hx
  split at hx
  ·simp at hx
  ·exact oN _ _ _ _ _ (by simp) x hx
 rcases hok with ⟨h1,_⟩ | ⟨_,⟨rs,h2,h3,h4⟩,_⟩ | ⟨h3,_⟩
 ·omega
 ·intro e
  rw[e]at h2
  cases rs with
  | nil=>exact h3 rfl
  | cons a t=>
   have:=congrArg List.length h2
   unfold xW at this
   rw[List.flatMap_cons,List.length_append]at this
   have ht:=h4 a (by simp)
   have:(Lib.encodeRune a).length=0:=by simp at this;omega
   have hp:=(Yo a).1
   omega
 ·omega
set_option maxHeartbeats 16000000 in
set_option maxRecDepth 20000 in
theorem Rk (s:ByteArray) (w:World) (hT:qC w) (hs:s.size≤9223372036854775807) :
  Calls Tryz.prog 38 #[.string s] w fun e w'=>aBt (tI s.data.toList) e w'∧Below w.heap.size w w':=by
 have hb0:=(Below.refl w.heap.size w).alloc (Nat.le_refl _) (.cells #[.int .i64 0,.int .i64 0] 31)
 have HB0:=aB hb0
 have Hr:=aB (alloc_heap_new w (.cells #[.int .i64 0,.int .i64 0] 31))
 have hW:=Iw s (w.alloc (.cells #[.int .i64 0,.int .i64 0] 31)) (jR hT hb0) hs
 have hzV:(w.alloc (.cells #[.int .i64 0,.int .i64 0] 31)).heap.size=w.heap.size+1:=by simp
 clear hb0 hT
 by_cases h0:(cG s.data.toList).2.2=0
 ·have hfl:tI s.data.toList=Dg (((lE s.data.toList).1:Int),((lE s.data.toList).2:Int)) (cG s.data.toList).1:=by unfold tI;rw[if_pos h0]
  have hsh:s.size≤20000:=by have:=Dn _ h0;rw[bC]at this;exact this
  have hEn:=fun W=>Hh s W (by omega)
  have HGD:=aB (Hj s.data.toList)
  have HFW:=aB (Nv s.data.toList)
  rw[hfl]
  obtain⟨en,hen⟩:∃ en:Int × Int,(((lE s.data.toList).1:Int),((lE s.data.toList).2:Int))=en:=⟨_,rfl⟩
  rw[hen]
  have e1:((lE s.data.toList).1:Int)=en.1:=by rw[←hen]
  have e2:((lE s.data.toList).2:Int)=en.2:=by rw[←hen]
  rw[e1,e2]at hEn
  obtain⟨WS,hWS⟩:∃ WS,cG s.data.toList=WS:=⟨_,rfl⟩
  rw[hWS]at hW h0 HGD HFW ⊢
  obtain⟨ws,wp,we⟩:=WS
  have h0':we=0:=h0
  subst h0'
  clear hfl h0 hen e1 e2 hWS
  obtain⟨DL,hDL⟩:∃ DL,dU en (ws.length+1) ⟨ws,0,0,0⟩ []=DL:=⟨_,rfl⟩
  have HDL:=aB hDL
  have hfw:Dg en ws=if DL.2.e=0 then (DL.1,(0,0),0) else ([],(DL.2.pl,DL.2.pc),DL.2.e):=by unfold Dg;rw[hDL]
  show Calls _ _ _ _ fun e w'=>aBt (Dg en ws) e w'∧_
  rw[hfw]
  obtain⟨ANS,hANS⟩:∃ A:List Dc × (Int × Int) × Int,(if DL.2.e=0 then (DL.1,(0,0),0) else ([],(DL.2.pl,DL.2.pc),DL.2.e))=A:=⟨_,rfl⟩
  have Wy:=aB hANS
  rw[hANS]
  clear hfw hDL hANS
  go_enter Tryz.func38,Tryz.ntmps38
  go_wp2_with fail
  generalize w.alloc (.cells #[.int .i64 0,.int .i64 0] 31)=V0 at *
  refine hW.mono ?_
  rintro e w1 ⟨⟨ad,c,wl,wc,rfl,oJ,hlc,_⟩,hb1⟩
  have HWA:=aB oJ
  have HB1:=aB (HB0.out.trans (hb1.mono (by omega)))
  have HA1:Hid (w1.heap[w.heap.size]? = some (.cells #[.int .i64 0,.int .i64 0] 31 (0,0))):=by refine(?_:_=_);rw[hb1.block _ (by omega)];exact Hr.out
  have hz1:=hb1.size
  have aXo:ws.length≤c:=hlc
  clear hW oJ hb1 HB0 Hr hlc
  go_wp2_with fail
  refine(hEn _).mono ?_
  rintro e w2 ⟨rfl,hb2⟩
  have hzA:(w1.alloc (.cells #[.int .i64 wl,.int .i64 wc] 31)).heap.size=w1.heap.size+1:=by simp
  have HB2:=aB ((HB1.out.alloc HB1.out.size (.cells #[.int .i64 wl,.int .i64 wc] 31)).trans (hb2.mono (by have:=HB1.out.size;omega)))
  have hz2:=hb2.size
  have HA2:Hid (w2.heap[w.heap.size]? = some (.cells #[.int .i64 0,.int .i64 0] 31 (0,0))):=by refine(?_:_=_);rw[hb2.block _ (by omega),aD _ _ _ (by omega)];exact HA1.out
  have HW2:Hid (dE w2 w2.heap.size ad ws):=by
   refine(?_:dE w2 w2.heap.size ad ws)
   rcases HWA.out with hh | ⟨g,rfl,hh⟩
   ·exact .inl hh
   ·by_cases hws:ws=[]
    ·exact .inl hws
    ·have hg:g<w1.heap.size:=by
      cases ws with
      | nil=>exact absurd rfl hws
      | cons x t=>exact jD (hh 0 x rfl).1
     refine .inr ⟨g,0,rfl,by omega,fun j x hj=>?_⟩
     have eb:w2.heap[g]? = w1.heap[g]?:=by rw[hb2.block g (by omega),aD _ _ _ hg]
     obtain⟨x1,x2,x3,x4⟩:=hh j x hj
     rw[Nat.zero_add,Nat.zero_add,Nat.zero_add,Nat.zero_add]
     exact⟨by rw[World.cell?_of_block eb];exact x1,by rw[World.cell?_of_block eb];exact x2,by rw[World.cell?_of_block eb];exact x3,by rw[World.cell?_of_block eb];exact x4⟩
  clear hb2 HWA HB1 HA1 hEn
  go_wp2_with fail
  have HRD:Hid (bW (w2.alloc (.cells #[.slice ad ws.length c,.int .i64 en.1,.int .i64 en.2,.int .i64 0,.int .i64 0,.int .i64 0] 145)) w2.heap.size en ⟨ws,0,0,0⟩):=
   ⟨⟨ad,c,alloc_heap_new _ _,aXo,HW2.out.old fun k hk=>aD _ _ _ hk⟩,HGD.out,HFW.out⟩
  have HLF:Hid (Df w (w2.alloc (.cells #[.slice ad ws.length c,.int .i64 en.1,.int .i64 en.2,.int .i64 0,.int .i64 0,.int .i64 0] 145)) w.heap.size w2.heap.size en ⟨ws,0,0,0⟩ (.slice none 0 0) [] []):=
   ⟨HRD.out,HB2.out.alloc HB2.out.size _,by rw[aD _ _ _ (by omega)];exact HA2.out,De.nil _ _ _ _,Nat.le_refl _,by omega⟩
  have xX:ws.length≤4000:=HFW.out
  clear HRD HW2 HB2 HA2 HGD HFW
  generalize w2.heap.size=R at *
  go_loopw [9] (fun v wr=>∃ (f:Nat) (q:Rd) (ds:List Dc) (rs:List (List Value)),Df w wr w.heap.size R en q v ds rs∧q.e=0∧q.m≤f∧ds.length+q.m≤4001∧DL=dU en f q ds) (fun _ wr=>rdM wr R)
  case atStart=>exact⟨ws.length+1,⟨ws,0,0,0⟩,[],[],HLF.out,rfl,Rd.Ar _,by have:=Rd.Ar ⟨ws,0,0,0⟩;show 0+_≤_;have e:(Rd.mk ws 0 0 0).l.length=ws.length:=rfl;omega,HDL.out.symm⟩
  case round=>
   obtain⟨f,q,ds,rs,hLf,he,hmf,hacc,hdl⟩:=hrel
   obtain⟨va0,vc0,rfl⟩:=aO hLf.decls.own
   have HDQ:=aB hdl
   have HLf:=aB hLf
   obtain⟨qa,qc,hql,hqw,_,c0,c1,c2,c3,c4,c5,hqf⟩:=hLf.rd.get
   have Su:=aB hLf.rd.m
   have hAR:=hLf.lt
   have hRl:=hLf.rd.lt
   clear hdl hLf hqw hqf c1 c2 c3 c4 c5
   by_cases hne:q.l=[]
   ·obtain rfl:DL=(ds,q):=by rw[HDQ.out,iL en f q ds (fun hh=>hh.2 hne)]
    obtain rfl:ANS=(ds,(0,0),0):=by rw[←Wy.out,if_pos he]
    have hA:=HLf.out.ans
    have a0:=aA hA 0 rfl
    have a1:=aA hA 1 rfl
    have b0:=aF hA 0
    have b1:=aF hA 1
    rw[hne]at c0
    have c0':wr.cell? ⟨R,0,none⟩=some (.slice qa 0 qc):=c0
    have HST:Hid (∃ Y,(wr.setCell ⟨w.heap.size,0,none⟩ (.int .i64 0)).setCell ⟨w.heap.size,1,none⟩ (.int .i64 0)=Y∧Y.cell? ⟨w.heap.size,0,none⟩=some (.int .i64 0)∧Y.cell? ⟨w.heap.size,1,none⟩=some (.int .i64 0)∧Below w.heap.size w Y∧(∀ b,b≠w.heap.size→Y.heap[b]? = wr.heap[b]?)):=by
     refine(?_:∃ Y,_)
     have g1:(wr.setCell ⟨w.heap.size,0,none⟩ (.int .i64 0)).heap[w.heap.size]? = some (.cells #[.int .i64 0,.int .i64 0] 31 (0,0)):=aG hA _
     have g2:((wr.setCell ⟨w.heap.size,0,none⟩ (.int .i64 0)).setCell ⟨w.heap.size,1,none⟩ (.int .i64 0)).heap[w.heap.size]? = some (.cells #[.int .i64 0,.int .i64 0] 31 (0,0)):=aG g1 _
     have g3:=(HLf.out.Xy.setCell (p:=⟨w.heap.size,0,none⟩) (Nat.le_refl _) (.int .i64 0)).setCell (p:=⟨w.heap.size,1,none⟩) (Nat.le_refl _) (.int .i64 0)
     have g4:∀ b,b≠w.heap.size→((wr.setCell ⟨w.heap.size,0,none⟩ (.int .i64 0)).setCell ⟨w.heap.size,1,none⟩ (.int .i64 0)).heap[b]? = wr.heap[b]?:=fun b hb=>by rw[Below.heap_setCell _ _ _ _ hb,Below.heap_setCell _ _ _ _ hb]
     generalize (wr.setCell ⟨w.heap.size,0,none⟩ (.int .i64 0)).setCell ⟨w.heap.size,1,none⟩ (.int .i64 0)=Y at *
     exact⟨Y,rfl,by simp[World.cell?,g2],by simp[World.cell?,g2],g3,g4⟩
    obtain⟨Y,hY,r0,r1,Cl,hoY⟩:=HST.out
    have HY:=aB hY
    have HHD:Hid (aM 10 Y (fun b=>b<Y.heap.size) (.slice va0 ds.length vc0) ds):=by
     refine(?_:aM 10 Y _ _ _)
     have hsY:Y.heap.size=wr.heap.size:=by rw[←hY];simp
     have hd:=HLf.out.decls.keep (w':=Y) (S':=Ai R wr (.slice va0 ds.length vc0)) (fun b hb=>hoY b (by have:=(aE HLf.out.decls.own b hb).1;omega)) (fun b hb=>hoY b (by have:=hb.1;omega)) (fun b hb=>hb)
     refine hd.held (fun b hb=>by rw[hsY];exact hb.2.1) fun b hb=>?_
     rw[hsY];exact(aE HLf.out.decls.own b hb).2
    clear hne c0 hY hoY he hA HST
    go_wp2_with fail
    rw[HY.out]
    exact bodyPost_ret (v:=.tuple #[.slice va0 ds.length vc0,.agg #[.int .i64 0,.int .i64 0],.int .i64 0]) (by simp[results,Tryz.results38,go_sem,r0,r1]) rfl ⟨⟨va0,vc0,0,0,rfl,HHD.out,fun h=>absurd rfl h⟩,Cl⟩
   ·have hm1:1≤q.m:=by unfold Rd.m;rw[if_pos he];omega
    obtain⟨f,rfl⟩:∃ f',f=f'+1:=⟨f - 1,by omega⟩
    have bGj:0<q.l.length:=List.length_pos_iff.2 hne
    have hz:(0:Int)<(q.l.length:Int):=by omega
    have HVO:Hid (∀ b,(Value.slice va0 ds.length vc0).ownBlock=some b→b<wr.heap.size):=fun b hb=>(aE HLf.out.decls.own b hb).2
    have fO:=sO R en q wr he HLf.out.rd
    have bGl:=Zn en q
    have jX:Hid ((eS en q).2.e=0→DL=dU en f (eS en q).2 (ds++[(eS en q).1])):=fun hz=>by rw[HDQ.out,Eh en f q ds ⟨he,hne⟩,if_pos hz]
    have dR:Hid ((eS en q).2.e≠0→DL.2=(eS en q).2):=fun hz=>by rw[HDQ.out,Iq en f q ds ⟨he,hne⟩ hz]
    generalize eS en q=CH at *
    clear HDQ hne
    go_wp2_with fail
    refine fO.mono ?_
    rintro e W5 ⟨d,fa,fn,fc,va,vn,vc,ma,mn,mc,ia,inn,ic,rfl,hd,iT,hg5,iW⟩
    have qQ:=aB (HLf.out.step iT hg5)
    have dF:=hg5.size
    have eO:Hid (∀ ob,Kids 9 (W5.alloc ob) (Ai R (W5.alloc ob) (.slice va0 ds.length vc0)) (.slice fa fn fc) (.slice va vn vc) (.slice ma mn mc) (.slice ia inn ic) d):=fun ob=>by
     refine(iW.old fun b hb=>aD _ _ _ hb.2).more fun b hb=>?_
     have hb1:=hb.1
     have hb2:=hb.2
     exact⟨by omega,by simp;omega,fun e=>by have:=HVO.out b e;omega⟩
    have lI:=aB hd
    clear fO iW iT hg5 c0 hd
    by_cases hce:CH.2.e=0
    ·have hdt:decide (CH.2.e=0)=true:=decide_eq_true hce
     rw[hdt]
     obtain rfl:d=CH.1:=lI.out hce
     have HDG:=aB (jX.out hce)
     have Rr:=aB (qQ.out.alloc (.cells #[.int .i64 CH.1.kind,.string (aC CH.1.name),.int .i64 CH.1.line,.int .i64 CH.1.col,.slice fa fn fc,.slice va vn vc,.slice ma mn mc,.slice ia inn ic] 69))
     have HKA:=aB (eO.out (.cells #[.int .i64 CH.1.kind,.string (aC CH.1.name),.int .i64 CH.1.line,.int .i64 CH.1.col,.slice fa fn fc,.slice va vn vc,.slice ma mn mc,.slice ia inn ic] 69))
     have hnw:=alloc_heap_new W5 (.cells #[.int .i64 CH.1.kind,.string (aC CH.1.name),.int .i64 CH.1.line,.int .i64 CH.1.col,.slice fa fn fc,.slice va vn vc,.slice ma mn mc,.slice ia inn ic] 69)
     clear hdt jX dR eO lI
     go_upto_region 8 with fail
     generalize W5.alloc (.cells #[.int .i64 CH.1.kind,.string (aC CH.1.name),.int .i64 CH.1.line,.int .i64 CH.1.col,.slice fa fn fc,.slice va vn vc,.slice ma mn mc,.slice ia inn ic] 69)=Y at *
     generalize W5.heap.size=I at *
     have p0:=aA hnw 0 rfl
     have p1:=aA hnw 1 rfl
     have p2:=aA hnw 2 rfl
     have p3:=aA hnw 3 rfl
     have p4:=aA hnw 4 rfl
     have p5:=aA hnw 5 rfl
     have p6:=aA hnw 6 rfl
     have p7:=aA hnw 7 rfl
     clear hnw
     go_wp2_with (at_builtin;refine Rr.out.push CH.1 _ _ _ _ HKA.out (by intro u hu;simp only[eZ,List.mem_cons,List.not_mem_nil,or_false]at hu;rcases hu with rfl | rfl | rfl | rfl | rfl | rfl | rfl | rfl <;> rfl) rfl _ _ rfl _ rfl rfl rfl (by omega) ?_)
     intro g cap W6 hL6
     have Ro:=aB hL6
     clear hL6 p0 p1 p2 p3 p4 p5 p6 p7
     go_wp2_with fail
     go_roundw
     case rel=>exact⟨f,CH.2,ds++[CH.1],_,Ro.out,hce,by omega,by simp;omega,HDG.out⟩
     case measure=>
      have e1:=Ro.out.rd.m
      have e2:=Su.out
      exact Nat.lt_of_le_of_lt (Nat.le_of_eq e1) (by rw[e2];omega)
    ·have hdf:decide (CH.2.e=0)=false:=decide_eq_false hce
     rw[hdf]
     have hD2:=dR.out hce
     obtain rfl:ANS=([],(CH.2.pl,CH.2.pc),CH.2.e):=by rw[←Wy.out,hD2,if_neg hce]
     have Rr:=aB (qQ.out.alloc (.cells #[.int .i64 d.kind,.string (aC d.name),.int .i64 d.line,.int .i64 d.col,.slice fa fn fc,.slice va vn vc,.slice ma mn mc,.slice ia inn ic] 69))
     clear hdf jX dR eO lI hD2
     go_upto_region 9 with fail
     generalize W5.alloc (.cells #[.int .i64 d.kind,.string (aC d.name),.int .i64 d.line,.int .i64 d.col,.slice fa fn fc,.slice va vn vc,.slice ma mn mc,.slice ia inn ic] 69)=Y at *
     obtain⟨_,_,_,_,_,_,_,_,k3,k4,k5,_⟩:=Rr.out.rd.get
     have hA:=Rr.out.ans
     have a0:=aA hA 0 rfl
     have a1:=aA hA 1 rfl
     have b0:=aF hA 0
     have b1:=aF hA 1
     have HBL:=aB Rr.out.Xy
     have HA:=aB hA
     clear hA Rr qQ HLf
     go_region
     all_goals
      go_wp2_with fail
      have g1:(Y.setCell ⟨w.heap.size,0,none⟩ (.int .i64 CH.2.pl)).heap[w.heap.size]? = some (.cells #[.int .i64 CH.2.pl,.int .i64 0] 31 (0,0)):=aG HA.out _
      have g2:((Y.setCell ⟨w.heap.size,0,none⟩ (.int .i64 CH.2.pl)).setCell ⟨w.heap.size,1,none⟩ (.int .i64 CH.2.pc)).heap[w.heap.size]? = some (.cells #[.int .i64 CH.2.pl,.int .i64 CH.2.pc] 31 (0,0)):=aG g1 _
      have g3:=(HBL.out.setCell (p:=⟨w.heap.size,0,none⟩) (Nat.le_refl _) (.int .i64 CH.2.pl)).setCell (p:=⟨w.heap.size,1,none⟩) (Nat.le_refl _) (.int .i64 CH.2.pc)
      generalize (Y.setCell ⟨w.heap.size,0,none⟩ (.int .i64 CH.2.pl)).setCell ⟨w.heap.size,1,none⟩ (.int .i64 CH.2.pc)=Z at *
      have r0:=aA g2 0 rfl
      have r1:=aA g2 1 rfl
      exact bodyPost_ret (v:=.tuple #[.slice none 0 0,.agg #[.int .i64 CH.2.pl,.int .i64 CH.2.pc],.int .i64 CH.2.e]) (by simp[results,Tryz.results38,go_sem,r0,r1]) rfl ⟨Hi _ _ _ _,g3.drew⟩
 ·have hfl:tI s.data.toList=([],(((cG s.data.toList).2.1.1:Int),((cG s.data.toList).2.1.2:Int)),(cG s.data.toList).2.2):=by unfold tI;rw[if_neg h0]
  rw[hfl]
  have hwe:=Oq _ h0
  obtain⟨WS,hWS⟩:∃ WS,cG s.data.toList=WS:=⟨_,rfl⟩
  rw[hWS]at hW h0 hwe ⊢
  obtain⟨ws,⟨PL,PC⟩,ER⟩:=WS
  have aXr:ws=[]:=hwe
  subst aXr
  have h0e:¬ER=0:=h0
  have h0':(ER != 0)=true:=by simpa using h0e
  show Calls _ _ _ _ fun e w'=>aBt ([],((PL:Int),(PC:Int)),ER) e w'∧_
  clear hfl h0 hwe hWS
  go_enter Tryz.func38,Tryz.ntmps38
  go_wp2_with fail
  generalize w.alloc (.cells #[.int .i64 0,.int .i64 0] 31)=V0 at *
  refine hW.mono ?_
  rintro e w1 ⟨⟨ad,c,wl,wc,rfl,_,_,hpp⟩,hb1⟩
  obtain⟨p1,p2⟩:=hpp h0e
  have p1:wl=(PL:Int):=p1
  have p2:wc=(PC:Int):=p2
  subst p1 p2
  have HB1:=aB (HB0.out.trans (hb1.mono (by omega)))
  have hz1:=hb1.size
  have hA1:∀ o,(w1.alloc o).heap[w.heap.size]? = some (.cells #[.int .i64 0,.int .i64 0] 31 (0,0)):=fun o=>by rw[aD _ _ _ (by omega),hb1.block _ (by omega)];exact Hr.out
  have HA1:=aB hA1
  clear hW hb1 hA1 h0e
  go_upto_region 3 with fail
  have q0:(w1.alloc (.cells #[.int .i64 (PL:Int),.int .i64 (PC:Int)] 31)).cell? ⟨w1.heap.size,0,none⟩=some (.int .i64 (PL:Int)):=by simp
  have q1:(w1.alloc (.cells #[.int .i64 (PL:Int),.int .i64 (PC:Int)] 31)).cell? ⟨w1.heap.size,1,none⟩=some (.int .i64 (PC:Int)):=by simp
  have HAV:=aB (HA1.out (.cells #[.int .i64 (PL:Int),.int .i64 (PC:Int)] 31))
  have HBV:=aB (HB1.out.alloc HB1.out.size (.cells #[.int .i64 (PL:Int),.int .i64 (PC:Int)] 31))
  clear HA1
  generalize w1.alloc (.cells #[.int .i64 (PL:Int),.int .i64 (PC:Int)] 31)=V at *
  have hA:=HAV.out
  have a0:=aA hA 0 rfl
  have a1:=aA hA 1 rfl
  have b0:=aF hA 0
  have b1:=aF hA 1
  clear hA
  go_region
  all_goals
   go_wp2_with fail
   have g1:(V.setCell ⟨w.heap.size,0,none⟩ (.int .i64 (PL:Int))).heap[w.heap.size]? = some (.cells #[.int .i64 (PL:Int),.int .i64 0] 31 (0,0)):=aG HAV.out _
   have g2:((V.setCell ⟨w.heap.size,0,none⟩ (.int .i64 (PL:Int))).setCell ⟨w.heap.size,1,none⟩ (.int .i64 (PC:Int))).heap[w.heap.size]? = some (.cells #[.int .i64 (PL:Int),.int .i64 (PC:Int)] 31 (0,0)):=aG g1 _
   have g3:=(HBV.out.setCell (p:=⟨w.heap.size,0,none⟩) (Nat.le_refl _) (.int .i64 (PL:Int))).setCell (p:=⟨w.heap.size,1,none⟩) (Nat.le_refl _) (.int .i64 (PC:Int))
   generalize (V.setCell ⟨w.heap.size,0,none⟩ (.int .i64 (PL:Int))).setCell ⟨w.heap.size,1,none⟩ (.int .i64 (PC:Int))=Y at *
   have r0:=aA g2 0 rfl
   have r1:=aA g2 1 rfl
   exact bodyPost_ret (v:=.tuple #[.slice none 0 0,.agg #[.int .i64 (PL:Int),.int .i64 (PC:Int)],.int .i64 ER]) (by simp[results,Tryz.results38,go_sem,r0,r1]) rfl ⟨Hi _ _ _ _,g3.drew⟩
def okB:Nat→List Dc→Bool
 | 0,_=>true
 | f+1,ds=>decide (ds.length≤100000)&&ds.all fun d=>decide (d.fields.length≤100000)&&decide (d.values.length≤100000)&&decide (d.methods.length≤100000)&&decide (d.name.length≤200000000)&&
   d.fields.all (fun x=>decide (x.type.length≤200000000)&&decide (x.name.length≤200000000))&&d.values.all (fun x=>decide (x.name.length≤200000000))&&d.methods.all (fun x=>decide (x.name.length≤200000000)&&decide (x.inp.length≤200000000)&&decide (x.out.length≤200000000))&&okB f d.inner
theorem rY:∀ (f:Nat) (ds:List Dc),okB f ds=true→iV f ds∧lL f ds
 | 0,_,_=>⟨trivial,trivial⟩
 | f+1,ds,h=>by
  rw[okB]at h
  simp only[Bool.and_eq_true,decide_eq_true_iff,List.all_eq_true]at h
  refine⟨⟨h.1,fun d hd=>?_⟩,fun d hd=>?_⟩
  all_goals
   obtain⟨⟨⟨⟨⟨⟨⟨a1,a2⟩,a3⟩,a4⟩,a5⟩,a6⟩,a7⟩,a8⟩:=h.2 d hd
   have hi:=rY f d.inner a8
  ·exact⟨a1,a2,a3,hi.1⟩
  ·exact⟨a4,a5,a6,fun x hx=>⟨(a7 x hx).1.1,(a7 x hx).1.2,(a7 x hx).2⟩,hi.2⟩
def aBv:List UInt8:=[109,101,115,115,97,103,101,32,65,32,123,32,105,110,116,54,52,32,120,32,61,32,49,59,32,125,32,115,101,114,118,105,99,101,32,83,32,123,32,114,112,99,32,109,40,65,41,32,114,101,116,117,114,110,115,32,40,65,41,59,32,125]
def nB:List Dc:=(tI aBv).1
theorem aBw:(tI aBv).2.2=0:=by decide +kernel
theorem tH:okB 10 nB=true∧mO 10 nB≤2000∧oQ 10 0 nB=true:=by decide +kernel
theorem aBx:(iC 9 nB none).2=((0,0),0)∧(iC 9 nB none).1.ms.length=1∧(iC 9 nB none).1.ts.map (·.id)=[1]:=by decide +kernel
theorem aIc:((cU 9 (bR nB) (aX 10 [] nB) (aX 10 [] nB).length (aX 10 [] nB)).ms.all fun m=>m.fields.all fun g=>decide (g.kind≠10))=true:=by decide +kernel
theorem no_ring {ms:List MD} (h:(ms.all fun m=>m.fields.all fun g=>decide (g.kind≠10))=true) (t:Nat):¬Ring ms t:=by
 have hno:∀ a b,¬Goes ms a b:=by
  rintro a b ⟨m,hm,g,hg,hk,-,-⟩
  have h1:=List.all_eq_true.1 h m (List.mem_of_getElem? hm)
  have h2:=List.all_eq_true.1 h1 g hg
  exact of_decide_eq_true h2 hk
 intro hr
 unfold Ring at hr
 cases hr with
 | single h=>exact hno _ _ h
 | tail _ h=>exact hno _ _ h
theorem aBy {r:SC × (Int × Int) × Int} (h:Ht 9 nB r):r=iC 9 nB none:=by
 obtain⟨o,ho,rfl⟩:=h
 cases o with
 | none=>rfl
 | some p=>
  obtain⟨i,x,hx,hk,hr,-,-⟩:=ho
  exact absurd hr (no_ring aIc _)
open Go.Maps
set_option maxHeartbeats 16000000 in
set_option maxRecDepth 20000 in
theorem Rl (w:World) (hT:qC w):Calls Tryz.prog 14 #[.string ⟨#[109,101,115,115,97,103,101,32,65,32,123,32,105,110,116,54,52,32,120,32,61,32,49,59,32,125,32,115,101,114,118,105,99,101,32,83,32,123,32,114,112,99,32,109,40,65,41,32,114,101,116,117,114,110,115,32,40,65,41,59,32,125]⟩] w fun e w'=>aDl (fun r=>r=iC 9 nB none) w e w':=by
 have hV4:((w.alloc (.cells #[.slice none 0 0,.slice none 0 0,.slice none 0 0] 29)).alloc (.cells #[.int .i64 0,.int .i64 0] 31)).heap[w.heap.size]? = some (.cells #[.slice none 0 0,.slice none 0 0,.slice none 0 0] 29 (0,0)):=by
  rw[aD _ _ _ (by simp)];exact alloc_heap_new _ _
 have hV5:((w.alloc (.cells #[.slice none 0 0,.slice none 0 0,.slice none 0 0] 29)).alloc (.cells #[.int .i64 0,.int .i64 0] 31)).heap[w.heap.size+1]? = some (.cells #[.int .i64 0,.int .i64 0] 31 (0,0)):=by
  have:=alloc_heap_new (w.alloc (.cells #[.slice none 0 0,.slice none 0 0,.slice none 0 0] 29)) (.cells #[.int .i64 0,.int .i64 0] 31)
  simpa using this
 have hVB:Below w.heap.size w ((w.alloc (.cells #[.slice none 0 0,.slice none 0 0,.slice none 0 0] 29)).alloc (.cells #[.int .i64 0,.int .i64 0] 31)):=((Below.refl _ w).alloc (Nat.le_refl _) _).alloc (by simp) _
 have iH:w.heap.size+2≤((w.alloc (.cells #[.slice none 0 0,.slice none 0 0,.slice none 0 0] 29)).alloc (.cells #[.int .i64 0,.int .i64 0] 31)).heap.size:=by simp
 have Mc:=jR hT hVB
 clear hT
 go_enter Tryz.func14,Tryz.ntmps14
 go_upto_region 1 with fail
 generalize ((w.alloc (.cells #[.slice none 0 0,.slice none 0 0,.slice none 0 0] 29)).alloc (.cells #[.int .i64 0,.int .i64 0] 31))=V at *
 have hF:=Rk ⟨#[109,101,115,115,97,103,101,32,65,32,123,32,105,110,116,54,52,32,120,32,61,32,49,59,32,125,32,115,101,114,118,105,99,101,32,83,32,123,32,114,112,99,32,109,40,65,41,32,114,101,116,117,114,110,115,32,40,65,41,59,32,125]⟩ V Mc (by decide)
 have eA:(ByteArray.mk #[109,101,115,115,97,103,101,32,65,32,123,32,105,110,116,54,52,32,120,32,61,32,49,59,32,125,32,115,101,114,118,105,99,101,32,83,32,123,32,114,112,99,32,109,40,65,41,32,114,101,116,117,114,110,115,32,40,65,41,59,32,125]).data.toList=aBv:=rfl
 rw[eA]at hF
 have HV4:=aB hV4
 have HV5:=aB hV5
 have iA:=aB hVB
 clear hV4 hV5 hVB Mc eA
 go_wp2_with fail
 refine hF.mono ?_
 rintro e Y ⟨⟨ad,c,pl,pc,rfl,hH,-⟩,gE⟩
 rw[aBw]
 have hYs:=gE.size
 have hx4:(Y.alloc (.cells #[.int .i64 pl,.int .i64 pc] 31)).heap[w.heap.size]? = some (.cells #[.slice none 0 0,.slice none 0 0,.slice none 0 0] 29 (0,0)):=(aD _ _ _ (by omega)).trans ((gE.block _ (by omega)).trans HV4.out)
 have hx5:(Y.alloc (.cells #[.int .i64 pl,.int .i64 pc] 31)).heap[w.heap.size+1]? = some (.cells #[.int .i64 0,.int .i64 0] 31 (0,0)):=(aD _ _ _ (by omega)).trans ((gE.block _ (by omega)).trans HV5.out)
 have pW:Below w.heap.size w (Y.alloc (.cells #[.int .i64 pl,.int .i64 pc] 31)):=(iA.out.trans (gE.mono (by omega))).alloc (by omega) _
 have hHZ:aM 10 (Y.alloc (.cells #[.int .i64 pl,.int .i64 pc] 31)) (fun b=>b<(Y.alloc (.cells #[.int .i64 pl,.int .i64 pc] 31)).heap.size) (.slice ad nB.length c) nB:=(hH.old (w':=Y.alloc (.cells #[.int .i64 pl,.int .i64 pc] 31)) (fun b hb=>aD _ _ _ hb)).more fun b hb=>by simp;omega
 have hZs:Y.heap.size+1≤(Y.alloc (.cells #[.int .i64 pl,.int .i64 pc] 31)).heap.size:=by simp
 have eL:(tI aBv).1.length=nB.length:=rfl
 rw[eL]
 generalize hLN:nB.length=LN at *
 obtain⟨Z,hZ⟩:∃ Z,Y.alloc (.cells #[.int .i64 pl,.int .i64 pc] 31)=Z:=⟨_,rfl⟩
 rw[hZ]at hx4 hx5 pW hHZ hZs
 have HZ:=aB hZ
 have hcall:=Ky 9 nB (.slice ad LN c) Z (rY _ _ tH.1).1 (rY _ _ tH.1).2 tH.2.1 (fun h=>aOm (rY _ _ tH.1).1 (rY _ _ tH.1).2 tH.2.1 h) hHZ
 have HX4:=aB hx4
 have HX5:=aB hx5
 have iU:=aB pW
 clear hx4 hx5 pW hHZ hZ hH gE hF HV4 HV5 iA eL
 go_upto_region 2 with fail
 rw[HZ.out]
 go_wp2_with fail
 refine hcall.mono ?_
 rintro e W ⟨aa,ba,ca,an,ac,bn,bc,cn,cc,s,l,p,k,rfl,hbW,hsc,hP⟩
 have HP:=aB (aBy hP)
 have hWs:=hbW.size
 have cX:W.heap[w.heap.size]? = some (.cells #[.slice none 0 0,.slice none 0 0,.slice none 0 0] 29 (0,0)):=(hbW.block _ (by omega)).trans HX4.out
 have dF:W.heap[w.heap.size+1]? = some (.cells #[.int .i64 0,.int .i64 0] 31 (0,0)):=(hbW.block _ (by omega)).trans HX5.out
 have m0:=aA cX 0 rfl
 have m1:=aA cX 1 rfl
 have m2:=aA cX 2 rfl
 have Gv:=aF cX 0
 have mf1:=aF cX 1
 have mf2:=aF cX 2
 have p0:=aA dF 0 rfl
 have p1:=aA dF 1 rfl
 have Gw:=aF dF 0
 have Gx:=aF dF 1
 obtain⟨A1,hA1,a8,ao,yN,ab⟩:=cO cX (.slice aa an ac) (.slice ba bn bc) (.slice ca cn cc)
 obtain⟨A2,hA2,c8,co,cs,cb⟩:=bU ((ao _ (by omega)).trans dF) (.int .i64 l) (.int .i64 p)
 have hA:A2.heap[w.heap.size]? = _:=(co _ (by omega)).trans a8
 have r0:=aA hA 0 rfl
 have r1:=aA hA 1 rfl
 have r2:=aA hA 2 rfl
 have r3:=aA c8 0 rfl
 have r4:=aA c8 1 rfl
 have HA1:=aB hA1
 have HA2:=aB hA2
 have yO:Hid (Below w.heap.size w A2):=(iU.out.trans (hbW.mono (by omega))).trans (ab.trans (cb.mono (by omega)))
 have hsame:∀ b,Z.heap.size≤b∧b<W.heap.size→A2.heap[b]? = W.heap[b]?:=fun b hb=>(co b (by omega)).trans (ao b (by omega))
 have yH:Hid (cH A2 (fun b=>w.heap.size≤b∧b<A2.heap.size) (.slice aa an ac) (.slice ba bn bc) (.slice ca cn cc) s):=⟨(aW.old hsc.1 hsame).more fun b hb=>⟨by omega,by omega⟩,(aW.old hsc.2.1 hsame).more fun b hb=>⟨by omega,by omega⟩,(hsc.2.2.old hsame).more fun b hb=>⟨by omega,by omega⟩⟩
 clear hA1 a8 ao yN ab hA2 c8 co cs cb hA cX dF hsame hsc hP hbW hcall HX4 HX5
 go_wp2_with fail
 rw[HA1.out,HA2.out]
 try go_wp2_with fail
 refine bodyPost_ret (v:=.tuple #[.agg #[.slice aa an ac,.slice ba bn bc,.slice ca cn cc],.agg #[.int .i64 l,.int .i64 p],.int .i64 k]) (by simp[results,Tryz.results14,go_sem,r0,r1,r2,r3,r4]) rfl ?_
 exact⟨aa,ba,ca,an,ac,bn,bc,cn,cc,_,l,p,k,rfl,yO.out,yH.out,HP.out⟩
set_option maxHeartbeats 16000000 in
set_option maxRecDepth 20000 in
theorem Lc (w:World) (hT:qC w):Calls Tryz.prog 8 #[] w fun e w'=>e=.returned (.bool true)∧Below w.heap.size w w':=by
 have hC:=Rl w hT
 clear hT
 go_enter Tryz.func8,Tryz.ntmps8
 go_wp2_with fail
 refine hC.mono ?_
 rintro e W ⟨aa,ba,ca,an,ac,bn,bc,cn,cc,s,l,p,k,rfl,hbW,hsc,hP⟩
 obtain⟨c1,c2,c3⟩:=aBx
 rw[←hP]at c1 c2 c3
 have hWs:=hbW.size
 obtain⟨e1,e2⟩:(l,p)=(0,0)∧k=0:=by simpa using c1
 obtain⟨rfl,rfl⟩:l=0∧p=0:=by simpa using e1
 subst e2
 obtain⟨_,_,hm,-,-⟩:=hsc.1
 have hm1:an=1:=by
  have:=c2
  simp only at this
  injection hm with _ h2 _
  omega
 obtain⟨td,tt,hts⟩:∃ td tt,s.ts=td :: tt:=by
  cases hs:s.ts with
  | nil=>simp[hs]at c3
  | cons a b=>exact⟨a,b,rfl⟩
 simp only[hts,List.map_cons,List.cons.injEq,List.map_eq_nil_iff]at c3
 obtain⟨hid,rfl⟩:=c3
 have hT:=hsc.2.2
 unfold zL at hT
 rw[hts]at hT
 obtain⟨ad,c,hv,hc,h | ⟨g,o,had,hg,h⟩⟩:=hT
 ·cases h
 have hcn:cn=1∧ca=some ⟨g,o,none⟩:=by
  injection hv with h1 h2 _
  exact⟨h2,h1.trans had⟩
 obtain⟨rfl,rfl⟩:=hcn
 subst hm1
 have hrow:=h 0 td rfl 0 (.int .i64 td.id) rfl
 rw[hid]at hrow
 have hrow':((W.alloc (.cells #[.slice aa 1 ac,.slice ba bn bc,.slice (some ⟨g,o,none⟩) 1 cc] 29)).alloc (.cells #[.int .i64 0,.int .i64 0] 31)).cell? ⟨g,o,none⟩=some (.int .i64 1):=by
  have e:((W.alloc (.cells #[.slice aa 1 ac,.slice ba bn bc,.slice (some ⟨g,o,none⟩) 1 cc] 29)).alloc (.cells #[.int .i64 0,.int .i64 0] 31)).heap[g]? = W.heap[g]?:=by rw[aD _ _ _ (by simp;have:=hg.2;omega)];exact aD _ _ _ hg.2
  rw[World.cell?_of_block e];simpa using hrow
 have hx:((W.alloc (.cells #[.slice aa 1 ac,.slice ba bn bc,.slice (some ⟨g,o,none⟩) 1 cc] 29)).alloc (.cells #[.int .i64 0,.int .i64 0] 31)).heap[W.heap.size]? = some (.cells #[.slice aa 1 ac,.slice ba bn bc,.slice (some ⟨g,o,none⟩) 1 cc] 29 (0,0)):=(aD _ _ _ (by simp)).trans (alloc_heap_new _ _)
 have hB:Below w.heap.size w ((W.alloc (.cells #[.slice aa 1 ac,.slice ba bn bc,.slice (some ⟨g,o,none⟩) 1 cc] 29)).alloc (.cells #[.int .i64 0,.int .i64 0] 31)):=(hbW.alloc hWs _).alloc (by simp;omega) _
 clear h hg hv hc had hm hsc hP c1 c2 hrow hts hid e1 hC
 go_upto_region 2 with fail
 generalize ((W.alloc (.cells #[.slice aa 1 ac,.slice ba bn bc,.slice (some ⟨g,o,none⟩) 1 cc] 29)).alloc (.cells #[.int .i64 0,.int .i64 0] 31))=V at *
 have t0:=aA hx 0 rfl
 have t2:=aA hx 2 rfl
 have HB:=aB hB
 clear hx hB
 go_wp2_with fail
 go_ret
 exact⟨rfl,HB.out⟩
end Go.Proofs.YtpojeinddnjpfaaGreatDoor
