/-
  Walks and plain words (SkN SkF).
-/
import Derived.Test.YtpojeinddnjpfaaGreatDoorM0
import Derived.Test.YtpojeinddnjpfaaGreatDoorM19
import Derived.Test.YtpojeinddnjpfaaGreatDoorM15
import Derived.Test.YtpojeinddnjpfaaGreatDoorM29
import Derived.Test.YtpojeinddnjpfaaGreatDoorM31
import Derived.Deep.RegionLaw
import Derived.Deep.RegionHeldLaw
namespace Go.Proofs.YtpojeinddnjpfaaGreatDoor
set_option linter.unusedVariables false
open Go.ChangeShapes Go.WideShapes Go.ChangeAt Go.RowKit Go.Maps

set_option maxHeartbeats 16000000 in
set_option maxRecDepth 20000 in
theorem xO (f:Nat) (ps:List Pl) (v:Value) (w:World) (hn0:ps.length≤100000) (hm0:∀ x∈ps,Bk x.2∧x.1.length≤1000000000) (hH:eJ 9 (f+1) w (fun b=>b<w.heap.size) v ps) :
  Calls Tryz.prog 26 #[v] w fun e w'=>wN w (aQ (jB ps) ps.length) e w':=by
 have HH:=aB hH
 obtain⟨ad,cc,rfl⟩:=hH.cM
 obtain⟨n,hn⟩:∃ n,ps.length=n:=⟨_,rfl⟩
 have HN:=aB hn
 rw[hn]at hn0 ⊢
 have HM:=aB hm0
 clear hH hn hm0
 have hmm:=@run_makeMap Tryz.prog
 have hWb:Below w.heap.size w ((w.alloc (.cells #[.int .i64 0,.int .i64 0] 31)).alloc (.map #[] 0)):=((Below.refl _ w).alloc (Nat.le_refl _) _).alloc (by simp) _
 have hW1:((w.alloc (.cells #[.int .i64 0,.int .i64 0] 31)).alloc (.map #[] 0)).heap[w.heap.size+1]? = some (.map #[] 0):=by
  have:=alloc_heap_new (w.alloc (.cells #[.int .i64 0,.int .i64 0] 31)) (.map #[] 0)
  simpa using this
 have hW0:((w.alloc (.cells #[.int .i64 0,.int .i64 0] 31)).alloc (.map #[] 0)).heap[w.heap.size]? = some (.cells #[.int .i64 0,.int .i64 0] 31 (0,0)):=by
  rw[aD _ _ _ (by simp)];exact alloc_heap_new _ _
 go_enter Tryz.func26,Tryz.ntmps26
 go_upto_region 2 with fail
 generalize ((w.alloc (.cells #[.int .i64 0,.int .i64 0] 31)).alloc (.map #[] 0))=V at *
 have iA:=aB hWb
 have mV:=aB hW0
 have kI:Hid (cC 9 eQ V (w.heap.size+1) ([]:List (List UInt8))):=dZ _ _ hW1
 clear hWb hW0 hW1 hmm
 go_wp2_with fail
 go_loopw [12] (fun i wr=>∃ j:Nat,i=.int .i64 (j:Int)∧j≤n∧aQ (jB ps) j=none∧Below w.heap.size w wr∧wr.heap[w.heap.size]? = some (.cells #[.int .i64 0,.int .i64 0] 31 (0,0))∧cC 9 eQ wr (w.heap.size+1) ((ps.take j).map (·.1))) (fun i _=>n - (intOf i).toNat)
 case atStart=>exact⟨0,rfl,Nat.zero_le _,rfl,iA.out,mV.out,kI.out⟩
 case round=>
  generalize wr=w1 at *
  obtain⟨j,rfl,hj,hfs,hbel,qL,hset⟩:=hrel
  have fW:=aB hfs
  have HB:=aB hbel
  have HX:=aB qL
  have HST:=aB hset
  have hsw:=hbel.size
  have hlt:=aN qL
  have hl1:=hset.lt
  clear hfs hbel qL hset iA mV kI
  by_cases hjn:j<n
  ·obtain⟨x,hx⟩:∃ x,ps[j]? = some x:=⟨_,List.getElem?_eq_getElem (by have:=HN.out;omega)⟩
   obtain⟨hnf,hwl⟩:=HM.out x (List.mem_of_getElem? hx)
   have gI:=aB hnf
   have HG:Hid (jB ps j=if x.1∈(ps.take j).map (·.1) then some (x.2.line,x.2.col) else zH x.2):=by
    refine(?_:_=_)
    unfold jB
    rw[hx]
   have lB:Hid ((ps.take (j+1)).map (·.1)=(ps.take j).map (·.1)++[x.1]):=by
    refine(?_:_=_)
    rw[aY hx,List.map_append];rfl
   have hkl:((ps.take j).map (·.1)).length≤j:=by simp;omega
   obtain⟨KS,lT⟩:∃ K,(ps.take j).map (·.1)=K:=⟨_,rfl⟩
   rw[lT]at HST lB HG hkl
   clear lT hnf
   obtain⟨g,o,c0,fa,fc,va,vc,ma,mc,ia,ic,hsl,hg,e0,e1,e2,e3,e4,e5,e6,e7,e8,kd⟩:=lP HH.out (W:=w1) (fun b hb=>HB.out.block b hb) hx
   rw[HN.out]at hsl
   obtain⟨rfl,rfl⟩:ad=some ⟨g,o,none⟩∧cc=c0:=by
    injection hsl with h1 _ h3
    exact⟨h1,h3⟩
   have hj0:(0:Int)≤(j:Int):=by omega
   have hj1:(j:Int)<(n:Int):=by omega
   have hwq:=eE j (by omega)
   have eO:=aB kd
   clear hsl kd
   have hC:(w1.alloc (.cells #[.int .i64 x.2.kind,.string (aC x.2.name),.int .i64 x.2.line,.int .i64 x.2.col,.slice fa x.2.fields.length fc,.slice va x.2.values.length vc,.slice ma x.2.methods.length mc,.slice ia x.2.inner.length ic,.string (aC x.1)] 117)).heap[w1.heap.size]? = some (.cells #[.int .i64 x.2.kind,.string (aC x.2.name),.int .i64 x.2.line,.int .i64 x.2.col,.slice fa x.2.fields.length fc,.slice va x.2.values.length vc,.slice ma x.2.methods.length mc,.slice ia x.2.inner.length ic,.string (aC x.1)] 117 (0,0)):=alloc_heap_new _ _
   have bG:Below w1.heap.size w1 (w1.alloc (.cells #[.int .i64 x.2.kind,.string (aC x.2.name),.int .i64 x.2.line,.int .i64 x.2.col,.slice fa x.2.fields.length fc,.slice va x.2.values.length vc,.slice ma x.2.methods.length mc,.slice ia x.2.inner.length ic,.string (aC x.1)] 117)):=(Below.refl _ w1).alloc (Nat.le_refl _) _
   go_upto_region 5 with fail
   generalize (w1.alloc (.cells #[.int .i64 x.2.kind,.string (aC x.2.name),.int .i64 x.2.line,.int .i64 x.2.col,.slice fa x.2.fields.length fc,.slice va x.2.values.length vc,.slice ma x.2.methods.length mc,.slice ia x.2.inner.length ic,.string (aC x.1)] 117))=Y at *
   have l0:=aA hC 0 rfl
   have l1:=aA hC 1 rfl
   have l2:=aA hC 2 rfl
   have l3:=aA hC 3 rfl
   have l4:=aA hC 4 rfl
   have l5:=aA hC 5 rfl
   have l6:=aA hC 6 rfl
   have l7:=aA hC 7 rfl
   have l8:=aA hC 8 rfl
   have cE:=aB (HB.out.trans (bG.mono hsw))
   have sY:Hid (Y.heap[w.heap.size]? = some (.cells #[.int .i64 0,.int .i64 0] 31 (0,0))):=(bG.block _ hlt).trans HX.out
   have sW:Hid (Y.heap[w1.heap.size]? = _):=hC
   have hadd:=gQ (w.heap.size+1) KS x.1 Y (HST.out.old (bG.block _ hl1)) (by omega) (by omega)
   have hsy:w1.heap.size<Y.heap.size:=aN hC
   have yA:Hid (Kids (f+1) Y (fun b=>b<w.heap.size) _ _ _ _ x.2):=eO.out.old fun b hb=>bG.block b (by have hb':b<w.heap.size:=hb;omega)
   obtain⟨Fl,fX⟩:∃ b,(!decide (x.1∈KS))=b:=⟨_,rfl⟩
   rw[fX]at hadd
   have iB:=aB fX
   clear hC bG fX e0 e1 e2 e3 e4 e5 e6 e7 e8 eO
   go_wp2_with fail
   refine hadd.mono ?_
   rintro e W2 ⟨rfl,hset,hgr⟩
   have hb2:Below w.heap.size w W2:=cE.out.grown hgr cE.out.size (fun b hb=>by cases hb;omega)
   have h20:W2.heap[w.heap.size]? = some (.cells #[.int .i64 0,.int .i64 0] 31 (0,0)):=(hgr.block _ (by omega) (by simp)).trans sY.out
   have gH:W2.heap[w1.heap.size]? = _:=(hgr.block _ (by omega) (by simp;omega)).trans sW.out
   have Cq:=hgr.size
   have Ie:Hid (Kids (f+1) W2 (fun b=>b<W2.heap.size) _ _ _ _ x.2):=(yA.out.old fun b hb=>hgr.block b (by have hb':b<w.heap.size:=hb;omega) (by have hb':b<w.heap.size:=hb;simp;omega)).more fun b hb=>by have hb':b<w.heap.size:=hb;omega
   have m0:=aA gH 0 rfl
   have m1:=aA gH 1 rfl
   have m2:=aA gH 2 rfl
   have m3:=aA gH 3 rfl
   have m4:=aA gH 4 rfl
   have m5:=aA gH 5 rfl
   have m6:=aA gH 6 rfl
   have m7:=aA gH 7 rfl
   have m8:=aA gH 8 rfl
   have k0:=aA h20 0 rfl
   have k1:=aA h20 1 rfl
   have mI:=aF h20 0
   have mJ:=aF h20 1
   have HB2:=aB hb2
   have rR:=aB h20
   have HS2:=aB hset
   clear hgr h20 gH hb2 hset l0 l1 l2 l3 l4 l5 l6 l7 l8 hadd yA
   cases Fl
   case false=>
    have hmem:x.1∈KS:=by have:=iB.out;simpa using this
    have fU:Hid (jB ps j=some (x.2.line,x.2.col)):=by
     refine(?_:_=_)
     rw[HG.out,if_pos hmem]
    clear hmem
    obtain⟨Z,hZ,r0,r1,fM⟩:=bS rR.out HB2.out (Nat.le_refl _) x.2.line x.2.col
    have HZ:=aB hZ
    clear hZ
    go_wp2_with fail
    rw[HZ.out]
    refine bodyPost_ret (v:=.tuple #[.agg #[.int .i64 x.2.line,.int .i64 x.2.col],.bool true]) (by simp[results,Tryz.results26,go_sem,r0,r1]) rfl ?_
    exact⟨_,_,_,rfl,fM,.inr ⟨rfl,aI fW.out fU.out (by omega)⟩⟩
   case true=>
    have hmem:¬x.1∈KS:=by have:=iB.out;simpa using this
    have mK:Hid (jB ps j=zH x.2):=by
     refine(?_:_=_)
     rw[HG.out,if_neg hmem]
    have hcall:=Fj f x.2 fa va ma ia fc vc mc ic W2 gI.out Ie.out
    have hl2:=HS2.out.lt
    clear hmem k0 k1 mI mJ
    go_wp2_with fail
    refine hcall.mono ?_
    rintro e W3 ⟨l,c,b,rfl,hb3,dW⟩
    have hV:(W3.alloc (.cells #[.int .i64 l,.int .i64 c] 31)).heap[W3.heap.size]? = some (.cells #[.int .i64 l,.int .i64 c] 31 (0,0)):=alloc_heap_new _ _
    have dO:Below W3.heap.size W3 (W3.alloc (.cells #[.int .i64 l,.int .i64 c] 31)):=(Below.refl _ W3).alloc (Nat.le_refl _) _
    have Ho:=hb3.size
    go_upto_region 8 with fail
    generalize (W3.alloc (.cells #[.int .i64 l,.int .i64 c] 31))=U at *
    have hU:Below W2.heap.size W2 U:=hb3.trans (dO.mono Ho)
    have eY:=aB (HB2.out.trans (hU.mono HB2.out.size))
    have hu0:U.heap[w.heap.size]? = some (.cells #[.int .i64 0,.int .i64 0] 31 (0,0)):=(hU.block _ (by omega)).trans rR.out
    have HSU:Hid (cC 9 eQ U (w.heap.size+1) (KS++[x.1])):=HS2.out.old (hU.block _ hl2)
    have p0:=aA hV 0 rfl
    have p1:=aA hV 1 rfl
    have k0:=aA hu0 0 rfl
    have k1:=aA hu0 1 rfl
    have mI:=aF hu0 0
    have mJ:=aF hu0 1
    have nD:=aB hu0
    have gS:=aB dW
    clear hV dO hU hu0 dW hb3 hcall m0 m1 m2 m3 m4 m5 m6 m7 m8
    cases b
    case false=>
     have HN0:Hid (jB ps j=none):=by
      refine(?_:_=_)
      rw[mK.out]
      rcases gS.out with ⟨h,_⟩ | ⟨h,_⟩
      ·exact h
      ·cases h
     clear k0 k1 mI mJ p0 p1
     go_wp2_with fail
     go_roundw
     case rel=>exact⟨j+1,by go_num,by omega,bD fW.out HN0.out,eY.out,nD.out,by rw[lB.out];exact HSU.out⟩
     case measure=>simp[intOf];omega
    case true=>
     have fU:Hid (jB ps j=some (l,c)):=by
      refine(?_:_=_)
      rw[mK.out]
      rcases gS.out with ⟨_,h,_⟩ | ⟨_,h⟩
      ·cases h
      ·exact h
     obtain⟨Z,hZ,r0,r1,fM⟩:=bS nD.out eY.out (Nat.le_refl _) l c
     have HZ:=aB hZ
     clear hZ
     go_wp2_with fail
     rw[HZ.out]
     refine bodyPost_ret (v:=.tuple #[.agg #[.int .i64 l,.int .i64 c],.bool true]) (by simp[results,Tryz.results26,go_sem,r0,r1]) rfl ?_
     exact⟨_,_,_,rfl,fM,.inr ⟨rfl,aI fW.out fU.out (by omega)⟩⟩
  ·have sZ:¬(j:Int)<(n:Int):=by omega
   have pD:j=n:=by omega
   obtain⟨Z,hZ,r0,r1,fM⟩:=bS HX.out HB.out (Nat.le_refl _) 0 0
   have HZ:=aB hZ
   have k0:=aA HX.out 0 rfl
   have k1:=aA HX.out 1 rfl
   have mI:=aF HX.out 0
   have mJ:=aF HX.out 1
   have HJE:=aB pD
   clear hZ pD hjn
   go_wp2_with fail
   rw[HZ.out]
   refine bodyPost_ret (v:=.tuple #[.agg #[.int .i64 0,.int .i64 0],.bool false]) (by simp[results,Tryz.results26,go_sem,r0,r1]) rfl ?_
   exact⟨_,_,_,rfl,fM,.inl ⟨by rw[←HJE.out];exact fW.out,rfl,rfl,rfl⟩⟩
def fQ:Nat→List Dc→List Dc
 | 0,_=>[]
 | f+1,ds=>ds.flatMap fun d=>d :: fQ f d.inner
theorem xP:∀ (f:Nat) (a:List UInt8) (ds:List Dc),(aX f a ds).map (·.2)=fQ f ds
 | 0,a,ds=>rfl
 | f+1,a,ds=>by
  rw[aX,fQ,List.map_flatMap]
  congr 1
  funext d
  rw[List.map_cons,xP f]
theorem Rf (f:Nat) (ds:List Dc) {j:Nat} {d:Dc} (hd:ds[j]? = some d):fQ (f+1) (ds.take (j+1))=fQ (f+1) (ds.take j)++d :: fQ f d.inner:=by
 rw[aY hd]
 show (ds.take j++[d]).flatMap (fun d=>d :: fQ f d.inner)=(ds.take j).flatMap (fun d=>d :: fQ f d.inner)++d :: fQ f d.inner
 rw[List.flatMap_append]
 simp
theorem Kids.upTo {f F:Nat} (h:f≤F) {w:World} {S:Nat→Prop} {fs vs ms ins:Value} {d:Dc} (k:Kids f w S fs vs ms ins d):Kids F w S fs vs ms ins d:=by
 induction F with
 | zero=>
  obtain rfl:f=0:=by omega
  exact k
 | succ F ih=>
  by_cases he:f=F+1
  ·subst he;exact k
  ·exact(ih (by omega)).up
theorem qU.aNp {f:Nat} {wx:World} {base:Nat} {S:Nat→Prop} {v:Value} {ds:List Dc} {rs:List (List Value)} (h:qU f wx base S v ds rs) (hb0:base≤wx.heap.size) (x:Dc) (kf kv km ki:Value) (iW:Kids f wx S kf kv km ki x) (hone:∀ u∈eZ x kf kv km ki,u.oneCell'=true)
  (hS:∀ b,S b→b<wx.heap.size∧v.ownBlock≠some b) {ops:Array Oper} {o:Oper} {a:Act} {K:Act→World→Prop} {Q:Exit→Act→World→Prop} {E:Prop} (hgd:o.guard=none) (s' x':Operand)
  (ho:o.op=.call { callee:=.builtin .append,args:=#[s',x'],argTypes:=#[35,35] })
  (nO:Array Value) (hcs:nO=(eZ x kf kv km ki).toArray) (hs:a.eval s'=v) (hx:a.eval x'=.slice (some ⟨wx.heap.size,0,none⟩) 1 1) (hbd:ds.length≤100000)
  (hk:∀ g cap W,qU f W base S (.slice (some ⟨g,0,none⟩) (ds.length+1) cap) (ds++[x]) (rs++[eZ x kf kv km ki])→wx.grownBy W v.ownBlock→(v.ownBlock=some g∨wx.heap.size≤g)→K (a.put o.dst (.slice (some ⟨g,0,none⟩) (ds.length+1) cap)) W) :
  if Region.wanted o (yielded ops a.tmps)=true then Oper.wp Tryz.prog o a (wx.alloc (.cells nO 69)) K Q else E:=by
 subst hcs
 obtain⟨i0,hi0,hz0,hz1,hz2⟩:=info_parts uZ
 refine step_append_lies _ hgd s' x' 35 ho base 69 i0 _ 8 136 Tryz.underlying35 hi0 hz0 hz1 hz2 rfl (by decide) v ds.length (rs.flatMap id) hs (World.ownsRow.alloc h.own _) ⟨wx.heap.size,0,none⟩ 1 1 (eZ x kf kv km ki) hx rfl ?_ hone (by decide) (by unfold maxLen;omega) (by omega) (by simp;omega) _ rfl ?_
 ·exact World.news_of_block (cs:=(eZ x kf kv km ki).toArray) (t:=69) (fr:=(0,0)) (by show (wx.heap.push _)[wx.heap.size]? = _;simp)
 ·intro g cap W hown hg hat hlt
  have hsa:(wx.alloc (.cells (eZ x kf kv km ki).toArray 69)).heap.size=wx.heap.size+1:=by simp
  have hkW:∀ b,b<wx.heap.size→v.ownBlock≠some b→W.heap[b]? = wx.heap[b]?:=fun b hb hne=>by
   rw[hg.block b (by rw[hsa];omega) (fun e=>hne e.symm),aD _ _ _ hb]
  refine hk g cap W ⟨?_,?_,?_⟩ ((World.grownBy_alloc _ _ _).trans hg) (hat.imp id fun e=>by rw[e];simp)
  ·rw[List.length_append,List.flatMap_append]
   simpa using hown
  ·rw[List.length_append,List.length_append,h.len];rfl
  ·intro j d hj
   by_cases hjl:j<ds.length
   ·rw[List.getElem?_append_left hjl]at hj
    obtain⟨f1,v1,m1,i1,hr1,hk1⟩:=h.kids j d hj
    exact⟨f1,v1,m1,i1,by rw[List.getElem?_append_left (by rw[h.len];exact hjl)];exact hr1,hk1.old fun b hb'=>hkW b (hS b hb').1 (hS b hb').2⟩
   ·have hjn:=(List.getElem?_eq_some_iff.1 hj).1
    rw[List.length_append]at hjn
    have pD:j=ds.length:=by simp at hjn;omega
    subst pD
    rw[List.getElem?_append_right (Nat.le_refl _),Nat.sub_self]at hj
    have e:x=d:=by simpa using hj
    subst e
    exact⟨kf,kv,km,ki,by rw[←h.len,List.getElem?_append_right (Nat.le_refl _),Nat.sub_self];rfl,iW.old fun b hb'=>hkW b (hS b hb').1 (hS b hb').2⟩
theorem qU.drew {f:Nat} {wx:World} {base:Nat} {S:Nat→Prop} {v:Value} {ds:List Dc} {rs:List (List Value)} (h:qU f wx base S v ds rs):qU f wx.drew base S v ds rs:=h.keep (fun _ _=>rfl) (fun _ _=>rfl) (fun _ h=>h)
theorem Rg:∀ (f:Nat) (ds:List Dc),(fQ f ds).length≤mO f ds:=by
 intro f ds
 have h1:=lV f [] ds
 rw[gN,List.length_map]at h1
 rw[←xP f [],List.length_map]
 exact h1
def Nk (F:Nat) (S:Nat→Prop) (w:World) (base:Nat) (ob:Option Nat) (xs:List Dc) (e:Ending) (w':World):Prop:=∃ rv rs',e=.returned rv∧qU F w' base S rv xs rs'∧w.grownBy w' ob∧(∀ b,rv.ownBlock=some b→ob=some b∨w.heap.size≤b)
set_option maxHeartbeats 16000000 in
set_option maxRecDepth 20000 in
theorem Rh (F:Nat) (S:Nat→Prop) (base:Nat) (hSb:∀ b,S b→b<base):∀ (f:Nat),f≤F+1→∀ (ds:List Dc) (v:Value) (ov:Value) (xs:List Dc) (rs:List (List Value)) (w:World),iV f ds→xs.length+mO f ds≤50000→aM f w S v ds→base≤w.heap.size→qU F w base S ov xs rs→
  Calls Tryz.prog 56 #[ov,v] w fun e w'=>Nk F S w base ov.ownBlock (xs++fQ f ds) e w':=by
 intro f
 induction f with
 | zero=>
  rintro _ ds v ov xs rs w _ _ ⟨rfl,ad,c,rfl⟩ hb0 hD
  obtain⟨oa,oc,hov⟩:=aO hD.own
  subst hov
  have HD:=aB hD
  clear hD
  go_enter Tryz.func56,Tryz.ntmps56
  go_wp2_with fail
  go_loopw [0,9] (fun u i wr=>u=.slice oa xs.length oc∧i=.int .i64 0∧wr=w) (fun _ _ _=>0)
  case atStart=>exact⟨rfl,rfl,rfl⟩
  case round=>
   obtain⟨rfl,rfl,hwr⟩:=hrel
   subst hwr
   go_wp2_with fail
   go_ret
   exact⟨_,rs,rfl,by rw[show fQ 0 []=[] from rfl,List.append_nil];exact HD.out,World.grownBy.refl _ _,fun b hb=>.inl hb⟩
 | succ f ih=>
  intro hfF ds v ov xs rs w hfit hbd hH hb0 hD
  have rQ:=aB hfit
  have HH:=aB hH
  have hlen:=hfit.1
  have vD:=aB hbd
  have HD:=aB hD
  obtain⟨ad,c,rfl⟩:=hH.eI
  obtain⟨oa,oc,hov⟩:=aO hD.own
  obtain⟨OV,hOV⟩:∃ u,ov=u:=⟨_,rfl⟩
  have HOV:=aB hov
  obtain⟨OB,Yg⟩:∃ u,ov.ownBlock=u:=⟨_,rfl⟩
  have qK:=aB Yg
  obtain⟨n,hn⟩:∃ n,ds.length=n:=⟨_,rfl⟩
  have HN:=aB hn
  rw[hn]at hlen ⊢
  rw[Yg]
  clear hfit hbd hH hn hD hOV Yg
  subst hov
  go_enter Tryz.func56,Tryz.ntmps56
  go_wp2_with fail
  go_loopw [0,9] (fun u i wr=>∃ (j:Nat) (rs':List (List Value)),i=.int .i64 (j:Int)∧j≤n∧qU F wr base S u (xs++fQ (f+1) (ds.take j)) rs'∧w.grownBy wr OB∧(∀ b,u.ownBlock=some b→OB=some b∨w.heap.size≤b)) (fun _ i _=>n - (intOf i).toNat)
  case atStart=>exact⟨0,rs,rfl,by omega,by rw[List.take_zero,show fQ (f+1) []=[] from rfl,List.append_nil];exact HD.out,World.grownBy.refl _ _,fun b hb=>.inl (qK.out▸hb)⟩
  case round=>
   generalize wr=w1 at *
   obtain⟨j,rs1,rfl,hj,hD1,hg1,aNq⟩:=hrel
   obtain⟨pa,pc,hpv⟩:=aO hD1.own
   subst hpv
   have HD1:=aB hD1
   have HG1:=aB hg1
   have HA1:=aB aNq
   have hs1:=hg1.size
   clear hD1 hg1 aNq
   by_cases hjn:j<n
   ·obtain⟨d,hd⟩:∃ d,ds[j]? = some d:=⟨_,List.getElem?_eq_getElem (by have:=HN.out;omega)⟩
    have hct:=Bv f ds hd
    have Ye:=rQ.out.2 d (List.mem_of_getElem? hd)
    have aWr:=Rg (f+1) (ds.take j)
    have hcd:ctD f d=1+d.fields.length+d.values.length+d.methods.length+mO f d.inner:=rfl
    have hbd:=vD.out
    have HXN:Hid (xs++fQ (f+1) (ds.take (j+1))=xs++fQ (f+1) (ds.take j)++[d]++fQ f d.inner):=by
     refine(?_:_=_)
     rw[Rf f ds hd];simp
    have hBO:∀ b,OB=some b→base≤b:=fun b hb=>(aE HD.out.own b (qK.out.trans hb)).1
    have hold:∀ b,b<base→w1.heap[b]? = w.heap[b]?:=fun b hb=>HG1.out.block b (by omega) (fun e=>by have:=hBO b e.symm;omega)
    obtain⟨g,o,c0,fa,fc,va,vc,ma,mc,ia,ic,hsl,hg,e0,e1,e2,e3,e4,e5,e6,e7,kd⟩:=jF HH.out (W:=w1) (fun b hb=>hold b (hSb b hb)) hd
    rw[HN.out]at hsl
    obtain⟨rfl,rfl⟩:ad=some ⟨g,o,none⟩∧c=c0:=by
     injection hsl with h1 _ h3
     exact⟨h1,h3⟩
    have eO:=aB kd
    obtain⟨X,hX⟩:∃ X,xs++fQ (f+1) (ds.take j)=X:=⟨_,rfl⟩
    have hXl:X.length+1+mO f d.inner≤50000:=by
     rw[←hX,List.length_append];omega
    rw[hX]at HD1 HXN HA1 ⊢
    have hj0:(0:Int)≤(j:Int):=by omega
    have hj1:(j:Int)<(n:Int):=by omega
    have hwq:=eE j (by omega)
    have HFD:=aB Ye.2.2.2
    have HBO:=aB hBO
    have hXb:X.length≤100000:=by omega
    clear hX hct aWr hcd hbd hsl kd Ye hold hBO hd
    have hC:(w1.alloc (.cells #[.int .i64 d.kind,.string (aC d.name),.int .i64 d.line,.int .i64 d.col,.slice fa d.fields.length fc,.slice va d.values.length vc,.slice ma d.methods.length mc,.slice ia d.inner.length ic] 69)).heap[w1.heap.size]? = some (.cells #[.int .i64 d.kind,.string (aC d.name),.int .i64 d.line,.int .i64 d.col,.slice fa d.fields.length fc,.slice va d.values.length vc,.slice ma d.methods.length mc,.slice ia d.inner.length ic] 69 (0,0)):=alloc_heap_new _ _
    have bG:Below w1.heap.size w1 (w1.alloc (.cells #[.int .i64 d.kind,.string (aC d.name),.int .i64 d.line,.int .i64 d.col,.slice fa d.fields.length fc,.slice va d.values.length vc,.slice ma d.methods.length mc,.slice ia d.inner.length ic] 69)):=(Below.refl _ w1).alloc (Nat.le_refl _) _
    have Mh:Hid (qU F (w1.alloc (.cells #[.int .i64 d.kind,.string (aC d.name),.int .i64 d.line,.int .i64 d.col,.slice fa d.fields.length fc,.slice va d.values.length vc,.slice ma d.methods.length mc,.slice ia d.inner.length ic] 69)) base S (.slice pa X.length pc) X rs1):=HD1.out.keep (fun b hb=>aD _ _ _ (aE HD1.out.own b hb).2) (fun b hb=>aD _ _ _ (by have hb':b<base:=hSb b hb;omega)) (fun _ h=>h)
    have aHa:(w1.alloc (.cells #[.int .i64 d.kind,.string (aC d.name),.int .i64 d.line,.int .i64 d.col,.slice fa d.fields.length fc,.slice va d.values.length vc,.slice ma d.methods.length mc,.slice ia d.inner.length ic] 69)).heap.size=w1.heap.size+1:=by simp
    go_upto_region 4 with fail
    generalize (w1.alloc (.cells #[.int .i64 d.kind,.string (aC d.name),.int .i64 d.line,.int .i64 d.col,.slice fa d.fields.length fc,.slice va d.values.length vc,.slice ma d.methods.length mc,.slice ia d.inner.length ic] 69))=Y at *
    have l0:=aA hC 0 rfl
    have l1:=aA hC 1 rfl
    have l2:=aA hC 2 rfl
    have l3:=aA hC 3 rfl
    have l4:=aA hC 4 rfl
    have l5:=aA hC 5 rfl
    have l6:=aA hC 6 rfl
    have l7:=aA hC 7 rfl
    have nC:=aB bG
    have yA:Hid (Kids F Y.drew S (.slice fa d.fields.length fc) (.slice va d.values.length vc) (.slice ma d.methods.length mc) (.slice ia d.inner.length ic) d):=(Kids.upTo (by omega) (eO.out.old fun b hb=>bG.block b (by have hb':b<base:=hSb b hb;omega))).old fun _ _=>rfl
    have hown1:=fun b hb=>aE HD1.out.own b hb
    have HOW:=aB hown1
    have hY:=hC
    have hYr:Y.drew.heap[w1.heap.size]? = some (.cells #[.int .i64 d.kind,.string (aC d.name),.int .i64 d.line,.int .i64 d.col,.slice fa d.fields.length fc,.slice va d.values.length vc,.slice ma d.methods.length mc,.slice ia d.inner.length ic] 69 (0,0)):=hC
    have hYa:∀ ob,(Y.drew.alloc ob).heap[w1.heap.size]? = some (.cells #[.int .i64 d.kind,.string (aC d.name),.int .i64 d.line,.int .i64 d.col,.slice fa d.fields.length fc,.slice va d.values.length vc,.slice ma d.methods.length mc,.slice ia d.inner.length ic] 69 (0,0)):=fun ob=>by rw[aD _ _ _ (by show _<Y.heap.size;omega)];exact hC
    have aNr:∀ ob,(Y.alloc ob).drew.heap[w1.heap.size]? = some (.cells #[.int .i64 d.kind,.string (aC d.name),.int .i64 d.line,.int .i64 d.col,.slice fa d.fields.length fc,.slice va d.values.length vc,.slice ma d.methods.length mc,.slice ia d.inner.length ic] 69 (0,0)):=hYa
    have hlY:w1.heap.size<Y.heap.size:=by omega
    have aWv:∀ W:World,W.heap[w1.heap.size]? = some (.cells #[.int .i64 d.kind,.string (aC d.name),.int .i64 d.line,.int .i64 d.col,.slice fa d.fields.length fc,.slice va d.values.length vc,.slice ma d.methods.length mc,.slice ia d.inner.length ic] 69 (0,0))→W.cell? ⟨w1.heap.size,0,none⟩=some (.int .i64 d.kind):=fun W h=>by simp[World.cell?,h]
    have aWw:∀ W:World,W.heap[w1.heap.size]? = some (.cells #[.int .i64 d.kind,.string (aC d.name),.int .i64 d.line,.int .i64 d.col,.slice fa d.fields.length fc,.slice va d.values.length vc,.slice ma d.methods.length mc,.slice ia d.inner.length ic] 69 (0,0))→W.cell? ⟨w1.heap.size,1,none⟩=some (.string (aC d.name)):=fun W h=>by simp[World.cell?,h]
    have aWx:∀ W:World,W.heap[w1.heap.size]? = some (.cells #[.int .i64 d.kind,.string (aC d.name),.int .i64 d.line,.int .i64 d.col,.slice fa d.fields.length fc,.slice va d.values.length vc,.slice ma d.methods.length mc,.slice ia d.inner.length ic] 69 (0,0))→W.cell? ⟨w1.heap.size,2,none⟩=some (.int .i64 d.line):=fun W h=>by simp[World.cell?,h]
    have aWy:∀ W:World,W.heap[w1.heap.size]? = some (.cells #[.int .i64 d.kind,.string (aC d.name),.int .i64 d.line,.int .i64 d.col,.slice fa d.fields.length fc,.slice va d.values.length vc,.slice ma d.methods.length mc,.slice ia d.inner.length ic] 69 (0,0))→W.cell? ⟨w1.heap.size,3,none⟩=some (.int .i64 d.col):=fun W h=>by simp[World.cell?,h]
    have aWz:∀ W:World,W.heap[w1.heap.size]? = some (.cells #[.int .i64 d.kind,.string (aC d.name),.int .i64 d.line,.int .i64 d.col,.slice fa d.fields.length fc,.slice va d.values.length vc,.slice ma d.methods.length mc,.slice ia d.inner.length ic] 69 (0,0))→W.cell? ⟨w1.heap.size,4,none⟩=some (.slice fa d.fields.length fc):=fun W h=>by simp[World.cell?,h]
    have aXa:∀ W:World,W.heap[w1.heap.size]? = some (.cells #[.int .i64 d.kind,.string (aC d.name),.int .i64 d.line,.int .i64 d.col,.slice fa d.fields.length fc,.slice va d.values.length vc,.slice ma d.methods.length mc,.slice ia d.inner.length ic] 69 (0,0))→W.cell? ⟨w1.heap.size,5,none⟩=some (.slice va d.values.length vc):=fun W h=>by simp[World.cell?,h]
    have aXb:∀ W:World,W.heap[w1.heap.size]? = some (.cells #[.int .i64 d.kind,.string (aC d.name),.int .i64 d.line,.int .i64 d.col,.slice fa d.fields.length fc,.slice va d.values.length vc,.slice ma d.methods.length mc,.slice ia d.inner.length ic] 69 (0,0))→W.cell? ⟨w1.heap.size,6,none⟩=some (.slice ma d.methods.length mc):=fun W h=>by simp[World.cell?,h]
    have aXc:∀ W:World,W.heap[w1.heap.size]? = some (.cells #[.int .i64 d.kind,.string (aC d.name),.int .i64 d.line,.int .i64 d.col,.slice fa d.fields.length fc,.slice va d.values.length vc,.slice ma d.methods.length mc,.slice ia d.inner.length ic] 69 (0,0))→W.cell? ⟨w1.heap.size,7,none⟩=some (.slice ia d.inner.length ic):=fun W h=>by simp[World.cell?,h]
    clear hC bG e0 e1 e2 e3 e4 e5 e6 e7 hown1 aHa
    have aNs:∀ W2:World,Y.drew.grownBy W2 (Value.slice pa X.length pc).ownBlock→W2.heap[w1.heap.size]? = some (.cells #[.int .i64 d.kind,.string (aC d.name),.int .i64 d.line,.int .i64 d.col,.slice fa d.fields.length fc,.slice va d.values.length vc,.slice ma d.methods.length mc,.slice ia d.inner.length ic] 69 (0,0)):=fun W2 hgr=>by
     rw[hgr.block _ hlY (fun e=>by have:=HOW.out _ e.symm;omega)];exact hYr
    have hcall:∀ (g2 cap2:Nat) (W2:World),qU F W2 base S (.slice (some ⟨g2,0,none⟩) (X.length+1) cap2) (X++[d]) (rs1++[eZ d (.slice fa d.fields.length fc) (.slice va d.values.length vc) (.slice ma d.methods.length mc) (.slice ia d.inner.length ic)])→Y.drew.grownBy W2 (Value.slice pa X.length pc).ownBlock→
      Calls Tryz.prog 56 #[.slice (some ⟨g2,0,none⟩) (X.length+1) cap2,.slice ia d.inner.length ic] W2 fun e w'=>Nk F S W2 base (some g2) (X++[d]++fQ f d.inner) e w':=fun g2 cap2 W2 hD2 hgr=>by
     have hsz2:=hgr.size
     have bBb:Y.heap.size≤W2.heap.size:=hsz2
     refine ih (by omega) d.inner _ _ (X++[d]) _ W2 HFD.out (by rw[List.length_append];simp;omega) (aM.old (fun b hb=>?_) eO.out.2.2.2) (by omega) hD2
     rw[hgr.block b (by have hb':b<base:=hSb b hb;show b<Y.heap.size;omega) (fun e=>by have:=HOW.out _ e.symm;have hb':b<base:=hSb b hb;omega)]
     exact nC.out.block b (by have hb':b<base:=hSb b hb;omega)
    have aNt:∀ (g2:Nat) (W2 W3:World),((Value.slice pa X.length pc).ownBlock=some g2∨Y.drew.heap.size≤g2)→Y.drew.grownBy W2 (Value.slice pa X.length pc).ownBlock→W2.heap[w1.heap.size]? = some (.cells #[.int .i64 d.kind,.string (aC d.name),.int .i64 d.line,.int .i64 d.col,.slice fa d.fields.length fc,.slice va d.values.length vc,.slice ma d.methods.length mc,.slice ia d.inner.length ic] 69 (0,0))→W2.grownBy W3 (some g2)→W3.heap[w1.heap.size]? = some (.cells #[.int .i64 d.kind,.string (aC d.name),.int .i64 d.line,.int .i64 d.col,.slice fa d.fields.length fc,.slice va d.values.length vc,.slice ma d.methods.length mc,.slice ia d.inner.length ic] 69 (0,0)):=fun g2 W2 W3 hat kZ h2 hgr=>by
     have hs2:=kZ.size
     have bFo:Y.heap.size≤W2.heap.size:=hs2
     rw[hgr.block _ (by omega) (fun e=>by
      have e':w1.heap.size=g2:=Option.some.inj e
      subst e'
      rcases hat with e | e
      ·have:=HOW.out _ e;omega
      ·have e':Y.heap.size≤w1.heap.size:=e;omega)]
     exact h2
    go_region_held_law (fun W=>W.heap[w1.heap.size]? = some (.cells #[.int .i64 d.kind,.string (aC d.name),.int .i64 d.line,.int .i64 d.col,.slice fa d.fields.length fc,.slice va d.values.length vc,.slice ma d.methods.length mc,.slice ia d.inner.length ic] 69 (0,0))) (first | with_reducible exact hY3 | with_reducible exact hY2 | with_reducible exact hYa _ | with_reducible exact aNr _ | with_reducible exact hY | with_reducible exact hYr) (first
     | (refine qU.aNp Mh.out.drew (by show base≤Y.heap.size;omega) d _ _ _ _ yA.out (by intro u hu;simp only[eZ,List.mem_cons,List.not_mem_nil,or_false]at hu;rcases hu with rfl | rfl | rfl | rfl | rfl | rfl | rfl | rfl <;> rfl) (fun b hb=>⟨(by have hb':b<base:=hSb b hb;show b<Y.heap.size;omega),fun e=>by have:=HOW.out _ e;have hb':b<base:=hSb b hb;omega⟩) rfl _ _ rfl _ rfl rfl rfl hXb ?_;intro g2 cap2 W2 hD2 kZ Qk;have hY2:=aNs W2 kZ)
     | (go_at_call 56;refine(hcall g2 cap2 W2 hD2 kZ).mono ?_;rintro e W3 ⟨rv,rs3,rfl,hD3,Bn,yG⟩;have hY3:=aNt g2 W2 W3 Qk kZ hY2 Bn))
    all_goals
     have hgY:w1.grownBy W2 (Value.slice pa X.length pc).ownBlock:=World.grownBy.trans ⟨nC.out.os,nC.out.tape,nC.out.output,nC.out.size,fun k hk _=>nC.out.block k hk⟩ ⟨kZ.os,kZ.tape,kZ.output,kZ.size,kZ.block⟩
     have aHg:w.grownBy W2 OB:=cT HG1.out hgY (fun b hb=>(HA1.out b hb).symm)
     have hg3:W2.grownBy W3 (some g2):=Bn
     have Xp:OB=some g2∨w.heap.size≤g2:=by
      rcases Qk with e | e
      ·exact HA1.out _ e
      ·right;have e':Y.heap.size≤g2:=e;omega
     have aNu:w.grownBy W3 OB:=cT aHg hg3 (fun b hb=>by cases hb;exact Xp.symm)
     have hsW:w.heap.size≤W2.heap.size:=aHg.size
     have HGW:=aB aNu
     have HD3:=aB hD3
     have HA3:Hid (∀ b,rv.ownBlock=some b→OB=some b∨w.heap.size≤b):=fun b hb=>by
      rcases yG b hb with e | e
      ·have e':g2=b:=Option.some.inj e
       subst e';exact Xp
      ·right;omega
     obtain⟨ra,rc,By⟩:=aO hD3.own
     subst By
     clear hY hYr hYa aNr aNs aNt hY3 hcall hgY aHg hg3 Xp aNu hD3 Bn yG hD2 kZ Qk hY2 aWv aWw aWx aWy aWz aXa aXb aXc l0 l1 l2 l3 l4 l5 l6 l7
     go_wp2_with fail
     go_roundw
     case rel=>exact⟨j+1,rs3,by go_num,by omega,by rw[HXN.out];exact HD3.out,HGW.out,HA3.out⟩
     case measure=>simp[intOf];omega
   ·have sZ:¬(j:Int)<(n:Int):=by omega
    have hte:ds.take j=ds:=List.take_of_length_le (by have:=HN.out;omega)
    rw[hte]at HD1 ⊢
    obtain⟨X,hX⟩:∃ X,xs++fQ (f+1) ds=X:=⟨_,rfl⟩
    rw[hte,hX]at HA1
    rw[hX]at HD1 ⊢
    have HXE:=aB hX
    clear hte hX
    go_wp2_with fail
    go_ret
    exact⟨_,rs1,rfl,by rw[HXE.out];exact HD1.out,HG1.out,HA1.out⟩
end Go.Proofs.YtpojeinddnjpfaaGreatDoor
