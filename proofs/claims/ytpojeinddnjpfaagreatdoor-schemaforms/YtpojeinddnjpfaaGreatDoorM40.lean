/-
  Walks and plain words (ShA).
-/
import Derived.Test.YtpojeinddnjpfaaGreatDoorM0
import Derived.Test.YtpojeinddnjpfaaGreatDoorM16
import Derived.Test.YtpojeinddnjpfaaGreatDoorM15
namespace Go.Proofs.YtpojeinddnjpfaaGreatDoor
set_option linter.unusedVariables false
open Go.ChangeShapes Go.WideShapes Go.ChangeAt Go.RowKit

set_option maxHeartbeats 16000000 in
set_option maxRecDepth 20000 in
theorem Rb (f:Nat) (ps:List Pl) (v:Value) (w:World) (hn0:ps.length≤100000) (hm0:∀ x∈ps,x.2.fields.length≤100000000∧x.2.methods.length≤100000000) (hH:eJ 9 f w (fun b=>b<w.heap.size) v ps) :
  Calls Tryz.prog 25 #[v] w fun e w'=>wN w (aQ (eH ps) ps.length) e w':=by
 have HH:=aB hH
 obtain⟨ad,cc,rfl⟩:=hH.cM
 obtain⟨n,hn⟩:∃ n,ps.length=n:=⟨_,rfl⟩
 have HN:=aB hn
 rw[hn]at hn0 ⊢
 have HM:=aB hm0
 clear hH hn hm0
 go_enter Tryz.func25,Tryz.ntmps25
 go_wp2_with fail
 go_loopw [4,5,6,12] (fun a1 a2 a3 i wr=>∃ (j c1 c2 m:Nat),i=.int .i64 (j:Int)∧a1=.int .i64 (c1:Int)∧a2=.int .i64 (c2:Int)∧a3=.int .i64 (m:Int)∧j≤n∧dI 1 (ps.take j)=c1∧dI 2 (ps.take j)=c2∧hJ (ps.take j)=m∧c1≤64∧c2≤64∧m≤64∧aQ (eH ps) j=none∧Below w.heap.size w wr∧wr.heap[w.heap.size]? = some (.cells #[.int .i64 0,.int .i64 0] 31 (0,0))) (fun _ _ _ i _=>n - (intOf i).toNat)
 case atStart=>exact⟨0,0,0,0,rfl,rfl,rfl,rfl,Nat.zero_le _,rfl,rfl,rfl,by omega,by omega,by omega,rfl,(Below.refl _ w).alloc (Nat.le_refl _) _,alloc_heap_new _ _⟩
 case round=>
  generalize wr=w1 at *
  obtain⟨j,c1,c2,m,rfl,rfl,rfl,rfl,hj,hc1,hc2,hms,bFi,bFj,hmb,hfs,hbel,qL⟩:=hrel
  have Rx:=aB hc1
  have Hl:=aB hc2
  have HMS:=aB hms
  have fW:=aB hfs
  have HB:=aB hbel
  have HX:=aB qL
  have hsw:=hbel.size
  have hlt:=aN qL
  clear hc1 hc2 hms hfs hbel qL
  by_cases hjn:j<n
  ·obtain⟨x,hx⟩:∃ x,ps[j]? = some x:=⟨_,List.getElem?_eq_getElem (by have:=HN.out;omega)⟩
   obtain⟨hbf,hbm⟩:=HM.out x (List.mem_of_getElem? hx)
   obtain⟨g,o,c0,fa,fc,va,vc,ma,mc,ia,ic,hsl,hg,e0,e1,e2,e3,e4,e5,e6,e7,e8,kd⟩:=lP HH.out (W:=w1) (fun b hb=>HB.out.block b hb) hx
   rw[HN.out]at hsl
   obtain⟨rfl,rfl⟩:ad=some ⟨g,o,none⟩∧cc=c0:=by
    injection hsl with h1 _ h3
    exact⟨h1,h3⟩
   have HG:Hid (eH ps j=wJ (c1+if x.2.kind=1 then 1 else 0) (c2+if x.2.kind=2 then 1 else 0) m x.2):=by
    refine(?_:_=_)
    unfold eH
    rw[hx,aY hx,gC,gC,Rx.out,Hl.out,HMS.out]
   have yK:Hid (dI 1 (ps.take (j+1))=c1+if x.2.kind=1 then 1 else 0):=by
    refine(?_:_=_)
    rw[aY hx,gC,Rx.out]
   have yL:Hid (dI 2 (ps.take (j+1))=c2+if x.2.kind=2 then 1 else 0):=by
    refine(?_:_=_)
    rw[aY hx,gC,Hl.out]
   have xS:Hid (hJ (ps.take (j+1))=m+x.2.methods.length):=by
    refine(?_:_=_)
    rw[aY hx,sU,HMS.out]
   have hj0:(0:Int)≤(j:Int):=by omega
   have hj1:(j:Int)<(n:Int):=by omega
   have hwq:=eE j (by omega)
   have hw1:=eE c1 (by omega)
   have hw2:=eE c2 (by omega)
   have hw3:IntKind.i64.wrap ((64:Int) - (m:Int))=64 - (m:Int):=by rw[IntKind.wrap_i64];omega
   have hw4:IntKind.i64.wrap ((m:Int)+(x.2.methods.length:Int))=(m:Int)+(x.2.methods.length:Int):=by rw[IntKind.wrap_i64];omega
   have eO:=aB kd
   clear hsl kd
   have hC:(w1.alloc (.cells #[.int .i64 x.2.kind,.string (aC x.2.name),.int .i64 x.2.line,.int .i64 x.2.col,.slice fa x.2.fields.length fc,.slice va x.2.values.length vc,.slice ma x.2.methods.length mc,.slice ia x.2.inner.length ic,.string (aC x.1)] 117)).heap[w1.heap.size]? = some (.cells #[.int .i64 x.2.kind,.string (aC x.2.name),.int .i64 x.2.line,.int .i64 x.2.col,.slice fa x.2.fields.length fc,.slice va x.2.values.length vc,.slice ma x.2.methods.length mc,.slice ia x.2.inner.length ic,.string (aC x.1)] 117 (0,0)):=alloc_heap_new _ _
   have bG:Below w1.heap.size w1 (w1.alloc (.cells #[.int .i64 x.2.kind,.string (aC x.2.name),.int .i64 x.2.line,.int .i64 x.2.col,.slice fa x.2.fields.length fc,.slice va x.2.values.length vc,.slice ma x.2.methods.length mc,.slice ia x.2.inner.length ic,.string (aC x.1)] 117)):=(Below.refl _ w1).alloc (Nat.le_refl _) _
   have aHa:(w1.alloc (.cells #[.int .i64 x.2.kind,.string (aC x.2.name),.int .i64 x.2.line,.int .i64 x.2.col,.slice fa x.2.fields.length fc,.slice va x.2.values.length vc,.slice ma x.2.methods.length mc,.slice ia x.2.inner.length ic,.string (aC x.1)] 117)).heap.size=w1.heap.size+1:=by simp
   go_upto_region 5 with fail
   generalize (w1.alloc (.cells #[.int .i64 x.2.kind,.string (aC x.2.name),.int .i64 x.2.line,.int .i64 x.2.col,.slice fa x.2.fields.length fc,.slice va x.2.values.length vc,.slice ma x.2.methods.length mc,.slice ia x.2.inner.length ic,.string (aC x.1)] 117))=Y at *
   have l0:=aA hC 0 rfl
   have l1:=aA hC 1 rfl
   have l2:=aA hC 2 rfl
   have l3:=aA hC 3 rfl
   have l4:=aA hC 4 rfl
   have l5:=aA hC 5 rfl
   have l6:=aA hC 6 rfl
   have l7:=aA hC 7 rfl
   have l8:=aA hC 8 rfl
   have cE:=aB (HB.out.trans (bG.mono hsw))
   have sY:Hid (Y.heap[w.heap.size]? = some (.cells #[.int .i64 0,.int .i64 0] 31 (0,0))):=(bG.block _ hlt).trans HX.out
   have k0:=aA sY.out 0 rfl
   have k1:=aA sY.out 1 rfl
   have kf:∀ j,Y.frozen? ⟨w.heap.size,j,none⟩=false:=fun j=>by simp[World.frozen?,sY.out]
   have mI:=kf 0
   have mJ:=kf 1
   have Rc:Hid (∀ b,b<w.heap.size→Y.heap[b]? = w1.heap[b]?):=fun b hb=>bG.block b (by omega)
   clear hC bG kf e0 e1 e2 e3 e4 e5 e6 e7 e8 aHa
   by_cases hk:x.2.kind=1
   ·have kM:(c1+if x.2.kind=1 then 1 else 0)=c1+1:=by simp[hk]
    have hC2:(c2+if x.2.kind=2 then 1 else 0)=c2:=by simp[hk]
    have HG:=HG
    rw[kM,hC2]at HG
    rw[kM]at yK
    rw[hC2]at yL
    clear kM hC2
    rw[hk]at l0
    by_cases hov:64<c1+1
    ·have aWj:(64:Int)<(c1:Int)+1:=by omega
     have Zp:¬(64:Int)<(c2:Int):=by omega
     have fU:Hid (eH ps j=some (x.2.line,x.2.col)):=by
      refine(?_:_=_)
      rw[HG.out]
      unfold wJ
      rw[if_pos (by omega)]
     clear hov
     obtain⟨Z,hZ,r0,r1,fM⟩:=bS sY.out cE.out (Nat.le_refl _) x.2.line x.2.col
     have HZ:=aB hZ
     clear hZ
     go_wp2_with fail
     rw[HZ.out]
     refine bodyPost_ret (v:=.tuple #[.agg #[.int .i64 x.2.line,.int .i64 x.2.col],.bool true]) (by simp[results,Tryz.results25,go_sem,r0,r1]) rfl ?_
     exact⟨_,_,_,rfl,fM,.inr ⟨rfl,aI fW.out fU.out (by omega)⟩⟩
    have aNh:¬(64:Int)<(c1:Int)+1:=by omega
    have aNi:¬(64:Int)<(c2:Int):=by omega
    have HG2:Hid (eH ps j=pQ m x.2):=by
     refine(?_:_=_)
     rw[HG.out]
     unfold wJ
     rw[if_neg (by omega)]
    clear HG
    by_cases hfl:32<x.2.fields.length
    ·have Xm:(32:Int)<(x.2.fields.length:Int):=by omega
     obtain⟨y,hy⟩:∃ y,x.2.fields[32]? = some y:=⟨_,List.getElem?_eq_getElem hfl⟩
     obtain⟨gf,of,cf,hsf,hgf,-,-,-,-,e4,e5⟩:=jV eO.out.1 (W:=Y) (fun b hb=>Rc.out b hb) hy
     obtain⟨rfl,rfl⟩:fa=some ⟨gf,of,none⟩∧fc=cf:=by
      injection hsf with h1 _ h3
      exact⟨h1,h3⟩
     have fU:Hid (eH ps j=some (y.line,y.col)):=by
      refine(?_:_=_)
      rw[HG2.out];unfold pQ;rw[hy]
     clear hfl hy hsf
     obtain⟨Z,hZ,r0,r1,fM⟩:=bS sY.out cE.out (Nat.le_refl _) y.line y.col
     have HZ:=aB hZ
     clear hZ
     go_wp2_with fail
     rw[HZ.out]
     refine bodyPost_ret (v:=.tuple #[.agg #[.int .i64 y.line,.int .i64 y.col],.bool true]) (by simp[results,Tryz.results25,go_sem,r0,r1]) rfl ?_
     exact⟨_,_,_,rfl,fM,.inr ⟨rfl,aI fW.out fU.out (by omega)⟩⟩
    have Xm:¬(32:Int)<(x.2.fields.length:Int):=by omega
    have Gb:Hid (eH ps j=pP m x.2):=by
     refine(?_:_=_)
     rw[HG2.out];unfold pQ;rw[List.getElem?_eq_none (by omega)]
    clear HG2
    by_cases hml:64 - m<x.2.methods.length
    ·have hml':64 - (m:Int)<(x.2.methods.length:Int):=by omega
     obtain⟨y,hy⟩:∃ y,x.2.methods[64 - m]? = some y:=⟨_,List.getElem?_eq_getElem hml⟩
     obtain⟨gf,of,cf,hsf,hgf,-,-,-,e3,e4⟩:=rN eO.out.2.2.1 (W:=Y) (fun b hb=>Rc.out b hb) hy
     obtain⟨rfl,rfl⟩:ma=some ⟨gf,of,none⟩∧mc=cf:=by
      injection hsf with h1 _ h3
      exact⟨h1,h3⟩
     have fU:Hid (eH ps j=some (y.line,y.col)):=by
      refine(?_:_=_)
      rw[Gb.out];unfold pP;rw[hy]
     obtain⟨z,hz⟩:∃ z,64 - m=z:=⟨_,rfl⟩
     have hzi:64 - (m:Int)=(z:Int):=by omega
     rw[hz]at e3 e4 hml
     rw[hzi]at hml'
     have aNj:=hw3.trans hzi
     clear hw3
     have hz0:(0:Int)≤(z:Int):=by omega
     have HZZ:=aB hz
     have HZI:=aB hzi
     clear hml hy hsf hz hzi
     obtain⟨Z,hZ,r0,r1,fM⟩:=bS sY.out cE.out (Nat.le_refl _) y.line y.col
     have HZ:=aB hZ
     clear hZ
     go_wp2_with fail
     rw[HZ.out]
     refine bodyPost_ret (v:=.tuple #[.agg #[.int .i64 y.line,.int .i64 y.col],.bool true]) (by simp[results,Tryz.results25,go_sem,r0,r1]) rfl ?_
     exact⟨_,_,_,rfl,fM,.inr ⟨rfl,aI fW.out fU.out (by omega)⟩⟩
    have hml':¬64 - (m:Int)<(x.2.methods.length:Int):=by omega
    have mK:Hid (eH ps j=none):=by
     refine(?_:_=_)
     rw[Gb.out];unfold pP;rw[List.getElem?_eq_none (by omega)]
    go_wp2_with fail
    go_roundw
    case rel=>exact⟨j+1,c1+1,c2,m+x.2.methods.length,by go_num,by go_num,by go_num,by go_num,by omega,yK.out,yL.out,xS.out,by omega,by omega,by omega,bD fW.out mK.out,cE.out,sY.out⟩
    case measure=>simp[intOf];omega
   by_cases hk2:x.2.kind=2
   ·have hk:=hk2
    clear hk2
    have kM:(c1+if x.2.kind=1 then 1 else 0)=c1:=by simp[hk]
    have hC2:(c2+if x.2.kind=2 then 1 else 0)=c2+1:=by simp[hk]
    have HG:=HG
    rw[kM,hC2]at HG
    rw[kM]at yK
    rw[hC2]at yL
    clear kM hC2
    rw[hk]at l0
    by_cases hov:64<c2+1
    ·have aWj:(64:Int)<(c2:Int)+1:=by omega
     have Zp:¬(64:Int)<(c1:Int):=by omega
     have fU:Hid (eH ps j=some (x.2.line,x.2.col)):=by
      refine(?_:_=_)
      rw[HG.out]
      unfold wJ
      rw[if_pos (by omega)]
     clear hov
     obtain⟨Z,hZ,r0,r1,fM⟩:=bS sY.out cE.out (Nat.le_refl _) x.2.line x.2.col
     have HZ:=aB hZ
     clear hZ
     go_wp2_with fail
     rw[HZ.out]
     refine bodyPost_ret (v:=.tuple #[.agg #[.int .i64 x.2.line,.int .i64 x.2.col],.bool true]) (by simp[results,Tryz.results25,go_sem,r0,r1]) rfl ?_
     exact⟨_,_,_,rfl,fM,.inr ⟨rfl,aI fW.out fU.out (by omega)⟩⟩
    have aNh:¬(64:Int)<(c2:Int)+1:=by omega
    have aNi:¬(64:Int)<(c1:Int):=by omega
    have HG2:Hid (eH ps j=pQ m x.2):=by
     refine(?_:_=_)
     rw[HG.out]
     unfold wJ
     rw[if_neg (by omega)]
    clear HG
    by_cases hfl:32<x.2.fields.length
    ·have Xm:(32:Int)<(x.2.fields.length:Int):=by omega
     obtain⟨y,hy⟩:∃ y,x.2.fields[32]? = some y:=⟨_,List.getElem?_eq_getElem hfl⟩
     obtain⟨gf,of,cf,hsf,hgf,-,-,-,-,e4,e5⟩:=jV eO.out.1 (W:=Y) (fun b hb=>Rc.out b hb) hy
     obtain⟨rfl,rfl⟩:fa=some ⟨gf,of,none⟩∧fc=cf:=by
      injection hsf with h1 _ h3
      exact⟨h1,h3⟩
     have fU:Hid (eH ps j=some (y.line,y.col)):=by
      refine(?_:_=_)
      rw[HG2.out];unfold pQ;rw[hy]
     clear hfl hy hsf
     obtain⟨Z,hZ,r0,r1,fM⟩:=bS sY.out cE.out (Nat.le_refl _) y.line y.col
     have HZ:=aB hZ
     clear hZ
     go_wp2_with fail
     rw[HZ.out]
     refine bodyPost_ret (v:=.tuple #[.agg #[.int .i64 y.line,.int .i64 y.col],.bool true]) (by simp[results,Tryz.results25,go_sem,r0,r1]) rfl ?_
     exact⟨_,_,_,rfl,fM,.inr ⟨rfl,aI fW.out fU.out (by omega)⟩⟩
    have Xm:¬(32:Int)<(x.2.fields.length:Int):=by omega
    have Gb:Hid (eH ps j=pP m x.2):=by
     refine(?_:_=_)
     rw[HG2.out];unfold pQ;rw[List.getElem?_eq_none (by omega)]
    clear HG2
    by_cases hml:64 - m<x.2.methods.length
    ·have hml':64 - (m:Int)<(x.2.methods.length:Int):=by omega
     obtain⟨y,hy⟩:∃ y,x.2.methods[64 - m]? = some y:=⟨_,List.getElem?_eq_getElem hml⟩
     obtain⟨gf,of,cf,hsf,hgf,-,-,-,e3,e4⟩:=rN eO.out.2.2.1 (W:=Y) (fun b hb=>Rc.out b hb) hy
     obtain⟨rfl,rfl⟩:ma=some ⟨gf,of,none⟩∧mc=cf:=by
      injection hsf with h1 _ h3
      exact⟨h1,h3⟩
     have fU:Hid (eH ps j=some (y.line,y.col)):=by
      refine(?_:_=_)
      rw[Gb.out];unfold pP;rw[hy]
     obtain⟨z,hz⟩:∃ z,64 - m=z:=⟨_,rfl⟩
     have hzi:64 - (m:Int)=(z:Int):=by omega
     rw[hz]at e3 e4 hml
     rw[hzi]at hml'
     have aNj:=hw3.trans hzi
     clear hw3
     have hz0:(0:Int)≤(z:Int):=by omega
     have HZZ:=aB hz
     have HZI:=aB hzi
     clear hml hy hsf hz hzi
     obtain⟨Z,hZ,r0,r1,fM⟩:=bS sY.out cE.out (Nat.le_refl _) y.line y.col
     have HZ:=aB hZ
     clear hZ
     go_wp2_with fail
     rw[HZ.out]
     refine bodyPost_ret (v:=.tuple #[.agg #[.int .i64 y.line,.int .i64 y.col],.bool true]) (by simp[results,Tryz.results25,go_sem,r0,r1]) rfl ?_
     exact⟨_,_,_,rfl,fM,.inr ⟨rfl,aI fW.out fU.out (by omega)⟩⟩
    have hml':¬64 - (m:Int)<(x.2.methods.length:Int):=by omega
    have mK:Hid (eH ps j=none):=by
     refine(?_:_=_)
     rw[Gb.out];unfold pP;rw[List.getElem?_eq_none (by omega)]
    go_wp2_with fail
    go_roundw
    case rel=>exact⟨j+1,c1,c2+1,m+x.2.methods.length,by go_num,by go_num,by go_num,by go_num,by omega,yK.out,yL.out,xS.out,by omega,by omega,by omega,bD fW.out mK.out,cE.out,sY.out⟩
    case measure=>simp[intOf];omega
   ·have kM:(c1+if x.2.kind=1 then 1 else 0)=c1:=by simp[hk]
    have hC2:(c2+if x.2.kind=2 then 1 else 0)=c2:=by simp[hk2]
    have HG:=HG
    rw[kM,hC2]at HG
    rw[kM]at yK
    rw[hC2]at yL
    clear kM hC2
    have bFk:(x.2.kind == 1)=false:=by simp[hk]
    have aLk:(x.2.kind == 2)=false:=by simp[hk2]
    have aNh:¬(64:Int)<(c1:Int):=by omega
    have aNi:¬(64:Int)<(c2:Int):=by omega
    have HG2:Hid (eH ps j=pQ m x.2):=by
     refine(?_:_=_)
     rw[HG.out]
     unfold wJ
     rw[if_neg (by omega)]
    clear HG
    by_cases hfl:32<x.2.fields.length
    ·have Xm:(32:Int)<(x.2.fields.length:Int):=by omega
     obtain⟨y,hy⟩:∃ y,x.2.fields[32]? = some y:=⟨_,List.getElem?_eq_getElem hfl⟩
     obtain⟨gf,of,cf,hsf,hgf,-,-,-,-,e4,e5⟩:=jV eO.out.1 (W:=Y) (fun b hb=>Rc.out b hb) hy
     obtain⟨rfl,rfl⟩:fa=some ⟨gf,of,none⟩∧fc=cf:=by
      injection hsf with h1 _ h3
      exact⟨h1,h3⟩
     have fU:Hid (eH ps j=some (y.line,y.col)):=by
      refine(?_:_=_)
      rw[HG2.out];unfold pQ;rw[hy]
     clear hfl hy hsf
     obtain⟨Z,hZ,r0,r1,fM⟩:=bS sY.out cE.out (Nat.le_refl _) y.line y.col
     have HZ:=aB hZ
     clear hZ
     go_wp2_with fail
     rw[HZ.out]
     refine bodyPost_ret (v:=.tuple #[.agg #[.int .i64 y.line,.int .i64 y.col],.bool true]) (by simp[results,Tryz.results25,go_sem,r0,r1]) rfl ?_
     exact⟨_,_,_,rfl,fM,.inr ⟨rfl,aI fW.out fU.out (by omega)⟩⟩
    have Xm:¬(32:Int)<(x.2.fields.length:Int):=by omega
    have Gb:Hid (eH ps j=pP m x.2):=by
     refine(?_:_=_)
     rw[HG2.out];unfold pQ;rw[List.getElem?_eq_none (by omega)]
    clear HG2
    by_cases hml:64 - m<x.2.methods.length
    ·have hml':64 - (m:Int)<(x.2.methods.length:Int):=by omega
     obtain⟨y,hy⟩:∃ y,x.2.methods[64 - m]? = some y:=⟨_,List.getElem?_eq_getElem hml⟩
     obtain⟨gf,of,cf,hsf,hgf,-,-,-,e3,e4⟩:=rN eO.out.2.2.1 (W:=Y) (fun b hb=>Rc.out b hb) hy
     obtain⟨rfl,rfl⟩:ma=some ⟨gf,of,none⟩∧mc=cf:=by
      injection hsf with h1 _ h3
      exact⟨h1,h3⟩
     have fU:Hid (eH ps j=some (y.line,y.col)):=by
      refine(?_:_=_)
      rw[Gb.out];unfold pP;rw[hy]
     obtain⟨z,hz⟩:∃ z,64 - m=z:=⟨_,rfl⟩
     have hzi:64 - (m:Int)=(z:Int):=by omega
     rw[hz]at e3 e4 hml
     rw[hzi]at hml'
     have aNj:=hw3.trans hzi
     clear hw3
     have hz0:(0:Int)≤(z:Int):=by omega
     have HZZ:=aB hz
     have HZI:=aB hzi
     clear hml hy hsf hz hzi
     obtain⟨Z,hZ,r0,r1,fM⟩:=bS sY.out cE.out (Nat.le_refl _) y.line y.col
     have HZ:=aB hZ
     clear hZ
     go_wp2_with fail
     rw[HZ.out]
     refine bodyPost_ret (v:=.tuple #[.agg #[.int .i64 y.line,.int .i64 y.col],.bool true]) (by simp[results,Tryz.results25,go_sem,r0,r1]) rfl ?_
     exact⟨_,_,_,rfl,fM,.inr ⟨rfl,aI fW.out fU.out (by omega)⟩⟩
    have hml':¬64 - (m:Int)<(x.2.methods.length:Int):=by omega
    have mK:Hid (eH ps j=none):=by
     refine(?_:_=_)
     rw[Gb.out];unfold pP;rw[List.getElem?_eq_none (by omega)]
    go_wp2_with fail
    go_roundw
    case rel=>exact⟨j+1,c1,c2,m+x.2.methods.length,by go_num,by go_num,by go_num,by go_num,by omega,yK.out,yL.out,xS.out,by omega,by omega,by omega,bD fW.out mK.out,cE.out,sY.out⟩
    case measure=>simp[intOf];omega
  ·have sZ:¬(j:Int)<(n:Int):=by omega
   have pD:j=n:=by omega
   obtain⟨Z,hZ,r0,r1,fM⟩:=bS HX.out HB.out (Nat.le_refl _) 0 0
   have HZ:=aB hZ
   clear hZ
   have k0:=aA HX.out 0 rfl
   have k1:=aA HX.out 1 rfl
   have kf:∀ j,w1.frozen? ⟨w.heap.size,j,none⟩=false:=fun j=>by simp[World.frozen?,HX.out]
   have mI:=kf 0
   have mJ:=kf 1
   have HJE:=aB pD
   clear kf pD hjn
   go_wp2_with fail
   rw[HZ.out]
   refine bodyPost_ret (v:=.tuple #[.agg #[.int .i64 0,.int .i64 0],.bool false]) (by simp[results,Tryz.results25,go_sem,r0,r1]) rfl ?_
   exact⟨_,_,_,rfl,fM,.inl ⟨by rw[←HJE.out];exact fW.out,rfl,rfl,rfl⟩⟩
end Go.Proofs.YtpojeinddnjpfaaGreatDoor
