/-
  Walks and plain words (DpV).
-/
import Derived.Test.YtpojeinddnjpfaaGreatDoorM0
import Derived.Test.YtpojeinddnjpfaaGreatDoorM6
namespace Go.Proofs.YtpojeinddnjpfaaGreatDoor
set_option linter.unusedVariables false
open Go.ChangeShapes Go.WideShapes Go.ChangeAt Go.RowKit

set_option maxHeartbeats 16000000 in
set_option maxRecDepth 20000 in
theorem Av (R:Nat) (en:Int × Int) (r:Rd) (w:World) (he:r.e=0) (h:bW w R en r) :
  Calls Tryz.prog 118 #[.pointer (some ⟨R,0,none⟩)] w fun x w'=>∃ (nm:List UInt8) (pl pc:Int) (acc:List Mt) (vs:Value),x=.returned (.tuple #[dval 3 nm pl pc (.slice none 0 0) (.slice none 0 0) vs (.slice none 0 0),.bool (decide ((r.service en).2.e=0))])∧
   ((r.service en).2.e=0→(r.service en).1=⟨3,nm,pl,pc,[],[],acc,[]⟩)∧bW w' R en (r.service en).2∧w.grownBy w' (some R)∧w'.ownsRow (w.heap.size+2) 77 5 vs acc.length (acc.flatMap sK):=by
 have hlt:=h.lt
 have xX:=h.few
 have aJq:=Rd.Ar r
 have hL0:Lv (w.alloc (.cells z8 69)) ((w.alloc (.cells z8 69)).alloc (.cells #[.int .i64 3,.string ⟨#[]⟩,.int .i64 0,.int .i64 0,.slice none 0 0,.slice none 0 0,.slice none 0 0,.slice none 0 0] 69)) R en r (w.heap.size+1) 69 #[.int .i64 3,.string ⟨#[]⟩,.int .i64 0,.int .i64 0,.slice none 0 0,.slice none 0 0,.slice none 0 0,.slice none 0 0]:=by
  have:=Lv.start (w.alloc (.cells z8 69)) (w.alloc (.cells z8 69)) (h.alloc _) (World.grownBy.refl _ _) (by simp;omega) 69 #[.int .i64 3,.string ⟨#[]⟩,.int .i64 0,.int .i64 0,.slice none 0 0,.slice none 0 0,.slice none 0 0,.slice none 0 0]
  rw[show (w.alloc (.cells z8 69)).heap.size=w.heap.size+1 by simp]at this
  exact this
 have hHd:=Ig hL0 he ⟨#[115,101,114,118,105,99,101]⟩ (by decide)
 have eT:(ByteArray.mk #[115,101,114,118,105,99,101]).data.toList=bQ:=rfl
 rw[eT]at hHd
 have fE:=aB (Rd.cL en r bQ)
 have tK:Hid (r.service en=(⟨3,(r.take en bQ).aL,((r.take en bQ).nameP en).1,((r.take en bQ).nameP en).2,[],[],(dA en ((((r.take en bQ).name en).take en [123]).l.length+1) (((r.take en bQ).name en).take en [123]) []).1,[]⟩,(dA en ((((r.take en bQ).name en).take en [123]).l.length+1) (((r.take en bQ).name en).take en [123]) []).2.take en [125])):=rfl
 obtain⟨EN,Ij⟩:∃ EN,r.service en=EN:=⟨_,rfl⟩
 rw[Ij]at tK ⊢
 generalize r.take en bQ=q1 at *
 have Hm:=aB (Rd.gX en q1)
 have Yc:=aB (Rd.cL en (q1.name en) [123])
 obtain⟨NM,hNM⟩:∃ NM,q1.aL=NM:=⟨_,rfl⟩
 obtain⟨PL,Rq⟩:∃ PL,(q1.nameP en).1=PL:=⟨_,rfl⟩
 obtain⟨PC,hPC⟩:∃ PC,(q1.nameP en).2=PC:=⟨_,rfl⟩
 rw[hNM,Rq,hPC]at tK hHd
 generalize (q1.name en).take en [123]=q3 at *
 obtain⟨VS,hVS⟩:∃ VS,dA en (q3.l.length+1) q3 []=VS:=⟨_,rfl⟩
 have Sz:=aB hVS
 rw[hVS]at tK
 have hq3:q3.m≤4001:=by have:=Yc.out;have:=Hm.out;have:=fE.out;omega
 have HQ3:=aB (Rd.Ar q3)
 clear Ij hL0 eT h hNM Rq hPC hVS fE Hm Yc
 go_enter Tryz.func118,Tryz.ntmps118
 go_wp2_with fail
 refine hHd.mono ?_
 rintro e w1 ⟨nm,pl,pc,rfl,hnm,hL1⟩
 have xS:Hid (q3.e=0→nm=NM∧pl=PL∧pc=PC):=hnm
 have HL1:=aB (Do.Sx hlt hL1)
 clear hHd hnm hL1
 go_wp2_with fail
 go_loopw [5] (fun s5 wr=>∃ (f:Nat) (q:Rd) (acc:List Mt) (vs:Value),s5=.bool (decide (q.e=0))∧Dl w wr R en q 69 z8 #[.int .i64 3,.string (aC nm),.int .i64 pl,.int .i64 pc,.slice none 0 0,.slice none 0 0,vs,.slice none 0 0] 77 5 vs acc.length (acc.flatMap sK)∧q.m≤f∧acc.length+q.m≤4001∧(q.e=0→q3.e=0∧VS=dA en f q acc)∧(q.e≠0→VS.2=q)) (fun _ wr=>rdM wr R)
 case atStart=>
  refine⟨q3.l.length+1,q3,[],.slice none 0 0,rfl,⟨HL1.out,World.ownsRow_nil _ _ _ _⟩,HQ3.out,by simpa using hq3,fun hz=>⟨hz,Sz.out.symm⟩,fun hz=>?_⟩
  rw[←Sz.out,kX en _ q3 [] (fun hh=>hz hh.1)]
 case round=>
  obtain⟨f,q,acc,vs,rfl,Ta,hmf,hacc,hok,hno⟩:=hrel
  obtain⟨va,vc,rfl⟩:=aO Ta.own
  have Ik:=aB Ta
  have Zi:=Ta.lo.size
  have Su:=aB Ta.lo.rd.m
  clear Ta
  by_cases he0:q.e=0
  ·have hd0:decide (q.e=0)=true:=decide_eq_true he0
   rw[hd0]
   obtain⟨Eb,hvs⟩:=hok he0
   have HQE:=aB Eb
   have Zj:=aB hvs
   have nN:=jI R en q ⟨#[125]⟩ wr he0 (by decide) Ik.out.lo.rd
   have e125:(ByteArray.mk #[125]).data.toList=[125]:=rfl
   rw[e125]at nN
   clear hno hok e125 hvs hd0 Eb
   by_cases hi:q.is [125]=true
   ·have hsk:q.skip [125]=q.tail:=by unfold Rd.skip;rw[if_pos hi]
    have htk:q.take en [125]=q.tail:=by unfold Rd.take;rw[if_pos hi]
    rw[hsk,hi]at nN
    have Mc:VS=(acc,q):=by rw[Zj.out,kX en f q acc (fun hh=>by rw[hi]at hh;exact absurd hh.2 (by decide))]
    have HE2:Hid (EN.2=q.tail):=by refine(?_:_=_);rw[tK.out,Mc];exact htk
    have vA:Hid (EN.1=⟨3,nm,pl,pc,[],[],acc,[]⟩):=by
     refine(?_:_=_)
     obtain⟨a1,a2,a3⟩:=xS.out HQE.out
     rw[tK.out,Mc,a1,a2,a3]
    have lI:Hid (decide (EN.2.e=0)=true):=by refine(?_:_=_);rw[HE2.out];exact decide_eq_true he0
    clear hi hsk htk Mc Zj
    go_wp2_with fail
    refine nN.mono ?_
    rintro e w5 ⟨rfl,iT,hg5⟩
    have qQ:=aB (Ik.out.step iT hg5)
    obtain⟨⟨c0,c1,c2,c3,c4,c5',c6,c7⟩,⟨a0,a1,a2,a3,a4,a5,a6,a7⟩,hf,_⟩:=qQ.out.lo.cV
    obtain⟨Y,hY,Ih,Ii,Cl,y0,y1,y2,y3,y4,y5,y6,y7⟩:=qQ.out.lo.sN
    have uI:Hid (Y.ownsRow (w.heap.size+2) 77 5 (.slice va acc.length vc) acc.length (acc.flatMap sK)):=aR qQ.out.own fun b hb=>Cl b (by have:=(aE qQ.out.own b hb).1;omega)
    have HY:=aB hY
    have b0:=hf 0
    have b1:=hf 1
    have b2:=hf 2
    have b3:=hf 3
    have b4:=hf 4
    have b5:=hf 5
    have b6:=hf 6
    have b7:=hf 7
    clear hY hf nN iT hg5 Cl
    go_wp2_with fail
    rw[HY.out]
    exact bodyPost_ret (v:=.tuple #[dval 3 nm pl pc (.slice none 0 0) (.slice none 0 0) (.slice va acc.length vc) (.slice none 0 0),.bool true]) (by unfold dval;simp[results,Tryz.results118,go_sem,y0,y1,y2,y3,y4,y5,y6,y7]) rfl ⟨nm,pl,pc,acc,_,by rw[lI.out],fun _=>vA.out,by rw[HE2.out];exact Ih,Ii,uI.out⟩
   ·have hi':q.is [125]=false:=by simpa using hi
    have hsk:q.skip [125]=q:=by unfold Rd.skip;rw[if_neg hi]
    rw[hsk,hi']at nN
    have hm1:1≤q.m:=by unfold Rd.m;rw[if_pos he0];omega
    obtain⟨f,rfl⟩:∃ f',f=f'+1:=⟨f - 1,by omega⟩
    have hmv:=Rd.Di en q
    have fS:Hid (VS=dA en f (q.method en).2 (acc++[(q.method en).1])):=by
     refine(?_:_=_)
     rw[Zj.out,Dk en f q acc ⟨he0,hi'⟩]
    have vB:Hid (q.method en=(⟨(q.take en nL).aL,((((q.take en nL).name en).take en [40]).path en).1,((((((((q.take en nL).name en).take en [40]).path en).2.take en [41]).take en eG).take en [40]).path en).1,((q.take en nL).nameP en).1,((q.take en nL).nameP en).2⟩,(((((((((q.take en nL).name en).take en [40]).path en).2.take en [41]).take en eG).take en [40]).path en).2.take en [41]).take en [59])):=rfl
    obtain⟨jQ,Ec⟩:∃ jQ,q.method en=jQ:=⟨_,rfl⟩
    rw[Ec]at fS vB hmv
    clear Zj hi hi' hsk Ec
    go_wp2_with fail
    refine nN.mono ?_
    rintro e w5 ⟨rfl,iT,hg5⟩
    have qQ:=aB (Ik.out.step iT hg5)
    have hsz5:=qQ.out.lo.size
    have sB:Hid (Lv w5 (w5.alloc (.cells #[.string ⟨#[]⟩,.string ⟨#[]⟩,.string ⟨#[]⟩,.int .i64 0,.int .i64 0] 77)) R en q w5.heap.size 77 #[.string ⟨#[]⟩,.string ⟨#[]⟩,.string ⟨#[]⟩,.int .i64 0,.int .i64 0]):=Lv.start w5 w5 iT (World.grownBy.refl _ _) iT.lt 77 #[.string ⟨#[]⟩,.string ⟨#[]⟩,.string ⟨#[]⟩,.int .i64 0,.int .i64 0]
    clear nN iT hg5
    go_upto_region 5 with fail
    generalize w5.alloc (.cells #[.string ⟨#[]⟩,.string ⟨#[]⟩,.string ⟨#[]⟩,.int .i64 0,.int .i64 0] 77)=V5 at *
    obtain⟨G,hG⟩:∃ G,w5.heap.size=G:=⟨_,rfl⟩
    rw[hG]at sB ⊢
    go_cut [5] from 10 to 47 (fun s5 wz=>∃ el:Mt,s5=.bool (decide (jQ.2.e=0))∧(jQ.2.e=0→el=jQ.1)∧Lv w5 wz R en jQ.2 G 77 #[.string (aC el.name),.string (aC el.inp),.string (aC el.out),.int .i64 el.line,.int .i64 el.col])
    case first=>
     have kM:=fun W (hW:Lv w5 W R en q G 77 #[.string (aC []),.string (aC []),.string (aC []),.int .i64 0,.int .i64 0])=>dY hW he0 ⟨#[114,112,99]⟩ (by decide)
     have eB1:(ByteArray.mk #[114,112,99]).data.toList=[114,112,99]:=rfl
     rw[eB1]at kM
     clear eB1
     have hE1:=Rd.jP en he0 [114,112,99]
     obtain⟨x1,hx1⟩:∃ x,q.take en [114,112,99]=x:=⟨_,rfl⟩
     rw[hx1]at kM hE1
     by_cases hb1:q.is [114,112,99]=true
     ·rw[hb1]at hE1
      have e1:x1.e=0:=of_decide_eq_true hE1
      rw[hb1]at kM
      have hC2:=fun W (hW:Lv w5 W R en x1 G 77 #[.string (aC []),.string (aC []),.string (aC []),.int .i64 0,.int .i64 0])=>Au hW e1 0 3 (by simp) (by simp) (by decide)
      unfold yX at hC2
      have hE2:=Rd.sI en e1
      obtain⟨x2,hx2⟩:∃ x,x1.name en=x:=⟨_,rfl⟩
      rw[hx2]at hC2 hE2
      by_cases hb2:x1.isName=true
      ·rw[hb2]at hE2
       have e2:x2.e=0:=of_decide_eq_true hE2
       rw[if_pos hb2,hb2]at hC2
       have vC:=fun W (hW:Lv w5 W R en x2 G 77 #[.string (aC x1.aL),.string (aC []),.string (aC []),.int .i64 (x1.nameP en).1,.int .i64 (x1.nameP en).2])=>tJ hW e2 1 rfl
       obtain⟨z3,hz3⟩:∃ z,((x2.take en [40]).path en).1=z:=⟨_,rfl⟩
       rw[hz3]at vC
       obtain⟨x3,hx3⟩:∃ x,((x2.take en [40]).path en).2.take en [41]=x:=⟨_,rfl⟩
       rw[hx3]at vC
       by_cases hb3:decide (x3.e=0)=true
       ·have e3:x3.e=0:=of_decide_eq_true hb3
        rw[hb3]at vC
        have Cm:=fun W (hW:Lv w5 W R en x3 G 77 #[.string (aC x1.aL),.string (aC z3),.string (aC []),.int .i64 (x1.nameP en).1,.int .i64 (x1.nameP en).2])=>dY hW e3 ⟨#[114,101,116,117,114,110,115]⟩ (by decide)
        have eB4:(ByteArray.mk #[114,101,116,117,114,110,115]).data.toList=[114,101,116,117,114,110,115]:=rfl
        rw[eB4]at Cm
        clear eB4
        have Md:=Rd.jP en e3 [114,101,116,117,114,110,115]
        obtain⟨x4,hx4⟩:∃ x,x3.take en [114,101,116,117,114,110,115]=x:=⟨_,rfl⟩
        rw[hx4]at Cm Md
        by_cases hb4:x3.is [114,101,116,117,114,110,115]=true
        ·rw[hb4]at Md
         have e4:x4.e=0:=of_decide_eq_true Md
         rw[hb4]at Cm
         have Yd:=fun W (hW:Lv w5 W R en x4 G 77 #[.string (aC x1.aL),.string (aC z3),.string (aC []),.int .i64 (x1.nameP en).1,.int .i64 (x1.nameP en).2])=>tJ hW e4 2 rfl
         obtain⟨z5,dF⟩:∃ z,((x4.take en [40]).path en).1=z:=⟨_,rfl⟩
         rw[dF]at Yd
         obtain⟨x5,hx5⟩:∃ x,((x4.take en [40]).path en).2.take en [41]=x:=⟨_,rfl⟩
         rw[hx5]at Yd
         by_cases hb5:decide (x5.e=0)=true
         ·have e5:x5.e=0:=of_decide_eq_true hb5
          rw[hb5]at Yd
          have hC6:=fun W (hW:Lv w5 W R en x5 G 77 #[.string (aC x1.aL),.string (aC z3),.string (aC z5),.int .i64 (x1.nameP en).1,.int .i64 (x1.nameP en).2])=>dY hW e5 ⟨#[59]⟩ (by decide)
          have eB6:(ByteArray.mk #[59]).data.toList=[59]:=rfl
          rw[eB6]at hC6
          clear eB6
          have hE6:=Rd.jP en e5 [59]
          obtain⟨x6,hx6⟩:∃ x,x5.take en [59]=x:=⟨_,rfl⟩
          rw[hx6]at hC6 hE6
          go_wp2_with fail
          refine(kM _ sB.out).mono ?_
          rintro e v1 ⟨rfl,l1⟩
          have l1:Lv w5 v1 R en x1 G 77 #[.string (aC []),.string (aC []),.string (aC []),.int .i64 0,.int .i64 0]:=l1
          go_wp2_with fail
          refine(hC2 _ l1).mono ?_
          rintro e v2 ⟨rfl,l2⟩
          have l2:Lv w5 v2 R en x2 G 77 #[.string (aC x1.aL),.string (aC []),.string (aC []),.int .i64 (x1.nameP en).1,.int .i64 (x1.nameP en).2]:=l2
          go_wp2_with fail
          refine(vC _ l2).mono ?_
          rintro e v3 ⟨y3,rfl,hy3,l3⟩
          rw[hy3 e3]at l3
          have l3:Lv w5 v3 R en x3 G 77 #[.string (aC x1.aL),.string (aC z3),.string (aC []),.int .i64 (x1.nameP en).1,.int .i64 (x1.nameP en).2]:=l3
          go_wp2_with fail
          refine(Cm _ l3).mono ?_
          rintro e v4 ⟨rfl,l4⟩
          have l4:Lv w5 v4 R en x4 G 77 #[.string (aC x1.aL),.string (aC z3),.string (aC []),.int .i64 (x1.nameP en).1,.int .i64 (x1.nameP en).2]:=l4
          go_wp2_with fail
          refine(Yd _ l4).mono ?_
          rintro e v5 ⟨y5,rfl,xT,l5⟩
          rw[xT e5]at l5
          have l5:Lv w5 v5 R en x5 G 77 #[.string (aC x1.aL),.string (aC z3),.string (aC z5),.int .i64 (x1.nameP en).1,.int .i64 (x1.nameP en).2]:=l5
          go_wp2_with fail
          refine(hC6 _ l5).mono ?_
          rintro e v6 ⟨rfl,l6⟩
          have l6:Lv w5 v6 R en x6 G 77 #[.string (aC x1.aL),.string (aC z3),.string (aC z5),.int .i64 (x1.nameP en).1,.int .i64 (x1.nameP en).2]:=l6
          go_wp2_with fail
          go_meet
          have hVV:jQ=(⟨x1.aL,z3,z5,(x1.nameP en).1,(x1.nameP en).2⟩,x6):=by rw[vB.out,hx1,hx2,hz3,hx3,hx4,dF,hx5,hx6]
          have hV2:jQ.2=x6:=by rw[hVV]
          have hV1:jQ.1=⟨x1.aL,z3,z5,(x1.nameP en).1,(x1.nameP en).2⟩:=by rw[hVV]
          exact⟨⟨x1.aL,z3,z5,(x1.nameP en).1,(x1.nameP en).2⟩,by rw[hV2];exact congrArg Value.bool hE6.symm,fun _=>hV1.symm,by rw[hV2];exact l6⟩
         ·have aJv:(decide (x5.e=0))=false:=by simpa using hb5
          have n5:x5.e≠0:=of_decide_eq_false aJv
          rw[aJv]at Yd
          go_wp2_with fail
          refine(kM _ sB.out).mono ?_
          rintro e v1 ⟨rfl,l1⟩
          have l1:Lv w5 v1 R en x1 G 77 #[.string (aC []),.string (aC []),.string (aC []),.int .i64 0,.int .i64 0]:=l1
          go_wp2_with fail
          refine(hC2 _ l1).mono ?_
          rintro e v2 ⟨rfl,l2⟩
          have l2:Lv w5 v2 R en x2 G 77 #[.string (aC x1.aL),.string (aC []),.string (aC []),.int .i64 (x1.nameP en).1,.int .i64 (x1.nameP en).2]:=l2
          go_wp2_with fail
          refine(vC _ l2).mono ?_
          rintro e v3 ⟨y3,rfl,hy3,l3⟩
          rw[hy3 e3]at l3
          have l3:Lv w5 v3 R en x3 G 77 #[.string (aC x1.aL),.string (aC z3),.string (aC []),.int .i64 (x1.nameP en).1,.int .i64 (x1.nameP en).2]:=l3
          go_wp2_with fail
          refine(Cm _ l3).mono ?_
          rintro e v4 ⟨rfl,l4⟩
          have l4:Lv w5 v4 R en x4 G 77 #[.string (aC x1.aL),.string (aC z3),.string (aC []),.int .i64 (x1.nameP en).1,.int .i64 (x1.nameP en).2]:=l4
          go_wp2_with fail
          refine(Yd _ l4).mono ?_
          rintro e v5 ⟨y5,rfl,xT,l5⟩
          have l5:Lv w5 v5 R en x5 G 77 #[.string (aC x1.aL),.string (aC z3),.string (aC y5),.int .i64 (x1.nameP en).1,.int .i64 (x1.nameP en).2]:=l5
          go_wp2_with fail
          go_meet
          have hV2:jQ.2=x5:=by rw[vB.out];show (((((((((q.take en nL).name en).take en [40]).path en).2.take en [41]).take en eG).take en [40]).path en).2.take en [41]).take en [59]=_;rw[hx1,hx2,hx3,hx4,hx5,Rd.aP en n5]
          exact⟨⟨x1.aL,z3,y5,(x1.nameP en).1,(x1.nameP en).2⟩,by rw[hV2];exact congrArg Value.bool (decide_eq_false n5).symm,fun h=>absurd (hV2▸h) n5,by rw[hV2];exact l5⟩
        ·have Tc:(x3.is [114,101,116,117,114,110,115])=false:=by simpa using hb4
         rw[Tc]at Md
         have n4:x4.e≠0:=of_decide_eq_false Md
         rw[Tc]at Cm
         go_wp2_with fail
         refine(kM _ sB.out).mono ?_
         rintro e v1 ⟨rfl,l1⟩
         have l1:Lv w5 v1 R en x1 G 77 #[.string (aC []),.string (aC []),.string (aC []),.int .i64 0,.int .i64 0]:=l1
         go_wp2_with fail
         refine(hC2 _ l1).mono ?_
         rintro e v2 ⟨rfl,l2⟩
         have l2:Lv w5 v2 R en x2 G 77 #[.string (aC x1.aL),.string (aC []),.string (aC []),.int .i64 (x1.nameP en).1,.int .i64 (x1.nameP en).2]:=l2
         go_wp2_with fail
         refine(vC _ l2).mono ?_
         rintro e v3 ⟨y3,rfl,hy3,l3⟩
         rw[hy3 e3]at l3
         have l3:Lv w5 v3 R en x3 G 77 #[.string (aC x1.aL),.string (aC z3),.string (aC []),.int .i64 (x1.nameP en).1,.int .i64 (x1.nameP en).2]:=l3
         go_wp2_with fail
         refine(Cm _ l3).mono ?_
         rintro e v4 ⟨rfl,l4⟩
         have l4:Lv w5 v4 R en x4 G 77 #[.string (aC x1.aL),.string (aC z3),.string (aC []),.int .i64 (x1.nameP en).1,.int .i64 (x1.nameP en).2]:=l4
         go_wp2_with fail
         go_meet
         have hV2:jQ.2=x4:=by rw[vB.out];show (((((((((q.take en nL).name en).take en [40]).path en).2.take en [41]).take en eG).take en [40]).path en).2.take en [41]).take en [59]=_;rw[hx1,hx2,hx3,hx4,Rd.aP en n4,Rd.gY en n4,Rd.aP en n4,Rd.aP en n4]
         exact⟨⟨x1.aL,z3,[],(x1.nameP en).1,(x1.nameP en).2⟩,by rw[hV2];exact congrArg Value.bool (decide_eq_false n4).symm,fun h=>absurd (hV2▸h) n4,by rw[hV2];exact l4⟩
       ·have Ed:(decide (x3.e=0))=false:=by simpa using hb3
        have n3:x3.e≠0:=of_decide_eq_false Ed
        rw[Ed]at vC
        go_wp2_with fail
        refine(kM _ sB.out).mono ?_
        rintro e v1 ⟨rfl,l1⟩
        have l1:Lv w5 v1 R en x1 G 77 #[.string (aC []),.string (aC []),.string (aC []),.int .i64 0,.int .i64 0]:=l1
        go_wp2_with fail
        refine(hC2 _ l1).mono ?_
        rintro e v2 ⟨rfl,l2⟩
        have l2:Lv w5 v2 R en x2 G 77 #[.string (aC x1.aL),.string (aC []),.string (aC []),.int .i64 (x1.nameP en).1,.int .i64 (x1.nameP en).2]:=l2
        go_wp2_with fail
        refine(vC _ l2).mono ?_
        rintro e v3 ⟨y3,rfl,hy3,l3⟩
        have l3:Lv w5 v3 R en x3 G 77 #[.string (aC x1.aL),.string (aC y3),.string (aC []),.int .i64 (x1.nameP en).1,.int .i64 (x1.nameP en).2]:=l3
        go_wp2_with fail
        go_meet
        have hV2:jQ.2=x3:=by rw[vB.out];show (((((((((q.take en nL).name en).take en [40]).path en).2.take en [41]).take en eG).take en [40]).path en).2.take en [41]).take en [59]=_;rw[hx1,hx2,hx3,Rd.aP en n3,Rd.aP en n3,Rd.gY en n3,Rd.aP en n3,Rd.aP en n3]
        exact⟨⟨x1.aL,y3,[],(x1.nameP en).1,(x1.nameP en).2⟩,by rw[hV2];exact congrArg Value.bool (decide_eq_false n3).symm,fun h=>absurd (hV2▸h) n3,by rw[hV2];exact l3⟩
      ·have Ee:(x1.isName)=false:=by simpa using hb2
       rw[Ee]at hE2
       have n2:x2.e≠0:=of_decide_eq_false hE2
       rw[if_neg hb2,Ee]at hC2
       go_wp2_with fail
       refine(kM _ sB.out).mono ?_
       rintro e v1 ⟨rfl,l1⟩
       have l1:Lv w5 v1 R en x1 G 77 #[.string (aC []),.string (aC []),.string (aC []),.int .i64 0,.int .i64 0]:=l1
       go_wp2_with fail
       refine(hC2 _ l1).mono ?_
       rintro e v2 ⟨rfl,l2⟩
       have l2:Lv w5 v2 R en x2 G 77 #[.string (aC []),.string (aC []),.string (aC []),.int .i64 0,.int .i64 0]:=l2
       go_wp2_with fail
       go_meet
       have hV2:jQ.2=x2:=by rw[vB.out];show (((((((((q.take en nL).name en).take en [40]).path en).2.take en [41]).take en eG).take en [40]).path en).2.take en [41]).take en [59]=_;rw[hx1,hx2,Rd.aP en n2,Rd.gY en n2,Rd.aP en n2,Rd.aP en n2,Rd.aP en n2,Rd.gY en n2,Rd.aP en n2,Rd.aP en n2]
       exact⟨⟨[],[],[],0,0⟩,by rw[hV2];exact congrArg Value.bool (decide_eq_false n2).symm,fun h=>absurd (hV2▸h) n2,by rw[hV2];exact l2⟩
     ·have Ef:(q.is [114,112,99])=false:=by simpa using hb1
      rw[Ef]at hE1
      have n1:x1.e≠0:=of_decide_eq_false hE1
      rw[Ef]at kM
      go_wp2_with fail
      refine(kM _ sB.out).mono ?_
      rintro e v1 ⟨rfl,l1⟩
      have l1:Lv w5 v1 R en x1 G 77 #[.string (aC []),.string (aC []),.string (aC []),.int .i64 0,.int .i64 0]:=l1
      go_wp2_with fail
      go_meet
      have hV2:jQ.2=x1:=by rw[vB.out];show (((((((((q.take en nL).name en).take en [40]).path en).2.take en [41]).take en eG).take en [40]).path en).2.take en [41]).take en [59]=_;rw[hx1,Rd.lF en n1,Rd.aP en n1,Rd.gY en n1,Rd.aP en n1,Rd.aP en n1,Rd.aP en n1,Rd.gY en n1,Rd.aP en n1,Rd.aP en n1]
      exact⟨⟨[],[],[],0,0⟩,by rw[hV2];exact congrArg Value.bool (decide_eq_false n1).symm,fun h=>absurd (hV2▸h) n1,by rw[hV2];exact l1⟩
    case rest=>
     obtain⟨el,rfl,hel,hLz⟩:=hcut
     generalize wc=W8 at *
     have HEL:=aB hel
     have Rr:=aB (qQ.out.step hLz.rd hLz.gr)
     have gA:=hLz.loc
     have p0:=aA gA 0 rfl
     have p1:=aA gA 1 rfl
     have p2:=aA gA 2 rfl
     have p3:=aA gA 3 rfl
     have p4:=aA gA 4 rfl
     have d5:=Rr.out.lo.cV.1.2.2.2.2.2.2.1
     clear hel hLz gA sB vB
     go_wp2_with (at_builtin;refine Rr.out.push rfl _ _ 67 rfl Tryz.underlying67 _ 64 Zf rfl (by decide) (sK el) rfl (by intro u hu;simp only[sK,List.mem_cons,List.not_mem_nil,or_false]at hu;rcases hu with rfl | rfl | rfl | rfl | rfl <;> rfl) _ rfl rfl rfl (by omega) (by decide) ?_)
     intro g cap W hLW
     have HLW:=aB hLW
     have hkk:=hLW.lo.cV
     have k5:=hkk.1.2.2.2.2.2.2.1
     have kf:=hkk.2.2.2 6
     clear d5 p0 p1 p2 p3 p4 hLW hkk
     go_wp2_with fail
     have HLZ:Dl w (W.setCell ⟨w.heap.size+1,6,none⟩ (.slice (some ⟨g,0,none⟩) (acc.length+1) cap)) R en jQ.2 69 z8 #[.int .i64 3,.string (aC nm),.int .i64 pl,.int .i64 pc,.slice none 0 0,.slice none 0 0,(.slice (some ⟨g,0,none⟩) (acc.length+1) cap),.slice none 0 0] 77 5 (.slice (some ⟨g,0,none⟩) (acc.length+1) cap) (acc++[el]).length ((acc++[el]).flatMap sK):=by
      have:=HLW.out.set 6 (.slice (some ⟨g,0,none⟩) (acc.length+1) cap)
      rw[List.length_append,List.flatMap_append]
      simpa using this
     go_roundw
     case rel=>
      refine⟨f,jQ.2,acc++[el],_,rfl,HLZ,by omega,by simp;omega,fun hz=>⟨HQE.out,?_⟩,fun hz=>?_⟩
      ·rw[HEL.out hz];exact fS.out
      ·rw[fS.out,kX en f jQ.2 _ (fun hh=>hz hh.1)]
     case measure=>
      have e1:=HLZ.lo.rd.m
      have e2:=Su.out
      exact Nat.lt_of_le_of_lt (Nat.le_of_eq e1) (by rw[e2];omega)
  ·have hd0:decide (q.e=0)=false:=decide_eq_false he0
   rw[hd0]
   have hV2:=hno he0
   have HE2:Hid (EN.2=q):=by refine(?_:_=_);rw[tK.out,hV2];exact Rd.aP en he0 _
   have lI:Hid (decide (EN.2.e=0)=false):=by refine(?_:_=_);rw[HE2.out];exact hd0
   obtain⟨⟨c0,c1,c2,c3,c4,c5',c6,c7⟩,⟨a0,a1,a2,a3,a4,a5,a6,a7⟩,hf,_⟩:=Ik.out.lo.cV
   obtain⟨Y,hY,Ih,Ii,Cl,y0,y1,y2,y3,y4,y5,y6,y7⟩:=Ik.out.lo.sN
   have uI:Hid (Y.ownsRow (w.heap.size+2) 77 5 (.slice va acc.length vc) acc.length (acc.flatMap sK)):=aR Ik.out.own fun b hb=>Cl b (by have:=(aE Ik.out.own b hb).1;omega)
   have HY:=aB hY
   have b0:=hf 0
   have b1:=hf 1
   have b2:=hf 2
   have b3:=hf 3
   have b4:=hf 4
   have b5:=hf 5
   have b6:=hf 6
   have b7:=hf 7
   clear hY hf Cl hno hok hV2 hd0
   go_wp2_with fail
   rw[HY.out]
   exact bodyPost_ret (v:=.tuple #[dval 3 nm pl pc (.slice none 0 0) (.slice none 0 0) (.slice va acc.length vc) (.slice none 0 0),.bool false]) (by unfold dval;simp[results,Tryz.results118,go_sem,y0,y1,y2,y3,y4,y5,y6,y7]) rfl ⟨nm,pl,pc,acc,_,by rw[lI.out],fun hx=>absurd hx (of_decide_eq_false lI.out),by rw[HE2.out];exact Ih,Ii,uI.out⟩
end Go.Proofs.YtpojeinddnjpfaaGreatDoor
