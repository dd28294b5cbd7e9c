/-
  Walks and plain words (DpS DpD).
-/
import Derived.Test.YtpojeinddnjpfaaGreatDoorM9
import Derived.Deep.RegionWith
import Derived.Test.YtpojeinddnjpfaaGreatDoorM0
namespace Go.Proofs.YtpojeinddnjpfaaGreatDoor
set_option linter.unusedVariables false
open Go.ChangeShapes Go.WideShapes Go.ChangeAt Go.RowKit

theorem Zm (en:Int × Int) (msg:Rd→Dc × Rd) (q:Rd) (fl:List Fd) (ds:List Dc) (hm:(msg q).2.m≤q.m - 1):(gW en msg q fl ds).2.m≤q.m - 1:=by
 unfold gW
 split
 ·exact hm
 ·split
  ·exact Rd.Hx en q
  ·exact Rd.Lu en q
set_option maxHeartbeats 16000000 in
set_option maxRecDepth 20000 in
theorem xZ (en:Int × Int) (R:Nat) (r:Rd) (w:World) (he:r.e=0) (h:bW w R en r) :
  Calls Tryz.prog 116 #[.pointer (some ⟨R,0,none⟩),.int .i64 9] w fun x w'=>Oj en 1 R w (bK en 1 9 r) x w':=by
 have hlt:=h.lt
 have hL0:=Do.start w h 69 z8 #[.int .i64 1,.string ⟨#[]⟩,.int .i64 0,.int .i64 0,.slice none 0 0,.slice none 0 0,.slice none 0 0,.slice none 0 0]
 have HL0:=aB hL0
 have hre:=Rd.Ib r 8 (r.here en) (by decide)
 have hM2:(bK en 1 9 r).2=r.fail 8 (r.here en):=by
  rw[bK,if_pos (by omega)]
  simp only
  rw[Rd.aP en hre,Rd.lF en hre,Rd.aP en hre,mB en _ _ _ _ _ (fun hh=>hre hh.1),Rd.aP en hre]
 have Hm:=aB hM2
 have lI:Hid (decide ((bK en 1 9 r).2.e=0)=false):=by refine(?_:_=_);rw[hM2];exact decide_eq_false hre
 obtain⟨EN,Ij⟩:∃ EN,bK en 1 9 r=EN:=⟨_,rfl⟩
 rw[Ij]at Hm lI ⊢
 have Ma:=fun W hW=>mC R en r W hW
 have hFa:=fun W hW=>sM R en r 8 (r.here en).1 (r.here en).2 W he hW
 rw[show ((r.here en).1,(r.here en).2)=r.here en from rfl]at hFa
 clear hM2 hL0 h Ij he hre
 go_enter Tryz.func116,Tryz.ntmps116
 go_wp2_with fail
 generalize (w.alloc (.cells z8 69)).alloc (.cells #[.int .i64 1,.string ⟨#[]⟩,.int .i64 0,.int .i64 0,.slice none 0 0,.slice none 0 0,.slice none 0 0,.slice none 0 0] 69)=V at *
 obtain⟨⟨c0,c1,c2,c3,c4,c5,c6,c7⟩,_,_,_⟩:=HL0.out.cV
 go_region_with (first
  | (go_at_call 157;refine(Ma _ ?_).mono ?_;exact HL0.out.drew.rd;rintro e W1 ⟨rfl,hb1⟩;have hL1:=HL0.out.drew.below hb1;obtain⟨⟨e0,e1,e2,e3,e4,e5,e6,e7⟩,_,_,_⟩:=hL1.cV)
  | (go_at_call 156;refine(hFa _ ?_).mono ?_;exact hL1.rd;rintro e W2 ⟨rfl,hr2,hg2⟩;have hL2:=hL1.step hr2 hg2;obtain⟨⟨f0,f1,f2,f3,f4,f5,f6,f7⟩,⟨a0,a1,a2,a3,a4,a5,a6,a7⟩,hf,_⟩:=hL2.cV;have b0:=hf 0;have b1:=hf 1;have b2:=hf 2;have b3:=hf 3;have b4:=hf 4;have b5:=hf 5;have b6:=hf 6;have b7:=hf 7))
 all_goals
  obtain⟨Y,hY,Ih,Ii,Cl,y0,y1,y2,y3,y4,y5,y6,y7⟩:=hL2.sN
  have HY:=aB hY
  clear hY
  go_wp2_with fail
  rw[HY.out]
  exact bodyPost_ret (v:=.tuple #[.agg #[.int .i64 1,.string (aC []),.int .i64 0,.int .i64 0,.slice none 0 0,.slice none 0 0,.slice none 0 0,.slice none 0 0],.bool false]) (by simp[results,Tryz.results116,go_sem,y0,y1,y2,y3,y4,y5,y6,y7,aC]) rfl ⟨⟨1,[],0,0,[],[],[],[]⟩,none,0,0,none,0,0,none,0,0,none,0,0,by rw[lI.out],fun hx=>absurd hx (of_decide_eq_false lI.out),by rw[Hm.out];exact Ih,Ii,RowsIn.nil _ _ _ _ _ _,RowsIn.nil _ _ _ _ _ _,RowsIn.nil _ _ _ _ _ _,aM.nil _ _ _ _ _⟩
set_option maxHeartbeats 16000000 in
set_option maxRecDepth 20000 in
theorem Ay (en:Int × Int):∀ (k depth:Nat),depth+k=9→∀ (R:Nat) (r:Rd) (w:World),r.e=0→bW w R en r→
  Calls Tryz.prog 116 #[.pointer (some ⟨R,0,none⟩),.int .i64 (depth:Int)] w fun x w'=>Oj en (k+1) R w (bK en (k+1) depth r) x w':=by
 intro k
 induction k with
 | zero=>
  intro depth hdk R r w he h
  obtain rfl:depth=9:=by omega
  exact xZ en R r w he h
 | succ k ih=>
 intro depth hdk R r w he h
 have hlt:=h.lt
 have xX:=h.few
 have aJq:=Rd.Ar r
 have hd8:¬(8:Int)<(depth:Int):=by omega
 have hL0:Lv (w.alloc (.cells z8 69)) ((w.alloc (.cells z8 69)).alloc (.cells #[.int .i64 1,.string ⟨#[]⟩,.int .i64 0,.int .i64 0,.slice none 0 0,.slice none 0 0,.slice none 0 0,.slice none 0 0] 69)) R en r (w.heap.size+1) 69 #[.int .i64 1,.string ⟨#[]⟩,.int .i64 0,.int .i64 0,.slice none 0 0,.slice none 0 0,.slice none 0 0,.slice none 0 0]:=by
  have:=Lv.start (w.alloc (.cells z8 69)) (w.alloc (.cells z8 69)) (h.alloc _) (World.grownBy.refl _ _) (by simp;omega) 69 #[.int .i64 1,.string ⟨#[]⟩,.int .i64 0,.int .i64 0,.slice none 0 0,.slice none 0 0,.slice none 0 0,.slice none 0 0]
  rw[show (w.alloc (.cells z8 69)).heap.size=w.heap.size+1 by simp]at this
  exact this
 have hHd:=Ig hL0 he ⟨#[109,101,115,115,97,103,101]⟩ (by decide)
 have eT:(ByteArray.mk #[109,101,115,115,97,103,101]).data.toList=bA:=rfl
 rw[eT]at hHd
 have fE:=aB (Rd.cL en r bA)
 have tK:Hid (bK en (k+2) depth r=(⟨1,(r.take en bA).aL,((r.take en bA).nameP en).1,((r.take en bA).nameP en).2,(fN en (bK en (k+1) (depth+1)) ((((r.take en bA).name en).take en [123]).l.length+1) (((r.take en bA).name en).take en [123]) [] []).1.1,[],[],(fN en (bK en (k+1) (depth+1)) ((((r.take en bA).name en).take en [123]).l.length+1) (((r.take en bA).name en).take en [123]) [] []).1.2⟩,(fN en (bK en (k+1) (depth+1)) ((((r.take en bA).name en).take en [123]).l.length+1) (((r.take en bA).name en).take en [123]) [] []).2.take en [125])):=by
  refine(?_:_=_)
  rw[bK,if_neg (by omega)]
 obtain⟨EN,Ij⟩:∃ EN,bK en (k+1+1) depth r=EN:=⟨_,rfl⟩
 have aKc:bK en (k+2) depth r=EN:=Ij
 rw[aKc]at tK
 rw[Ij]
 generalize r.take en bA=q1 at *
 have Hm:=aB (Rd.gX en q1)
 have Yc:=aB (Rd.cL en (q1.name en) [123])
 obtain⟨NM,hNM⟩:∃ NM,q1.aL=NM:=⟨_,rfl⟩
 obtain⟨PL,Rq⟩:∃ PL,(q1.nameP en).1=PL:=⟨_,rfl⟩
 obtain⟨PC,hPC⟩:∃ PC,(q1.nameP en).2=PC:=⟨_,rfl⟩
 rw[hNM,Rq,hPC]at tK hHd
 generalize (q1.name en).take en [123]=q3 at *
 obtain⟨BD,hBD⟩:∃ BD,fN en (bK en (k+1) (depth+1)) (q3.l.length+1) q3 [] []=BD:=⟨_,rfl⟩
 have vD:=aB hBD
 rw[hBD]at tK
 have hq3:q3.m≤4001:=by have:=Yc.out;have:=Hm.out;have:=fE.out;omega
 have HQ3:=aB (Rd.Ar q3)
 clear Ij aKc hL0 eT h hNM Rq hPC hBD fE Hm Yc
 go_enter Tryz.func116,Tryz.ntmps116
 go_wp2_with fail
 refine hHd.mono ?_
 rintro e w1 ⟨nm,pl,pc,rfl,hnm,hL1⟩
 have xS:Hid (q3.e=0→nm=NM∧pl=PL∧pc=PC):=hnm
 have HL1:=aB (Do.Sx hlt hL1)
 clear hHd hnm hL1
 go_wp2_with fail
 go_loopw [7] (fun s7 wr=>∃ (f:Nat) (q:Rd) (fl:List Fd) (ds:List Dc) (rs:List (List Value)) (fs ins:Value),s7=.bool (decide (q.e=0))∧Dm (k+1) w wr R en q nm pl pc fs ins fl ds rs∧q.m≤f∧fl.length+ds.length+q.m≤4001∧(q.e=0→q3.e=0∧BD=fN en (bK en (k+1) (depth+1)) f q fl ds)∧(q.e≠0→BD.2=q)) (fun _ wr=>rdM wr R)
 case atStart=>
  refine⟨q3.l.length+1,q3,[],[],[],.slice none 0 0,.slice none 0 0,rfl,⟨HL1.out,World.ownsRow_nil _ _ _ _,De.nil _ _ _ _,fun b hb=>by simp[Value.ownBlock]at hb⟩,HQ3.out,by simpa using hq3,fun hz=>⟨hz,vD.out.symm⟩,fun hz=>?_⟩
  rw[←vD.out,mB en _ _ q3 [] [] (fun hh=>hz hh.1)]
 case round=>
  obtain⟨f,q,fl,ds,rs,fs,ins,rfl,hLm,hmf,hacc,hok,hno⟩:=hrel
  obtain⟨fa,fc,rfl⟩:=aO hLm.mY
  obtain⟨ia,ic,rfl⟩:=aO hLm.decls.own
  have HLm:=aB hLm
  have Zi:=hLm.lo.size
  have Su:=aB hLm.lo.rd.m
  clear hLm
  by_cases he0:q.e=0
  ·have hd0:decide (q.e=0)=true:=decide_eq_true he0
   rw[hd0]
   obtain⟨Eb,hbd⟩:=hok he0
   have HQE:=aB Eb
   have dN:=aB hbd
   have nN:=jI R en q ⟨#[125]⟩ wr he0 (by decide) HLm.out.lo.rd
   have e125:(ByteArray.mk #[125]).data.toList=[125]:=rfl
   rw[e125]at nN
   clear hno hok e125 hbd hd0 Eb
   by_cases hi:q.is [125]=true
   ·have hsk:q.skip [125]=q.tail:=by unfold Rd.skip;rw[if_pos hi]
    have htk:q.take en [125]=q.tail:=by unfold Rd.take;rw[if_pos hi]
    rw[hsk,hi]at nN
    have Mc:BD=((fl,ds),q):=by rw[dN.out,mB en _ f q fl ds (fun hh=>by rw[hi]at hh;exact absurd hh.2 (by decide))]
    have HE2:Hid (EN.2=q.tail):=by refine(?_:_=_);rw[tK.out,Mc];exact htk
    have vA:Hid (EN.1=⟨1,nm,pl,pc,fl,[],[],ds⟩):=by
     refine(?_:_=_)
     obtain⟨a1,a2,a3⟩:=xS.out HQE.out
     rw[tK.out,Mc,a1,a2,a3]
    have lI:Hid (decide (EN.2.e=0)=true):=by refine(?_:_=_);rw[HE2.out];exact decide_eq_true he0
    clear hi hsk htk Mc dN ih
    go_wp2_with fail
    refine nN.mono ?_
    rintro e w5 ⟨rfl,iT,hg5⟩
    have qQ:=aB (HLm.out.step iT hg5)
    obtain⟨⟨c0,c1,c2,c3,c4,c5',c6,c7⟩,⟨a0,a1,a2,a3,a4,a5,a6,a7⟩,hf,_⟩:=qQ.out.lo.cV
    obtain⟨Y,hY,Ih,Ii,⟨y0,y1,y2,y3,y4,y5,y6,y7⟩,hKY⟩:=qQ.out.final
    have HY:=aB hY
    have yA:=aB hKY
    have b0:=hf 0
    have b1:=hf 1
    have b2:=hf 2
    have b3:=hf 3
    have b4:=hf 4
    have b5:=hf 5
    have b6:=hf 6
    have b7:=hf 7
    clear hY hf nN iT hg5 hKY
    go_wp2_with fail
    rw[HY.out]
    exact bodyPost_ret (v:=.tuple #[.agg #[.int .i64 1,.string (aC nm),.int .i64 pl,.int .i64 pc,.slice fa fl.length fc,.slice none 0 0,.slice none 0 0,.slice ia ds.length ic],.bool true]) (by simp[results,Tryz.results116,go_sem,y0,y1,y2,y3,y4,y5,y6,y7]) rfl ⟨⟨1,nm,pl,pc,fl,[],[],ds⟩,fa,fl.length,fc,none,0,0,none,0,0,ia,ds.length,ic,by rw[lI.out],fun _=>vA.out.symm,by rw[HE2.out];exact Ih,Ii,yA.out⟩
   ·have hi':q.is [125]=false:=by simpa using hi
    have hsk:q.skip [125]=q:=by unfold Rd.skip;rw[if_neg hi]
    rw[hsk,hi']at nN
    have hm1:1≤q.m:=by unfold Rd.m;rw[if_pos he0];omega
    obtain⟨f,rfl⟩:∃ f',f=f'+1:=⟨f - 1,by omega⟩
    have hBG:=Im en (bK en (k+1) (depth+1)) f q fl ds ⟨he0,hi'⟩
    rw[←dN.out]at hBG
    have HBG:=aB hBG
    have hmv:=Zm en (bK en (k+1) (depth+1)) q fl ds (pY en k (depth+1) q)
    have aKf:=fun W (hW:Dm (k+1) w W R en q nm pl pc (.slice fa fl.length fc) (.slice ia ds.length ic) fl ds rs)=>Eg hW he0 (by omega) (by omega) (bK en (k+1) (depth+1)) depth (by omega) (fun W2 hW2=>ih (depth+1) (by omega) R q W2 he0 hW2)
    generalize gW en (bK en (k+1) (depth+1)) q fl ds=ST at *
    clear dN hi hi' hsk hBG ih
    go_wp2_with fail
    refine nN.mono ?_
    rintro e w5 ⟨rfl,iT,hg5⟩
    have qQ:=aB (HLm.out.step iT hg5)
    clear nN iT hg5
    go_wp2_with fail
    refine(aKf w5 qQ.out).mono ?_
    rintro e w6 ⟨fl',ds',rs',fs',ins',rfl,hst,hlen,hD6⟩
    have HD6:=aB hD6
    have aRg:=aB hst
    clear aKf hD6 hst
    go_wp2_with fail
    go_roundw
    case rel=>
     refine⟨f,ST.2,fl',ds',rs',fs',ins',rfl,HD6.out,by omega,by omega,fun hz=>⟨HQE.out,?_⟩,fun hz=>?_⟩
     ·obtain⟨s1,s2⟩:=aRg.out hz
      rw[s1,s2];exact HBG.out
     ·rw[HBG.out,mB en _ f ST.2 _ _ (fun hh=>hz hh.1)]
    case measure=>
     have e1:=HD6.out.lo.rd.m
     have e2:=Su.out
     exact Nat.lt_of_le_of_lt (Nat.le_of_eq e1) (by rw[e2];omega)
  ·have hd0:decide (q.e=0)=false:=decide_eq_false he0
   rw[hd0]
   have hV2:=hno he0
   have HE2:Hid (EN.2=q):=by refine(?_:_=_);rw[tK.out,hV2];exact Rd.aP en he0 _
   have lI:Hid (decide (EN.2.e=0)=false):=by refine(?_:_=_);rw[HE2.out];exact hd0
   obtain⟨⟨c0,c1,c2,c3,c4,c5',c6,c7⟩,⟨a0,a1,a2,a3,a4,a5,a6,a7⟩,hf,_⟩:=HLm.out.lo.cV
   obtain⟨Y,hY,Ih,Ii,⟨y0,y1,y2,y3,y4,y5,y6,y7⟩,hKY⟩:=HLm.out.final
   have HY:=aB hY
   have yA:=aB hKY
   have b0:=hf 0
   have b1:=hf 1
   have b2:=hf 2
   have b3:=hf 3
   have b4:=hf 4
   have b5:=hf 5
   have b6:=hf 6
   have b7:=hf 7
   clear hY hf hKY hno hok hV2 hd0 ih
   go_wp2_with fail
   rw[HY.out]
   exact bodyPost_ret (v:=.tuple #[.agg #[.int .i64 1,.string (aC nm),.int .i64 pl,.int .i64 pc,.slice fa fl.length fc,.slice none 0 0,.slice none 0 0,.slice ia ds.length ic],.bool false]) (by simp[results,Tryz.results116,go_sem,y0,y1,y2,y3,y4,y5,y6,y7]) rfl ⟨⟨1,nm,pl,pc,fl,[],[],ds⟩,fa,fl.length,fc,none,0,0,none,0,0,ia,ds.length,ic,by rw[lI.out],fun hx=>absurd hx (of_decide_eq_false lI.out),by rw[HE2.out];exact Ih,Ii,yA.out⟩
def eS (en:Int × Int) (r:Rd):Dc × Rd:=
 if r.is bA=true then bK en 9 1 r else if r.is cZ=true then r.enum en else if r.is bQ=true then r.service en else (⟨0,[],0,0,[],[],[],[]⟩,r.fail 7 (r.here en))
theorem Zn (en:Int × Int) (r:Rd):(eS en r).2.m≤r.m - 1:=by
 unfold eS
 split
 ·exact pY en 8 1 r
 ·split
  ·exact Rd.Hx en r
  ·split
   ·exact Rd.Ns en r
   ·show (r.fail 7 (r.here en)).m≤_
    rw[Rd.sH _ _ _ (by decide)];omega
theorem Eh (en:Int × Int) (f:Nat) (r:Rd) (acc:List Dc) (h:r.e=0∧r.l≠[]):dU en (f+1) r acc=if (eS en r).2.e=0 then dU en f (eS en r).2 (acc++[(eS en r).1]) else dU en (f+1) r acc:=by
 split
 ·rename_i he
  rw[yU en f r acc h]
  unfold eS at *
  by_cases h1:r.is bA=true
  ·rw[if_pos h1,if_pos h1];rfl
  ·rw[if_neg h1]at he ⊢
   rw[if_neg h1]
   by_cases h2:r.is cZ=true
   ·rw[if_pos h2,if_pos h2]
   ·rw[if_neg h2]at he ⊢
    rw[if_neg h2]
    by_cases h3:r.is bQ=true
    ·rw[if_pos h3,if_pos h3]
    ·rw[if_neg h3]at he
     have he':(r.fail 7 (r.here en)).e=0:=he
     rw[Rd.Aq h.1]at he'
     cases he'
 ·rfl
theorem Iq (en:Int × Int) (f:Nat) (r:Rd) (acc:List Dc) (h:r.e=0∧r.l≠[]) (he:(eS en r).2.e≠0):(dU en (f+1) r acc).2=(eS en r).2:=by
 rw[yU en f r acc h]
 unfold eS at *
 by_cases h1:r.is bA=true
 ·rw[if_pos h1]at he ⊢
  rw[if_pos h1]
  have he':(r.message en 1).2.e≠0:=he
  rw[iL en f _ _ (fun hh=>he' hh.1)];rfl
 ·rw[if_neg h1]at he ⊢
  rw[if_neg h1]
  by_cases h2:r.is cZ=true
  ·rw[if_pos h2]at he ⊢
   rw[if_pos h2,iL en f _ _ (fun hh=>he hh.1)]
  ·rw[if_neg h2]at he ⊢
   rw[if_neg h2]
   by_cases h3:r.is bQ=true
   ·rw[if_pos h3]at he ⊢
    rw[if_pos h3,iL en f _ _ (fun hh=>he hh.1)]
   ·rw[if_neg h3]at he ⊢
    rw[if_neg h3]
    have he':(r.fail 7 (r.here en)).e≠0:=he
    rw[iL en f _ _ (fun hh=>he' hh.1)]
set_option maxHeartbeats 16000000 in
set_option maxRecDepth 20000 in
theorem sO (R:Nat) (en:Int × Int) (r:Rd) (w:World) (he:r.e=0) (h:bW w R en r) :
  Calls Tryz.prog 75 #[.pointer (some ⟨R,0,none⟩)] w fun x w'=>Oj en 9 R w (eS en r) x w':=by
 have hlt:=h.lt
 have hTx:=jH R en r (w.alloc (.cells z8 69)) (h.alloc _)
 have Mf:=aB (h.alloc (.cells z8 69))
 have HI0:=aB (alloc_heap_new w (.cells z8 69))
 have Mg:Hid (w.grownBy (w.alloc (.cells z8 69)) (some R)):=World.grownBy_alloc w _ _
 have hsI:(w.alloc (.cells z8 69)).heap.size=w.heap.size+1:=by simp
 have iM:=Rd.oR (t:=bA) he (by decide)
 have iE:=Rd.oR (t:=cZ) he (by decide)
 have iS:=Rd.oR (t:=bQ) he (by decide)
 by_cases hM:r.is bA=true
 ·have b0:((aC r.text).toList == [109,101,115,115,97,103,101])=true:=by rw[aH,←iM];exact hM
  have hST:eS en r=bK en 9 1 r:=by unfold eS;rw[if_pos hM]
  have fO:=fun W hW=>Ay en 8 1 (by decide) R r W he hW
  obtain⟨CH,hCH⟩:∃ CH,bK en 9 1 r=CH:=⟨_,rfl⟩
  rw[hST,hCH]
  rw[hCH]at fO
  clear hCH hST h iM iE iS
  generalize r.text=tx at *
  go_enter Tryz.func75,Tryz.ntmps75
  go_wp2_with fail
  refine hTx.mono ?_
  rintro e w9 ⟨rfl,h9⟩
  have h9:=h9.symm
  subst h9
  clear hTx
  go_wp2_with fail
  refine(fO _ Mf.out).mono ?_
  generalize w.alloc (.cells z8 69)=V at *
  rintro e W5 ⟨d,fa,fn,fc,va,vn,vc,ma,mn,mc,ia,inn,ic,rfl,hd,iT,hg5,iW⟩
  have dF:=hg5.size
  clear fO
  have wA:=aB (mS HI0.out hg5 (by omega))
  have Co:=aB (jJ wA.out (.int .i64 d.kind) (.string (aC d.name)) (.int .i64 d.line) (.int .i64 d.col) (.slice fa fn fc) (.slice va vn vc) (.slice ma mn mc) (.slice ia inn ic))
  have HGY:Hid (w.grownBy (S8 W5 w.heap.size 0 (.int .i64 d.kind) (.string (aC d.name)) (.int .i64 d.line) (.int .i64 d.col) (.slice fa fn fc) (.slice va vn vc) (.slice ma mn mc) (.slice ia inn ic)) (some R)):=oT (o:=.cells z8 69) (Nat.le_refl _) (Mg.out.trans hg5) _ _ _ _ _ _ _ _
  have yB:Hid (bW (S8 W5 w.heap.size 0 (.int .i64 d.kind) (.string (aC d.name)) (.int .i64 d.line) (.int .i64 d.col) (.slice fa fn fc) (.slice va vn vc) (.slice ma mn mc) (.slice ia inn ic)) R en CH.2):=iT.old fun k hk=>fT _ _ _ _ _ _ _ _ _ _ _ k (by omega)
  have eO:Hid (Kids 9 (S8 W5 w.heap.size 0 (.int .i64 d.kind) (.string (aC d.name)) (.int .i64 d.line) (.int .i64 d.col) (.slice fa fn fc) (.slice va vn vc) (.slice ma mn mc) (.slice ia inn ic)) (fun b=>w.heap.size+2≤b∧b<(S8 W5 w.heap.size 0 (.int .i64 d.kind) (.string (aC d.name)) (.int .i64 d.line) (.int .i64 d.col) (.slice fa fn fc) (.slice va vn vc) (.slice ma mn mc) (.slice ia inn ic)).heap.size) (.slice fa fn fc) (.slice va vn vc) (.slice ma mn mc) (.slice ia inn ic) d):=by
   refine(?_:Kids _ _ _ _ _ _ _ _)
   exact(iW.old fun b hb=>fT _ _ _ _ _ _ _ _ _ _ _ b (by have:=hb.1;omega)).more fun b hb=>⟨by have:=hb.1;omega,by rw[oS];exact hb.2⟩
  have lI:=aB hd
  have i5:=wA.out
  obtain⟨c0,c1,c2,c3,c4,c5,c6,c7,hfz⟩:W5.cell? ⟨w.heap.size,0,none⟩=some (.int .i64 0)∧W5.cell? ⟨w.heap.size,1,none⟩=some (.string ⟨#[]⟩)∧W5.cell? ⟨w.heap.size,2,none⟩=some (.int .i64 0)∧W5.cell? ⟨w.heap.size,3,none⟩=some (.int .i64 0)∧W5.cell? ⟨w.heap.size,4,none⟩=some (.slice none 0 0)∧W5.cell? ⟨w.heap.size,5,none⟩=some (.slice none 0 0)∧W5.cell? ⟨w.heap.size,6,none⟩=some (.slice none 0 0)∧W5.cell? ⟨w.heap.size,7,none⟩=some (.slice none 0 0)∧∀ j,W5.frozen? ⟨w.heap.size,j,none⟩=false:=by
   refine⟨?_,?_,?_,?_,?_,?_,?_,?_,?_⟩
   all_goals simp[World.cell?,World.frozen?,i5]
  have rD:=hfz 0
  have rE:=hfz 1
  have Td:=hfz 2
  have Te:=hfz 3
  have Tf:=hfz 4
  have Tg:=hfz 5
  have Th:=hfz 6
  have Ti:=hfz 7
  clear iT hg5 iW hd i5 hfz wA Mf HI0 Mg
  go_wp2_with fail
  change bodyPost _ _ _ _ _ (S8 W5 w.heap.size 0 (.int .i64 d.kind) (.string (aC d.name)) (.int .i64 d.line) (.int .i64 d.col) (.slice fa fn fc) (.slice va vn vc) (.slice ma mn mc) (.slice ia inn ic))
  clear c0 c1 c2 c3 c4 c5 c6 c7 rD rE Td Te Tf Tg Th Ti
  generalize S8 W5 w.heap.size 0 (.int .i64 d.kind) (.string (aC d.name)) (.int .i64 d.line) (.int .i64 d.col) (.slice fa fn fc) (.slice va vn vc) (.slice ma mn mc) (.slice ia inn ic)=Y at *
  have s8:=Co.out
  have y0:=aA s8 0 rfl
  have y1:=aA s8 1 rfl
  have y2:=aA s8 2 rfl
  have y3:=aA s8 3 rfl
  have y4:=aA s8 4 rfl
  have y5:=aA s8 5 rfl
  have y6:=aA s8 6 rfl
  have y7:=aA s8 7 rfl
  exact bodyPost_ret (v:=.tuple #[.agg #[.int .i64 d.kind,.string (aC d.name),.int .i64 d.line,.int .i64 d.col,.slice fa fn fc,.slice va vn vc,.slice ma mn mc,.slice ia inn ic],.bool (decide (CH.2.e=0))]) (by simp[results,Tryz.results75,go_sem,y0,y1,y2,y3,y4,y5,y6,y7]) rfl ⟨d,fa,fn,fc,va,vn,vc,ma,mn,mc,ia,inn,ic,rfl,lI.out,yB.out,HGY.out,eO.out⟩
 ·have hM':r.is bA=false:=by simpa using hM
  have b0:((aC r.text).toList == [109,101,115,115,97,103,101])=false:=by rw[aH,←iM];exact hM'
  by_cases hE:r.is cZ=true
  ·have b1:((aC r.text).toList == [101,110,117,109])=true:=by rw[aH,←iE];exact hE
   have hST:eS en r=r.enum en:=by unfold eS;rw[if_neg hM,if_pos hE]
   have fO:=fun W hW=>vZ R en r W he hW 9
   obtain⟨CH,hCH⟩:∃ CH,r.enum en=CH:=⟨_,rfl⟩
   rw[hST,hCH]
   rw[hCH]at fO
   clear hCH hST h iM iE iS
   generalize r.text=tx at *
   go_enter Tryz.func75,Tryz.ntmps75
   go_wp2_with fail
   refine hTx.mono ?_
   rintro e w9 ⟨rfl,h9⟩
   have h9:=h9.symm
   subst h9
   clear hTx
   go_wp2_with fail
   refine(fO _ Mf.out).mono ?_
   generalize w.alloc (.cells z8 69)=V at *
   rintro e W5 ⟨d,fa,fn,fc,va,vn,vc,ma,mn,mc,ia,inn,ic,rfl,hd,iT,hg5,iW⟩
   have dF:=hg5.size
   clear fO
   have wA:=aB (mS HI0.out hg5 (by omega))
   have Co:=aB (jJ wA.out (.int .i64 d.kind) (.string (aC d.name)) (.int .i64 d.line) (.int .i64 d.col) (.slice fa fn fc) (.slice va vn vc) (.slice ma mn mc) (.slice ia inn ic))
   have HGY:Hid (w.grownBy (S8 W5 w.heap.size 0 (.int .i64 d.kind) (.string (aC d.name)) (.int .i64 d.line) (.int .i64 d.col) (.slice fa fn fc) (.slice va vn vc) (.slice ma mn mc) (.slice ia inn ic)) (some R)):=oT (o:=.cells z8 69) (Nat.le_refl _) (Mg.out.trans hg5) _ _ _ _ _ _ _ _
   have yB:Hid (bW (S8 W5 w.heap.size 0 (.int .i64 d.kind) (.string (aC d.name)) (.int .i64 d.line) (.int .i64 d.col) (.slice fa fn fc) (.slice va vn vc) (.slice ma mn mc) (.slice ia inn ic)) R en CH.2):=iT.old fun k hk=>fT _ _ _ _ _ _ _ _ _ _ _ k (by omega)
   have eO:Hid (Kids 9 (S8 W5 w.heap.size 0 (.int .i64 d.kind) (.string (aC d.name)) (.int .i64 d.line) (.int .i64 d.col) (.slice fa fn fc) (.slice va vn vc) (.slice ma mn mc) (.slice ia inn ic)) (fun b=>w.heap.size+2≤b∧b<(S8 W5 w.heap.size 0 (.int .i64 d.kind) (.string (aC d.name)) (.int .i64 d.line) (.int .i64 d.col) (.slice fa fn fc) (.slice va vn vc) (.slice ma mn mc) (.slice ia inn ic)).heap.size) (.slice fa fn fc) (.slice va vn vc) (.slice ma mn mc) (.slice ia inn ic) d):=by
    refine(?_:Kids _ _ _ _ _ _ _ _)
    exact(iW.old fun b hb=>fT _ _ _ _ _ _ _ _ _ _ _ b (by have:=hb.1;omega)).more fun b hb=>⟨by have:=hb.1;omega,by rw[oS];exact hb.2⟩
   have lI:=aB hd
   have i5:=wA.out
   obtain⟨c0,c1,c2,c3,c4,c5,c6,c7,hfz⟩:W5.cell? ⟨w.heap.size,0,none⟩=some (.int .i64 0)∧W5.cell? ⟨w.heap.size,1,none⟩=some (.string ⟨#[]⟩)∧W5.cell? ⟨w.heap.size,2,none⟩=some (.int .i64 0)∧W5.cell? ⟨w.heap.size,3,none⟩=some (.int .i64 0)∧W5.cell? ⟨w.heap.size,4,none⟩=some (.slice none 0 0)∧W5.cell? ⟨w.heap.size,5,none⟩=some (.slice none 0 0)∧W5.cell? ⟨w.heap.size,6,none⟩=some (.slice none 0 0)∧W5.cell? ⟨w.heap.size,7,none⟩=some (.slice none 0 0)∧∀ j,W5.frozen? ⟨w.heap.size,j,none⟩=false:=by
    refine⟨?_,?_,?_,?_,?_,?_,?_,?_,?_⟩
    all_goals simp[World.cell?,World.frozen?,i5]
   have rD:=hfz 0
   have rE:=hfz 1
   have Td:=hfz 2
   have Te:=hfz 3
   have Tf:=hfz 4
   have Tg:=hfz 5
   have Th:=hfz 6
   have Ti:=hfz 7
   clear iT hg5 iW hd i5 hfz wA Mf HI0 Mg
   go_wp2_with fail
   change bodyPost _ _ _ _ _ (S8 W5 w.heap.size 0 (.int .i64 d.kind) (.string (aC d.name)) (.int .i64 d.line) (.int .i64 d.col) (.slice fa fn fc) (.slice va vn vc) (.slice ma mn mc) (.slice ia inn ic))
   clear c0 c1 c2 c3 c4 c5 c6 c7 rD rE Td Te Tf Tg Th Ti
   generalize S8 W5 w.heap.size 0 (.int .i64 d.kind) (.string (aC d.name)) (.int .i64 d.line) (.int .i64 d.col) (.slice fa fn fc) (.slice va vn vc) (.slice ma mn mc) (.slice ia inn ic)=Y at *
   have s8:=Co.out
   have y0:=aA s8 0 rfl
   have y1:=aA s8 1 rfl
   have y2:=aA s8 2 rfl
   have y3:=aA s8 3 rfl
   have y4:=aA s8 4 rfl
   have y5:=aA s8 5 rfl
   have y6:=aA s8 6 rfl
   have y7:=aA s8 7 rfl
   exact bodyPost_ret (v:=.tuple #[.agg #[.int .i64 d.kind,.string (aC d.name),.int .i64 d.line,.int .i64 d.col,.slice fa fn fc,.slice va vn vc,.slice ma mn mc,.slice ia inn ic],.bool (decide (CH.2.e=0))]) (by simp[results,Tryz.results75,go_sem,y0,y1,y2,y3,y4,y5,y6,y7]) rfl ⟨d,fa,fn,fc,va,vn,vc,ma,mn,mc,ia,inn,ic,rfl,lI.out,yB.out,HGY.out,eO.out⟩
  ·have hE':r.is cZ=false:=by simpa using hE
   have b1:((aC r.text).toList == [101,110,117,109])=false:=by rw[aH,←iE];exact hE'
   by_cases hS:r.is bQ=true
   ·have b2:((aC r.text).toList == [115,101,114,118,105,99,101])=true:=by rw[aH,←iS];exact hS
    have hST:eS en r=r.service en:=by unfold eS;rw[if_neg hM,if_neg hE,if_pos hS]
    have fO:=fun W hW=>xY R en r W he hW 9
    obtain⟨CH,hCH⟩:∃ CH,r.service en=CH:=⟨_,rfl⟩
    rw[hST,hCH]
    rw[hCH]at fO
    clear hCH hST h iM iE iS
    generalize r.text=tx at *
    go_enter Tryz.func75,Tryz.ntmps75
    go_wp2_with fail
    refine hTx.mono ?_
    rintro e w9 ⟨rfl,h9⟩
    have h9:=h9.symm
    subst h9
    clear hTx
    go_wp2_with fail
    refine(fO _ Mf.out).mono ?_
    generalize w.alloc (.cells z8 69)=V at *
    rintro e W5 ⟨d,fa,fn,fc,va,vn,vc,ma,mn,mc,ia,inn,ic,rfl,hd,iT,hg5,iW⟩
    have dF:=hg5.size
    clear fO
    have wA:=aB (mS HI0.out hg5 (by omega))
    have Co:=aB (jJ wA.out (.int .i64 d.kind) (.string (aC d.name)) (.int .i64 d.line) (.int .i64 d.col) (.slice fa fn fc) (.slice va vn vc) (.slice ma mn mc) (.slice ia inn ic))
    have HGY:Hid (w.grownBy (S8 W5 w.heap.size 0 (.int .i64 d.kind) (.string (aC d.name)) (.int .i64 d.line) (.int .i64 d.col) (.slice fa fn fc) (.slice va vn vc) (.slice ma mn mc) (.slice ia inn ic)) (some R)):=oT (o:=.cells z8 69) (Nat.le_refl _) (Mg.out.trans hg5) _ _ _ _ _ _ _ _
    have yB:Hid (bW (S8 W5 w.heap.size 0 (.int .i64 d.kind) (.string (aC d.name)) (.int .i64 d.line) (.int .i64 d.col) (.slice fa fn fc) (.slice va vn vc) (.slice ma mn mc) (.slice ia inn ic)) R en CH.2):=iT.old fun k hk=>fT _ _ _ _ _ _ _ _ _ _ _ k (by omega)
    have eO:Hid (Kids 9 (S8 W5 w.heap.size 0 (.int .i64 d.kind) (.string (aC d.name)) (.int .i64 d.line) (.int .i64 d.col) (.slice fa fn fc) (.slice va vn vc) (.slice ma mn mc) (.slice ia inn ic)) (fun b=>w.heap.size+2≤b∧b<(S8 W5 w.heap.size 0 (.int .i64 d.kind) (.string (aC d.name)) (.int .i64 d.line) (.int .i64 d.col) (.slice fa fn fc) (.slice va vn vc) (.slice ma mn mc) (.slice ia inn ic)).heap.size) (.slice fa fn fc) (.slice va vn vc) (.slice ma mn mc) (.slice ia inn ic) d):=by
     refine(?_:Kids _ _ _ _ _ _ _ _)
     exact(iW.old fun b hb=>fT _ _ _ _ _ _ _ _ _ _ _ b (by have:=hb.1;omega)).more fun b hb=>⟨by have:=hb.1;omega,by rw[oS];exact hb.2⟩
    have lI:=aB hd
    have i5:=wA.out
    obtain⟨c0,c1,c2,c3,c4,c5,c6,c7,hfz⟩:W5.cell? ⟨w.heap.size,0,none⟩=some (.int .i64 0)∧W5.cell? ⟨w.heap.size,1,none⟩=some (.string ⟨#[]⟩)∧W5.cell? ⟨w.heap.size,2,none⟩=some (.int .i64 0)∧W5.cell? ⟨w.heap.size,3,none⟩=some (.int .i64 0)∧W5.cell? ⟨w.heap.size,4,none⟩=some (.slice none 0 0)∧W5.cell? ⟨w.heap.size,5,none⟩=some (.slice none 0 0)∧W5.cell? ⟨w.heap.size,6,none⟩=some (.slice none 0 0)∧W5.cell? ⟨w.heap.size,7,none⟩=some (.slice none 0 0)∧∀ j,W5.frozen? ⟨w.heap.size,j,none⟩=false:=by
     refine⟨?_,?_,?_,?_,?_,?_,?_,?_,?_⟩
     all_goals simp[World.cell?,World.frozen?,i5]
    have rD:=hfz 0
    have rE:=hfz 1
    have Td:=hfz 2
    have Te:=hfz 3
    have Tf:=hfz 4
    have Tg:=hfz 5
    have Th:=hfz 6
    have Ti:=hfz 7
    clear iT hg5 iW hd i5 hfz wA Mf HI0 Mg
    go_wp2_with fail
    change bodyPost _ _ _ _ _ (S8 W5 w.heap.size 0 (.int .i64 d.kind) (.string (aC d.name)) (.int .i64 d.line) (.int .i64 d.col) (.slice fa fn fc) (.slice va vn vc) (.slice ma mn mc) (.slice ia inn ic))
    clear c0 c1 c2 c3 c4 c5 c6 c7 rD rE Td Te Tf Tg Th Ti
    generalize S8 W5 w.heap.size 0 (.int .i64 d.kind) (.string (aC d.name)) (.int .i64 d.line) (.int .i64 d.col) (.slice fa fn fc) (.slice va vn vc) (.slice ma mn mc) (.slice ia inn ic)=Y at *
    have s8:=Co.out
    have y0:=aA s8 0 rfl
    have y1:=aA s8 1 rfl
    have y2:=aA s8 2 rfl
    have y3:=aA s8 3 rfl
    have y4:=aA s8 4 rfl
    have y5:=aA s8 5 rfl
    have y6:=aA s8 6 rfl
    have y7:=aA s8 7 rfl
    exact bodyPost_ret (v:=.tuple #[.agg #[.int .i64 d.kind,.string (aC d.name),.int .i64 d.line,.int .i64 d.col,.slice fa fn fc,.slice va vn vc,.slice ma mn mc,.slice ia inn ic],.bool (decide (CH.2.e=0))]) (by simp[results,Tryz.results75,go_sem,y0,y1,y2,y3,y4,y5,y6,y7]) rfl ⟨d,fa,fn,fc,va,vn,vc,ma,mn,mc,ia,inn,ic,rfl,lI.out,yB.out,HGY.out,eO.out⟩
   ·have hS':r.is bQ=false:=by simpa using hS
    have b2:((aC r.text).toList == [115,101,114,118,105,99,101])=false:=by rw[aH,←iS];exact hS'
    have hST:eS en r=(⟨0,[],0,0,[],[],[],[]⟩,r.fail 7 (r.here en)):=by unfold eS;rw[if_neg hM,if_neg hE,if_neg hS]
    have fO:=fun W hW=>kL R en r W he hW
    have hCE:=Rd.Ib r 7 (r.here en) (by decide)
    rw[hST]
    obtain⟨CH,hCH⟩:∃ CH:Dc × Rd,((⟨0,[],0,0,[],[],[],[]⟩:Dc),r.fail 7 (r.here en))=CH:=⟨_,rfl⟩
    have hC2:r.fail 7 (r.here en)=CH.2:=by rw[←hCH]
    rw[hC2]at fO hCE
    rw[hCH]
    have HDC:Hid (decide (CH.2.e=0)=false):=by refine(?_:_=_);exact decide_eq_false hCE
    clear hCH hST h iM iE iS hC2 hCE
    generalize r.text=tx at *
    go_enter Tryz.func75,Tryz.ntmps75
    go_wp2_with fail
    refine hTx.mono ?_
    rintro e w9 ⟨rfl,h9⟩
    have h9:=h9.symm
    subst h9
    clear hTx
    go_wp2_with fail
    refine(fO _ Mf.out).mono ?_
    generalize w.alloc (.cells z8 69)=V at *
    rintro e W5 ⟨rfl,iT,hg5⟩
    have dF:=hg5.size
    have wA:=aB (mS HI0.out hg5 (by omega))
    have Co:=aB (jJ wA.out (.int .i64 0) (.string ⟨#[]⟩) (.int .i64 0) (.int .i64 0) (.slice none 0 0) (.slice none 0 0) (.slice none 0 0) (.slice none 0 0))
    have HGY:Hid (w.grownBy (S8 W5 w.heap.size 0 (.int .i64 0) (.string ⟨#[]⟩) (.int .i64 0) (.int .i64 0) (.slice none 0 0) (.slice none 0 0) (.slice none 0 0) (.slice none 0 0)) (some R)):=oT (o:=.cells z8 69) (Nat.le_refl _) (Mg.out.trans hg5) _ _ _ _ _ _ _ _
    have yB:Hid (bW (S8 W5 w.heap.size 0 (.int .i64 0) (.string ⟨#[]⟩) (.int .i64 0) (.int .i64 0) (.slice none 0 0) (.slice none 0 0) (.slice none 0 0) (.slice none 0 0)) R en CH.2):=iT.old fun k hk=>fT _ _ _ _ _ _ _ _ _ _ _ k (by omega)
    have i5:=wA.out
    obtain⟨c0,c1,c2,c3,c4,c5,c6,c7,hfz⟩:W5.cell? ⟨w.heap.size,0,none⟩=some (.int .i64 0)∧W5.cell? ⟨w.heap.size,1,none⟩=some (.string ⟨#[]⟩)∧W5.cell? ⟨w.heap.size,2,none⟩=some (.int .i64 0)∧W5.cell? ⟨w.heap.size,3,none⟩=some (.int .i64 0)∧W5.cell? ⟨w.heap.size,4,none⟩=some (.slice none 0 0)∧W5.cell? ⟨w.heap.size,5,none⟩=some (.slice none 0 0)∧W5.cell? ⟨w.heap.size,6,none⟩=some (.slice none 0 0)∧W5.cell? ⟨w.heap.size,7,none⟩=some (.slice none 0 0)∧∀ j,W5.frozen? ⟨w.heap.size,j,none⟩=false:=by
     refine⟨?_,?_,?_,?_,?_,?_,?_,?_,?_⟩
     all_goals simp[World.cell?,World.frozen?,i5]
    have rD:=hfz 0
    have rE:=hfz 1
    have Td:=hfz 2
    have Te:=hfz 3
    have Tf:=hfz 4
    have Tg:=hfz 5
    have Th:=hfz 6
    have Ti:=hfz 7
    clear iT hg5 i5 hfz wA Mf HI0 Mg fO
    go_wp2_with fail
    change bodyPost _ _ _ _ _ (S8 W5 w.heap.size 0 (.int .i64 0) (.string ⟨#[]⟩) (.int .i64 0) (.int .i64 0) (.slice none 0 0) (.slice none 0 0) (.slice none 0 0) (.slice none 0 0))
    clear c0 c1 c2 c3 c4 c5 c6 c7 rD rE Td Te Tf Tg Th Ti
    generalize S8 W5 w.heap.size 0 (.int .i64 0) (.string ⟨#[]⟩) (.int .i64 0) (.int .i64 0) (.slice none 0 0) (.slice none 0 0) (.slice none 0 0) (.slice none 0 0)=Y at *
    have s8:=Co.out
    have y0:=aA s8 0 rfl
    have y1:=aA s8 1 rfl
    have y2:=aA s8 2 rfl
    have y3:=aA s8 3 rfl
    have y4:=aA s8 4 rfl
    have y5:=aA s8 5 rfl
    have y6:=aA s8 6 rfl
    have y7:=aA s8 7 rfl
    exact bodyPost_ret (v:=.tuple #[.agg #[.int .i64 0,.string (aC []),.int .i64 0,.int .i64 0,.slice none 0 0,.slice none 0 0,.slice none 0 0,.slice none 0 0],.bool false]) (by simp[results,Tryz.results75,go_sem,y0,y1,y2,y3,y4,y5,y6,y7,aC]) rfl ⟨⟨0,[],0,0,[],[],[],[]⟩,none,0,0,none,0,0,none,0,0,none,0,0,by rw[HDC.out],fun hx=>absurd hx (of_decide_eq_false HDC.out),yB.out,HGY.out,RowsIn.nil _ _ _ _ _ _,RowsIn.nil _ _ _ _ _ _,RowsIn.nil _ _ _ _ _ _,aM.nil _ _ _ _ _⟩
end Go.Proofs.YtpojeinddnjpfaaGreatDoor
