/-
  Walks and plain words (DpF DpG).
-/
import Derived.Test.YtpojeinddnjpfaaGreatDoorM0
import Derived.Test.YtpojeinddnjpfaaGreatDoorM6
import Derived.Test.YtpojeinddnjpfaaGreatDoorM7
import Derived.Test.YtpojeinddnjpfaaGreatDoorM8
namespace Go.Proofs.YtpojeinddnjpfaaGreatDoor
set_option linter.unusedVariables false
open Go.ChangeShapes Go.WideShapes Go.ChangeAt Go.RowKit

set_option maxHeartbeats 16000000 in
set_option maxRecDepth 20000 in
theorem Il {f:Nat} {w0 we:World} {R:Nat} {en:Int × Int} {q:Rd} {nm:List UInt8} {pl pc:Int} {fs ins:Value} {fl:List Fd} {ds:List Dc} {rs:List (List Value)} (h:Dm f w0 we R en q nm pl pc fs ins fl ds rs) (he:q.e=0) (hbd:fl.length≤100000) :
  Calls Tryz.prog 193 #[.pointer (some ⟨R,0,none⟩),.pointer (some ⟨w0.heap.size+1,0,none⟩)] we fun x w'=>∃ (fd:Fd) (fs':Value),x=.returned (.bool (decide ((q.field en).2.e=0)))∧((q.field en).2.e=0→fd=(q.field en).1)∧
   Dm f w0 w' R en (q.field en).2 nm pl pc fs' ins (fl++[fd]) ds rs:=by
 have hlt:=h.lo.lt
 have aRb:=h.lo.size
 have nN:=jI R en q ⟨#[114,101,112,101,97,116,101,100]⟩ we he (by decide) h.lo.rd
 have eR:(ByteArray.mk #[114,101,112,101,97,116,101,100]).data.toList=bO:=rfl
 rw[eR]at nN
 have gK:(if q.is bO=true then q.take en bO else q)=q.skip bO:=by
  unfold Rd.skip
  by_cases hi:q.is bO=true
  ·rw[if_pos hi,if_pos hi];unfold Rd.take;rw[if_pos hi]
  ·rw[if_neg hi,if_neg hi]
 have vB:Hid (q.field en=(⟨q.is bO,((q.skip bO).typ en).1,((q.skip bO).typ en).2.aL,((((q.skip bO).typ en).2.name en).take en [61]).cR,(((q.skip bO).typ en).2.nameP en).1,(((q.skip bO).typ en).2.nameP en).2⟩,(((((q.skip bO).typ en).2.name en).take en [61]).number en).take en [59])):=by
  refine(?_:_=_)
  rw[←gK];rfl
 have aRc:(q.skip bO).e=0:=by
  unfold Rd.skip
  split
  ·exact he
  ·exact he
 obtain⟨jQ,Ec⟩:∃ jQ,q.field en=jQ:=⟨_,rfl⟩
 rw[Ec]at vB ⊢
 have HD0:=aB h
 obtain⟨fa,fc,rfl⟩:=aO h.mY
 obtain⟨rp,Cn⟩:∃ rp,q.is bO=rp:=⟨_,rfl⟩
 rw[Cn]at vB nN
 generalize q.skip bO=q1 at *
 clear Ec eR gK h Cn he
 go_enter Tryz.func193,Tryz.ntmps193
 go_wp2_with fail
 refine nN.mono ?_
 rintro e w5 ⟨rfl,iT,hg5⟩
 have HD5:=aB (HD0.out.step iT hg5)
 have hsz5:=HD5.out.lo.size
 have sB:Hid (Lv w5 (w5.alloc (.cells #[.bool rp,.string ⟨#[]⟩,.string ⟨#[]⟩,.int .i64 0,.int .i64 0,.int .i64 0] 71)) R en q1 w5.heap.size 71 #[.bool rp,.string ⟨#[]⟩,.string ⟨#[]⟩,.int .i64 0,.int .i64 0,.int .i64 0]):=Lv.start w5 w5 iT (World.grownBy.refl _ _) iT.lt 71 #[.bool rp,.string ⟨#[]⟩,.string ⟨#[]⟩,.int .i64 0,.int .i64 0,.int .i64 0]
 clear nN iT hg5
 go_upto_region 2 with fail
 generalize w5.alloc (.cells #[.bool rp,.string ⟨#[]⟩,.string ⟨#[]⟩,.int .i64 0,.int .i64 0,.int .i64 0] 71)=V5 at *
 obtain⟨G,hG⟩:∃ G,w5.heap.size=G:=⟨_,rfl⟩
 rw[hG]at sB ⊢
 go_cut [6] (fun s6 wz=>∃ el:Fd,s6=.bool (decide (jQ.2.e=0))∧(jQ.2.e=0→el=jQ.1)∧Lv w5 wz R en jQ.2 G 71 #[.bool el.rep,.string (aC el.type),.string (aC el.name),.int .i64 el.num,.int .i64 el.line,.int .i64 el.col])
 case first=>
  have kM:=fun W (hW:Lv w5 W R en q1 G 71 #[.bool rp,.string (aC []),.string (aC []),.int .i64 0,.int .i64 0,.int .i64 0])=>Dx hW aRc 1 rfl
  obtain⟨z1,hz1⟩:∃ z,(q1.typ en).1=z:=⟨_,rfl⟩
  rw[hz1]at kM
  obtain⟨x1,hx1⟩:∃ x,(q1.typ en).2=x:=⟨_,rfl⟩
  rw[hx1]at kM
  by_cases hb1:decide (x1.e=0)=true
  ·have e1:x1.e=0:=of_decide_eq_true hb1
   rw[hb1]at kM
   have hC2:=fun W (hW:Lv w5 W R en x1 G 71 #[.bool rp,.string (aC z1),.string (aC []),.int .i64 0,.int .i64 0,.int .i64 0])=>Au hW e1 2 4 (by simp) (by simp) (by decide)
   unfold yX at hC2
   have hE2:=Rd.sI en e1
   obtain⟨x2,hx2⟩:∃ x,x1.name en=x:=⟨_,rfl⟩
   rw[hx2]at hC2 hE2
   by_cases hb2:x1.isName=true
   ·rw[hb2]at hE2
    have e2:x2.e=0:=of_decide_eq_true hE2
    rw[if_pos hb2,hb2]at hC2
    have vC:=fun W (hW:Lv w5 W R en x2 G 71 #[.bool rp,.string (aC z1),.string (aC x1.aL),.int .i64 0,.int .i64 (x1.nameP en).1,.int .i64 (x1.nameP en).2])=>dY hW e2 ⟨#[61]⟩ (by decide)
    have eB3:(ByteArray.mk #[61]).data.toList=[61]:=rfl
    rw[eB3]at vC
    clear eB3
    have Of:=Rd.jP en e2 [61]
    obtain⟨x3,hx3⟩:∃ x,x2.take en [61]=x:=⟨_,rfl⟩
    rw[hx3]at vC Of
    by_cases hb3:x2.is [61]=true
    ·rw[hb3]at Of
     have e3:x3.e=0:=of_decide_eq_true Of
     rw[hb3]at vC
     have Cm:=fun W (hW:Lv w5 W R en x3 G 71 #[.bool rp,.string (aC z1),.string (aC x1.aL),.int .i64 0,.int .i64 (x1.nameP en).1,.int .i64 (x1.nameP en).2])=>Dv hW e3 3 (by simp)
     unfold uX at Cm
     have Md:=Rd.Dj en e3
     obtain⟨x4,hx4⟩:∃ x,x3.number en=x:=⟨_,rfl⟩
     rw[hx4]at Cm Md
     by_cases hb4:x3.isNum=true
     ·rw[hb4]at Md
      have e4:x4.e=0:=of_decide_eq_true Md
      rw[if_pos hb4,hb4]at Cm
      have Yd:=fun W (hW:Lv w5 W R en x4 G 71 #[.bool rp,.string (aC z1),.string (aC x1.aL),.int .i64 x3.cR,.int .i64 (x1.nameP en).1,.int .i64 (x1.nameP en).2])=>dY hW e4 ⟨#[59]⟩ (by decide)
      have eB5:(ByteArray.mk #[59]).data.toList=[59]:=rfl
      rw[eB5]at Yd
      clear eB5
      have hE5:=Rd.jP en e4 [59]
      obtain⟨x5,hx5⟩:∃ x,x4.take en [59]=x:=⟨_,rfl⟩
      rw[hx5]at Yd hE5
      go_wp2_with fail
      refine(kM _ sB.out).mono ?_
      rintro e v1 ⟨y1,rfl,hy1,l1⟩
      rw[hy1 e1]at l1
      have l1:Lv w5 v1 R en x1 G 71 #[.bool rp,.string (aC z1),.string (aC []),.int .i64 0,.int .i64 0,.int .i64 0]:=l1
      go_wp2_with fail
      refine(hC2 _ l1).mono ?_
      rintro e v2 ⟨rfl,l2⟩
      have l2:Lv w5 v2 R en x2 G 71 #[.bool rp,.string (aC z1),.string (aC x1.aL),.int .i64 0,.int .i64 (x1.nameP en).1,.int .i64 (x1.nameP en).2]:=l2
      go_wp2_with fail
      refine(vC _ l2).mono ?_
      rintro e v3 ⟨rfl,l3⟩
      have l3:Lv w5 v3 R en x3 G 71 #[.bool rp,.string (aC z1),.string (aC x1.aL),.int .i64 0,.int .i64 (x1.nameP en).1,.int .i64 (x1.nameP en).2]:=l3
      go_wp2_with fail
      refine(Cm _ l3).mono ?_
      rintro e v4 ⟨rfl,l4⟩
      have l4:Lv w5 v4 R en x4 G 71 #[.bool rp,.string (aC z1),.string (aC x1.aL),.int .i64 x3.cR,.int .i64 (x1.nameP en).1,.int .i64 (x1.nameP en).2]:=l4
      go_wp2_with fail
      refine(Yd _ l4).mono ?_
      rintro e v5 ⟨rfl,l5⟩
      have l5:Lv w5 v5 R en x5 G 71 #[.bool rp,.string (aC z1),.string (aC x1.aL),.int .i64 x3.cR,.int .i64 (x1.nameP en).1,.int .i64 (x1.nameP en).2]:=l5
      go_wp2_with fail
      go_meet
      have hVV:jQ=(⟨rp,z1,x1.aL,x3.cR,(x1.nameP en).1,(x1.nameP en).2⟩,x5):=by rw[vB.out,hz1,hx1,hx2,hx3,hx4,hx5]
      have hV2:jQ.2=x5:=by rw[hVV]
      have hV1:jQ.1=⟨rp,z1,x1.aL,x3.cR,(x1.nameP en).1,(x1.nameP en).2⟩:=by rw[hVV]
      exact⟨⟨rp,z1,x1.aL,x3.cR,(x1.nameP en).1,(x1.nameP en).2⟩,by rw[hV2];exact congrArg Value.bool hE5.symm,fun _=>hV1.symm,by rw[hV2];exact l5⟩
     ·have Tc:(x3.isNum)=false:=by simpa using hb4
      rw[Tc]at Md
      have n4:x4.e≠0:=of_decide_eq_false Md
      rw[if_neg hb4,Tc]at Cm
      go_wp2_with fail
      refine(kM _ sB.out).mono ?_
      rintro e v1 ⟨y1,rfl,hy1,l1⟩
      rw[hy1 e1]at l1
      have l1:Lv w5 v1 R en x1 G 71 #[.bool rp,.string (aC z1),.string (aC []),.int .i64 0,.int .i64 0,.int .i64 0]:=l1
      go_wp2_with fail
      refine(hC2 _ l1).mono ?_
      rintro e v2 ⟨rfl,l2⟩
      have l2:Lv w5 v2 R en x2 G 71 #[.bool rp,.string (aC z1),.string (aC x1.aL),.int .i64 0,.int .i64 (x1.nameP en).1,.int .i64 (x1.nameP en).2]:=l2
      go_wp2_with fail
      refine(vC _ l2).mono ?_
      rintro e v3 ⟨rfl,l3⟩
      have l3:Lv w5 v3 R en x3 G 71 #[.bool rp,.string (aC z1),.string (aC x1.aL),.int .i64 0,.int .i64 (x1.nameP en).1,.int .i64 (x1.nameP en).2]:=l3
      go_wp2_with fail
      refine(Cm _ l3).mono ?_
      rintro e v4 ⟨rfl,l4⟩
      have l4:Lv w5 v4 R en x4 G 71 #[.bool rp,.string (aC z1),.string (aC x1.aL),.int .i64 0,.int .i64 (x1.nameP en).1,.int .i64 (x1.nameP en).2]:=l4
      go_wp2_with fail
      go_meet
      have hV2:jQ.2=x4:=by rw[vB.out];show ((((q1.typ en).2.name en).take en [61]).number en).take en [59]=_;rw[hx1,hx2,hx3,hx4,Rd.aP en n4]
      exact⟨⟨rp,z1,x1.aL,0,(x1.nameP en).1,(x1.nameP en).2⟩,by rw[hV2];exact congrArg Value.bool (decide_eq_false n4).symm,fun h=>absurd (hV2▸h) n4,by rw[hV2];exact l4⟩
    ·have Ed:(x2.is [61])=false:=by simpa using hb3
     rw[Ed]at Of
     have n3:x3.e≠0:=of_decide_eq_false Of
     rw[Ed]at vC
     go_wp2_with fail
     refine(kM _ sB.out).mono ?_
     rintro e v1 ⟨y1,rfl,hy1,l1⟩
     rw[hy1 e1]at l1
     have l1:Lv w5 v1 R en x1 G 71 #[.bool rp,.string (aC z1),.string (aC []),.int .i64 0,.int .i64 0,.int .i64 0]:=l1
     go_wp2_with fail
     refine(hC2 _ l1).mono ?_
     rintro e v2 ⟨rfl,l2⟩
     have l2:Lv w5 v2 R en x2 G 71 #[.bool rp,.string (aC z1),.string (aC x1.aL),.int .i64 0,.int .i64 (x1.nameP en).1,.int .i64 (x1.nameP en).2]:=l2
     go_wp2_with fail
     refine(vC _ l2).mono ?_
     rintro e v3 ⟨rfl,l3⟩
     have l3:Lv w5 v3 R en x3 G 71 #[.bool rp,.string (aC z1),.string (aC x1.aL),.int .i64 0,.int .i64 (x1.nameP en).1,.int .i64 (x1.nameP en).2]:=l3
     go_wp2_with fail
     go_meet
     have hV2:jQ.2=x3:=by rw[vB.out];show ((((q1.typ en).2.name en).take en [61]).number en).take en [59]=_;rw[hx1,hx2,hx3,Rd.iK en n3,Rd.aP en n3]
     exact⟨⟨rp,z1,x1.aL,0,(x1.nameP en).1,(x1.nameP en).2⟩,by rw[hV2];exact congrArg Value.bool (decide_eq_false n3).symm,fun h=>absurd (hV2▸h) n3,by rw[hV2];exact l3⟩
   ·have Ee:(x1.isName)=false:=by simpa using hb2
    rw[Ee]at hE2
    have n2:x2.e≠0:=of_decide_eq_false hE2
    rw[if_neg hb2,Ee]at hC2
    go_wp2_with fail
    refine(kM _ sB.out).mono ?_
    rintro e v1 ⟨y1,rfl,hy1,l1⟩
    rw[hy1 e1]at l1
    have l1:Lv w5 v1 R en x1 G 71 #[.bool rp,.string (aC z1),.string (aC []),.int .i64 0,.int .i64 0,.int .i64 0]:=l1
    go_wp2_with fail
    refine(hC2 _ l1).mono ?_
    rintro e v2 ⟨rfl,l2⟩
    have l2:Lv w5 v2 R en x2 G 71 #[.bool rp,.string (aC z1),.string (aC []),.int .i64 0,.int .i64 0,.int .i64 0]:=l2
    go_wp2_with fail
    go_meet
    have hV2:jQ.2=x2:=by rw[vB.out];show ((((q1.typ en).2.name en).take en [61]).number en).take en [59]=_;rw[hx1,hx2,Rd.aP en n2,Rd.iK en n2,Rd.aP en n2]
    exact⟨⟨rp,z1,[],0,0,0⟩,by rw[hV2];exact congrArg Value.bool (decide_eq_false n2).symm,fun h=>absurd (hV2▸h) n2,by rw[hV2];exact l2⟩
  ·have Ef:(decide (x1.e=0))=false:=by simpa using hb1
   have n1:x1.e≠0:=of_decide_eq_false Ef
   rw[Ef]at kM
   go_wp2_with fail
   refine(kM _ sB.out).mono ?_
   rintro e v1 ⟨y1,rfl,hy1,l1⟩
   have l1:Lv w5 v1 R en x1 G 71 #[.bool rp,.string (aC y1),.string (aC []),.int .i64 0,.int .i64 0,.int .i64 0]:=l1
   go_wp2_with fail
   go_meet
   have hV2:jQ.2=x1:=by rw[vB.out];show ((((q1.typ en).2.name en).take en [61]).number en).take en [59]=_;rw[hx1,Rd.lF en n1,Rd.aP en n1,Rd.iK en n1,Rd.aP en n1]
   exact⟨⟨rp,y1,[],0,0,0⟩,by rw[hV2];exact congrArg Value.bool (decide_eq_false n1).symm,fun h=>absurd (hV2▸h) n1,by rw[hV2];exact l1⟩
 case rest=>
  obtain⟨el,rfl,hel,hLz⟩:=hcut
  generalize wc=W8 at *
  have HEL:=aB hel
  have hDB:=HD5.out.step hLz.rd hLz.gr
  have Oi:=hDB.drew
  have gA:W8.heap[G]? = some (.cells #[.bool el.rep,.string (aC el.type),.string (aC el.name),.int .i64 el.num,.int .i64 el.line,.int .i64 el.col] 71 (0,0)):=hLz.loc
  have gB:∀ ob,(W8.alloc ob).heap[G]? = some (.cells #[.bool el.rep,.string (aC el.type),.string (aC el.name),.int .i64 el.num,.int .i64 el.line,.int .i64 el.col] 71 (0,0)):=fun ob=>by
   rw[aD _ _ _ hLz.size];exact gA
  have p0:=aA gA 0 rfl
  have s0:∀ ob,(W8.alloc ob).cell? ⟨G,0,none⟩=some (.bool el.rep):=fun ob=>by simp[World.cell?,gB ob]
  have p1:=aA gA 1 rfl
  have s1:∀ ob,(W8.alloc ob).cell? ⟨G,1,none⟩=some (.string (aC el.type)):=fun ob=>by simp[World.cell?,gB ob]
  have p2:=aA gA 2 rfl
  have s2:∀ ob,(W8.alloc ob).cell? ⟨G,2,none⟩=some (.string (aC el.name)):=fun ob=>by simp[World.cell?,gB ob]
  have p3:=aA gA 3 rfl
  have s3:∀ ob,(W8.alloc ob).cell? ⟨G,3,none⟩=some (.int .i64 el.num):=fun ob=>by simp[World.cell?,gB ob]
  have p4:=aA gA 4 rfl
  have s4:∀ ob,(W8.alloc ob).cell? ⟨G,4,none⟩=some (.int .i64 el.line):=fun ob=>by simp[World.cell?,gB ob]
  have p5:=aA gA 5 rfl
  have s5:∀ ob,(W8.alloc ob).cell? ⟨G,5,none⟩=some (.int .i64 el.col):=fun ob=>by simp[World.cell?,gB ob]
  have d4:=hDB.lo.cV.1.2.2.2.2.1
  have d4a:=fun ob=>(hDB.alloc ob).lo.cV.1.2.2.2.2.1
  clear hDB
  clear hel hLz gA gB sB vB HD0 HD5
  go_wp2_with fail
  go_region_law (
   (refine Oi.aJo el rfl _ _ rfl _ rfl rfl rfl (by omega) ?_;intro g cap W6 vY uJ;have hc8:=(vY _ Oi.lo).cV.1.2.2.2.2.1;have hf8:=(vY _ Oi.lo).cV.2.2.2 4;clear vY;dsimp only))
  all_goals
   have Ro:=aB uJ
   clear uJ
   go_wp2_with fail
   go_ret
   exact⟨el,_,rfl,HEL.out,Ro.out⟩
def Oj (en:Int × Int) (k:Nat) (R:Nat) (w:World) (a:Dc × Rd) (x:Ending) (w':World):Prop:=
 ∃ (d:Dc) (fa:Option Addr) (fn fc:Nat) (va:Option Addr) (vn vc:Nat) (ma:Option Addr) (mn mc:Nat) (ia:Option Addr) (inn ic:Nat),
  x=.returned (.tuple #[.agg #[.int .i64 d.kind,.string (aC d.name),.int .i64 d.line,.int .i64 d.col,.slice fa fn fc,.slice va vn vc,.slice ma mn mc,.slice ia inn ic],.bool (decide (a.2.e=0))])∧
  (a.2.e=0→d=a.1)∧bW w' R en a.2∧w.grownBy w' (some R)∧Kids k w' (fun b=>w.heap.size+2≤b∧b<w'.heap.size) (.slice fa fn fc) (.slice va vn vc) (.slice ma mn mc) (.slice ia inn ic) d
theorem vZ (R:Nat) (en:Int × Int) (r:Rd) (w:World) (he:r.e=0) (h:bW w R en r) (k:Nat) :
  Calls Tryz.prog 117 #[.pointer (some ⟨R,0,none⟩)] w fun x w'=>Oj en k R w (r.enum en) x w':=by
 refine(Oh R en r w he h).mono ?_
 rintro e w' ⟨nm,pl,pc,acc,vs,rfl,hd,hr,hg,hown⟩
 obtain⟨va,vc,rfl⟩:=aO hown
 exact⟨⟨2,nm,pl,pc,[],acc,[],[]⟩,none,0,0,va,acc.length,vc,none,0,0,none,0,0,rfl,fun hx=>(hd hx).symm,hr,hg,RowsIn.nil _ _ _ _ _ _,gZ (k:=4) (row:=sJ) (fun _=>rfl) hown _ (fun b hb=>aE hown b hb),RowsIn.nil _ _ _ _ _ _,aM.nil _ _ _ _ _⟩
theorem xY (R:Nat) (en:Int × Int) (r:Rd) (w:World) (he:r.e=0) (h:bW w R en r) (k:Nat) :
  Calls Tryz.prog 118 #[.pointer (some ⟨R,0,none⟩)] w fun x w'=>Oj en k R w (r.service en) x w':=by
 refine(Av R en r w he h).mono ?_
 rintro e w' ⟨nm,pl,pc,acc,vs,rfl,hd,hr,hg,hown⟩
 obtain⟨va,vc,rfl⟩:=aO hown
 exact⟨⟨3,nm,pl,pc,[],[],acc,[]⟩,none,0,0,none,0,0,va,acc.length,vc,none,0,0,rfl,fun hx=>(hd hx).symm,hr,hg,RowsIn.nil _ _ _ _ _ _,RowsIn.nil _ _ _ _ _ _,gZ (k:=5) (row:=sK) (fun _=>rfl) hown _ (fun b hb=>aE hown b hb),aM.nil _ _ _ _ _⟩
def gW (en:Int × Int) (msg:Rd→Dc × Rd) (q:Rd) (fl:List Fd) (ds:List Dc):(List Fd × List Dc) × Rd:=
 if q.is bA=true then ((fl,ds++[(msg q).1]),(msg q).2) else if q.is cZ=true then ((fl,ds++[(q.enum en).1]),(q.enum en).2) else ((fl++[(q.field en).1],ds),(q.field en).2)
theorem Im (en:Int × Int) (msg:Rd→Dc × Rd) (f:Nat) (r:Rd) (fs:List Fd) (ds:List Dc) (h:r.e=0∧r.is [125]=false):fN en msg (f+1) r fs ds=fN en msg f (gW en msg r fs ds).2 (gW en msg r fs ds).1.1 (gW en msg r fs ds).1.2:=by
 rw[Sk en msg f r fs ds h]
 unfold gW
 split
 ·rfl
 ·split <;> rfl
theorem jJ {W:World} {I:Nat} {T:TypeId} (h:W.heap[I]? = some (.cells z8 T (0,0))) (x0 x1 x2 x3 x4 x5 x6 x7:Value):(S8 W I 0 x0 x1 x2 x3 x4 x5 x6 x7).heap[I]? = some (.cells #[x0,x1,x2,x3,x4,x5,x6,x7] T (0,0)):=by
 have:=aDn h x0 x1 x2 x3 x4 x5 x6 x7
 exact this
theorem dL (W:World) (a i b j:Nat) (x y:Value) (h:a≠b):(W.setCell ⟨a,i,none⟩ x).setCell ⟨b,j,none⟩ y=(W.setCell ⟨b,j,none⟩ y).setCell ⟨a,i,none⟩ x:=by
 unfold World.setCell
 congr 1
 apply Array.ext_getElem?
 intro k
 simp only[Array.getElem?_modify]
 by_cases h1:a=k
 ·by_cases h2:b=k
  ·omega
  ·simp[h1,h2]
 ·by_cases h2:b=k
  ·simp[h1,h2]
  ·simp[h1,h2]
theorem Me {P:World→Prop} {W:World} {g D:Nat} {m j:Nat} {x0 x1 x2 x3 x4 x5 x6 x7 y:Value} (h:g≠D) (hP:P ((S8 W g m x0 x1 x2 x3 x4 x5 x6 x7).setCell ⟨D,j,none⟩ y)):P (S8 (W.setCell ⟨D,j,none⟩ y) g m x0 x1 x2 x3 x4 x5 x6 x7):=by
 unfold S8 at *
 rw[dL _ g _ D _ _ _ h,dL _ g _ D _ _ _ h,dL _ g _ D _ _ _ h,dL _ g _ D _ _ _ h,dL _ g _ D _ _ _ h,dL _ g _ D _ _ _ h,dL _ g _ D _ _ _ h,dL _ g _ D _ _ _ h]at hP
 exact hP
theorem oT {we W5:World} {I R:Nat} {o:Obj} (hI:we.heap.size≤I) (hg:we.grownBy W5 (some R)) (x0 x1 x2 x3 x4 x5 x6 x7:Value):we.grownBy (S8 W5 I 0 x0 x1 x2 x3 x4 x5 x6 x7) (some R):=
 cT hg (Dy _ _ _ _ _ _ _ _ _ _ _) (fun b hb=>by cases hb;exact .inl hI)
set_option maxHeartbeats 16000000 in
set_option maxRecDepth 20000 in
theorem Eg {f:Nat} {w0 we:World} {R:Nat} {en:Int × Int} {q:Rd} {nm:List UInt8} {pl pc:Int} {fs ins:Value} {fl:List Fd} {ds:List Dc} {rs:List (List Value)} (h:Dm f w0 we R en q nm pl pc fs ins fl ds rs) (he:q.e=0) (hbd:fl.length≤100000) (bCk:ds.length≤100000)
  (msg:Rd→Dc × Rd) (depth:Nat) (hdp:depth≤100) (Zk:∀ W,bW W R en q→Calls Tryz.prog 116 #[.pointer (some ⟨R,0,none⟩),.int .i64 ((depth+1:Nat):Int)] W fun x w'=>Oj en f R W (msg q) x w') :
  Calls Tryz.prog 160 #[.pointer (some ⟨R,0,none⟩),.pointer (some ⟨w0.heap.size+1,0,none⟩),.int .i64 (depth:Int)] we fun x w'=>∃ (fl':List Fd) (ds':List Dc) (rs':List (List Value)) (fs' ins':Value),x=.returned (.bool (decide ((gW en msg q fl ds).2.e=0)))∧
   ((gW en msg q fl ds).2.e=0→fl'=(gW en msg q fl ds).1.1∧ds'=(gW en msg q fl ds).1.2)∧fl'.length+ds'.length=fl.length+ds.length+1∧Dm f w0 w' R en (gW en msg q fl ds).2 nm pl pc fs' ins' fl' ds' rs':=by
 have hlt:=h.lo.lt
 have aRb:=h.lo.size
 have HD0:=aB h
 have HI0:=aB (alloc_heap_new we (.cells z8 69))
 have hTx:=jH R en q (we.alloc (.cells z8 69)) (h.lo.rd.alloc _)
 have Mf:=aB (h.lo.rd.alloc (.cells z8 69))
 have iM:=Rd.oR (t:=bA) he (by decide)
 have iE:=Rd.oR (t:=cZ) he (by decide)
 have hwr:IntKind.i64.wrap ((depth:Int)+1)=((depth+1:Nat):Int):=by rw[IntKind.wrap_i64];omega
 obtain⟨fa0,fc0,rfl⟩:=aO h.mY
 obtain⟨ia0,ic0,rfl⟩:=aO h.decls.own
 have Zl:Hid (∀ b,(Value.slice fa0 fl.length fc0).ownBlock=some b→b<we.heap.size):=fun b hb=>(aE h.mY b hb).2
 have HIO:Hid (∀ b,(Value.slice ia0 ds.length ic0).ownBlock=some b→b<we.heap.size):=fun b hb=>(aE h.decls.own b hb).2
 have Mg:Hid (we.grownBy (we.alloc (.cells z8 69)) (some R)):=World.grownBy_alloc we _ _
 have hsI:(we.alloc (.cells z8 69)).heap.size=we.heap.size+1:=by simp
 by_cases hM:q.is bA=true
 ·have b0:((aC q.text).toList == [109,101,115,115,97,103,101])=true:=by rw[aH,←iM];exact hM
  have fO:=Zk
  have hST:gW en msg q fl ds=((fl,ds++[(msg q).1]),(msg q).2):=by unfold gW;rw[if_pos hM]
  clear hM iM iE Zk
  generalize q.text=tx at *
  obtain⟨CH,hCH⟩:∃ CH,msg q=CH:=⟨_,rfl⟩
  rw[hCH]at fO hST
  have HST:=aB hST
  clear hCH hST h
  go_enter Tryz.func160,Tryz.ntmps160
  go_wp2_with fail
  refine hTx.mono ?_
  rintro e w9 ⟨rfl,h9⟩
  have h9:=h9.symm
  subst h9
  clear hTx
  go_wp2_with fail
  refine(fO _ Mf.out).mono ?_
  generalize we.alloc (.cells z8 69)=V at *
  rintro e W5 ⟨d,fa,fn,fc,va,vn,vc,ma,mn,mc,ia,inn,ic,rfl,hd,iT,hg5,iW⟩
  have dF:=hg5.size
  have wA:=aB (mS HI0.out hg5 (by omega))
  have Co:=aB (jJ wA.out (.int .i64 d.kind) (.string (aC d.name)) (.int .i64 d.line) (.int .i64 d.col) (.slice fa fn fc) (.slice va vn vc) (.slice ma mn mc) (.slice ia inn ic))
  have hgY:we.grownBy (S8 W5 we.heap.size 0 (.int .i64 d.kind) (.string (aC d.name)) (.int .i64 d.line) (.int .i64 d.col) (.slice fa fn fc) (.slice va vn vc) (.slice ma mn mc) (.slice ia inn ic)) (some R):=oT (o:=.cells z8 69) (Nat.le_refl _) (Mg.out.trans hg5) _ _ _ _ _ _ _ _
  have hrY:bW (S8 W5 we.heap.size 0 (.int .i64 d.kind) (.string (aC d.name)) (.int .i64 d.line) (.int .i64 d.col) (.slice fa fn fc) (.slice va vn vc) (.slice ma mn mc) (.slice ia inn ic)) R en CH.2:=iT.old fun k hk=>fT _ _ _ _ _ _ _ _ _ _ _ k (by omega)
  have Mh:=aB (HD0.out.step hrY hgY)
  have eO:Hid (Kids f (S8 W5 we.heap.size 0 (.int .i64 d.kind) (.string (aC d.name)) (.int .i64 d.line) (.int .i64 d.col) (.slice fa fn fc) (.slice va vn vc) (.slice ma mn mc) (.slice ia inn ic)) (pN w0 (S8 W5 we.heap.size 0 (.int .i64 d.kind) (.string (aC d.name)) (.int .i64 d.line) (.int .i64 d.col) (.slice fa fn fc) (.slice va vn vc) (.slice ma mn mc) (.slice ia inn ic)) (.slice fa0 fl.length fc0) (.slice ia0 ds.length ic0)) (.slice fa fn fc) (.slice va vn vc) (.slice ma mn mc) (.slice ia inn ic) d):=by
   refine(?_:Kids _ _ _ _ _ _ _ _)
   refine(iW.old fun b hb=>fT _ _ _ _ _ _ _ _ _ _ _ b (by have:=hb.1;omega)).more fun b hb=>⟨by have:=hb.1;omega,by rw[oS];exact hb.2,fun e=>by have:=Zl.out b e;have:=hb.1;omega,fun e=>by have:=HIO.out b e;have:=hb.1;omega⟩
  have lI:=aB hd
  have i5:=wA.out
  obtain⟨c0,c1,c2,c3,c4,c5,c6,c7,hfz⟩:W5.cell? ⟨we.heap.size,0,none⟩=some (.int .i64 0)∧W5.cell? ⟨we.heap.size,1,none⟩=some (.string ⟨#[]⟩)∧W5.cell? ⟨we.heap.size,2,none⟩=some (.int .i64 0)∧W5.cell? ⟨we.heap.size,3,none⟩=some (.int .i64 0)∧W5.cell? ⟨we.heap.size,4,none⟩=some (.slice none 0 0)∧W5.cell? ⟨we.heap.size,5,none⟩=some (.slice none 0 0)∧W5.cell? ⟨we.heap.size,6,none⟩=some (.slice none 0 0)∧W5.cell? ⟨we.heap.size,7,none⟩=some (.slice none 0 0)∧∀ j,W5.frozen? ⟨we.heap.size,j,none⟩=false:=by
   refine⟨?_,?_,?_,?_,?_,?_,?_,?_,?_⟩
   all_goals simp[World.cell?,World.frozen?,i5]
  have rD:=hfz 0
  have rE:=hfz 1
  have Td:=hfz 2
  have Te:=hfz 3
  have Tf:=hfz 4
  have Tg:=hfz 5
  have Th:=hfz 6
  have Ti:=hfz 7
  clear fO iT hg5 iW hgY hrY hd i5 hfz wA Mf HI0 Mg
  go_upto_region 9 with fail
  clear c0 c1 c2 c3 c4 c5 c6 c7 rD rE Td Te Tf Tg Th Ti
  change Code.wp _ _ _ _ (S8 W5 we.heap.size 0 (.int .i64 d.kind) (.string (aC d.name)) (.int .i64 d.line) (.int .i64 d.col) (.slice fa fn fc) (.slice va vn vc) (.slice ma mn mc) (.slice ia inn ic))
  generalize S8 W5 we.heap.size 0 (.int .i64 d.kind) (.string (aC d.name)) (.int .i64 d.line) (.int .i64 d.col) (.slice fa fn fc) (.slice va vn vc) (.slice ma mn mc) (.slice ia inn ic)=Y at *
  obtain⟨I,hI⟩:∃ I,we.heap.size=I:=⟨_,rfl⟩
  rw[hI]at Co ⊢
  have s8:=Co.out
  have hIY:I<Y.heap.size:=(Array.getElem?_eq_some_iff.1 s8).1
  have Aw:∀ ob,(Y.alloc ob).heap[I]? = some (.cells #[.int .i64 d.kind,.string (aC d.name),.int .i64 d.line,.int .i64 d.col,.slice fa fn fc,.slice va vn vc,.slice ma mn mc,.slice ia inn ic] 69 (0,0)):=fun ob=>by rw[aD _ _ _ hIY];exact s8
  have p0:=aA s8 0 rfl
  have q0:∀ ob,(Y.alloc ob).cell? ⟨I,0,none⟩=some (.int .i64 d.kind):=fun ob=>by simp[World.cell?,Aw ob]
  have p1:=aA s8 1 rfl
  have q1:∀ ob,(Y.alloc ob).cell? ⟨I,1,none⟩=some (.string (aC d.name)):=fun ob=>by simp[World.cell?,Aw ob]
  have p2:=aA s8 2 rfl
  have q2:∀ ob,(Y.alloc ob).cell? ⟨I,2,none⟩=some (.int .i64 d.line):=fun ob=>by simp[World.cell?,Aw ob]
  have p3:=aA s8 3 rfl
  have q3:∀ ob,(Y.alloc ob).cell? ⟨I,3,none⟩=some (.int .i64 d.col):=fun ob=>by simp[World.cell?,Aw ob]
  have p4:=aA s8 4 rfl
  have q4:∀ ob,(Y.alloc ob).cell? ⟨I,4,none⟩=some (.slice fa fn fc):=fun ob=>by simp[World.cell?,Aw ob]
  have p5:=aA s8 5 rfl
  have q5:∀ ob,(Y.alloc ob).cell? ⟨I,5,none⟩=some (.slice va vn vc):=fun ob=>by simp[World.cell?,Aw ob]
  have p6:=aA s8 6 rfl
  have q6:∀ ob,(Y.alloc ob).cell? ⟨I,6,none⟩=some (.slice ma mn mc):=fun ob=>by simp[World.cell?,Aw ob]
  have p7:=aA s8 7 rfl
  have q7:∀ ob,(Y.alloc ob).cell? ⟨I,7,none⟩=some (.slice ia inn ic):=fun ob=>by simp[World.cell?,Aw ob]
  have d7:=Mh.out.lo.cV.1.2.2.2.2.2.2.2
  have d7a:=fun ob=>(Mh.out.alloc ob).lo.cV.1.2.2.2.2.2.2.2
  have Oi:=Mh.out.drew
  have hKA:Kids f Y.drew (pN w0 Y.drew (.slice fa0 fl.length fc0) (.slice ia0 ds.length ic0)) (.slice fa fn fc) (.slice va vn vc) (.slice ma mn mc) (.slice ia inn ic) d:=(eO.out.old (w':=Y.drew) (fun _ _=>rfl)).more fun b hb=>hb
  have hix:(ds.length:Int)<(ds.length:Int)+1:=by omega
  clear s8 Aw Co Mh HD0
  go_region_law (
   (refine Oi.aCi d _ _ _ _ hKA rfl _ _ rfl rfl rfl (by omega) ?_;intro g cap W6 vY In hg6 uJ;obtain⟨⟨z0,z1,z2,z3,z4,z5,z6,z7⟩,Ax⟩:=In;have hc8:=(vY _ Oi.lo).cV.1.2.2.2.2.2.2.2;have hf8:=(vY _ Oi.lo).cV.2.2.2 7;clear vY;have n1:g≠w0.heap.size+1:=(by omega);have n2:w0.heap.size+1≠g:=(by omega);have g0:=Ax (ds.length*8);have g1:=Ax (ds.length*8+1);have g2:=Ax (ds.length*8+2);have g3:=Ax (ds.length*8+3);have g4:=Ax (ds.length*8+4);have g5:=Ax (ds.length*8+5);have g6:=Ax (ds.length*8+6);have g7:=Ax (ds.length*8+7);clear Ax;have Ip:=Me (P:=fun V=>Dm f w0 V R en CH.2 nm pl pc (.slice fa0 fl.length fc0) (.slice (some ⟨g,0,none⟩) (ds.length+1) cap) fl (ds++[d]) (rs++[eZ d (.slice fa fn fc) (.slice va vn vc) (.slice ma mn mc) (.slice ia inn ic)])) n1 uJ;unfold S8 at uJ Ip;have Ro:=aB uJ;have HL7:=aB Ip;clear uJ Ip;dsimp only))
  all_goals
   clear Oi hKA
   go_wp2_with fail
   go_ret
   refine⟨fl,ds++[d],_,_,_,by rw[HST.out];rfl,fun hx=>?_,by simp;omega,by rw[HST.out];first | with_reducible exact Ro.out | with_reducible exact HL7.out⟩
   rw[HST.out]at hx ⊢
   exact⟨rfl,by rw[lI.out hx]⟩
 ·have hM':q.is bA=false:=by simpa using hM
  have b0:((aC q.text).toList == [109,101,115,115,97,103,101])=false:=by rw[aH,←iM];exact hM'
  by_cases hX:q.is cZ=true
  ·have b1:((aC q.text).toList == [101,110,117,109])=true:=by rw[aH,←iE];exact hX
   have fO:=fun W hW=>vZ R en q W he hW f
   have hST:gW en msg q fl ds=((fl,ds++[(q.enum en).1]),(q.enum en).2):=by unfold gW;rw[if_neg hM,if_pos hX]
   clear hM hM' hX iM iE Zk
   generalize q.text=tx at *
   obtain⟨CH,hCH⟩:∃ CH,q.enum en=CH:=⟨_,rfl⟩
   rw[hCH]at fO hST
   have HST:=aB hST
   clear hCH hST h
   go_enter Tryz.func160,Tryz.ntmps160
   go_wp2_with fail
   refine hTx.mono ?_
   rintro e w9 ⟨rfl,h9⟩
   have h9:=h9.symm
   subst h9
   clear hTx
   go_wp2_with fail
   refine(fO _ Mf.out).mono ?_
   generalize we.alloc (.cells z8 69)=V at *
   rintro e W5 ⟨d,fa,fn,fc,va,vn,vc,ma,mn,mc,ia,inn,ic,rfl,hd,iT,hg5,iW⟩
   have dF:=hg5.size
   have wA:=aB (mS HI0.out hg5 (by omega))
   have Co:=aB (jJ wA.out (.int .i64 d.kind) (.string (aC d.name)) (.int .i64 d.line) (.int .i64 d.col) (.slice fa fn fc) (.slice va vn vc) (.slice ma mn mc) (.slice ia inn ic))
   have hgY:we.grownBy (S8 W5 we.heap.size 0 (.int .i64 d.kind) (.string (aC d.name)) (.int .i64 d.line) (.int .i64 d.col) (.slice fa fn fc) (.slice va vn vc) (.slice ma mn mc) (.slice ia inn ic)) (some R):=oT (o:=.cells z8 69) (Nat.le_refl _) (Mg.out.trans hg5) _ _ _ _ _ _ _ _
   have hrY:bW (S8 W5 we.heap.size 0 (.int .i64 d.kind) (.string (aC d.name)) (.int .i64 d.line) (.int .i64 d.col) (.slice fa fn fc) (.slice va vn vc) (.slice ma mn mc) (.slice ia inn ic)) R en CH.2:=iT.old fun k hk=>fT _ _ _ _ _ _ _ _ _ _ _ k (by omega)
   have Mh:=aB (HD0.out.step hrY hgY)
   have eO:Hid (Kids f (S8 W5 we.heap.size 0 (.int .i64 d.kind) (.string (aC d.name)) (.int .i64 d.line) (.int .i64 d.col) (.slice fa fn fc) (.slice va vn vc) (.slice ma mn mc) (.slice ia inn ic)) (pN w0 (S8 W5 we.heap.size 0 (.int .i64 d.kind) (.string (aC d.name)) (.int .i64 d.line) (.int .i64 d.col) (.slice fa fn fc) (.slice va vn vc) (.slice ma mn mc) (.slice ia inn ic)) (.slice fa0 fl.length fc0) (.slice ia0 ds.length ic0)) (.slice fa fn fc) (.slice va vn vc) (.slice ma mn mc) (.slice ia inn ic) d):=by
    refine(?_:Kids _ _ _ _ _ _ _ _)
    refine(iW.old fun b hb=>fT _ _ _ _ _ _ _ _ _ _ _ b (by have:=hb.1;omega)).more fun b hb=>⟨by have:=hb.1;omega,by rw[oS];exact hb.2,fun e=>by have:=Zl.out b e;have:=hb.1;omega,fun e=>by have:=HIO.out b e;have:=hb.1;omega⟩
   have lI:=aB hd
   have i5:=wA.out
   obtain⟨c0,c1,c2,c3,c4,c5,c6,c7,hfz⟩:W5.cell? ⟨we.heap.size,0,none⟩=some (.int .i64 0)∧W5.cell? ⟨we.heap.size,1,none⟩=some (.string ⟨#[]⟩)∧W5.cell? ⟨we.heap.size,2,none⟩=some (.int .i64 0)∧W5.cell? ⟨we.heap.size,3,none⟩=some (.int .i64 0)∧W5.cell? ⟨we.heap.size,4,none⟩=some (.slice none 0 0)∧W5.cell? ⟨we.heap.size,5,none⟩=some (.slice none 0 0)∧W5.cell? ⟨we.heap.size,6,none⟩=some (.slice none 0 0)∧W5.cell? ⟨we.heap.size,7,none⟩=some (.slice none 0 0)∧∀ j,W5.frozen? ⟨we.heap.size,j,none⟩=false:=by
    refine⟨?_,?_,?_,?_,?_,?_,?_,?_,?_⟩
    all_goals simp[World.cell?,World.frozen?,i5]
   have rD:=hfz 0
   have rE:=hfz 1
   have Td:=hfz 2
   have Te:=hfz 3
   have Tf:=hfz 4
   have Tg:=hfz 5
   have Th:=hfz 6
   have Ti:=hfz 7
   clear fO iT hg5 iW hgY hrY hd i5 hfz wA Mf HI0 Mg
   go_upto_region 9 with fail
   clear c0 c1 c2 c3 c4 c5 c6 c7 rD rE Td Te Tf Tg Th Ti
   change Code.wp _ _ _ _ (S8 W5 we.heap.size 0 (.int .i64 d.kind) (.string (aC d.name)) (.int .i64 d.line) (.int .i64 d.col) (.slice fa fn fc) (.slice va vn vc) (.slice ma mn mc) (.slice ia inn ic))
   generalize S8 W5 we.heap.size 0 (.int .i64 d.kind) (.string (aC d.name)) (.int .i64 d.line) (.int .i64 d.col) (.slice fa fn fc) (.slice va vn vc) (.slice ma mn mc) (.slice ia inn ic)=Y at *
   obtain⟨I,hI⟩:∃ I,we.heap.size=I:=⟨_,rfl⟩
   rw[hI]at Co ⊢
   have s8:=Co.out
   have hIY:I<Y.heap.size:=(Array.getElem?_eq_some_iff.1 s8).1
   have Aw:∀ ob,(Y.alloc ob).heap[I]? = some (.cells #[.int .i64 d.kind,.string (aC d.name),.int .i64 d.line,.int .i64 d.col,.slice fa fn fc,.slice va vn vc,.slice ma mn mc,.slice ia inn ic] 69 (0,0)):=fun ob=>by rw[aD _ _ _ hIY];exact s8
   have p0:=aA s8 0 rfl
   have q0:∀ ob,(Y.alloc ob).cell? ⟨I,0,none⟩=some (.int .i64 d.kind):=fun ob=>by simp[World.cell?,Aw ob]
   have p1:=aA s8 1 rfl
   have q1:∀ ob,(Y.alloc ob).cell? ⟨I,1,none⟩=some (.string (aC d.name)):=fun ob=>by simp[World.cell?,Aw ob]
   have p2:=aA s8 2 rfl
   have q2:∀ ob,(Y.alloc ob).cell? ⟨I,2,none⟩=some (.int .i64 d.line):=fun ob=>by simp[World.cell?,Aw ob]
   have p3:=aA s8 3 rfl
   have q3:∀ ob,(Y.alloc ob).cell? ⟨I,3,none⟩=some (.int .i64 d.col):=fun ob=>by simp[World.cell?,Aw ob]
   have p4:=aA s8 4 rfl
   have q4:∀ ob,(Y.alloc ob).cell? ⟨I,4,none⟩=some (.slice fa fn fc):=fun ob=>by simp[World.cell?,Aw ob]
   have p5:=aA s8 5 rfl
   have q5:∀ ob,(Y.alloc ob).cell? ⟨I,5,none⟩=some (.slice va vn vc):=fun ob=>by simp[World.cell?,Aw ob]
   have p6:=aA s8 6 rfl
   have q6:∀ ob,(Y.alloc ob).cell? ⟨I,6,none⟩=some (.slice ma mn mc):=fun ob=>by simp[World.cell?,Aw ob]
   have p7:=aA s8 7 rfl
   have q7:∀ ob,(Y.alloc ob).cell? ⟨I,7,none⟩=some (.slice ia inn ic):=fun ob=>by simp[World.cell?,Aw ob]
   have d7:=Mh.out.lo.cV.1.2.2.2.2.2.2.2
   have d7a:=fun ob=>(Mh.out.alloc ob).lo.cV.1.2.2.2.2.2.2.2
   have Oi:=Mh.out.drew
   have hKA:Kids f Y.drew (pN w0 Y.drew (.slice fa0 fl.length fc0) (.slice ia0 ds.length ic0)) (.slice fa fn fc) (.slice va vn vc) (.slice ma mn mc) (.slice ia inn ic) d:=(eO.out.old (w':=Y.drew) (fun _ _=>rfl)).more fun b hb=>hb
   have hix:(ds.length:Int)<(ds.length:Int)+1:=by omega
   clear s8 Aw Co Mh HD0
   go_region_law (
    (refine Oi.aCi d _ _ _ _ hKA rfl _ _ rfl rfl rfl (by omega) ?_;intro g cap W6 vY In hg6 uJ;obtain⟨⟨z0,z1,z2,z3,z4,z5,z6,z7⟩,Ax⟩:=In;have hc8:=(vY _ Oi.lo).cV.1.2.2.2.2.2.2.2;have hf8:=(vY _ Oi.lo).cV.2.2.2 7;clear vY;have n1:g≠w0.heap.size+1:=(by omega);have n2:w0.heap.size+1≠g:=(by omega);have g0:=Ax (ds.length*8);have g1:=Ax (ds.length*8+1);have g2:=Ax (ds.length*8+2);have g3:=Ax (ds.length*8+3);have g4:=Ax (ds.length*8+4);have g5:=Ax (ds.length*8+5);have g6:=Ax (ds.length*8+6);have g7:=Ax (ds.length*8+7);clear Ax;have Ip:=Me (P:=fun V=>Dm f w0 V R en CH.2 nm pl pc (.slice fa0 fl.length fc0) (.slice (some ⟨g,0,none⟩) (ds.length+1) cap) fl (ds++[d]) (rs++[eZ d (.slice fa fn fc) (.slice va vn vc) (.slice ma mn mc) (.slice ia inn ic)])) n1 uJ;unfold S8 at uJ Ip;have Ro:=aB uJ;have HL7:=aB Ip;clear uJ Ip;dsimp only))
   all_goals
    clear Oi hKA
    go_wp2_with fail
    go_ret
    refine⟨fl,ds++[d],_,_,_,by rw[HST.out];rfl,fun hx=>?_,by simp;omega,by rw[HST.out];first | with_reducible exact Ro.out | with_reducible exact HL7.out⟩
    rw[HST.out]at hx ⊢
    exact⟨rfl,by rw[lI.out hx]⟩
  ·have hX':q.is cZ=false:=by simpa using hX
   have b1:((aC q.text).toList == [101,110,117,109])=false:=by rw[aH,←iE];exact hX'
   have fO:=Il (h.alloc (.cells z8 69)) he hbd
   have hST:gW en msg q fl ds=((fl++[(q.field en).1],ds),(q.field en).2):=by unfold gW;rw[if_neg hM,if_neg hX]
   have HST:=aB hST
   clear hM hM' hX hX' iM iE Zk hST h HD0 HI0 Mf Zl HIO Mg
   generalize q.text=tx at *
   go_enter Tryz.func160,Tryz.ntmps160
   go_wp2_with fail
   refine hTx.mono ?_
   rintro e w9 ⟨rfl,h9⟩
   have h9:=h9.symm
   subst h9
   clear hTx
   go_wp2_with fail
   refine fO.mono ?_
   rintro e W5 ⟨fd,fs5,rfl,Ye,hD5⟩
   go_wp2_with fail
   go_ret
   refine⟨fl++[fd],ds,rs,fs5,_,by rw[HST.out];rfl,fun hx=>?_,by simp;omega,by rw[HST.out];exact hD5⟩
   rw[HST.out]at hx ⊢
   exact⟨by rw[Ye hx],rfl⟩
end Go.Proofs.YtpojeinddnjpfaaGreatDoor
