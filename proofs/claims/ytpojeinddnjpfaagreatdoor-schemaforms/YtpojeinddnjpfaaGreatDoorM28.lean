/-
  Walks and plain words (FoZ).
-/
import Derived.Test.YtpojeinddnjpfaaGreatDoorM27
import Derived.BigQuiet
import Derived.Deep.Cut
import Derived.Deep.DeepCutAuto
import Derived.Deep.RegionHeldLaw
namespace Go.Proofs.YtpojeinddnjpfaaGreatDoor
set_option linter.unusedVariables false
open Go.ChangeShapes Go.WideShapes Go.ChangeAt Go.RowKit

theorem mN (w:World) (o o':Obj):((w.alloc o).alloc o').drew.heap[w.heap.size]? = some o:=by
 show ((w.heap.push o).push o')[w.heap.size]? = some o
 simp[Array.getElem?_push]
theorem kT (w:World) (o o':Obj):((w.alloc o).alloc o').drew.heap[w.heap.size+1]? = some o':=by
 show ((w.heap.push o).push o')[w.heap.size+1]? = some o'
 rw[Array.getElem?_push]
 simp
set_option maxHeartbeats 32000000 in
set_option maxRecDepth 20000 in
theorem Kh (s t:SC) (a1 b1 c1 a2 b2 c2:Value) (w:World) (hl:aFh s) (h1:cH w (fun b=>b<w.heap.size) a1 b1 c1 s) (h2:cH w (fun b=>b<w.heap.size) a2 b2 c2 t) :
  Calls Tryz.prog 13 #[.agg #[a1,b1,c1],.agg #[a2,b2,c2]] w fun e w'=>mW w s t e w':=by
 obtain⟨uQ,uR,rfl⟩:=aW.cM h1.1
 obtain⟨tX,tY,rfl⟩:=aW.cM h1.2.1
 obtain⟨tZ,uA,rfl⟩:=RowsIn.cM h1.2.2
 obtain⟨Kf,Kg,rfl⟩:=aW.cM h2.1
 obtain⟨Hp,Hq,rfl⟩:=aW.cM h2.2.1
 obtain⟨zV,zW,rfl⟩:=RowsIn.cM h2.2.2
 have H1:=aB h1
 have H2:=aB h2
 have HL:=aB hl.1.2
 have HL2:=aB hl.2.1.2
 have hl1:=hl.1.1
 have hl2:=hl.2.1.1
 have hl3:=hl.2.2
 obtain⟨n1,hn1⟩:∃ n,s.ms.length=n:=⟨_,rfl⟩
 obtain⟨n2,hn2⟩:∃ n,s.es.length=n:=⟨_,rfl⟩
 obtain⟨n3,Qf⟩:∃ n,s.ts.length=n:=⟨_,rfl⟩
 obtain⟨k1,hk1⟩:∃ n,t.ms.length=n:=⟨_,rfl⟩
 obtain⟨k2,hk2⟩:∃ n,t.es.length=n:=⟨_,rfl⟩
 obtain⟨k3,hk3⟩:∃ n,t.ts.length=n:=⟨_,rfl⟩
 have uY:=aB hn1
 have HN2:=aB hn2
 have HN3:=aB Qf
 have Ob:=aB hk1
 have Ie:=aB hk2
 have HK3:=aB hk3
 rw[hn1,hn2,Qf]at H1 ⊢
 rw[hk1,hk2,hk3]at H2 ⊢
 rw[hn1]at hl1
 rw[hn2]at hl2
 rw[Qf]at hl3
 obtain⟨Y,hY,hC,hb,hYs⟩:=bY w #[.slice uQ n1 uR,.slice tX n2 tY,.slice tZ n3 uA] 29
 obtain⟨V,hV,hD,dO,iH⟩:=bY Y #[.slice Kf k1 Kg,.slice Hp k2 Hq,.slice zV k3 zW] 29
 have HY:=aB hY
 have HV:=aB hV
 have HB0:=aB (hb.trans (dO.mono hb.size))
 rw[hYs]at hD dO iH
 have hC2:=(dO.block _ (by omega)).trans hC
 have Hr:=aB hC2
 have HA1:=aB hD
 have u0:=aA hC2 0 rfl
 have u1:=aA hC2 1 rfl
 have u2:=aA hC2 2 rfl
 have v0:=aA hD 0 rfl
 have v1:=aA hD 1 rfl
 have v2:=aA hD 2 rfl
 clear h1 h2 hl hn1 hn2 Qf hk1 hk2 hk3 hY hV hb dO hC hC2 hD hYs iH
 go_enter Tryz.func13,Tryz.ntmps13
 go_upto_region 1 with fail
 rw[HY.out,HV.out]
 by_cases t1:n1=k1
 case neg=>
  have t':((n1:Int) != (k1:Int))=true:=by simp;omega
  have t'':¬(n1:Int)=(k1:Int):=by omega
  have HQ:=aB t1
  go_wp2_with fail
  go_ret
  exact⟨false,rfl,by simp;intro h;exact HQ.out (by rw[←uY.out,←Ob.out,h]),HB0.out⟩
 subst t1
 by_cases t2:n2=k2
 case neg=>
  have t':((n2:Int) != (k2:Int))=true:=by simp;omega
  have t'':¬(n2:Int)=(k2:Int):=by omega
  have HQ:=aB t2
  go_wp2_with fail
  go_ret
  exact⟨false,rfl,by simp;intro h;exact HQ.out (by rw[←HN2.out,←Ie.out,h]),HB0.out⟩
 subst t2
 by_cases t3:n3=k3
 case neg=>
  have t':((n3:Int) != (k3:Int))=true:=by simp;omega
  have t'':¬(n3:Int)=(k3:Int):=by omega
  have HQ:=aB t3
  go_wp2_with fail
  go_ret
  exact⟨false,rfl,by simp;intro h;exact HQ.out (by rw[←HN3.out,←HK3.out,h]),HB0.out⟩
 subst t3
 go_wp2_with fail
 clear u0 u1 u2 v0 v1 v2
 go_loopw [42] (fun kk wq=>∃ q:Nat,kk=.int .i64 (q:Int)∧q≤n1∧s.ms.take q=t.ms.take q∧Below w.heap.size w wq∧wq.heap[w.heap.size]? = some (.cells #[.slice uQ n1 uR,.slice tX n2 tY,.slice tZ n3 uA] 29 (0,0))∧wq.heap[w.heap.size+1]? = some (.cells #[.slice Kf n1 Kg,.slice Hp n2 Hq,.slice zV n3 zW] 29 (0,0))) (fun kk _=>n1 - (intOf kk).toNat)
 case atStart=>exact⟨0,rfl,Nat.zero_le _,rfl,HB0.out,Hr.out,HA1.out⟩
 case round=>
  generalize wr=w1 at *
  obtain⟨q,rfl,hq,htk,hbq,ha0,ha1⟩:=hrel
  clear HB0 Hr HA1
  have dN:=aB hbq
  have nE:=aB htk
  have Hr:=aB ha0
  have HA1:=aB ha1
  have zR:=hbq.size
  have hlt:=aN ha1
  have s0:=aA ha0 0 rfl
  have s1:=aA ha1 0 rfl
  clear hbq htk ha0 ha1
  have hq0:(0:Int)≤(q:Int):=by omega
  have hwq:=eE q (by omega)
  by_cases nM:q<n1
  ·obtain⟨x1,hx1⟩:∃ x,s.ms[q]? = some x:=⟨_,List.getElem?_eq_getElem (by have:=uY.out;omega)⟩
   obtain⟨x2,hx2⟩:∃ x,t.ms[q]? = some x:=⟨_,List.getElem?_eq_getElem (by have:=Ob.out;omega)⟩
   obtain⟨g1,o1,d1,pJ,pK,hsl1,hg1,Wb,Wc,r1⟩:=aW.at H1.out.1 (W:=w1) (fun b hb=>dN.out.block b hb) hx1
   obtain⟨g2,o2,d2,oD,oE,hsl2,hg2,We,Wf,r2⟩:=aW.at H2.out.1 (W:=w1) (fun b hb=>dN.out.block b hb) hx2
   obtain⟨h1,h2⟩:=aJ hsl1
   obtain⟨h3,h4⟩:=aJ hsl2
   rw[h1]at s0
   rw[h3]at s1
   have b0:∀ W,Below w1.heap.size w1 W→W.cell? ⟨w.heap.size,0,none⟩=some _:=fun W hW=>(hW.cell (by simp;omega)).trans s0
   have b1:∀ W,Below w1.heap.size w1 W→W.cell? ⟨w.heap.size+1,0,none⟩=some _:=fun W hW=>(hW.cell (by simp;omega)).trans s1
   have aFi:∀ W,Below w1.heap.size w1 W→W.cell? ⟨g1,o1+q*2,none⟩=some (.string (aC x1.name)):=fun W hW=>(hW.cell (by have:g1<w.heap.size:=hg1;simp;omega)).trans Wb
   have aFj:∀ W,Below w1.heap.size w1 W→W.cell? ⟨g1,o1+q*2+1,none⟩=some (.slice pJ x1.fields.length pK):=fun W hW=>(hW.cell (by have:g1<w.heap.size:=hg1;simp;omega)).trans Wc
   have aFk:∀ W,Below w1.heap.size w1 W→W.cell? ⟨g2,o2+q*2,none⟩=some (.string (aC x2.name)):=fun W hW=>(hW.cell (by have:g2<w.heap.size:=hg2;simp;omega)).trans We
   have aFl:∀ W,Below w1.heap.size w1 W→W.cell? ⟨g2,o2+q*2+1,none⟩=some (.slice oD x2.fields.length oE):=fun W hW=>(hW.cell (by have:g2<w.heap.size:=hg2;simp;omega)).trans Wf
   have hq1:(q:Int)<(n1:Int):=by omega
   have vH:Hid (s=t→x1=x2):=fun h=>by subst h;exact Option.some.inj (hx1.symm.trans hx2)
   have Qc:Hid (x1=x2→s.ms.take (q+1)=t.ms.take (q+1)):=fun h=>dS nE.out hx1 (h▸hx2)
   have hkl:=HL.out x1 (List.mem_of_getElem? hx1)
   have hbr:Below w1.heap.size w1 w1.drew:=(Below.refl _ _).drew
   have hbb:∀ o o',Below w1.heap.size w1 ((w1.alloc o).alloc o').drew:=fun o o'=>(((Below.refl _ w1).alloc (Nat.le_refl _) o).alloc (by simp) o').drew
   have hba:∀ o,Below w1.heap.size w1 (w1.alloc o).drew:=fun o=>((Below.refl _ w1).alloc (Nat.le_refl _) o).drew
   have HR1:=aB r1
   have HR2:=aB r2
   clear hx1 hx2 r1 r2 hsl1 hsl2 Wb Wc We Wf h1 h2 h3 h4
   go_upto_region 6 with fail
   go_cut [6,7] (fun s6 s7 wx=>∃ D1 D2:Nat,s6=.pointer (some ⟨D1,0,none⟩)∧s7=.pointer (some ⟨D2,0,none⟩)∧wx.heap[D1]? = some (.cells #[.string (aC x1.name),.slice pJ x1.fields.length pK] 48)∧wx.heap[D2]? = some (.cells #[.string (aC x2.name),.slice oD x2.fields.length oE] 48)∧Below w1.heap.size w1 wx)
   case first=>
    go_region_held_law (fun W=>Below w1.heap.size w1 W) (first | with_reducible exact hbr | with_reducible exact hba _ | with_reducible exact hbb _ _) (fail)
    all_goals go_wp2_with fail
    all_goals go_meet
    ·exact⟨w1.heap.size,w1.heap.size+1,rfl,rfl,mN _ _ _,kT _ _ _,hbb _ _⟩
    ·exact⟨w1.heap.size+1,w1.heap.size,rfl,rfl,kT _ _ _,mN _ _ _,hbb _ _⟩
   case rest=>
    obtain⟨D1,D2,rfl,rfl,hD1,hD2,hbX⟩:=hcut
    generalize wc=X at *
    have aFm:=aA hD1 0 rfl
    have Bs:=aA hD1 1 rfl
    have Wg:=aA hD2 0 rfl
    have Bt:=aA hD2 1 rfl
    have HD1:=aB hD1
    have HD2:=aB hD2
    have hl1:=aN hD1
    have hl2:=aN hD2
    have oY:=aB (dN.out.trans (hbX.mono zR))
    have aFn:=aB ((hbX.block _ (by omega)).trans Hr.out)
    have aFo:=aB ((hbX.block _ (by omega)).trans HA1.out)
    have hXs:=hbX.size
    have Wh:=aB (HR1.out.old fun b hb=>hbX.block b (by have hb':b<w.heap.size:=hb;omega))
    have Wi:=aB (HR2.out.old fun b hb=>hbX.block b (by have hb':b<w.heap.size:=hb;omega))
    clear hD1 hD2 hbX hbr hba hbb b0 b1 aFi aFj aFk aFl HR1 HR2 Hr HA1 s0 s1
    obtain⟨nf,hnf⟩:∃ n,x1.fields.length=n:=⟨_,rfl⟩
    obtain⟨kf,hkf⟩:∃ n,x2.fields.length=n:=⟨_,rfl⟩
    have gI:=aB hnf
    have Wj:=aB hkf
    rw[hnf]at Bs Wh hkl HD1
    rw[hkf]at Bt Wi HD2
    clear hnf hkf
    by_cases t0:x1.name=x2.name
    case neg=>
     have t':=eK t0
     have t'':=beq_eq_false_iff_ne.2 t0
     have HQ:=aB t0
     go_wp2_with fail
     go_ret
     exact⟨false,rfl,by simp;intro h;exact HQ.out (by rw[vH.out h]),oY.out⟩
    rw[←t0]at Wg
    have HC0:=aB t0
    clear t0
    by_cases t1:nf=kf
    case neg=>
     have t':((nf:Int) != (kf:Int))=true:=by simp;omega
     have HQ:=aB t1
     go_wp2_with fail
     go_ret
     exact⟨false,rfl,by simp;intro h;exact HQ.out (by rw[←gI.out,←Wj.out,vH.out h]),oY.out⟩
    subst t1
    go_wp2_with fail
    clear aFm Wg
    go_loopw [72] (fun kk wq=>∃ k:Nat,kk=.int .i64 (k:Int)∧k≤nf∧x1.fields.take k=x2.fields.take k∧Below X.heap.size X wq) (fun kk _=>nf - (intOf kk).toNat)
    case atStart=>exact⟨0,rfl,Nat.zero_le _,rfl,Below.refl _ _⟩
    case round=>
     obtain⟨k,rfl,hk,Wk,hbk⟩:=hrel
     have Qg:=aB hbk
     have Wl:=aB Wk
     have hks:=hbk.size
     have Fx:wr.cell? ⟨D1,1,none⟩=_:=(hbk.cell (by simpa using hl1)).trans Bs
     have Fy:wr.cell? ⟨D2,1,none⟩=_:=(hbk.cell (by simpa using hl2)).trans Bt
     clear hbk Wk
     have hk0:(0:Int)≤(k:Int):=by omega
     have hwk:=eE k (by omega)
     by_cases hkn:k<nf
     ·obtain⟨y1,hy1⟩:∃ x,x1.fields[k]? = some x:=⟨_,List.getElem?_eq_getElem (by have:=gI.out;omega)⟩
      obtain⟨y2,hy2⟩:∃ x,x2.fields[k]? = some x:=⟨_,List.getElem?_eq_getElem (by have:=Wj.out;omega)⟩
      obtain⟨g3,o3,c3,iQ,hg3,Bq,Br,aFc,aFd,aFe⟩:=kR Wh.out (W:=wr) (fun b hb=>Qg.out.block b (by have hb':b<w.heap.size:=hb;omega)) hy1
      obtain⟨g4,o4,c4,iR,hg4,oB,oC,Kc,Kd,Ke⟩:=kR Wi.out (W:=wr) (fun b hb=>Qg.out.block b (by have hb':b<w.heap.size:=hb;omega)) hy2
      rw[gI.out]at iQ
      rw[Wj.out]at iR
      obtain⟨h1,h2⟩:=aJ iQ
      obtain⟨h3,h4⟩:=aJ iR
      rw[h1]at Fx
      rw[h3]at Fy
      have hk1:(k:Int)<(nf:Int):=by omega
      have gR:Hid (∀ nq:Nat,Below X.heap.size X (wr.drewN nq)):=fun nq=>Qg.out.trans ⟨rfl,rfl,rfl,Nat.le_refl _,fun _ _=>rfl⟩
      have HX:Hid (s=t→y1=y2):=fun h=>by have:=vH.out h;subst this;exact Option.some.inj (hy1.symm.trans hy2)
      have HT2:Hid (y1=y2→x1.fields.take (k+1)=x2.fields.take (k+1)):=fun h=>dS Wl.out hy1 (h▸hy2)
      clear hy1 hy2 iQ iR h1 h2 h3 h4 Bs Bt
      by_cases t0:y1.num=y2.num
      case neg=>
       have HQ:=aB t0
       go_wp2_with fail
       go_quiet (fail)
       go_wp2_with fail
       go_ret
       exact⟨false,rfl,by simp;intro h;exact HQ.out (by rw[HX.out h]),oY.out.trans ((gR.out _).mono oY.out.size)⟩
      rw[←t0]at oB
      have U0:=aB t0
      clear t0
      by_cases t1:y1.name=y2.name
      case neg=>
       have t':=eK t1
       have t'':=beq_eq_false_iff_ne.2 t1
       have HQ:=aB t1
       go_wp2_with fail
       go_quiet (fail)
       go_wp2_with fail
       go_ret
       exact⟨false,rfl,by simp;intro h;exact HQ.out (by rw[HX.out h]),oY.out.trans ((gR.out _).mono oY.out.size)⟩
      rw[←t1]at oC
      have U1:=aB t1
      clear t1
      by_cases t2:y1.kind=y2.kind
      case neg=>
       have HQ:=aB t2
       go_wp2_with fail
       go_quiet (fail)
       go_wp2_with fail
       go_ret
       exact⟨false,rfl,by simp;intro h;exact HQ.out (by rw[HX.out h]),oY.out.trans ((gR.out _).mono oY.out.size)⟩
      rw[←t2]at Kc
      have U2:=aB t2
      clear t2
      by_cases t3:y1.rep=y2.rep
      case neg=>
       have HQ:=aB t3
       go_wp2_with fail
       go_quiet (fail)
       go_wp2_with fail
       go_ret
       exact⟨false,rfl,by simp;intro h;exact HQ.out (by rw[HX.out h]),oY.out.trans ((gR.out _).mono oY.out.size)⟩
      rw[←t3]at Kd
      have U3:=aB t3
      clear t3
      by_cases t4:y1.type=y2.type
      case neg=>
       have HQ:=aB t4
       go_wp2_with fail
       go_quiet (fail)
       go_wp2_with fail
       go_ret
       exact⟨false,rfl,by simp;intro h;exact HQ.out (by rw[HX.out h]),oY.out.trans ((gR.out _).mono oY.out.size)⟩
      rw[←t4]at Ke
      have U4:=aB t4
      clear t4
      have pG:=aB (HT2.out (Ts U0.out U1.out U2.out U3.out U4.out))
      go_wp2_with fail
      go_quiet (fail)
      go_wp2_with fail
      go_roundw
      case rel=>exact⟨k+1,by go_num,by omega,pG.out,gR.out _⟩
      case measure=>simp[intOf];omega
     ·have hkn':¬(k:Int)<(nf:Int):=by omega
      have pG:Hid (s.ms.take (q+1)=t.ms.take (q+1)):=by
       refine Qc.out ?_
       have h1:=Wl.out
       have hke:k=nf:=by omega
       rw[hke,List.take_of_length_le (by have:=gI.out;omega),List.take_of_length_le (by have:=Wj.out;omega)]at h1
       exact Tv HC0.out h1
      have HB9:=aB (oY.out.trans (Qg.out.mono oY.out.size))
      have aFq:=aB ((Qg.out.block _ (by omega)).trans aFn.out)
      have aFr:=aB ((Qg.out.block _ (by omega)).trans aFo.out)
      clear Bs Bt Fx Fy
      go_wp2_with fail
      go_roundw
      case rel=>exact⟨q+1,by go_num,by omega,pG.out,HB9.out,aFq.out,aFr.out⟩
      case measure=>simp[intOf];omega
  ·have pH:¬(q:Int)<(n1:Int):=by omega
   have hall:s.ms=t.ms:=by
    have h1:=nE.out
    have hqe:q=n1:=by omega
    rwa [hqe,List.take_of_length_le (by have:=uY.out;omega),List.take_of_length_le (by have:=Ob.out;omega)]at h1
   have aTq:=aB hall
   have HB0:=dN
   clear hall s0 s1 hq0 hwq dN
   have z0:=aA Hr.out 1 rfl
   have HL:=HL2
   go_wp2_with fail
   clear z0 hlt zR nE hq nM pH
   go_loopw [91] (fun kk wq=>∃ q:Nat,kk=.int .i64 (q:Int)∧q≤n2∧s.es.take q=t.es.take q∧Below w.heap.size w wq∧wq.heap[w.heap.size]? = some (.cells #[.slice uQ n1 uR,.slice tX n2 tY,.slice tZ n3 uA] 29 (0,0))∧wq.heap[w.heap.size+1]? = some (.cells #[.slice Kf n1 Kg,.slice Hp n2 Hq,.slice zV n3 zW] 29 (0,0))) (fun kk _=>n2 - (intOf kk).toNat)
   case atStart=>exact⟨0,rfl,Nat.zero_le _,rfl,HB0.out,Hr.out,HA1.out⟩
   case round=>
    generalize wr=w2 at *
    obtain⟨q,rfl,hq,htk,hbq,ha0,ha1⟩:=hrel
    clear HB0 Hr HA1
    have dN:=aB hbq
    have nE:=aB htk
    have Hr:=aB ha0
    have HA1:=aB ha1
    have zR:=hbq.size
    have hlt:=aN ha1
    have s0:=aA ha0 1 rfl
    have s1:=aA ha1 1 rfl
    clear hbq htk ha0 ha1
    have hq0:(0:Int)≤(q:Int):=by omega
    have hwq:=eE q (by omega)
    by_cases nM:q<n2
    ·obtain⟨x1,hx1⟩:∃ x,s.es[q]? = some x:=⟨_,List.getElem?_eq_getElem (by have:=HN2.out;omega)⟩
     obtain⟨x2,hx2⟩:∃ x,t.es[q]? = some x:=⟨_,List.getElem?_eq_getElem (by have:=Ie.out;omega)⟩
     obtain⟨g1,o1,d1,pJ,pK,hsl1,hg1,Wb,Wc,r1⟩:=aW.at H1.out.2.1 (W:=w2) (fun b hb=>dN.out.block b hb) hx1
     obtain⟨g2,o2,d2,oD,oE,hsl2,hg2,We,Wf,r2⟩:=aW.at H2.out.2.1 (W:=w2) (fun b hb=>dN.out.block b hb) hx2
     obtain⟨h1,h2⟩:=aJ hsl1
     obtain⟨h3,h4⟩:=aJ hsl2
     rw[h1]at s0
     rw[h3]at s1
     have b0:∀ W,Below w2.heap.size w2 W→W.cell? ⟨w.heap.size,1,none⟩=some _:=fun W hW=>(hW.cell (by simp;omega)).trans s0
     have b1:∀ W,Below w2.heap.size w2 W→W.cell? ⟨w.heap.size+1,1,none⟩=some _:=fun W hW=>(hW.cell (by simp;omega)).trans s1
     have aFi:∀ W,Below w2.heap.size w2 W→W.cell? ⟨g1,o1+q*2,none⟩=some (.string (aC x1.name)):=fun W hW=>(hW.cell (by have:g1<w.heap.size:=hg1;simp;omega)).trans Wb
     have aFj:∀ W,Below w2.heap.size w2 W→W.cell? ⟨g1,o1+q*2+1,none⟩=some (.slice pJ x1.values.length pK):=fun W hW=>(hW.cell (by have:g1<w.heap.size:=hg1;simp;omega)).trans Wc
     have aFk:∀ W,Below w2.heap.size w2 W→W.cell? ⟨g2,o2+q*2,none⟩=some (.string (aC x2.name)):=fun W hW=>(hW.cell (by have:g2<w.heap.size:=hg2;simp;omega)).trans We
     have aFl:∀ W,Below w2.heap.size w2 W→W.cell? ⟨g2,o2+q*2+1,none⟩=some (.slice oD x2.values.length oE):=fun W hW=>(hW.cell (by have:g2<w.heap.size:=hg2;simp;omega)).trans Wf
     have hq1:(q:Int)<(n2:Int):=by omega
     have vH:Hid (s=t→x1=x2):=fun h=>by subst h;exact Option.some.inj (hx1.symm.trans hx2)
     have Qc:Hid (x1=x2→s.es.take (q+1)=t.es.take (q+1)):=fun h=>dS nE.out hx1 (h▸hx2)
     have hkl:=HL.out x1 (List.mem_of_getElem? hx1)
     have hbr:Below w2.heap.size w2 w2.drew:=(Below.refl _ _).drew
     have hbb:∀ o o',Below w2.heap.size w2 ((w2.alloc o).alloc o').drew:=fun o o'=>(((Below.refl _ w2).alloc (Nat.le_refl _) o).alloc (by simp) o').drew
     have hba:∀ o,Below w2.heap.size w2 (w2.alloc o).drew:=fun o=>((Below.refl _ w2).alloc (Nat.le_refl _) o).drew
     have HR1:=aB r1
     have HR2:=aB r2
     clear hx1 hx2 r1 r2 hsl1 hsl2 Wb Wc We Wf h1 h2 h3 h4
     go_upto_region 19 with fail
     go_cut [10,11] (fun s6 s7 wx=>∃ D1 D2:Nat,s6=.pointer (some ⟨D1,0,none⟩)∧s7=.pointer (some ⟨D2,0,none⟩)∧wx.heap[D1]? = some (.cells #[.string (aC x1.name),.slice pJ x1.values.length pK] 91)∧wx.heap[D2]? = some (.cells #[.string (aC x2.name),.slice oD x2.values.length oE] 91)∧Below w2.heap.size w2 wx)
     case first=>
      go_region_held_law (fun W=>Below w2.heap.size w2 W) (first | with_reducible exact hbr | with_reducible exact hba _ | with_reducible exact hbb _ _) (fail)
      all_goals go_wp2_with fail
      all_goals go_meet
      ·exact⟨w2.heap.size,w2.heap.size+1,rfl,rfl,mN _ _ _,kT _ _ _,hbb _ _⟩
      ·exact⟨w2.heap.size+1,w2.heap.size,rfl,rfl,kT _ _ _,mN _ _ _,hbb _ _⟩
     case rest=>
      obtain⟨D1,D2,rfl,rfl,hD1,hD2,hbX⟩:=hcut
      generalize wc=X at *
      have aFm:=aA hD1 0 rfl
      have Bs:=aA hD1 1 rfl
      have Wg:=aA hD2 0 rfl
      have Bt:=aA hD2 1 rfl
      have HD1:=aB hD1
      have HD2:=aB hD2
      have hl1:=aN hD1
      have hl2:=aN hD2
      have oY:=aB (dN.out.trans (hbX.mono zR))
      have aFn:=aB ((hbX.block _ (by omega)).trans Hr.out)
      have aFo:=aB ((hbX.block _ (by omega)).trans HA1.out)
      have hXs:=hbX.size
      have Wh:=aB (HR1.out.old fun b hb=>hbX.block b (by have hb':b<w.heap.size:=hb;omega))
      have Wi:=aB (HR2.out.old fun b hb=>hbX.block b (by have hb':b<w.heap.size:=hb;omega))
      clear hD1 hD2 hbX hbr hba hbb b0 b1 aFi aFj aFk aFl HR1 HR2 Hr HA1 s0 s1
      obtain⟨nf,hnf⟩:∃ n,x1.values.length=n:=⟨_,rfl⟩
      obtain⟨kf,hkf⟩:∃ n,x2.values.length=n:=⟨_,rfl⟩
      have gI:=aB hnf
      have Wj:=aB hkf
      rw[hnf]at Bs Wh hkl HD1
      rw[hkf]at Bt Wi HD2
      clear hnf hkf
      by_cases t0:x1.name=x2.name
      case neg=>
       have t':=eK t0
       have t'':=beq_eq_false_iff_ne.2 t0
       have HQ:=aB t0
       go_wp2_with fail
       go_ret
       exact⟨false,rfl,by simp;intro h;exact HQ.out (by rw[vH.out h]),oY.out⟩
      rw[←t0]at Wg
      have HC0:=aB t0
      clear t0
      by_cases t1:nf=kf
      case neg=>
       have t':((nf:Int) != (kf:Int))=true:=by simp;omega
       have HQ:=aB t1
       go_wp2_with fail
       go_ret
       exact⟨false,rfl,by simp;intro h;exact HQ.out (by rw[←gI.out,←Wj.out,vH.out h]),oY.out⟩
      subst t1
      go_wp2_with fail
      clear aFm Wg
      go_loopw [121] (fun kk wq=>∃ k:Nat,kk=.int .i64 (k:Int)∧k≤nf∧x1.values.take k=x2.values.take k∧Below X.heap.size X wq) (fun kk _=>nf - (intOf kk).toNat)
      case atStart=>exact⟨0,rfl,Nat.zero_le _,rfl,Below.refl _ _⟩
      case round=>
       obtain⟨k,rfl,hk,Wk,hbk⟩:=hrel
       have Qg:=aB hbk
       have Wl:=aB Wk
       have hks:=hbk.size
       have Fx:wr.cell? ⟨D1,1,none⟩=_:=(hbk.cell (by simpa using hl1)).trans Bs
       have Fy:wr.cell? ⟨D2,1,none⟩=_:=(hbk.cell (by simpa using hl2)).trans Bt
       clear hbk Wk
       have hk0:(0:Int)≤(k:Int):=by omega
       have hwk:=eE k (by omega)
       by_cases hkn:k<nf
       ·obtain⟨y1,hy1⟩:∃ x,x1.values[k]? = some x:=⟨_,List.getElem?_eq_getElem (by have:=gI.out;omega)⟩
        obtain⟨y2,hy2⟩:∃ x,x2.values[k]? = some x:=⟨_,List.getElem?_eq_getElem (by have:=Wj.out;omega)⟩
        obtain⟨g3,o3,c3,iQ,hg3,Bq,Br⟩:=pV Wh.out (W:=wr) (fun b hb=>Qg.out.block b (by have hb':b<w.heap.size:=hb;omega)) hy1
        obtain⟨g4,o4,c4,iR,hg4,oB,oC⟩:=pV Wi.out (W:=wr) (fun b hb=>Qg.out.block b (by have hb':b<w.heap.size:=hb;omega)) hy2
        rw[gI.out]at iQ
        rw[Wj.out]at iR
        obtain⟨h1,h2⟩:=aJ iQ
        obtain⟨h3,h4⟩:=aJ iR
        rw[h1]at Fx
        rw[h3]at Fy
        have hk1:(k:Int)<(nf:Int):=by omega
        have gR:Hid (∀ nq:Nat,Below X.heap.size X (wr.drewN nq)):=fun nq=>Qg.out.trans ⟨rfl,rfl,rfl,Nat.le_refl _,fun _ _=>rfl⟩
        have HX:Hid (s=t→y1=y2):=fun h=>by have:=vH.out h;subst this;exact Option.some.inj (hy1.symm.trans hy2)
        have HT2:Hid (y1=y2→x1.values.take (k+1)=x2.values.take (k+1)):=fun h=>dS Wl.out hy1 (h▸hy2)
        clear hy1 hy2 iQ iR h1 h2 h3 h4 Bs Bt
        by_cases t0:y1.name=y2.name
        case neg=>
         have t':=eK t0
         have t'':=beq_eq_false_iff_ne.2 t0
         have HQ:=aB t0
         go_wp2_with fail
         go_quiet (fail)
         go_wp2_with fail
         go_ret
         exact⟨false,rfl,by simp;intro h;exact HQ.out (by rw[HX.out h]),oY.out.trans ((gR.out _).mono oY.out.size)⟩
        rw[←t0]at oB
        have U0:=aB t0
        clear t0
        by_cases t1:y1.num=y2.num
        case neg=>
         have HQ:=aB t1
         go_wp2_with fail
         go_quiet (fail)
         go_wp2_with fail
         go_ret
         exact⟨false,rfl,by simp;intro h;exact HQ.out (by rw[HX.out h]),oY.out.trans ((gR.out _).mono oY.out.size)⟩
        rw[←t1]at oC
        have U1:=aB t1
        clear t1
        have pG:=aB (HT2.out (Tt U0.out U1.out))
        go_wp2_with fail
        go_quiet (fail)
        go_wp2_with fail
        go_roundw
        case rel=>exact⟨k+1,by go_num,by omega,pG.out,gR.out _⟩
        case measure=>simp[intOf];omega
       ·have hkn':¬(k:Int)<(nf:Int):=by omega
        have pG:Hid (s.es.take (q+1)=t.es.take (q+1)):=by
         refine Qc.out ?_
         have h1:=Wl.out
         have hke:k=nf:=by omega
         rw[hke,List.take_of_length_le (by have:=gI.out;omega),List.take_of_length_le (by have:=Wj.out;omega)]at h1
         exact Tw HC0.out h1
        have HB9:=aB (oY.out.trans (Qg.out.mono oY.out.size))
        have aFq:=aB ((Qg.out.block _ (by omega)).trans aFn.out)
        have aFr:=aB ((Qg.out.block _ (by omega)).trans aFo.out)
        clear Bs Bt Fx Fy
        go_wp2_with fail
        go_roundw
        case rel=>exact⟨q+1,by go_num,by omega,pG.out,HB9.out,aFq.out,aFr.out⟩
        case measure=>simp[intOf];omega
    ·have pH:¬(q:Int)<(n2:Int):=by omega
     have hall:s.es=t.es:=by
      have h1:=nE.out
      have hqe:q=n2:=by omega
      rwa [hqe,List.take_of_length_le (by have:=HN2.out;omega),List.take_of_length_le (by have:=Ie.out;omega)]at h1
     have aTr:=aB hall
     have HB0:=dN
     clear hall s0 s1 hq0 hwq dN
     have z0:=aA Hr.out 2 rfl
     have z1:=aA HA1.out 2 rfl
     go_wp2_with fail
     go_loopw [140] (fun kk wq=>∃ q:Nat,kk=.int .i64 (q:Int)∧q≤n3∧s.ts.take q=t.ts.take q∧Below w2.heap.size w2 wq) (fun kk _=>n3 - (intOf kk).toNat)
     case atStart=>exact⟨0,rfl,Nat.zero_le _,rfl,Below.refl _ _⟩
     case round=>
      obtain⟨q,rfl,hq,htk,hbq⟩:=hrel
      have dN:=aB (HB0.out.trans (hbq.mono HB0.out.size))
      have nE:=aB htk
      have s0:wr.cell? ⟨w.heap.size,2,none⟩=_:=(hbq.cell (by simp;omega)).trans z0
      have s1:wr.cell? ⟨w.heap.size+1,2,none⟩=_:=(hbq.cell (by simpa using hlt)).trans z1
      have HB1:=aB hbq
      clear hbq htk
      have hq0:(0:Int)≤(q:Int):=by omega
      have hwq:=eE q (by omega)
      by_cases nM:q<n3
      ·obtain⟨y1,hy1⟩:∃ x,s.ts[q]? = some x:=⟨_,List.getElem?_eq_getElem (by have:=HN3.out;omega)⟩
       obtain⟨y2,hy2⟩:∃ x,t.ts[q]? = some x:=⟨_,List.getElem?_eq_getElem (by have:=HK3.out;omega)⟩
       obtain⟨g3,o3,c3,iQ,hg3,Bq,Br,aFc,aFd,aFe⟩:=tR H1.out.2.2 (W:=wr) (fun b hb=>dN.out.block b hb) hy1
       obtain⟨g4,o4,c4,iR,hg4,oB,oC,Kc,Kd,Ke⟩:=tR H2.out.2.2 (W:=wr) (fun b hb=>dN.out.block b hb) hy2
       rw[HN3.out]at iQ
       rw[HK3.out]at iR
       obtain⟨h1,h2⟩:=aJ iQ
       obtain⟨h3,h4⟩:=aJ iR
       rw[h1]at s0
       rw[h3]at s1
       have hq1:(q:Int)<(n3:Int):=by omega
       have gR:Hid (∀ nq:Nat,Below w2.heap.size w2 (wr.drewN nq)):=fun nq=>HB1.out.trans ⟨rfl,rfl,rfl,Nat.le_refl _,fun _ _=>rfl⟩
       have HX:Hid (s=t→y1=y2):=fun h=>by subst h;exact Option.some.inj (hy1.symm.trans hy2)
       have HT2:Hid (y1=y2→s.ts.take (q+1)=t.ts.take (q+1)):=fun h=>dS nE.out hy1 (h▸hy2)
       clear hy1 hy2 iQ iR h1 h2 h3 h4 z0 z1
       by_cases t0:y1.id=y2.id
       case neg=>
        have HQ:=aB t0
        go_wp2_with fail
        go_quiet (fail)
        go_wp2_with fail
        go_ret
        exact⟨false,rfl,by simp;intro h;exact HQ.out (by rw[HX.out h]),HB0.out.trans ((gR.out _).mono HB0.out.size)⟩
       rw[←t0]at oB
       have U0:=aB t0
       clear t0
       by_cases t1:y1.service=y2.service
       case neg=>
        have t':=eK t1
        have t'':=beq_eq_false_iff_ne.2 t1
        have HQ:=aB t1
        go_wp2_with fail
        go_quiet (fail)
        go_wp2_with fail
        go_ret
        exact⟨false,rfl,by simp;intro h;exact HQ.out (by rw[HX.out h]),HB0.out.trans ((gR.out _).mono HB0.out.size)⟩
       rw[←t1]at oC
       have U1:=aB t1
       clear t1
       by_cases t2:y1.name=y2.name
       case neg=>
        have t':=eK t2
        have t'':=beq_eq_false_iff_ne.2 t2
        have HQ:=aB t2
        go_wp2_with fail
        go_quiet (fail)
        go_wp2_with fail
        go_ret
        exact⟨false,rfl,by simp;intro h;exact HQ.out (by rw[HX.out h]),HB0.out.trans ((gR.out _).mono HB0.out.size)⟩
       rw[←t2]at Kc
       have U2:=aB t2
       clear t2
       by_cases t3:y1.inp=y2.inp
       case neg=>
        have HQ:=aB t3
        go_wp2_with fail
        go_quiet (fail)
        go_wp2_with fail
        go_ret
        exact⟨false,rfl,by simp;intro h;exact HQ.out (by rw[HX.out h]),HB0.out.trans ((gR.out _).mono HB0.out.size)⟩
       rw[←t3]at Kd
       have U3:=aB t3
       clear t3
       by_cases t4:y1.out=y2.out
       case neg=>
        have HQ:=aB t4
        go_wp2_with fail
        go_quiet (fail)
        go_wp2_with fail
        go_ret
        exact⟨false,rfl,by simp;intro h;exact HQ.out (by rw[HX.out h]),HB0.out.trans ((gR.out _).mono HB0.out.size)⟩
       rw[←t4]at Ke
       have U4:=aB t4
       clear t4
       have pG:=aB (HT2.out (Tu U0.out U1.out U2.out U3.out U4.out))
       go_wp2_with fail
       go_quiet (fail)
       go_wp2_with fail
       go_roundw
       case rel=>exact⟨q+1,by go_num,by omega,pG.out,gR.out _⟩
       case measure=>simp[intOf];omega
      ·have pH:¬(q:Int)<(n3:Int):=by omega
       have aTs:Hid (s.ts=t.ts):=by
        refine(?_:_=_)
        have h1:=nE.out
        have hqe:q=n3:=by omega
        rwa [hqe,List.take_of_length_le (by have:=HN3.out;omega),List.take_of_length_le (by have:=HK3.out;omega)]at h1
       go_wp2_with fail
       go_ret
       exact⟨true,rfl,by simp;exact aCz aTq.out aTr.out aTs.out,dN.out⟩
end Go.Proofs.YtpojeinddnjpfaaGreatDoor
