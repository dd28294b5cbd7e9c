/-
  Walks and plain words (SkU).
-/
import Derived.Test.YtpojeinddnjpfaaGreatDoorM0
import Derived.Test.YtpojeinddnjpfaaGreatDoorM19
namespace Go.Proofs.YtpojeinddnjpfaaGreatDoor
set_option linter.unusedVariables false
open Go.ChangeShapes Go.WideShapes Go.ChangeAt Go.RowKit Go.Maps

theorem rT (n:Int) (w:World):Calls Tryz.prog 59 #[.int .i64 n] w fun e w'=>e=.returned (.bool (fV n))∧w'=w:=by
 obtain⟨R,hR⟩:∃ r,fV n=r:=⟨_,rfl⟩
 have HR:=aB hR
 rw[hR]
 clear hR
 by_cases h1:(1:Int)≤n
 ·by_cases h2:n≤536870911
  ·by_cases h3:n<19000
   ·have HT:Hid (R=true):=by
     refine(?_:_=_)
     rw[←HR.out];unfold fV;simp;omega
    go_enter Tryz.func59,Tryz.ntmps59
    go_wp2_with fail
    go_ret
    exact⟨by rw[HT.out];rfl,rfl⟩
   ·by_cases h4:19999<n
    ·have HT:Hid (R=true):=by
      refine(?_:_=_)
      rw[←HR.out];unfold fV;simp;omega
     go_enter Tryz.func59,Tryz.ntmps59
     go_wp2_with fail
     go_ret
     exact⟨by rw[HT.out];rfl,rfl⟩
    ·have HT:Hid (R=false):=by
      refine(?_:_=_)
      rw[←HR.out];unfold fV;simp;omega
     go_enter Tryz.func59,Tryz.ntmps59
     go_wp2_with fail
     go_ret
     exact⟨by rw[HT.out];rfl,rfl⟩
  ·have HT:Hid (R=false):=by
    refine(?_:_=_)
    rw[←HR.out];unfold fV;simp;omega
   go_enter Tryz.func59,Tryz.ntmps59
   go_wp2_with fail
   go_ret
   exact⟨by rw[HT.out];rfl,rfl⟩
 ·have HT:Hid (R=false):=by
   refine(?_:_=_)
   rw[←HR.out];unfold fV;simp;omega
  go_enter Tryz.func59,Tryz.ntmps59
  go_wp2_with fail
  go_ret
  exact⟨by rw[HT.out];rfl,rfl⟩
theorem Vb {d:Dc} {k:Nat} {y:Fd} (h:d.fields[k]? = some y):(dP d)[k]? = some (y.num,!fV y.num,(y.line,y.col)):=by
 unfold dP
 have hk:=(List.getElem?_eq_some_iff.1 h).1
 rw[List.getElem?_append_left (by simpa using hk),List.getElem?_map,h];rfl
theorem Vc {d:Dc} {k:Nat} {y:Vl} (h:d.values[k]? = some y):(dP d)[d.fields.length+k]? = some (y.num,decide (k=0∧y.num≠0),(y.line,y.col)):=by
 unfold dP
 rw[List.getElem?_append_right (by simp),List.getElem?_mapIdx]
 simp[h]
theorem Vd (d:Dc):(dP d).length=d.fields.length+d.values.length:=by
 unfold dP
 simp
def fK (d:Dc) (t:Nat):List Int:=((dP d).take t).map (·.1)
theorem kS {d:Dc} {t:Nat} {a:Int × Bool × (Int × Int)} (h:(dP d)[t]? = some a):fK d (t+1)=fK d t++[a.1]:=by
 unfold fK
 rw[aY h,List.map_append];rfl
theorem mM (d:Dc) (t:Nat):(fK d t).length≤t:=by
 unfold fK
 simp only[List.length_map,List.length_take]
 omega
theorem vI {d:Dc} {t:Nat} {a:Int × Bool × (Int × Int)} (h:(dP d)[t]? = some a):gV (dP d) t=if a.2.1=true∨a.1∈fK d t then some a.2.2 else none:=by
 unfold gV
 rw[h];rfl
def Ve (d:Dc):Prop:=(d.fields.length≤100000∧d.values.length≤100000)∧(∀ x∈d.fields,eF x.num=true)∧(∀ x∈d.values,eF x.num=true)
theorem wV {n:Int} (h:eF n=true):(Lit.int .i64 n).wf=true:=by
 unfold eF at h
 rw[decide_eq_true_iff]at h
 exact WalkArith.wf_i64 (by omega)
set_option maxHeartbeats 16000000 in
set_option maxRecDepth 20000 in
theorem Vf (f:Nat) (ps:List Pl) (v:Value) (w:World) (hn0:ps.length≤100000) (hm0:∀ x∈ps,Ve x.2) (hH:eJ 9 f w (fun b=>b<w.heap.size) v ps) :
  Calls Tryz.prog 27 #[v] w fun e w'=>wN w (aQ (pF ps) ps.length) e w':=by
 have HH:=aB hH
 obtain⟨ad,cc,rfl⟩:=hH.cM
 obtain⟨n,hn⟩:∃ n,ps.length=n:=⟨_,rfl⟩
 have HN:=aB hn
 rw[hn]at hn0 ⊢
 have HM:=aB hm0
 clear hH hn hm0
 go_enter Tryz.func27,Tryz.ntmps27
 go_wp2_with fail
 go_loopw [13] (fun i wr=>∃ j:Nat,i=.int .i64 (j:Int)∧j≤n∧aQ (pF ps) j=none∧Below w.heap.size w wr∧wr.heap[w.heap.size]? = some (.cells #[.int .i64 0,.int .i64 0] 31 (0,0))) (fun i _=>n - (intOf i).toNat)
 case atStart=>exact⟨0,rfl,Nat.zero_le _,rfl,(Below.refl _ w).alloc (Nat.le_refl _) _,alloc_heap_new _ _⟩
 case round=>
  generalize wr=w1 at *
  obtain⟨j,rfl,hj,hfs,hbel,qL⟩:=hrel
  have fW:=aB hfs
  have HB:=aB hbel
  have HX:=aB qL
  have hsw:=hbel.size
  have hlt:=aN qL
  clear hfs hbel qL
  by_cases hjn:j<n
  ·obtain⟨x,hx⟩:∃ x,ps[j]? = some x:=⟨_,List.getElem?_eq_getElem (by have:=HN.out;omega)⟩
   have hnf:=HM.out x (List.mem_of_getElem? hx)
   have gI:=aB hnf
   obtain⟨⟨hfl,hvl⟩,-⟩:=hnf
   have HG:Hid (pF ps j=Pa x.2):=by
    refine(?_:_=_)
    unfold pF
    rw[hx]
   obtain⟨g,o,c0,fa,fc,va,vc,ma,mc,ia,ic,hsl,hg,e0,e1,e2,e3,e4,e5,e6,e7,e8,kd⟩:=lP HH.out (W:=w1) (fun b hb=>HB.out.block b hb) hx
   rw[HN.out]at hsl
   obtain⟨rfl,rfl⟩:ad=some ⟨g,o,none⟩∧cc=c0:=by
    injection hsl with h1 _ h3
    exact⟨h1,h3⟩
   have hj0:(0:Int)≤(j:Int):=by omega
   have hj1:(j:Int)<(n:Int):=by omega
   have hwq:=eE j (by omega)
   have eO:=aB kd
   clear hsl kd
   obtain⟨nf,aEv⟩:∃ n,x.2.fields.length=n:=⟨_,rfl⟩
   obtain⟨nv,aEw⟩:∃ n,x.2.values.length=n:=⟨_,rfl⟩
   have Jw:=aB aEv
   have Fr:=aB aEw
   rw[aEv]at hfl e4 eO
   rw[aEw]at hvl e5 eO
   clear aEv aEw
   have hC:(w1.alloc (.cells #[.int .i64 x.2.kind,.string (aC x.2.name),.int .i64 x.2.line,.int .i64 x.2.col,.slice fa nf fc,.slice va nv vc,.slice ma x.2.methods.length mc,.slice ia x.2.inner.length ic,.string (aC x.1)] 117)).heap[w1.heap.size]? = some (.cells #[.int .i64 x.2.kind,.string (aC x.2.name),.int .i64 x.2.line,.int .i64 x.2.col,.slice fa nf fc,.slice va nv vc,.slice ma x.2.methods.length mc,.slice ia x.2.inner.length ic,.string (aC x.1)] 117 (0,0)):=alloc_heap_new _ _
   have bG:Below w1.heap.size w1 (w1.alloc (.cells #[.int .i64 x.2.kind,.string (aC x.2.name),.int .i64 x.2.line,.int .i64 x.2.col,.slice fa nf fc,.slice va nv vc,.slice ma x.2.methods.length mc,.slice ia x.2.inner.length ic,.string (aC x.1)] 117)):=(Below.refl _ w1).alloc (Nat.le_refl _) _
   go_upto_region 4 with fail
   generalize (w1.alloc (.cells #[.int .i64 x.2.kind,.string (aC x.2.name),.int .i64 x.2.line,.int .i64 x.2.col,.slice fa nf fc,.slice va nv vc,.slice ma x.2.methods.length mc,.slice ia x.2.inner.length ic,.string (aC x.1)] 117))=Y at *
   have l0:=aA hC 0 rfl
   have l1:=aA hC 1 rfl
   have l2:=aA hC 2 rfl
   have l3:=aA hC 3 rfl
   have l4:=aA hC 4 rfl
   have l5:=aA hC 5 rfl
   have l6:=aA hC 6 rfl
   have l7:=aA hC 7 rfl
   have l8:=aA hC 8 rfl
   have cE:=aB (HB.out.trans (bG.mono hsw))
   have sY:Hid (Y.heap[w.heap.size]? = some (.cells #[.int .i64 0,.int .i64 0] 31 (0,0))):=(bG.block _ hlt).trans HX.out
   have sW:Hid (Y.heap[w1.heap.size]? = _):=hC
   have hsy:w1.heap.size<Y.heap.size:=aN hC
   have yA:Hid (Kids f Y (fun b=>b<w.heap.size) _ _ _ _ x.2):=eO.out.old fun b hb=>bG.block b (by have hb':b<w.heap.size:=hb;omega)
   clear hC bG e0 e1 e2 e3 e4 e5 e6 e7 e8 eO
   by_cases hen:x.2.kind=2∧nv=0
   ·obtain⟨hk2,hv0⟩:=hen
    have fU:Hid (pF ps j=some (x.2.line,x.2.col)):=by
     refine(?_:_=_)
     rw[HG.out]
     unfold Pa
     rw[if_pos ⟨hk2,by rw[Fr.out];exact hv0⟩]
    rw[hk2]at l0
    have l5z:Y.cell? ⟨w1.heap.size,5,none⟩=some (.slice va 0 vc):=by rw[l5,hv0]
    clear l5 hv0 Fr
    have k0:=aA sY.out 0 rfl
    have k1:=aA sY.out 1 rfl
    have mI:=aF sY.out 0
    have mJ:=aF sY.out 1
    obtain⟨Z,hZ,r0,r1,fM⟩:=bS sY.out cE.out (Nat.le_refl _) x.2.line x.2.col
    have HZ:=aB hZ
    clear hZ
    go_wp2_with fail
    rw[HZ.out]
    refine bodyPost_ret (v:=.tuple #[.agg #[.int .i64 x.2.line,.int .i64 x.2.col],.bool true]) (by simp[results,Tryz.results27,go_sem,r0,r1]) rfl ?_
    exact⟨_,_,_,rfl,fM,.inr ⟨rfl,aI fW.out fU.out (by omega)⟩⟩
   have mK:Hid (∀ p,aQ (gV (dP x.2)) (nf+nv)=p↔pF ps j=p):=by
    refine(?_:∀ _,_)
    intro p
    rw[HG.out]
    unfold Pa
    rw[if_neg (by rw[Fr.out];exact hen),Vd,Jw.out,Fr.out]
   have hmm:=@run_makeMap Tryz.prog
   have yF:Below Y.heap.size Y (Y.alloc (.map #[] 0)):=(Below.refl _ Y).alloc (Nat.le_refl _) _
   have hM:(Y.alloc (.map #[] 0)).heap[Y.heap.size]? = some (.map #[] 0):=alloc_heap_new _ _
   have hen':((x.2.kind == 2)&&((nv:Int) == 0))=false:=by
    rw[Bool.eq_false_iff]
    intro h
    simp at h
    exact hen ⟨h.1,by omega⟩
   have Vg:Hid (x.2.kind=2→((nv:Int) == 0)=false):=by
    refine(?_:_→_)
    intro h
    simp
    intro h0
    exact hen ⟨h,h0⟩
   clear hen hen'
   have main:∀ (K:Int),K=x.2.kind→Y.cell? ⟨w1.heap.size,0,none⟩=some (.int .i64 K)→((K == 2)=false∨(K=2∧((nv:Int) == 0)=false))→True:=fun _ _ _ _=>trivial
   clear main
   by_cases hk2:x.2.kind=2
   ·have aLi:=Vg.out hk2
    have aSt:¬(nv:Int)=0:=by simpa using aLi
    rw[hk2]at l0
    clear Vg
    go_upto_region 7 with fail
    generalize (Y.alloc (.map #[] 0))=V at *
    have iA:=aB (cE.out.trans (yF.mono cE.out.size))
    have mV:Hid (V.heap[w.heap.size]? = some (.cells #[.int .i64 0,.int .i64 0] 31 (0,0))):=(yF.block _ (by omega)).trans sY.out
    have HVC:Hid (V.heap[w1.heap.size]? = _):=(yF.block _ hsy).trans sW.out
    have kI:Hid (cC 3 mF V Y.heap.size ([]:List Int)):=dZ _ _ hM
    have hVl:=aN hM
    have v4:=aA HVC.out 4 rfl
    have HKV:Hid (Kids f V (fun b=>b<w.heap.size) _ _ _ _ x.2):=yA.out.old fun b hb=>yF.block b (by have hb':b<w.heap.size:=hb;omega)
    clear yF hM hmm l0 l1 l2 l3 l4 l5 l6 l7 l8
    go_wp2_with fail
    clear v4 hk2 aLi aSt
    go_loopw [36] (fun i wr=>∃ k:Nat,i=.int .i64 (k:Int)∧k≤nf∧aQ (gV (dP x.2)) (k)=none∧Below w.heap.size w wr∧wr.heap[w.heap.size]? = some (.cells #[.int .i64 0,.int .i64 0] 31 (0,0))∧wr.heap[w1.heap.size]? = some (.cells #[.int .i64 x.2.kind,.string (aC x.2.name),.int .i64 x.2.line,.int .i64 x.2.col,.slice fa nf fc,.slice va nv vc,.slice ma x.2.methods.length mc,.slice ia x.2.inner.length ic,.string (aC x.1)] 117 (0,0))∧Y.heap.size<wr.heap.size∧cC 3 mF wr Y.heap.size (fK x.2 (k))) (fun i _=>nf - (intOf i).toNat)
    case atStart=>exact⟨0,rfl,Nat.zero_le _,rfl,iA.out,mV.out,HVC.out,hVl,kI.out⟩
    case round=>
     generalize wr=w2 at *
     obtain⟨k,rfl,hk,hfs,hbel,hd0,hdc,hdl,hd2⟩:=hrel
     have qT:=aB hfs
     have HB2:=aB hbel
     have rR:=aB hd0
     have tW:=aB hdc
     have Fs:=aB hd2
     have uO:=hbel.size
     clear hfs hbel hd0 hdc hd2
     by_cases hkn:k<nf
     ·obtain⟨y,hy⟩:∃ y,x.2.fields[k]? = some y:=⟨_,List.getElem?_eq_getElem (by have:=Jw.out;omega)⟩
      have eC:=Vb hy
      obtain⟨num,gL⟩:∃ m,y.num=m:=⟨_,rfl⟩
      have hnl:=wV (gI.out.2.1 y (List.mem_of_getElem? hy))
      rw[gL]at eC hnl
      have eC:(dP x.2)[k]? = some (num,(!fV num),(y.line,y.col)):=eC
      obtain⟨g2,o2,c2,hsl,hg2,e0,e1,e2,e3,e4,e5⟩:=jV HKV.out.1 (W:=w2) (fun b hb=>(HB2.out.block b hb).trans (iA.out.block b hb).symm) hy
      rw[Jw.out]at hsl
      obtain⟨rfl,rfl⟩:fa=some ⟨g2,o2,none⟩∧fc=c2:=by
       injection hsl with h1 _ h3
       exact⟨h1,h3⟩
      have mH:=aB (vI eC)
      have lB:=aB (kS eC)
      have hkl:=mM x.2 (k)
      rw[gL]at e3
      have hk0:(0:Int)≤(k:Int):=by omega
      have hk1:(k:Int)<(nf:Int):=by omega
      have hwk:=eE k (by omega)
      obtain⟨KS,lT⟩:∃ K,fK x.2 (k)=K:=⟨_,rfl⟩
      rw[lT]at Fs mH lB hkl
      obtain⟨BAD,qM⟩:∃ b,(!fV num)=b:=⟨_,rfl⟩
      rw[qM]at mH
      have HBAD:=aB qM
      clear hsl eC lT qM gL
      have hC:(w2.alloc (.cells #[.bool y.rep,.string (aC y.type),.string (aC y.name),.int .i64 num,.int .i64 y.line,.int .i64 y.col] 71)).heap[w2.heap.size]? = some (.cells #[.bool y.rep,.string (aC y.type),.string (aC y.name),.int .i64 num,.int .i64 y.line,.int .i64 y.col] 71 (0,0)):=alloc_heap_new _ _
      have bG:Below w2.heap.size w2 (w2.alloc (.cells #[.bool y.rep,.string (aC y.type),.string (aC y.name),.int .i64 num,.int .i64 y.line,.int .i64 y.col] 71)):=(Below.refl _ w2).alloc (Nat.le_refl _) _
      go_upto_region 10 with fail
      generalize (w2.alloc (.cells #[.bool y.rep,.string (aC y.type),.string (aC y.name),.int .i64 num,.int .i64 y.line,.int .i64 y.col] 71))=U at *
      have l0:=aA hC 0 rfl
      have l1:=aA hC 1 rfl
      have l2:=aA hC 2 rfl
      have l3:=aA hC 3 rfl
      have l4:=aA hC 4 rfl
      have l5:=aA hC 5 rfl
      have eY:=aB (HB2.out.trans (bG.mono uO))
      have nD:Hid (U.heap[w.heap.size]? = some (.cells #[.int .i64 0,.int .i64 0] 31 (0,0))):=(bG.block _ (by omega)).trans rR.out
      have vF:Hid (U.heap[w1.heap.size]? = _):=(bG.block _ (by omega)).trans tW.out
      have hadd:=nU Y.heap.size KS num U (Fs.out.old (bG.block _ hdl)) hnl (by omega)
      have Un:Hid (U.heap[w2.heap.size]? = _):=hC
      have hsu:w2.heap.size<U.heap.size:=aN hC
      clear hC bG e0 e1 e2 e3 e4 e5
      cases BAD
      case true=>
       have hfn:fV num=false:=by have:=HBAD.out;simpa using this
       have hfc:=rT num U
       rw[hfn]at hfc
       have fU:Hid (gV (dP x.2) (k)=some (y.line,y.col)):=by
        refine(?_:_=_)
        rw[mH.out,if_pos (.inl rfl)]
       have k0:=aA nD.out 0 rfl
       have k1:=aA nD.out 1 rfl
       have mI:=aF nD.out 0
       have mJ:=aF nD.out 1
       clear hadd hfn
       obtain⟨Z,hZ,r0,r1,fM⟩:=bS nD.out eY.out (Nat.le_refl _) y.line y.col
       have HZ:=aB hZ
       clear hZ
       go_wp2_with fail
       refine hfc.mono ?_
       rintro e u1 ⟨rfl,hu1⟩
       have hu1:=hu1.symm
       subst hu1
       go_wp2_with fail
       rw[HZ.out]
       refine bodyPost_ret (v:=.tuple #[.agg #[.int .i64 y.line,.int .i64 y.col],.bool true]) (by simp[results,Tryz.results27,go_sem,r0,r1]) rfl ?_
       exact⟨_,_,_,rfl,fM,.inr ⟨rfl,aI fW.out ((mK.out _).1 (aI qT.out fU.out (by omega))) (by omega)⟩⟩
      case false=>
       have hfn:fV num=true:=by have:=HBAD.out;simpa using this
       have hfc:=rT num U
       rw[hfn]at hfc
       clear hfn
       obtain⟨Fl,fX⟩:∃ b,(!decide (num∈KS))=b:=⟨_,rfl⟩
       rw[fX]at hadd
       have iB:=aB fX
       clear fX
       go_wp2_with fail
       refine hfc.mono ?_
       rintro e u1 ⟨rfl,hu1⟩
       have hu1:=hu1.symm
       subst hu1
       go_wp2_with fail
       refine hadd.mono ?_
       rintro e W2 ⟨rfl,hset,hgr⟩
       have hb2:Below w.heap.size w W2:=eY.out.grown hgr eY.out.size (fun b hb=>by cases hb;omega)
       have h20:W2.heap[w.heap.size]? = some (.cells #[.int .i64 0,.int .i64 0] 31 (0,0)):=(hgr.block _ (by omega) (by simp;omega)).trans nD.out
       have gH:W2.heap[w1.heap.size]? = _:=(hgr.block _ (by omega) (by simp;omega)).trans vF.out
       have wW:W2.heap[w2.heap.size]? = _:=(hgr.block _ hsu (by simp;omega)).trans Un.out
       have Vh:=hgr.size
       have p0:=aA wW 4 rfl
       have p1:=aA wW 5 rfl
       have k0:=aA h20 0 rfl
       have k1:=aA h20 1 rfl
       have mI:=aF h20 0
       have mJ:=aF h20 1
       have HB3:=aB hb2
       have vJ:=aB h20
       have Hn:=aB gH
       have pO:=aB hset
       clear hgr h20 gH wW hb2 hset l0 l1 l2 l3 l4 l5 hadd
       cases Fl
       case false=>
        have hmem:num∈KS:=by have:=iB.out;simpa using this
        have fU:Hid (gV (dP x.2) (k)=some (y.line,y.col)):=by
         refine(?_:_=_)
         rw[mH.out,if_pos (.inr hmem)]
        obtain⟨Z,hZ,r0,r1,fM⟩:=bS vJ.out HB3.out (Nat.le_refl _) y.line y.col
        have HZ:=aB hZ
        clear hZ hmem
        go_wp2_with fail
        rw[HZ.out]
        refine bodyPost_ret (v:=.tuple #[.agg #[.int .i64 y.line,.int .i64 y.col],.bool true]) (by simp[results,Tryz.results27,go_sem,r0,r1]) rfl ?_
        exact⟨_,_,_,rfl,fM,.inr ⟨rfl,aI fW.out ((mK.out _).1 (aI qT.out fU.out (by omega))) (by omega)⟩⟩
       case true=>
        have hmem:¬num∈KS:=by have:=iB.out;simpa using this
        have Vi:Hid (gV (dP x.2) (k)=none):=by
         refine(?_:_=_)
         rw[mH.out,if_neg (by rintro(h | h);cases h;exact hmem h)]
        clear hmem k0 k1 mI mJ p0 p1
        go_wp2_with fail
        go_roundw
        case rel=>exact⟨k+1,by go_num,by omega,bD qT.out Vi.out,HB3.out,vJ.out,Hn.out,by omega,by first | (rw[←Nat.add_assoc];rw[lB.out];exact pO.out) | (rw[lB.out];exact pO.out)⟩
        case measure=>simp[intOf];omega
     ·have hkn':¬(k:Int)<(nf:Int):=by omega
      have hke:k=nf:=by omega
      have uN:=aB hke
      have q5:=aA tW.out 5 rfl
      have HFN:Hid (aQ (gV (dP x.2)) (nf+0)=none):=by
       refine(?_:_=_)
       have:=qT.out;rw[uN.out]at this;exact this
      have Yb:Hid (cC 3 mF w2 Y.heap.size (fK x.2 (nf+0))):=by
       refine(?_:cC _ _ _ _ _)
       have:=Fs.out;rw[uN.out]at this;exact this
      clear hke hkn Fs hk qT uN
      go_wp2_with fail
      clear q5 hkn'
      have HBF:=HB2
      have HF0:=rR
      have HFC:=tW
      have hFl:=hdl
      clear HB2 rR tW hdl uO
      go_loopw [58] (fun i wr=>∃ k:Nat,i=.int .i64 (k:Int)∧k≤nv∧aQ (gV (dP x.2)) (nf+k)=none∧Below w.heap.size w wr∧wr.heap[w.heap.size]? = some (.cells #[.int .i64 0,.int .i64 0] 31 (0,0))∧wr.heap[w1.heap.size]? = some (.cells #[.int .i64 x.2.kind,.string (aC x.2.name),.int .i64 x.2.line,.int .i64 x.2.col,.slice fa nf fc,.slice va nv vc,.slice ma x.2.methods.length mc,.slice ia x.2.inner.length ic,.string (aC x.1)] 117 (0,0))∧Y.heap.size<wr.heap.size∧cC 3 mF wr Y.heap.size (fK x.2 (nf+k))) (fun i _=>nv - (intOf i).toNat)
      case atStart=>exact⟨0,rfl,Nat.zero_le _,HFN.out,HBF.out,HF0.out,HFC.out,hFl,Yb.out⟩
      case round=>
       generalize wr=w2 at *
       obtain⟨k,rfl,hk,hfs,hbel,hd0,hdc,hdl,hd2⟩:=hrel
       have qT:=aB hfs
       have HB2:=aB hbel
       have rR:=aB hd0
       have tW:=aB hdc
       have Fs:=aB hd2
       have uO:=hbel.size
       clear hfs hbel hd0 hdc hd2
       by_cases hkn:k<nv
       ·obtain⟨y,hy⟩:∃ y,x.2.values[k]? = some y:=⟨_,List.getElem?_eq_getElem (by have:=Fr.out;omega)⟩
        have eC:=by have:=Vc hy;rw[Jw.out]at this;exact this
        obtain⟨num,gL⟩:∃ m,y.num=m:=⟨_,rfl⟩
        have hnl:=wV (gI.out.2.2 y (List.mem_of_getElem? hy))
        rw[gL]at eC hnl
        have eC:(dP x.2)[nf+k]? = some (num,decide (k=0∧num≠0),(y.line,y.col)):=eC
        obtain⟨g2,o2,c2,hsl,hg2,e0,e1,e2,e3⟩:=rM HKV.out.2.1 (W:=w2) (fun b hb=>(HB2.out.block b hb).trans (iA.out.block b hb).symm) hy
        rw[Fr.out]at hsl
        obtain⟨rfl,rfl⟩:va=some ⟨g2,o2,none⟩∧vc=c2:=by
         injection hsl with h1 _ h3
         exact⟨h1,h3⟩
        have mH:=aB (vI eC)
        have lB:=aB (kS eC)
        have hkl:=mM x.2 (nf+k)
        rw[gL]at e1
        have hk0:(0:Int)≤(k:Int):=by omega
        have hk1:(k:Int)<(nv:Int):=by omega
        have hwk:=eE k (by omega)
        obtain⟨KS,lT⟩:∃ K,fK x.2 (nf+k)=K:=⟨_,rfl⟩
        rw[lT]at Fs mH lB hkl
        obtain⟨BAD,qM⟩:∃ b,decide (k=0∧num≠0)=b:=⟨_,rfl⟩
        rw[qM]at mH
        have HBAD:=aB qM
        clear hsl eC lT qM gL
        have hC:(w2.alloc (.cells #[.string (aC y.name),.int .i64 num,.int .i64 y.line,.int .i64 y.col] 74)).heap[w2.heap.size]? = some (.cells #[.string (aC y.name),.int .i64 num,.int .i64 y.line,.int .i64 y.col] 74 (0,0)):=alloc_heap_new _ _
        have bG:Below w2.heap.size w2 (w2.alloc (.cells #[.string (aC y.name),.int .i64 num,.int .i64 y.line,.int .i64 y.col] 74)):=(Below.refl _ w2).alloc (Nat.le_refl _) _
        go_upto_region 16 with fail
        generalize (w2.alloc (.cells #[.string (aC y.name),.int .i64 num,.int .i64 y.line,.int .i64 y.col] 74))=U at *
        have l0:=aA hC 0 rfl
        have l1:=aA hC 1 rfl
        have l2:=aA hC 2 rfl
        have l3:=aA hC 3 rfl
        have eY:=aB (HB2.out.trans (bG.mono uO))
        have nD:Hid (U.heap[w.heap.size]? = some (.cells #[.int .i64 0,.int .i64 0] 31 (0,0))):=(bG.block _ (by omega)).trans rR.out
        have vF:Hid (U.heap[w1.heap.size]? = _):=(bG.block _ (by omega)).trans tW.out
        have hadd:=nU Y.heap.size KS num U (Fs.out.old (bG.block _ hdl)) hnl (by omega)
        have Un:Hid (U.heap[w2.heap.size]? = _):=hC
        have hsu:w2.heap.size<U.heap.size:=aN hC
        clear hC bG e0 e1 e2 e3
        cases BAD
        case true=>
         obtain⟨wR,hnz⟩:k=0∧num≠0:=by have:=HBAD.out;simpa using this
         have hki:(k:Int)=0:=by omega
         have aSz:(num != 0)=true:=by simpa using hnz
         have fU:Hid (gV (dP x.2) (nf+k)=some (y.line,y.col)):=by
          refine(?_:_=_)
          rw[mH.out,if_pos (.inl rfl)]
         have k0:=aA nD.out 0 rfl
         have k1:=aA nD.out 1 rfl
         have mI:=aF nD.out 0
         have mJ:=aF nD.out 1
         subst wR
         clear hadd hki
         obtain⟨Z,hZ,r0,r1,fM⟩:=bS nD.out eY.out (Nat.le_refl _) y.line y.col
         have HZ:=aB hZ
         clear hZ
         go_wp2_with fail
         rw[HZ.out]
         refine bodyPost_ret (v:=.tuple #[.agg #[.int .i64 y.line,.int .i64 y.col],.bool true]) (by simp[results,Tryz.results27,go_sem,r0,r1]) rfl ?_
         exact⟨_,_,_,rfl,fM,.inr ⟨rfl,aI fW.out ((mK.out _).1 (aI qT.out fU.out (by omega))) (by omega)⟩⟩
        case false=>
         have hnb:¬(k=0∧num≠0):=by have:=HBAD.out;simpa using this
         obtain⟨Fl,fX⟩:∃ b,(!decide (num∈KS))=b:=⟨_,rfl⟩
         rw[fX]at hadd
         have iB:=aB fX
         clear fX
         by_cases wR:k=0
         ·have hyz:num=0:=by
           apply Classical.byContradiction
           intro h
           exact hnb ⟨wR,h⟩
          have hki:(k:Int)=0:=by omega
          subst hyz
          subst wR
          clear hnb hki
          go_wp2_with fail
          refine hadd.mono ?_
          rintro e W2 ⟨rfl,hset,hgr⟩
          have hb2:Below w.heap.size w W2:=eY.out.grown hgr eY.out.size (fun b hb=>by cases hb;omega)
          have h20:W2.heap[w.heap.size]? = some (.cells #[.int .i64 0,.int .i64 0] 31 (0,0)):=(hgr.block _ (by omega) (by simp;omega)).trans nD.out
          have gH:W2.heap[w1.heap.size]? = _:=(hgr.block _ (by omega) (by simp;omega)).trans vF.out
          have wW:W2.heap[w2.heap.size]? = _:=(hgr.block _ hsu (by simp;omega)).trans Un.out
          have Vh:=hgr.size
          have p0:=aA wW 2 rfl
          have p1:=aA wW 3 rfl
          have k0:=aA h20 0 rfl
          have k1:=aA h20 1 rfl
          have mI:=aF h20 0
          have mJ:=aF h20 1
          have HB3:=aB hb2
          have vJ:=aB h20
          have Hn:=aB gH
          have pO:=aB hset
          clear hgr h20 gH wW hb2 hset l0 l1 l2 l3 hadd
          cases Fl
          case false=>
           have hmem:(0:Int)∈KS:=by have:=iB.out;simpa using this
           have fU:Hid (gV (dP x.2) (nf+0)=some (y.line,y.col)):=by
            refine(?_:_=_)
            rw[mH.out,if_pos (.inr hmem)]
           obtain⟨Z,hZ,r0,r1,fM⟩:=bS vJ.out HB3.out (Nat.le_refl _) y.line y.col
           have HZ:=aB hZ
           clear hZ hmem
           go_wp2_with fail
           rw[HZ.out]
           refine bodyPost_ret (v:=.tuple #[.agg #[.int .i64 y.line,.int .i64 y.col],.bool true]) (by simp[results,Tryz.results27,go_sem,r0,r1]) rfl ?_
           exact⟨_,_,_,rfl,fM,.inr ⟨rfl,aI fW.out ((mK.out _).1 (aI qT.out fU.out (by omega))) (by omega)⟩⟩
          case true=>
           have hmem:¬(0:Int)∈KS:=by have:=iB.out;simpa using this
           have Vi:Hid (gV (dP x.2) (nf+0)=none):=by
            refine(?_:_=_)
            rw[mH.out,if_neg (by rintro(h | h);cases h;exact hmem h)]
           clear hmem k0 k1 mI mJ p0 p1
           go_wp2_with fail
           go_roundw
           case rel=>exact⟨0+1,by go_num,by omega,bD qT.out Vi.out,HB3.out,vJ.out,Hn.out,by omega,by first | (rw[←Nat.add_assoc];rw[lB.out];exact pO.out) | (rw[lB.out];exact pO.out)⟩
           case measure=>simp[intOf];omega
         ·have hki:((k:Int) == 0)=false:=by simp;omega
          have aTa:¬(k:Int)=0:=by omega
          clear hnb
          go_wp2_with fail
          refine hadd.mono ?_
          rintro e W2 ⟨rfl,hset,hgr⟩
          have hb2:Below w.heap.size w W2:=eY.out.grown hgr eY.out.size (fun b hb=>by cases hb;omega)
          have h20:W2.heap[w.heap.size]? = some (.cells #[.int .i64 0,.int .i64 0] 31 (0,0)):=(hgr.block _ (by omega) (by simp;omega)).trans nD.out
          have gH:W2.heap[w1.heap.size]? = _:=(hgr.block _ (by omega) (by simp;omega)).trans vF.out
          have wW:W2.heap[w2.heap.size]? = _:=(hgr.block _ hsu (by simp;omega)).trans Un.out
          have Vh:=hgr.size
          have p0:=aA wW 2 rfl
          have p1:=aA wW 3 rfl
          have k0:=aA h20 0 rfl
          have k1:=aA h20 1 rfl
          have mI:=aF h20 0
          have mJ:=aF h20 1
          have HB3:=aB hb2
          have vJ:=aB h20
          have Hn:=aB gH
          have pO:=aB hset
          clear hgr h20 gH wW hb2 hset l0 l1 l2 l3 hadd
          cases Fl
          case false=>
           have hmem:num∈KS:=by have:=iB.out;simpa using this
           have fU:Hid (gV (dP x.2) (nf+k)=some (y.line,y.col)):=by
            refine(?_:_=_)
            rw[mH.out,if_pos (.inr hmem)]
           obtain⟨Z,hZ,r0,r1,fM⟩:=bS vJ.out HB3.out (Nat.le_refl _) y.line y.col
           have HZ:=aB hZ
           clear hZ hmem
           go_wp2_with fail
           rw[HZ.out]
           refine bodyPost_ret (v:=.tuple #[.agg #[.int .i64 y.line,.int .i64 y.col],.bool true]) (by simp[results,Tryz.results27,go_sem,r0,r1]) rfl ?_
           exact⟨_,_,_,rfl,fM,.inr ⟨rfl,aI fW.out ((mK.out _).1 (aI qT.out fU.out (by omega))) (by omega)⟩⟩
          case true=>
           have hmem:¬num∈KS:=by have:=iB.out;simpa using this
           have Vi:Hid (gV (dP x.2) (nf+k)=none):=by
            refine(?_:_=_)
            rw[mH.out,if_neg (by rintro(h | h);cases h;exact hmem h)]
           clear hmem k0 k1 mI mJ p0 p1
           go_wp2_with fail
           go_roundw
           case rel=>exact⟨k+1,by go_num,by omega,bD qT.out Vi.out,HB3.out,vJ.out,Hn.out,by omega,by first | (rw[←Nat.add_assoc];rw[lB.out];exact pO.out) | (rw[lB.out];exact pO.out)⟩
           case measure=>simp[intOf];omega
       ·have hkn':¬(k:Int)<(nv:Int):=by omega
        have hke:k=nv:=by omega
        have uN:=aB hke
        have dR:Hid (pF ps j=none):=by
         refine(?_:_=_)
         refine(mK.out _).1 ?_
         rw[←uN.out];exact qT.out
        clear hke
        go_wp2_with fail
        go_roundw
        case rel=>exact⟨j+1,by go_num,by omega,bD fW.out dR.out,HB2.out,rR.out⟩
        case measure=>simp[intOf];omega
   ·have aLk:(x.2.kind == 2)=false:=by simp[hk2]
    clear Vg
    go_upto_region 7 with fail
    generalize (Y.alloc (.map #[] 0))=V at *
    have iA:=aB (cE.out.trans (yF.mono cE.out.size))
    have mV:Hid (V.heap[w.heap.size]? = some (.cells #[.int .i64 0,.int .i64 0] 31 (0,0))):=(yF.block _ (by omega)).trans sY.out
    have HVC:Hid (V.heap[w1.heap.size]? = _):=(yF.block _ hsy).trans sW.out
    have kI:Hid (cC 3 mF V Y.heap.size ([]:List Int)):=dZ _ _ hM
    have hVl:=aN hM
    have v4:=aA HVC.out 4 rfl
    have HKV:Hid (Kids f V (fun b=>b<w.heap.size) _ _ _ _ x.2):=yA.out.old fun b hb=>yF.block b (by have hb':b<w.heap.size:=hb;omega)
    clear yF hM hmm l0 l1 l2 l3 l4 l5 l6 l7 l8
    go_wp2_with fail
    clear v4 hk2 aLk
    go_loopw [36] (fun i wr=>∃ k:Nat,i=.int .i64 (k:Int)∧k≤nf∧aQ (gV (dP x.2)) (k)=none∧Below w.heap.size w wr∧wr.heap[w.heap.size]? = some (.cells #[.int .i64 0,.int .i64 0] 31 (0,0))∧wr.heap[w1.heap.size]? = some (.cells #[.int .i64 x.2.kind,.string (aC x.2.name),.int .i64 x.2.line,.int .i64 x.2.col,.slice fa nf fc,.slice va nv vc,.slice ma x.2.methods.length mc,.slice ia x.2.inner.length ic,.string (aC x.1)] 117 (0,0))∧Y.heap.size<wr.heap.size∧cC 3 mF wr Y.heap.size (fK x.2 (k))) (fun i _=>nf - (intOf i).toNat)
    case atStart=>exact⟨0,rfl,Nat.zero_le _,rfl,iA.out,mV.out,HVC.out,hVl,kI.out⟩
    case round=>
     generalize wr=w2 at *
     obtain⟨k,rfl,hk,hfs,hbel,hd0,hdc,hdl,hd2⟩:=hrel
     have qT:=aB hfs
     have HB2:=aB hbel
     have rR:=aB hd0
     have tW:=aB hdc
     have Fs:=aB hd2
     have uO:=hbel.size
     clear hfs hbel hd0 hdc hd2
     by_cases hkn:k<nf
     ·obtain⟨y,hy⟩:∃ y,x.2.fields[k]? = some y:=⟨_,List.getElem?_eq_getElem (by have:=Jw.out;omega)⟩
      have eC:=Vb hy
      obtain⟨num,gL⟩:∃ m,y.num=m:=⟨_,rfl⟩
      have hnl:=wV (gI.out.2.1 y (List.mem_of_getElem? hy))
      rw[gL]at eC hnl
      have eC:(dP x.2)[k]? = some (num,(!fV num),(y.line,y.col)):=eC
      obtain⟨g2,o2,c2,hsl,hg2,e0,e1,e2,e3,e4,e5⟩:=jV HKV.out.1 (W:=w2) (fun b hb=>(HB2.out.block b hb).trans (iA.out.block b hb).symm) hy
      rw[Jw.out]at hsl
      obtain⟨rfl,rfl⟩:fa=some ⟨g2,o2,none⟩∧fc=c2:=by
       injection hsl with h1 _ h3
       exact⟨h1,h3⟩
      have mH:=aB (vI eC)
      have lB:=aB (kS eC)
      have hkl:=mM x.2 (k)
      rw[gL]at e3
      have hk0:(0:Int)≤(k:Int):=by omega
      have hk1:(k:Int)<(nf:Int):=by omega
      have hwk:=eE k (by omega)
      obtain⟨KS,lT⟩:∃ K,fK x.2 (k)=K:=⟨_,rfl⟩
      rw[lT]at Fs mH lB hkl
      obtain⟨BAD,qM⟩:∃ b,(!fV num)=b:=⟨_,rfl⟩
      rw[qM]at mH
      have HBAD:=aB qM
      clear hsl eC lT qM gL
      have hC:(w2.alloc (.cells #[.bool y.rep,.string (aC y.type),.string (aC y.name),.int .i64 num,.int .i64 y.line,.int .i64 y.col] 71)).heap[w2.heap.size]? = some (.cells #[.bool y.rep,.string (aC y.type),.string (aC y.name),.int .i64 num,.int .i64 y.line,.int .i64 y.col] 71 (0,0)):=alloc_heap_new _ _
      have bG:Below w2.heap.size w2 (w2.alloc (.cells #[.bool y.rep,.string (aC y.type),.string (aC y.name),.int .i64 num,.int .i64 y.line,.int .i64 y.col] 71)):=(Below.refl _ w2).alloc (Nat.le_refl _) _
      go_upto_region 10 with fail
      generalize (w2.alloc (.cells #[.bool y.rep,.string (aC y.type),.string (aC y.name),.int .i64 num,.int .i64 y.line,.int .i64 y.col] 71))=U at *
      have l0:=aA hC 0 rfl
      have l1:=aA hC 1 rfl
      have l2:=aA hC 2 rfl
      have l3:=aA hC 3 rfl
      have l4:=aA hC 4 rfl
      have l5:=aA hC 5 rfl
      have eY:=aB (HB2.out.trans (bG.mono uO))
      have nD:Hid (U.heap[w.heap.size]? = some (.cells #[.int .i64 0,.int .i64 0] 31 (0,0))):=(bG.block _ (by omega)).trans rR.out
      have vF:Hid (U.heap[w1.heap.size]? = _):=(bG.block _ (by omega)).trans tW.out
      have hadd:=nU Y.heap.size KS num U (Fs.out.old (bG.block _ hdl)) hnl (by omega)
      have Un:Hid (U.heap[w2.heap.size]? = _):=hC
      have hsu:w2.heap.size<U.heap.size:=aN hC
      clear hC bG e0 e1 e2 e3 e4 e5
      cases BAD
      case true=>
       have hfn:fV num=false:=by have:=HBAD.out;simpa using this
       have hfc:=rT num U
       rw[hfn]at hfc
       have fU:Hid (gV (dP x.2) (k)=some (y.line,y.col)):=by
        refine(?_:_=_)
        rw[mH.out,if_pos (.inl rfl)]
       have k0:=aA nD.out 0 rfl
       have k1:=aA nD.out 1 rfl
       have mI:=aF nD.out 0
       have mJ:=aF nD.out 1
       clear hadd hfn
       obtain⟨Z,hZ,r0,r1,fM⟩:=bS nD.out eY.out (Nat.le_refl _) y.line y.col
       have HZ:=aB hZ
       clear hZ
       go_wp2_with fail
       refine hfc.mono ?_
       rintro e u1 ⟨rfl,hu1⟩
       have hu1:=hu1.symm
       subst hu1
       go_wp2_with fail
       rw[HZ.out]
       refine bodyPost_ret (v:=.tuple #[.agg #[.int .i64 y.line,.int .i64 y.col],.bool true]) (by simp[results,Tryz.results27,go_sem,r0,r1]) rfl ?_
       exact⟨_,_,_,rfl,fM,.inr ⟨rfl,aI fW.out ((mK.out _).1 (aI qT.out fU.out (by omega))) (by omega)⟩⟩
      case false=>
       have hfn:fV num=true:=by have:=HBAD.out;simpa using this
       have hfc:=rT num U
       rw[hfn]at hfc
       clear hfn
       obtain⟨Fl,fX⟩:∃ b,(!decide (num∈KS))=b:=⟨_,rfl⟩
       rw[fX]at hadd
       have iB:=aB fX
       clear fX
       go_wp2_with fail
       refine hfc.mono ?_
       rintro e u1 ⟨rfl,hu1⟩
       have hu1:=hu1.symm
       subst hu1
       go_wp2_with fail
       refine hadd.mono ?_
       rintro e W2 ⟨rfl,hset,hgr⟩
       have hb2:Below w.heap.size w W2:=eY.out.grown hgr eY.out.size (fun b hb=>by cases hb;omega)
       have h20:W2.heap[w.heap.size]? = some (.cells #[.int .i64 0,.int .i64 0] 31 (0,0)):=(hgr.block _ (by omega) (by simp;omega)).trans nD.out
       have gH:W2.heap[w1.heap.size]? = _:=(hgr.block _ (by omega) (by simp;omega)).trans vF.out
       have wW:W2.heap[w2.heap.size]? = _:=(hgr.block _ hsu (by simp;omega)).trans Un.out
       have Vh:=hgr.size
       have p0:=aA wW 4 rfl
       have p1:=aA wW 5 rfl
       have k0:=aA h20 0 rfl
       have k1:=aA h20 1 rfl
       have mI:=aF h20 0
       have mJ:=aF h20 1
       have HB3:=aB hb2
       have vJ:=aB h20
       have Hn:=aB gH
       have pO:=aB hset
       clear hgr h20 gH wW hb2 hset l0 l1 l2 l3 l4 l5 hadd
       cases Fl
       case false=>
        have hmem:num∈KS:=by have:=iB.out;simpa using this
        have fU:Hid (gV (dP x.2) (k)=some (y.line,y.col)):=by
         refine(?_:_=_)
         rw[mH.out,if_pos (.inr hmem)]
        obtain⟨Z,hZ,r0,r1,fM⟩:=bS vJ.out HB3.out (Nat.le_refl _) y.line y.col
        have HZ:=aB hZ
        clear hZ hmem
        go_wp2_with fail
        rw[HZ.out]
        refine bodyPost_ret (v:=.tuple #[.agg #[.int .i64 y.line,.int .i64 y.col],.bool true]) (by simp[results,Tryz.results27,go_sem,r0,r1]) rfl ?_
        exact⟨_,_,_,rfl,fM,.inr ⟨rfl,aI fW.out ((mK.out _).1 (aI qT.out fU.out (by omega))) (by omega)⟩⟩
       case true=>
        have hmem:¬num∈KS:=by have:=iB.out;simpa using this
        have Vi:Hid (gV (dP x.2) (k)=none):=by
         refine(?_:_=_)
         rw[mH.out,if_neg (by rintro(h | h);cases h;exact hmem h)]
        clear hmem k0 k1 mI mJ p0 p1
        go_wp2_with fail
        go_roundw
        case rel=>exact⟨k+1,by go_num,by omega,bD qT.out Vi.out,HB3.out,vJ.out,Hn.out,by omega,by first | (rw[←Nat.add_assoc];rw[lB.out];exact pO.out) | (rw[lB.out];exact pO.out)⟩
        case measure=>simp[intOf];omega
     ·have hkn':¬(k:Int)<(nf:Int):=by omega
      have hke:k=nf:=by omega
      have uN:=aB hke
      have q5:=aA tW.out 5 rfl
      have HFN:Hid (aQ (gV (dP x.2)) (nf+0)=none):=by
       refine(?_:_=_)
       have:=qT.out;rw[uN.out]at this;exact this
      have Yb:Hid (cC 3 mF w2 Y.heap.size (fK x.2 (nf+0))):=by
       refine(?_:cC _ _ _ _ _)
       have:=Fs.out;rw[uN.out]at this;exact this
      clear hke hkn Fs hk qT uN
      go_wp2_with fail
      clear q5 hkn'
      have HBF:=HB2
      have HF0:=rR
      have HFC:=tW
      have hFl:=hdl
      clear HB2 rR tW hdl uO
      go_loopw [58] (fun i wr=>∃ k:Nat,i=.int .i64 (k:Int)∧k≤nv∧aQ (gV (dP x.2)) (nf+k)=none∧Below w.heap.size w wr∧wr.heap[w.heap.size]? = some (.cells #[.int .i64 0,.int .i64 0] 31 (0,0))∧wr.heap[w1.heap.size]? = some (.cells #[.int .i64 x.2.kind,.string (aC x.2.name),.int .i64 x.2.line,.int .i64 x.2.col,.slice fa nf fc,.slice va nv vc,.slice ma x.2.methods.length mc,.slice ia x.2.inner.length ic,.string (aC x.1)] 117 (0,0))∧Y.heap.size<wr.heap.size∧cC 3 mF wr Y.heap.size (fK x.2 (nf+k))) (fun i _=>nv - (intOf i).toNat)
      case atStart=>exact⟨0,rfl,Nat.zero_le _,HFN.out,HBF.out,HF0.out,HFC.out,hFl,Yb.out⟩
      case round=>
       generalize wr=w2 at *
       obtain⟨k,rfl,hk,hfs,hbel,hd0,hdc,hdl,hd2⟩:=hrel
       have qT:=aB hfs
       have HB2:=aB hbel
       have rR:=aB hd0
       have tW:=aB hdc
       have Fs:=aB hd2
       have uO:=hbel.size
       clear hfs hbel hd0 hdc hd2
       by_cases hkn:k<nv
       ·obtain⟨y,hy⟩:∃ y,x.2.values[k]? = some y:=⟨_,List.getElem?_eq_getElem (by have:=Fr.out;omega)⟩
        have eC:=by have:=Vc hy;rw[Jw.out]at this;exact this
        obtain⟨num,gL⟩:∃ m,y.num=m:=⟨_,rfl⟩
        have hnl:=wV (gI.out.2.2 y (List.mem_of_getElem? hy))
        rw[gL]at eC hnl
        have eC:(dP x.2)[nf+k]? = some (num,decide (k=0∧num≠0),(y.line,y.col)):=eC
        obtain⟨g2,o2,c2,hsl,hg2,e0,e1,e2,e3⟩:=rM HKV.out.2.1 (W:=w2) (fun b hb=>(HB2.out.block b hb).trans (iA.out.block b hb).symm) hy
        rw[Fr.out]at hsl
        obtain⟨rfl,rfl⟩:va=some ⟨g2,o2,none⟩∧vc=c2:=by
         injection hsl with h1 _ h3
         exact⟨h1,h3⟩
        have mH:=aB (vI eC)
        have lB:=aB (kS eC)
        have hkl:=mM x.2 (nf+k)
        rw[gL]at e1
        have hk0:(0:Int)≤(k:Int):=by omega
        have hk1:(k:Int)<(nv:Int):=by omega
        have hwk:=eE k (by omega)
        obtain⟨KS,lT⟩:∃ K,fK x.2 (nf+k)=K:=⟨_,rfl⟩
        rw[lT]at Fs mH lB hkl
        obtain⟨BAD,qM⟩:∃ b,decide (k=0∧num≠0)=b:=⟨_,rfl⟩
        rw[qM]at mH
        have HBAD:=aB qM
        clear hsl eC lT qM gL
        have hC:(w2.alloc (.cells #[.string (aC y.name),.int .i64 num,.int .i64 y.line,.int .i64 y.col] 74)).heap[w2.heap.size]? = some (.cells #[.string (aC y.name),.int .i64 num,.int .i64 y.line,.int .i64 y.col] 74 (0,0)):=alloc_heap_new _ _
        have bG:Below w2.heap.size w2 (w2.alloc (.cells #[.string (aC y.name),.int .i64 num,.int .i64 y.line,.int .i64 y.col] 74)):=(Below.refl _ w2).alloc (Nat.le_refl _) _
        go_upto_region 16 with fail
        generalize (w2.alloc (.cells #[.string (aC y.name),.int .i64 num,.int .i64 y.line,.int .i64 y.col] 74))=U at *
        have l0:=aA hC 0 rfl
        have l1:=aA hC 1 rfl
        have l2:=aA hC 2 rfl
        have l3:=aA hC 3 rfl
        have eY:=aB (HB2.out.trans (bG.mono uO))
        have nD:Hid (U.heap[w.heap.size]? = some (.cells #[.int .i64 0,.int .i64 0] 31 (0,0))):=(bG.block _ (by omega)).trans rR.out
        have vF:Hid (U.heap[w1.heap.size]? = _):=(bG.block _ (by omega)).trans tW.out
        have hadd:=nU Y.heap.size KS num U (Fs.out.old (bG.block _ hdl)) hnl (by omega)
        have Un:Hid (U.heap[w2.heap.size]? = _):=hC
        have hsu:w2.heap.size<U.heap.size:=aN hC
        clear hC bG e0 e1 e2 e3
        cases BAD
        case true=>
         obtain⟨wR,hnz⟩:k=0∧num≠0:=by have:=HBAD.out;simpa using this
         have hki:(k:Int)=0:=by omega
         have aSz:(num != 0)=true:=by simpa using hnz
         have fU:Hid (gV (dP x.2) (nf+k)=some (y.line,y.col)):=by
          refine(?_:_=_)
          rw[mH.out,if_pos (.inl rfl)]
         have k0:=aA nD.out 0 rfl
         have k1:=aA nD.out 1 rfl
         have mI:=aF nD.out 0
         have mJ:=aF nD.out 1
         subst wR
         clear hadd hki
         obtain⟨Z,hZ,r0,r1,fM⟩:=bS nD.out eY.out (Nat.le_refl _) y.line y.col
         have HZ:=aB hZ
         clear hZ
         go_wp2_with fail
         rw[HZ.out]
         refine bodyPost_ret (v:=.tuple #[.agg #[.int .i64 y.line,.int .i64 y.col],.bool true]) (by simp[results,Tryz.results27,go_sem,r0,r1]) rfl ?_
         exact⟨_,_,_,rfl,fM,.inr ⟨rfl,aI fW.out ((mK.out _).1 (aI qT.out fU.out (by omega))) (by omega)⟩⟩
        case false=>
         have hnb:¬(k=0∧num≠0):=by have:=HBAD.out;simpa using this
         obtain⟨Fl,fX⟩:∃ b,(!decide (num∈KS))=b:=⟨_,rfl⟩
         rw[fX]at hadd
         have iB:=aB fX
         clear fX
         by_cases wR:k=0
         ·have hyz:num=0:=by
           apply Classical.byContradiction
           intro h
           exact hnb ⟨wR,h⟩
          have hki:(k:Int)=0:=by omega
          subst hyz
          subst wR
          clear hnb hki
          go_wp2_with fail
          refine hadd.mono ?_
          rintro e W2 ⟨rfl,hset,hgr⟩
          have hb2:Below w.heap.size w W2:=eY.out.grown hgr eY.out.size (fun b hb=>by cases hb;omega)
          have h20:W2.heap[w.heap.size]? = some (.cells #[.int .i64 0,.int .i64 0] 31 (0,0)):=(hgr.block _ (by omega) (by simp;omega)).trans nD.out
          have gH:W2.heap[w1.heap.size]? = _:=(hgr.block _ (by omega) (by simp;omega)).trans vF.out
          have wW:W2.heap[w2.heap.size]? = _:=(hgr.block _ hsu (by simp;omega)).trans Un.out
          have Vh:=hgr.size
          have p0:=aA wW 2 rfl
          have p1:=aA wW 3 rfl
          have k0:=aA h20 0 rfl
          have k1:=aA h20 1 rfl
          have mI:=aF h20 0
          have mJ:=aF h20 1
          have HB3:=aB hb2
          have vJ:=aB h20
          have Hn:=aB gH
          have pO:=aB hset
          clear hgr h20 gH wW hb2 hset l0 l1 l2 l3 hadd
          cases Fl
          case false=>
           have hmem:(0:Int)∈KS:=by have:=iB.out;simpa using this
           have fU:Hid (gV (dP x.2) (nf+0)=some (y.line,y.col)):=by
            refine(?_:_=_)
            rw[mH.out,if_pos (.inr hmem)]
           obtain⟨Z,hZ,r0,r1,fM⟩:=bS vJ.out HB3.out (Nat.le_refl _) y.line y.col
           have HZ:=aB hZ
           clear hZ hmem
           go_wp2_with fail
           rw[HZ.out]
           refine bodyPost_ret (v:=.tuple #[.agg #[.int .i64 y.line,.int .i64 y.col],.bool true]) (by simp[results,Tryz.results27,go_sem,r0,r1]) rfl ?_
           exact⟨_,_,_,rfl,fM,.inr ⟨rfl,aI fW.out ((mK.out _).1 (aI qT.out fU.out (by omega))) (by omega)⟩⟩
          case true=>
           have hmem:¬(0:Int)∈KS:=by have:=iB.out;simpa using this
           have Vi:Hid (gV (dP x.2) (nf+0)=none):=by
            refine(?_:_=_)
            rw[mH.out,if_neg (by rintro(h | h);cases h;exact hmem h)]
           clear hmem k0 k1 mI mJ p0 p1
           go_wp2_with fail
           go_roundw
           case rel=>exact⟨0+1,by go_num,by omega,bD qT.out Vi.out,HB3.out,vJ.out,Hn.out,by omega,by first | (rw[←Nat.add_assoc];rw[lB.out];exact pO.out) | (rw[lB.out];exact pO.out)⟩
           case measure=>simp[intOf];omega
         ·have hki:((k:Int) == 0)=false:=by simp;omega
          have aTa:¬(k:Int)=0:=by omega
          clear hnb
          go_wp2_with fail
          refine hadd.mono ?_
          rintro e W2 ⟨rfl,hset,hgr⟩
          have hb2:Below w.heap.size w W2:=eY.out.grown hgr eY.out.size (fun b hb=>by cases hb;omega)
          have h20:W2.heap[w.heap.size]? = some (.cells #[.int .i64 0,.int .i64 0] 31 (0,0)):=(hgr.block _ (by omega) (by simp;omega)).trans nD.out
          have gH:W2.heap[w1.heap.size]? = _:=(hgr.block _ (by omega) (by simp;omega)).trans vF.out
          have wW:W2.heap[w2.heap.size]? = _:=(hgr.block _ hsu (by simp;omega)).trans Un.out
          have Vh:=hgr.size
          have p0:=aA wW 2 rfl
          have p1:=aA wW 3 rfl
          have k0:=aA h20 0 rfl
          have k1:=aA h20 1 rfl
          have mI:=aF h20 0
          have mJ:=aF h20 1
          have HB3:=aB hb2
          have vJ:=aB h20
          have Hn:=aB gH
          have pO:=aB hset
          clear hgr h20 gH wW hb2 hset l0 l1 l2 l3 hadd
          cases Fl
          case false=>
           have hmem:num∈KS:=by have:=iB.out;simpa using this
           have fU:Hid (gV (dP x.2) (nf+k)=some (y.line,y.col)):=by
            refine(?_:_=_)
            rw[mH.out,if_pos (.inr hmem)]
           obtain⟨Z,hZ,r0,r1,fM⟩:=bS vJ.out HB3.out (Nat.le_refl _) y.line y.col
           have HZ:=aB hZ
           clear hZ hmem
           go_wp2_with fail
           rw[HZ.out]
           refine bodyPost_ret (v:=.tuple #[.agg #[.int .i64 y.line,.int .i64 y.col],.bool true]) (by simp[results,Tryz.results27,go_sem,r0,r1]) rfl ?_
           exact⟨_,_,_,rfl,fM,.inr ⟨rfl,aI fW.out ((mK.out _).1 (aI qT.out fU.out (by omega))) (by omega)⟩⟩
          case true=>
           have hmem:¬num∈KS:=by have:=iB.out;simpa using this
           have Vi:Hid (gV (dP x.2) (nf+k)=none):=by
            refine(?_:_=_)
            rw[mH.out,if_neg (by rintro(h | h);cases h;exact hmem h)]
           clear hmem k0 k1 mI mJ p0 p1
           go_wp2_with fail
           go_roundw
           case rel=>exact⟨k+1,by go_num,by omega,bD qT.out Vi.out,HB3.out,vJ.out,Hn.out,by omega,by first | (rw[←Nat.add_assoc];rw[lB.out];exact pO.out) | (rw[lB.out];exact pO.out)⟩
           case measure=>simp[intOf];omega
       ·have hkn':¬(k:Int)<(nv:Int):=by omega
        have hke:k=nv:=by omega
        have uN:=aB hke
        have dR:Hid (pF ps j=none):=by
         refine(?_:_=_)
         refine(mK.out _).1 ?_
         rw[←uN.out];exact qT.out
        clear hke
        go_wp2_with fail
        go_roundw
        case rel=>exact⟨j+1,by go_num,by omega,bD fW.out dR.out,HB2.out,rR.out⟩
        case measure=>simp[intOf];omega
  ·have sZ:¬(j:Int)<(n:Int):=by omega
   have pD:j=n:=by omega
   obtain⟨Z,hZ,r0,r1,fM⟩:=bS HX.out HB.out (Nat.le_refl _) 0 0
   have HZ:=aB hZ
   have k0:=aA HX.out 0 rfl
   have k1:=aA HX.out 1 rfl
   have mI:=aF HX.out 0
   have mJ:=aF HX.out 1
   have HJE:=aB pD
   clear hZ pD hjn
   go_wp2_with fail
   rw[HZ.out]
   refine bodyPost_ret (v:=.tuple #[.agg #[.int .i64 0,.int .i64 0],.bool false]) (by simp[results,Tryz.results27,go_sem,r0,r1]) rfl ?_
   exact⟨_,_,_,rfl,fM,.inl ⟨by rw[←HJE.out];exact fW.out,rfl,rfl,rfl⟩⟩
end Go.Proofs.YtpojeinddnjpfaaGreatDoor
