/-
  Walks and plain words (ShB).
-/
import Derived.Test.YtpojeinddnjpfaaGreatDoorM0
import Derived.Test.YtpojeinddnjpfaaGreatDoorM16
namespace Go.Proofs.YtpojeinddnjpfaaGreatDoor
set_option linter.unusedVariables false
open Go.ChangeShapes Go.WideShapes Go.ChangeAt Go.RowKit Go.Maps

def fJ (d:Dc) (t:Nat):List (List UInt8):=d.inner.map (·.name)++((gP d).take t).map (·.1)
theorem nW {d:Dc} {t:Nat} {a:List UInt8 × (Int × Int)} (h:(gP d)[t]? = some a):fJ d (t+1)=fJ d t++[a.1]:=by
 unfold fJ
 rw[aY h,List.map_append,List.append_assoc];rfl
theorem Bj {d:Dc} {t:Nat} {a:List UInt8 × (Int × Int)} (h:(gP d)[t]? = some a):qD (d.inner.map (·.name)) (gP d) t=if a.1∈fJ d t then some a.2 else none:=by
 unfold qD
 rw[h];rfl
theorem qJ (d:Dc) (t:Nat):(fJ d t).length≤d.inner.length+t:=by
 unfold fJ
 simp only[List.length_append,List.length_map,List.length_take]
 omega
theorem aKy {d:Dc} {k:Nat} {y:Fd} (h:d.fields[k]? = some y):(gP d)[k]? = some (y.name,(y.line,y.col)):=by
 unfold gP
 have hk:=(List.getElem?_eq_some_iff.1 h).1
 rw[List.getElem?_append_left (by simpa using hk),List.getElem?_map,h];rfl
theorem aKz {d:Dc} {k:Nat} {y:Vl} (h:d.values[k]? = some y):(gP d)[d.fields.length+k]? = some (y.name,(y.line,y.col)):=by
 unfold gP
 have hk:=(List.getElem?_eq_some_iff.1 h).1
 rw[List.getElem?_append_right (by simp),List.getElem?_append_left (by simp;omega),List.getElem?_map]
 simp[h]
theorem aLa {d:Dc} {k:Nat} {y:Mt} (h:d.methods[k]? = some y):(gP d)[d.fields.length+d.values.length+k]? = some (y.name,(y.line,y.col)):=by
 unfold gP
 have hk:=(List.getElem?_eq_some_iff.1 h).1
 rw[List.getElem?_append_right (by simp;omega),List.getElem?_append_right (by simp;omega),List.getElem?_map]
 have:d.fields.length+d.values.length+k - (d.fields.map fun f=>(f.name,(f.line,f.col))).length - (d.values.map fun f=>(f.name,(f.line,f.col))).length=k:=by simp;omega
 rw[this,h];rfl
theorem aAd (d:Dc):(gP d).length=d.fields.length+d.values.length+d.methods.length:=by
 unfold gP
 simp only[List.length_append,List.length_map]
 omega
def Bk (d:Dc):Prop:=(d.inner.length≤100000∧d.fields.length≤100000∧d.values.length≤100000∧d.methods.length≤100000)∧(∀ x∈d.inner,x.name.length≤1000000000)∧(∀ x∈d.fields,x.name.length≤1000000000)∧(∀ x∈d.values,x.name.length≤1000000000)∧(∀ x∈d.methods,x.name.length≤1000000000)
set_option maxHeartbeats 16000000 in
set_option maxRecDepth 20000 in
theorem Fj (f:Nat) (d:Dc) (fa va ma ia:Option Addr) (fc vc mc ic:Nat) (w:World) (hft:Bk d) (kd:Kids (f+1) w (fun b=>b<w.heap.size) (.slice fa d.fields.length fc) (.slice va d.values.length vc) (.slice ma d.methods.length mc) (.slice ia d.inner.length ic) d) :
  Calls Tryz.prog 58 #[.agg #[.int .i64 d.kind,.string (aC d.name),.int .i64 d.line,.int .i64 d.col,.slice fa d.fields.length fc,.slice va d.values.length vc,.slice ma d.methods.length mc,.slice ia d.inner.length ic]] w fun e w'=>wN w (zH d) e w':=by
 have rQ:=aB hft
 have eO:=aB kd
 obtain⟨⟨hni,hnf,Zp,hnm⟩,-⟩:=hft
 obtain⟨ni,hni'⟩:∃ n,d.inner.length=n:=⟨_,rfl⟩
 obtain⟨nf,Ug⟩:∃ n,d.fields.length=n:=⟨_,rfl⟩
 obtain⟨nv,Uh⟩:∃ n,d.values.length=n:=⟨_,rfl⟩
 obtain⟨nm,hnm'⟩:∃ n,d.methods.length=n:=⟨_,rfl⟩
 have HNI:=aB hni'
 have gI:=aB Ug
 have Pi:=aB Uh
 have xS:=aB hnm'
 rw[hni']at hni
 rw[Ug]at hnf
 rw[Uh]at Zp
 rw[hnm']at hnm
 rw[hni',Ug,Uh,hnm']at eO ⊢
 obtain⟨RES,Jq⟩:∃ r,zH d=r:=⟨_,rfl⟩
 have qF:Hid (∀ p,aQ (qD (d.inner.map (·.name)) (gP d)) (nf+nv+nm)=p↔RES=p):=by
  refine(?_:∀ _,_)
  intro p
  rw[←Jq];unfold zH;rw[aAd,Ug,Uh,hnm']
 rw[Jq]
 clear kd hni' Ug Uh hnm' Jq
 go_enter Tryz.func58,Tryz.ntmps58
 have hmm:=@run_makeMap Tryz.prog
 have jS:(w.alloc (.cells #[.int .i64 d.kind,.string (aC d.name),.int .i64 d.line,.int .i64 d.col,.slice fa nf fc,.slice va nv vc,.slice ma nm mc,.slice ia ni ic] 69)).heap[w.heap.size]? = some (.cells #[.int .i64 d.kind,.string (aC d.name),.int .i64 d.line,.int .i64 d.col,.slice fa nf fc,.slice va nv vc,.slice ma nm mc,.slice ia ni ic] 69 (0,0)):=alloc_heap_new _ _
 have hV1:((w.alloc (.cells #[.int .i64 d.kind,.string (aC d.name),.int .i64 d.line,.int .i64 d.col,.slice fa nf fc,.slice va nv vc,.slice ma nm mc,.slice ia ni ic] 69)).alloc (.cells #[.int .i64 0,.int .i64 0] 31)).heap[w.heap.size+1]? = some (.cells #[.int .i64 0,.int .i64 0] 31 (0,0)):=by
  have:=alloc_heap_new (w.alloc (.cells #[.int .i64 d.kind,.string (aC d.name),.int .i64 d.line,.int .i64 d.col,.slice fa nf fc,.slice va nv vc,.slice ma nm mc,.slice ia ni ic] 69)) (.cells #[.int .i64 0,.int .i64 0] 31)
  simpa using this
 have dO:Below w.heap.size w (((w.alloc (.cells #[.int .i64 d.kind,.string (aC d.name),.int .i64 d.line,.int .i64 d.col,.slice fa nf fc,.slice va nv vc,.slice ma nm mc,.slice ia ni ic] 69)).alloc (.cells #[.int .i64 0,.int .i64 0] 31)).alloc (.map #[] 0)):=(((Below.refl _ w).alloc (Nat.le_refl _) _).alloc (by simp) _).alloc (by simp;omega) _
 have hW2:(((w.alloc (.cells #[.int .i64 d.kind,.string (aC d.name),.int .i64 d.line,.int .i64 d.col,.slice fa nf fc,.slice va nv vc,.slice ma nm mc,.slice ia ni ic] 69)).alloc (.cells #[.int .i64 0,.int .i64 0] 31)).alloc (.map #[] 0)).heap[w.heap.size+2]? = some (.map #[] 0):=by
  have:=alloc_heap_new ((w.alloc (.cells #[.int .i64 d.kind,.string (aC d.name),.int .i64 d.line,.int .i64 d.col,.slice fa nf fc,.slice va nv vc,.slice ma nm mc,.slice ia ni ic] 69)).alloc (.cells #[.int .i64 0,.int .i64 0] 31)) (.map #[] 0)
  simpa using this
 have hW0:(((w.alloc (.cells #[.int .i64 d.kind,.string (aC d.name),.int .i64 d.line,.int .i64 d.col,.slice fa nf fc,.slice va nv vc,.slice ma nm mc,.slice ia ni ic] 69)).alloc (.cells #[.int .i64 0,.int .i64 0] 31)).alloc (.map #[] 0)).heap[w.heap.size]? = some (.cells #[.int .i64 d.kind,.string (aC d.name),.int .i64 d.line,.int .i64 d.col,.slice fa nf fc,.slice va nv vc,.slice ma nm mc,.slice ia ni ic] 69 (0,0)):=by
  rw[aD _ _ _ (by simp;omega),aD _ _ _ (by simp)];exact jS
 have hW1:(((w.alloc (.cells #[.int .i64 d.kind,.string (aC d.name),.int .i64 d.line,.int .i64 d.col,.slice fa nf fc,.slice va nv vc,.slice ma nm mc,.slice ia ni ic] 69)).alloc (.cells #[.int .i64 0,.int .i64 0] 31)).alloc (.map #[] 0)).heap[w.heap.size+1]? = some (.cells #[.int .i64 0,.int .i64 0] 31 (0,0)):=by
  rw[aD _ _ _ (by simp)];exact hV1
 clear jS hV1
 go_upto_region 2 with fail
 generalize (((w.alloc (.cells #[.int .i64 d.kind,.string (aC d.name),.int .i64 d.line,.int .i64 d.col,.slice fa nf fc,.slice va nv vc,.slice ma nm mc,.slice ia ni ic] 69)).alloc (.cells #[.int .i64 0,.int .i64 0] 31)).alloc (.map #[] 0))=V at *
 have q7:=aA hW0 7 rfl
 have iA:=aB dO
 have mV:=aB hW0
 have kI:=aB hW1
 have Mw:Hid (cC 9 eQ V (w.heap.size+2) ([]:List (List UInt8))):=dZ _ _ hW2
 clear dO hW0 hW1 hW2 hmm
 go_wp2_with fail
 clear q7
 go_loopw [17] (fun i wr=>∃ k:Nat,i=.int .i64 (k:Int)∧k≤ni∧Below w.heap.size w wr∧wr.heap[w.heap.size]? = some (.cells #[.int .i64 d.kind,.string (aC d.name),.int .i64 d.line,.int .i64 d.col,.slice fa nf fc,.slice va nv vc,.slice ma nm mc,.slice ia ni ic] 69 (0,0))∧wr.heap[w.heap.size+1]? = some (.cells #[.int .i64 0,.int .i64 0] 31 (0,0))∧cC 9 eQ wr (w.heap.size+2) ((d.inner.take k).map (·.name))) (fun i _=>ni - (intOf i).toNat)
 case atStart=>exact⟨0,rfl,Nat.zero_le _,iA.out,mV.out,kI.out,Mw.out⟩
 case round=>
  generalize wr=w1 at *
  obtain⟨k,rfl,hk,hbel,hd0,hd1,hd2⟩:=hrel
  clear iA mV kI Mw
  have HB:=aB hbel
  have H0:=aB hd0
  have H1:=aB hd1
  have H2:=aB hd2
  have hsw:=hbel.size
  have hl2:=hd2.lt
  clear hbel hd0 hd1 hd2
  by_cases hkn:k<ni
  ·obtain⟨y,hy⟩:∃ y,d.inner[k]? = some y:=⟨_,List.getElem?_eq_getElem (by have:=HNI.out;omega)⟩
   obtain⟨g,o,c0,ga,gc,ha,hc,ka,kc,na,nc,hsl,hg,e0,e1,e2,e3,e4,e5,e6,e7,kd⟩:=jF eO.out.2.2.2 (W:=w1) (fun b hb=>HB.out.block b hb) hy
   rw[HNI.out]at hsl
   obtain⟨rfl,rfl⟩:ia=some ⟨g,o,none⟩∧ic=c0:=by
    injection hsl with h1 _ h3
    exact⟨h1,h3⟩
   have hnl:=rQ.out.2.1 y (List.mem_of_getElem? hy)
   have hk0:(0:Int)≤(k:Int):=by omega
   have hk1:(k:Int)<(ni:Int):=by omega
   have hwq:=eE k (by omega)
   have lB:Hid ((d.inner.take (k+1)).map (·.name)=(d.inner.take k).map (·.name)++[y.name]):=by
    refine(?_:_=_)
    rw[aY hy,List.map_append];rfl
   have hkl:((d.inner.take k).map (·.name)).length≤k:=by simp;omega
   obtain⟨KS,lT⟩:∃ K,(d.inner.take k).map (·.name)=K:=⟨_,rfl⟩
   rw[lT]at H2 lB hkl
   clear hsl lT kd
   have hC:(w1.alloc (.cells #[.int .i64 y.kind,.string (aC y.name),.int .i64 y.line,.int .i64 y.col,.slice ga y.fields.length gc,.slice ha y.values.length hc,.slice ka y.methods.length kc,.slice na y.inner.length nc] 69)).heap[w1.heap.size]? = some (.cells #[.int .i64 y.kind,.string (aC y.name),.int .i64 y.line,.int .i64 y.col,.slice ga y.fields.length gc,.slice ha y.values.length hc,.slice ka y.methods.length kc,.slice na y.inner.length nc] 69 (0,0)):=alloc_heap_new _ _
   have bG:Below w1.heap.size w1 (w1.alloc (.cells #[.int .i64 y.kind,.string (aC y.name),.int .i64 y.line,.int .i64 y.col,.slice ga y.fields.length gc,.slice ha y.values.length hc,.slice ka y.methods.length kc,.slice na y.inner.length nc] 69)):=(Below.refl _ w1).alloc (Nat.le_refl _) _
   go_upto_region 5 with fail
   generalize (w1.alloc (.cells #[.int .i64 y.kind,.string (aC y.name),.int .i64 y.line,.int .i64 y.col,.slice ga y.fields.length gc,.slice ha y.values.length hc,.slice ka y.methods.length kc,.slice na y.inner.length nc] 69))=Y at *
   have l1:=aA hC 1 rfl
   have cE:=aB (HB.out.trans (bG.mono hsw))
   have zO:Hid (Y.heap[w.heap.size]? = _):=(bG.block _ (by omega)).trans H0.out
   have uM:Hid (Y.heap[w.heap.size+1]? = _):=(bG.block _ (by omega)).trans H1.out
   have hadd:=gQ (w.heap.size+2) KS y.name Y (H2.out.old (bG.block _ hl2)) (by omega) (by omega)
   have hsy:w1.heap.size<Y.heap.size:=aN hC
   clear hC bG e0 e1 e2 e3 e4 e5 e6 e7
   go_wp2_with fail
   refine hadd.mono ?_
   rintro e W2 ⟨rfl,hset,hgr⟩
   have hb2:Below w.heap.size w W2:=cE.out.grown hgr cE.out.size (fun b hb=>by cases hb;omega)
   have h20:W2.heap[w.heap.size]? = _:=(hgr.block _ (by omega) (by simp)).trans zO.out
   have h21:W2.heap[w.heap.size+1]? = _:=(hgr.block _ (by omega) (by simp)).trans uM.out
   have HB2:=aB hb2
   have rR:=aB h20
   have Fk:=aB h21
   have HS2:=aB hset
   clear hgr h20 h21 hb2 hset l1 hadd
   go_wp2_with fail
   go_roundw
   case rel=>exact⟨k+1,by go_num,by omega,HB2.out,rR.out,Fk.out,by rw[lB.out];exact HS2.out⟩
   case measure=>simp[intOf];omega
  ·have hkn':¬(k:Int)<(ni:Int):=by omega
   have hke:k=ni:=by omega
   have q4:=aA H0.out 4 rfl
   have HS0:Hid (cC 9 eQ w1 (w.heap.size+2) (fJ d 0)):=by
    refine(?_:cC _ _ _ _ _)
    have:=H2.out
    rw[hke,List.take_of_length_le (by have:=HNI.out;omega)]at this
    unfold fJ
    simpa using this
   clear hke hkn H2 hk hl2
   go_wp2_with fail
   clear q4 hkn'
   go_loopw [29] (fun i wr=>∃ k:Nat,i=.int .i64 (k:Int)∧k≤nf∧aQ (qD (d.inner.map (·.name)) (gP d)) (k)=none∧Below w.heap.size w wr∧wr.heap[w.heap.size]? = some (.cells #[.int .i64 d.kind,.string (aC d.name),.int .i64 d.line,.int .i64 d.col,.slice fa nf fc,.slice va nv vc,.slice ma nm mc,.slice ia ni ic] 69 (0,0))∧wr.heap[w.heap.size+1]? = some (.cells #[.int .i64 0,.int .i64 0] 31 (0,0))∧cC 9 eQ wr (w.heap.size+2) (fJ d (k))) (fun i _=>nf - (intOf i).toNat)
   case atStart=>exact⟨0,rfl,Nat.zero_le _,rfl,HB.out,H0.out,H1.out,HS0.out⟩
   case round=>
    generalize wr=w1 at *
    obtain⟨k,rfl,hk,hfs,hbel,hd0,hd1,hd2⟩:=hrel
    have fW:=aB hfs
    clear hfs
    have HB:=aB hbel
    have H0:=aB hd0
    have H1:=aB hd1
    have H2:=aB hd2
    have hsw:=hbel.size
    have hl2:=hd2.lt
    clear hbel hd0 hd1 hd2
    by_cases hkn:k<nf
    ·obtain⟨y,hy⟩:∃ y,d.fields[k]? = some y:=⟨_,List.getElem?_eq_getElem (by have:=gI.out;omega)⟩
     have eC:(gP d)[k]? = some (y.name,(y.line,y.col)):=aKy hy
     obtain⟨g,o,c0,hsl,hg,e0,e1,e2,e3,e4,e5⟩:=jV eO.out.1 (W:=w1) (fun b hb=>HB.out.block b hb) hy
     rw[gI.out]at hsl
     obtain⟨rfl,rfl⟩:fa=some ⟨g,o,none⟩∧fc=c0:=by
      injection hsl with h1 _ h3
      exact⟨h1,h3⟩
     have mH:=aB (Bj eC)
     have lB:=aB (nW eC)
     have hkl:=qJ d (k)
     rw[HNI.out]at hkl
     have hnl:=rQ.out.2.2.1 y (List.mem_of_getElem? hy)
     have hk0:(0:Int)≤(k:Int):=by omega
     have hk1:(k:Int)<(nf:Int):=by omega
     have hwq:=eE k (by omega)
     obtain⟨KS,lT⟩:∃ K,fJ d (k)=K:=⟨_,rfl⟩
     rw[lT]at H2 mH lB hkl
     clear hsl eC lT
     have hC:(w1.alloc (.cells #[.bool y.rep,.string (aC y.type),.string (aC y.name),.int .i64 y.num,.int .i64 y.line,.int .i64 y.col] 71)).heap[w1.heap.size]? = some (.cells #[.bool y.rep,.string (aC y.type),.string (aC y.name),.int .i64 y.num,.int .i64 y.line,.int .i64 y.col] 71 (0,0)):=alloc_heap_new _ _
     have bG:Below w1.heap.size w1 (w1.alloc (.cells #[.bool y.rep,.string (aC y.type),.string (aC y.name),.int .i64 y.num,.int .i64 y.line,.int .i64 y.col] 71)):=(Below.refl _ w1).alloc (Nat.le_refl _) _
     go_upto_region 10 with fail
     generalize (w1.alloc (.cells #[.bool y.rep,.string (aC y.type),.string (aC y.name),.int .i64 y.num,.int .i64 y.line,.int .i64 y.col] 71))=Y at *
     have l0:=aA hC 0 rfl
     have l1:=aA hC 1 rfl
     have l2:=aA hC 2 rfl
     have l3:=aA hC 3 rfl
     have l4:=aA hC 4 rfl
     have l5:=aA hC 5 rfl
     have cE:=aB (HB.out.trans (bG.mono hsw))
     have zO:Hid (Y.heap[w.heap.size]? = _):=(bG.block _ (by omega)).trans H0.out
     have uM:Hid (Y.heap[w.heap.size+1]? = _):=(bG.block _ (by omega)).trans H1.out
     have hadd:=gQ (w.heap.size+2) KS y.name Y (H2.out.old (bG.block _ hl2)) (by omega) (by omega)
     have sW:Hid (Y.heap[w1.heap.size]? = _):=hC
     have hsy:w1.heap.size<Y.heap.size:=aN hC
     obtain⟨Fl,fX⟩:∃ b,(!decide (y.name∈KS))=b:=⟨_,rfl⟩
     rw[fX]at hadd
     have iB:=aB fX
     clear hC bG fX e0 e1 e2 e3 e4 e5
     go_wp2_with fail
     refine hadd.mono ?_
     rintro e W2 ⟨rfl,hset,hgr⟩
     have hb2:Below w.heap.size w W2:=cE.out.grown hgr cE.out.size (fun b hb=>by cases hb;omega)
     have h20:W2.heap[w.heap.size]? = _:=(hgr.block _ (by omega) (by simp)).trans zO.out
     have h21:W2.heap[w.heap.size+1]? = _:=(hgr.block _ (by omega) (by simp)).trans uM.out
     have gH:W2.heap[w1.heap.size]? = _:=(hgr.block _ (by omega) (by simp;omega)).trans sW.out
     have p0:=aA gH 4 rfl
     have p1:=aA gH 5 rfl
     have k0:=aA h21 0 rfl
     have k1:=aA h21 1 rfl
     have mI:=aF h21 0
     have mJ:=aF h21 1
     have HB2:=aB hb2
     have rR:=aB h20
     have Fk:=aB h21
     have HS2:=aB hset
     clear hgr h20 h21 gH hb2 hset l0 l1 l2 l3 l4 l5 hadd
     cases Fl
     case false=>
      have hmem:y.name∈KS:=by have:=iB.out;simpa using this
      have fU:Hid (qD (d.inner.map (·.name)) (gP d) (k)=some (y.line,y.col)):=by
       refine(?_:_=_)
       rw[mH.out,if_pos hmem]
      obtain⟨Z,hZ,r0,r1,fM⟩:=bS Fk.out HB2.out (by omega) y.line y.col
      have HZ:=aB hZ
      clear hZ hmem
      go_wp2_with fail
      rw[HZ.out]
      refine bodyPost_ret (v:=.tuple #[.agg #[.int .i64 y.line,.int .i64 y.col],.bool true]) (by simp[results,Tryz.results58,go_sem,r0,r1]) rfl ?_
      exact⟨_,_,_,rfl,fM,.inr ⟨rfl,(qF.out _).1 (aI fW.out fU.out (by omega))⟩⟩
     case true=>
      have hmem:¬y.name∈KS:=by have:=iB.out;simpa using this
      have mK:Hid (qD (d.inner.map (·.name)) (gP d) (k)=none):=by
       refine(?_:_=_)
       rw[mH.out,if_neg hmem]
      clear hmem
      go_wp2_with fail
      go_roundw
      case rel=>exact⟨k+1,by go_num,by omega,bD fW.out mK.out,HB2.out,rR.out,Fk.out,by rw[show k+1=(k)+1 from rfl]at *;first | (rw[←Nat.add_assoc];rw[lB.out];exact HS2.out) | (rw[lB.out];exact HS2.out)⟩
      case measure=>simp[intOf];omega
    ·have hkn':¬(k:Int)<(nf:Int):=by omega
     have hke:k=nf:=by omega
     have uN:=aB hke
     have q5:=aA H0.out 5 rfl
     have HFN:Hid (aQ (qD (d.inner.map (·.name)) (gP d)) (nf+0)=none):=by
      refine(?_:_=_)
      have:=fW.out;rw[uN.out]at this;exact this
     have Yb:Hid (cC 9 eQ w1 (w.heap.size+2) (fJ d (nf+0))):=by
      refine(?_:cC _ _ _ _ _)
      have:=H2.out;rw[uN.out]at this;exact this
     clear hke hkn H2 hk hl2 fW uN
     go_wp2_with fail
     clear q5 hkn'
     go_loopw [44] (fun i wr=>∃ k:Nat,i=.int .i64 (k:Int)∧k≤nv∧aQ (qD (d.inner.map (·.name)) (gP d)) (nf+k)=none∧Below w.heap.size w wr∧wr.heap[w.heap.size]? = some (.cells #[.int .i64 d.kind,.string (aC d.name),.int .i64 d.line,.int .i64 d.col,.slice fa nf fc,.slice va nv vc,.slice ma nm mc,.slice ia ni ic] 69 (0,0))∧wr.heap[w.heap.size+1]? = some (.cells #[.int .i64 0,.int .i64 0] 31 (0,0))∧cC 9 eQ wr (w.heap.size+2) (fJ d (nf+k))) (fun i _=>nv - (intOf i).toNat)
     case atStart=>exact⟨0,rfl,Nat.zero_le _,HFN.out,HB.out,H0.out,H1.out,Yb.out⟩
     case round=>
      generalize wr=w1 at *
      obtain⟨k,rfl,hk,hfs,hbel,hd0,hd1,hd2⟩:=hrel
      have fW:=aB hfs
      clear hfs
      have HB:=aB hbel
      have H0:=aB hd0
      have H1:=aB hd1
      have H2:=aB hd2
      have hsw:=hbel.size
      have hl2:=hd2.lt
      clear hbel hd0 hd1 hd2
      by_cases hkn:k<nv
      ·obtain⟨y,hy⟩:∃ y,d.values[k]? = some y:=⟨_,List.getElem?_eq_getElem (by have:=Pi.out;omega)⟩
       have eC:(gP d)[nf+k]? = some (y.name,(y.line,y.col)):=by have:=aKz hy;rw[gI.out]at this;exact this
       obtain⟨g,o,c0,hsl,hg,e0,e1,e2,e3⟩:=rM eO.out.2.1 (W:=w1) (fun b hb=>HB.out.block b hb) hy
       rw[Pi.out]at hsl
       obtain⟨rfl,rfl⟩:va=some ⟨g,o,none⟩∧vc=c0:=by
        injection hsl with h1 _ h3
        exact⟨h1,h3⟩
       have mH:=aB (Bj eC)
       have lB:=aB (nW eC)
       have hkl:=qJ d (nf+k)
       rw[HNI.out]at hkl
       have hnl:=rQ.out.2.2.2.1 y (List.mem_of_getElem? hy)
       have hk0:(0:Int)≤(k:Int):=by omega
       have hk1:(k:Int)<(nv:Int):=by omega
       have hwq:=eE k (by omega)
       obtain⟨KS,lT⟩:∃ K,fJ d (nf+k)=K:=⟨_,rfl⟩
       rw[lT]at H2 mH lB hkl
       clear hsl eC lT
       have hC:(w1.alloc (.cells #[.string (aC y.name),.int .i64 y.num,.int .i64 y.line,.int .i64 y.col] 74)).heap[w1.heap.size]? = some (.cells #[.string (aC y.name),.int .i64 y.num,.int .i64 y.line,.int .i64 y.col] 74 (0,0)):=alloc_heap_new _ _
       have bG:Below w1.heap.size w1 (w1.alloc (.cells #[.string (aC y.name),.int .i64 y.num,.int .i64 y.line,.int .i64 y.col] 74)):=(Below.refl _ w1).alloc (Nat.le_refl _) _
       go_upto_region 16 with fail
       generalize (w1.alloc (.cells #[.string (aC y.name),.int .i64 y.num,.int .i64 y.line,.int .i64 y.col] 74))=Y at *
       have l0:=aA hC 0 rfl
       have l1:=aA hC 1 rfl
       have l2:=aA hC 2 rfl
       have l3:=aA hC 3 rfl
       have cE:=aB (HB.out.trans (bG.mono hsw))
       have zO:Hid (Y.heap[w.heap.size]? = _):=(bG.block _ (by omega)).trans H0.out
       have uM:Hid (Y.heap[w.heap.size+1]? = _):=(bG.block _ (by omega)).trans H1.out
       have hadd:=gQ (w.heap.size+2) KS y.name Y (H2.out.old (bG.block _ hl2)) (by omega) (by omega)
       have sW:Hid (Y.heap[w1.heap.size]? = _):=hC
       have hsy:w1.heap.size<Y.heap.size:=aN hC
       obtain⟨Fl,fX⟩:∃ b,(!decide (y.name∈KS))=b:=⟨_,rfl⟩
       rw[fX]at hadd
       have iB:=aB fX
       clear hC bG fX e0 e1 e2 e3
       go_wp2_with fail
       refine hadd.mono ?_
       rintro e W2 ⟨rfl,hset,hgr⟩
       have hb2:Below w.heap.size w W2:=cE.out.grown hgr cE.out.size (fun b hb=>by cases hb;omega)
       have h20:W2.heap[w.heap.size]? = _:=(hgr.block _ (by omega) (by simp)).trans zO.out
       have h21:W2.heap[w.heap.size+1]? = _:=(hgr.block _ (by omega) (by simp)).trans uM.out
       have gH:W2.heap[w1.heap.size]? = _:=(hgr.block _ (by omega) (by simp;omega)).trans sW.out
       have p0:=aA gH 2 rfl
       have p1:=aA gH 3 rfl
       have k0:=aA h21 0 rfl
       have k1:=aA h21 1 rfl
       have mI:=aF h21 0
       have mJ:=aF h21 1
       have HB2:=aB hb2
       have rR:=aB h20
       have Fk:=aB h21
       have HS2:=aB hset
       clear hgr h20 h21 gH hb2 hset l0 l1 l2 l3 hadd
       cases Fl
       case false=>
        have hmem:y.name∈KS:=by have:=iB.out;simpa using this
        have fU:Hid (qD (d.inner.map (·.name)) (gP d) (nf+k)=some (y.line,y.col)):=by
         refine(?_:_=_)
         rw[mH.out,if_pos hmem]
        obtain⟨Z,hZ,r0,r1,fM⟩:=bS Fk.out HB2.out (by omega) y.line y.col
        have HZ:=aB hZ
        clear hZ hmem
        go_wp2_with fail
        rw[HZ.out]
        refine bodyPost_ret (v:=.tuple #[.agg #[.int .i64 y.line,.int .i64 y.col],.bool true]) (by simp[results,Tryz.results58,go_sem,r0,r1]) rfl ?_
        exact⟨_,_,_,rfl,fM,.inr ⟨rfl,(qF.out _).1 (aI fW.out fU.out (by omega))⟩⟩
       case true=>
        have hmem:¬y.name∈KS:=by have:=iB.out;simpa using this
        have mK:Hid (qD (d.inner.map (·.name)) (gP d) (nf+k)=none):=by
         refine(?_:_=_)
         rw[mH.out,if_neg hmem]
        clear hmem
        go_wp2_with fail
        go_roundw
        case rel=>exact⟨k+1,by go_num,by omega,bD fW.out mK.out,HB2.out,rR.out,Fk.out,by rw[show nf+k+1=(nf+k)+1 from rfl]at *;first | (rw[←Nat.add_assoc];rw[lB.out];exact HS2.out) | (rw[lB.out];exact HS2.out)⟩
        case measure=>simp[intOf];omega
      ·have hkn':¬(k:Int)<(nv:Int):=by omega
       have hke:k=nv:=by omega
       have uN:=aB hke
       have q6:=aA H0.out 6 rfl
       have HFN:Hid (aQ (qD (d.inner.map (·.name)) (gP d)) (nf+nv+0)=none):=by
        refine(?_:_=_)
        have:=fW.out;rw[uN.out]at this;exact this
       have Yb:Hid (cC 9 eQ w1 (w.heap.size+2) (fJ d (nf+nv+0))):=by
        refine(?_:cC _ _ _ _ _)
        have:=H2.out;rw[uN.out]at this;exact this
       clear hke hkn H2 hk hl2 fW uN
       go_wp2_with fail
       clear q6 hkn'
       go_loopw [59] (fun i wr=>∃ k:Nat,i=.int .i64 (k:Int)∧k≤nm∧aQ (qD (d.inner.map (·.name)) (gP d)) (nf+nv+k)=none∧Below w.heap.size w wr∧wr.heap[w.heap.size]? = some (.cells #[.int .i64 d.kind,.string (aC d.name),.int .i64 d.line,.int .i64 d.col,.slice fa nf fc,.slice va nv vc,.slice ma nm mc,.slice ia ni ic] 69 (0,0))∧wr.heap[w.heap.size+1]? = some (.cells #[.int .i64 0,.int .i64 0] 31 (0,0))∧cC 9 eQ wr (w.heap.size+2) (fJ d (nf+nv+k))) (fun i _=>nm - (intOf i).toNat)
       case atStart=>exact⟨0,rfl,Nat.zero_le _,HFN.out,HB.out,H0.out,H1.out,Yb.out⟩
       case round=>
        generalize wr=w1 at *
        obtain⟨k,rfl,hk,hfs,hbel,hd0,hd1,hd2⟩:=hrel
        have fW:=aB hfs
        clear hfs
        have HB:=aB hbel
        have H0:=aB hd0
        have H1:=aB hd1
        have H2:=aB hd2
        have hsw:=hbel.size
        have hl2:=hd2.lt
        clear hbel hd0 hd1 hd2
        by_cases hkn:k<nm
        ·obtain⟨y,hy⟩:∃ y,d.methods[k]? = some y:=⟨_,List.getElem?_eq_getElem (by have:=xS.out;omega)⟩
         have eC:(gP d)[nf+nv+k]? = some (y.name,(y.line,y.col)):=by have:=aLa hy;rw[gI.out,Pi.out]at this;exact this
         obtain⟨g,o,c0,hsl,hg,e0,e1,e2,e3,e4⟩:=rN eO.out.2.2.1 (W:=w1) (fun b hb=>HB.out.block b hb) hy
         rw[xS.out]at hsl
         obtain⟨rfl,rfl⟩:ma=some ⟨g,o,none⟩∧mc=c0:=by
          injection hsl with h1 _ h3
          exact⟨h1,h3⟩
         have mH:=aB (Bj eC)
         have lB:=aB (nW eC)
         have hkl:=qJ d (nf+nv+k)
         rw[HNI.out]at hkl
         have hnl:=rQ.out.2.2.2.2 y (List.mem_of_getElem? hy)
         have hk0:(0:Int)≤(k:Int):=by omega
         have hk1:(k:Int)<(nm:Int):=by omega
         have hwq:=eE k (by omega)
         obtain⟨KS,lT⟩:∃ K,fJ d (nf+nv+k)=K:=⟨_,rfl⟩
         rw[lT]at H2 mH lB hkl
         clear hsl eC lT
         have hC:(w1.alloc (.cells #[.string (aC y.name),.string (aC y.inp),.string (aC y.out),.int .i64 y.line,.int .i64 y.col] 77)).heap[w1.heap.size]? = some (.cells #[.string (aC y.name),.string (aC y.inp),.string (aC y.out),.int .i64 y.line,.int .i64 y.col] 77 (0,0)):=alloc_heap_new _ _
         have bG:Below w1.heap.size w1 (w1.alloc (.cells #[.string (aC y.name),.string (aC y.inp),.string (aC y.out),.int .i64 y.line,.int .i64 y.col] 77)):=(Below.refl _ w1).alloc (Nat.le_refl _) _
         go_upto_region 22 with fail
         generalize (w1.alloc (.cells #[.string (aC y.name),.string (aC y.inp),.string (aC y.out),.int .i64 y.line,.int .i64 y.col] 77))=Y at *
         have l0:=aA hC 0 rfl
         have l1:=aA hC 1 rfl
         have l2:=aA hC 2 rfl
         have l3:=aA hC 3 rfl
         have l4:=aA hC 4 rfl
         have cE:=aB (HB.out.trans (bG.mono hsw))
         have zO:Hid (Y.heap[w.heap.size]? = _):=(bG.block _ (by omega)).trans H0.out
         have uM:Hid (Y.heap[w.heap.size+1]? = _):=(bG.block _ (by omega)).trans H1.out
         have hadd:=gQ (w.heap.size+2) KS y.name Y (H2.out.old (bG.block _ hl2)) (by omega) (by omega)
         have sW:Hid (Y.heap[w1.heap.size]? = _):=hC
         have hsy:w1.heap.size<Y.heap.size:=aN hC
         obtain⟨Fl,fX⟩:∃ b,(!decide (y.name∈KS))=b:=⟨_,rfl⟩
         rw[fX]at hadd
         have iB:=aB fX
         clear hC bG fX e0 e1 e2 e3 e4
         go_wp2_with fail
         refine hadd.mono ?_
         rintro e W2 ⟨rfl,hset,hgr⟩
         have hb2:Below w.heap.size w W2:=cE.out.grown hgr cE.out.size (fun b hb=>by cases hb;omega)
         have h20:W2.heap[w.heap.size]? = _:=(hgr.block _ (by omega) (by simp)).trans zO.out
         have h21:W2.heap[w.heap.size+1]? = _:=(hgr.block _ (by omega) (by simp)).trans uM.out
         have gH:W2.heap[w1.heap.size]? = _:=(hgr.block _ (by omega) (by simp;omega)).trans sW.out
         have p0:=aA gH 3 rfl
         have p1:=aA gH 4 rfl
         have k0:=aA h21 0 rfl
         have k1:=aA h21 1 rfl
         have mI:=aF h21 0
         have mJ:=aF h21 1
         have HB2:=aB hb2
         have rR:=aB h20
         have Fk:=aB h21
         have HS2:=aB hset
         clear hgr h20 h21 gH hb2 hset l0 l1 l2 l3 l4 hadd
         cases Fl
         case false=>
          have hmem:y.name∈KS:=by have:=iB.out;simpa using this
          have fU:Hid (qD (d.inner.map (·.name)) (gP d) (nf+nv+k)=some (y.line,y.col)):=by
           refine(?_:_=_)
           rw[mH.out,if_pos hmem]
          obtain⟨Z,hZ,r0,r1,fM⟩:=bS Fk.out HB2.out (by omega) y.line y.col
          have HZ:=aB hZ
          clear hZ hmem
          go_wp2_with fail
          rw[HZ.out]
          refine bodyPost_ret (v:=.tuple #[.agg #[.int .i64 y.line,.int .i64 y.col],.bool true]) (by simp[results,Tryz.results58,go_sem,r0,r1]) rfl ?_
          exact⟨_,_,_,rfl,fM,.inr ⟨rfl,(qF.out _).1 (aI fW.out fU.out (by omega))⟩⟩
         case true=>
          have hmem:¬y.name∈KS:=by have:=iB.out;simpa using this
          have mK:Hid (qD (d.inner.map (·.name)) (gP d) (nf+nv+k)=none):=by
           refine(?_:_=_)
           rw[mH.out,if_neg hmem]
          clear hmem
          go_wp2_with fail
          go_roundw
          case rel=>exact⟨k+1,by go_num,by omega,bD fW.out mK.out,HB2.out,rR.out,Fk.out,by rw[show nf+nv+k+1=(nf+nv+k)+1 from rfl]at *;first | (rw[←Nat.add_assoc];rw[lB.out];exact HS2.out) | (rw[lB.out];exact HS2.out)⟩
          case measure=>simp[intOf];omega
        ·have hkn':¬(k:Int)<(nm:Int):=by omega
         have hke:k=nm:=by omega
         have uN:=aB hke
         obtain⟨Z,hZ,r0,r1,fM⟩:=bS H1.out HB.out (by omega) 0 0
         have HZ:=aB hZ
         have k0:=aA H1.out 0 rfl
         have k1:=aA H1.out 1 rfl
         have mI:=aF H1.out 0
         have mJ:=aF H1.out 1
         clear hZ hke hkn
         go_wp2_with fail
         rw[HZ.out]
         refine bodyPost_ret (v:=.tuple #[.agg #[.int .i64 0,.int .i64 0],.bool false]) (by simp[results,Tryz.results58,go_sem,r0,r1]) rfl ?_
         exact⟨_,_,_,rfl,fM,.inl ⟨(qF.out _).1 (by rw[←uN.out];exact fW.out),rfl,rfl,rfl⟩⟩
end Go.Proofs.YtpojeinddnjpfaaGreatDoor
