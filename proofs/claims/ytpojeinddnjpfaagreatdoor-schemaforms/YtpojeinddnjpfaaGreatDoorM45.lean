/-
  Walks and plain words (ShF DpE).
-/
import Derived.Test.YtpojeinddnjpfaaGreatDoorM44
import Derived.Test.YtpojeinddnjpfaaGreatDoorM0
import Derived.Test.YtpojeinddnjpfaaGreatDoorM1
import Derived.Test.YtpojeinddnjpfaaGreatDoorM3
import Derived.Test.YtpojeinddnjpfaaGreatDoorM11
import Derived.WalkKit
namespace Go.Proofs.YtpojeinddnjpfaaGreatDoor
set_option linter.unusedVariables false

structure PlF (x:Pl):Prop where
 wl:x.1.length≤1610
 kd:x.2.kind=1∨x.2.kind=2∨x.2.kind=3
 nl:x.2.name.length≤160
 il:x.2.inner.length≤100000∧∀ y∈x.2.inner,y.name.length≤160
 fl:x.2.fields.length≤100000∧x.2.values.length≤100000∧x.2.methods.length≤100000
 ft:∀ y∈x.2.fields,y.type.length≤200000000∧y.name.length≤160∧eF y.num=true
 vt:∀ y∈x.2.values,y.name.length≤160∧eF y.num=true
 mt:∀ y∈x.2.methods,y.inp.length≤200000000∧y.out.length≤200000000∧y.name.length≤160
theorem kG {l:List UInt8} (h:aZ l=true):l.length≤160:=by
 have:=zN (aC l) (kJ h).1
 rw[aV]at this;exact this
theorem Xt {f k:Nat} {ds:List Dc} (h:oQ f k ds=true):∀ y∈ds,y.name.length≤160:=by
 intro y hy
 cases f with
 | zero=>rw[oQ,List.isEmpty_iff]at h;subst h;cases hy
 | succ f=>
  rw[lG,List.all_eq_true]at h
  exact kG (lH (h y hy)).1
theorem Nl:∀ (f k:Nat) (a:List UInt8) (ds:List Dc),oQ f k ds=true→k≤8→iV f ds→lL f ds→a.length≤161*k→∀ x∈aX f a ds,PlF x
 | 0,k,a,ds,_,_,_,_,_,x,hx=>by simp[aX]at hx
 | f+1,k,a,ds,hfm,hk,hf,ht,ha,x,hx=>by
  rw[aX,List.mem_flatMap]at hx
  obtain⟨d,hd,hx⟩:=hx
  rw[lG,List.all_eq_true]at hfm
  have hD:=hfm d hd
  obtain⟨p1,p2,p3,p4,p5,p6,p7,p8,p9⟩:=lH hD
  obtain⟨hf1,hf2⟩:=hf
  obtain⟨f1,f2,f3,f4⟩:=hf2 d hd
  obtain⟨t1,t2,t3,t4,t5⟩:=ht d hd
  have hn:=kG p1
  rcases List.mem_cons.1 hx with rfl | hx
  ·have aHy:=rB hD
   refine⟨by simp only[List.length_append];omega,p2,hn,⟨?_,Xt aHy⟩,⟨f1,f2,f3⟩,fun y hy=>?_,fun y hy=>?_,fun y hy=>?_⟩
   ·show d.inner.length≤100000
    cases f with
    | zero=>rw[oQ,List.isEmpty_iff]at aHy;rw[aHy];simp
    | succ f=>exact f4.1
   ·have h1:=List.all_eq_true.1 p3 y hy
    unfold Ci at h1
    simp only[Bool.and_eq_true]at h1
    exact⟨(t2 y hy).1,kG h1.1.2,h1.2⟩
   ·have h1:=List.all_eq_true.1 p4 y hy
    unfold Cj at h1
    simp only[Bool.and_eq_true]at h1
    exact⟨kG h1.1,h1.2⟩
   ·have h1:=List.all_eq_true.1 p5 y hy
    unfold Ck at h1
    simp only[Bool.and_eq_true]at h1
    exact⟨(t4 y hy).2.1,(t4 y hy).2.2,kG h1.1.1⟩
  ·by_cases hk8:k=8
   ·have hi:d.inner=[]:=by
     by_cases h1:d.kind=1
     ·have h8:=(p6 h1).1
      omega
     ·exact(p7 h1).1
    rw[hi]at hx
    cases f <;> simp[aX]at hx
   ·exact Nl f (k+1) _ _ (rB hD) (by omega) f4 t5 (by simp only[List.length_append,List.length_cons,List.length_nil];omega) x hx
theorem Ha:∀ (a b:List Pl),hJ (a++b)=hJ a+hJ b
 | [],b=>by simp[hJ]
 | x :: t,b=>by
  have:=Ha t b
  simp only[List.cons_append,hJ];omega
theorem Xu (k:Int) (a b:List Pl):dI k (a++b)=dI k a+dI k b:=by
 unfold dI;rw[List.filter_append,List.length_append]
theorem Kz:∀ (f:Nat) (a:List UInt8) (ds:List Dc),(aX f a ds).length+hJ (aX f a ds)≤mO f ds
 | 0,a,ds=>by simp[aX,hJ]
 | f+1,a,[]=>by simp[aX,hJ]
 | f+1,a,d :: t=>by
  have h1:=Kz f (a++d.name++[46]) d.inner
  have h2:=Kz (f+1) a t
  rw[oG]
  have e:aX (f+1) a (d :: t)=(a++d.name,d) :: (aX f (a++d.name++[46]) d.inner++aX (f+1) a t):=by
   rw[aX,aX,List.flatMap_cons,List.cons_append]
  rw[e]
  simp only[hJ,List.length_cons,List.length_append,Ha,ctD]
  omega
theorem xQ {α:Type} {l:List α} (h:∀ (k:Nat) (a:α),l[k]? = some a→a∉l.take k):l.Nodup:=by
 refine List.pairwise_iff_getElem.2 fun i j hi hj hij e=>?_
 refine h j l[j] (List.getElem?_eq_getElem hj) ?_
 rw[←e]
 exact List.mem_take_iff_getElem.2 ⟨i,by omega,rfl⟩
theorem Ri {d:Dc} (h:Pa d=none):(d.fields.map (·.num)).Nodup:=by
 have h1:aQ (gV (dP d)) (dP d).length=none:=by
  unfold Pa at h
  split at h
  ·cases h
  ·exact h
 have h2:((dP d).map (·.1)).Nodup:=by
  refine xQ fun k a hk hm=>?_
  rw[List.getElem?_map,Option.map_eq_some_iff]at hk
  obtain⟨q,hq,rfl⟩:=hk
  have h3:=kO h1 k (List.getElem?_eq_some_iff.1 hq).1
  unfold gV at h3
  rw[hq]at h3
  simp only at h3
  split at h3
  ·cases h3
  ·rename_i hno
   exact hno (.inr (by rw[List.map_take];exact hm))
 unfold dP at h2
 rw[List.map_append,List.map_map]at h2
 exact(List.nodup_append.1 h2).1
theorem qP {ps:List Pl} (h:aQ (jB ps) ps.length=none):(ps.map (·.1)).Nodup:=by
 refine xQ fun k a hk hm=>?_
 rw[List.getElem?_map,Option.map_eq_some_iff]at hk
 obtain⟨q,hq,rfl⟩:=hk
 have h3:=kO h k (List.getElem?_eq_some_iff.1 hq).1
 unfold jB at h3
 rw[hq]at h3
 simp only at h3
 split at h3
 ·cases h3
 ·rename_i hno
  exact hno (by rw[List.map_take];exact hm)
theorem Hb {α:Type} {l:List α} (h:l.Nodup) {i j:Nat} {x:α} (hi:l[i]? = some x) (hj:l[j]? = some x):i=j:=by
 obtain⟨h1,h2⟩:=List.getElem?_eq_some_iff.1 hi
 obtain⟨h3,h4⟩:=List.getElem?_eq_some_iff.1 hj
 have hp:=List.pairwise_iff_getElem.1 h
 rcases Nat.lt_trichotomy i j with hl | hl | hl
 ·exact absurd (h2.trans h4.symm) (hp i j h1 h3 hl)
 ·exact hl
 ·exact absurd (h4.trans h2.symm) (hp j i h3 h1 hl)
theorem Xv {L:List Sy} (h:(L.map (·.1)).Nodup):Apart L:=by
 intro i j x y hi hj e
 exact Hb h (i:=i) (j:=j) (x:=x.1) (by rw[List.getElem?_map,hi];rfl) (by rw[List.getElem?_map,hj,e];rfl)
theorem Ae {l:List Sy} {sc n:List UInt8} {z:Sy} (h:fG l sc n=some z):z∈l∧(z.2=1∨z.2=2):=by
 unfold fG at h
 rw[Option.filter_eq_some_iff]at h
 obtain⟨h1,h2⟩:=h
 refine⟨List.mem_of_find?_eq_some h1,?_⟩
 unfold meant at h2
 exact of_decide_eq_true h2
theorem Hc {l:List Sy}:∀ (ns:List (List UInt8)) (x z:Sy),(x∈l∧(x.2=1∨x.2=2))→nR l x ns=some z→z∈l∧(z.2=1∨z.2=2)
 | [],x,z,hx,h=>by rw[nR]at h;cases h;exact hx
 | n :: t,x,z,hx,h=>by
  rw[nR]at h
  cases e:fG l x.1 n with
  | none=>rw[e]at h;cases h
  | some y=>rw[e]at h;exact Hc t y z (Ae e) h
theorem Af {l:List Sy} {n0:List UInt8} {ns:List (List UInt8)}:∀ (k:Nat) (sc:List UInt8) (z:Sy),fH l n0 ns k sc=some z→z∈l∧(z.2=1∨z.2=2)
 | 0,sc,z,h=>by rw[fH]at h;cases h
 | k+1,sc,z,h=>by
  rw[fH]at h
  cases e:fG l sc n0 with
  | some y=>rw[e]at h;exact Hc ns y z (Ae e) h
  | none=>
   rw[e]at h
   simp only at h
   split at h
   ·cases h
   ·exact Af k _ z h
theorem Rj {l:List Sy} {sc path:List UInt8} {z:Sy} (h:Ml l sc path=some z):z∈l∧(z.2=1∨z.2=2):=by
 unfold Ml at h
 split at h
 ·split at h
  ·cases e:jC [] path with
   | nil=>rw[e]at h;cases h
   | cons n ns=>rw[e]at h;exact Af _ _ _ h
  ·cases h
 ·cases h
theorem tG (f:Nat) (a:List UInt8):∀ ds:List Dc,(cK (f+1) a (bR ds)).Sublist (cK (f+1) a ds)
 | []=>List.Sublist.refl _
 | d :: t=>by
  have ih:=tG f a t
  rw[sS]
  by_cases h:d.kind=3
  ·have e:bR (d :: t)=bR t:=by unfold bR;rw[List.filter_cons];simp[h]
   rw[e]
   exact(ih.trans (List.sublist_append_right _ _)).cons _
  ·have e:bR (d :: t)=d :: bR t:=by unfold bR;rw[List.filter_cons];simp[h]
   rw[e,sS]
   exact List.Sublist.cons_cons _ (List.Sublist.append (List.Sublist.refl _) ih)
theorem Xw {f k:Nat} {ds:List Dc} (h:oQ (f+1) k ds=true):oQ (f+1) k (bR ds)=true:=by
 rw[lG,List.all_eq_true]at h ⊢
 exact fun x hx=>h x ((List.mem_filter.1 hx).1)
theorem Hd (f:Nat):∀ ds:List Dc,mO (f+1) (bR ds)≤mO (f+1) ds
 | []=>Nat.le_refl _
 | d :: t=>by
  have ih:=Hd f t
  rw[oG]
  by_cases h:d.kind=3
  ·have e:bR (d :: t)=bR t:=by unfold bR;rw[List.filter_cons];simp[h]
   rw[e];omega
  ·have e:bR (d :: t)=d :: bR t:=by unfold bR;rw[List.filter_cons];simp[h]
   rw[e,oG];omega
theorem Ag {f:Nat} {ds:List Dc} (hfm:oQ (f+1) 0 ds=true) (hnd:((aX (f+1) [] ds).map (·.1)).Nodup) {sc path:List UInt8} {z:Sy} (h:iN (f+1) (bR ds) sc path=some z):z∈cK (f+1) [] ds∧(z.2=1∨z.2=2):=by
 have hA:Apart (cK (f+1) [] (bR ds)):=by
  refine Xv ?_
  refine List.Nodup.sublist ((tG f [] ds).map (·.1)) ?_
  rw[gN,List.map_map];exact hnd
 rw[find_eq (Xw hfm) hA]at h
 obtain⟨h1,h2⟩:=Rj h
 exact⟨(tG f [] ds).subset h1,h2⟩
theorem Ah (ps:List Pl):∀ (j:Nat) (x:List UInt8),0≤eM ps j x
 | 0,x=>Int.le_refl _
 | j+1,x=>by
  have ih:=Ah ps j x
  rw[eM]
  split
  ·split
   ·exact Int.natCast_nonneg _
   ·exact ih
  ·exact ih
theorem He {ps:List Pl} (hnd:(ps.map (·.1)).Nodup) {i:Nat} {x:Pl} (hi:ps[i]? = some x) (hk:x.2.kind=1∨x.2.kind=2):∀ j:Nat,i<j→j≤ps.length→eM ps j x.1=(dI x.2.kind (ps.take i):Int)
 | 0,h,_=>absurd h (Nat.not_lt_zero _)
 | j+1,h,hl=>by
  obtain⟨p,hp⟩:∃ p,ps[j]? = some p:=⟨ps[j],List.getElem?_eq_getElem (by omega)⟩
  rw[eM,hp]
  simp only
  split
  ·rename_i hc
   have:i=j:=Hb hnd (x:=x.1) (by rw[List.getElem?_map,hi];rfl) (by rw[List.getElem?_map,hp,hc.2];rfl)
   subst this
   rw[hi]at hp
   cases hp
   rfl
  ·rename_i hc
   have hne:i≠j:=by
    intro e
    subst e
    rw[hi]at hp
    cases hp
    exact hc ⟨hk,rfl⟩
   exact He hnd hi hk j (by omega) (by omega)
theorem cnt_lt {ps:List Pl} {i:Nat} {x:Pl} (hi:ps[i]? = some x):dI x.2.kind (ps.take i)<dI x.2.kind ps:=by
 have e:ps=ps.take (i+1)++ps.drop (i+1):=(List.take_append_drop _ _).symm
 have h:dI x.2.kind ps=dI x.2.kind (ps.take (i+1))+dI x.2.kind (ps.drop (i+1)):=by
  rw[←Xu,←e]
 rw[h,aY hi,gC,if_pos rfl]
 omega
theorem La (f:Nat) (types:List Dc) (ps:List Pl) (n:Nat):∀ (k:Nat) (qs:List Pl),qs.length=k→(cU f types ps n qs).ms=(qs.filter fun x=>decide (x.2.kind=1)).map fun x=>⟨x.1,zI (x.2.fields.map (Kt f types ps n x.1))⟩
 | 0,qs,h=>by
  have:qs=[]:=List.eq_nil_of_length_eq_zero h
  subst this;rfl
 | k+1,qs,h=>by
  rcases List.eq_nil_or_concat qs with h0 | ⟨q,x,h1⟩
  ·subst h0;simp at h
  ·rw[List.concat_eq_append]at h1
   subst h1
   have hl:q.length=k:=by simpa using h
   have ih:=La f types ps n k q hl
   rw[qO,List.filter_append,List.map_append,←ih]
   unfold rX
   by_cases h1:x.2.kind=1
   ·rw[if_pos h1];simp[h1]
   ·rw[if_neg h1]
    by_cases h2:x.2.kind=2
    ·rw[if_pos h2];simp[h1]
    ·rw[if_neg h2]
     by_cases h3:x.2.kind=3
     ·rw[if_pos h3];simp[h1]
     ·rw[if_neg h3];simp[h1]
theorem Lb {ty:List UInt8}:bP ty≠10:=by
 unfold bP
 repeat' split
 all_goals decide
theorem aOm {f:Nat} {ds:List Dc} (hf:iV (f+1) ds) (ht:lL (f+1) ds) (hc:mO (f+1) ds≤2000) (hfm:oQ (f+1) 0 ds=true):aDk f ds:=by
  have hP:=Nl (f+1) 0 [] ds hfm (by omega) hf ht (by simp)
  have hct:=Kz (f+1) [] ds
  have hX:aQ (pF (aX (f+1) [] ds)) (aX (f+1) [] ds).length=none→∀ x∈aX (f+1) [] ds,aHb x:=by
    intro gL x hx
    have p:=hP x hx
    obtain⟨i,hi⟩:=List.getElem?_of_mem hx
    have h3:=kO gL i (List.getElem?_eq_some_iff.1 hi).1
    unfold pF at h3
    rw[hi]at h3
    exact⟨p.fl.1,p.fl.2.1,p.fl.2.2,by have:=p.wl;omega,by have:=p.nl;omega,fun y hy=>⟨(p.ft y hy).1,by have:=(p.ft y hy).2.1;omega⟩,fun y hy=>by have:=(p.vt y hy).1;omega,fun y hy=>⟨(p.mt y hy).1,(p.mt y hy).2.1,by have:=(p.mt y hy).2.2;omega⟩,Ri h3⟩
  refine⟨by omega,fun x hx=>?_,fun x hx=>?_,by omega,fun hnm=>?_,hX,fun hnm gL hty=>?_,?_⟩
  · have p:=hP x hx
    exact⟨⟨⟨p.il.1,p.fl.1,p.fl.2.1,p.fl.2.2⟩,fun y hy=>by have:=p.il.2 y hy;omega,fun y hy=>by have:=(p.ft y hy).2.1;omega,fun y hy=>by have:=(p.vt y hy).1;omega,fun y hy=>by have:=(p.mt y hy).2.2;omega⟩,by have:=p.wl;omega⟩
  · have p:=hP x hx
    exact⟨⟨p.fl.1,p.fl.2.1⟩,fun y hy=>(p.ft y hy).2.2,fun y hy=>(p.vt y hy).2⟩
  · have hc':=Hd f ds
    refine⟨by omega,⟨Nat.le_trans (zZ ds) hf.1,fun d hd=>hf.2 d ((List.mem_filter.1 hd).1)⟩,fun d hd=>ht d ((List.mem_filter.1 hd).1),fun sc path z hz=>?_⟩
    have hm:=(Ag hfm (qP hnm) hz).1
    rw[gN,List.mem_map]at hm
    obtain⟨x,hx,rfl⟩:=hm
    have:=(hP x hx).wl
    show x.1.length≤_
    omega
  · have hms:=La f (bR ds) (aX (f+1) [] ds) (aX (f+1) [] ds).length _ (aX (f+1) [] ds) rfl
    have hlen:(cU f (bR ds) (aX (f+1) [] ds) (aX (f+1) [] ds).length (aX (f+1) [] ds)).ms.length=dI 1 (aX (f+1) [] ds):=by
      rw[hms,List.length_map];rfl
    have hle:dI 1 (aX (f+1) [] ds)≤(aX (f+1) [] ds).length:=List.length_filter_le _ _
    refine⟨by omega,fun m hm=>?_⟩
    rw[hlen]
    rw[hms,List.mem_map]at hm
    obtain⟨x,hx,rfl⟩:=hm
    have hx':=(List.mem_filter.1 hx).1
    have xf:=hX gL x hx'
    have hperm:=(tD (x.2.fields.map (Kt f (bR ds) (aX (f+1) [] ds) (aX (f+1) [] ds).length x.1)) [] List.Pairwise.nil (by rw[List.nil_append,List.map_map];exact xf.nd)).1
    refine⟨?_,fun g hg hk _=>?_⟩
    · have:=hperm.length_eq
      have h1:=xf.fl
      simp only[List.nil_append,List.length_map]at this
      show (zI _).length≤_
      unfold zI
      omega
    · have hg':=hperm.mem_iff.1 hg
      rw[List.nil_append,List.mem_map]at hg'
      obtain⟨y,hy,rfl⟩:=hg'
      refine⟨?_,?_⟩
      all_goals
        revert hk
        unfold Kt Xd
        simp only
        split
        · cases hz:iN (f+1) (bR ds) x.1 y.type with
          | none=>intro hk;simp at hk
          | some z=>
            simp only[Option.getD_some]
            intro hk
            first
              | exact Ah _ _ _
              | (have hz1:z.2=1:=by
                   by_cases h1:z.2=1
                   · exact h1
                   · rw[if_neg h1]at hk;cases hk
                 have hm:=(Ag hfm (qP hnm) hz).1
                 rw[gN,List.mem_map]at hm
                 obtain⟨q,hq,hqz⟩:=hm
                 obtain⟨i,hi⟩:=List.getElem?_of_mem hq
                 have hq1:q.2.kind=1:=by rw[←hz1,←hqz]
                 have h1:=He (qP hnm) hi (.inl hq1) _ (List.getElem?_eq_some_iff.1 hi).1 (Nat.le_refl _)
                 have h2:=cnt_lt hi
                 rw[hq1]at h1 h2
                 have hz':z.1=q.1:=by rw[←hqz]
                 rw[hz',h1]
                 omega)
        · intro hk
          exact absurd hk Lb
  · rw[La f (bR ds) (aX (f+1) [] ds) (aX (f+1) [] ds).length _ (aX (f+1) [] ds) rfl,List.length_map]
    exact Nat.le_refl _
open Go.ChangeShapes Go.WideShapes Go.ChangeAt Go.RowKit
def nA:Nat→List UInt8→Nat
 | 0,_=>0
 | f+1,l=>if l=[] then 0 else 1+nA f (l.drop (nx l).2)
theorem aHz (l:List UInt8) (h:l≠[]):(nx l).2=(Lib.decodeL l).2:=by
 unfold nx
 rw[if_neg h]
 split <;> rfl
theorem Hg (s:ByteArray):∀ (f pos:Nat),Lib.runeCountFrom s f pos=nA f (s.data.toList.drop pos)
 | 0,pos=>rfl
 | f+1,pos=>by
  have hl:s.data.toList.length=s.size:=bC s
  by_cases hp:pos<s.size
  ·have hne:s.data.toList.drop pos≠[]:=by
    intro e
    have:=congrArg List.length e
    rw[List.length_drop,hl]at this
    simp at this;omega
   rw[Lib.runeCountFrom,if_pos hp,nA,if_neg hne,aHz _ hne,Lib.decodeL_drop,List.drop_drop,Hg s f]
  ·have hne:s.data.toList.drop pos=[]:=List.drop_eq_nil_of_le (by omega)
   rw[Lib.runeCountFrom,if_neg hp,nA,if_pos hne]
theorem xR:∀ (f:Nat) (l:List UInt8) (line col:Nat),(∀ b∈l,b≠10)→l.length≤f→vT f l line col=(line,col+nA f l)
 | 0,l,line,col,_,h=>rfl
 | f+1,l,line,col,hb,h=>by
  by_cases hl:l=[]
  ·rw[vT,if_pos hl,nA,if_pos hl];rfl
  ·have hn:=wC l hl (by
    cases l with
    | nil=>exact absurd rfl hl
    | cons a t=>intro e;exact hb a (by simp) (by simpa using e))
   have hw:=dK l hl
   rw[vT,if_neg hl,if_neg hn,nA,if_neg hl,xR f (l.drop (nx l).2) line (col+1) (fun b hb'=>hb b (List.mem_of_mem_drop hb')) (by rw[List.length_drop];omega)]
   rw[Nat.add_assoc]
theorem aBs (a y:List UInt8) (ha:a≠[]) (h10:a.head?≠some 10):(a.take (nx (a++10 :: y)).2).count 10=0:=by
 apply List.count_eq_zero.2
 intro hm
 obtain⟨i,hi⟩:=List.getElem?_of_mem hm
 have hil:=(List.getElem?_eq_some_iff.1 hi).1
 rw[List.length_take]at hil
 rw[List.getElem?_take,if_pos (by omega)]at hi
 have hia:i<a.length:=by omega
 have hsp:a=a.take i++10 :: a.drop (i+1):=by
  have e:=List.getElem?_eq_some_iff.1 hi
  conv=>lhs;rw[←List.take_append_drop i a]
  rw[List.drop_eq_getElem_cons hia,e.2]
 have hi0:i≠0:=by
  intro e;subst e
  apply h10
  rw[←hi]
  cases a <;> rfl
 have hne:a.take i≠[]:=by
  intro e
  have:=congrArg List.length e
  rw[List.length_take]at this
  simp at this
  rcases this with h | h
  ·exact hi0 h
  ·exact ha h
 have hl:=(vP (a.take i) (a.drop (i+1)++10 :: y) hne).2
 have e2:a.take i++10 :: (a.drop (i+1)++10 :: y)=a++10 :: y:=by
  conv=>rhs;rw[hsp]
  simp
 rw[e2,List.length_take]at hl
 omega
theorem Xx (b:List UInt8):∀ (n:Nat) (a:List UInt8),a.length≤n→∀ (f line col:Nat),(a++10 :: b).length≤f→∃ f',b.length≤f'∧vT f (a++10 :: b) line col=vT f' b (line+a.count 10+1) 1:=by
 intro n
 induction n with
 | zero=>
  intro a ha f line col hf
  have:a=[]:=List.eq_nil_of_length_eq_zero (by omega)
  subst this
  simp at hf
  obtain⟨f,rfl⟩:∃ g,f=g+1:=⟨f - 1,by omega⟩
  refine⟨f,by omega,?_⟩
  rw[List.nil_append,vT,if_neg (by simp),Ls,if_pos rfl];rfl
 | succ n ih=>
  intro a ha f line col hf
  by_cases hz:a=[]
  ·subst hz
   exact ih [] (by simp) f line col hf
  ·obtain⟨f,rfl⟩:∃ g,f=g+1:=⟨f - 1,by rw[List.length_append]at hf;simp at hf;omega⟩
   have hne:a++10 :: b≠[]:=by simp
   have hw:=dK _ hne
   have hl:=vP a b hz
   have hd:(a++10 :: b).drop (nx (a++10 :: b)).2=a.drop (nx (a++10 :: b)).2++10 :: b:=by
    rw[List.drop_append_of_le_length hl.2]
   have hlen:(a.drop (nx (a++10 :: b)).2).length≤n:=by rw[List.length_drop];omega
   have hf2:(a.drop (nx (a++10 :: b)).2++10 :: b).length≤f:=by rw[←hd,List.length_drop];omega
   have hcount:a.count 10=(a.take (nx (a++10 :: b)).2).count 10+(a.drop (nx (a++10 :: b)).2).count 10:=by
    rw[←List.count_append,List.take_append_drop]
   by_cases h10:a.head? = some 10
   ·cases a with
    | nil=>exact absurd rfl hz
    | cons x t=>
     have hx:x=10:=by simpa using h10
     subst hx
     have hn:nx (10 :: t++10 :: b)=(10,1):=Ls _
     rw[hn]at hd hlen hf2 hcount
     obtain⟨f',h1,h2⟩:=ih _ hlen f (line+1) 1 hf2
     refine⟨f',h1,?_⟩
     rw[vT,if_neg hne,hn,if_pos rfl,hd,h2]
     congr 1
     simp
     omega
   ·have hnx:=wC (a++10 :: b) hne (by
     cases a with
     | nil=>exact absurd rfl hz
     | cons x t=>exact h10)
    obtain⟨f',h1,h2⟩:=ih _ hlen f line (col+1) hf2
    refine⟨f',h1,?_⟩
    rw[vT,if_neg hne,if_neg hnx,hd,h2,hcount,aBs a b hz h10,Nat.zero_add]
theorem aIa (s:ByteArray) (t:ByteArray) (ht:t.data.toList=s.data.toList.drop ((Lib.lastIndexByte s 10+1).toNat)) :
  lE s.data.toList=(1+Lib.countByte s.data.toList 10,1+Lib.runeCount t):=by
 have hls:s.data.toList.length=s.size:=bC s
 have hlt:t.data.toList.length=t.size:=bC t
 have hrc:Lib.runeCount t=nA t.size t.data.toList:=by
  unfold Lib.runeCount;rw[Hg,List.drop_zero]
 have hget:∀ j (hj:j<s.size),s.data[j]! = s.data.toList[j]'(by rw[hls];exact hj):=by
  intro j hj
  rw[getElem!_pos s.data j hj]
  simp
 unfold lE Lib.countByte
 rcases Lib.lastIndexByte_spec s 10 with ⟨h1,h2⟩ | ⟨i,h1,h2,h3,h4⟩
 ·have hno:∀ b∈s.data.toList,b≠10:=by
   intro b hb e
   obtain⟨j,hj⟩:=List.getElem?_of_mem hb
   obtain⟨hj1,hj2⟩:=List.getElem?_eq_some_iff.1 hj
   have:=h2 j (by omega)
   rw[hget j (by omega),hj2,e]at this
   exact this rfl
  have htt:t.data.toList=s.data.toList:=by rw[ht,h1];rfl
  rw[xR _ _ _ _ hno (Nat.le_refl _),hrc,htt,←hlt,htt,List.count_eq_zero.2 (fun hm=>hno 10 hm rfl)]
 ·have hi:i<s.data.toList.length:=by omega
  have h10:s.data.toList[i]=10:=by
   have:=h3
   rw[hget i h1]at this
   apply UInt8.toNat_inj.1
   show _=10
   omega
  have hb:t.data.toList=s.data.toList.drop (i+1):=by
   rw[ht,h2];congr 1
  have hsp:s.data.toList=s.data.toList.take i++10 :: t.data.toList:=by
   conv=>lhs;rw[←List.take_append_drop i s.data.toList]
   rw[List.drop_eq_getElem_cons hi,h10,hb]
  have hno:∀ b∈t.data.toList,b≠10:=by
   intro b hb' e
   rw[hb]at hb'
   obtain⟨j,hj⟩:=List.getElem?_of_mem hb'
   rw[List.getElem?_drop]at hj
   obtain⟨hj1,hj2⟩:=List.getElem?_eq_some_iff.1 hj
   have:=h4 (i+1+j) (by omega) (by omega)
   rw[hget (i+1+j) (by omega),hj2,e]at this
   exact this rfl
  obtain⟨f',g1,g2⟩:=Xx t.data.toList _ (s.data.toList.take i) (Nat.le_refl _) (s.data.toList.take i++10 :: t.data.toList).length 1 1 (Nat.le_refl _)
  have hcs:s.data.toList.count 10=(s.data.toList.take i).count 10+1:=by
   conv=>lhs;rw[hsp]
   rw[List.count_append,List.count_cons_self,List.count_eq_zero.2 (fun hm=>hno 10 hm rfl)]
  rw[hcs]
  conv=>lhs;rw[hsp]
  rw[g2,xR f' _ _ _ hno g1,hrc]
  have hfu:∀ (f g:Nat) (l:List UInt8),l.length≤f→l.length≤g→nA f l=nA g l:=by
   intro f
   induction f with
   | zero=>
    intro g l hf hg
    have:l=[]:=List.eq_nil_of_length_eq_zero (by omega)
    subst this
    cases g with
    | zero=>rfl
    | succ g=>rw[nA,nA,if_pos rfl]
   | succ f ih=>
    intro g l hf hg
    by_cases hl:l=[]
    ·subst hl
     cases g with
     | zero=>rw[nA,nA,if_pos rfl]
     | succ g=>rw[nA,nA,if_pos rfl,if_pos rfl]
    ·have hp:=List.length_pos_iff.2 hl
     obtain⟨g,rfl⟩:∃ g',g=g'+1:=⟨g - 1,by omega⟩
     have hw:=dK l hl
     rw[nA,nA,if_neg hl,if_neg hl,ih g (l.drop (nx l).2) (by rw[List.length_drop];omega) (by rw[List.length_drop];omega)]
  rw[hfu f' t.size t.data.toList g1 (by omega)]
  congr 1
theorem uU (w:World) (o:Obj):(w.alloc o).heap[w.heap.size]? = some o:=by
 show (w.heap.push o)[w.heap.size]? = _
 simp
theorem pX {w:World} {R j:Nat} {cs:Array Value} {t:TypeId} {fr:Nat × Nat} (h:w.heap[R]? = some (.cells cs t fr)) (x:Value):(w.setCell ⟨R,j,none⟩ x).heap[R]? = some (.cells (cs.setIfInBounds j x) t fr):=by
 rw[setCell_eq_setRow _ _ _ _ _ _ _ h,setRow_heap w R _ _ _ _ h]
set_option maxHeartbeats 4000000 in
set_option maxRecDepth 20000 in
theorem Hh (s:ByteArray) (w:World) (hs:s.size≤1048576) :
  Calls Tryz.prog 74 #[.string s] w fun e w'=>e=.returned (.agg #[.int .i64 ((lE s.data.toList).1:Int),.int .i64 ((lE s.data.toList).2:Int)])∧Below w.heap.size w w':=by
 have hls:s.data.toList.length=s.size:=bC s
 obtain⟨p,hp1,hp2⟩:∃ p:Nat,Lib.lastIndexByte s 10=(p:Int) - 1∧p≤s.size:=by
  rcases Lib.lastIndexByte_spec s 10 with ⟨h1,_⟩ | ⟨i,h1,h2,_⟩
  ·exact⟨0,by rw[h1];rfl,by omega⟩
  ·exact⟨i+1,by rw[h2];omega,by omega⟩
 have hLI:=fun W=>strings_LastIndexByte s 10 (by omega) W
 have hCt:=fun W=>strings_Count_one s 10 W
 have hex:(s.extract p s.size).data.toList=s.data.toList.drop p:=by
  rw[Lib.extract_eq]
  show (List.take (s.size - p) (List.drop p s.data.toList))=_
  rw[List.take_of_length_le (by rw[List.length_drop];omega)]
 have htz:(s.extract p s.size).size≤1048576:=by rw[←bC,hex,List.length_drop];omega
 have hRC:=fun W=>utf8_RuneCountInString (s.extract p s.size) W (by omega)
 have hrl:=Lib.runeCount_le (s.extract p s.size)
 have hcl:Lib.countByte s.data.toList 10≤s.size:=by unfold Lib.countByte;have:=List.count_le_length (a:=(10:UInt8)) (l:=s.data.toList);omega
 have HE:Hid (lE s.data.toList=(1+Lib.countByte s.data.toList 10,1+Lib.runeCount (s.extract p s.size))):=aIa s _ (by
  rw[hex,hp1];congr 1;omega)
 rw[hp1]at hLI
 have w1:wrap64 ((p:Int) - 1+1)=(p:Int):=by unfold wrap64;omega
 have w2:wrap64 (p:Int)=(p:Int):=by unfold wrap64;omega
 have i1:¬(p:Int)<0:=by omega
 have i2:(p:Int)≤(s.size:Int):=by omega
 generalize Lib.runeCount (s.extract p s.size)=rc at *
 generalize Lib.countByte s.data.toList 10=cb at *
 have w3:wrap64 (1+(cb:Int))=1+(cb:Int):=by unfold wrap64;omega
 have w4:wrap64 (1+(rc:Int))=1+(rc:Int):=by unfold wrap64;omega
 clear hex htz hp1 hls
 go_enter Tryz.func74,Tryz.ntmps74
 go_wp2_with fail
 refine(hLI _).mono ?_
 rintro e w9 ⟨rfl,h9⟩
 have h9:=h9.symm
 subst h9
 have HB0:=aB ((Below.refl w.heap.size w).alloc (Nat.le_refl _) (.cells #[.int .i64 0,.int .i64 0] 31))
 have HC0:=aB (uU w (.cells #[.int .i64 0,.int .i64 0] 31))
 go_wp2_with fail
 refine(hCt _).mono ?_
 rintro e w9 ⟨rfl,h9⟩
 have h9:=h9.symm
 subst h9
 go_wp2_with fail
 refine(hRC _).mono ?_
 rintro e W ⟨rfl,pos,hW⟩
 have hbW:Below (w.alloc (.cells #[.int .i64 0,.int .i64 0] 31)).heap.size (w.alloc (.cells #[.int .i64 0,.int .i64 0] 31)) W:=by
  rw[hW];exact(Below.refl _ _).alloc (Nat.le_refl _) _
 have hsV:(w.alloc (.cells #[.int .i64 0,.int .i64 0] 31)).heap.size=w.heap.size+1:=by simp
 have hcW:W.heap[w.heap.size]? = some (.cells #[.int .i64 0,.int .i64 0] 31 (0,0)):=by rw[hbW.block _ (by omega)];exact HC0.out
 have mZ:=aB (HB0.out.trans ⟨hbW.os,hbW.tape,hbW.output,hbW.size,fun k hk=>hbW.block k (by omega)⟩)
 have k0:=aA hcW 0 rfl
 have k1:=aA hcW 1 rfl
 have f0:=aF hcW 0
 have f1:=aF hcW 1
 have HF:Hid (((W.setCell ⟨w.heap.size,0,none⟩ (.int .i64 (1+(cb:Int)))).setCell ⟨w.heap.size,1,none⟩ (.int .i64 (1+(rc:Int)))).heap[w.heap.size]? = some (.cells #[.int .i64 (1+(cb:Int)),.int .i64 (1+(rc:Int))] 31 (0,0))):=by
  refine(?_:_=_)
  have a1:(W.setCell ⟨w.heap.size,0,none⟩ (.int .i64 (1+(cb:Int)))).heap[w.heap.size]? = some (.cells #[.int .i64 (1+(cb:Int)),.int .i64 0] 31 (0,0)):=pX hcW _
  exact pX a1 _
 have HB2:=aB ((mZ.out.setCell (p:=⟨w.heap.size,0,none⟩) (Nat.le_refl _) (.int .i64 (1+(cb:Int)))).setCell (p:=⟨w.heap.size,1,none⟩) (Nat.le_refl _) (.int .i64 (1+(rc:Int))))
 clear hW hbW hcW hLI hCt hRC
 go_wp2_with fail
 generalize (W.setCell ⟨w.heap.size,0,none⟩ (.int .i64 (1+(cb:Int)))).setCell ⟨w.heap.size,1,none⟩ (.int .i64 (1+(rc:Int)))=Y at *
 have y0:=aA HF.out 0 rfl
 have y1:=aA HF.out 1 rfl
 refine bodyPost_ret (v:=.agg #[.int .i64 (1+(cb:Int)),.int .i64 (1+(rc:Int))]) (by simp[results,Tryz.results74,go_sem,y0,y1]) rfl ⟨?_,HB2.out⟩
 rw[HE.out]
 simp
end Go.Proofs.YtpojeinddnjpfaaGreatDoor
