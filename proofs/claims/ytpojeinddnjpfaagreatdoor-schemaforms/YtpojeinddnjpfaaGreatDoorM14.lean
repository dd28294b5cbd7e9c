/-
  Walks and plain words (ScE ShM ShQ FoM EqD).
-/
import Derived.Test.YtpojeinddnjpfaaGreatDoorM13
import Derived.Test.YtpojeinddnjpfaaGreatDoorM2
import Derived.Test.YtpojeinddnjpfaaGreatDoorProg
import Derived.Deep.Cut
import Derived.Deep.DeepCutAuto
import Derived.Lib.SlicesS
namespace Go.Proofs.YtpojeinddnjpfaaGreatDoor
set_option linter.unusedVariables false

def gO:Nat→List UInt8→List Dc→List (List UInt8 × Dc × Rm)
 | 0,_,_=>[]
 | f+1,a,ds=>ds.flatMap fun d=>(a++d.name,d,(a,ds)) :: gO f (a++d.name++[46]) d.inner
theorem lM:∀ (f:Nat) (a:List UInt8) (ds:List Dc),aX f a ds=(gO f a ds).map fun x=>(x.1,x.2.1)
 | 0,a,ds=>rfl
 | f+1,a,ds=>by
  rw[aX,gO,List.map_flatMap]
  congr 1
  funext d
  rw[List.map_cons,←lM f]
theorem vE:∀ (f:Nat) (a:List UInt8) (ds:List Dc) (x:List UInt8 × Dc × Rm),x∈gO f a ds→x.1=x.2.2.1++x.2.1.name∧x.2.1∈x.2.2.2∧(x.2.2=(a,ds)∨∃ y∈gO f a ds,x.2.2=(y.1++[46],y.2.1.inner))
 | 0,a,ds,x,h=>by simp[gO]at h
 | f+1,a,ds,x,h=>by
  rw[gO,List.mem_flatMap]at h
  obtain⟨d,hd,h⟩:=h
  rcases List.mem_cons.1 h with rfl | h
  ·exact⟨rfl,hd,.inl rfl⟩
  ·obtain⟨h1,h2,h3⟩:=vE f _ _ x h
   refine⟨h1,h2,.inr ?_⟩
   rcases h3 with h3 | ⟨y,hy,h3⟩
   ·exact⟨(a++d.name,d,(a,ds)),by rw[gO,List.mem_flatMap];exact⟨d,hd,List.mem_cons_self⟩,h3⟩
   ·exact⟨y,by rw[gO,List.mem_flatMap];exact⟨d,hd,List.mem_cons_of_mem _ hy⟩,h3⟩
theorem sT:∀ (f k:Nat) (a:List UInt8) (ds:List Dc),oQ f k ds=true→∀ x∈gO f a ds,aZ x.2.1.name=true
 | 0,k,a,ds,_,x,h=>by simp[gO]at h
 | f+1,k,a,ds,hfm,x,h=>by
  rw[lG,List.all_eq_true]at hfm
  rw[gO,List.mem_flatMap]at h
  obtain⟨d,hd,h⟩:=h
  rcases List.mem_cons.1 h with rfl | h
  ·exact(lH (hfm d hd)).1
  ·exact sT f (k+1) _ _ (rB (hfm d hd)) x h
def Dotted (a:List UInt8):Prop:=a=[]∨∃ b,a=b++[46]
theorem Tl {b' a c:List UInt8} (hc:c≠[]) (h:b'++[46]=a++c):(46:UInt8)∈c:=by
 rcases List.eq_nil_or_concat c with rfl | ⟨c',x,rfl⟩
 ·exact absurd rfl hc
 ·rw[List.concat_eq_append,←List.append_assoc]at h
  have:=(List.append_inj' h rfl).2
  have hx:(46:UInt8)=x:=by simpa using this
  rw[hx];simp
theorem Zt {a b n m:List UInt8} (ha:Dotted a) (hb:Dotted b) (hn:(46:UInt8)∉n) (hm:(46:UInt8)∉m) (h:a++n=b++m):a=b∧n=m:=by
 rcases List.append_eq_append_iff.1 h with ⟨c,h1,h2⟩ | ⟨c,h1,h2⟩
 ·by_cases hc:c=[]
  ·subst hc;simp at h1 h2;exact⟨h1.symm,h2⟩
  ·exfalso
   rcases hb with hb | ⟨b',hb⟩
   ·rw[hb]at h1
    have:=congrArg List.length h1
    simp at this
    exact hc (List.eq_nil_of_length_eq_zero (by omega))
   ·rw[hb]at h1
    exact hn (by rw[h2];exact List.mem_append_left _ (Tl hc h1))
 ·by_cases hc:c=[]
  ·subst hc;simp at h1 h2;exact⟨h1,h2.symm⟩
  ·exfalso
   rcases ha with ha | ⟨b',ha⟩
   ·rw[ha]at h1
    have:=congrArg List.length h1
    simp at this
    exact hc (List.eq_nil_of_length_eq_zero (by omega))
   ·rw[ha]at h1
    exact hm (by rw[h2];exact List.mem_append_left _ (Tl hc h1))
def ahead (S:List UInt8):List UInt8:=if S=[] then [] else S++[46]
theorem rG (S:List UInt8):Dotted (ahead S):=by
 unfold ahead
 split
 ·exact .inl rfl
 ·exact .inr ⟨S,rfl⟩
theorem wI (S n:List UInt8):zC S n=ahead S++n:=by
 unfold zC ahead
 split <;> simp
section
variable {F:Nat} {top:List Dc}
def zE (F:Nat) (top:List Dc) (S:List UInt8) (r:Rm):Prop:=(S=[]∧r=([],top))∨∃ x∈gO F [] top,S=x.1∧r=(x.1++[46],x.2.1.inner)
theorem Mn (hfm:oQ F 0 top=true) {x:List UInt8 × Dc × Rm} (hx:x∈gO F [] top):x.1≠[]:=by
 intro e
 have h1:=(vE F [] top x hx).1
 have hp:=sT F 0 [] top hfm x hx
 rw[e]at h1
 have hn:x.2.1.name=[]:=(List.append_eq_nil_iff.1 h1.symm).2
 rw[hn]at hp
 revert hp
 decide +kernel
theorem zE.ahead (hfm:oQ F 0 top=true) {S:List UInt8} {r:Rm} (h:zE F top S r):r.1=ahead S:=by
 rcases h with ⟨rfl,rfl⟩ | ⟨x,hx,rfl,rfl⟩
 ·rfl
 ·have:=Mn hfm hx
  unfold Go.Proofs.YtpojeinddnjpfaaGreatDoor.ahead
  rw[if_neg this]
theorem Oz {x:List UInt8 × Dc × Rm} (hx:x∈gO F [] top):∃ S,zE F top S x.2.2:=by
 rcases(vE F [] top x hx).2.2 with h | ⟨y,hy,h⟩
 ·exact⟨[],.inl ⟨rfl,h⟩⟩
 ·exact⟨y.1,.inr ⟨y,hy,rfl,h⟩⟩
theorem Zu (hL:Apart (cK F [] top)) {x y:List UInt8 × Dc × Rm} (hx:x∈gO F [] top) (hy:y∈gO F [] top) (h:x.1=y.1):x=y:=by
 obtain⟨i,hi⟩:=List.getElem?_of_mem hx
 obtain⟨j,hj⟩:=List.getElem?_of_mem hy
 have hall:cK F [] top=(gO F [] top).map fun x=>(x.1,x.2.1.kind):=by rw[gN,lM,List.map_map];rfl
 have hij:=hL i j (x.1,x.2.1.kind) (y.1,y.2.1.kind) (by rw[hall,List.getElem?_map,hi];rfl) (by rw[hall,List.getElem?_map,hj];rfl) h
 subst hij
 rw[hi]at hj
 exact Option.some.inj hj
theorem Er (hfm:oQ F 0 top=true) (hL:Apart (cK F [] top)) {S:List UInt8} {r:Rm} (hs:zE F top S r) {n:List UInt8} (hn:(46:UInt8)∉n) :
  (∃ x∈gO F [] top,x.1=r.1++n∧dH F top r.1 r.2 n=some x.2.1∧fG (cK F [] top) S n=some (x.1,x.2.1.kind))∨(dH F top r.1 r.2 n=none∧fG (cK F [] top) S n=none):=by
 have ha:=hs.ahead hfm
 have hall:cK F [] top=(gO F [] top).map fun x=>(x.1,x.2.1.kind):=by rw[gN,lM,List.map_map];rfl
 by_cases hex:∃ x∈gO F [] top,x.1=r.1++n
 ·obtain⟨x,hx,hxn⟩:=hex
  obtain⟨h1,h2,_⟩:=vE F [] top x hx
  obtain⟨S',hs'⟩:=Oz hx
  have ha':=hs'.ahead hfm
  have hnx:(46:UInt8)∉x.2.1.name:=Iy (kJ (sT F 0 [] top hfm x hx)).1
  obtain⟨e1,e2⟩:=Zt (by rw[ha'];exact rG S') (by rw[ha];exact rG S) hnx hn (h1.symm.trans hxn)
  -- the room is this one
  have hroom:x.2.2=r:=by
   rcases hs with ⟨rfl,rfl⟩ | ⟨y,hy,rfl,rfl⟩
   ·rcases hs' with ⟨_,h⟩ | ⟨z,hz,_,h⟩
    ·exact h
    ·rw[h]at e1;simp at e1
   ·rcases hs' with ⟨_,h⟩ | ⟨z,hz,_,h⟩
    ·rw[h]at e1;simp at e1
    ·rw[h]at e1
     have hzy:z.1=y.1:=by simpa using e1
     have:=Zu hL hz hy hzy
     rw[h,this]
  have hany:r.2.any (fun d=>decide (d.name=n))=true:=by
   rw[List.any_eq_true]
   exact⟨x.2.1,by rw[←hroom];exact h2,by simp[e2]⟩
  have hxl:((x.1,x.2.1):List UInt8 × Dc)∈aX F [] top:=by rw[lM];exact List.mem_map.2 ⟨x,hx,rfl⟩
  obtain⟨o,ho⟩:=Oy hL hxl
  have ho:bZ F [] top (r.1++n)=some (x.2.1,o):=by rw[←hxn];exact ho
  have hfi:kY (cK F [] top) (zC S n)=some (x.1,x.2.1.kind):=by
   rw[wI,←ha,←hxn]
   exact Ep (x:=(x.1,x.2.1.kind)) hL (by rw[hall];exact List.mem_map.2 ⟨x,hx,rfl⟩)
  by_cases hk:x.2.1.kind=1∨x.2.1.kind=2
  ·left
   refine⟨x,hx,hxn,?_,?_⟩
   ·unfold dH
    rw[if_pos hany,ho]
    exact if_pos hk
   ·unfold fG
    rw[hfi]
    have:meant (x.1,x.2.1.kind)=true:=by unfold meant;rw[decide_eq_true_iff];exact hk
    simp[Option.filter,this]
  ·right
   refine⟨?_,?_⟩
   ·unfold dH
    rw[if_pos hany,ho]
    exact if_neg hk
   ·unfold fG
    rw[hfi]
    have:meant (x.1,x.2.1.kind)=false:=by unfold meant;rw[decide_eq_false_iff_not];exact hk
    simp[Option.filter,this]
 ·right
  have hno:∀ y∈gO F [] top,y.1≠r.1++n:=fun y hy e=>hex ⟨y,hy,e⟩
  refine⟨?_,?_⟩
  ·unfold dH
   have hf:bZ F [] top (r.1++n)=none:=by
    have:=oV F [] top (r.1++n)
    rw[List.nil_append]at this
    cases hz:bZ F [] top (r.1++n)with
    | none=>rfl
    | some z=>
     exfalso
     rw[hz]at this
     cases hq:(aX F [] top).find? fun x=>decide (x.1=r.1++n)with
     | none=>rw[hq]at this;simp at this
     | some q=>
      have h1:=List.find?_some hq
      have h2:=List.mem_of_find?_eq_some hq
      rw[lM,List.mem_map]at h2
      obtain⟨y,hy,rfl⟩:=h2
      exact hno y hy (by simpa using h1)
   rw[hf]
   split <;> rfl
  ·unfold fG
   have:kY (cK F [] top) (zC S n)=none:=by
    unfold kY
    rw[List.find?_eq_none]
    intro y hy he
    rw[hall,List.mem_map]at hy
    obtain⟨z,hz,rfl⟩:=hy
    have he:z.1=zC S n:=by simpa using he
    rw[wI,←ha]at he
    exact hno z hz he
   rw[this];rfl
theorem aEf (b n:List UInt8) (hn:(46:UInt8)∉n):Cp (b++46 :: n)=b:=by
 unfold Cp
 rw[List.reverse_append,List.reverse_cons,List.append_assoc]
 rw[List.dropWhile_append_of_pos (by
  intro x hx
  have:x∈n:=List.mem_reverse.1 hx
  rw[decide_eq_true_iff]
  intro e
  exact hn (e▸this))]
 rw[show [46]++b.reverse=(46:UInt8) :: b.reverse from rfl,List.dropWhile_cons_of_neg (by simp)]
 simp
theorem Zv (n:List UInt8) (hn:(46:UInt8)∉n):Cp n=[]:=by
 unfold Cp
 have:n.reverse.dropWhile (fun b=>decide (b≠46))=[]:=by
  have:=List.dropWhile_append_of_pos (p:=fun b:UInt8=>decide (b≠46)) (l₁:=n.reverse) (l₂:=[]) (by
   intro x hx
   rw[decide_eq_true_iff]
   intro e
   exact hn (e▸List.mem_reverse.1 hx))
  rw[List.append_nil]at this
  rw[this];rfl
 rw[this];rfl
theorem Tm (S n:List UInt8) (hn:(46:UInt8)∉n):Cp (ahead S++n)=S:=by
 unfold ahead
 split
 ·rename_i h
  rw[h,List.nil_append]
  exact Zv n hn
 ·rw[List.append_assoc]
  exact aEf S n hn
theorem follow_eq (hfm:oQ F 0 top=true) (hL:Apart (cK F [] top)):∀ (ns:List (List UInt8)),(∀ n∈ns,(46:UInt8)∉n)→∀ x∈gO F [] top,eU F top x.2.1 x.1 ns=nR (cK F [] top) (x.1,x.2.1.kind) ns
 | [],_,x,hx=>rfl
 | n :: t,hn,x,hx=>by
  have hs:zE F top x.1 (x.1++[46],x.2.1.inner):=.inr ⟨x,hx,rfl,rfl⟩
  show (match dH F top (x.1++[46]) x.2.1.inner n with | some y=>eU F top y (x.1++46 :: n) t | none=>none)=(match fG (cK F [] top) x.1 n with | some y=>nR (cK F [] top) y t | none=>none)
  rcases Er hfm hL hs (hn n List.mem_cons_self)with ⟨y,hy,h1,h2,h3⟩ | ⟨h2,h3⟩
  ·have h2:dH F top (x.1++[46]) x.2.1.inner n=some y.2.1:=h2
   rw[h2,h3]
   have h1:y.1=x.1++[46]++n:=h1
   have e:x.1++46 :: n=y.1:=by rw[h1];simp
   show eU F top y.2.1 (x.1++46 :: n) t=nR (cK F [] top) (y.1,y.2.1.kind) t
   rw[e]
   exact follow_eq hfm hL t (fun m hm=>hn m (List.mem_cons_of_mem _ hm)) y hy
  ·have h2:dH F top (x.1++[46]) x.2.1.inner n=none:=h2
   rw[h2,h3]
def zF (F:Nat) (top:List Dc):List UInt8→List Rm→Prop
 | S,[]=>False
 | S,r :: t=>zE F top S r∧((S=[]∧t=[])∨(S≠[]∧zF F top (Cp S) t))
theorem zG (hfm:oQ F 0 top=true) (hL:Apart (cK F [] top)) (n0:List UInt8) (ns:List (List UInt8)) (h0:(46:UInt8)∉n0) (hns:∀ n∈ns,(46:UInt8)∉n):∀ (rs:List Rm) (S:List UInt8),zF F top S rs→iF F top n0 ns rs=fH (cK F [] top) n0 ns (S.length+1) S
 | [],S,h=>h.elim
 | r :: t,S,h=>by
  obtain⟨hs,ht⟩:=h
  rw[Ja]
  show (match dH F top r.1 r.2 n0 with | some d=>eU F top d (r.1++n0) ns | none=>iF F top n0 ns t)=_
  rcases Er hfm hL hs h0 with ⟨y,hy,h1,h2,h3⟩ | ⟨h2,h3⟩
  ·rw[h2,h3]
   show eU F top y.2.1 (r.1++n0) ns=nR (cK F [] top) (y.1,y.2.1.kind) ns
   rw[←h1]
   exact follow_eq hfm hL ns hns y hy
  ·rw[h2,h3]
   show iF F top n0 ns t=if S=[] then none else fH (cK F [] top) n0 ns ((Cp S).length+1) (Cp S)
   rcases ht with ⟨h4,h5⟩ | ⟨h4,h5⟩
   ·rw[if_pos h4,h5];rfl
   ·rw[if_neg h4]
    exact zG hfm hL n0 ns h0 hns t (Cp S) h5
theorem Jc (hfm:oQ F 0 top=true):∀ (f k:Nat) (a:List UInt8) (ds:List Dc) (S:List UInt8) (tail:List Rm),oQ f k ds=true→(∀ x∈gO f a ds,x∈gO F [] top)→zF F top S ((a,ds) :: tail)→
  ∀ (r:List UInt8) (d:Dc) (o:List Rm),bZ f a ds (a++r)=some (d,o)→zF F top (a++r) ((a++r++[46],d.inner) :: (o++tail)):=by
 intro f
 induction f with
 | zero=>intro k a ds S tail _ _ _ r d o h;cases h
 | succ f ih=>
  intro k a ds S tail hf hin hg r d o h
  have ha:a=ahead S:=hg.1.ahead hfm
  rw[nS]at h
  rw[lG,List.all_eq_true]at hf
  have self:∀ x∈ds,(a++x.name,x,(a,ds))∈gO F [] top:=fun x hx=>hin _ (by rw[gO,List.mem_flatMap];exact⟨x,hx,List.mem_cons_self⟩)
  have step:∀ x∈ds,(a++x.name≠[])∧Cp (a++x.name)=S:=fun x hx=>by
   refine⟨Mn hfm (self x hx),?_⟩
   rw[ha]
   exact Tm S x.name (Iy (kJ (lH (hf x hx)).1).1)
  have key:∀ t:List Dc,(∀ x∈t,x∈ds)→∀ (d:Dc) (o:List Rm),Jb (fun a' ds'=>bZ f a' ds' (a++r)) a ds (a++r) t=some (d,o)→zF F top (a++r) ((a++r++[46],d.inner) :: (o++tail)):=by
   intro t
   induction t with
   | nil=>intro _ d o h;cases h
   | cons x t iht=>
    intro ht d o h
    have hx:=ht x List.mem_cons_self
    have ht':∀ y∈t,y∈ds:=fun y hy=>ht y (List.mem_cons_of_mem _ hy)
    rw[rF,List.drop_left]at h
    split at h
    ·rename_i hnm
     cases h
     rw[←hnm]
     refine⟨.inr ⟨_,self x hx,rfl,rfl⟩,.inr ⟨(step x hx).1,?_⟩⟩
     rw[(step x hx).2]
     exact hg
    ·split at h
     ·rename_i hh
      obtain⟨r',hr'⟩:=(mE _ _).1 hh
      have e1:a++r=(a++x.name++[46])++r':=by rw[hr'];simp
      have e2:(a++r).take (a.length+x.name.length+1)=a++x.name++[46]:=by
       rw[e1,List.take_left' (by simp;omega)]
      rw[e2]at h
      cases hz:bZ f (a++x.name++[46]) x.inner (a++r)with
      | none=>rw[hz]at h;exact iht ht' d o h
      | some z=>
       obtain⟨z1,z2⟩:=z
       have hgz:=ih (k+1) (a++x.name++[46]) x.inner (a++x.name) ((a,ds) :: tail) (rB (hf x hx)) (fun y hy=>hin y (by rw[gO,List.mem_flatMap];exact⟨x,hx,List.mem_cons_of_mem _ hy⟩))
        ⟨.inr ⟨_,self x hx,rfl,rfl⟩,.inr ⟨(step x hx).1,by rw[(step x hx).2];exact hg⟩⟩ r' z1 z2 (by rw[←e1];exact hz)
       rw[hz]at h
       cases h
       rw[←e1]at hgz
       rw[List.append_assoc z2 [(a,ds)] tail]
       exact hgz
     ·exact iht ht' d o h
  exact key ds (fun _ h=>h) d o h
theorem find_eq (hfm:oQ F 0 top=true) (hL:Apart (cK F [] top)) (sc path:List UInt8):iN F top sc path=Ml (cK F [] top) sc path:=by
 unfold iN Ml
 by_cases hp:cF path=true
 ·rw[if_pos hp,if_pos hp]
  have hpl:∀ n∈jC [] path,aZ n=true:=by
   unfold cF at hp
   simp only[Bool.and_eq_true,List.all_eq_true]at hp
   exact fun n hn=>hp.2 n hn
  have hnd:∀ n∈jC [] path,(46:UInt8)∉n:=fun n hn=>Iy (kJ (hpl n hn)).1
  have hcall:cK F [] top=(gO F [] top).map fun x=>(x.1,x.2.1.kind):=by rw[gN,lM,List.map_map];rfl
  have hrun:∀ rs,zF F top sc rs→aCq F top rs (jC [] path)=aCp (cK F [] top) sc (jC [] path):=by
   intro rs hg
   cases hq:jC [] path with
   | nil=>rfl
   | cons n0 ns=>
    rw[hq]at hnd
    exact zG hfm hL n0 ns (hnd n0 List.mem_cons_self) (fun n hn=>hnd n (List.mem_cons_of_mem _ hn)) rs sc hg
  by_cases hs:sc=[]
  ·subst hs
   have ha:gM F top []=some [([],top)]:=rfl
   rw[ha,if_pos (by unfold wH;simp)]
   exact hrun _ ⟨.inl ⟨rfl,rfl⟩,.inl ⟨rfl,rfl⟩⟩
  ·have hfl:=oV F [] top sc
   rw[List.nil_append]at hfl
   have hfa:kY (cK F [] top) sc=((aX F [] top).find? fun x=>decide (x.1=sc)).map fun x=>(x.1,x.2.kind):=by
    unfold kY
    rw[gN,List.find?_map]
    rfl
   unfold gM
   rw[if_neg hs]
   cases hq:(aX F [] top).find? fun x=>decide (x.1=sc)with
   | none=>
    rw[hq]at hfl hfa
    cases hz:bZ F [] top sc with
    | some z=>rw[hz]at hfl;simp at hfl
    | none=>
     dsimp only
     rw[if_neg (by unfold wH;rw[hfa];simp[hs])]
   | some q=>
    have hq1:q.1=sc:=by have:=List.find?_some hq;simpa using this
    rw[hq]at hfl hfa
    cases hz:bZ F [] top sc with
    | none=>rw[hz]at hfl;simp at hfl
    | some z=>
     obtain⟨d,o⟩:=z
     rw[hz]at hfl
     have hd:d=q.2:=by simpa using hfl
     dsimp only
     by_cases hk:d.kind=1
     ·rw[if_pos hk,if_pos (by unfold wH;rw[hfa];simp[hs,←hd,hk])]
      have hg:=Jc hfm F 0 [] top [] [] hfm (fun x hx=>hx) ⟨.inl ⟨rfl,rfl⟩,.inl ⟨rfl,rfl⟩⟩ sc d o (by rw[List.nil_append];exact hz)
      rw[List.nil_append,List.append_nil]at hg
      exact hrun _ hg
     ·rw[if_neg hk,if_neg (by unfold wH;rw[hfa];simp[hs,←hd,hk])]
 ·rw[if_neg hp,if_neg hp]
end
structure FD where
 num:Int
 name:List UInt8
 kind:Int
 rep:Bool
 type:Int
structure MD where
 name:List UInt8
 fields:List FD
structure VD where
 name:List UInt8
 num:Int
structure ED where
 name:List UInt8
 values:List VD
structure TD where
 id:Int
 service:List UInt8
 name:List UInt8
 inp:Int
 out:Int
structure SC where
 ms:List MD
 es:List ED
 ts:List TD
def aQ {α:Type} (g:Nat→Option α):Nat→Option α
 | 0=>none
 | n+1=>match aQ g n with
  | some x=>some x
  | none=>g n
theorem bD {α:Type} {g:Nat→Option α} {j:Nat} (h:aQ g j=none) (hx:g j=none):aQ g (j+1)=none:=by
 rw[aQ,h];exact hx
theorem tO {α:Type} {g:Nat→Option α} {j:Nat} {x:α} (h:aQ g j=some x):∀ n:Nat,aQ g (j+n)=some x
 | 0=>h
 | n+1=>by
  have:=tO h n
  rw[←Nat.add_assoc,aQ,this]
theorem aI {α:Type} {g:Nat→Option α} {j n:Nat} {x:α} (h:aQ g j=none) (hx:g j=some x) (hn:j<n):aQ g n=some x:=by
 have h1:aQ g (j+1)=some x:=by rw[aQ,h];exact hx
 obtain⟨k,rfl⟩:∃ k,n=j+1+k:=⟨n - (j+1),by omega⟩
 exact tO h1 k
theorem kO {α:Type} {g:Nat→Option α}:∀ {n:Nat},aQ g n=none→∀ j:Nat,j<n→g j=none
 | 0,_,j,hj=>absurd hj (Nat.not_lt_zero _)
 | n+1,h,j,hj=>by
  rw[aQ]at h
  cases e:aQ g n with
  | some x=>rw[e]at h;cases h
  | none=>
   rw[e]at h
   by_cases hjn:j=n
   ·subst hjn;exact h
   ·exact kO e j (by omega)
abbrev Pl:=List UInt8 × Dc
def dI (k:Int) (ps:List Pl):Nat:=(ps.filter fun x=>decide (x.2.kind=k)).length
def hJ:List Pl→Nat
 | []=>0
 | x :: t=>x.2.methods.length+hJ t
theorem gC (k:Int) (ps:List Pl) (x:Pl):dI k (ps++[x])=dI k ps+(if x.2.kind=k then 1 else 0):=by
 unfold dI
 rw[List.filter_append,List.length_append]
 by_cases h:x.2.kind=k <;> simp[h]
theorem sU:∀ (ps:List Pl) (x:Pl),hJ (ps++[x])=hJ ps+x.2.methods.length
 | [],x=>by simp[hJ]
 | a :: t,x=>by
  have:=sU t x
  simp only[List.cons_append,hJ]
  omega
theorem aY {α:Type} {l:List α} {j:Nat} {x:α} (h:l[j]? = some x):l.take (j+1)=l.take j++[x]:=by
 rw[List.take_add_one,h];rfl

def pP (m:Nat) (d:Dc):Option (Int × Int):=match d.methods[64 - m]? with
 | some x=>some (x.line,x.col)
 | none=>none
def pQ (m:Nat) (d:Dc):Option (Int × Int):=match d.fields[32]? with
 | some f=>some (f.line,f.col)
 | none=>pP m d
def wJ (c1 c2 m:Nat) (d:Dc):Option (Int × Int):=if 64<c1∨64<c2 then some (d.line,d.col) else pQ m d
def eH (ps:List Pl) (i:Nat):Option (Int × Int):=match ps[i]? with
 | some x=>wJ (dI 1 (ps.take (i+1))) (dI 2 (ps.take (i+1))) (hJ (ps.take i)) x.2
 | none=>none
def gP (d:Dc):List (List UInt8 × (Int × Int)):=d.fields.map (fun f=>(f.name,(f.line,f.col)))++(d.values.map (fun f=>(f.name,(f.line,f.col)))++d.methods.map (fun f=>(f.name,(f.line,f.col))))
def qD (keys:List (List UInt8)) (qs:List (List UInt8 × (Int × Int))) (k:Nat):Option (Int × Int):=match qs[k]? with
 | some a=>if a.1∈keys++(qs.take k).map (·.1) then some a.2 else none
 | none=>none
def zH (d:Dc):Option (Int × Int):=aQ (qD (d.inner.map (·.name)) (gP d)) (gP d).length
def jB (ps:List Pl) (i:Nat):Option (Int × Int):=match ps[i]? with
 | some x=>if x.1∈(ps.take i).map (·.1) then some (x.2.line,x.2.col) else zH x.2
 | none=>none
def fV (n:Int):Bool:=decide (1≤n∧n≤536870911∧(n<19000∨19999<n))
def dP (d:Dc):List (Int × Bool × (Int × Int)):=d.fields.map (fun f=>(f.num,!fV f.num,(f.line,f.col)))++d.values.mapIdx (fun k v=>(v.num,decide (k=0∧v.num≠0),(v.line,v.col)))
def gV (qs:List (Int × Bool × (Int × Int))) (k:Nat):Option (Int × Int):=match qs[k]? with
 | some a=>if a.2.1=true∨a.1∈(qs.take k).map (·.1) then some a.2.2 else none
 | none=>none
def Pa (d:Dc):Option (Int × Int):=if d.kind=2∧d.values.length=0 then some (d.line,d.col) else aQ (gV (dP d)) (dP d).length
def pF (ps:List Pl) (i:Nat):Option (Int × Int):=match ps[i]? with
 | some x=>Pa x.2
 | none=>none
/-! the tables -/
def yC (l:List FD) (x:FD):List FD:=l.takeWhile (fun y=>decide (y.num<x.num))++x :: l.dropWhile (fun y=>decide (y.num<x.num))
def zI (xs:List FD):List FD:=xs.foldl yC []
def Es (x:Pl):ED:=⟨x.1,x.2.values.map fun v=>⟨v.name,v.num⟩⟩
/-! rings -/
def Goes (ms:List MD) (a b:Nat):Prop:=∃ m,ms[a]? = some m∧∃ f,f∈m.fields∧f.kind=10∧f.rep=false∧f.type=(b:Int)
def Ring (ms:List MD) (t:Nat):Prop:=Relation.TransGen (Goes ms) t t
def mT (ms:List MD) (ps:List Pl) (n:Nat) (o:Option (Int × Int)):Prop:=match o with
 | none=>∀ (i:Nat) (x:Pl),i<n→ps[i]? = some x→x.2.kind=1→¬Ring ms (dI 1 (ps.take i))
 | some p=>∃ (i:Nat) (x:Pl),ps[i]? = some x∧x.2.kind=1∧Ring ms (dI 1 (ps.take i))∧p=(x.2.line,x.2.col)∧∀ (j:Nat) (y:Pl),j<i→ps[j]? = some y→y.2.kind=1→¬Ring ms (dI 1 (ps.take j))
def Seen (s:List Bool) (x:Nat):Prop:=s[x]? = some true
def Tn (ms:List MD) (s:List Bool) (x:Nat):Prop:=∀ y,Goes ms x y→Seen s y
structure RInv (ms:List MD) (t:Nat) (s:List Bool) (wt:List Nat):Prop where
 len:s.length=ms.length
 reach:∀ x,Seen s x→Relation.TransGen (Goes ms) t x
 not:¬Seen s t
 wait:∀ x∈wt,x<ms.length∧(x=t∨Seen s x)
 done:∀ x,(x=t∨Seen s x)→x∈wt∨Tn ms s x
structure Jd (ms:List MD) (t:Nat) (s:List Bool) (wt:List Nat) (c:Nat) (fs:List FD) (k:Nat):Prop where
 len:s.length=ms.length
 reach:∀ x,Seen s x→Relation.TransGen (Goes ms) t x
 not:¬Seen s t
 wait:∀ x∈wt,x<ms.length∧(x=t∨Seen s x)
 done:∀ x,(x=t∨Seen s x)→x∈wt∨x=c∨Tn ms s x
 cur:c=t∨Seen s c
 fields:∃ m,ms[c]? = some m∧m.fields=fs
 part:∀ f∈fs.take k,f.kind=10→f.rep=false→∀ y:Nat,f.type=(y:Int)→Seen s y
theorem Je (ms:List MD) (t:Nat) (ht:t<ms.length):RInv ms t (List.replicate ms.length false) [t]:=by
 have hn:∀ x,¬Seen (List.replicate ms.length false) x:=by
  intro x h
  unfold Seen at h
  rw[List.getElem?_replicate]at h
  split at h <;> cases h
 refine⟨by simp,fun x h=>absurd h (hn x),hn t,?_,?_⟩
 ·intro x hx
  have:x=t:=by simpa using hx
  subst this
  exact⟨ht,.inl rfl⟩
 ·intro x hx
  rcases hx with rfl | h
  ·exact .inl (by simp)
  ·exact absurd h (hn x)
theorem RInv.pop {ms:List MD} {t:Nat} {s:List Bool} {wt:List Nat} {c:Nat} {m:MD} (h:RInv ms t s (wt++[c])) (hm:ms[c]? = some m):Jd ms t s wt c m.fields 0:=by
 refine⟨h.len,h.reach,h.not,fun x hx=>h.wait x (by simp[hx]),?_,(h.wait c (by simp)).2,⟨m,hm,rfl⟩,by simp⟩
 intro x hx
 rcases h.done x hx with h1 | h1
 ·rcases List.mem_append.1 h1 with h2 | h2
  ·exact .inl h2
  ·exact .inr (.inl (by simpa using h2))
 ·exact .inr (.inr h1)
theorem Jd.skip {ms:List MD} {t:Nat} {s:List Bool} {wt:List Nat} {c:Nat} {fs:List FD} {k:Nat} {f:FD} (h:Jd ms t s wt c fs k) (hf:fs[k]? = some f) (hs:f.kind=10→f.rep=false→∀ y:Nat,f.type=(y:Int)→Seen s y):Jd ms t s wt c fs (k+1):=by
 refine⟨h.len,h.reach,h.not,h.wait,h.done,h.cur,h.fields,?_⟩
 intro g hg
 rw[aY hf]at hg
 rcases List.mem_append.1 hg with h1 | h1
 ·exact h.part g h1
 ·have:g=f:=by simpa using h1
  subst this;exact hs
theorem lN {s:List Bool} {y x:Nat} (hy:y<s.length):Seen (s.set y true) x↔x=y∨Seen s x:=by
 unfold Seen
 rw[List.getElem?_set]
 by_cases h:y=x
 ·subst h;simp[hy]
 ·rw[if_neg h]
  constructor
  ·exact .inr
  ·rintro(e | e)
   ·exact absurd e.symm h
   ·exact e
theorem Jd.goes {ms:List MD} {t:Nat} {s:List Bool} {wt:List Nat} {c:Nat} {fs:List FD} {k:Nat} {f:FD} {y:Nat} (h:Jd ms t s wt c fs k) (hf:fs[k]? = some f) (h1:f.kind=10) (h2:f.rep=false) (h3:f.type=(y:Int)):Relation.TransGen (Goes ms) t y:=by
 obtain⟨m,hm,rfl⟩:=h.fields
 have hg:Goes ms c y:=⟨m,hm,f,List.mem_of_getElem? hf,h1,h2,h3⟩
 rcases h.cur with rfl | hc
 ·exact .single hg
 ·exact .tail (h.reach c hc) hg
theorem Jd.mark {ms:List MD} {t:Nat} {s:List Bool} {wt:List Nat} {c:Nat} {fs:List FD} {k:Nat} {f:FD} {y:Nat} (h:Jd ms t s wt c fs k) (hf:fs[k]? = some f) (h1:f.kind=10) (h2:f.rep=false) (h3:f.type=(y:Int)) (hy:y<ms.length) (hyt:y≠t) :
  Jd ms t (s.set y true) (wt++[y]) c fs (k+1):=by
 have hyl:y<s.length:=by rw[h.len];exact hy
 have up:∀ x,Seen s x→Seen (s.set y true) x:=fun x hx=>(lN hyl).2 (.inr hx)
 refine⟨by simp[h.len],fun x hx=>?_,fun hx=>?_,fun x hx=>?_,fun x hx=>?_,h.cur.imp id (up c),h.fields,?_⟩
 ·rcases(lN hyl).1 hx with rfl | hx
  ·exact h.goes hf h1 h2 h3
  ·exact h.reach x hx
 ·rcases(lN hyl).1 hx with e | hx
  ·exact hyt e.symm
  ·exact h.not hx
 ·rcases List.mem_append.1 hx with hx | hx
  ·exact⟨(h.wait x hx).1,(h.wait x hx).2.imp id (up x)⟩
  ·have:x=y:=by simpa using hx
   subst this
   exact⟨hy,.inr ((lN hyl).2 (.inl rfl))⟩
 ·have old:∀ x,(x=t∨Seen s x)→x∈wt++[y]∨x=c∨Tn ms (s.set y true) x:=fun x hx=>by
   rcases h.done x hx with h4 | h4 | h4
   ·exact .inl (by simp[h4])
   ·exact .inr (.inl h4)
   ·exact .inr (.inr fun z hz=>up z (h4 z hz))
  rcases hx with e | hx
  ·exact old x (.inl e)
  ·rcases(lN hyl).1 hx with e | hx
   ·exact .inl (by simp[e])
   ·exact old x (.inr hx)
 ·intro g hg
  rw[aY hf]at hg
  rcases List.mem_append.1 hg with hg | hg
  ·exact fun a b z hz=>up z (h.part g hg a b z hz)
  ·have:g=f:=by simpa using hg
   subst this
   intro _ _ z hz
   have:z=y:=by rw[h3]at hz;omega
   subst this
   exact(lN hyl).2 (.inl rfl)
theorem Jd.fin {ms:List MD} {t:Nat} {s:List Bool} {wt:List Nat} {c:Nat} {fs:List FD} {k:Nat} (h:Jd ms t s wt c fs k) (hk:fs.length≤k):RInv ms t s wt:=by
 refine⟨h.len,h.reach,h.not,h.wait,fun x hx=>?_⟩
 rcases h.done x hx with h1 | rfl | h1
 ·exact .inl h1
 ·right
  intro y hy
  obtain⟨m,hm,rfl⟩:=h.fields
  obtain⟨m',hm',f,hf,h1,h2,h3⟩:=hy
  rw[hm]at hm'
  cases hm'
  exact h.part f (by rw[List.take_of_length_le hk];exact hf) h1 h2 y h3
 ·exact .inr h1
theorem RInv.stop {ms:List MD} {t:Nat} {s:List Bool} (h:RInv ms t s []):¬Ring ms t:=by
 intro hr
 have key:∀ x,Relation.TransGen (Goes ms) t x→Seen s x:=by
  intro x hx
  induction hx with
  | single hg=>
   rcases h.done t (.inl rfl)with h1 | h1
   ·simp at h1
   ·exact h1 _ hg
  | tail _ hg ih=>
   rcases h.done _ (.inr ih)with h1 | h1
   ·simp at h1
   ·exact h1 _ hg
 exact h.not (key t hr)
theorem Jd.found {ms:List MD} {t:Nat} {s:List Bool} {wt:List Nat} {c:Nat} {fs:List FD} {k:Nat} {f:FD} (h:Jd ms t s wt c fs k) (hf:fs[k]? = some f) (h1:f.kind=10) (h2:f.rep=false) (h3:f.type=(t:Int)):Ring ms t:=h.goes hf h1 h2 h3
def Ru (s:List Bool):Nat:=(s.filter fun b=>!b).length
theorem Mo:∀ (s:List Bool) (y:Nat),s[y]? = some false→Ru (s.set y true)+1=Ru s
 | [],y,h=>by simp at h
 | b :: t,0,h=>by
  have:b=false:=by simpa using h
  subst this
  simp[Ru]
 | b :: t,y+1,h=>by
  have:=Mo t y (by simpa using h)
  unfold Ru at this ⊢
  rw[List.set_cons_succ,List.filter_cons,List.filter_cons]
  cases b <;> simp <;> omega
def eX (g:Nat→Bool):Nat→Bool
 | 0=>true
 | n+1=>eX g n&&g n
theorem cP {g:Nat→Bool} {j:Nat} (h:eX g j=true) (hx:g j=true):eX g (j+1)=true:=by rw[eX,h,hx];rfl
theorem cQ {g:Nat→Bool} {j n:Nat} (hx:g j=false) (hn:j<n):eX g n=false:=by
 induction n with
 | zero=>omega
 | succ n ih=>
  rw[eX]
  by_cases h:j=n
  ·subst h;rw[hx,Bool.and_false]
  ·rw[ih (by omega),Bool.false_and]
theorem Et {g:Nat→Bool}:∀ {n:Nat},eX g n=true↔∀ j,j<n→g j=true
 | 0=>by simp[eX]
 | n+1=>by
  rw[eX,Bool.and_eq_true,Et]
  constructor
  ·rintro⟨h1,h2⟩ j hj
   by_cases h:j=n
   ·subst h;exact h2
   ·exact h1 j (by omega)
  ·intro h
   exact⟨fun j hj=>h j (by omega),h n (by omega)⟩
def fF {α:Type} (l:List α) (g:Nat→α→Bool) (k:Nat):Bool:=match l[k]? with
 | some x=>g k x
 | none=>true
theorem dB {α:Type} {l:List α} {g:Nat→α→Bool} {k:Nat} {x:α} (h:l[k]? = some x):fF l g k=g k x:=by unfold fF;rw[h]
def allA {α:Type} (l:List α) (g:Nat→α→Bool):Bool:=eX (fF l g) l.length
theorem Eu {α:Type} {l:List α} {g:Nat→α→Bool}:allA l g=true↔∀ (k:Nat) (x:α),l[k]? = some x→g k x=true:=by
 unfold allA
 rw[Et]
 constructor
 ·intro h k x hx
  have:=h k (List.getElem?_eq_some_iff.1 hx).1
  rwa [dB hx]at this
 ·intro h j hj
  obtain⟨x,hx⟩:∃ x,l[j]? = some x:=⟨_,List.getElem?_eq_getElem hj⟩
  rw[dB hx];exact h j x hx
def wK (fs:List FD):Nat→Int
 | 0=>0
 | k+1=>match fs[k]? with
  | some f=>f.num
  | none=>0
def sV (ne nm:Nat) (f:FD):Bool:=if f.kind=9 then decide (0≤f.type∧f.type<(ne:Int)) else if f.kind=10 then decide (0≤f.type∧f.type<(nm:Int)) else decide (1≤f.kind∧f.kind≤8∧f.type=0)
def fI (fs:List FD) (k:Nat):List (List UInt8):=(fs.take k).map (·.name)
def kP (ne nm:Nat) (fs:List FD) (k:Nat) (f:FD):Bool:=decide (wK fs k<f.num)&&(fV f.num&&(aZ f.name&&(!decide (f.name∈fI fs k)&&sV ne nm f)))
def pR (ne nm:Nat) (fs:List FD):Bool:=allA fs (kP ne nm fs)
def iX (vs:List VD) (k:Nat):List (List UInt8):=(vs.take k).map (·.name)
def mU (vs:List VD) (k:Nat):List Int:=(vs.take k).map (·.num)
def pS (vs:List VD) (k:Nat) (v:VD):Bool:=eF v.num&&(!decide (v.num∈mU vs k)&&(aZ v.name&&!decide (v.name∈iX vs k)))
def rH (vs:List VD):Bool:=allA vs (pS vs)
def zeroV (vs:List VD):Bool:=match vs[0]? with
 | some v=>decide (v.num=0)
 | none=>false
def iY (ts:List TD) (k:Nat):List (List UInt8 × List UInt8):=(ts.take k).map fun t=>(t.service,t.name)
def Bb (nm:Nat) (n:Int):Bool:=decide (0≤n∧n<(nm:Int))
def iO (nm:Nat) (ts:List TD) (k:Nat) (t:TD):Bool:=decide (t.id=(k:Int)+1)&&(aZ t.service&&(aZ t.name&&(!decide ((t.service,t.name)∈iY ts k)&&(Bb nm t.inp&&Bb nm t.out))))
def pT (nm:Nat) (ts:List TD):Bool:=allA ts (iO nm ts)
def aS (s:SC):List (List UInt8):=s.ms.map (·.name)++s.es.map (·.name)
def jT (ns:List (List UInt8)) (k:Nat) (x:List UInt8):Bool:=cF x&&!decide (x∈ns.take k)
def rI (ns:List (List UInt8)):Bool:=allA ns (jT ns)
def rJ (ne nm:Nat) (k:Nat) (m:MD):Bool:=decide (m.fields.length≤32)&&pR ne nm m.fields
def lO (ne nm:Nat) (ms:List MD):Bool:=allA ms (rJ ne nm)
def tP (k:Nat) (e:ED):Bool:=zeroV e.values&&rH e.values
def pU (es:List ED):Bool:=allA es tP
def Bc (s:SC):Bool:=decide (s.ms.length≤64∧s.es.length≤64∧s.ts.length≤64)
def rK (s:SC):Bool:=Bc s&&(rI (aS s)&&(lO s.es.length s.ms.length s.ms&&(pU s.es&&pT s.ms.length s.ts)))
def aKo (s:SC):Prop:=rK s=true∧∀ i,i<s.ms.length→¬Ring s.ms i
theorem Ev {fs:List FD} {k:Nat} {f:FD} (h:fs[k]? = some f):fI fs (k+1)=fI fs k++[f.name]:=by unfold fI;rw[aY h,List.map_append];rfl
theorem Ew {fs:List VD} {k:Nat} {f:VD} (h:fs[k]? = some f):iX fs (k+1)=iX fs k++[f.name]:=by unfold iX;rw[aY h,List.map_append];rfl
theorem Jf {fs:List VD} {k:Nat} {f:VD} (h:fs[k]? = some f):mU fs (k+1)=mU fs k++[f.num]:=by unfold mU;rw[aY h,List.map_append];rfl
theorem Ex {fs:List TD} {k:Nat} {f:TD} (h:fs[k]? = some f):iY fs (k+1)=iY fs k++[(f.service,f.name)]:=by unfold iY;rw[aY h,List.map_append];rfl
theorem wL {fs:List FD} {k:Nat} {f:FD} (h:fs[k]? = some f):wK fs (k+1)=f.num:=by rw[wK,h]
theorem Jg (fs:List FD) (k:Nat):(fI fs k).length≤k:=by unfold fI;rw[List.length_map,List.length_take];omega
theorem Jh (fs:List VD) (k:Nat):(iX fs k).length≤k:=by unfold iX;rw[List.length_map,List.length_take];omega
theorem Pb (fs:List VD) (k:Nat):(mU fs k).length≤k:=by unfold mU;rw[List.length_map,List.length_take];omega
theorem Ji (fs:List TD) (k:Nat):(iY fs k).length≤k:=by unfold iY;rw[List.length_map,List.length_take];omega
open Go.ChangeShapes Go.WideShapes Go.ChangeAt Go.RowKit
theorem RowsIn.cM {α:Type} {w:World} {S:Nat→Prop} {k:Nat} {row:α→List Value} {v:Value} {xs:List α} (h:RowsIn w S k row v xs):∃ ad c,v=.slice ad xs.length c:=by
 obtain⟨ad,c,hv,_⟩:=h;exact⟨ad,c,hv⟩
theorem aM.eI {w:World} {S:Nat→Prop}:∀ {f:Nat} {v:Value} {ds:List Dc},aM f w S v ds→∃ ad c,v=.slice ad ds.length c
 | 0,v,ds,⟨h,ad,c,hv⟩=>by subst h;exact⟨ad,c,hv⟩
 | f+1,v,ds,h=>by obtain⟨ad,c,hv,_⟩:=h;exact⟨ad,c,hv⟩
def aEg (f:Nat) (d:Dc):Prop:=d.fields.length≤100000∧d.values.length≤100000∧d.methods.length≤100000∧iV f d.inner
end Go.Proofs.YtpojeinddnjpfaaGreatDoor
