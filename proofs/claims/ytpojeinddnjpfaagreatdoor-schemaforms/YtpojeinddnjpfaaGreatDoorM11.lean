/-
  Walks and plain words (DvM DvF).
-/
import Derived.Test.YtpojeinddnjpfaaGreatDoorM1
import Derived.Lib.ParseIntB
import Derived.Lib.Bytealg
import Derived.Test.YtpojeinddnjpfaaGreatDoorM3
import Derived.Test.YtpojeinddnjpfaaGreatDoorM2
namespace Go.Proofs.YtpojeinddnjpfaaGreatDoor
set_option linter.unusedVariables false

def Az (l:List UInt8):Nat→Nat→Nat→Prop
 | 0,p,e=>p=e
 | c+1,p,e=>p<l.length∧(nx (l.drop p)).1≠10∧Az l c (p+(nx (l.drop p)).2) e
theorem sP {l:List UInt8} {k:Nat} (h:k<l.length):l.drop k≠[]:=by
 intro e;have:=congrArg List.length e;rw[List.length_drop,List.length_nil]at this;omega
theorem wB {l:List UInt8} {k:Nat} (h:l.drop k≠[]):k<l.length:=by
 by_cases hk:k<l.length
 ·exact hk
 ·exact absurd (List.drop_eq_nil_of_le (Nat.le_of_not_lt hk)) h
theorem Az.le {l:List UInt8}:∀ {c p e:Nat},Az l c p e→p+c≤e
 | 0,p,e,h=>by have:p=e:=h;omega
 | c+1,p,e,h=>by
  obtain⟨h1,h2,h3⟩:=h
  have:=h3.le
  have:=(dK _ (sP h1)).1
  omega
theorem Ir {r:Int} (h:aK r=true):r≠10:=by
 intro e;subst e;revert h;decide
theorem Mi (l:List UInt8):∀ (f p:Nat),Az l (bE f (l.drop p)).2 p (p+(bE f (l.drop p)).1)
 | 0,p=>by simp[bE,Az]
 | f+1,p=>by
  by_cases h:l.drop p≠[]∧aK (nx (l.drop p)).1=true
  ·have e:bE (f+1) (l.drop p)=((nx (l.drop p)).2+(bE f (l.drop (p+(nx (l.drop p)).2))).1,(bE f (l.drop (p+(nx (l.drop p)).2))).2+1):=by
    rw[bE,if_pos h,List.drop_drop]
   rw[e]
   refine⟨wB h.1,Ir h.2,?_⟩
   have:=Mi l f (p+(nx (l.drop p)).2)
   rw[show p+((nx (l.drop p)).2+(bE f (l.drop (p+(nx (l.drop p)).2))).1)=p+(nx (l.drop p)).2+(bE f (l.drop (p+(nx (l.drop p)).2))).1 by omega]
   exact this
  ·have e:bE (f+1) (l.drop p)=(0,0):=by rw[bE,if_neg h]
   rw[e];exact rfl
theorem wC (l:List UInt8) (h:l≠[]) (h10:l.head?≠some 10):(nx l).1≠10:=by
 cases l with
 | nil=>exact absurd rfl h
 | cons b t=>
  by_cases hb:b.toNat<128
  ·rw[jL b t hb]
   intro e
   have e1:(b.toNat:Int)=10:=e
   have e2:b.toNat=10:=by omega
   exact h10 (by rw[List.head?_cons,←UInt8.toNat_inj.1 (show b.toNat=(10:UInt8).toNat from e2)])
  ·have:=qY b t (by omega)
   intro e
   rw[e]at this
   omega
theorem Ei (l:List UInt8):∀ (f p:Nat),Az l (cN f (l.drop p)).2 p (p+(cN f (l.drop p)).1)
 | 0,p=>by simp[cN,Az]
 | f+1,p=>by
  by_cases h:l.drop p≠[]∧(l.drop p).head?≠some 10
  ·have e:cN (f+1) (l.drop p)=((nx (l.drop p)).2+(cN f (l.drop (p+(nx (l.drop p)).2))).1,(cN f (l.drop (p+(nx (l.drop p)).2))).2+1):=by
    rw[cN,if_pos h,List.drop_drop]
   rw[e]
   refine⟨wB h.1,wC _ h.1 h.2,?_⟩
   have:=Ei l f (p+(nx (l.drop p)).2)
   rw[show p+((nx (l.drop p)).2+(cN f (l.drop (p+(nx (l.drop p)).2))).1)=p+(nx (l.drop p)).2+(cN f (l.drop (p+(nx (l.drop p)).2))).1 by omega]
   exact this
  ·have e:cN (f+1) (l.drop p)=(0,0):=by rw[cN,if_neg h]
   rw[e];exact rfl

def rn (l:List UInt8):Int:=((Lib.decodeL l).1:Int)
theorem Mj (l:List UInt8) (h:l≠[]):(rn l=(nx l).1∨(rn l=65533∧(nx l).1=-1))∧(Lib.decodeL l).2=(nx l).2:=by
 unfold rn nx
 rw[if_neg h]
 by_cases c:(Lib.decodeL l).1=65533∧(Lib.decodeL l).2≤1
 ·rw[if_pos c];exact⟨.inr ⟨by rw[c.1];rfl,rfl⟩,rfl⟩
 ·rw[if_neg c];exact⟨.inl rfl,rfl⟩
theorem Ba (l:List UInt8) (h:l≠[]):aK (rn l)=aK (nx l).1∧bH (rn l)=bH (nx l).1∧isDigit (rn l)=isDigit (nx l).1∧kK (rn l)=kK (nx l).1:=by
 rcases(Mj l h).1 with e | ⟨e1,e2⟩
 ·rw[e];exact⟨rfl,rfl,rfl,rfl⟩
 ·rw[e1,e2];exact⟨rfl,rfl,rfl,rfl⟩
theorem tL (l:List UInt8) (h:l≠[]) (k:Int) (h0:0≤k) (h1:k<65533):rn l=k↔(nx l).1=k:=by
 rcases(Mj l h).1 with e | ⟨e1,e2⟩
 ·rw[e]
 ·rw[e1,e2];constructor <;> intro e <;> omega

def uK (l:List UInt8):Nat:=if l[1]? = some 47 then (cN l.length l).1 else 0
def cD (l:List UInt8):Int × Nat:=
 if rn l=32∨rn l=9∨rn l=10 then (0,1)
 else if rn l=47 then (0,uK l)
 else if kK (rn l)=true then (3,1)
 else if bH (rn l)=true then (1,if nameOf (runes ⟨(l.take (bE l.length l).1).toArray⟩)=true then (bE l.length l).1 else 0)
 else if isDigit (rn l)=true then (2,if ((l.take (bE l.length l).1).all cJ&&pC (l.take (bE l.length l).1))=true then (bE l.length l).1 else 0)
 else (0,0)
theorem Is {r:Int} (h:kK r=true):0≤r∧r<128∧bH r=false∧isDigit r=false∧r≠10:=by
 simp only[kK,decide_eq_true_iff]at h
 rcases h with rfl | rfl | rfl | rfl | rfl | rfl | rfl <;> decide
theorem nP (l:List UInt8) (h:l≠[]) (h0:0≤(nx l).1) (h1:(nx l).1<128):(nx l).2=1:=by
 cases l with
 | nil=>exact absurd rfl h
 | cons b t=>
  by_cases hb:b.toNat<128
  ·rw[jL b t hb]
  ·have:=qY b t (by omega)
   omega
theorem Tj (f:Nat) (l:List UInt8) (line col:Nat) (acc:List Wd) (h:l≠[]) :
  ((cD l).2=0∧dV (f+1) l line col acc=([],(line,col),6))∨
  ((cD l)=(0,1)∧rn l=10∧dV (f+1) l line col acc=dV f (l.drop 1) (line+1) 1 acc)∨
  ((cD l).1=0∧1≤(cD l).2∧rn l≠10∧∃ c,Az l (c+1) 0 (cD l).2∧dV (f+1) l line col acc=dV f (l.drop (cD l).2) line (col+(c+1)) acc)∨
  ((cD l).1≠0∧1≤(cD l).2∧rn l≠10∧∃ c,Az l (c+1) 0 (cD l).2∧dV (f+1) l line col acc =
   if acc.length=4000 then ([],(line,col),4) else dV f (l.drop (cD l).2) line (col+(c+1)) (acc++[⟨(cD l).1,l.take (cD l).2,line,col⟩])):=by
 have hpos:0<l.length:=List.length_pos_iff.2 h
 have hw:=dK l h
 have hnm:=Ba l h
 have i10:=tL l h 10 (by omega) (by omega)
 have i32:=tL l h 32 (by omega) (by omega)
 have i9:=tL l h 9 (by omega) (by omega)
 have i47:=tL l h 47 (by omega) (by omega)
 by_cases h10:rn l=10
 ·refine .inr (.inl ⟨?_,h10,lC f l line col acc h (i10.1 h10)⟩)
  unfold cD;rw[if_pos (.inr (.inr h10))]
 by_cases hb:rn l=32∨rn l=9
 ·have e:cD l=(0,1):=by unfold cD;rw[if_pos (by rcases hb with hb | hb;exact .inl hb;exact .inr (.inl hb))]
  have hb':(nx l).1=32∨(nx l).1=9:=by rcases hb with hb | hb;exact .inl (i32.1 hb);exact .inr (i9.1 hb)
  have w1:=nP l h (by omega) (by omega)
  refine .inr (.inr (.inl ⟨by rw[e],by rw[e];exact Nat.le_refl _,h10,0,?_,?_⟩))
  ·rw[e]
   refine⟨hpos,by rw[List.drop_zero];omega,?_⟩
   show 0+(nx (l.drop 0)).2=1
   rw[List.drop_zero,w1]
  ·rw[e];exact jM f l line col acc h hb'
 have hb':¬((nx l).1=32∨(nx l).1=9):=by
  rintro(hb1 | hb1)
  ·exact hb (.inl (i32.2 hb1))
  ·exact hb (.inr (i9.2 hb1))
 have aKg:(nx l).1≠10:=fun e=>h10 (i10.2 e)
 have nb:¬(rn l=32∨rn l=9∨rn l=10):=by
  rintro(h1 | h1 | h1)
  ·exact hb (.inl h1)
  ·exact hb (.inr h1)
  ·exact h10 h1
 by_cases hr:rn l=47∧l[1]? = some 47
 ·have e:cD l=(0,(cN l.length l).1):=by unfold cD uK;rw[if_neg nb,if_pos hr.1,if_pos hr.2]
  have hne:=Yq l h aKg
  obtain⟨m,hm⟩:∃ m,l.length=m+1:=⟨l.length - 1,by omega⟩
  have g:=Ei l l.length 0
  rw[List.drop_zero,Nat.zero_add]at g
  have hc:∃ c,(cN l.length l).2=c+1:=by rw[hm,lY m l h hne];exact⟨_,rfl⟩
  obtain⟨c,hc⟩:=hc
  have h1:=No l h hne
  refine .inr (.inr (.inl ⟨by rw[e],by rw[e];exact h1,h10,c,?_,?_⟩))
  ·rw[e,←hc];exact g
  ·rw[e,←hc];exact iJ f l line col acc h (i47.1 hr.1) hr.2
 have hbg:begins l:=⟨h,aKg,fun e=>hb' (.inl e),fun e=>hb' (.inr e),fun e=>hr ⟨i47.2 e.1,e.2⟩⟩
 rw[lD f l line col acc hbg]
 by_cases h47:rn l=47
 ·left
  have h1:¬l[1]? = some 47:=fun e=>hr ⟨h47,e⟩
  have e47:=i47.1 h47
  refine⟨by unfold cD uK;rw[if_neg nb,if_pos h47,if_neg h1],?_⟩
  have eh:headW l=(3,(nx l).2,1):=by unfold headW;rw[e47,if_neg (by decide),if_neg (by decide)]
  rw[if_pos (by rw[eh,e47];unfold fR;rw[if_neg (show ¬(3:Int)=1 by decide),if_neg (show ¬(3:Int)=2 by decide)];decide)]
 by_cases hs:kK (rn l)=true
 ·have e:cD l=(3,1):=by unfold cD;rw[if_neg nb,if_neg h47,if_pos hs]
  have hs':kK (nx l).1=true:=by rw[←hnm.2.2.2];exact hs
  obtain⟨s0,s1,s2,s3,s4⟩:=Is hs'
  have w1:=nP l h s0 s1
  have eh:headW l=(3,1,1):=by unfold headW;rw[s2,s3,w1];rfl
  refine .inr (.inr (.inr ⟨by rw[e];decide,by rw[e];exact Nat.le_refl _,h10,0,?_,?_⟩))
  ·rw[e]
   refine⟨hpos,by rw[List.drop_zero];exact s4,?_⟩
   show 0+(nx (l.drop 0)).2=1
   rw[List.drop_zero,w1]
  ·rw[eh,e,if_neg (by unfold fR;rw[if_neg (by decide),if_neg (by decide),hs'];decide)]
 obtain⟨m,hm⟩:∃ m,l.length=m+1:=⟨l.length - 1,by omega⟩
 have g:=Mi l l.length 0
 rw[List.drop_zero,Nat.zero_add]at g
 by_cases hL:bH (rn l)=true
 ·have hL':bH (nx l).1=true:=by rw[←hnm.2.1];exact hL
  have eh:headW l=(1,bE l.length l):=by unfold headW;rw[if_pos hL']
  have e:cD l=(1,if nameOf (runes ⟨(l.take (bE l.length l).1).toArray⟩)=true then (bE l.length l).1 else 0):=by unfold cD;rw[if_neg nb,if_neg h47,if_neg hs,if_pos hL]
  have hp:=nJ m l h (by unfold aK;rw[hL'];rfl)
  rw[←hm]at hp
  by_cases hn:nameOf (runes ⟨(l.take (bE l.length l).1).toArray⟩)=true
  ·rw[if_pos hn]at e
   obtain⟨c,hc⟩:∃ c,(bE l.length l).2=c+1:=⟨(bE l.length l).2 - 1,by omega⟩
   refine .inr (.inr (.inr ⟨by rw[e];show ¬(1:Int)=0;decide,by rw[e];exact hp.1,h10,c,?_,?_⟩))
   ·rw[e,←hc];exact g
   ·rw[eh,e,←hc,if_neg (by unfold fR;rw[if_pos rfl,hn];decide)]
  ·rw[if_neg hn]at e
   left
   refine⟨by rw[e],?_⟩
   rw[eh,if_pos (by unfold fR;rw[if_pos rfl];simpa using hn)]
 by_cases hD:isDigit (rn l)=true
 ·have hL':¬bH (nx l).1=true:=by rw[←hnm.2.1];exact hL
  have hD':isDigit (nx l).1=true:=by rw[←hnm.2.2.1];exact hD
  have eh:headW l=(2,bE l.length l):=by unfold headW;rw[if_neg hL',if_pos hD']
  have e:cD l=(2,if ((l.take (bE l.length l).1).all cJ&&pC (l.take (bE l.length l).1))=true then (bE l.length l).1 else 0):=by unfold cD;rw[if_neg nb,if_neg h47,if_neg hs,if_neg hL,if_pos hD]
  have hp:=nJ m l h (by unfold aK;rw[hD'];simp)
  rw[←hm]at hp
  by_cases hn:((l.take (bE l.length l).1).all cJ&&pC (l.take (bE l.length l).1))=true
  ·rw[if_pos hn]at e
   obtain⟨c,hc⟩:∃ c,(bE l.length l).2=c+1:=⟨(bE l.length l).2 - 1,by omega⟩
   refine .inr (.inr (.inr ⟨by rw[e];show ¬(2:Int)=0;decide,by rw[e];exact hp.1,h10,c,?_,?_⟩))
   ·rw[e,←hc];exact g
   ·rw[eh,e,←hc,if_neg (by unfold fR;rw[if_neg (show ¬(2:Int)=1 by decide),if_pos rfl,hn];decide)]
  ·rw[if_neg hn]at e
   left
   refine⟨by rw[e],?_⟩
   rw[eh,if_pos (by unfold fR;rw[if_neg (show ¬(2:Int)=1 by decide),if_pos rfl];simpa using hn)]
 ·left
  have hL':¬bH (nx l).1=true:=by rw[←hnm.2.1];exact hL
  have hD':¬isDigit (nx l).1=true:=by rw[←hnm.2.2.1];exact hD
  have hs':kK (nx l).1=false:=by rw[←hnm.2.2.2];simpa using hs
  refine⟨by unfold cD;rw[if_neg nb,if_neg h47,if_neg hs,if_neg hL,if_neg hD],?_⟩
  have eh:headW l=(3,(nx l).2,1):=by unfold headW;rw[if_neg hL',if_neg hD']
  rw[eh,if_pos (by unfold fR;rw[if_neg (show ¬(3:Int)=1 by decide),if_neg (show ¬(3:Int)=2 by decide)];exact hs')]
theorem Zo (l:List UInt8) (h:l≠[]):(cD l).2≤l.length:=by
 have hpos:0<l.length:=List.length_pos_iff.2 h
 have h1:=(qZ l.length l).1
 have h2:=(Cx l.length l).1
 unfold cD uK
 repeat' split
 all_goals first | exact hpos | exact h1 | exact h2 | exact Nat.zero_le _

theorem Az.shift {l:List UInt8} {k:Nat}:∀ {c p e:Nat},Az (l.drop k) c p e→Az l c (k+p) (k+e)
 | 0,p,e,h=>by have:p=e:=h;subst this;exact rfl
 | c+1,p,e,h=>by
  obtain⟨h1,h2,h3⟩:=h
  rw[List.length_drop]at h1
  rw[List.drop_drop]at h2 h3
  refine⟨by omega,h2,?_⟩
  have:=h3.shift
  rw[Nat.add_assoc]
  exact this

theorem Mk:∀ (l:List UInt8),(10:UInt8)∈l→∃ r y,l=r++10 :: y∧∀ b∈r,b≠10
 | [],h=>by cases h
 | b :: t,h=>by
  by_cases hb:b=10
  ·exact⟨[],t,by rw[hb];rfl,by simp⟩
  ·obtain⟨r,y,e,hr⟩:=Mk t (by
    rcases List.mem_cons.1 h with h | h
    ·exact absurd h.symm hb
    ·exact h)
   refine⟨b :: r,y,by rw[e];rfl,fun x hx=>?_⟩
   rcases List.mem_cons.1 hx with hx | hx
   ·rw[hx];exact hb
   ·exact hr x hx
theorem Ej:∀ (f:Nat) (l:List UInt8),l.length≤f→(∀ b∈l,b≠10)→(cN f l).1=l.length
 | 0,l,hf,hb=>by
  have:l=[]:=List.eq_nil_of_length_eq_zero (by omega)
  subst this;rfl
 | f+1,l,hf,hb=>by
  by_cases h:l=[]
  ·subst h;rw[vO (f+1) [] (.inl rfl)];rfl
  ·have hw:=dK l h
   rw[lY f l h (by
    cases l with
    | nil=>simp
    | cons b t=>rw[List.head?_cons];intro e;exact hb b (by simp) (Option.some.inj e))]
   simp only
   rw[Ej f (l.drop (nx l).2) (by rw[List.length_drop];omega) (fun b hm=>hb b (List.mem_of_mem_drop hm)),List.length_drop]
   omega
theorem index_none:∀ l:List UInt8,(∀ b∈l,b≠10)→Lib.indexByte l 10=-1
 | [],_=>rfl
 | b :: t,hb=>by
  have h1:(b == (10:UInt8))=false:=by simpa using hb b (by simp)
  have h2:=index_none t fun x hx=>hb x (by simp[hx])
  unfold Lib.indexByte
  rw[h1,h2];rfl
theorem wD (y:List UInt8):∀ (r:List UInt8),(∀ b∈r,b≠10)→Lib.indexByte (r++10 :: y) 10=(r.length:Int)
 | [],_=>by simp[Lib.indexByte]
 | b :: t,hb=>by
  have h1:(b == (10:UInt8))=false:=by simpa using hb b (by simp)
  have h2:=wD y t fun x hx=>hb x (by simp[hx])
  rw[List.cons_append]
  unfold Lib.indexByte
  rw[h1,h2]
  have h3:((t.length:Int) == -1)=false:=by simp
  rw[h3]
  simp
theorem It (l:List UInt8):(Lib.indexByte l 10<0∧(cN l.length l).1=l.length)∨(0≤Lib.indexByte l 10∧((cN l.length l).1:Int)=Lib.indexByte l 10):=by
 by_cases h10:(10:UInt8)∈l
 ·obtain⟨r,y,rfl,hr⟩:=Mk l h10
  right
  rw[wD y r hr,Db r.length r y (Nat.le_refl _) hr _ (by simp)]
  exact⟨by omega,rfl⟩
 ·have hb:∀ b∈l,b≠10:=fun b hb e=>h10 (e▸hb)
  left
  rw[index_none l hb]
  exact⟨by decide,Ej _ l (Nat.le_refl _) hb⟩

theorem parseM (M:Nat) (hM:M<1844674407370955162):∀ (l:List UInt8) (acc:Nat),acc≤M→
  (l.all cJ=true∧gG (acc:Int) l≤(M:Int)→∃ u:Nat,Lib.parseUintM M acc l=.ok u∧(u:Int)=gG (acc:Int) l)∧
  (¬(l.all cJ=true∧gG (acc:Int) l≤(M:Int))→Lib.parseUintM M acc l=.syntax∨Lib.parseUintM M acc l=.range)
 | [],acc,ha=>by
  refine⟨fun _=>⟨acc,rfl,rfl⟩,fun h=>absurd ⟨rfl,?_⟩ h⟩
  show (acc:Int)≤(M:Int)
  omega
 | c :: r,acc,ha=>by
  have Zp:gG (acc:Int) (c :: r)=gG (10*(acc:Int)+((c.toNat:Int) - 48)) r:=rfl
  have hmono:∀ (r:List UInt8) (n:Int),r.all cJ=true→0≤n→n≤gG n r:=by
   intro r
   induction r with
   | nil=>intro n _ _;exact Int.le_refl _
   | cons b t ih=>
    intro n hd hn
    rw[List.all_cons,Bool.and_eq_true]at hd
    have hb:=hd.1
    simp only[cJ,decide_eq_true_iff]at hb
    have:=ih (10*n+((b.toNat:Int) - 48)) hd.2 (by omega)
    show n≤gG (10*n+((b.toNat:Int) - 48)) t
    omega
  rw[Zp,List.all_cons]
  unfold Lib.parseUintM
  by_cases hd:48≤c.toNat∧c.toNat≤57
  ·have hdc:cJ c=true:=by simp[cJ,hd]
   rw[if_pos hd,if_neg (by omega),hdc,Bool.true_and]
   have hcast:((acc*10+(c.toNat - 48):Nat):Int)=10*(acc:Int)+((c.toNat:Int) - 48):=by omega
   by_cases hgt:M<acc*10+(c.toNat - 48)
   ·rw[if_pos hgt]
    refine⟨fun ⟨h1,h2⟩=>?_,fun _=>.inr rfl⟩
    have:=hmono r (10*(acc:Int)+((c.toNat:Int) - 48)) h1 (by omega)
    omega
   ·rw[if_neg hgt]
    have ih:=parseM M hM r (acc*10+(c.toNat - 48)) (by omega)
    rw[hcast]at ih
    exact ih
  ·have hdc:cJ c=false:=by simp only[cJ,decide_eq_false_iff_not];exact hd
   rw[if_neg hd,hdc,Bool.false_and]
   exact⟨fun h=>absurd h.1 (by decide),fun _=>.inl rfl⟩
theorem yY:∀ (l:List UInt8) (n:Int),l.all cJ=true→0≤n→n*10 ^ l.length≤gG n l
 | [],n,_,_=>by show n*10 ^ 0≤n;omega
 | b :: t,n,hd,hn=>by
  rw[List.all_cons,Bool.and_eq_true]at hd
  have hb:=hd.1
  simp only[cJ,decide_eq_true_iff]at hb
  have ih:=yY t (10*n+((b.toNat:Int) - 48)) hd.2 (by omega)
  show n*10 ^ (t.length+1)≤gG (10*n+((b.toNat:Int) - 48)) t
  refine Int.le_trans ?_ ih
  rw[Int.pow_succ,←Int.mul_assoc,Int.mul_right_comm]
  refine Int.mul_le_mul_of_nonneg_right (by omega) (Int.pow_nonneg (by decide))
theorem Ol (l:List UInt8) (hd:l.all cJ=true) (h0:¬(l.head? = some 48∧1<l.length)) (hv:gG 0 l≤2147483647):l.length≤10:=by
 by_cases hl:l.length≤10
 ·exact hl
 ·exfalso
  cases l with
  | nil=>simp at hl
  | cons b t=>
   rw[List.all_cons,Bool.and_eq_true]at hd
   have hb:=hd.1
   simp only[cJ,decide_eq_true_iff]at hb
   have hlen:(b :: t).length=t.length+1:=rfl
   have hne:b≠48:=fun e=>h0 ⟨by rw[e];rfl,by omega⟩
   have hne':b.toNat≠48:=fun e=>hne (UInt8.toNat_inj.1 (show b.toNat=(48:UInt8).toNat from e))
   have g:=yY t (10*0+((b.toNat:Int) - 48)) hd.2 (by omega)
   have e:gG 0 (b :: t)=gG (10*0+((b.toNat:Int) - 48)) t:=rfl
   rw[e]at hv
   have hp:(10:Int) ^ 10≤10 ^ t.length:=by
    have:=Nat.pow_le_pow_right (n:=10) (by decide) (show 10≤t.length by omega)
    exact_mod_cast this
   have hm:1*(10:Int) ^ 10≤(10*0+((b.toNat:Int) - 48))*10 ^ t.length:=Int.mul_le_mul (by omega) hp (by decide) (by omega)
   have bCn:(10:Int) ^ 10=10000000000:=by decide
   omega
theorem Zq (l:List UInt8) (hne:l≠[]) (hd:cJ (l.headD 0)=true) (h0:¬(l.head? = some 48∧1<l.length)) :
  ((l.all cJ&&pC l)=true→∃ v,Lib.parseIntB 32 l=.ok v)∧((l.all cJ&&pC l)=false→Lib.parseIntB 32 l=.syntax∨Lib.parseIntB 32 l=.range):=by
 cases l with
 | nil=>exact absurd rfl hne
 | cons c r=>
  have hd':48≤c.toNat∧c.toNat≤57:=by
   have:cJ c=true:=hd
   simpa [cJ]using this
  have hs:¬(c.toNat=43∨c.toNat=45):=by omega
  have hn:¬c.toNat=45:=by omega
  have P:=parseM (2 ^ 32 - 1) (by decide) (c :: r) 0 (by decide)
  have eB:Lib.parseIntB 32 (c :: r)=match Lib.parseUintM (2 ^ 32 - 1) 0 (c :: r)with
    | .syntax=>.syntax
    | .range=>.range
    | .ok u=>if 2 ^ 31≤u then .range else .ok (u:Int):=by
   unfold Lib.parseIntB
   dsimp only
   rw[if_neg hs]
   have eu:Lib.parseUintB 32 (c :: r)=Lib.parseUintM (2 ^ 32 - 1) 0 (c :: r):=by unfold Lib.parseUintB;rw[if_neg (by simp)]
   rw[eu]
   cases Lib.parseUintM (2 ^ 32 - 1) 0 (c :: r)with
   | «syntax»=>rfl
   | range=>rfl
   | ok u=>simp[hn]
  have gL:pC (c :: r)=(decide ((c :: r).length≤10)&&decide (gG 0 (c :: r)≤2147483647)):=by
   unfold pC
   have:(decide ((c :: r).head? = some 48)&&decide (1<(c :: r).length))=false:=by
    rw[Bool.eq_false_iff]
    intro h
    rw[Bool.and_eq_true,decide_eq_true_iff,decide_eq_true_iff]at h
    exact h0 h
   rw[this];simp
  constructor
  ·intro h
   rw[Bool.and_eq_true,gL,Bool.and_eq_true,decide_eq_true_iff,decide_eq_true_iff]at h
   obtain⟨ha,_,hv⟩:=h
   obtain⟨u,hu,hue⟩:=P.1 ⟨ha,by
    have:((0:Nat):Int)=0:=rfl
    rw[this]
    have e:((2 ^ 32 - 1:Nat):Int)=4294967295:=by decide
    omega⟩
   refine⟨(u:Int),?_⟩
   rw[eB,hu]
   have hlt:¬2 ^ 31≤u:=by
    have:((0:Nat):Int)=0:=rfl
    rw[this]at hue
    have e:(2 ^ 31:Nat)=2147483648:=by decide
    omega
   simp only[if_neg hlt]
  ·intro h
   by_cases hq:(c :: r).all cJ=true∧gG ((0:Nat):Int) (c :: r)≤((2 ^ 32 - 1:Nat):Int)
   ·obtain⟨u,hu,hue⟩:=P.1 hq
    right
    rw[eB,hu]
    have hbig:2 ^ 31≤u:=by
     refine Nat.le_of_not_lt fun hlt=>?_
     have e:(2 ^ 31:Nat)=2147483648:=by decide
     have hv:gG 0 (c :: r)≤2147483647:=by
      have:((0:Nat):Int)=0:=rfl
      rw[this]at hue
      omega
     have hsh:=Ol (c :: r) hq.1 h0 hv
     rw[hq.1,gL,Bool.true_and]at h
     rw[Bool.eq_false_iff]at h
     exact h (by rw[Bool.and_eq_true,decide_eq_true_iff,decide_eq_true_iff];exact⟨hsh,hv⟩)
    simp only[if_pos hbig]
   ·rcases P.2 hq with e | e
    ·left;rw[eB,e]
    ·right;rw[eB,e]
open Go.ChangeShapes Go.WideShapes Go.ChangeAt Go.RowKit
def qC (w:World):Prop:=(∃ ev,w.cell? ⟨mD.g 15,0,none⟩=some ev∧(ev=.nilIface∨∃ te pe,ev=.iface te pe))∧(∃ ev,w.cell? ⟨mD.g 16,0,none⟩=some ev∧(ev=.nilIface∨∃ te pe,ev=.iface te pe))
theorem jR {w w':World} (h:qC w) (hb:Below w.heap.size w w'):qC w':=by
 obtain⟨⟨e1,h1,k1⟩,⟨e2,h2,k2⟩⟩:=h
 exact⟨⟨e1,by rw[hb.cell (World.block_lt_of_cell? _ _ h1)];exact h1,k1⟩,⟨e2,by rw[hb.cell (World.block_lt_of_cell? _ _ h2)];exact h2,k2⟩⟩
theorem tM {a b:Int} (h:a=b):Ending.returned (.int .i64 a)=.returned (.int .i64 b):=by rw[h]
theorem aCn {a b:ByteArray} (h:a=b):Ending.returned (.string a)=.returned (.string b):=by rw[h]
theorem sQ {a b c d:Int} (h1:a=c) (h2:b=d):Ending.returned (.tuple #[.int .i64 a,.int .i64 b])=.returned (.tuple #[.int .i64 c,.int .i64 d]):=by rw[h1,h2]
set_option maxHeartbeats 1000000 in
theorem wE (r:Int) (w:World) :
  Calls Tryz.prog 151 #[.int .i32 r] w fun e w'=>e=.returned (.bool (isDigit r))∧w'=w:=by
 go_enter Tryz.func151,Tryz.ntmps151
 go_wp2
 all_goals
  go_ret
  refine⟨aU ?_,rfl⟩
  unfold isDigit
  rw[Bool.eq_iff_iff]
  simp
  omega
theorem Om (f:Nat) (l:List UInt8) (k:Nat) (h:l.drop k≠[]) (hr:aK (nx (l.drop k)).1=true):bE (f+1) (l.drop k)=((nx (l.drop k)).2+(bE f (l.drop (k+(nx (l.drop k)).2))).1,(bE f (l.drop (k+(nx (l.drop k)).2))).2+1):=by
 rw[bE,if_pos ⟨h,hr⟩,List.drop_drop]
theorem yZ (f:Nat) (l:List UInt8) (h:l=[]∨aK (nx l).1=false):bE f l=(0,0):=by
 cases f with
 | zero=>rfl
 | succ f=>
  rw[bE,if_neg]
  rintro⟨h1,h2⟩
  rcases h with h | h
  ·exact h1 h
  ·rw[h]at h2;simp at h2
set_option maxHeartbeats 2000000 in
theorem Ek (s:ByteArray) (w:World) (hs:s.size≤1048576) :
  Calls Tryz.prog 190 #[.string s] w fun e w'=>e=.returned (.string (aC (s.data.toList.take (bE s.size s.data.toList).1)))∧Below w.heap.size w w':=by
 have HL:Hid (s.data.toList.length=s.size):=bC s
 obtain⟨R,hR⟩:∃ R,(bE s.size s.data.toList).1=R:=⟨_,rfl⟩
 rw[hR]
 have HR:Hid ((bE s.size s.data.toList).1=R):=hR
 clear hR
 have HEX:Hid (∀ k,s.extract 0 k=aC (s.data.toList.take k)):=fun k=>by
  rw[Lib.extract_eq,List.drop_zero,Nat.sub_zero];rfl
 obtain⟨T,hT⟩:∃ T,aC (s.data.toList.take R)=T:=⟨_,rfl⟩
 have HT:Hid (aC (s.data.toList.take R)=T):=hT
 rw[hT]
 clear hT
 go_enter Tryz.func190,Tryz.ntmps190
 go_wp2_with fail
 go_loopw [3] (fun _ w'=>∃ (pos f:Nat),w'=w.iter s pos∧pos≤s.size∧s.size≤pos+f∧(bE s.size s.data.toList).1=pos+(bE f (s.data.toList.drop pos)).1) (fun _ w'=>s.size - w'.iterPos w.heap.size)
 case atStart=>exact⟨0,s.size,rfl,by omega,by omega,by rw[List.drop_zero];omega⟩
 case round=>
  obtain⟨pos,f,rfl,hps,hf,hc⟩:=hrel
  have HC:Hid ((bE s.size s.data.toList).1=pos+(bE f (s.data.toList.drop pos)).1):=hc
  clear hc
  have HB:∀ p,Below w.heap.size w (w.iter s p):=fun p=>(Below.refl _ w).alloc (Nat.le_refl _) _
  by_cases hp:pos<s.size
  ·have hnx:∀ ty,(Instr.next (.pointer (some ⟨w.heap.size,0,none⟩)) true ty).run Tryz.prog (w.iter s pos)=_:=fun ty=>run_next_any w s pos ty hp
   have hne:s.data.toList.drop pos≠[]:=sP (by rw[HL.out];exact hp)
   obtain⟨hnm,_,_,_⟩:=Ba _ hne
   have hrn:=Mj _ hne
   have hwl:=dK _ hne
   have hdd:Lib.decodeL (s.data.toList.drop pos)=Utf8.decode s pos:=Lib.decodeL_drop s pos
   have hwd:(nx (s.data.toList.drop pos)).2=(Utf8.decode s pos).2:=by rw[←hrn.2,hdd]
   have hrr:aK (nx (s.data.toList.drop pos)).1=aK ((Utf8.decode s pos).1:Int):=by rw[←hnm];unfold rn;rw[hdd]
   rw[List.length_drop,HL.out,hwd]at hwl
   obtain⟨f,rfl⟩:∃ f',f=f'+1:=⟨f - 1,by omega⟩
   have HGO:Hid (aK ((Utf8.decode s pos).1:Int)=true→(bE s.size s.data.toList).1=(pos+(Utf8.decode s pos).2)+(bE f (s.data.toList.drop (pos+(Utf8.decode s pos).2))).1):=fun h=>by
    rw[HC.out,Om f _ pos hne (by rw[hrr];exact h),hwd];simp only;omega
   have tK:Hid (aK ((Utf8.decode s pos).1:Int)=false→R=pos):=fun h=>by
    rw[←HR.out,HC.out,yZ _ _ (.inr (by rw[hrr];exact h))];rfl
   clear hnm hrn hdd hwd hrr hne HC
   generalize (Utf8.decode s pos).2=wd at *
   generalize ((Utf8.decode s pos).1:Int)=r at *
   have Yf:=fun W=>qB r W
   have Zr:=fun W=>wE r W
   have hnr:aK r=(bH r || isDigit r || decide (r=95)):=rfl
   obtain⟨L,hL⟩:∃ L,bH r=L:=⟨_,rfl⟩
   obtain⟨D,hD⟩:∃ D,isDigit r=D:=⟨_,rfl⟩
   rw[hL]at Yf hnr
   rw[hD]at Zr hnr
   have sR:Hid (aK r=(L || D || decide (r=95))):=hnr
   clear hL hD hnr
   have hgo:aK r=true∨(L=false∧D=false∧r≠95):=by
    rw[sR.out]
    cases L <;> cases D <;> simp
    exact Decidable.em _
   by_cases hstop:L=false∧D=false∧r≠95
   ·obtain⟨rfl,rfl,h95⟩:=hstop
    have bCo:(r != 95)=true:=by simpa using h95
    have HE:Hid (s.extract 0 pos=T):=by
     refine(?_:_=_)
     rw[HEX.out,←HT.out,tK.out (by rw[sR.out];simpa using h95)]
    have bCp:(pos:Int)≤(s.size:Int):=by omega
    clear HGO tK sR hgo
    go_wp2_with (first
     | (go_at_call 149;refine(Yf _).mono ?_;rintro e w' ⟨rfl,rfl⟩)
     | (go_at_call 151;refine(Zr _).mono ?_;rintro e w' ⟨rfl,rfl⟩))
    go_ret
    exact⟨aCn HE.out,HB _⟩
   ·have hn:aK r=true:=by
     rcases hgo with h | h
     ·exact h
     ·exact absurd h hstop
    have HX:Hid ((bE s.size s.data.toList).1=(pos+wd)+(bE f (s.data.toList.drop (pos+wd))).1):=HGO.out hn
    have hcs:L=true∨(L=false∧D=true)∨(L=false∧D=false∧r=95):=by
     cases L <;> cases D <;> simp
     exact Decidable.byContradiction fun h=>hstop ⟨rfl,rfl,h⟩
    clear HGO tK sR hgo hstop hn
    rcases hcs with rfl | ⟨rfl,rfl⟩ | ⟨rfl,rfl,rfl⟩
    all_goals
     go_wp2_with (first
      | (go_at_call 149;refine(Yf _).mono ?_;rintro e w' ⟨rfl,rfl⟩)
      | (go_at_call 151;refine(Zr _).mono ?_;rintro e w' ⟨rfl,rfl⟩))
     go_roundw
     case rel=>exact⟨pos+wd,f,rfl,by omega,by omega,HX.out⟩
     case measure=>simp;omega
  ·have hnx:∀ ty,(Instr.next (.pointer (some ⟨w.heap.size,0,none⟩)) true ty).run Tryz.prog (w.iter s pos)=_:=fun ty=>run_next_end w s pos ty hp
   have HE:Hid (s=T):=by
    refine(?_:_=_)
    have hRs:R=s.size:=by
     rw[←HR.out,HC.out,yZ _ _ (.inl (List.drop_eq_nil_of_le (by rw[HL.out];omega)))]
     simp only;omega
    rw[←HT.out,hRs,List.take_of_length_le (by rw[HL.out];exact Nat.le_refl _),Cw]
   go_wp2
   go_ret
   exact⟨aCn HE.out,HB _⟩
end Go.Proofs.YtpojeinddnjpfaaGreatDoor
