/-
  Walks and plain words (LxA PsM DpM PsT PsX).
-/
import Derived.Test.YtpojeinddnjpfaaGreatDoorM0
import Derived.Below
import Derived.WalkKit
namespace Go.Proofs.YtpojeinddnjpfaaGreatDoor
set_option linter.unusedVariables false

/-! what is read as a small rune is its bytes -/
theorem Dd (l:List UInt8) (k:Nat) (x:UInt8) (h:l[k]? = some x):(ByteArray.mk l.toArray).get! (0+k)=x:=by
 rw[Nat.zero_add]
 show l.toArray[k]! = x
 rw[getElem!_def]
 simp[h]
theorem Yv (l:List UInt8) (h:l≠[]) (hc:(Lib.decodeL l).1≤2047):l=Lib.encodeRune ((Lib.decodeL l).1:Int)++l.drop (Lib.decodeL l).2:=by
 cases l with
 | nil=>exact absurd rfl h
 | cons b0 t=>
  have g0:=Dd (b0 :: t) 0 b0 rfl
  have hb0:=b0.toNat_lt
  by_cases h128:b0.toNat<128
  ·rw[Lib.decodeL_ascii b0 t h128,sF _ (by omega) (by omega)]
   simp
  ·unfold Lib.decodeL at hc ⊢
   rw[nK,g0]at hc ⊢
   unfold lZ at hc ⊢
   rw[if_neg h128]at hc ⊢
   by_cases c6:(b0.toNat / 32 == 6&&pM ⟨(b0 :: t).toArray⟩ 1)=true
   ·rw[if_pos c6]at hc ⊢
    simp only[Bool.and_eq_true,beq_iff_eq]at c6
    obtain⟨c6a,c6b⟩:=c6
    unfold pM at c6b
    simp only[Bool.and_eq_true,decide_eq_true_iff,beq_iff_eq]at c6b
    obtain⟨hsz,hb1⟩:=c6b
    have hsz':1<(b0 :: t).length:=by
     have:(ByteArray.mk (b0 :: t).toArray).size=(b0 :: t).length:=by show (b0 :: t).toArray.size=_;simp
     omega
    cases t with
    | nil=>simp at hsz'
    | cons b1 t=>
     have g1:=Dd (b0 :: b1 :: t) 1 b1 rfl
     rw[g1]at hb1 hc ⊢
     have hb1':=b1.toNat_lt
     by_cases aJf:b0.toNat % 32*64+b1.toNat % 64 ≥ 128
     ·rw[if_pos aJf]
      simp only
      rw[Lm _ (by omega) (by omega)]
      have e0:(192+((b0.toNat % 32*64+b1.toNat % 64:Nat):Int) / 64).toNat=b0.toNat:=by omega
      have e1:(128+((b0.toNat % 32*64+b1.toNat % 64:Nat):Int) % 64).toNat=b1.toNat:=by omega
      rw[e0,e1]
      simp
     ·rw[if_neg aJf]at hc
      simp at hc
   ·rw[if_neg c6]at hc
    exfalso
    revert hc
    repeat' split
    all_goals
     simp_all
    all_goals omega
theorem yS (s:ByteArray) (hL:s.data.toList.length=s.size):∀ (b pos:Nat),s.size≤pos+b→(∀ r∈sE s b pos,r≤2047)→s.data.toList.drop pos=xW (sE s b pos)
 | 0,pos,hb,_=>by
  rw[List.drop_eq_nil_of_le (by omega)];rfl
 | b+1,pos,hb,h=>by
  by_cases hp:pos<s.size
  ·rw[qV s b pos hp]at h ⊢
   have hne:s.data.toList.drop pos≠[]:=by
    intro e;have:=congrArg List.length e;rw[List.length_drop,List.length_nil]at this;omega
   have hd:=Lib.decodeL_drop s pos
   have h0:=h _ List.mem_cons_self
   have h1:=Yv _ hne (by rw[hd];omega)
   rw[hd,List.drop_drop]at h1
   rw[yQ,←yS s hL b (pos+(Utf8.decode s pos).2) (by have:=width_pos s pos hp;omega) (fun r hr=>h r (List.mem_cons_of_mem _ hr))]
   exact h1
  ·rw[Ll s _ pos hp,List.drop_eq_nil_of_le (by omega)];rfl
theorem vQ (t:List UInt8) (h:nameOf (runes ⟨t.toArray⟩)=true):t=xW (runes ⟨t.toArray⟩):=by
 have hs:(ByteArray.mk t.toArray).size=t.length:=by show t.toArray.size=_;simp
 have:=yS ⟨t.toArray⟩ (by simp[hs]) (ByteArray.mk t.toArray).size 0 (by omega) (fun r hr=>(nH (vM h r hr)).2)
 simpa [runes]using this

def vR (x:Wd):Prop:=
 (x.kind=1∧∃ rs,x.text=xW rs∧nameOf rs=true)∨
 (x.kind=2∧(∃ rs,x.text=xW rs∧rs≠[]∧∀ r∈rs,isDigit r=true)∧(x.text.all cJ&&pC x.text)=true)∨
 (x.kind=3∧∃ b:UInt8,x.text=[b]∧b.toNat<128∧kK (b.toNat:Int)=true)
theorem vS:∀ t:List UInt8,t.all cJ=true→t=xW (t.map fun b=>(b.toNat:Int))∧∀ r∈t.map (fun b=>(b.toNat:Int)),isDigit r=true
 | [],_=>⟨rfl,by simp⟩
 | b :: t,h=>by
  rw[List.all_cons,Bool.and_eq_true]at h
  obtain⟨h1,h2⟩:=h
  unfold cJ at h1
  rw[decide_eq_true_iff]at h1
  obtain⟨i1,i2⟩:=vS t h2
  refine⟨?_,?_⟩
  ·rw[List.map_cons,yQ,←i1,sF _ (by omega) (by omega)]
   simp
  ·intro r hr
   rw[List.map_cons]at hr
   rcases List.mem_cons.1 hr with rfl | hr
   ·unfold isDigit;rw[decide_eq_true_iff];omega
   ·exact i2 r hr
theorem Yw (l:List UInt8) (h0:l≠[]) (line col:Nat) (h:¬fR (headW l).1 (l.take (headW l).2.1) (nx l).1=false):vR ⟨(headW l).1,l.take (headW l).2.1,line,col⟩:=by
 have hb:=Se l h0
 have ht:l.take (headW l).2.1≠[]:=by
  intro e;have:=congrArg List.length e;rw[List.length_take,List.length_nil]at this;omega
 rw[Bool.not_eq_false]at h
 rcases hb.2.2.2 with hk | hk | hk
 ·rw[hk]at h ⊢
  unfold fR at h
  rw[if_pos rfl]at h
  exact .inl ⟨rfl,_,vQ _ h,h⟩
 ·rw[hk]at h ⊢
  unfold fR at h
  rw[if_neg (by decide),if_pos rfl]at h
  have hd:=(Bool.and_eq_true _ _▸h).1
  obtain⟨d1,d2⟩:=vS _ hd
  exact .inr (.inl ⟨rfl,⟨_,d1,by simpa using ht,d2⟩,h⟩)
 ·have hn:(headW l).2.1=(nx l).2:=by
   unfold headW at hk ⊢
   split at hk
   ·exact absurd hk (by show ¬(1:Int)=3;decide)
   ·split at hk
    ·exact absurd hk (by show ¬(2:Int)=3;decide)
    ·rename_i a b
     rw[if_neg a,if_neg b]
  rw[hk,hn]at h ⊢
  unfold fR at h
  rw[if_neg (by decide),if_neg (by decide)]at h
  refine .inr (.inr ⟨rfl,?_⟩)
  cases l with
  | nil=>exact absurd rfl h0
  | cons b t=>
   by_cases aCa:b.toNat<128
   ·rw[jL b t aCa]at h ⊢
    exact⟨b,rfl,aCa,h⟩
   ·exfalso
    unfold kK at h
    rw[decide_eq_true_iff]at h
    rcases qY b t (by omega)with e | e <;> omega
theorem oN:∀ (f:Nat) (l:List UInt8) (line col:Nat) (acc:List Wd),(∀ x∈acc,vR x)→∀ x∈(dV f l line col acc).1,vR x
 | 0,l,line,col,acc,h=>h
 | f+1,l,line,col,acc,h=>by
  by_cases h0:l=[]
  ·subst h0;rw[nI];exact h
  ·by_cases h10:(nx l).1=10
   ·rw[lC f l _ _ _ h0 h10];exact oN f _ _ _ _ h
   ·by_cases hb:(nx l).1=32∨(nx l).1=9
    ·rw[jM f l _ _ _ h0 hb];exact oN f _ _ _ _ h
    ·by_cases hr:(nx l).1=47∧l[1]? = some 47
     ·rw[iJ f l _ _ _ h0 hr.1 hr.2];exact oN f _ _ _ _ h
     ·rw[lD f l _ _ _ ⟨h0,h10,fun h=>hb (.inl h),fun h=>hb (.inr h),hr⟩]
      by_cases c1:fR (headW l).1 (l.take (headW l).2.1) (nx l).1=false
      ·rw[if_pos c1];simp
      ·rw[if_neg c1]
       by_cases c2:acc.length=4000
       ·rw[if_pos c2];simp
       ·rw[if_neg c2]
        refine oN f _ _ _ _ ?_
        intro x hx
        rcases List.mem_append.1 hx with hx | hx
        ·exact h x hx
        ·have:x=⟨(headW l).1,l.take (headW l).2.1,line,col⟩:=by simpa using hx
         subst this
         exact Yw l h0 line col c1
/-! read again -/
def flat (ws:List Wd):List UInt8:=ws.flatMap fun x=>x.text++[32]
structure Fd where
 rep:Bool
 type:List UInt8
 name:List UInt8
 num:Int
 line:Int
 col:Int
structure Vl where
 name:List UInt8
 num:Int
 line:Int
 col:Int
structure Mt where
 name:List UInt8
 inp:List UInt8
 out:List UInt8
 line:Int
 col:Int
structure Dc where
 kind:Int
 name:List UInt8
 line:Int
 col:Int
 fields:List Fd
 values:List Vl
 methods:List Mt
 inner:List Dc
structure Rd where
 l:List Wd
 e:Int
 pl:Int
 pc:Int
abbrev bA:List UInt8:=[109,101,115,115,97,103,101]
abbrev cZ:List UInt8:=[101,110,117,109]
abbrev bQ:List UInt8:=[115,101,114,118,105,99,101]
abbrev nL:List UInt8:=[114,112,99]
abbrev eG:List UInt8:=[114,101,116,117,114,110,115]
abbrev bO:List UInt8:=[114,101,112,101,97,116,101,100]
section
variable (en:Int × Int)
def Rd.here (r:Rd):Int × Int:=match r.l with
 | []=>en
 | x :: _=>((x.line:Int),(x.col:Int))
def Rd.fail (r:Rd) (e:Int) (p:Int × Int):Rd:=if r.e=0 then ⟨r.l,e,p.1,p.2⟩ else r
def Rd.is (r:Rd) (t:List UInt8):Bool:=decide (r.e=0)&&(match r.l with
 | []=>false
 | x :: _=>x.text == t)
def Rd.tail (r:Rd):Rd:=⟨r.l.tail,r.e,r.pl,r.pc⟩
def Rd.take (r:Rd) (t:List UInt8):Rd:=if r.is t=true then r.tail else r.fail 7 (r.here en)
def Rd.isName (r:Rd):Bool:=decide (r.e=0)&&(match r.l with
 | []=>false
 | x :: _=>decide (x.kind=1)&&!gJ x.text)
def Rd.isNum (r:Rd):Bool:=decide (r.e=0)&&(match r.l with
 | []=>false
 | x :: _=>decide (x.kind=2))
def Rd.kW (r:Rd):Bool:=decide (r.e=0)&&(match r.l with
 | []=>false
 | x :: _=>decide (0<bP x.text))
def Rd.text (r:Rd):List UInt8:=match r.l with
 | []=>[]
 | x :: _=>x.text
def Rd.name (r:Rd):Rd:=if r.isName=true then r.tail else r.fail 7 (r.here en)
def Rd.aL (r:Rd):List UInt8:=if r.isName=true then r.text else []
def Rd.nameP (r:Rd):Int × Int:=if r.isName=true then r.here en else (0,0)
def Rd.number (r:Rd):Rd:=if r.isNum=true then r.tail else r.fail 7 (r.here en)
def Rd.cR (r:Rd):Int:=if r.isNum=true then gG 0 r.text else 0
def mR (first:Int × Int):Nat→Nat→List UInt8→Rd→List UInt8 × Rd
 | 0,_,s,r=>(s,r)
 | f+1,n,s,r=>if r.is [46]=true then
   mR first f (n+1) (s++[46]++(r.take en [46]).aL) (if n=8 then ((r.take en [46]).name en).fail 8 first else (r.take en [46]).name en)
  else (s,r)
def Rd.path (r:Rd):List UInt8 × Rd:=mR en (r.here en) (r.l.length+1) 1 r.aL (r.name en)
def Rd.typ (r:Rd):List UInt8 × Rd:=if r.kW=true then (r.text,r.tail) else r.path en
def Rd.field (r:Rd):Fd × Rd:=
 let r1:=if r.is bO=true then r.take en bO else r
 let t:=r1.typ en
 let r3:=(t.2.name en).take en [61]
 (⟨r.is bO,t.1,t.2.aL,r3.cR,(t.2.nameP en).1,(t.2.nameP en).2⟩,(r3.number en).take en [59])
def Rd.value (r:Rd):Vl × Rd:=
 let r3:=(r.name en).take en [61]
 (⟨r.aL,r3.cR,(r.nameP en).1,(r.nameP en).2⟩,(r3.number en).take en [59])
def dX:Nat→Rd→List Vl→List Vl × Rd
 | 0,r,acc=>(acc,r)
 | f+1,r,acc=>if r.e=0∧r.is [125]=false then dX f (r.value en).2 (acc++[(r.value en).1]) else (acc,r)
def Rd.enum (r:Rd):Dc × Rd:=
 let r1:=r.take en cZ
 let r3:=(r1.name en).take en [123]
 let b:=dX en (r3.l.length+1) r3 []
 (⟨2,r1.aL,(r1.nameP en).1,(r1.nameP en).2,[],b.1,[],[]⟩,b.2.take en [125])
def Rd.method (r:Rd):Mt × Rd:=
 let r1:=r.take en nL
 let a:=((r1.name en).take en [40]).path en
 let b:=(((a.2.take en [41]).take en eG).take en [40]).path en
 (⟨r1.aL,a.1,b.1,(r1.nameP en).1,(r1.nameP en).2⟩,(b.2.take en [41]).take en [59])
def dA:Nat→Rd→List Mt→List Mt × Rd
 | 0,r,acc=>(acc,r)
 | f+1,r,acc=>if r.e=0∧r.is [125]=false then dA f (r.method en).2 (acc++[(r.method en).1]) else (acc,r)
def Rd.service (r:Rd):Dc × Rd:=
 let r1:=r.take en bQ
 let r3:=(r1.name en).take en [123]
 let b:=dA en (r3.l.length+1) r3 []
 (⟨3,r1.aL,(r1.nameP en).1,(r1.nameP en).2,[],[],b.1,[]⟩,b.2.take en [125])
def fN (msg:Rd→Dc × Rd):Nat→Rd→List Fd→List Dc→(List Fd × List Dc) × Rd
 | 0,r,fs,ds=>((fs,ds),r)
 | f+1,r,fs,ds=>if r.e=0∧r.is [125]=false then
   (if r.is bA=true then fN msg f (msg r).2 fs (ds++[(msg r).1])
   else if r.is cZ=true then fN msg f (r.enum en).2 fs (ds++[(r.enum en).1])
   else fN msg f (r.field en).2 (fs++[(r.field en).1]) ds)
  else ((fs,ds),r)
def bK:Nat→Nat→Rd→Dc × Rd
 | 0,_,r=>(⟨1,[],0,0,[],[],[],[]⟩,r)
 | k+1,depth,r=>
  let r0:=if 8<depth then r.fail 8 (r.here en) else r
  let r1:=r0.take en bA
  let r3:=(r1.name en).take en [123]
  let b:=fN en (bK k (depth+1)) (r3.l.length+1) r3 [] []
  (⟨1,r1.aL,(r1.nameP en).1,(r1.nameP en).2,b.1.1,[],[],b.1.2⟩,b.2.take en [125])
def Rd.message (r:Rd) (depth:Nat):Dc × Rd:=bK en (10 - depth) depth r
def dU:Nat→Rd→List Dc→List Dc × Rd
 | 0,r,acc=>(acc,r)
 | f+1,r,acc=>if r.e=0∧r.l≠[] then
   (if r.is bA=true then dU f (r.message en 1).2 (acc++[(r.message en 1).1])
   else if r.is cZ=true then dU f (r.enum en).2 (acc++[(r.enum en).1])
   else if r.is bQ=true then dU f (r.service en).2 (acc++[(r.service en).1])
   else dU f (r.fail 7 (r.here en)) acc)
  else (acc,r)
end
def vT:Nat→List UInt8→Nat→Nat→Nat × Nat
 | 0,_,line,col=>(line,col)
 | f+1,l,line,col=>if l=[] then (line,col) else if (nx l).1=10 then vT f (l.drop (nx l).2) (line+1) 1 else vT f (l.drop (nx l).2) line (col+1)
def lE (l:List UInt8):Nat × Nat:=vT l.length l 1 1
def Dg (en:Int × Int) (ws:List Wd):List Dc × (Int × Int) × Int:=
 let b:=dU en (ws.length+1) ⟨ws,0,0,0⟩ []
 if b.2.e=0 then (b.1,(0,0),0) else ([],(b.2.pl,b.2.pc),b.2.e)
def tI (l:List UInt8):List Dc × (Int × Int) × Int:=
 if (cG l).2.2=0 then Dg (((lE l).1:Int),((lE l).2:Int)) (cG l).1 else ([],(((cG l).2.1.1:Int),((cG l).2.1.2:Int)),(cG l).2.2)

/-! ### each step goes on,or ends in an error -/
def Rd.m (r:Rd):Nat:=if r.e=0 then r.l.length+1 else 0
theorem Rd.sH (r:Rd) (e:Int) (p:Int × Int) (he:e≠0):(r.fail e p).m=0:=by
 unfold Rd.fail Rd.m
 by_cases h:r.e=0
 ·rw[if_pos h];simp[he]
 ·rw[if_neg h,if_neg h]
theorem Rd.Ao (r:Rd) (h:r.l≠[]):r.tail.m≤r.m - 1:=by
 unfold Rd.tail Rd.m
 by_cases he:r.e=0
 ·have hp:=List.length_pos_iff.2 h
  rw[if_pos he,if_pos he,List.length_tail]
  omega
 ·rw[if_neg he];omega
theorem Rd.Sh {r:Rd} {t:List UInt8} (h:r.is t=true):r.e=0∧r.l≠[]∧r.text=t:=by
 unfold Rd.is at h
 rw[Bool.and_eq_true,decide_eq_true_iff]at h
 obtain⟨h1,h2⟩:=h
 unfold Rd.text
 cases hl:r.l with
 | nil=>rw[hl]at h2;cases h2
 | cons x t=>rw[hl]at h2;exact⟨h1,by simp,by simpa using h2⟩
theorem Rd.Np {r:Rd} (h:r.isName=true):r.e=0∧r.l≠[]:=by
 unfold Rd.isName at h
 rw[Bool.and_eq_true,decide_eq_true_iff]at h
 refine⟨h.1,fun e=>?_⟩
 rw[e]at h;cases h.2
theorem Rd.Si {r:Rd} (h:r.isNum=true):r.e=0∧r.l≠[]:=by
 unfold Rd.isNum at h
 rw[Bool.and_eq_true,decide_eq_true_iff]at h
 refine⟨h.1,fun e=>?_⟩
 rw[e]at h;cases h.2
theorem Rd.Nq {r:Rd} (h:r.kW=true):r.e=0∧r.l≠[]:=by
 unfold Rd.kW at h
 rw[Bool.and_eq_true,decide_eq_true_iff]at h
 refine⟨h.1,fun e=>?_⟩
 rw[e]at h;cases h.2
section
variable (en:Int × Int)
theorem Rd.cL (r:Rd) (t:List UInt8):(r.take en t).m≤r.m - 1:=by
 unfold Rd.take
 by_cases h:r.is t=true
 ·rw[if_pos h];exact r.Ao (Rd.Sh h).2.1
 ·rw[if_neg h,Rd.sH _ _ _ (by decide)];omega
theorem Rd.gX (r:Rd):(r.name en).m≤r.m - 1:=by
 unfold Rd.name
 by_cases h:r.isName=true
 ·rw[if_pos h];exact r.Ao (Rd.Np h).2
 ·rw[if_neg h,Rd.sH _ _ _ (by decide)];omega
theorem Rd.Dh (r:Rd):(r.number en).m≤r.m - 1:=by
 unfold Rd.number
 by_cases h:r.isNum=true
 ·rw[if_pos h];exact r.Ao (Rd.Si h).2
 ·rw[if_neg h,Rd.sH _ _ _ (by decide)];omega
theorem Rd.Nr (r:Rd) (e:Int) (p:Int × Int) (he:e≠0):(r.fail e p).m≤r.m:=by rw[Rd.sH _ _ _ he];omega
theorem Lt (first:Int × Int):∀ (f n:Nat) (s:List UInt8) (r:Rd),(mR en first f n s r).2.m≤r.m
 | 0,n,s,r=>Nat.le_refl _
 | f+1,n,s,r=>by
  unfold mR
  by_cases h:r.is [46]=true
  ·rw[if_pos h]
   refine Nat.le_trans (Lt first f _ _ _) ?_
   have h1:=Rd.cL en r [46]
   have h2:=Rd.gX en (r.take en [46])
   by_cases h8:n=8
   ·rw[if_pos h8,Rd.sH _ _ _ (by decide)];omega
   ·rw[if_neg h8];omega
  ·rw[if_neg h];exact Nat.le_refl _
theorem Rd.Hw (r:Rd):(r.path en).2.m≤r.m - 1:=Nat.le_trans (Lt en _ _ _ _ _) (Rd.gX en r)
theorem Rd.aJg (r:Rd):(r.typ en).2.m≤r.m - 1:=by
 unfold Rd.typ
 by_cases h:r.kW=true
 ·rw[if_pos h];exact r.Ao (Rd.Nq h).2
 ·rw[if_neg h];exact Rd.Hw en r
theorem Rd.Lu (r:Rd):(r.field en).2.m≤r.m - 1:=by
 unfold Rd.field
 simp only
 have a:(if r.is bO=true then r.take en bO else r).m≤r.m:=by
  split
  ·have:=Rd.cL en r bO;omega
  ·exact Nat.le_refl _
 generalize (if r.is bO=true then r.take en bO else r)=r1 at *
 have b:=Rd.aJg en r1
 have c:=Rd.gX en (r1.typ en).2
 have d:=Rd.cL en ((r1.typ en).2.name en) [61]
 have e:=Rd.Dh en (((r1.typ en).2.name en).take en [61])
 have f:=Rd.cL en ((((r1.typ en).2.name en).take en [61]).number en) [59]
 omega
theorem Rd.Lw (r:Rd):(r.value en).2.m≤r.m - 1:=by
 unfold Rd.value
 simp only
 have c:=Rd.gX en r
 have d:=Rd.cL en (r.name en) [61]
 have e:=Rd.Dh en ((r.name en).take en [61])
 have f:=Rd.cL en (((r.name en).take en [61]).number en) [59]
 omega
theorem Rd.Di (r:Rd):(r.method en).2.m≤r.m - 1:=by
 unfold Rd.method
 simp only
 have a:=Rd.cL en r nL
 have b:=Rd.gX en (r.take en nL)
 have c:=Rd.cL en ((r.take en nL).name en) [40]
 have d:=Rd.Hw en (((r.take en nL).name en).take en [40])
 generalize (((r.take en nL).name en).take en [40]).path en=p at *
 have e:=Rd.cL en p.2 [41]
 have f:=Rd.cL en (p.2.take en [41]) eG
 have g:=Rd.cL en ((p.2.take en [41]).take en eG) [40]
 have h:=Rd.Hw en (((p.2.take en [41]).take en eG).take en [40])
 generalize (((p.2.take en [41]).take en eG).take en [40]).path en=q at *
 have i:=Rd.cL en q.2 [41]
 have j:=Rd.cL en (q.2.take en [41]) [59]
 omega
theorem yT:∀ (f:Nat) (r:Rd) (acc:List Vl),(dX en f r acc).2.m≤r.m
 | 0,r,acc=>Nat.le_refl _
 | f+1,r,acc=>by
  unfold dX
  split
  ·refine Nat.le_trans (yT f _ _) ?_
   have:=Rd.Lw en r;omega
  ·exact Nat.le_refl _
theorem vU:∀ (f:Nat) (r:Rd) (acc:List Mt),(dA en f r acc).2.m≤r.m
 | 0,r,acc=>Nat.le_refl _
 | f+1,r,acc=>by
  unfold dA
  split
  ·refine Nat.le_trans (vU f _ _) ?_
   have:=Rd.Di en r;omega
  ·exact Nat.le_refl _
theorem Rd.Hx (r:Rd):(r.enum en).2.m≤r.m - 1:=by
 unfold Rd.enum
 simp only
 have a:=Rd.cL en r cZ
 have b:=Rd.gX en (r.take en cZ)
 have c:=Rd.cL en ((r.take en cZ).name en) [123]
 have d:=yT en ((((r.take en cZ).name en).take en [123]).l.length+1) (((r.take en cZ).name en).take en [123]) []
 have e:=Rd.cL en (dX en ((((r.take en cZ).name en).take en [123]).l.length+1) (((r.take en cZ).name en).take en [123]) []).2 [125]
 omega
theorem Rd.Ns (r:Rd):(r.service en).2.m≤r.m - 1:=by
 unfold Rd.service
 simp only
 have a:=Rd.cL en r bQ
 have b:=Rd.gX en (r.take en bQ)
 have c:=Rd.cL en ((r.take en bQ).name en) [123]
 have d:=vU en ((((r.take en bQ).name en).take en [123]).l.length+1) (((r.take en bQ).name en).take en [123]) []
 have e:=Rd.cL en (dA en ((((r.take en bQ).name en).take en [123]).l.length+1) (((r.take en bQ).name en).take en [123]) []).2 [125]
 omega
theorem uW (msg:Rd→Dc × Rd) (hm:∀ r,(msg r).2.m≤r.m):∀ (f:Nat) (r:Rd) (fs:List Fd) (ds:List Dc),(fN en msg f r fs ds).2.m≤r.m
 | 0,r,fs,ds=>Nat.le_refl _
 | f+1,r,fs,ds=>by
  unfold fN
  split
  ·split
   ·exact Nat.le_trans (uW msg hm f _ _ _) (hm r)
   ·split
    ·refine Nat.le_trans (uW msg hm f _ _ _) ?_
     have:=Rd.Hx en r;omega
    ·refine Nat.le_trans (uW msg hm f _ _ _) ?_
     have:=Rd.Lu en r;omega
  ·exact Nat.le_refl _
theorem pY:∀ (k depth:Nat) (r:Rd),(bK en (k+1) depth r).2.m≤r.m - 1
 | k,depth,r=>by
  have hm:∀ r,(bK en k (depth+1) r).2.m≤r.m:=fun r=>by
   cases k with
   | zero=>exact Nat.le_refl _
   | succ k=>have:=pY k (depth+1) r;omega
  unfold bK
  simp only
  have z:(if 8<depth then r.fail 8 (r.here en) else r).m≤r.m:=by
   split
   ·exact Rd.Nr r 8 _ (by decide)
   ·exact Nat.le_refl _
  generalize (if 8<depth then r.fail 8 (r.here en) else r)=r0 at *
  have a:=Rd.cL en r0 bA
  have b:=Rd.gX en (r0.take en bA)
  have c:=Rd.cL en ((r0.take en bA).name en) [123]
  have d:=uW en (bK en k (depth+1)) hm ((((r0.take en bA).name en).take en [123]).l.length+1) (((r0.take en bA).name en).take en [123]) [] []
  have e:=Rd.cL en (fN en (bK en k (depth+1)) ((((r0.take en bA).name en).take en [123]).l.length+1) (((r0.take en bA).name en).take en [123]) [] []).2 [125]
  omega
end
section
variable (en:Int × Int)
theorem Rd.oO {r:Rd} (h:r.e≠0) (e:Int) (p:Int × Int):r.fail e p=r:=by unfold Rd.fail;rw[if_neg h]
theorem Rd.Ap {r:Rd} (h:r.e≠0) (t:List UInt8):r.is t=false:=by unfold Rd.is;simp[h]
theorem Rd.Hy {r:Rd} (h:r.e≠0):r.isName=false:=by unfold Rd.isName;simp[h]
theorem Rd.Nt {r:Rd} (h:r.e≠0):r.isNum=false:=by unfold Rd.isNum;simp[h]
theorem Rd.aP {r:Rd} (h:r.e≠0) (t:List UInt8):r.take en t=r:=by
 unfold Rd.take;rw[Rd.Ap h,if_neg (by decide),Rd.oO h]
theorem Rd.lF {r:Rd} (h:r.e≠0):r.name en=r:=by
 unfold Rd.name;rw[Rd.Hy h,if_neg (by decide),Rd.oO h]
theorem Rd.iK {r:Rd} (h:r.e≠0):r.number en=r:=by
 unfold Rd.number;rw[Rd.Nt h,if_neg (by decide),Rd.oO h]
theorem oP (first:Int × Int) (f n:Nat) (s:List UInt8) (r:Rd) (h:r.is [46]=false):mR en first f n s r=(s,r):=by
 cases f with
 | zero=>rfl
 | succ f=>rw[mR,h,if_neg (by decide)]
theorem Rd.gY {r:Rd} (h:r.e≠0):(r.path en).2=r:=by
 unfold Rd.path;rw[Rd.lF en h,oP en _ _ _ _ _ (Rd.Ap h _)]
theorem Rd.Aq {r:Rd} (h:r.e=0) (e:Int) (p:Int × Int):(r.fail e p).e=e:=by unfold Rd.fail;rw[if_pos h]
theorem Rd.jP {r:Rd} (h:r.e=0) (t:List UInt8):decide ((r.take en t).e=0)=r.is t:=by
 unfold Rd.take
 by_cases hi:r.is t=true
 ·rw[if_pos hi,hi];exact decide_eq_true h
 ·rw[if_neg hi,Rd.Aq h];simp at hi;rw[hi];rfl
theorem Rd.sI {r:Rd} (h:r.e=0):decide ((r.name en).e=0)=r.isName:=by
 unfold Rd.name
 by_cases hi:r.isName=true
 ·rw[if_pos hi,hi];exact decide_eq_true h
 ·rw[if_neg hi,Rd.Aq h];simp at hi;rw[hi];rfl
theorem Rd.Dj {r:Rd} (h:r.e=0):decide ((r.number en).e=0)=r.isNum:=by
 unfold Rd.number
 by_cases hi:r.isNum=true
 ·rw[if_pos hi,hi];exact decide_eq_true h
 ·rw[if_neg hi,Rd.Aq h];simp at hi;rw[hi];rfl
end
open Go.RowKit
def pZ (x:Fd):List Value:=[.bool x.rep,.string (aC x.type),.string (aC x.name),.int .i64 x.num,.int .i64 x.line,.int .i64 x.col]
def sJ (x:Vl):List Value:=[.string (aC x.name),.int .i64 x.num,.int .i64 x.line,.int .i64 x.col]
def sK (x:Mt):List Value:=[.string (aC x.name),.string (aC x.inp),.string (aC x.out),.int .i64 x.line,.int .i64 x.col]
def eZ (d:Dc) (fs vs ms ins:Value):List Value:=[.int .i64 d.kind,.string (aC d.name),.int .i64 d.line,.int .i64 d.col,fs,vs,ms,ins]
def RowsIn {α:Type} (w:World) (S:Nat→Prop) (k:Nat) (row:α→List Value) (v:Value) (xs:List α):Prop:=
 ∃ ad c,v=.slice ad xs.length c∧xs.length≤c∧(xs=[]∨∃ g o,ad=some ⟨g,o,none⟩∧S g∧∀ (j:Nat) (x:α),xs[j]? = some x→∀ (i:Nat) (u:Value),(row x)[i]? = some u→w.cell? ⟨g,o+(j*k+i),none⟩=some u)
theorem RowsIn.old {α:Type} {w w':World} {S:Nat→Prop} {k:Nat} {row:α→List Value} {v:Value} {xs:List α} (h:RowsIn w S k row v xs) (hb:∀ b,S b→w'.heap[b]? = w.heap[b]?):RowsIn w' S k row v xs:=by
 obtain⟨ad,c,hv,hc,h⟩:=h
 refine⟨ad,c,hv,hc,h.imp id ?_⟩
 rintro⟨g,o,ha,hg,h⟩
 exact⟨g,o,ha,hg,fun j x hj i u hu=>by rw[World.cell?_of_block (hb g hg)];exact h j x hj i u hu⟩
theorem RowsIn.more {α:Type} {w:World} {S S':Nat→Prop} {k:Nat} {row:α→List Value} {v:Value} {xs:List α} (h:RowsIn w S k row v xs) (hb:∀ b,S b→S' b):RowsIn w S' k row v xs:=by
 obtain⟨ad,c,hv,hc,h⟩:=h
 refine⟨ad,c,hv,hc,h.imp id ?_⟩
 rintro⟨g,o,ha,hg,h⟩
 exact⟨g,o,ha,hb g hg,h⟩
theorem RowsIn.nil {α:Type} (w:World) (S:Nat→Prop) (k:Nat) (row:α→List Value) (ad:Option Addr) (c:Nat):RowsIn w S k row (.slice ad 0 c) ([]:List α):=⟨ad,c,rfl,Nat.zero_le _,.inl rfl⟩
def aM:Nat→World→(Nat→Prop)→Value→List Dc→Prop
 | 0,w,S,v,ds=>ds=[]∧∃ ad c,v=.slice ad 0 c
 | f+1,w,S,v,ds=>∃ ad c,v=.slice ad ds.length c∧ds.length≤c∧(ds=[]∨∃ g o,ad=some ⟨g,o,none⟩∧S g∧∀ (j:Nat) (d:Dc),ds[j]? = some d→
   ∃ fs vs ms ins,(∀ (i:Nat) (u:Value),(eZ d fs vs ms ins)[i]? = some u→w.cell? ⟨g,o+(j*8+i),none⟩=some u)∧
    RowsIn w S 6 pZ fs d.fields∧RowsIn w S 4 sJ vs d.values∧RowsIn w S 5 sK ms d.methods∧aM f w S ins d.inner)
def Kids (f:Nat) (w:World) (S:Nat→Prop) (fs vs ms ins:Value) (d:Dc):Prop:=
 RowsIn w S 6 pZ fs d.fields∧RowsIn w S 4 sJ vs d.values∧RowsIn w S 5 sK ms d.methods∧aM f w S ins d.inner
theorem aM.old {w w':World} {S:Nat→Prop} (hb:∀ b,S b→w'.heap[b]? = w.heap[b]?):∀ {f:Nat} {v:Value} {ds:List Dc},aM f w S v ds→aM f w' S v ds
 | 0,v,ds,h=>h
 | f+1,v,ds,h=>by
  obtain⟨ad,c,hv,hc,h⟩:=h
  refine⟨ad,c,hv,hc,h.imp id ?_⟩
  rintro⟨g,o,ha,hg,h⟩
  refine⟨g,o,ha,hg,fun j d hj=>?_⟩
  obtain⟨fs,vs,ms,ins,h0,h1,h2,h3,h4⟩:=h j d hj
  exact⟨fs,vs,ms,ins,fun i u hu=>by rw[World.cell?_of_block (hb g hg)];exact h0 i u hu,h1.old hb,h2.old hb,h3.old hb,aM.old hb h4⟩
theorem aM.more {w:World} {S S':Nat→Prop} (hb:∀ b,S b→S' b):∀ {f:Nat} {v:Value} {ds:List Dc},aM f w S v ds→aM f w S' v ds
 | 0,v,ds,h=>h
 | f+1,v,ds,h=>by
  obtain⟨ad,c,hv,hc,h⟩:=h
  refine⟨ad,c,hv,hc,h.imp id ?_⟩
  rintro⟨g,o,ha,hg,h⟩
  refine⟨g,o,ha,hb g hg,fun j d hj=>?_⟩
  obtain⟨fs,vs,ms,ins,h0,h1,h2,h3,h4⟩:=h j d hj
  exact⟨fs,vs,ms,ins,h0,h1.more hb,h2.more hb,h3.more hb,aM.more hb h4⟩
theorem aM.nil (f:Nat) (w:World) (S:Nat→Prop) (ad:Option Addr) (c:Nat):aM f w S (.slice ad 0 c) []:=by
 cases f with
 | zero=>exact⟨rfl,ad,c,rfl⟩
 | succ f=>exact⟨ad,c,rfl,Nat.zero_le _,.inl rfl⟩
theorem aM.up {w:World} {S:Nat→Prop}:∀ {f:Nat} {v:Value} {ds:List Dc},aM f w S v ds→aM (f+1) w S v ds
 | 0,v,ds,⟨h,ad,c,hv⟩=>by subst h;rw[hv];exact aM.nil 1 w S ad c
 | f+1,v,ds,h=>by
  obtain⟨ad,c,hv,hc,h⟩:=h
  refine⟨ad,c,hv,hc,h.imp id ?_⟩
  rintro⟨g,o,ha,hg,h⟩
  refine⟨g,o,ha,hg,fun j d hj=>?_⟩
  obtain⟨fs,vs,ms,ins,h0,h1,h2,h3,h4⟩:=h j d hj
  exact⟨fs,vs,ms,ins,h0,h1,h2,h3,aM.up h4⟩
theorem Kids.old {f:Nat} {w w':World} {S:Nat→Prop} {fs vs ms ins:Value} {d:Dc} (h:Kids f w S fs vs ms ins d) (hb:∀ b,S b→w'.heap[b]? = w.heap[b]?):Kids f w' S fs vs ms ins d:=
 ⟨h.1.old hb,h.2.1.old hb,h.2.2.1.old hb,aM.old hb h.2.2.2⟩
theorem Kids.more {f:Nat} {w:World} {S S':Nat→Prop} {fs vs ms ins:Value} {d:Dc} (h:Kids f w S fs vs ms ins d) (hb:∀ b,S b→S' b):Kids f w S' fs vs ms ins d:=
 ⟨h.1.more hb,h.2.1.more hb,h.2.2.1.more hb,aM.more hb h.2.2.2⟩
theorem Kids.up {f:Nat} {w:World} {S:Nat→Prop} {fs vs ms ins:Value} {d:Dc} (h:Kids f w S fs vs ms ins d):Kids (f+1) w S fs vs ms ins d:=⟨h.1,h.2.1,h.2.2.1,h.2.2.2.up⟩
theorem rA {α:Type} {k:Nat} {row:α→List Value} (hk:∀ x,(row x).length=k):∀ (xs:List α) (j:Nat) (x:α) (i:Nat),i<k→xs[j]? = some x→(xs.flatMap row)[j*k+i]? = (row x)[i]?
 | [],j,x,i,hi,h=>by simp at h
 | a :: t,0,x,i,hi,h=>by
  have:a=x:=by simpa using h
  subst this
  rw[List.flatMap_cons,Nat.zero_mul,Nat.zero_add,List.getElem?_append_left (by rw[hk];exact hi)]
 | a :: t,j+1,x,i,hi,h=>by
  rw[List.flatMap_cons,List.getElem?_append_right (by rw[hk,Nat.succ_mul];omega),hk,show (j+1)*k+i - k=j*k+i by rw[Nat.succ_mul];omega]
  exact rA hk t j x i hi (by simpa using h)
theorem gZ {α:Type} {w:World} {base:Nat} {E:TypeId} {k:Nat} {row:α→List Value} (hk:∀ x,(row x).length=k) {v:Value} {xs:List α} (h:w.ownsRow base E k v xs.length (xs.flatMap row)) (S:Nat→Prop) (hS:∀ b,v.ownBlock=some b→S b):RowsIn w S k row v xs:=by
 obtain⟨hl,⟨rfl,h0⟩ | ⟨g,cap,cur,rfl,hg,hh,h3,h4,h5,h6⟩⟩:=h
 ·exact⟨none,0,by rw[h0],by omega,.inl (List.eq_nil_of_length_eq_zero h0)⟩
 ·refine⟨_,cap,rfl,h3,.inr ⟨g,0,rfl,hS g rfl,fun j x hj i u hu=>?_⟩⟩
  have hi:i<k:=by
   have:=(List.getElem?_eq_some_iff.1 hu).1
   rw[hk]at this;exact this
  have e:=rA hk xs j x i hi hj
  have hjl:=(List.getElem?_eq_some_iff.1 hj).1
  have hb:j*k+i<xs.length*k:=by
   have:(j+1)*k≤xs.length*k:=Nat.mul_le_mul_right k hjl
   rw[Nat.succ_mul]at this
   omega
  rw[←h6,List.getElem?_take,if_pos (by omega),hu]at e
  simp only[World.cell?,hh]
  rw[Nat.zero_add]
  simpa using e
def iV:Nat→List Dc→Prop
 | 0,ds=>True
 | f+1,ds=>ds.length≤100000∧∀ d∈ds,d.fields.length≤100000∧d.values.length≤100000∧d.methods.length≤100000∧iV f d.inner
end Go.Proofs.YtpojeinddnjpfaaGreatDoor
