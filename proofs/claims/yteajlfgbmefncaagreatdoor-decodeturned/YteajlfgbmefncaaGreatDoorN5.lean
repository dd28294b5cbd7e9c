/-
  Walks and plain words (Spl VnM VnE EqD ShP PtD RsR).
-/
import Derived.Test.YteajlfgbmefncaaGreatDoorN4
import Derived.Test.YteajlfgbmefncaaGreatDoorN1
import Derived.Lib.ValidLaws
import Derived.Test.YteajlfgbmefncaaGreatDoorN0
import Derived.Test.YteajlfgbmefncaaGreatDoorProg
import Derived.Deep.Cut
import Derived.Deep.DeepCutAuto
import Derived.Lib.SlicesS
import Derived.Shelf.Strings.Search3
import Derived.Shelf.Strings.Split
import Derived.Shelf.LaysM
import Derived.Ground.NamesProg
import Derived.Lib.IndexBytes
namespace Go.Proofs.YteajlfgbmefncaaGreatDoor
set_option linter.unusedVariables false
open Go.ChangeShapes Go.WideShapes Go.ChangeAt Go.RowKit

theorem dec_e:∀ (zs:List Int) (X:Int) (k:Nat),(dec X k zs).2.2=0∨(dec X k zs).2.2=2∨(dec X k zs).2.2=5
 | [],X,k=>by rw[dec_nil];simp
 | z :: zs,X,k=>by
  by_cases hf:k=9∧1<z
  ·rw[dec_form _ _ _ _ hf.1 hf.2];simp
  ·by_cases h1:z<128
   ·rw[dec_end _ _ _ _ hf h1];simp
   ·rw[dec_on _ _ _ _ hf (by omega)]
    exact dec_e zs _ (k+1)
theorem tf_e (zs:List Int):(tf zs).e=0∨(tf zs).e=2∨(tf zs).e=5:=by
 have h1:=dec_e zs 0 0
 unfold tf
 split
 ·simpa [tfErr]using h1
 ·generalize (zs.drop (dec 0 0 zs).2.1.toNat)=rest
  have h2:=dec_e rest 0 0
  unfold tfBody
  split
  ·simp[tfErr]
  ·split
   ·split
    ·simpa [tfErr]using h2
    ·simp
   ·split
    ·split
     ·simpa [tfErr]using h2
     ·split <;> simp[tfErr]
    ·split
     ·split <;> simp[tfErr]
     ·split <;> simp[tfErr]
theorem tf_k (zs:List Int) (hb:∀ z∈zs,0≤z∧z≤255) (h:(tf zs).e=0):1≤(tf zs).k∧(tf zs).k≤zs.length:=by
 obtain⟨N,K,E,hd⟩:=dec_triple zs
 unfold tf at h ⊢
 rw[hd]at h ⊢
 simp only[]at h ⊢
 by_cases hE:E=0
 ·subst hE
  rw[if_neg (by simp)]at h ⊢
  obtain⟨hN0,hN1,hK0,hKl,hK10⟩:=dec_ok zs 0 0 N K hb (by simp) (by omega) (by simpa using hd)
  obtain⟨k,rfl⟩:=Int.eq_ofNat_of_zero_le (show 0≤K by omega)
  rw[Int.toNat_natCast]at h ⊢
  have hl:(zs.drop k).length=zs.length - k:=List.length_drop
  have hbr:∀ z∈zs.drop k,0≤z∧z≤255:=fun z hz=>hb z (List.mem_of_mem_drop hz)
  generalize zs.drop k=rest at *
  obtain⟨X,Q,F,hq⟩:=dec_triple rest
  unfold tfBody at h ⊢
  rw[hq]at h ⊢
  simp only[]at h ⊢
  split at h
  ·simp[tfErr]at h
  ·rename_i hbad
   rw[if_neg hbad]
   split at h
   ·rename_i h0
    rw[if_pos h0]
    split at h
    ·rename_i hF;simp[tfErr]at h;exact absurd h hF
    ·rename_i hF
     rw[if_neg hF]
     have hF0:F=0:=by simpa using hF
     subst hF0
     obtain⟨_,_,hq0,hql,_⟩:=dec_ok rest 0 0 X Q hbr (by simp) (by omega) (by simpa using hq)
     simp only[]
     omega
   ·rename_i h0
    rw[if_neg h0]
    split at h
    ·rename_i h2
     rw[if_pos h2]
     split at h
     ·rename_i hF;simp[tfErr]at h;exact absurd h hF
     ·rename_i hF
      rw[if_neg hF]
      have hF0:F=0:=by simpa using hF
      subst hF0
      obtain⟨hX0,_,hq0,hql,_⟩:=dec_ok rest 0 0 X Q hbr (by simp) (by omega) (by simpa using hq)
      split at h
      ·simp[tfErr]at h
      ·rename_i hs
       rw[if_neg hs]
       simp only[]
       omega
    ·rename_i h2
     rw[if_neg h2]
     split at h
     ·rename_i h5
      rw[if_pos h5]
      split at h
      ·simp[tfErr]at h
      ·rename_i h4
       rw[if_neg h4]
       simp only[]
       omega
     ·rename_i h5
      rw[if_neg h5]
      split at h
      ·simp[tfErr]at h
      ·rename_i h8
       rw[if_neg h8]
       simp only[]
       omega
 ·rw[if_pos (by simpa using hE)]at h
  simp[tfErr]at h
  exact absurd h hE

def spl:Nat→List Int→Option (List (TF × List Int))
 | _,[]=>some []
 | 0,_ :: _=>none
 | n+1,z :: zs=>if (tf (z :: zs)).e≠0 then none else (spl n ((z :: zs).drop (tf (z :: zs)).k.toNat)).map (((tf (z :: zs),(z :: zs).take (tf (z :: zs)).k.toNat)) :: ·)
theorem spl_nil (n:Nat):spl n []=some []:=by cases n <;> rfl
theorem spl_err (n:Nat) (zs:List Int) (h:zs≠[]) (he:(tf zs).e≠0):spl n zs=none:=by
 cases zs with
 | nil=>exact absurd rfl h
 | cons z zs=>cases n with
  | zero=>rfl
  | succ n=>rw[spl,if_pos he]
theorem spl_on (n:Nat) (zs:List Int) (h:zs≠[]) (he:(tf zs).e=0):spl (n+1) zs=(spl n (zs.drop (tf zs).k.toNat)).map ((tf zs,zs.take (tf zs).k.toNat) :: ·):=by
 cases zs with
 | nil=>exact absurd rfl h
 | cons z zs=>rw[spl,if_neg (by simpa using he)]
theorem spl_fuel:∀ (n m:Nat) (zs:List Int),(∀ z∈zs,0≤z∧z≤255)→zs.length≤n→zs.length≤m→spl n zs=spl m zs
 | 0,m,zs,hb,hn,hm=>by
  have:zs=[]:=List.eq_nil_of_length_eq_zero (by omega)
  subst this;rw[spl_nil,spl_nil]
 | n+1,0,zs,hb,hn,hm=>by
  have:zs=[]:=List.eq_nil_of_length_eq_zero (by omega)
  subst this;rw[spl_nil,spl_nil]
 | n+1,m+1,zs,hb,hn,hm=>by
  by_cases h0:zs=[]
  ·subst h0;rw[spl_nil,spl_nil]
  ·by_cases he:(tf zs).e=0
   ·have hk:=tf_k zs hb he
    rw[spl_on n zs h0 he,spl_on m zs h0 he,spl_fuel n m _ (fun z hz=>hb z (List.mem_of_mem_drop hz)) (by rw[List.length_drop];omega) (by rw[List.length_drop];omega)]
   ·rw[spl_err _ zs h0 he,spl_err _ zs h0 he]
def split (zs:List Int):Option (List (TF × List Int)):=spl zs.length zs
theorem split_nil:split []=some []:=rfl
theorem split_err (zs:List Int) (h:zs≠[]) (he:(tf zs).e≠0):split zs=none:=spl_err _ zs h he
theorem split_on (zs:List Int) (hb:∀ z∈zs,0≤z∧z≤255) (h:zs≠[]) (he:(tf zs).e=0):split zs=(split (zs.drop (tf zs).k.toNat)).map ((tf zs,zs.take (tf zs).k.toNat) :: ·):=by
 have hk:=tf_k zs hb he
 unfold split
 obtain⟨n,hn⟩:∃ n,zs.length=n+1:=⟨zs.length - 1,by omega⟩
 rw[hn,spl_on n zs h he,spl_fuel n (zs.drop (tf zs).k.toNat).length _ (fun z hz=>hb z (List.mem_of_mem_drop hz)) (by rw[List.length_drop];omega) (Nat.le_refl _)]

def FR.says (f:FR):Int × Int × Int × List Int:=(f.num,f.ty,f.n,f.d)
def TF.says (t:TF):Int × Int × Int × List Int:=(t.num,t.ty,t.n,t.data)
def FitsF (fs:List FR) (D:List (TF × List Int)):Prop:=(fs.map FR.says=D.map fun p=>p.1.says)∧∀ f∈fs,NoA f.a f.len f.cap
def FitsR (rs:List Row3) (D:List (TF × List Int)):Prop:=((rs.map fun r=>r.zs)=D.map fun p=>p.2)∧∀ r∈rs,NoA r.a r.len r.cap
def SpAns (e:TypeId) (w w':World) (en:Ending):Option (List (TF × List Int))→Prop
 | none=>en=.returned (.tuple #[.slice none 0 0,.slice none 0 0,.int .i64 2])∧Below w.heap.size w w'
 | some D=>∃ vF vR fs rs,en=.returned (.tuple #[vF,vR,.int .i64 0])∧SplSt w' w.heap.size e vF vR fs rs∧FitsF fs D∧FitsR rs D∧Below w.heap.size w w'
theorem fits_snoc {fs:List FR} {rs:List Row3} {D:List (TF × List Int)} (hF:FitsF fs D) (hR:FitsR rs D) (f:FR) (r:Row3) (p:TF × List Int) (h1:f.says=p.1.says) (h2:r.zs=p.2) (h3:NoA f.a f.len f.cap) (h4:NoA r.a r.len r.cap):FitsF (fs++[f]) (D++[p])∧FitsR (rs++[r]) (D++[p]):=by
 refine⟨⟨?_,fun x hx=>?_⟩,?_,fun x hx=>?_⟩
 ·simp[hF.1,h1]
 ·rcases List.mem_append.1 hx with hx | hx
  ·exact hF.2 x hx
  ·have:x=f:=by simpa using hx
   rw[this];exact h3
 ·simp[hR.1,h2]
 ·rcases List.mem_append.1 hx with hx | hx
  ·exact hR.2 x hx
  ·have:x=r:=by simpa using hx
   rw[this];exact h4
theorem FitsF.nil:FitsF [] []:=⟨rfl,fun _ h=>by cases h⟩
theorem FitsR.nil:FitsR [] []:=⟨rfl,fun _ h=>by cases h⟩
theorem FitsF.len {fs:List FR} {D:List (TF × List Int)} (h:FitsF fs D):fs.length=D.length:=by
 have:=congrArg List.length h.1
 simpa using this
theorem FitsR.len {rs:List Row3} {D:List (TF × List Int)} (h:FitsR rs D):rs.length=D.length:=by
 have:=congrArg List.length h.1
 simpa using this
structure Nd where
 kind:Int
 n:Int
 u:Int
 b:Bool
 s:List UInt8
 type:Int
 fields:List (Int × List Nd)
def ints (s:List UInt8):List Int:=s.map fun b=>(b.toNat:Int)
theorem ints_len (s:List UInt8):(ints s).length=s.length:=by unfold ints;simp
theorem ints_ok (s:List UInt8):∀ z∈ints s,0≤z∧z≤255:=by
 intro z hz
 unfold ints at hz
 obtain⟨b,_,rfl⟩:=List.mem_map.1 hz
 have:=b.toNat_lt
 omega
def ownT (k:Int):Int:=if k=1∨k=2∨k=3∨k=4∨k=9 then 0 else if k=7 then 5 else if k=8 then 1 else 2
def wireT (k:Int):Int:=if k=7 then 5 else if k=8 then 1 else if k=5∨k=6∨k=10 then 2 else 0
def typeFits (f:FD) (ty:Int):Bool:=decide (ty=ownT f.kind) || (f.rep&&decide (ty=2))
def knownB (num ty:Int) (f:FD):Bool:=decide (f.num=num)&&typeFits f ty
def knownP (fs:List FD) (num ty:Int):Bool:=!allB (atB fs fun _ f=>!knownB num ty f) fs.length
def isFirst (fs:List FD) (num:Int) (i:Nat) (f:FD):Prop:=fs[i]? = some f∧f.num=num∧∀ (j:Nat) (g:FD),j<i→fs[j]? = some g→g.num≠num
def NoField (fs:List FD) (num:Int):Prop:=∀ (j:Nat) (g:FD),fs[j]? = some g→g.num≠num
def firstF:List FD→Int→Option FD
 | [],_=>none
 | f :: t,num=>if f.num=num then some f else firstF t num
theorem firstF_is:∀ {fs:List FD} {num:Int} {i:Nat} {f:FD},isFirst fs num i f→firstF fs num=some f
 | [],num,i,f,h=>by have:=h.1;simp at this
 | x :: t,num,0,f,h=>by
  have e:x=f:=by simpa using h.1
  subst e
  rw[firstF,if_pos h.2.1]
 | x :: t,num,i+1,f,h=>by
  rw[firstF,if_neg (h.2.2 0 x (by omega) rfl)]
  exact firstF_is ⟨by simpa using h.1,h.2.1,fun j g hj hg=>h.2.2 (j+1) g (by omega) (by simpa using hg)⟩
theorem firstF_no:∀ {fs:List FD} {num:Int},NoField fs num→firstF fs num=none
 | [],num,h=>rfl
 | x :: t,num,h=>by
  rw[firstF,if_neg (h 0 x rfl)]
  exact firstF_no fun j g hg=>h (j+1) g (by simpa using hg)
theorem firstF_some:∀ {fs:List FD} {num:Int} {f:FD},firstF fs num=some f→f∈fs∧f.num=num
 | x :: t,num,f,h=>by
  rw[firstF]at h
  split at h
  ·cases h;exact⟨List.mem_cons_self,by assumption⟩
  ·have:=firstF_some h;exact⟨List.mem_cons_of_mem _ this.1,this.2⟩
theorem firstF_none:∀ {fs:List FD} {num:Int},firstF fs num=none→∀ f∈fs,f.num≠num
 | [],num,h,f,hf=>by cases hf
 | x :: t,num,h,f,hf=>by
  rw[firstF]at h
  split at h
  ·cases h
  ·rcases List.mem_cons.1 hf with rfl | hf
   ·assumption
   ·exact firstF_none h f hf
def knownR (fs:List FD) (num ty:Int):Bool:=match firstF fs num with
 | none=>false
 | some f=>decide (ty=wireT f.kind) || (f.rep&&(decide (wireT f.kind≠2)&&decide (ty=2)))
def noneOf (known:Int→Int→Bool) (s:List UInt8):Bool:=match split (ints s)with
 | none=>false
 | some D=>allA D fun _ p=>!known p.1.num p.1.ty
def valB (s:List UInt8):Bool:=Lib.validD s
def kindB (k:Int) (x:Nd):Bool:=if k=1∨k=3 then decide (x.kind=1) else if k=2∨k=8 then decide (x.kind=2) else if k=7 then decide (x.kind=2∧x.u<4294967296)
 else if k=4 then decide (x.kind=3) else if k=5 then decide (x.kind=4)&&valB x.s else if k=6 then decide (x.kind=5) else if k=9 then decide (x.kind=6) else false
def valP (rec:Int→Nd→Bool) (f:FD) (x:Nd):Bool:=if f.kind=10 then rec f.type x else kindB f.kind x
def fldP (rec:Int→Nd→Bool) (fs:List FD) (x:Int × List Nd):Bool:=match firstF fs x.1 with
 | none=>false
 | some f=>!decide (x.2.length=0)&&((decide (x.2.length≤1) || f.rep)&&allA x.2 fun _ y=>valP rec f y)
def prevF (fl:List (Int × List Nd)):Nat→Int
 | 0=>0
 | k+1=>match fl[k]? with
  | some f=>f.1
  | none=>0
def bodyP (rec:Int→Nd→Bool) (fs:List FD) (x:Nd):Bool:=allA x.fields (fun k y=>decide (prevF x.fields k<y.1)&&fldP rec fs y)&&noneOf (knownP fs) x.s
def topP (ms:List MD) (rec:Int→Nd→Bool) (dep t:Int) (x:Nd):Bool:=decide (x.kind=7∧x.type=t∧dep≤16)&&(match ms[t.toNat]? with
  | none=>false
  | some m=>bodyP rec m.fields x)
def fitP (ms:List MD):Nat→Int→Int→Nd→Bool
 | 0,dep,t,x=>topP ms (fun _ _=>false) dep t x
 | f+1,dep,t,x=>topP ms (fun t y=>fitP ms f (dep+1) t y) dep t x
def recP (ms:List MD) (dep:Int):Nat→Int→Nd→Bool
 | 0=>fun _ _=>false
 | f+1=>fun t y=>fitP ms f (dep+1) t y
theorem fitP_eq (ms:List MD) (f:Nat) (dep t:Int) (x:Nd):fitP ms f dep t x=topP ms (recP ms dep f) dep t x:=by cases f <;> rfl
def kindOf (k:Int):Int:=if k=1∨k=3 then 1 else if k=2∨k=7∨k=8 then 2 else if k=4 then 3 else if k=5 then 4 else if k=6 then 5 else if k=9 then 6 else 7
def cn (y:Nd):Nd:=⟨if 1≤y.kind∧y.kind≤7 then y.kind else 0,if y.kind=1 then y.n else if y.kind=6 then IntKind.i32.wrap y.n else 0,if y.kind=2 then y.u else 0,if y.kind=3 then y.b else false,
 if y.kind=4∨y.kind=5∨y.kind=7 then y.s else [],if y.kind=7 then y.type else 0,if y.kind=7 then y.fields else []⟩
theorem good_of {ne nm:Nat} {fs:List FD} (h:formF ne nm fs=true) {k:Nat} {f:FD} (hf:fs[k]? = some f):prevN fs k<f.num∧1≤f.kind∧f.kind≤10:=by
 have h1:=allA_iff.1 h k f hf
 unfold goodF at h1
 simp only[Bool.and_eq_true,decide_eq_true_eq]at h1
 refine⟨h1.1,?_⟩
 have h2:=h1.2.2.2.2
 unfold typB at h2
 split at h2
 ·omega
 ·split at h2
  ·omega
  ·have:=of_decide_eq_true h2;omega
theorem rise_of {ne nm:Nat} {fs:List FD} (h:formF ne nm fs=true):∀ (j i:Nat) (f g:FD),i<j→fs[i]? = some f→fs[j]? = some g→f.num<g.num:=by
 intro j
 induction j with
 | zero=>intro i f g hi;omega
 | succ j ih=>
  intro i f g hi hf hg
  have h1:=(good_of h hg).1
  obtain⟨y,hy⟩:∃ y,fs[j]? = some y:=⟨_,List.getElem?_eq_getElem (by have:=(List.getElem?_eq_some_iff.1 hg).1;omega)⟩
  rw[prevN_step hy]at h1
  by_cases hij:i=j
  ·subst hij;rw[hf]at hy;cases hy;exact h1
  ·exact Int.lt_trans (ih i f y (by omega) hf hy) h1
theorem one_of {ne nm:Nat} {fs:List FD} (h:formF ne nm fs=true) {f g:FD} (hf:f∈fs) (hg:g∈fs) (e:f.num=g.num):f=g:=by
 obtain⟨i,hi⟩:=List.getElem?_of_mem hf
 obtain⟨j,hj⟩:=List.getElem?_of_mem hg
 rcases Nat.lt_trichotomy i j with h1 | h1 | h1
 ·have:=rise_of h j i f g h1 hi hj;omega
 ·subst h1;rw[hi]at hj;cases hj;rfl
 ·have:=rise_of h i j g f h1 hj hi;omega
theorem knownP_iff {fs:List FD} {num ty:Int}:knownP fs num ty=true↔∃ f∈fs,f.num=num∧typeFits f ty=true:=by
 unfold knownP
 rw[Bool.not_eq_true',←Bool.not_eq_true,allB_iff]
 constructor
 ·intro h
  apply Classical.byContradiction
  intro hn
  refine h fun j hj=>?_
  obtain⟨y,hy⟩:∃ y,fs[j]? = some y:=⟨_,List.getElem?_eq_getElem hj⟩
  rw[atB_some hy,Bool.not_eq_true',←Bool.not_eq_true]
  unfold knownB
  intro hk
  simp only[Bool.and_eq_true,decide_eq_true_eq]at hk
  exact hn ⟨y,List.mem_of_getElem? hy,hk⟩
 ·rintro⟨f,hf,h1,h2⟩ h
  obtain⟨j,hj⟩:=List.getElem?_of_mem hf
  have:=h j (List.getElem?_eq_some_iff.1 hj).1
  rw[atB_some hj,Bool.not_eq_true']at this
  unfold knownB at this
  rw[h2,decide_eq_true h1]at this
  cases this
theorem fits_kind {f:FD} (h1:1≤f.kind) (h2:f.kind≤10) (ty:Int):typeFits f ty=(decide (ty=wireT f.kind) || (f.rep&&(decide (wireT f.kind≠2)&&decide (ty=2)))):=by
 obtain⟨num,name,kind,rep,type⟩:=f
 simp only at h1 h2
 unfold typeFits
 dsimp only
 rcases(by omega:kind=1∨kind=2∨kind=3∨kind=4∨kind=5∨kind=6∨kind=7∨kind=8∨kind=9∨kind=10)with rfl | rfl | rfl | rfl | rfl | rfl | rfl | rfl | rfl | rfl <;>
  simp only[ownT,wireT] <;> cases rep <;> simp
theorem known_eq {ne nm:Nat} {fs:List FD} (h:formF ne nm fs=true) (num ty:Int):knownP fs num ty=knownR fs num ty:=by
 unfold knownR
 cases hq:firstF fs num with
 | none=>
  simp only
  rw[←Bool.not_eq_true,knownP_iff]
  rintro⟨f,hf,h1,_⟩
  exact firstF_none hq f hf h1
 | some f=>
  simp only
  obtain⟨hf,hn⟩:=firstF_some hq
  obtain⟨i,hi⟩:=List.getElem?_of_mem hf
  obtain⟨_,k1,k2⟩:=good_of h hi
  rw[←fits_kind k1 k2]
  rw[Bool.eq_iff_iff,knownP_iff]
  constructor
  ·rintro⟨g,hg,h1,h2⟩
   rw[one_of h hf hg (hn.trans h1.symm)];exact h2
  ·intro h2;exact⟨f,hf,hn,h2⟩
theorem RowsIn.isSl {α:Type} {w:World} {S:Nat→Prop} {k:Nat} {row:α→List Value} {v:Value} {xs:List α} (h:RowsIn w S k row v xs):∃ ad c,v=.slice ad xs.length c:=by
 obtain⟨ad,c,hv,_⟩:=h;exact⟨ad,c,hv⟩
open Go.Shelf
def lays143_ren : Go.Shelf.Ren := ⟨fun | 143 => 134 | 219 => 143 | 217 => 145 | 225 => 146 | 224 => 147 | 267 => 148 | 266 => 149 | 314 => 150 | n => n, fun | 9 => 9 | 3 => 3 | 4 => 4 | 5 => 5 | 46 => 44 | 146 => 218 | 51 => 196 | n => n, fun | 1 => 2 | n => n⟩
theorem lays143 : Go.Proofs.Lays.n143 Tryz.prog lays143_ren := {
  mixed := by kernel_rfl
  f143 := Tryz.func134.trans (congrArg some (by kernel_rfl))
  f217 := Tryz.func145.trans (congrArg some (by kernel_rfl))
  f219 := Tryz.func143.trans (congrArg some (by kernel_rfl))
  f224 := Tryz.func147.trans (congrArg some (by kernel_rfl))
  f225 := Tryz.func146.trans (congrArg some (by kernel_rfl))
  f266 := Tryz.func149.trans (congrArg some (by kernel_rfl))
  f267 := Tryz.func148.trans (congrArg some (by kernel_rfl))
  f314 := Tryz.func150.trans (congrArg some (by kernel_rfl))
  t3 := Tryz.underlying3
  a3 := Tryz.isAgg3
  z3 := Tryz.sizeOf3
  v3 := Tryz.zeroValue3
  t4 := Tryz.underlying4
  a4 := Tryz.isAgg4
  z4 := Tryz.sizeOf4
  v4 := Tryz.zeroValue4
  t5 := Tryz.underlying5
  a5 := Tryz.isAgg5
  z5 := Tryz.sizeOf5
  v5 := Tryz.zeroValue5
  t9 := Tryz.underlying9
  a9 := Tryz.isAgg9
  z9 := Tryz.sizeOf9
  v9 := Tryz.zeroValue9
  t46 := Tryz.underlying44
  a46 := Tryz.isAgg44
  z46 := Tryz.sizeOf44
  v46 := Tryz.zeroValue44
  t51 := Tryz.underlying196
  a51 := Tryz.isAgg196
  z51 := Tryz.sizeOf196
  v51 := Tryz.zeroValue196
  t146 := Tryz.underlying218
  a146 := Tryz.isAgg218
  z146 := Tryz.sizeOf218
  v146 := Tryz.zeroValue218
  g1 := by kernel_rfl }
open Go.RowKit Go.Lib in
theorem strings_Index_one (s : ByteArray) (c : UInt8) (w : World) :
    Calls Tryz.prog 134 #[.string s, .string ⟨#[c]⟩] w fun e w' => e = .returned (.int .i64 (Lib.indexByte s.data.toList c)) ∧ w' = w := Any.strings_Index_one lays143 s c w
def lays221_ren : Go.Shelf.Ren := ⟨fun | 221 => 119 | 268 => 132 | 138 => 133 | 143 => 134 | 195 => 140 | 197 => 141 | 218 => 142 | 219 => 143 | 260 => 144 | 217 => 145 | 225 => 146 | 224 => 147 | 267 => 148 | 266 => 149 | 314 => 150 | n => n, fun | 9 => 9 | 3 => 3 | 31 => 93 | 4 => 4 | 0 => 0 | 105 => 215 | 21 => 21 | 5 => 5 | 46 => 44 | 119 => 173 | 139 => 176 | 138 => 175 | 146 => 218 | 51 => 196 | n => n, fun | 1 => 2 | 3 => 0 | 4 => 1 | n => n⟩
theorem lays221 : Go.Proofs.Lays.n221 Tryz.prog lays221_ren := {
  mixed := by kernel_rfl
  f138 := Tryz.func133.trans (congrArg some (by kernel_rfl))
  f143 := Tryz.func134.trans (congrArg some (by kernel_rfl))
  f195 := Tryz.func140.trans (congrArg some (by kernel_rfl))
  f197 := Tryz.func141.trans (congrArg some (by kernel_rfl))
  f217 := Tryz.func145.trans (congrArg some (by kernel_rfl))
  f218 := Tryz.func142.trans (congrArg some (by kernel_rfl))
  f219 := Tryz.func143.trans (congrArg some (by kernel_rfl))
  f221 := Tryz.func119.trans (congrArg some (by kernel_rfl))
  f224 := Tryz.func147.trans (congrArg some (by kernel_rfl))
  f225 := Tryz.func146.trans (congrArg some (by kernel_rfl))
  f260 := Tryz.func144.trans (congrArg some (by kernel_rfl))
  f266 := Tryz.func149.trans (congrArg some (by kernel_rfl))
  f267 := Tryz.func148.trans (congrArg some (by kernel_rfl))
  f268 := Tryz.func132.trans (congrArg some (by kernel_rfl))
  f314 := Tryz.func150.trans (congrArg some (by kernel_rfl))
  t0 := Tryz.underlying0
  a0 := Tryz.isAgg0
  z0 := Tryz.sizeOf0
  v0 := Tryz.zeroValue0
  t3 := Tryz.underlying3
  a3 := Tryz.isAgg3
  z3 := Tryz.sizeOf3
  v3 := Tryz.zeroValue3
  t4 := Tryz.underlying4
  a4 := Tryz.isAgg4
  z4 := Tryz.sizeOf4
  v4 := Tryz.zeroValue4
  t5 := Tryz.underlying5
  a5 := Tryz.isAgg5
  z5 := Tryz.sizeOf5
  v5 := Tryz.zeroValue5
  t9 := Tryz.underlying9
  a9 := Tryz.isAgg9
  z9 := Tryz.sizeOf9
  v9 := Tryz.zeroValue9
  t21 := Tryz.underlying21
  a21 := Tryz.isAgg21
  z21 := Tryz.sizeOf21
  v21 := Tryz.zeroValue21
  t31 := Tryz.underlying93
  a31 := Tryz.isAgg93
  z31 := Tryz.sizeOf93
  v31 := Tryz.zeroValue93
  t46 := Tryz.underlying44
  a46 := Tryz.isAgg44
  z46 := Tryz.sizeOf44
  v46 := Tryz.zeroValue44
  t51 := Tryz.underlying196
  a51 := Tryz.isAgg196
  z51 := Tryz.sizeOf196
  v51 := Tryz.zeroValue196
  t105 := Tryz.underlying215
  a105 := Tryz.isAgg215
  z105 := Tryz.sizeOf215
  v105 := Tryz.zeroValue215
  t119 := Tryz.underlying173
  a119 := Tryz.isAgg173
  z119 := Tryz.sizeOf173
  t138 := Tryz.underlying175
  a138 := Tryz.isAgg175
  z138 := Tryz.sizeOf175
  v138 := Tryz.zeroValue175
  t139 := Tryz.underlying176
  a139 := Tryz.isAgg176
  z139 := Tryz.sizeOf176
  v139 := Tryz.zeroValue176
  t146 := Tryz.underlying218
  a146 := Tryz.isAgg218
  z146 := Tryz.sizeOf218
  v146 := Tryz.zeroValue218
  g1 := by kernel_rfl
  g3 := by kernel_rfl
  g4 := by kernel_rfl }
open Go.RowKit Go.Lib in
theorem strings_genSplit (s sep : ByteArray) (sv : Nat) (n : Int) (N : Nat) (m : Int) (w : World) (hs : s.size < 4294967281) (hm : w.cell? ⟨2, 0, none⟩ = some (.int .i64 m)) (h1 : 1 ≤ sep.size) (hsv : sv ≤ sep.size) (hn0 : n ≠ 0) (hn63 : n ≤ 9223372036854775807) (hN : (N : Int) = min (if n < 0 then (Lib.countB s sep : Int) + 1 else n) ((s.size : Int) + 1)) :
    Calls Tryz.prog 119 #[.string s, .string sep, .int .i64 sv, .int .i64 n] w fun e w' =>
      e = .returned (.slice (some ⟨w.heap.size, 0, none⟩) (Lib.splitB sep sv (N - 1) s).length N) ∧ w' = w.alloc (.cells (Lib.cellsOf (Lib.splitB sep sv (N - 1) s) N) 9) := Any.strings_genSplit lays221 (by kernel_rfl) s sep sv n N m w hs hm h1 hsv hn0 hn63 hN
def pieces (s:ByteArray):List ByteArray:=(pcs [] s.data.toList).map fun l=>⟨l.toArray⟩
theorem pieces_len (s:ByteArray):1≤(pieces s).length∧(pieces s).length≤s.size+1:=by
 unfold pieces;rw[List.length_map,←len_data];exact pcs_len _ _
theorem mk_data:∀ (xs:List ByteArray) (L:List (List UInt8)),xs.map (·.data.toList)=L→xs=L.map fun l=>⟨l.toArray⟩
 | [],L,h=>by subst h;rfl
 | x :: t,L,h=>by
  subst h
  rw[List.map_cons,List.map_cons,←mk_data t _ rfl]
theorem splitB_few (s:ByteArray) (h:(pieces s).length≤8):Lib.splitB ⟨#[46]⟩ 0 (min 9 (s.size+1) - 1) s=pieces s:=by
 refine mk_data _ _ ?_
 rw[Lib.splitB_data]
 show Lib.splitK [46] 0 _ _=_
 have hl:=pieces_len s
 unfold pieces at h hl
 rw[List.length_map]at h hl
 exact(splitK_pcs _ _).1 (by omega)
theorem splitB_many (s:ByteArray) (h:8<(pieces s).length):8<(Lib.splitB ⟨#[46]⟩ 0 (min 9 (s.size+1) - 1) s).length:=by
 have hl:=pieces_len s
 unfold pieces at h hl
 rw[List.length_map]at h hl
 have e:(Lib.splitB ⟨#[46]⟩ 0 (min 9 (s.size+1) - 1) s).length=(Lib.splitK [46] 0 (min 9 (s.size+1) - 1) s.data.toList).length:=by
  rw[←List.length_map (f:=fun x:ByteArray=>x.data.toList),Lib.splitB_data]
 rw[e]
 have hk:min 9 (s.size+1) - 1=8:=by omega
 rw[hk]
 by_cases h9:(pcs [] s.data.toList).length≤8+1
 ·rw[(splitK_pcs 8 _).1 h9];exact h
 ·rw[(splitK_pcs 8 _).2 (by omega)];omega

def HeldS (w:World) (g:Nat) (xs:List ByteArray):Prop:=∀ (j:Nat) (x:ByteArray),xs[j]? = some x→w.cell? ⟨g,j,none⟩=some (.string x)
theorem heldS_old {w w':World} {g:Nat} {xs:List ByteArray} (h:HeldS w g xs) (hb:Below w.heap.size w w'):HeldS w' g xs:=by
 intro j z hj
 have hc:=h j z hj
 have hlt:g<w.heap.size:=by
  by_cases hg:g<w.heap.size
  ·exact hg
  ·simp[World.cell?,Array.getElem?_eq_none (Nat.le_of_not_lt hg)]at hc
 rw[hb.cell hlt];exact hc

set_option maxHeartbeats 1000000 in
theorem splitN_any (s:ByteArray) (w:World) (hs:s.size≤4000000000) :
  Calls Tryz.prog 100 #[.string s,.string ⟨#[46]⟩,.int .i64 9] w fun e w'=>
   e=.returned (.slice (some ⟨w.heap.size,0,none⟩) (Lib.splitB ⟨#[46]⟩ 0 (min 9 (s.size+1) - 1) s).length (min 9 (s.size+1)))∧w'=w.alloc (.cells (Lib.cellsOf (Lib.splitB ⟨#[46]⟩ 0 (min 9 (s.size+1) - 1) s) (min 9 (s.size+1))) 9):=by
 have hG:Calls Tryz.prog 119 #[.string s,.string ⟨#[46]⟩,.int .i64 0,.int .i64 9] w fun e w'=>
   e=.returned (.slice (some ⟨w.heap.size,0,none⟩) (Lib.splitB ⟨#[46]⟩ 0 (min 9 (s.size+1) - 1) s).length (min 9 (s.size+1)))∧w'=w.alloc (.cells (Lib.cellsOf (Lib.splitB ⟨#[46]⟩ 0 (min 9 (s.size+1) - 1) s) (min 9 (s.size+1))) 9):=
  Any.strings_genSplit_core lays221 (by kernel_rfl) s ⟨#[46]⟩ 0 9 (min 9 (s.size+1)) w (by omega) (by decide) (by decide)
   (fun x c hx=>(strings_Index_one x 46 _).mono fun e w' ⟨he,hw⟩=>⟨by
    rw[he]
    show _=Ending.returned (Value.int .i64 (Lib.index x.data.toList [46]))
    rw[Lib.index_one],hw⟩)
   ((strings_Count_one s 46 w).mono fun e w' ⟨he,hw⟩=>⟨by
    rw[he]
    show _=Ending.returned (Value.int .i64 ((Lib.count s.data.toList [46]:Nat):Int))
    rw[Lib.count_one];rfl,hw⟩)
   (by decide) (by decide) (by rw[if_neg (by decide)];omega)
 go_enter Tryz.func100,Tryz.ntmps100
 go_wp2_with fail
 refine hG.mono ?_
 rintro e w1 ⟨rfl,hw⟩
 go_wp2_with fail
 go_ret
 exact⟨rfl,rfl⟩

theorem cellsOf_get {xs:List ByteArray} {N j:Nat} {x:ByteArray} (h:xs[j]? = some x):(Lib.cellsOf xs N)[j]? = some (.string x):=by
 have hlt:=(List.getElem?_eq_some_iff.1 h).1
 unfold Lib.cellsOf
 rw[List.getElem?_toArray,List.getElem?_append_left (by simpa using hlt)]
 simp[h]
theorem setSame (w:World) (g j:Nat) (c:Array Value) (t:TypeId) (v:Value) (hg:w.heap[g]? = some (.cells c t (0,0))) (hv:c[j]? = some v):(w.setCell ⟨g,j,none⟩ v).heap[g]? = some (.cells c t (0,0)):=by
 rw[setCell_eq_setRow _ _ _ _ _ _ _ hg]
 rw[setRow_heap w g c _ t _ hg]
 congr 2
 apply Array.ext_getElem?
 intro k
 rw[Array.getElem?_setIfInBounds]
 split
 ·rename_i h
  subst h
  split
  ·exact hv.symm
  ·rename_i h2
   rw[Array.getElem?_eq_none (by omega)]
 ·rfl
def isPlain (x:ByteArray):Bool:=nameOf (runes x)&&!resOf x.toList
theorem alloc_heap (w:World) (o:Obj):(w.alloc o).heap[w.heap.size]? = some o:=by
 show (w.heap.push o)[w.heap.size]? = _
 simp
theorem blk_lt {w:World} {b:Nat} {o:Obj} (h:w.heap[b]? = some o):b<w.heap.size:=(Array.getElem?_eq_some_iff.1 h).1
def allPlain (s:ByteArray):Bool:=(pieces s).all isPlain
theorem plain_of (x:ByteArray):isPlain x=(nameOf (runes x)&&!resOf x.toList):=rfl
theorem all_dropS {l:List ByteArray} {k:Nat} {z:ByteArray} (h:l[k]? = some z) (p:ByteArray→Bool):(l.drop k).all p=(p z&&(l.drop (k+1)).all p):=by
 have hlt:=(List.getElem?_eq_some_iff.1 h).1
 rw[List.drop_eq_getElem_cons hlt,List.all_cons,(List.getElem?_eq_some_iff.1 h).2]
theorem piece_size {s:ByteArray} {x:ByteArray} (h:x∈pieces s):x.size≤s.size:=by
 have:∀ (l cur:List UInt8) (y:List UInt8),y∈pcs cur l→y.length≤cur.length+l.length:=by
  intro l
  induction l with
  | nil=>intro cur y hy;simp[pcs]at hy;subst hy;simp
  | cons b t ih=>
   intro cur y hy
   rw[pcs]at hy
   split at hy
   ·rcases List.mem_cons.1 hy with rfl | hy
    ·simp
    ·have:=ih [] y hy;simp at this ⊢;omega
   ·have:=ih _ y hy;simp at this ⊢;omega
 unfold pieces at h
 rw[List.mem_map]at h
 obtain⟨y,hy,rfl⟩:=h
 have h2:=this s.data.toList [] y hy
 rw[len_data]at h2
 have:(ByteArray.mk y.toArray).size=y.length:=by show y.toArray.size=_;simp
 rw[this];simpa using h2
theorem retI {a b:Int} (h:a=b):Ending.returned (.int .i64 a)=.returned (.int .i64 b):=by rw[h]
set_option maxHeartbeats 1000000 in
theorem scalarR_any (s:ByteArray) (w:World) :
  Calls Tryz.prog 91 #[.string s] w fun e w'=>e=.returned (.int .i64 (scalarOf s.toList))∧w'=w:=by
 go_enter Tryz.func91,Tryz.ntmps91
 go_wp2
 all_goals
  go_ret
  refine⟨retI ?_,rfl⟩
  unfold scalarOf
  simp[*]
set_option maxHeartbeats 1000000 in
theorem reservedR_any (s:ByteArray) (w:World) :
  Calls Tryz.prog 63 #[.string s] w fun e w'=>e=.returned (.bool (resOf s.toList))∧w'=w:=by
 have hS:=fun W=>scalarR_any s W
 unfold resOf
 generalize scalarOf s.toList=k at *
 go_enter Tryz.func63,Tryz.ntmps63
 go_wp2_with (go_at_call 91;refine(hS _).mono ?_;rintro e w' ⟨rfl,rfl⟩)
 all_goals
  go_ret
  refine⟨retB ?_,rfl⟩
  clear hS
  first
   | (simp[*];done)
   | simp_all
end Go.Proofs.YteajlfgbmefncaaGreatDoor
