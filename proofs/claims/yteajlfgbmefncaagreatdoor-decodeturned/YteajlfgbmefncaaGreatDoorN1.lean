/-
  Walks and plain words (ShQ FoM Base Vint Take Fix).
-/
import Derived.Test.YteajlfgbmefncaaGreatDoorN0
import Derived.WalkKit
import Derived.ProofKit
import Derived.Lib.VarintBits
import Derived.Below
import Derived.Lib.BitFns
import Derived.Lib.Varint
import Derived.Laws.Bits64b
import Derived.Test.YteajlfgbmefncaaGreatDoorRows
namespace Go.Proofs.YteajlfgbmefncaaGreatDoor
set_option linter.unusedVariables false

def Seen (s:List Bool) (x:Nat):Prop:=s[x]? = some true
def DoneR (ms:List MD) (s:List Bool) (x:Nat):Prop:=∀ y,Goes ms x y→Seen s y
structure RInv (ms:List MD) (t:Nat) (s:List Bool) (wt:List Nat):Prop where
 len:s.length=ms.length
 reach:∀ x,Seen s x→Relation.TransGen (Goes ms) t x
 not:¬Seen s t
 wait:∀ x∈wt,x<ms.length∧(x=t∨Seen s x)
 done:∀ x,(x=t∨Seen s x)→x∈wt∨DoneR ms s x
structure RIn (ms:List MD) (t:Nat) (s:List Bool) (wt:List Nat) (c:Nat) (fs:List FD) (k:Nat):Prop where
 len:s.length=ms.length
 reach:∀ x,Seen s x→Relation.TransGen (Goes ms) t x
 not:¬Seen s t
 wait:∀ x∈wt,x<ms.length∧(x=t∨Seen s x)
 done:∀ x,(x=t∨Seen s x)→x∈wt∨x=c∨DoneR ms s x
 cur:c=t∨Seen s c
 fields:∃ m,ms[c]? = some m∧m.fields=fs
 part:∀ f∈fs.take k,f.kind=10→f.rep=false→∀ y:Nat,f.type=(y:Int)→Seen s y
theorem rinv_start (ms:List MD) (t:Nat) (ht:t<ms.length):RInv ms t (List.replicate ms.length false) [t]:=by
 have hn:∀ x,¬Seen (List.replicate ms.length false) x:=by
  intro x h
  unfold Seen at h
  rw[List.getElem?_replicate]at h
  split at h <;> cases h
 refine⟨by simp,fun x h=>absurd h (hn x),hn t,?_,?_⟩
 ·intro x hx
  have:x=t:=by simpa using hx
  subst this
  exact⟨ht,.inl rfl⟩
 ·intro x hx
  rcases hx with rfl | h
  ·exact .inl (by simp)
  ·exact absurd h (hn x)
theorem RInv.pop {ms:List MD} {t:Nat} {s:List Bool} {wt:List Nat} {c:Nat} {m:MD} (h:RInv ms t s (wt++[c])) (hm:ms[c]? = some m):RIn ms t s wt c m.fields 0:=by
 refine⟨h.len,h.reach,h.not,fun x hx=>h.wait x (by simp[hx]),?_,(h.wait c (by simp)).2,⟨m,hm,rfl⟩,by simp⟩
 intro x hx
 rcases h.done x hx with h1 | h1
 ·rcases List.mem_append.1 h1 with h2 | h2
  ·exact .inl h2
  ·exact .inr (.inl (by simpa using h2))
 ·exact .inr (.inr h1)
theorem RIn.skip {ms:List MD} {t:Nat} {s:List Bool} {wt:List Nat} {c:Nat} {fs:List FD} {k:Nat} {f:FD} (h:RIn ms t s wt c fs k) (hf:fs[k]? = some f) (hs:f.kind=10→f.rep=false→∀ y:Nat,f.type=(y:Int)→Seen s y):RIn ms t s wt c fs (k+1):=by
 refine⟨h.len,h.reach,h.not,h.wait,h.done,h.cur,h.fields,?_⟩
 intro g hg
 rw[take_snoc hf]at hg
 rcases List.mem_append.1 hg with h1 | h1
 ·exact h.part g h1
 ·have:g=f:=by simpa using h1
  subst this;exact hs
theorem seen_set {s:List Bool} {y x:Nat} (hy:y<s.length):Seen (s.set y true) x↔x=y∨Seen s x:=by
 unfold Seen
 rw[List.getElem?_set]
 by_cases h:y=x
 ·subst h;simp[hy]
 ·rw[if_neg h]
  constructor
  ·exact .inr
  ·rintro(e | e)
   ·exact absurd e.symm h
   ·exact e
theorem RIn.goes {ms:List MD} {t:Nat} {s:List Bool} {wt:List Nat} {c:Nat} {fs:List FD} {k:Nat} {f:FD} {y:Nat} (h:RIn ms t s wt c fs k) (hf:fs[k]? = some f) (h1:f.kind=10) (h2:f.rep=false) (h3:f.type=(y:Int)):Relation.TransGen (Goes ms) t y:=by
 obtain⟨m,hm,rfl⟩:=h.fields
 have hg:Goes ms c y:=⟨m,hm,f,List.mem_of_getElem? hf,h1,h2,h3⟩
 rcases h.cur with rfl | hc
 ·exact .single hg
 ·exact .tail (h.reach c hc) hg
theorem RIn.mark {ms:List MD} {t:Nat} {s:List Bool} {wt:List Nat} {c:Nat} {fs:List FD} {k:Nat} {f:FD} {y:Nat} (h:RIn ms t s wt c fs k) (hf:fs[k]? = some f) (h1:f.kind=10) (h2:f.rep=false) (h3:f.type=(y:Int)) (hy:y<ms.length) (hyt:y≠t) :
  RIn ms t (s.set y true) (wt++[y]) c fs (k+1):=by
 have hyl:y<s.length:=by rw[h.len];exact hy
 have up:∀ x,Seen s x→Seen (s.set y true) x:=fun x hx=>(seen_set hyl).2 (.inr hx)
 refine⟨by simp[h.len],fun x hx=>?_,fun hx=>?_,fun x hx=>?_,fun x hx=>?_,h.cur.imp id (up c),h.fields,?_⟩
 ·rcases(seen_set hyl).1 hx with rfl | hx
  ·exact h.goes hf h1 h2 h3
  ·exact h.reach x hx
 ·rcases(seen_set hyl).1 hx with e | hx
  ·exact hyt e.symm
  ·exact h.not hx
 ·rcases List.mem_append.1 hx with hx | hx
  ·exact⟨(h.wait x hx).1,(h.wait x hx).2.imp id (up x)⟩
  ·have:x=y:=by simpa using hx
   subst this
   exact⟨hy,.inr ((seen_set hyl).2 (.inl rfl))⟩
 ·have old:∀ x,(x=t∨Seen s x)→x∈wt++[y]∨x=c∨DoneR ms (s.set y true) x:=fun x hx=>by
   rcases h.done x hx with h4 | h4 | h4
   ·exact .inl (by simp[h4])
   ·exact .inr (.inl h4)
   ·exact .inr (.inr fun z hz=>up z (h4 z hz))
  rcases hx with e | hx
  ·exact old x (.inl e)
  ·rcases(seen_set hyl).1 hx with e | hx
   ·exact .inl (by simp[e])
   ·exact old x (.inr hx)
 ·intro g hg
  rw[take_snoc hf]at hg
  rcases List.mem_append.1 hg with hg | hg
  ·exact fun a b z hz=>up z (h.part g hg a b z hz)
  ·have:g=f:=by simpa using hg
   subst this
   intro _ _ z hz
   have:z=y:=by rw[h3]at hz;omega
   subst this
   exact(seen_set hyl).2 (.inl rfl)
theorem RIn.fin {ms:List MD} {t:Nat} {s:List Bool} {wt:List Nat} {c:Nat} {fs:List FD} {k:Nat} (h:RIn ms t s wt c fs k) (hk:fs.length≤k):RInv ms t s wt:=by
 refine⟨h.len,h.reach,h.not,h.wait,fun x hx=>?_⟩
 rcases h.done x hx with h1 | rfl | h1
 ·exact .inl h1
 ·right
  intro y hy
  obtain⟨m,hm,rfl⟩:=h.fields
  obtain⟨m',hm',f,hf,h1,h2,h3⟩:=hy
  rw[hm]at hm'
  cases hm'
  exact h.part f (by rw[List.take_of_length_le hk];exact hf) h1 h2 y h3
 ·exact .inr h1
theorem RInv.stop {ms:List MD} {t:Nat} {s:List Bool} (h:RInv ms t s []):¬Ring ms t:=by
 intro hr
 have key:∀ x,Relation.TransGen (Goes ms) t x→Seen s x:=by
  intro x hx
  induction hx with
  | single hg=>
   rcases h.done t (.inl rfl)with h1 | h1
   ·simp at h1
   ·exact h1 _ hg
  | tail _ hg ih=>
   rcases h.done _ (.inr ih)with h1 | h1
   ·simp at h1
   ·exact h1 _ hg
 exact h.not (key t hr)
theorem RIn.found {ms:List MD} {t:Nat} {s:List Bool} {wt:List Nat} {c:Nat} {fs:List FD} {k:Nat} {f:FD} (h:RIn ms t s wt c fs k) (hf:fs[k]? = some f) (h1:f.kind=10) (h2:f.rep=false) (h3:f.type=(t:Int)):Ring ms t:=h.goes hf h1 h2 h3
def uns (s:List Bool):Nat:=(s.filter fun b=>!b).length
theorem uns_set:∀ (s:List Bool) (y:Nat),s[y]? = some false→uns (s.set y true)+1=uns s
 | [],y,h=>by simp at h
 | b :: t,0,h=>by
  have:b=false:=by simpa using h
  subst this
  simp[uns]
 | b :: t,y+1,h=>by
  have:=uns_set t y (by simpa using h)
  unfold uns at this ⊢
  rw[List.set_cons_succ,List.filter_cons,List.filter_cons]
  cases b <;> simp <;> omega
def allB (g:Nat→Bool):Nat→Bool
 | 0=>true
 | n+1=>allB g n&&g n
theorem allB_step {g:Nat→Bool} {j:Nat} (h:allB g j=true) (hx:g j=true):allB g (j+1)=true:=by rw[allB,h,hx];rfl
theorem allB_no {g:Nat→Bool} {j n:Nat} (hx:g j=false) (hn:j<n):allB g n=false:=by
 induction n with
 | zero=>omega
 | succ n ih=>
  rw[allB]
  by_cases h:j=n
  ·subst h;rw[hx,Bool.and_false]
  ·rw[ih (by omega),Bool.false_and]
theorem allB_iff {g:Nat→Bool}:∀ {n:Nat},allB g n=true↔∀ j,j<n→g j=true
 | 0=>by simp[allB]
 | n+1=>by
  rw[allB,Bool.and_eq_true,allB_iff]
  constructor
  ·rintro⟨h1,h2⟩ j hj
   by_cases h:j=n
   ·subst h;exact h2
   ·exact h1 j (by omega)
  ·intro h
   exact⟨fun j hj=>h j (by omega),h n (by omega)⟩
def atB {α:Type} (l:List α) (g:Nat→α→Bool) (k:Nat):Bool:=match l[k]? with
 | some x=>g k x
 | none=>true
theorem atB_some {α:Type} {l:List α} {g:Nat→α→Bool} {k:Nat} {x:α} (h:l[k]? = some x):atB l g k=g k x:=by unfold atB;rw[h]
def allA {α:Type} (l:List α) (g:Nat→α→Bool):Bool:=allB (atB l g) l.length
theorem allA_iff {α:Type} {l:List α} {g:Nat→α→Bool}:allA l g=true↔∀ (k:Nat) (x:α),l[k]? = some x→g k x=true:=by
 unfold allA
 rw[allB_iff]
 constructor
 ·intro h k x hx
  have:=h k (List.getElem?_eq_some_iff.1 hx).1
  rwa [atB_some hx]at this
 ·intro h j hj
  obtain⟨x,hx⟩:∃ x,l[j]? = some x:=⟨_,List.getElem?_eq_getElem hj⟩
  rw[atB_some hx];exact h j x hx
def prevN (fs:List FD):Nat→Int
 | 0=>0
 | k+1=>match fs[k]? with
  | some f=>f.num
  | none=>0
def typB (ne nm:Nat) (f:FD):Bool:=if f.kind=9 then decide (0≤f.type∧f.type<(ne:Int)) else if f.kind=10 then decide (0≤f.type∧f.type<(nm:Int)) else decide (1≤f.kind∧f.kind≤8∧f.type=0)
def namesF (fs:List FD) (k:Nat):List (List UInt8):=(fs.take k).map (·.name)
def goodF (ne nm:Nat) (fs:List FD) (k:Nat) (f:FD):Bool:=decide (prevN fs k<f.num)&&(fnOK f.num&&(plainL f.name&&(!decide (f.name∈namesF fs k)&&typB ne nm f)))
def formF (ne nm:Nat) (fs:List FD):Bool:=allA fs (goodF ne nm fs)
def namesV (vs:List VD) (k:Nat):List (List UInt8):=(vs.take k).map (·.name)
def numsV (vs:List VD) (k:Nat):List Int:=(vs.take k).map (·.num)
def goodV (vs:List VD) (k:Nat) (v:VD):Bool:=numOK v.num&&(!decide (v.num∈numsV vs k)&&(plainL v.name&&!decide (v.name∈namesV vs k)))
def formV (vs:List VD):Bool:=allA vs (goodV vs)
def zeroV (vs:List VD):Bool:=match vs[0]? with
 | some v=>decide (v.num=0)
 | none=>false
def pairsT (ts:List TD) (k:Nat):List (List UInt8 × List UInt8):=(ts.take k).map fun t=>(t.service,t.name)
def inB (nm:Nat) (n:Int):Bool:=decide (0≤n∧n<(nm:Int))
def goodT (nm:Nat) (ts:List TD) (k:Nat) (t:TD):Bool:=decide (t.id=(k:Int)+1)&&(plainL t.service&&(plainL t.name&&(!decide ((t.service,t.name)∈pairsT ts k)&&(inB nm t.inp&&inB nm t.out))))
def formT (nm:Nat) (ts:List TD):Bool:=allA ts (goodT nm ts)
def namesS (s:SC):List (List UInt8):=s.ms.map (·.name)++s.es.map (·.name)
def goodN (ns:List (List UInt8)) (k:Nat) (x:List UInt8):Bool:=pathOK x&&!decide (x∈ns.take k)
def formN (ns:List (List UInt8)):Bool:=allA ns (goodN ns)
def goodM (ne nm:Nat) (k:Nat) (m:MD):Bool:=decide (m.fields.length≤32)&&formF ne nm m.fields
def formM (ne nm:Nat) (ms:List MD):Bool:=allA ms (goodM ne nm)
def goodE (k:Nat) (e:ED):Bool:=zeroV e.values&&formV e.values
def formE (es:List ED):Bool:=allA es goodE
def lenB (s:SC):Bool:=decide (s.ms.length≤64∧s.es.length≤64∧s.ts.length≤64)
def formS (s:SC):Bool:=lenB s&&(formN (namesS s)&&(formM s.es.length s.ms.length s.ms&&(formE s.es&&formT s.ms.length s.ts)))
def FormS (s:SC):Prop:=formS s=true∧∀ i,i<s.ms.length→¬Ring s.ms i
theorem namesF_step {fs:List FD} {k:Nat} {f:FD} (h:fs[k]? = some f):namesF fs (k+1)=namesF fs k++[f.name]:=by unfold namesF;rw[take_snoc h,List.map_append];rfl
theorem namesV_step {fs:List VD} {k:Nat} {f:VD} (h:fs[k]? = some f):namesV fs (k+1)=namesV fs k++[f.name]:=by unfold namesV;rw[take_snoc h,List.map_append];rfl
theorem numsV_step {fs:List VD} {k:Nat} {f:VD} (h:fs[k]? = some f):numsV fs (k+1)=numsV fs k++[f.num]:=by unfold numsV;rw[take_snoc h,List.map_append];rfl
theorem pairsT_step {fs:List TD} {k:Nat} {f:TD} (h:fs[k]? = some f):pairsT fs (k+1)=pairsT fs k++[(f.service,f.name)]:=by unfold pairsT;rw[take_snoc h,List.map_append];rfl
theorem prevN_step {fs:List FD} {k:Nat} {f:FD} (h:fs[k]? = some f):prevN fs (k+1)=f.num:=by rw[prevN,h]
theorem namesF_len (fs:List FD) (k:Nat):(namesF fs k).length≤k:=by unfold namesF;rw[List.length_map,List.length_take];omega
theorem namesV_len (fs:List VD) (k:Nat):(namesV fs k).length≤k:=by unfold namesV;rw[List.length_map,List.length_take];omega
theorem numsV_len (fs:List VD) (k:Nat):(numsV fs k).length≤k:=by unfold numsV;rw[List.length_map,List.length_take];omega
theorem pairsT_len (fs:List TD) (k:Nat):(pairsT fs k).length≤k:=by unfold pairsT;rw[List.length_map,List.length_take];omega
open Go.ChangeShapes Go.WideShapes Go.ChangeAt Go.RowKit
theorem ret_int {k:IntKind} {a b:Int} (h:a=b):Ending.returned (.int k a)=.returned (.int k b):=by rw[h]
theorem bd_i64 {a:Int} (w:(Lit.int .i64 a).wf=true):-9223372036854775808≤a∧a≤9223372036854775807:=by
 simpa [Lit.wf,IntKind.min,IntKind.max,IntKind.bits,IntKind.signed]using w
theorem bd_u64 {a:Int} (w:(Lit.int .u64 a).wf=true):0≤a∧a≤18446744073709551615:=by
 simpa [Lit.wf,IntKind.min,IntKind.max,IntKind.bits,IntKind.signed]using w
theorem bd_u8 {a:Int} (w:(Lit.int .u8 a).wf=true):0≤a∧a≤255:=by
 simpa [Lit.wf,IntKind.min,IntKind.max,IntKind.bits,IntKind.signed]using w

def Held (w:World) (b off:Nat) (zs:List Int):Prop:=
 (∀ j z,zs[j]? = some z→w.cell? ⟨b,off+j,none⟩=some (.int .u8 z))∧∀ z∈zs,0≤z∧z≤255

def IsB (w:World) (a:Option Addr) (len:Nat) (zs:List Int):Prop:=
 zs.length=len∧len≤281474976710656∧(zs=[]∨∃ b off,a=some ⟨b,off,none⟩∧Held w b off zs)

theorem held_at {w:World} {b off:Nat} {zs:List Int} (h:Held w b off zs) {k:Nat} (hk:k<zs.length) :
  ∃ z,w.cell? ⟨b,off+k,none⟩=some (.int .u8 z)∧0≤z∧z≤255∧zs.drop k=z :: zs.drop (k+1)∧zs[k]? = some z:=by
 refine⟨zs[k],h.1 k _ (List.getElem?_eq_getElem hk),(h.2 _ (List.getElem_mem hk)).1,(h.2 _ (List.getElem_mem hk)).2,List.drop_eq_getElem_cons hk,List.getElem?_eq_getElem hk⟩

theorem isB_at {w:World} {a:Option Addr} {len:Nat} {zs:List Int} (h:IsB w a len zs) {k:Nat} (hk:k<len) :
  ∃ b off z,a=some ⟨b,off,none⟩∧w.cell? ⟨b,off+k,none⟩=some (.int .u8 z)∧0≤z∧z≤255∧zs.drop k=z :: zs.drop (k+1)∧zs[k]? = some z:=by
 obtain⟨hl,_,rfl | ⟨b,off,rfl,hh⟩⟩:=h
 ·simp at hl;omega
 ·obtain⟨z,h1,h2,h3,h4,h5⟩:=held_at hh (show k<zs.length by omega)
  exact⟨b,off,z,rfl,h1,h2,h3,h4,h5⟩

def dec (X:Int) (k:Nat):List Int→Int × Int × Int
 | []=>(0,0,5)
 | z :: zs=>if k=9∧1<z then (0,0,2) else
   if z<128 then (bits .or .u64 X (IntKind.u64.wrap (z % 128*2 ^ (7*k))),(k:Int)+1,0)
   else dec (bits .or .u64 X (IntKind.u64.wrap (z % 128*2 ^ (7*k)))) (k+1) zs

theorem dec_nil (X:Int) (k:Nat):dec X k []=(0,0,5):=rfl
theorem dec_form (X:Int) (k:Nat) (z:Int) (zs:List Int) (h:k=9) (h1:1<z):dec X k (z :: zs)=(0,0,2):=by
 unfold dec;rw[if_pos ⟨h,h1⟩]
theorem dec_end (X:Int) (k:Nat) (z:Int) (zs:List Int) (h:¬(k=9∧1<z)) (h1:z<128) :
  dec X k (z :: zs)=(bits .or .u64 X (IntKind.u64.wrap (z % 128*2 ^ (7*k))),(k:Int)+1,0):=by
 unfold dec;rw[if_neg h,if_pos h1]
theorem dec_on (X:Int) (k:Nat) (z:Int) (zs:List Int) (h:¬(k=9∧1<z)) (h1:128≤z) :
  dec X k (z :: zs)=dec (bits .or .u64 X (IntKind.u64.wrap (z % 128*2 ^ (7*k)))) (k+1) zs:=by
 rw[dec,if_neg h,if_neg (by omega)]
theorem dec_nine (X:Int) (z:Int) (zs:List Int) (h0:0≤z) (h1:¬1<z) :
  dec X 9 (z :: zs)=(bits .or .u64 X (z % 128*9223372036854775808),10,0):=by
 rw[dec_end _ _ _ _ (by omega) (by omega)]
 have e:IntKind.u64.wrap (z % 128*2 ^ (7*9))=z % 128*9223372036854775808:=by
  rw[IntKind.wrap_u64];omega
 rw[e];rfl
theorem ret_dec {p:Int × Int × Int} {n k e:Int} (h:p=(n,k,e)) :
  Ending.returned (.tuple #[.int .u64 n,.int .i64 k,.int .i64 e])=.returned (.tuple #[.int .u64 p.1,.int .i64 p.2.1,.int .i64 p.2.2]):=by subst h;rfl
def vintF:Nat→Nat→List Int
 | 0,n=>[(n:Int)]
 | f+1,n=>if n<128 then [(n:Int)] else ((n % 128+128:Nat):Int) :: vintF f (n / 128)
def vint (n:Nat):List Int:=vintF n n
theorem vintF_enough:∀ (f g n:Nat),n≤f→n≤g→vintF f n=vintF g n
 | 0,0,n,_,_=>rfl
 | 0,g+1,n,hf,_=>by
  have:n<128:=by omega
  rw[vintF,vintF,if_pos this]
 | f+1,0,n,_,hg=>by
  have:n<128:=by omega
  rw[vintF,vintF,if_pos this]
 | f+1,g+1,n,hf,hg=>by
  rw[vintF,vintF]
  by_cases h:n<128
  ·rw[if_pos h,if_pos h]
  ·rw[if_neg h,if_neg h,vintF_enough f g (n / 128) (by omega) (by omega)]
theorem vint_small {n:Nat} (h:n<128):vint n=[(n:Int)]:=by
 unfold vint
 rw[vintF_enough n (n+1) n (Nat.le_refl _) (by omega),vintF,if_pos h]
theorem vint_big {n:Nat} (h:128≤n):vint n=((n % 128+128:Nat):Int) :: vint (n / 128):=by
 unfold vint
 rw[vintF_enough n (n+1) n (Nat.le_refl _) (by omega),vintF,if_neg (by omega),vintF_enough n (n / 128) (n / 128) (by omega) (Nat.le_refl _)]

theorem vint_bytes (n:Nat):∀ z∈vint n,0≤z∧z≤255:=by
 induction n using Nat.strongRecOn with
 | _ n ih=>
  intro z hz
  by_cases h:n<128
  ·rw[vint_small h]at hz;simp at hz;omega
  ·rw[vint_big (by omega)]at hz
   rcases List.mem_cons.1 hz with rfl | hz
   ·omega
   ·exact ih (n / 128) (by omega) z hz
theorem vint_pos (n:Nat):1≤(vint n).length:=by
 by_cases h:n<128
 ·rw[vint_small h];simp
 ·rw[vint_big (by omega)];simp
theorem vint_length:∀ (k n:Nat),n<128 ^ (k+1)→(vint n).length≤k+1
 | 0,n,h=>by rw[vint_small (by simpa using h)];simp
 | k+1,n,h=>by
  by_cases hx:n<128
  ·rw[vint_small hx];simp
  ·rw[vint_big (by omega),List.length_cons]
   have:=vint_length k (n / 128) (by rw[Nat.pow_succ]at h;exact Nat.div_lt_of_lt_mul (by rw[Nat.mul_comm];exact h))
   omega
theorem vint_ten {n:Nat} (h:n≤18446744073709551615):(vint n).length≤10:=
 vint_length 9 n (Nat.lt_of_le_of_lt h (by decide))

theorem bitLen_small:∀ m:Fin 128,m.val≠0→1≤Lib.bitLen m.val∧Lib.bitLen m.val≤7:=by decide +kernel
theorem size_vint (m:Nat):m≠0→m<2 ^ 64→(Lib.bitLen m+6) / 7=(vint m).length:=by
 induction m using Nat.strongRecOn with
 | _ m ih=>
  intro h0 h64
  by_cases h:m<128
  ·have:1≤Lib.bitLen m∧Lib.bitLen m≤7:=bitLen_small ⟨m,h⟩ h0
   rw[vint_small h]
   simp only[List.length_singleton]
   omega
  ·rw[vint_big (by omega),List.length_cons,←ih (m / 128) (by omega) (by omega) (by omega)]
   have:=Lib.bitLen_shift 7 m (by omega) h64
   rw[this,show (2:Nat) ^ 7=128 by decide]
   omega
theorem or_one (n:Nat):(n ||| 1)=n / 2*2+1:=by
 have h1:(n ||| 1) / 2=n / 2:=by rw[Nat.or_div_two];simp
 have h2:(n ||| 1) % 2=1:=Nat.or_mod_two_eq_one.2 (.inr rfl)
 omega
theorem vint_odd (n:Nat):(vint (n / 2*2+1)).length=(vint n).length:=by
 by_cases h:n<128
 ·rw[vint_small h,vint_small (by omega)];rfl
 ·rw[vint_big (n:=n / 2*2+1) (by omega),vint_big (n:=n) (by omega),List.length_cons,List.length_cons,show (n / 2*2+1) / 128=n / 128 by omega]
theorem size_of (n:Nat) (h:n≤18446744073709551615):(Lib.bitLen (n ||| 1)+6) / 7=(vint n).length:=by
 rw[or_one,size_vint _ (by omega) (by omega),vint_odd]

theorem or_step (X:Nat) (k z:Nat) (hX:X<2 ^ (7*k)) (hk:k≤9) (hz:z<128) (h9:k=9→z≤1) :
  bits .or .u64 (X:Int) (IntKind.u64.wrap ((z:Int) % 128*2 ^ (7*k)))=((X+z*2 ^ (7*k):Nat):Int)∧X+z*2 ^ (7*k)<2 ^ 64:=by
 have hp:0<2 ^ (7*k):=Nat.two_pow_pos _
 have hb:X+z*2 ^ (7*k)<2 ^ 64:=by
  by_cases h:k=9
  ·subst h
   have:=h9 rfl
   have hz01:z=0∨z=1:=by omega
   rcases hz01 with rfl | rfl <;> omega
  ·have h1:X+z*2 ^ (7*k)<2 ^ (7*k)*128:=by
    have:z*2 ^ (7*k)≤127*2 ^ (7*k):=Nat.mul_le_mul_right _ (by omega)
    omega
   have h2:2 ^ (7*k)*128≤2 ^ 63:=by
    rw[show 128=2 ^ 7 by decide,←Nat.pow_add]
    exact Nat.pow_le_pow_right (by decide) (by omega)
   omega
 refine⟨?_,hb⟩
 have e:(z:Int) % 128*2 ^ (7*k)=((z*2 ^ (7*k):Nat):Int):=by
  rw[Int.emod_eq_of_lt (by omega) (by omega)];simp
 rw[e]
 have hnn:(0:Int)≤((z*2 ^ (7*k):Nat):Int):=by omega
 have hu:((z*2 ^ (7*k):Nat):Int)<2 ^ 64:=by
  have:z*2 ^ (7*k)<2 ^ 64:=by omega
  exact_mod_cast this
 rw[wraps_u64 _ hnn hu]
 have hX':(X:Int)<2 ^ (7*k):=by exact_mod_cast hX
 have hX64:(X:Int)<2 ^ 64:=by
  have:X<2 ^ 64:=by omega
  exact_mod_cast this
 rw[bits_join_low .u64 64 (by decide) wraps_u64 (7*k) _ _ (by omega) hX' hX64 hnn (by
  have:(((z*2 ^ (7*k):Nat)):Int)=(z:Int)*2 ^ (7*k):=by simp
  rw[this];exact Int.mul_emod_left _ _) hu]
 omega

theorem dec_ok:∀ (zs:List Int) (X k:Nat) (N K:Int),(∀ z∈zs,0≤z∧z≤255)→X<2 ^ (7*k)→k≤9→dec (X:Int) k zs=(N,K,0)→
  0≤N∧N≤18446744073709551615∧(k:Int)<K∧K≤k+zs.length∧K≤10
 | [],X,k,N,K,_,_,_,h=>by rw[dec_nil]at h;simp at h
 | z :: zs,X,k,N,K,hb,hX,hk,h=>by
  have hz:=hb z List.mem_cons_self
  have hp:0<2 ^ (7*k):=Nat.two_pow_pos _
  by_cases hf:k=9∧1<z
  ·rw[dec_form _ _ _ _ hf.1 hf.2]at h;simp at h
  ·obtain⟨y,rfl⟩:=Int.eq_ofNat_of_zero_le hz.1
   by_cases h1:(y:Int)<128
   ·have hs:=or_step X k y hX hk (by omega) (by omega)
    rw[dec_end _ _ _ _ hf h1,hs.1]at h
    simp only[Prod.mk.injEq]at h
    rw[List.length_cons]
    omega
   ·have hs:=or_step X k (y % 128) hX hk (by omega) (by omega)
    have e:((y:Int)) % 128=((y % 128:Nat):Int) % 128:=by omega
    rw[dec_on _ _ _ _ hf (by omega),e,hs.1]at h
    have hq:2 ^ (7*(k+1))=2 ^ (7*k)*128:=by rw[show 7*(k+1)=7*k+7 by omega,Nat.pow_add]
    have hm:y % 128*2 ^ (7*k)≤127*2 ^ (7*k):=Nat.mul_le_mul_right _ (by omega)
    have:=dec_ok zs (X+y % 128*2 ^ (7*k)) (k+1) N K (fun z hz=>hb z (List.mem_cons_of_mem _ hz)) (by rw[hq];omega) (by omega) h
    rw[List.length_cons]
    omega
set_option maxHeartbeats 1000000 in
theorem take_any (a:Option Addr) (len cap:Nat) (zs:List Int) (w:World) (hB:IsB w a len zs) :
  Calls Tryz.prog 121 #[.slice a len cap] w fun e w'=>
   e=.returned (.tuple #[.int .u64 (dec 0 0 zs).1,.int .i64 (dec 0 0 zs).2.1,.int .i64 (dec 0 0 zs).2.2])∧w'=w:=by
 have hmax:len≤281474976710656:=hB.2.1
 have HB:Hid (IsB w a len zs):=hB
 clear hB
 go_enter Tryz.func121,Tryz.ntmps121
 go_wp2
 go_loop [5,6] (fun x i=>∃ (k:Nat) (X:Int),k≤len∧k≤9∧i=.int .i64 k∧x=.int .u64 X∧dec 0 0 zs=dec X k (zs.drop k)) (fun _ i=>len - (intOf i).toNat)
 case atStart=>exact⟨0,0,by omega,by omega,rfl,rfl,rfl⟩
 case round=>
  obtain⟨k,X,hk,hk9,rfl,rfl,hd⟩:=hrel
  have HD:Hid (dec 0 0 zs=dec X k (zs.drop k)):=hd
  clear hd
  by_cases hlt:k<len
  ·obtain⟨b,off,z,rfl,hcell,hz0,hz1,hdr,_⟩:=isB_at HB.out hlt
   have HE:Hid (dec 0 0 zs=dec X k (z :: zs.drop (k+1))):=by rw[←hdr];exact HD.out
   clear hdr HD HB
   have hmask:=u8_and127 z hz0 (by omega)
   by_cases h9:k=9
   ·subst h9
    by_cases h1:1<z
    ·have HV:Hid (dec 0 0 zs=(0,0,2)):=HE.out.trans (dec_form _ _ _ _ rfl h1)
     clear HE
     go_wp2
     go_ret3
     exact⟨ret_dec HV.out,rfl⟩
    ·have HV:Hid (dec 0 0 zs=(bits .or .u64 X (z % 128*9223372036854775808),10,0)):=HE.out.trans (dec_nine _ _ _ hz0 h1)
     clear HE
     go_wp2
     go_ret3
     exact⟨ret_dec HV.out,rfl⟩
   ·by_cases h1:z<128
    ·have HV:Hid (dec 0 0 zs=(bits .or .u64 X (IntKind.u64.wrap (z % 128*2 ^ (7*k))),(k:Int)+1,0)):=HE.out.trans (dec_end _ _ _ _ (by omega) h1)
     clear HE
     go_wp2
     go_ret3
     exact⟨ret_dec HV.out,rfl⟩
    ·have HV:Hid (dec 0 0 zs=dec (bits .or .u64 X (IntKind.u64.wrap (z % 128*2 ^ (7*k)))) (k+1) (zs.drop (k+1))):=HE.out.trans (dec_on _ _ _ _ (by omega) (by omega))
     clear HE
     go_wp2
     go_round
     case rel=>exact⟨k+1,_,by omega,by omega,by go_num,rfl,HV.out⟩
     case measure=>simp[intOf];omega
  ·have HV:Hid (dec 0 0 zs=(0,0,5)):=by
    refine(?_:dec 0 0 zs=(0,0,5))
    rw[HD.out,List.drop_eq_nil_of_le (by have:=HB.out.1;omega)];rfl
   clear HD HB
   go_wp2
   go_ret3
   exact⟨ret_dec HV.out,rfl⟩
set_option maxHeartbeats 1000000 in
theorem takeRB_any (a:Option Addr) (len cap:Nat) (zs:List Int) (w:World) (hB:IsB w a len zs) :
  Calls Tryz.prog 92 #[.slice a len cap] w fun e w'=>
   e=.returned (.tuple #[.int .u64 (dec 0 0 zs).1,.int .i64 (dec 0 0 zs).2.1,.int .i64 (dec 0 0 zs).2.2])∧w'=w:=by
 have hmax:len≤281474976710656:=hB.2.1
 have HB:Hid (IsB w a len zs):=hB
 clear hB
 go_enter Tryz.func92,Tryz.ntmps92
 go_wp2
 go_loop [5,9] (fun x i=>∃ (k:Nat) (X:Int),k≤len∧k≤9∧i=.int .i64 k∧x=.int .u64 X∧dec 0 0 zs=dec X k (zs.drop k)) (fun _ i=>len - (intOf i).toNat)
 case atStart=>exact⟨0,0,by omega,by omega,rfl,rfl,rfl⟩
 case round=>
  obtain⟨k,X,hk,hk9,rfl,rfl,hd⟩:=hrel
  have HD:Hid (dec 0 0 zs=dec X k (zs.drop k)):=hd
  clear hd
  by_cases hlt:k<len
  ·obtain⟨b,off,z,rfl,hcell,hz0,hz1,hdr,_⟩:=isB_at HB.out hlt
   have HE:Hid (dec 0 0 zs=dec X k (z :: zs.drop (k+1))):=by rw[←hdr];exact HD.out
   clear hdr HD HB
   have hmask:=u8_and127 z hz0 (by omega)
   by_cases h9:k=9
   ·subst h9
    by_cases h1:1<z
    ·have HV:Hid (dec 0 0 zs=(0,0,2)):=HE.out.trans (dec_form _ _ _ _ rfl h1)
     clear HE
     go_wp2
     go_ret3
     exact⟨ret_dec HV.out,rfl⟩
    ·have HV:Hid (dec 0 0 zs=(bits .or .u64 X (z % 128*9223372036854775808),10,0)):=HE.out.trans (dec_nine _ _ _ hz0 h1)
     clear HE
     go_wp2
     go_ret3
     exact⟨ret_dec HV.out,rfl⟩
   ·by_cases h1:z<128
    ·have HV:Hid (dec 0 0 zs=(bits .or .u64 X (IntKind.u64.wrap (z % 128*2 ^ (7*k))),(k:Int)+1,0)):=HE.out.trans (dec_end _ _ _ _ (by omega) h1)
     clear HE
     go_wp2
     go_ret3
     exact⟨ret_dec HV.out,rfl⟩
    ·have HV:Hid (dec 0 0 zs=dec (bits .or .u64 X (IntKind.u64.wrap (z % 128*2 ^ (7*k)))) (k+1) (zs.drop (k+1))):=HE.out.trans (dec_on _ _ _ _ (by omega) (by omega))
     clear HE
     go_wp2
     go_round
     case rel=>exact⟨k+1,_,by omega,by omega,by go_num,rfl,HV.out⟩
     case measure=>simp[intOf];omega
  ·have HV:Hid (dec 0 0 zs=(0,0,5)):=by
    refine(?_:dec 0 0 zs=(0,0,5))
    rw[HD.out,List.drop_eq_nil_of_le (by have:=HB.out.1;omega)];rfl
   clear HD HB
   go_wp2
   go_ret3
   exact⟨ret_dec HV.out,rfl⟩
def low:List Int→Int
 | []=>0
 | z :: zs=>z+256*low zs
theorem low_snoc (l:List Int) (z:Int):low (l++[z])=low l+z*2 ^ (8*l.length):=by
 induction l with
 | nil=>simp[low]
 | cons a l ih=>
  simp only[List.cons_append,low,ih,List.length_cons]
  rw[show 8*(l.length+1)=8*l.length+8 by omega,Int.pow_add]
  rw[Int.mul_add,show z*(2 ^ (8*l.length)*2 ^ 8)=256*(z*2 ^ (8*l.length))by
   rw[show (2:Int) ^ 8=256 by decide,←Int.mul_assoc,Int.mul_comm _ 256]]
  omega
theorem low_bd (l:List Int) (h:∀ z∈l,0≤z∧z≤255):0≤low l∧low l<2 ^ (8*l.length):=by
 induction l with
 | nil=>simp[low]
 | cons a l ih=>
  have h1:=ih (fun z hz=>h z (List.mem_cons_of_mem _ hz))
  have h2:=h a List.mem_cons_self
  simp only[low,List.length_cons]
  rw[show 8*(l.length+1)=8*l.length+8 by omega,Int.pow_add,show (2:Int) ^ 8=256 by decide]
  omega
theorem low_step (l:List Int) (z:Int) (h:∀ z∈l,0≤z∧z≤255) (h8:l.length≤7) (h0:0≤z) (h1:z≤255) :
  bits .or .u64 (low l) (IntKind.u64.wrap (z*2 ^ (8*l.length)))=low (l++[z]):=by
 have hb:=low_bd l h
 rw[low_snoc]
 have hp:(0:Int)<2 ^ (8*l.length):=Int.pow_pos (by decide)
 have hu:z*2 ^ (8*l.length)<2 ^ 64:=by
  have e:(2:Int) ^ 64=2 ^ (8*(7 - l.length))*256*2 ^ (8*l.length):=by
   rw[show (256:Int)=2 ^ 8 by decide,←Int.pow_add,←Int.pow_add];congr 1;omega
  rw[e]
  apply Int.mul_lt_mul_of_pos_right _ hp
  have:(0:Int)<2 ^ (8*(7 - l.length)):=Int.pow_pos (by decide)
  omega
 have hl:low l<2 ^ 64:=by
  refine Int.lt_of_lt_of_le hb.2 ?_
  have:2 ^ (8*l.length)≤2 ^ 64:=Nat.pow_le_pow_right (by decide) (by omega)
  exact_mod_cast this
 have hnn:0≤z*2 ^ (8*l.length):=Int.mul_nonneg h0 (Int.le_of_lt hp)
 rw[wraps_u64 _ hnn hu]
 exact bits_join_low .u64 64 (by decide) wraps_u64 (8*l.length) _ _ hb.1 hb.2 hl hnn (Int.mul_emod_left _ _) hu

theorem take_snoc_at {zs:List Int} {k:Nat} {z:Int} (h:zs[k]? = some z):zs.take (k+1)=zs.take k++[z]:=by
 rw[List.take_add_one,h];rfl
theorem low_round {w:World} {a:Option Addr} {len:Nat} {zs:List Int} (hB:IsB w a len zs) {k:Nat} {z:Int} (hk:k<len) (h7:k≤7) (h:zs[k]? = some z) (h0:0≤z) (h1:z≤255) :
  bits .or .u64 (low (zs.take k)) (IntKind.u64.wrap (z*2 ^ (8*k)))=low (zs.take (k+1)):=by
 have hl:(zs.take k).length=k:=by have:=hB.1;simp;omega
 have hm:∀ x∈zs.take k,0≤x∧x≤255:=by
  intro x hx
  obtain⟨_,_,rfl | ⟨b,off,_,hh⟩⟩:=hB
  ·simp at hx
  ·exact hh.2 x (List.mem_of_mem_take hx)
 rw[take_snoc_at h]
 have:=low_step (zs.take k) z hm (by omega) h0 h1
 rw[hl]at this
 exact this
theorem isB_take {w:World} {a:Option Addr} {len:Nat} {zs:List Int} (hB:IsB w a len zs) (k:Nat) (hk:k≤len):IsB w a k (zs.take k):=by
 obtain⟨h1,h2,h3⟩:=hB
 refine⟨by simp;omega,by omega,?_⟩
 rcases h3 with rfl | ⟨b,off,rfl,hh⟩
 ·exact .inl (by simp)
 ·refine .inr ⟨b,off,rfl,?_,?_⟩
  ·intro j z hj
   refine hh.1 j z ?_
   rw[List.getElem?_take]at hj
   split at hj
   ·exact hj
   ·simp at hj
  ·intro z hz
   exact hh.2 z (List.mem_of_mem_take hz)

theorem low4_bd {w:World} {a:Option Addr} {len:Nat} {zs:List Int} (hB:IsB w a len zs) (hl:4≤len):0≤low (zs.take 4)∧low (zs.take 4)≤4294967295:=by
 obtain⟨h1,h2,h3⟩:=isB_take hB 4 hl
 have h4:∀ z∈zs.take 4,0≤z∧z≤255:=by
  rcases h3 with h3 | ⟨b,off,_,hh⟩
  ·rw[h3];simp
  ·exact hh.2
 have:=low_bd _ h4
 rw[h1]at this
 omega

set_option maxHeartbeats 1000000 in
theorem fixed_any (a:Option Addr) (len cap:Nat) (zs:List Int) (s:Nat) (w:World) (hB:IsB w a len zs) (hs:s≤8) (hl:s≤len) :
  Calls Tryz.prog 137 #[.slice a len cap,.int .i64 s] w fun e w'=>
   e=.returned (.tuple #[.int .u64 (low (zs.take s)),.int .i64 0])∧w'=w:=by
 have hmax:len≤281474976710656:=hB.2.1
 have HB:Hid (IsB w a len zs):=hB
 clear hB
 go_enter Tryz.func137,Tryz.ntmps137
 go_wp2
 go_loop [6,13] (fun x i=>∃ (k:Nat),k≤s∧i=.int .i64 k∧x=.int .u64 (low (zs.take k))) (fun _ i=>s - (intOf i).toNat)
 case atStart=>exact⟨0,by omega,rfl,rfl⟩
 case round=>
  obtain⟨k,hk,rfl,rfl⟩:=hrel
  by_cases hlt:k<s
  ·obtain⟨b,off,z,rfl,hcell,hz0,hz1,_,hat⟩:=isB_at HB.out (show k<len by omega)
   have HR:Hid _:=low_round HB.out (show k<len by omega) (by omega) hat hz0 hz1
   clear hat HB
   generalize low (zs.take k)=X at *
   go_wp2
   go_round
   case rel=>exact⟨k+1,by omega,by go_num,by rw[←HR.out]⟩
   case measure=>simp[intOf];omega
  ·obtain rfl:k=s:=by omega
   go_wp2
   go_ret2
   exact⟨rfl,rfl⟩
set_option maxHeartbeats 1000000 in
theorem fixed_none (a:Option Addr) (len cap:Nat) (s:Nat) (w:World) (hl:¬s≤len) :
  Calls Tryz.prog 137 #[.slice a len cap,.int .i64 s] w fun e w'=>
   e=.returned (.tuple #[.int .u64 0,.int .i64 5])∧w'=w:=by
 go_enter Tryz.func137,Tryz.ntmps137
 go_wp2
 go_ret2
 exact⟨rfl,rfl⟩
set_option maxHeartbeats 1000000 in
theorem take32_any (a:Option Addr) (len cap:Nat) (zs:List Int) (w:World) (hB:IsB w a len zs) (hl:4≤len) :
  Calls Tryz.prog 123 #[.slice a len cap] w fun e w'=>
   e=.returned (.tuple #[.int .u32 (low (zs.take 4)),.int .i64 0])∧w'=w:=by
 have hr:=low4_bd hB hl
 have HB:Hid (IsB w a len zs):=hB
 clear hB
 go_enter Tryz.func123,Tryz.ntmps123
 go_wp2_with fail
 refine(fixed_any _ _ _ zs 4 _ HB.out (by omega) hl).mono ?_
 rintro e w' ⟨rfl,rfl⟩
 go_wp2_with fail
 go_ret2
 exact⟨rfl,rfl⟩
set_option maxHeartbeats 1000000 in
theorem take32_none (a:Option Addr) (len cap:Nat) (w:World) (hl:¬4≤len) :
  Calls Tryz.prog 123 #[.slice a len cap] w fun e w'=>
   e=.returned (.tuple #[.int .u32 0,.int .i64 5])∧w'=w:=by
 go_enter Tryz.func123,Tryz.ntmps123
 go_wp2_with fail
 refine(fixed_none _ _ _ 4 _ hl).mono ?_
 rintro e w' ⟨rfl,rfl⟩
 go_wp2_with fail
 go_ret2
 exact⟨rfl,rfl⟩
set_option maxHeartbeats 1000000 in
theorem take64_any (a:Option Addr) (len cap:Nat) (zs:List Int) (w:World) (hB:IsB w a len zs) (hl:8≤len) :
  Calls Tryz.prog 122 #[.slice a len cap] w fun e w'=>
   e=.returned (.tuple #[.int .u64 (low (zs.take 8)),.int .i64 0])∧w'=w:=by
 have HB:Hid (IsB w a len zs):=hB
 clear hB
 go_enter Tryz.func122,Tryz.ntmps122
 go_wp2_with fail
 refine(fixed_any _ _ _ zs 8 _ HB.out (by omega) hl).mono ?_
 rintro e w' ⟨rfl,rfl⟩
 go_wp2_with fail
 go_ret2
 exact⟨rfl,rfl⟩
set_option maxHeartbeats 1000000 in
theorem take64_none (a:Option Addr) (len cap:Nat) (w:World) (hl:¬8≤len) :
  Calls Tryz.prog 122 #[.slice a len cap] w fun e w'=>
   e=.returned (.tuple #[.int .u64 0,.int .i64 5])∧w'=w:=by
 go_enter Tryz.func122,Tryz.ntmps122
 go_wp2_with fail
 refine(fixed_none _ _ _ 8 _ hl).mono ?_
 rintro e w' ⟨rfl,rfl⟩
 go_wp2_with fail
 go_ret2
 exact⟨rfl,rfl⟩
end Go.Proofs.YteajlfgbmefncaaGreatDoor
