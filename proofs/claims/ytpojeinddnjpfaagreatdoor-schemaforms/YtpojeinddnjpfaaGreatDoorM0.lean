/-
  Walks and plain words (Cel Rn Enc RsM PcM LxM LxF LxR LxS).
-/
import Derived.WalkKit
import Derived.Lib.Hide
import Derived.ProofKit
import Derived.Below
import Derived.Laws.RangeAny
import Derived.Laws.IdiomStrings
import Derived.Lib.Strings
import Derived.Lib.RuneBytes
import Derived.Lib.RuneCount
import Derived.Lib.Split
import Derived.Lib.IndexMore
import Derived.Lib.TrimUEq
import Derived.Lib.MapLaws
import Derived.Lib.TrimAscii
namespace Go.Proofs.YtpojeinddnjpfaaGreatDoor
theorem aA {w : World} {B : Nat} {cs : Array Value} {T : TypeId} {fr : Nat × Nat} {v : Value} (h : w.heap[B]? = some (.cells cs T fr)) (i : Nat) (e : cs.toList[i]? = some v) : w.cell? ⟨B, i, none⟩ = some v := by
  simp only [World.cell?, h]
  simpa using e
theorem aF {w : World} {B : Nat} {cs : Array Value} {T : TypeId} (h : w.heap[B]? = some (.cells cs T (0, 0))) (i : Nat) : w.frozen? ⟨B, i, none⟩ = false := by
  simp [World.frozen?, h]
open Go.ChangeShapes Go.WideShapes Go.ChangeAt Go.RowKit
theorem aB {p:Prop} (h:p):Hid p:=Lib.hid h
theorem eE (k:Nat) (h:(k:Int)<4611686018427387904):IntKind.i64.wrap ((k:Int)+1)=(k:Int)+1:=by rw[IntKind.wrap_i64];omega
theorem bC (s:ByteArray):s.data.toList.length=s.size:=by first | exact Lib.size_eq s | exact(Lib.size_eq s).symm
theorem Yn (s:ByteArray) (k:Nat) (h:k<s.size):s.data.toList[k]? = some (s[k]'h):=by
 rw[List.getElem?_eq_getElem (by rw[bC];exact h)];rfl
def sE (s:ByteArray):Nat→Nat→List Int
 | 0,_=>[]
 | f+1,i=>if i<s.size then ((Utf8.decode s i).1:Int) :: sE s f (i+(Utf8.decode s i).2) else []
def runes (s:ByteArray):List Int:=sE s s.size 0
theorem pL (s:ByteArray):∀ (b i:Nat) (acc:Array Value),Conv.runesFrom s b i acc=acc++((sE s b i).map (Value.int .i32)).toArray
 | 0,i,acc=>by simp[Conv.runesFrom,sE]
 | b+1,i,acc=>by
  unfold Conv.runesFrom sE
  split
  ·show Conv.runesFrom s b (i+(Utf8.decode s i).2) (acc.push (.int .i32 (Int.ofNat (Utf8.decode s i).1)))=_
   rw[pL s b]
   simp
  ·simp
theorem Cu (s:ByteArray):Conv.runesFrom s s.size 0 #[]=((runes s).map (Value.int .i32)).toArray:=by
 rw[pL];simp[runes]
theorem Lk (s:ByteArray):∀ b i,(sE s b i).length≤b
 | 0,i=>by simp[sE]
 | b+1,i=>by
  unfold sE
  split
  ·have:=Lk s b (i+(Utf8.decode s i).2);simp;omega
  ·simp
theorem yP (s:ByteArray):(runes s).length≤s.size:=Lk s _ _
theorem qV (s:ByteArray) (b i:Nat) (h:i<s.size):sE s (b+1) i=((Utf8.decode s i).1:Int) :: sE s b (i+(Utf8.decode s i).2):=by
 rw[sE,if_pos h]
theorem Ll (s:ByteArray) (b i:Nat) (h:¬i<s.size):sE s b i=[]:=by
 cases b with
 | zero=>rfl
 | succ b=>rw[sE,if_neg h]
theorem width_pos (s:ByteArray) (pos:Nat) (h:pos<s.size):1≤(Utf8.decode s pos).2:=by
 by_cases ha:(s[pos]'h).toNat<128
 ·rw[decode_ascii s pos h ha]
  exact Nat.le_refl _
 ·exact(decode_high s pos h (by omega)).2

def bH (r:Int):Bool:=decide ((97≤r∧r≤122)∨(65≤r∧r≤90)∨(913≤r∧r≤969))
def isDigit (r:Int):Bool:=decide (48≤r∧r≤57)
theorem aU {a b:Bool} (h:a=b):Ending.returned (.bool a)=.returned (.bool b):=by rw[h]
def aK (r:Int):Bool:=bH r || isDigit r || decide (r=95)
def nameOf (l:List Int):Bool:=decide (1≤l.length∧l.length≤40)&&bH (l.headD 0)&&l.all aK
theorem Sc {l:List Int} {k:Nat} {z:Int} (h:l[k]? = some z) (p:Int→Bool):(l.drop k).all p=(p z&&(l.drop (k+1)).all p):=by
 have hlt:=(List.getElem?_eq_some_iff.1 h).1
 rw[List.drop_eq_getElem_cons hlt,List.all_cons]
 rw[(List.getElem?_eq_some_iff.1 h).2]

def fitsAt (first:Bool) (r:Int):Bool:=bH r || (!first&&(decide (r=95) || isDigit r))
def eN:Nat→List Int→Bool
 | acc,[]=>decide (0<acc)
 | acc,r :: t=>decide (acc<40)&&fitsAt (acc == 0) r&&eN (acc+1) t
theorem xV (r:Int):aK r=fitsAt false r:=by
 unfold aK fitsAt
 generalize bH r=a;generalize isDigit r=b;generalize decide (r=95)=c
 cases a <;> cases b <;> cases c <;> rfl
theorem vL:∀ (l:List Int) (acc:Nat),0<acc→eN acc l=(decide (acc+l.length≤40∨l=[])&&l.all aK)
 | [],acc,h=>by simp[eN,h]
 | r :: t,acc,h=>by
  have h0:(acc == 0)=false:=by simp;omega
  rw[eN,vL t (acc+1) (by omega),h0,←xV,List.all_cons]
  have e:(decide (acc<40)&&decide (acc+1+t.length≤40∨t=[]))=decide (acc+(r :: t).length≤40∨r :: t=[]):=by
   rw[Bool.eq_iff_iff]
   simp only[Bool.and_eq_true,decide_eq_true_iff,List.length_cons,reduceCtorEq,or_false]
   constructor
   ·rintro⟨a,b | b⟩
    ·omega
    ·subst b;simp;omega
   ·intro a;exact⟨by omega,.inl (by omega)⟩
  rw[←e]
  generalize decide (acc<40)=a;generalize decide (acc+1+t.length≤40∨t=[])=b;generalize aK r=c;generalize t.all aK=d
  cases a <;> cases b <;> cases c <;> cases d <;> rfl
theorem Cv (l:List Int):eN 0 l=nameOf l:=by
 cases l with
 | nil=>simp[eN,nameOf]
 | cons r t=>
  rw[eN,vL t 1 (by omega)]
  unfold nameOf
  have e1:fitsAt (0 == 0) r=bH r:=by unfold fitsAt;simp
  rw[e1]
  have e2:decide (1≤(r :: t).length∧(r :: t).length≤40)=decide (1+t.length≤40∨t=[]):=by
   rw[Bool.eq_iff_iff]
   simp only[decide_eq_true_iff,List.length_cons]
   constructor
   ·intro a;exact .inl (by omega)
   ·rintro(a | a)
    ·omega
    ·subst a;simp
  rw[e2,List.all_cons]
  have e3:bH r=true→aK r=true:=fun h=>by unfold aK;rw[h];rfl
  simp only[List.headD_cons]
  revert e3
  generalize bH r=a;generalize decide (1+t.length≤40∨t=[])=b;generalize aK r=c;generalize t.all aK=d
  cases a <;> cases b <;> cases c <;> cases d <;> simp
def isSmall (r:Int):Bool:=decide (97≤r∧r≤122)
def qW (r:Int):Bool:=decide (65≤r∧r≤90)
def xW (l:List Int):List UInt8:=l.flatMap Lib.encodeRune
theorem yQ (r:Int) (t:List Int):xW (r :: t)=Lib.encodeRune r++xW t:=by simp[xW]
theorem Yo (r:Int):1≤(Lib.encodeRune r).length∧(Lib.encodeRune r).length≤4:=by
 have:=Lib.runeCells_le r;rw[Lib.runeCells_length]at this;exact this
theorem sF (r:Int) (h:0≤r) (h1:r≤127):Lib.encodeRune r=[UInt8.ofNat r.toNat]:=by
 unfold Lib.encodeRune;rw[Lib.encodeRuneZ_one h h1];rfl
theorem Lm (r:Int) (h:128≤r) (h1:r≤2047):Lib.encodeRune r=[UInt8.ofNat (192+r / 64).toNat,UInt8.ofNat (128+r % 64).toNat]:=by
 unfold Lib.encodeRune;rw[Lib.encodeRuneZ_two h h1];rfl

def two (r:Int):Prop:=0≤r∧r≤2047
/-! the runes of a name are of one or two bytes,and its other forms' -/
theorem nH {r:Int} (h:aK r=true):two r:=by
 unfold aK bH isDigit at h
 simp only[Bool.or_eq_true,decide_eq_true_iff]at h
 unfold two;omega
theorem vM {l:List Int} (h:nameOf l=true):∀ r∈l,aK r=true:=by
 unfold nameOf at h
 simp only[Bool.and_eq_true,List.all_eq_true]at h
 exact h.2
def bP (l:List UInt8):Int:=
 if (l == [105,110,116,54,52])=true then 1 else if (l == [117,105,110,116,54,52])=true then 2 else if (l == [115,105,110,116,54,52])=true then 3
 else if (l == [98,111,111,108])=true then 4 else if (l == [115,116,114,105,110,103])=true then 5 else if (l == [98,121,116,101,115])=true then 6
 else if (l == [102,105,120,101,100,51,50])=true then 7 else if (l == [102,105,120,101,100,54,52])=true then 8 else 0
def gJ (l:List UInt8):Bool:=
 l == [109,101,115,115,97,103,101] || l == [101,110,117,109] || l == [115,101,114,118,105,99,101] || l == [114,112,99] || l == [114,101,116,117,114,110,115] || l == [114,101,112,101,97,116,101,100] || decide (0<bP l)
def jC:List UInt8→List UInt8→List (List UInt8)
 | cur,[]=>[cur]
 | cur,b :: t=>if b=46 then cur :: jC [] t else jC (cur++[b]) t
theorem Yp (cur:List UInt8):jC cur []=[cur]:=rfl
theorem Ak (cur t:List UInt8):jC cur (46 :: t)=cur :: jC [] t:=by rw[jC,if_pos rfl]
theorem Al (cur t:List UInt8) (b:UInt8) (h:b≠46):jC cur (b :: t)=jC (cur++[b]) t:=by rw[jC,if_neg h]
theorem qX:∀ (l cur:List UInt8),1≤(jC cur l).length∧(jC cur l).length≤l.length+1
 | [],cur=>by simp[jC]
 | b :: t,cur=>by
  have h1:=qX t [];have h2:=qX t (cur++[b])
  rw[jC];split <;> simp <;> omega
def jn:List (List UInt8)→List UInt8
 | []=>[]
 | [x]=>x
 | x :: y :: t=>x++[46]++jn (y :: t)
theorem Ln (x:List UInt8) (l:List (List UInt8)) (h:l≠[]):jn (x :: l)=x++[46]++jn l:=by
 cases l with
 | nil=>exact absurd rfl h
 | cons y t=>rfl
theorem Hu:∀ (l cur:List UInt8),jn (jC cur l)=cur++l
 | [],cur=>by simp[jC,jn]
 | b :: t,cur=>by
  by_cases h:b=46
  ·subst h
   rw[Ak,Ln _ _ (by intro e;have:=(qX t []).1;rw[e]at this;simp at this),Hu t []];simp
  ·rw[Al _ _ _ h,Hu t];simp
theorem Am:∀ (l cur:List UInt8) (i:Nat),l[i]? = some 46→(∀ j:Nat,j<i→l[j]?≠some 46)→jC cur l=(cur++l.take i) :: jC [] (l.drop (i+1))
 | [],cur,i,h,_=>by simp at h
 | b :: t,cur,0,h,_=>by
  simp at h;subst h;rw[Ak];simp
 | b :: t,cur,i+1,h,hn=>by
  have hb:b≠46:=by intro e;exact hn 0 (by omega) (by simp[e])
  rw[Al _ _ _ hb,Am t (cur++[b]) i (by simpa using h) (fun j hj=>by have:=hn (j+1) (by omega);simpa using this)]
  simp
theorem vN:∀ (l cur:List UInt8),(∀ j:Nat,l[j]?≠some 46)→jC cur l=[cur++l]
 | [],cur,_=>by simp[jC]
 | b :: t,cur,h=>by
  have hb:b≠46:=by intro e;exact h 0 (by simp[e])
  rw[Al _ _ _ hb,vN t _ (fun j=>by have:=h (j+1);simpa using this)];simp
theorem occ_one (l:List UInt8) (j:Nat) (hj:j<l.length):Lib.occAt l [46] j=decide (l[j]? = some 46):=by
 rw[Lib.occAt_iff_take _ _ _ (by simp;omega)]
 have e:(l.drop j).take [(46:UInt8)].length=[l[j]]:=by
  rw[List.drop_eq_getElem_cons hj];rfl
 rw[e,List.getElem?_eq_getElem hj,Bool.eq_iff_iff,beq_iff_eq,decide_eq_true_iff]
 simp
theorem yR (l:List UInt8):(Lib.index l [46]=-1∧∀ j:Nat,l[j]?≠some 46)∨∃ i:Nat,Lib.index l [46]=i∧l[i]? = some 46∧∀ j:Nat,j<i→l[j]?≠some 46:=by
 rcases Lib.index_spec l [46]with ⟨h1,h2⟩ | ⟨i,h1,h2,h3,h4⟩
 ·refine .inl ⟨h1,fun j hj=>?_⟩
  have hjl:=(List.getElem?_eq_some_iff.1 hj).1
  have:=h2 j (by omega)
  rw[occ_one l j hjl,decide_eq_false_iff_not]at this
  exact this hj
 ·have hil:i<l.length:=by
   have:=Lib.index_room l [46] (by omega)
   simp at this;omega
  rw[occ_one l i hil,decide_eq_true_iff]at h3
  refine .inr ⟨i,h1,h3,fun j hj hj2=>?_⟩
  have hjl:j<l.length:=by omega
  have:=h4 j hj
  rw[occ_one l j hjl,decide_eq_false_iff_not]at this
  exact this hj2
theorem lX:∀ (k:Nat) (l:List UInt8),((jC [] l).length≤k+1→Lib.splitK [46] 0 k l=jC [] l)∧(k+1<(jC [] l).length→(Lib.splitK [46] 0 k l).length=k+1)
 | 0,l=>by
  refine⟨fun h=>?_,fun _=>rfl⟩
  rw[Lib.splitK]
  rcases yR l with ⟨_,h2⟩ | ⟨i,_,h2,h3⟩
  ·rw[vN l [] h2];rfl
  ·rw[Am l [] i h2 h3]at h
   have:=(qX (l.drop (i+1)) []).1
   rw[List.length_cons]at h;omega
 | k+1,l=>by
  rcases yR l with ⟨h1,h2⟩ | ⟨i,h1,h2,h3⟩
  ·rw[vN l [] h2]
   refine⟨fun _=>?_,fun h=>by simp at h⟩
   rw[Lib.splitK,if_pos (by rw[h1];rfl)];rfl
  ·have hm:¬(Lib.index l [46] == -1)=true:=fun e=>by have:=beq_iff_eq.1 e;omega
   have e:(Lib.index l [46]).toNat=i:=by omega
   obtain⟨ih1,ih2⟩:=lX k (l.drop (i+1))
   rw[Am l [] i h2 h3,Lib.splitK,if_neg hm,e]
   simp only[List.length_cons,List.nil_append,Nat.add_zero,List.length_nil]
   refine⟨fun h=>?_,fun h=>?_⟩
   ·rw[ih1 (by omega)]
   ·rw[ih2 (by omega)]
def aZ (l:List UInt8):Bool:=nameOf (runes ⟨l.toArray⟩)&&!gJ l
def cF (l:List UInt8):Bool:=decide ((jC [] l).length≤8)&&(jC [] l).all aZ
def sG (l:List UInt8):Bool:=decide (0<bP l) || cF l
def eF (n:Int):Bool:=decide (0≤n∧n≤2147483647)
theorem kJ {l:List UInt8} (h:aZ l=true):nameOf (runes ⟨l.toArray⟩)=true∧gJ l=false:=by
 unfold aZ at h
 simpa using h
def nx (l:List UInt8):Int × Nat:=
 if l=[] then (-1,0) else if (Lib.decodeL l).1=65533∧(Lib.decodeL l).2≤1 then (-1,(Lib.decodeL l).2) else ((Lib.decodeL l).1,(Lib.decodeL l).2)
theorem dK (l:List UInt8) (h:l≠[]):1≤(nx l).2∧(nx l).2≤l.length:=by
 have h1:=Lib.decodeL_width l
 have h2:=Lib.decodeL_le l h
 unfold nx
 rw[if_neg h]
 split <;> exact⟨h1,h2⟩
theorem jL (b:UInt8) (t:List UInt8) (h:b.toNat<128):nx (b :: t)=((b.toNat:Int),1):=by
 unfold nx
 rw[if_neg (by simp),Lib.decodeL_ascii b t h,if_neg (by omega)]
theorem qY (b:UInt8) (t:List UInt8) (h:128≤b.toNat):(nx (b :: t)).1=-1∨128≤(nx (b :: t)).1:=by
 have hd:128≤(Lib.decodeL (b :: t)).1:=by
  unfold Lib.decodeL
  have:=decode_high ⟨(b :: t).toArray⟩ 0 (by show 0<(b :: t).toArray.size;simp) (show 128≤b.toNat from h)
  exact this.1
 unfold nx
 rw[if_neg (by simp)]
 split
 ·exact .inl rfl
 ·right;show (128:Int)≤((Lib.decodeL (b :: t)).1:Int);omega
def bE:Nat→List UInt8→Nat × Nat
 | 0,_=>(0,0)
 | f+1,l=>if l≠[]∧aK (nx l).1=true then ((nx l).2+(bE f (l.drop (nx l).2)).1,(bE f (l.drop (nx l).2)).2+1) else (0,0)
def cN:Nat→List UInt8→Nat × Nat
 | 0,_=>(0,0)
 | f+1,l=>if l≠[]∧l.head?≠some 10 then ((nx l).2+(cN f (l.drop (nx l).2)).1,(cN f (l.drop (nx l).2)).2+1) else (0,0)
def gG (n:Int) (l:List UInt8):Int:=l.foldl (fun n b=>10*n+((b.toNat:Int) - 48)) n
def cJ (b:UInt8):Bool:=decide (48≤b.toNat∧b.toNat≤57)
def pC (l:List UInt8):Bool:=decide (l.length≤10)&&!(decide (l.head? = some 48)&&decide (1<l.length))&&decide (gG 0 l≤2147483647)
def kK (r:Int):Bool:=decide (r=123∨r=125∨r=40∨r=41∨r=61∨r=59∨r=46)
def fR (kind:Int) (t:List UInt8) (r:Int):Bool:=
 if kind=1 then nameOf (runes ⟨t.toArray⟩) else if kind=2 then t.all cJ&&pC t else kK r
def aC (l:List UInt8):ByteArray:=⟨l.toArray⟩
theorem Cw (x:ByteArray):aC x.data.toList=x:=rfl
theorem aH (l:List UInt8):(aC l).toList=l:=by rw[ByteArray.toList_eq];rfl
structure Wd where
 kind:Int
 text:List UInt8
 line:Nat
 col:Nat
def headW (l:List UInt8):Int × Nat × Nat:=
 if bH (nx l).1=true then (1,bE l.length l) else if isDigit (nx l).1=true then (2,bE l.length l) else (3,(nx l).2,1)
def dV:Nat→List UInt8→Nat→Nat→List Wd→List Wd × (Nat × Nat) × Int
 | 0,_,_,_,acc=>(acc,(0,0),0)
 | f+1,l,line,col,acc=>
  if l=[] then (acc,(0,0),0)
  else if (nx l).1=10 then dV f (l.drop 1) (line+1) 1 acc
  else if (nx l).1=32∨(nx l).1=9 then dV f (l.drop 1) line (col+1) acc
  else if (nx l).1=47∧l[1]? = some 47 then dV f (l.drop (cN l.length l).1) line (col+(cN l.length l).2) acc
  else if fR (headW l).1 (l.take (headW l).2.1) (nx l).1=false then ([],(line,col),6)
  else if acc.length=4000 then ([],(line,col),4)
  else dV f (l.drop (headW l).2.1) line (col+(headW l).2.2) (acc++[⟨(headW l).1,l.take (headW l).2.1,line,col⟩])
theorem nI (f line col:Nat) (acc:List Wd):dV f [] line col acc=(acc,(0,0),0):=by
 cases f with
 | zero=>rfl
 | succ f=>rw[dV,if_pos rfl]
theorem lC (f:Nat) (l:List UInt8) (line col:Nat) (acc:List Wd) (h:l≠[]) (hr:(nx l).1=10):dV (f+1) l line col acc=dV f (l.drop 1) (line+1) 1 acc:=by
 rw[dV,if_neg h,if_pos hr]
theorem jM (f:Nat) (l:List UInt8) (line col:Nat) (acc:List Wd) (h:l≠[]) (hr:(nx l).1=32∨(nx l).1=9):dV (f+1) l line col acc=dV f (l.drop 1) line (col+1) acc:=by
 rw[dV,if_neg h,if_neg (by omega),if_pos hr]
theorem iJ (f:Nat) (l:List UInt8) (line col:Nat) (acc:List Wd) (h:l≠[]) (hr:(nx l).1=47) (h1:l[1]? = some 47):dV (f+1) l line col acc=dV f (l.drop (cN l.length l).1) line (col+(cN l.length l).2) acc:=by
 rw[dV,if_neg h,if_neg (by omega),if_neg (by omega),if_pos ⟨hr,h1⟩]
def begins (l:List UInt8):Prop:=l≠[]∧(nx l).1≠10∧(nx l).1≠32∧(nx l).1≠9∧¬((nx l).1=47∧l[1]? = some 47)
theorem lD (f:Nat) (l:List UInt8) (line col:Nat) (acc:List Wd) (h:begins l):dV (f+1) l line col acc =
  if fR (headW l).1 (l.take (headW l).2.1) (nx l).1=false then ([],(line,col),6)
  else if acc.length=4000 then ([],(line,col),4)
  else dV f (l.drop (headW l).2.1) line (col+(headW l).2.2) (acc++[⟨(headW l).1,l.take (headW l).2.1,line,col⟩]):=by
 obtain⟨h0,h1,h2,h3,h4⟩:=h
 rw[dV,if_neg h0,if_neg h1,if_neg (by omega),if_neg h4]
theorem qZ:∀ (f:Nat) (l:List UInt8),(bE f l).1≤l.length∧(bE f l).2≤(bE f l).1
 | 0,l=>by simp[bE]
 | f+1,l=>by
  unfold bE
  split
  ·rename_i h
   have hw:=dK l h.1
   have ih:=qZ f (l.drop (nx l).2)
   rw[List.length_drop]at ih
   simp only
   omega
  ·simp
theorem Cx:∀ (f:Nat) (l:List UInt8),(cN f l).1≤l.length∧(cN f l).2≤(cN f l).1
 | 0,l=>by simp[cN]
 | f+1,l=>by
  unfold cN
  split
  ·rename_i h
   have hw:=dK l h.1
   have ih:=Cx f (l.drop (nx l).2)
   rw[List.length_drop]at ih
   simp only
   omega
  ·simp
theorem lY (f:Nat) (l:List UInt8) (h:l≠[]) (hr:l.head?≠some 10):cN (f+1) l=((nx l).2+(cN f (l.drop (nx l).2)).1,(cN f (l.drop (nx l).2)).2+1):=by rw[cN,if_pos ⟨h,hr⟩]
theorem vO (f:Nat) (l:List UInt8) (h:l=[]∨l.head? = some 10):cN f l=(0,0):=by
 cases f with
 | zero=>rfl
 | succ f=>
  rw[cN,if_neg]
  rintro⟨h1,h2⟩
  rcases h with h | h
  ·exact h1 h
  ·exact h2 h
theorem nJ (f:Nat) (l:List UInt8) (h:l≠[]) (hr:aK (nx l).1=true):1≤(bE (f+1) l).1∧1≤(bE (f+1) l).2:=by
 have hw:=dK l h
 rw[bE,if_pos ⟨h,hr⟩]
 simp only
 omega
theorem Se (l:List UInt8) (h:l≠[]):1≤(headW l).2.1∧(headW l).2.1≤l.length∧(headW l).2.2≤(headW l).2.1∧((headW l).1=1∨(headW l).1=2∨(headW l).1=3):=by
 have hw:=dK l h
 have hl:=qZ l.length l
 obtain⟨m,hm⟩:∃ m,l.length=m+1:=⟨l.length - 1,by omega⟩
 unfold headW
 split
 ·rename_i hL
  have:=nJ m l h (by unfold aK;rw[hL];rfl)
  rw[hm]at hl ⊢
  exact⟨this.1,hl.1,hl.2,.inl rfl⟩
 ·split
  ·rename_i hL hD
   have:=nJ m l h (by unfold aK;rw[hD];simp)
   rw[hm]at hl ⊢
   exact⟨this.1,hl.1,hl.2,.inr (.inl rfl)⟩
  ·exact⟨hw.1,hw.2,hw.1,.inr (.inr rfl)⟩
def cG (l:List UInt8):List Wd × (Nat × Nat) × Int:=if 20000<l.length then ([],(1,1),4) else dV l.length l 1 1 []
theorem No (l:List UInt8) (h:l≠[]) (hr:l.head?≠some 10):1≤(cN l.length l).1:=by
 obtain⟨m,hm⟩:∃ m,l.length=m+1:=⟨l.length - 1,by have:=List.length_pos_iff.2 h;omega⟩
 have:=(dK l h).1
 rw[hm,lY m l h hr];simp only;omega
theorem Yq (l:List UInt8) (h:l≠[]) (hr:(nx l).1≠10):l.head?≠some 10:=by
 cases l with
 | nil=>exact absurd rfl h
 | cons b t=>
  intro e
  have:b=10:=by simpa using e
  subst this
  rw[jL _ _ (by decide)]at hr
  exact hr rfl
theorem jN:∀ (f:Nat) (l:List UInt8) (line col:Nat) (acc:List Wd),acc.length≤4000→(dV f l line col acc).1.length≤4000
 | 0,l,line,col,acc,h=>h
 | f+1,l,line,col,acc,h=>by
  by_cases h0:l=[]
  ·subst h0;rw[nI];exact h
  ·by_cases h10:(nx l).1=10
   ·rw[lC f l _ _ _ h0 h10];exact jN f _ _ _ _ h
   ·by_cases hb:(nx l).1=32∨(nx l).1=9
    ·rw[jM f l _ _ _ h0 hb];exact jN f _ _ _ _ h
    ·by_cases hr:(nx l).1=47∧l[1]? = some 47
     ·rw[iJ f l _ _ _ h0 hr.1 hr.2];exact jN f _ _ _ _ h
     ·rw[lD f l _ _ _ ⟨h0,h10,fun h=>hb (.inl h),fun h=>hb (.inr h),hr⟩]
      split
      ·simp
      ·split
       ·simp
       ·exact jN f _ _ _ _ (by simp;omega)
theorem jO (M:Nat):∀ (f:Nat) (l:List UInt8) (line col:Nat) (acc:List Wd),(∀ x∈acc,x.text.length≤M)→l.length≤M→∀ x∈(dV f l line col acc).1,x.text.length≤M
 | 0,l,line,col,acc,h,hl=>h
 | f+1,l,line,col,acc,h,hl=>by
  by_cases h0:l=[]
  ·subst h0;rw[nI];exact h
  ·by_cases h10:(nx l).1=10
   ·rw[lC f l _ _ _ h0 h10];exact jO M f _ _ _ _ h (by rw[List.length_drop];omega)
   ·by_cases hb:(nx l).1=32∨(nx l).1=9
    ·rw[jM f l _ _ _ h0 hb];exact jO M f _ _ _ _ h (by rw[List.length_drop];omega)
    ·by_cases hr:(nx l).1=47∧l[1]? = some 47
     ·rw[iJ f l _ _ _ h0 hr.1 hr.2];exact jO M f _ _ _ _ h (by rw[List.length_drop];omega)
     ·rw[lD f l _ _ _ ⟨h0,h10,fun h=>hb (.inl h),fun h=>hb (.inr h),hr⟩]
      split
      ·simp
      ·split
       ·simp
       ·refine jO M f _ _ _ _ ?_ (by rw[List.length_drop];omega)
        intro x hx
        rcases List.mem_append.1 hx with hx | hx
        ·exact h x hx
        ·have:x=⟨(headW l).1,l.take (headW l).2.1,line,col⟩:=by simpa using hx
         subst this;show (l.take _).length≤M;rw[List.length_take];omega
theorem Cy (l:List UInt8):∀ x∈(cG l).1,x.text.length≤20000:=by
 unfold cG
 split
 ·simp
 ·exact jO 20000 _ _ _ _ _ (by simp) (by omega)
theorem Lo (s y:List UInt8) (k:Nat) (h:k<s.length+1):(ByteArray.mk (s++10 :: y).toArray).get! (0+k)=(ByteArray.mk (s++[10]).toArray).get! (0+k):=by
 have e1:(s++10 :: y)[k]? = (s++[10])[k]?:=by
  by_cases hk:k<s.length
  ·rw[List.getElem?_append_left hk,List.getElem?_append_left hk]
  ·have:k=s.length:=by omega
   subst this
   rw[List.getElem?_append_right (by omega),List.getElem?_append_right (by omega)];simp
 rw[Nat.zero_add]
 show (s++10 :: y).toArray[k]! = (s++[10]).toArray[k]!
 rw[getElem!_def,getElem!_def]
 simp only[List.getElem?_toArray,e1]
theorem Sf (s y:List UInt8):(ByteArray.mk (s++10 :: y).toArray).get! (0+s.length)=10:=by
 rw[Nat.zero_add]
 show (s++10 :: y).toArray[s.length]! = 10
 rw[getElem!_def]
 simp
theorem Cz (s y:List UInt8):(ByteArray.mk (s++10 :: y).toArray).size=s.length+1+y.length:=by
 show (s++10 :: y).toArray.size=_
 simp;omega
def pM (A:ByteArray) (k:Nat):Bool:=decide (0+k<A.size)&&((A.get! (0+k)).toNat / 64 == 2)
theorem Da (s y:List UInt8):pM ⟨(s++10 :: y).toArray⟩ s.length=false:=by
 unfold pM;rw[Sf];simp
theorem Sg (s y:List UInt8) (k:Nat) (h:k<s.length+1):pM ⟨(s++10 :: y).toArray⟩ k=pM ⟨(s++[10]).toArray⟩ k:=by
 unfold pM
 rw[Lo s y k h,Cz,Cz s []]
 rw[decide_eq_true (by omega),decide_eq_true (by simp;omega)]

def lZ (b0 b1 b2 b3:Nat) (c1 c2 c3:Bool):Nat × Nat:=
 if b0<128 then (b0,1)
 else if (b0 / 32 == 6&&c1)=true then (if b0 % 32*64+b1 % 64 ≥ 128 then (b0 % 32*64+b1 % 64,2) else (65533,1))
 else if (b0 / 16 == 14&&c1&&c2)=true then (if (decide (b0 % 16*4096+b1 % 64*64+b2 % 64 ≥ 2048)&&Utf8.valid ((b0 % 16*4096+b1 % 64*64+b2 % 64:Nat):Int))=true then (b0 % 16*4096+b1 % 64*64+b2 % 64,3) else (65533,1))
 else if (b0 / 8 == 30&&c1&&c2&&c3)=true then (if (decide (b0 % 8*262144+b1 % 64*4096+b2 % 64*64+b3 % 64 ≥ 65536)&&Utf8.valid ((b0 % 8*262144+b1 % 64*4096+b2 % 64*64+b3 % 64:Nat):Int))=true then (b0 % 8*262144+b1 % 64*4096+b2 % 64*64+b3 % 64,4) else (65533,1))
 else (65533,1)
theorem nK (A:ByteArray):Utf8.decode A 0=lZ (A.get! (0+0)).toNat (A.get! (0+1)).toNat (A.get! (0+2)).toNat (A.get! (0+3)).toNat (pM A 1) (pM A 2) (pM A 3):=rfl
theorem Lp (b0 b1 b2 b3:Nat) (c2 c3:Bool):lZ b0 b1 b2 b3 false c2 c3=lZ b0 0 0 0 false false false:=by simp[lZ]
theorem Lq (b0 b1 b2 b3:Nat) (c1 c3:Bool):lZ b0 b1 b2 b3 c1 false c3=lZ b0 b1 0 0 c1 false false:=by simp[lZ]
theorem Lr (b0 b1 b2 b3:Nat) (c1 c2:Bool):lZ b0 b1 b2 b3 c1 c2 false=lZ b0 b1 b2 0 c1 c2 false:=by simp[lZ]
theorem Yr (b0 b1 b2 b3:Nat) (c2 c3:Bool):(lZ b0 b1 b2 b3 false c2 c3).2≤1:=by
 unfold lZ;split <;> simp
theorem Ys (b0 b1 b2 b3:Nat) (c1 c3:Bool):(lZ b0 b1 b2 b3 c1 false c3).2≤2:=by
 unfold lZ;repeat' split
 all_goals simp_all
theorem Yt (b0 b1 b2 b3:Nat) (c1 c2:Bool):(lZ b0 b1 b2 b3 c1 c2 false).2≤3:=by
 unfold lZ;repeat' split
 all_goals simp_all
theorem Yu (b0 b1 b2 b3:Nat) (c1 c2 c3:Bool):(lZ b0 b1 b2 b3 c1 c2 c3).2≤4:=by
 unfold lZ;repeat' split
 all_goals simp
theorem An (s y:List UInt8) (h:s≠[]):Lib.decodeL (s++10 :: y)=Lib.decodeL (s++[10])∧(Lib.decodeL (s++10 :: y)).2≤s.length:=by
 have hp:=List.length_pos_iff.2 h
 unfold Lib.decodeL
 rw[nK,nK]
 have g:=Lo s y
 have c:=Sg s y
 have ce:=Da s y
 have ce0:=Da s []
 have hs:s.length=1∨s.length=2∨s.length=3∨4≤s.length:=by omega
 rcases hs with hs | hs | hs | hs
 ·rw[hs]at ce ce0
  rw[ce,ce0,g 0 (by omega),hs]
  exact⟨(Lp _ _ _ _ _ _).trans (Lp _ _ _ _ _ _).symm,Yr _ _ _ _ _ _⟩
 ·rw[hs]at ce ce0
  rw[ce,ce0,g 0 (by omega),g 1 (by omega),c 1 (by omega),hs]
  exact⟨(Lq _ _ _ _ _ _).trans (Lq _ _ _ _ _ _).symm,Ys _ _ _ _ _ _⟩
 ·rw[hs]at ce ce0
  rw[ce,ce0,g 0 (by omega),g 1 (by omega),g 2 (by omega),c 1 (by omega),c 2 (by omega),hs]
  exact⟨(Lr _ _ _ _ _ _).trans (Lr _ _ _ _ _ _).symm,Yt _ _ _ _ _ _⟩
 ·rw[g 0 (by omega),g 1 (by omega),g 2 (by omega),g 3 (by omega),c 1 (by omega),c 2 (by omega),c 3 (by omega)]
  exact⟨rfl,Nat.le_trans (Yu _ _ _ _ _ _ _) hs⟩
theorem vP (s y:List UInt8) (h:s≠[]):nx (s++10 :: y)=nx (s++[10])∧(nx (s++10 :: y)).2≤s.length:=by
 obtain⟨h1,h2⟩:=An s y h
 have e:nx (s++10 :: y)=nx (s++[10]):=by
  unfold nx;rw[if_neg (c:=s++10 :: y=[]) (by simp),if_neg (c:=s++[10]=[]) (by simp),h1]
 refine⟨e,?_⟩
 unfold nx
 rw[if_neg (c:=s++10 :: y=[]) (by simp)]
 split <;> exact h2
theorem Hv (s y:List UInt8) (n:Nat) (h:n≤s.length):(s++10 :: y).drop n=s.drop n++10 :: y:=by
 rw[List.drop_append_of_le_length h]
theorem Ls (y:List UInt8):nx (10 :: y)=(10,1):=jL 10 y (by decide)
def kt (l:List Wd):List (Int × List UInt8):=l.map fun x=>(x.kind,x.text)
theorem Db:∀ (n:Nat) (r y:List UInt8),r.length≤n→(∀ b∈r,b≠10)→∀ f,r.length≤f→(cN f (r++10 :: y)).1=r.length
 | n,[],y,hn,h,f,hf=>by
  simp only[List.nil_append]
  rw[vO _ _ (.inr rfl)];rfl
 | 0,a :: r,y,hn,h,f,hf=>by simp at hn
 | n+1,a :: r,y,hn,h,f,hf=>by
  obtain⟨f,rfl⟩:∃ f',f=f'+1:=⟨f - 1,by simp at hf;omega⟩
  obtain⟨_,h2⟩:=vP (a :: r) y (by simp)
  have hw:=(dK (a :: r++10 :: y) (by simp)).1
  rw[lY f _ (by simp) (by have:=h a List.mem_cons_self;simpa using this),Hv _ y _ h2]
  simp only
  rw[Db n _ y (by rw[List.length_drop];omega) (fun b hb=>h b (List.mem_of_mem_drop hb)) f (by rw[List.length_drop];omega),List.length_drop]
  omega
end Go.Proofs.YtpojeinddnjpfaaGreatDoor
