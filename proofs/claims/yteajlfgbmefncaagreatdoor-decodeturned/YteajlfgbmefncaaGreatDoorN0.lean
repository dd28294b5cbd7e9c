/-
  Walks and plain words (Cel Rn Enc RsM PcM LxM LxS PsT PsW Dev ShD DpB DvM DvT StS ScM ScE ShM).
-/
import Derived.WalkKit
import Derived.Lib.Hide
import Derived.ProofKit
import Derived.Below
import Derived.Laws.RangeAny
import Derived.Laws.IdiomStrings
import Derived.Lib.Strings
import Derived.Lib.RuneBytes
import Derived.Lib.RuneCount
import Derived.Lib.Split
import Derived.Lib.IndexMore
import Derived.Lib.TrimUEq
import Derived.Lib.MapLaws
import Derived.Lib.TrimAscii
import Derived.Laws.AppendOwn
import Derived.OwnWalk
import Derived.Maps.AppendAt
import Derived.BigQuiet
import Derived.Deep.QuietTactic
import Derived.Deep.AppendLies
import Derived.Test.YteajlfgbmefncaaGreatDoorProg
import Derived.Shelf.Strconv.Clone
import Derived.Shelf.Strings.Count
import Derived.Shelf.LaysM
import Derived.Ground.NamesProg
import Derived.Deep.Cut
import Derived.Deep.DeepCutAuto
import Derived.Lib.ParseIntB
import Derived.Lib.Bytealg
import Derived.Deep.RegionHeldLaw
import Derived.Deep.RegionLaw
import Derived.Deep.RegionWith
import Derived.Lib.IndexBytes
import Derived.WalkSmall
import Derived.Lib.OthersKept
import Derived.Lib.ItoaMem
import Derived.Lib.ItoaLen
namespace Go.Proofs.YteajlfgbmefncaaGreatDoor
set_option linter.unusedVariables false
theorem cell_at {w : World} {B : Nat} {cs : Array Value} {T : TypeId} {fr : Nat × Nat} {v : Value} (h : w.heap[B]? = some (.cells cs T fr)) (i : Nat) (e : cs.toList[i]? = some v) : w.cell? ⟨B, i, none⟩ = some v := by
  simp only [World.cell?, h]
  simpa using e
theorem frozen_at {w : World} {B : Nat} {cs : Array Value} {T : TypeId} (h : w.heap[B]? = some (.cells cs T (0, 0))) (i : Nat) : w.frozen? ⟨B, i, none⟩ = false := by
  simp [World.frozen?, h]
open Go.ChangeShapes Go.WideShapes Go.ChangeAt Go.RowKit
theorem hQz {p:Prop} (h:p):Hid p:=Lib.hid h
theorem wQz (k:Nat) (h:(k:Int)<4611686018427387904):IntKind.i64.wrap ((k:Int)+1)=(k:Int)+1:=by rw[IntKind.wrap_i64];omega
theorem len_data (s:ByteArray):s.data.toList.length=s.size:=by first | exact Lib.size_eq s | exact(Lib.size_eq s).symm
def rns (s:ByteArray):Nat→Nat→List Int
 | 0,_=>[]
 | f+1,i=>if i<s.size then ((Utf8.decode s i).1:Int) :: rns s f (i+(Utf8.decode s i).2) else []
def runes (s:ByteArray):List Int:=rns s s.size 0
theorem runesFrom_rns (s:ByteArray):∀ (b i:Nat) (acc:Array Value),Conv.runesFrom s b i acc=acc++((rns s b i).map (Value.int .i32)).toArray
 | 0,i,acc=>by simp[Conv.runesFrom,rns]
 | b+1,i,acc=>by
  unfold Conv.runesFrom rns
  split
  ·show Conv.runesFrom s b (i+(Utf8.decode s i).2) (acc.push (.int .i32 (Int.ofNat (Utf8.decode s i).1)))=_
   rw[runesFrom_rns s b]
   simp
  ·simp
theorem runes_eq (s:ByteArray):Conv.runesFrom s s.size 0 #[]=((runes s).map (Value.int .i32)).toArray:=by
 rw[runesFrom_rns];simp[runes]
theorem rns_len (s:ByteArray):∀ b i,(rns s b i).length≤b
 | 0,i=>by simp[rns]
 | b+1,i=>by
  unfold rns
  split
  ·have:=rns_len s b (i+(Utf8.decode s i).2);simp;omega
  ·simp
theorem runes_len (s:ByteArray):(runes s).length≤s.size:=rns_len s _ _
theorem rns_step (s:ByteArray) (b i:Nat) (h:i<s.size):rns s (b+1) i=((Utf8.decode s i).1:Int) :: rns s b (i+(Utf8.decode s i).2):=by
 rw[rns,if_pos h]
theorem rns_end (s:ByteArray) (b i:Nat) (h:¬i<s.size):rns s b i=[]:=by
 cases b with
 | zero=>rfl
 | succ b=>rw[rns,if_neg h]
theorem width_pos (s:ByteArray) (pos:Nat) (h:pos<s.size):1≤(Utf8.decode s pos).2:=by
 by_cases ha:(s[pos]'h).toNat<128
 ·rw[decode_ascii s pos h ha]
  exact Nat.le_refl _
 ·exact(decode_high s pos h (by omega)).2

def isLetter (r:Int):Bool:=decide ((97≤r∧r≤122)∨(65≤r∧r≤90)∨(913≤r∧r≤969))
def isDigit (r:Int):Bool:=decide (48≤r∧r≤57)
theorem retB {a b:Bool} (h:a=b):Ending.returned (.bool a)=.returned (.bool b):=by rw[h]
def nameRune (r:Int):Bool:=isLetter r || isDigit r || decide (r=95)
def nameOf (l:List Int):Bool:=decide (1≤l.length∧l.length≤40)&&isLetter (l.headD 0)&&l.all nameRune
theorem all_drop {l:List Int} {k:Nat} {z:Int} (h:l[k]? = some z) (p:Int→Bool):(l.drop k).all p=(p z&&(l.drop (k+1)).all p):=by
 have hlt:=(List.getElem?_eq_some_iff.1 h).1
 rw[List.drop_eq_getElem_cons hlt,List.all_cons]
 rw[(List.getElem?_eq_some_iff.1 h).2]

def fitsAt (first:Bool) (r:Int):Bool:=isLetter r || (!first&&(decide (r=95) || isDigit r))
def okFrom:Nat→List Int→Bool
 | acc,[]=>decide (0<acc)
 | acc,r :: t=>decide (acc<40)&&fitsAt (acc == 0) r&&okFrom (acc+1) t
theorem nameRune_fits (r:Int):nameRune r=fitsAt false r:=by
 unfold nameRune fitsAt
 generalize isLetter r=a;generalize isDigit r=b;generalize decide (r=95)=c
 cases a <;> cases b <;> cases c <;> rfl
theorem okFrom_pos:∀ (l:List Int) (acc:Nat),0<acc→okFrom acc l=(decide (acc+l.length≤40∨l=[])&&l.all nameRune)
 | [],acc,h=>by simp[okFrom,h]
 | r :: t,acc,h=>by
  have h0:(acc == 0)=false:=by simp;omega
  rw[okFrom,okFrom_pos t (acc+1) (by omega),h0,←nameRune_fits,List.all_cons]
  have e:(decide (acc<40)&&decide (acc+1+t.length≤40∨t=[]))=decide (acc+(r :: t).length≤40∨r :: t=[]):=by
   rw[Bool.eq_iff_iff]
   simp only[Bool.and_eq_true,decide_eq_true_iff,List.length_cons,reduceCtorEq,or_false]
   constructor
   ·rintro⟨a,b | b⟩
    ·omega
    ·subst b;simp;omega
   ·intro a;exact⟨by omega,.inl (by omega)⟩
  rw[←e]
  generalize decide (acc<40)=a;generalize decide (acc+1+t.length≤40∨t=[])=b;generalize nameRune r=c;generalize t.all nameRune=d
  cases a <;> cases b <;> cases c <;> cases d <;> rfl
theorem okFrom_name (l:List Int):okFrom 0 l=nameOf l:=by
 cases l with
 | nil=>simp[okFrom,nameOf]
 | cons r t=>
  rw[okFrom,okFrom_pos t 1 (by omega)]
  unfold nameOf
  have e1:fitsAt (0 == 0) r=isLetter r:=by unfold fitsAt;simp
  rw[e1]
  have e2:decide (1≤(r :: t).length∧(r :: t).length≤40)=decide (1+t.length≤40∨t=[]):=by
   rw[Bool.eq_iff_iff]
   simp only[decide_eq_true_iff,List.length_cons]
   constructor
   ·intro a;exact .inl (by omega)
   ·rintro(a | a)
    ·omega
    ·subst a;simp
  rw[e2,List.all_cons]
  have e3:isLetter r=true→nameRune r=true:=fun h=>by unfold nameRune;rw[h];rfl
  simp only[List.headD_cons]
  revert e3
  generalize isLetter r=a;generalize decide (1+t.length≤40∨t=[])=b;generalize nameRune r=c;generalize t.all nameRune=d
  cases a <;> cases b <;> cases c <;> cases d <;> simp
def isSmall (r:Int):Bool:=decide (97≤r∧r≤122)
def isGreat (r:Int):Bool:=decide (65≤r∧r≤90)
def two (r:Int):Prop:=0≤r∧r≤2047
/-! the runes of a name are of one or two bytes,and its other forms' -/
theorem two_of_name {r:Int} (h:nameRune r=true):two r:=by
 unfold nameRune isLetter isDigit at h
 simp only[Bool.or_eq_true,decide_eq_true_iff]at h
 unfold two;omega
theorem name_all {l:List Int} (h:nameOf l=true):∀ r∈l,nameRune r=true:=by
 unfold nameOf at h
 simp only[Bool.and_eq_true,List.all_eq_true]at h
 exact h.2
def scalarOf (l:List UInt8):Int:=
 if (l == [105,110,116,54,52])=true then 1 else if (l == [117,105,110,116,54,52])=true then 2 else if (l == [115,105,110,116,54,52])=true then 3
 else if (l == [98,111,111,108])=true then 4 else if (l == [115,116,114,105,110,103])=true then 5 else if (l == [98,121,116,101,115])=true then 6
 else if (l == [102,105,120,101,100,51,50])=true then 7 else if (l == [102,105,120,101,100,54,52])=true then 8 else 0
def resOf (l:List UInt8):Bool:=
 l == [109,101,115,115,97,103,101] || l == [101,110,117,109] || l == [115,101,114,118,105,99,101] || l == [114,112,99] || l == [114,101,116,117,114,110,115] || l == [114,101,112,101,97,116,101,100] || decide (0<scalarOf l)
def pcs:List UInt8→List UInt8→List (List UInt8)
 | cur,[]=>[cur]
 | cur,b :: t=>if b=46 then cur :: pcs [] t else pcs (cur++[b]) t
theorem pcs_nil (cur:List UInt8):pcs cur []=[cur]:=rfl
theorem pcs_dot (cur t:List UInt8):pcs cur (46 :: t)=cur :: pcs [] t:=by rw[pcs,if_pos rfl]
theorem pcs_on (cur t:List UInt8) (b:UInt8) (h:b≠46):pcs cur (b :: t)=pcs (cur++[b]) t:=by rw[pcs,if_neg h]
theorem pcs_len:∀ (l cur:List UInt8),1≤(pcs cur l).length∧(pcs cur l).length≤l.length+1
 | [],cur=>by simp[pcs]
 | b :: t,cur=>by
  have h1:=pcs_len t [];have h2:=pcs_len t (cur++[b])
  rw[pcs];split <;> simp <;> omega
def jn:List (List UInt8)→List UInt8
 | []=>[]
 | [x]=>x
 | x :: y :: t=>x++[46]++jn (y :: t)
theorem jn_cons (x:List UInt8) (l:List (List UInt8)) (h:l≠[]):jn (x :: l)=x++[46]++jn l:=by
 cases l with
 | nil=>exact absurd rfl h
 | cons y t=>rfl
theorem jn_pcs:∀ (l cur:List UInt8),jn (pcs cur l)=cur++l
 | [],cur=>by simp[pcs,jn]
 | b :: t,cur=>by
  by_cases h:b=46
  ·subst h
   rw[pcs_dot,jn_cons _ _ (by intro e;have:=(pcs_len t []).1;rw[e]at this;simp at this),jn_pcs t []];simp
  ·rw[pcs_on _ _ _ h,jn_pcs t];simp
theorem pcs_hit:∀ (l cur:List UInt8) (i:Nat),l[i]? = some 46→(∀ j:Nat,j<i→l[j]?≠some 46)→pcs cur l=(cur++l.take i) :: pcs [] (l.drop (i+1))
 | [],cur,i,h,_=>by simp at h
 | b :: t,cur,0,h,_=>by
  simp at h;subst h;rw[pcs_dot];simp
 | b :: t,cur,i+1,h,hn=>by
  have hb:b≠46:=by intro e;exact hn 0 (by omega) (by simp[e])
  rw[pcs_on _ _ _ hb,pcs_hit t (cur++[b]) i (by simpa using h) (fun j hj=>by have:=hn (j+1) (by omega);simpa using this)]
  simp
theorem pcs_miss:∀ (l cur:List UInt8),(∀ j:Nat,l[j]?≠some 46)→pcs cur l=[cur++l]
 | [],cur,_=>by simp[pcs]
 | b :: t,cur,h=>by
  have hb:b≠46:=by intro e;exact h 0 (by simp[e])
  rw[pcs_on _ _ _ hb,pcs_miss t _ (fun j=>by have:=h (j+1);simpa using this)];simp
theorem occ_one (l:List UInt8) (j:Nat) (hj:j<l.length):Lib.occAt l [46] j=decide (l[j]? = some 46):=by
 rw[Lib.occAt_iff_take _ _ _ (by simp;omega)]
 have e:(l.drop j).take [(46:UInt8)].length=[l[j]]:=by
  rw[List.drop_eq_getElem_cons hj];rfl
 rw[e,List.getElem?_eq_getElem hj,Bool.eq_iff_iff,beq_iff_eq,decide_eq_true_iff]
 simp
theorem index_dot (l:List UInt8):(Lib.index l [46]=-1∧∀ j:Nat,l[j]?≠some 46)∨∃ i:Nat,Lib.index l [46]=i∧l[i]? = some 46∧∀ j:Nat,j<i→l[j]?≠some 46:=by
 rcases Lib.index_spec l [46]with ⟨h1,h2⟩ | ⟨i,h1,h2,h3,h4⟩
 ·refine .inl ⟨h1,fun j hj=>?_⟩
  have hjl:=(List.getElem?_eq_some_iff.1 hj).1
  have:=h2 j (by omega)
  rw[occ_one l j hjl,decide_eq_false_iff_not]at this
  exact this hj
 ·have hil:i<l.length:=by
   have:=Lib.index_room l [46] (by omega)
   simp at this;omega
  rw[occ_one l i hil,decide_eq_true_iff]at h3
  refine .inr ⟨i,h1,h3,fun j hj hj2=>?_⟩
  have hjl:j<l.length:=by omega
  have:=h4 j hj
  rw[occ_one l j hjl,decide_eq_false_iff_not]at this
  exact this hj2
theorem splitK_pcs:∀ (k:Nat) (l:List UInt8),((pcs [] l).length≤k+1→Lib.splitK [46] 0 k l=pcs [] l)∧(k+1<(pcs [] l).length→(Lib.splitK [46] 0 k l).length=k+1)
 | 0,l=>by
  refine⟨fun h=>?_,fun _=>rfl⟩
  rw[Lib.splitK]
  rcases index_dot l with ⟨_,h2⟩ | ⟨i,_,h2,h3⟩
  ·rw[pcs_miss l [] h2];rfl
  ·rw[pcs_hit l [] i h2 h3]at h
   have:=(pcs_len (l.drop (i+1)) []).1
   rw[List.length_cons]at h;omega
 | k+1,l=>by
  rcases index_dot l with ⟨h1,h2⟩ | ⟨i,h1,h2,h3⟩
  ·rw[pcs_miss l [] h2]
   refine⟨fun _=>?_,fun h=>by simp at h⟩
   rw[Lib.splitK,if_pos (by rw[h1];rfl)];rfl
  ·have hm:¬(Lib.index l [46] == -1)=true:=fun e=>by have:=beq_iff_eq.1 e;omega
   have e:(Lib.index l [46]).toNat=i:=by omega
   obtain⟨ih1,ih2⟩:=splitK_pcs k (l.drop (i+1))
   rw[pcs_hit l [] i h2 h3,Lib.splitK,if_neg hm,e]
   simp only[List.length_cons,List.nil_append,Nat.add_zero,List.length_nil]
   refine⟨fun h=>?_,fun h=>?_⟩
   ·rw[ih1 (by omega)]
   ·rw[ih2 (by omega)]
def plainL (l:List UInt8):Bool:=nameOf (runes ⟨l.toArray⟩)&&!resOf l
def pathOK (l:List UInt8):Bool:=decide ((pcs [] l).length≤8)&&(pcs [] l).all plainL
def numOK (n:Int):Bool:=decide (0≤n∧n≤2147483647)
def mkB (l:List UInt8):ByteArray:=⟨l.toArray⟩
theorem mkB_data (x:ByteArray):mkB x.data.toList=x:=rfl
theorem mkB_list (l:List UInt8):(mkB l).toList=l:=by rw[ByteArray.toList_eq];rfl
structure Wd where
 kind:Int
 text:List UInt8
 line:Nat
 col:Nat
def kt (l:List Wd):List (Int × List UInt8):=l.map fun x=>(x.kind,x.text)
def RowsIn {α:Type} (w:World) (S:Nat→Prop) (k:Nat) (row:α→List Value) (v:Value) (xs:List α):Prop:=
 ∃ ad c,v=.slice ad xs.length c∧xs.length≤c∧(xs=[]∨∃ g o,ad=some ⟨g,o,none⟩∧S g∧∀ (j:Nat) (x:α),xs[j]? = some x→∀ (i:Nat) (u:Value),(row x)[i]? = some u→w.cell? ⟨g,o+(j*k+i),none⟩=some u)
theorem RowsIn.old {α:Type} {w w':World} {S:Nat→Prop} {k:Nat} {row:α→List Value} {v:Value} {xs:List α} (h:RowsIn w S k row v xs) (hb:∀ b,S b→w'.heap[b]? = w.heap[b]?):RowsIn w' S k row v xs:=by
 obtain⟨ad,c,hv,hc,h⟩:=h
 refine⟨ad,c,hv,hc,h.imp id ?_⟩
 rintro⟨g,o,ha,hg,h⟩
 exact⟨g,o,ha,hg,fun j x hj i u hu=>by rw[World.cell?_of_block (hb g hg)];exact h j x hj i u hu⟩
theorem RowsIn.more {α:Type} {w:World} {S S':Nat→Prop} {k:Nat} {row:α→List Value} {v:Value} {xs:List α} (h:RowsIn w S k row v xs) (hb:∀ b,S b→S' b):RowsIn w S' k row v xs:=by
 obtain⟨ad,c,hv,hc,h⟩:=h
 refine⟨ad,c,hv,hc,h.imp id ?_⟩
 rintro⟨g,o,ha,hg,h⟩
 exact⟨g,o,ha,hb g hg,h⟩
theorem RowsIn.nil {α:Type} (w:World) (S:Nat→Prop) (k:Nat) (row:α→List Value) (ad:Option Addr) (c:Nat):RowsIn w S k row (.slice ad 0 c) ([]:List α):=⟨ad,c,rfl,Nat.zero_le _,.inl rfl⟩
theorem setCell_heap {w:World} {R j:Nat} {cs:Array Value} {t:TypeId} {fr:Nat × Nat} (h:w.heap[R]? = some (.cells cs t fr)) (x:Value):(w.setCell ⟨R,j,none⟩ x).heap[R]? = some (.cells (cs.setIfInBounds j x) t fr):=by
 rw[setCell_eq_setRow _ _ _ _ _ _ _ h,setRow_heap w R _ _ _ _ h]
theorem alloc_heap_old (w:World) (o:Obj) (k:Nat) (h:k<w.heap.size):(w.alloc o).heap[k]? = w.heap[k]?:=Below.heap_alloc w o k h
theorem alloc_heap_new (w:World) (o:Obj):(w.alloc o).heap[w.heap.size]? = some o:=by
 show (w.heap.push o)[w.heap.size]? = _
 simp
theorem own_block {w:World} {base:Nat} {E:TypeId} {k n:Nat} {v:Value} {xs:List Value} (h:w.ownsRow base E k v n xs):∀ b,v.ownBlock=some b→base≤b∧b<w.heap.size:=by
 intro b hb
 obtain⟨_,⟨rfl,_⟩ | ⟨g,cap,cur,rfl,hg,hh,_⟩⟩:=h
 ·simp[Value.ownBlock]at hb
 ·simp[Value.ownBlock]at hb
  have:=(Array.getElem?_eq_some_iff.1 hh).1
  omega
theorem own_slice {w:World} {base:Nat} {E:TypeId} {k n:Nat} {v:Value} {xs:List Value} (h:w.ownsRow base E k v n xs):∃ a c,v=.slice a n c:=by
 obtain⟨_,⟨rfl,h0⟩ | ⟨g,cap,cur,rfl,_⟩⟩:=h
 ·exact⟨none,0,by rw[h0]⟩
 ·exact⟨_,_,rfl⟩
theorem own_keep {w w':World} {base:Nat} {E:TypeId} {k n:Nat} {v:Value} {xs:List Value} (h:w.ownsRow base E k v n xs) (hh:∀ b,v.ownBlock=some b→w'.heap[b]? = w.heap[b]?):w'.ownsRow base E k v n xs:=by
 obtain⟨h1,h2 | ⟨g,cap,cur,hv,hg,hhp,r⟩⟩:=h
 ·exact⟨h1,.inl h2⟩
 ·exact⟨h1,.inr ⟨g,cap,cur,hv,hg,by rw[hh g (by rw[hv];rfl)];exact hhp,r⟩⟩
abbrev z6:Array Value:=#[.bool false,.string ⟨#[]⟩,.string ⟨#[]⟩,.int .i64 0,.int .i64 0,.int .i64 0]
set_option maxHeartbeats 1000000 in
theorem small_any (r:Int) (w:World) :
  Calls Tryz.prog 135 #[.int .i32 r] w fun e w'=>e=.returned (.bool (isSmall r))∧w'=w:=by
 go_enter Tryz.func135,Tryz.ntmps135
 go_wp2
 all_goals
  go_ret
  refine⟨retB ?_,rfl⟩
  unfold isSmall
  rw[Bool.eq_iff_iff]
  simp
  omega
set_option maxHeartbeats 1000000 in
theorem great_any (r:Int) (w:World) :
  Calls Tryz.prog 136 #[.int .i32 r] w fun e w'=>e=.returned (.bool (isGreat r))∧w'=w:=by
 go_enter Tryz.func136,Tryz.ntmps136
 go_wp2
 all_goals
  go_ret
  refine⟨retB ?_,rfl⟩
  unfold isGreat
  rw[Bool.eq_iff_iff]
  simp
  omega
theorem letter_eq (r:Int):isLetter r=(isSmall r || isGreat r || decide (913≤r∧r≤969)):=by
 unfold isLetter isSmall isGreat
 rw[Bool.eq_iff_iff];simp[or_assoc]
set_option maxHeartbeats 1000000 in
theorem letter_any (r:Int) (w:World) :
  Calls Tryz.prog 120 #[.int .i32 r] w fun e w'=>e=.returned (.bool (isLetter r))∧w'=w:=by
 have hs:=fun W=>small_any r W
 have hg:=fun W=>great_any r W
 rw[letter_eq]
 generalize isSmall r=S at *
 generalize isGreat r=G at *
 cases S <;> cases G
 all_goals
  go_enter Tryz.func120,Tryz.ntmps120
  go_wp2_with (first
   | (go_at_call 135;refine(hs _).mono ?_;rintro e w' ⟨rfl,rfl⟩)
   | (go_at_call 136;refine(hg _).mono ?_;rintro e w' ⟨rfl,rfl⟩))
  all_goals
   go_ret
   refine⟨retB ?_,rfl⟩
   clear hs hg
   first
    | rfl
    | (rw[Bool.eq_iff_iff];simp;omega)
    | (simp;omega)
set_option maxHeartbeats 1000000 in
theorem fits_any (r:Int) (f:Bool) (w:World) :
  Calls Tryz.prog 101 #[.int .i32 r,.bool f] w fun e w'=>e=.returned (.bool (fitsAt f r))∧w'=w:=by
 have hl:=fun W=>letter_any r W
 unfold fitsAt
 generalize isLetter r=L at *
 cases L <;> cases f
 all_goals
  go_enter Tryz.func101,Tryz.ntmps101
  go_wp2_with (go_at_call 120;refine(hl _).mono ?_;rintro e w' ⟨rfl,rfl⟩)
  all_goals
   go_ret
   refine⟨retB ?_,rfl⟩
   clear hl
   unfold isDigit
   first
    | rfl
    | (rw[Bool.eq_iff_iff];simp;omega)
    | (simp_all;done)
    | (simp_all;omega)
set_option maxHeartbeats 2000000 in
theorem name_any (s:ByteArray) (w:World) (hs:s.size<9223372036854775807) :
  Calls Tryz.prog 76 #[.string s] w fun e w'=>e=.returned (.bool (nameOf (runes s)))∧Below w.heap.size w w':=by
 have hF:=fun r f W=>fits_any r f W
 have HN:Hid (nameOf (runes s)=okFrom 0 (rns s s.size 0)):=(okFrom_name (runes s)).symm
 go_enter Tryz.func76,Tryz.ntmps76
 go_wp2
 go_loopw [3] (fun n w'=>∃ (pos b acc:Nat),w'=w.iter s pos∧n=.int .i64 acc∧okFrom 0 (rns s s.size 0)=okFrom acc (rns s b pos)∧s.size≤pos+b∧acc≤40) (fun _ w'=>s.size - w'.iterPos w.heap.size)
 case atStart=>exact⟨0,s.size,0,rfl,rfl,rfl,by omega,by omega⟩
 case round=>
  obtain⟨pos,b,acc,rfl,rfl,hc,hb,ha⟩:=hrel
  have HB:∀ p,Below w.heap.size w (w.iter s p):=fun p=>(Below.refl _ w).alloc (Nat.le_refl _) _
  by_cases hp:pos<s.size
  ·have hnx:∀ ty,(Instr.next (.pointer (some ⟨w.heap.size,0,none⟩)) true ty).run Tryz.prog (w.iter s pos)=_:=fun ty=>run_next_any w s pos ty hp
   have hwd:=width_pos s pos hp
   obtain⟨b,rfl⟩:∃ b',b=b'+1:=⟨b - 1,by omega⟩
   rw[rns_step s b pos hp,okFrom]at hc
   have HC:Hid (nameOf (runes s)=(decide (acc<40)&&fitsAt (acc == 0) ((Utf8.decode s pos).1:Int)&&okFrom (acc+1) (rns s b (pos+(Utf8.decode s pos).2)))):=by
    refine(?_:nameOf (runes s)=_)
    rw[HN.out,hc]
   have HC2:Hid (okFrom 0 (rns s s.size 0)=(decide (acc<40)&&fitsAt (acc == 0) ((Utf8.decode s pos).1:Int)&&okFrom (acc+1) (rns s b (pos+(Utf8.decode s pos).2)))):=hc
   clear hc
   by_cases h40:acc=40
   ·subst h40
    have HX:Hid (nameOf (runes s)=false):=by
     refine(?_:nameOf (runes s)=false)
     rw[HC.out];simp
    clear HC HC2 HN
    go_wp2
    go_ret
    exact⟨retB HX.out.symm,HB _⟩
   ·have hlt:acc<40:=by omega
    have h40':((acc:Int) == 40)=false:=by simp;omega
    have hd:(decide (acc<40))=true:=by simp[hlt]
    rw[hd]at HC HC2
    obtain⟨F,hFF⟩:∃ F,fitsAt (acc == 0) ((Utf8.decode s pos).1:Int)=F:=⟨_,rfl⟩
    have hf:∀ W,Calls Tryz.prog 101 #[.int .i32 ((Utf8.decode s pos).1:Int),.bool ((acc:Int) == 0)] W fun e w'=>e=.returned (.bool F)∧w'=W:=by
     intro W
     have:=hF ((Utf8.decode s pos).1:Int) (acc == 0) W
     rw[hFF]at this
     have e:((acc:Int) == 0)=(acc == 0):=by rw[Bool.eq_iff_iff];simp
     rw[e];exact this
    rw[hFF]at HC HC2
    clear hF hFF hd
    cases F with
    | false=>
     have HX:Hid (nameOf (runes s)=false):=by
      refine(?_:nameOf (runes s)=false)
      rw[HC.out];simp
     clear HC HC2 HN
     go_wp2_with (go_at_call 101;refine(hf _).mono ?_;rintro e w' ⟨rfl,rfl⟩)
     go_ret
     exact⟨retB HX.out.symm,HB _⟩
    | true=>
     have HX:Hid (okFrom 0 (rns s s.size 0)=okFrom (acc+1) (rns s b (pos+(Utf8.decode s pos).2))):=by
      refine(?_:okFrom 0 (rns s s.size 0)=_)
      rw[HC2.out];simp
     clear HC HC2 HN
     go_wp2_with (go_at_call 101;refine(hf _).mono ?_;rintro e w' ⟨rfl,rfl⟩)
     go_roundw
     case rel=>exact⟨pos+(Utf8.decode s pos).2,b,acc+1,rfl,by go_num,HX.out,by omega,by omega⟩
     case measure=>
      simp
      omega
  ·have hnx:∀ ty,(Instr.next (.pointer (some ⟨w.heap.size,0,none⟩)) true ty).run Tryz.prog (w.iter s pos)=_:=fun ty=>run_next_end w s pos ty hp
   have HX:Hid (nameOf (runes s)=decide (0<acc)):=by
    refine(?_:nameOf (runes s)=_)
    rw[HN.out,hc,rns_end s b pos hp,okFrom]
   clear hc HN hF
   by_cases h0:acc=0
   ·subst h0
    go_wp2
    go_ret
    exact⟨retB (by rw[HX.out];simp),HB _⟩
   ·go_wp2
    go_ret
    exact⟨retB (by first | (rw[HX.out];done) | (rw[HX.out];simp;done) | (rw[HX.out];simp;omega)),HB _⟩
open Go.Shelf
def laysM316_ren : Go.Shelf.Ren := ⟨fun | 316 => 87 | n => n, fun | 9 => 9 | 3 => 3 | 4 => 4 | 37 => 27 | 0 => 0 | 127 => 188 | 5 => 5 | n => n, fun | n => n⟩
theorem laysM316 : Go.Proofs.LaysM.n316 Tryz.prog laysM316_ren := {
  mixed := by kernel_rfl
  f316 := Tryz.func87.trans (congrArg some (by kernel_rfl))
  t0 := Tryz.underlying0
  a0 := Tryz.isAgg0
  z0 := Tryz.sizeOf0
  v0 := Tryz.zeroValue0
  t3 := Tryz.underlying3
  a3 := Tryz.isAgg3
  z3 := Tryz.sizeOf3
  v3 := Tryz.zeroValue3
  t4 := Tryz.underlying4
  a4 := Tryz.isAgg4
  z4 := Tryz.sizeOf4
  v4 := Tryz.zeroValue4
  t9 := Tryz.underlying9
  a9 := Tryz.isAgg9
  z9 := Tryz.sizeOf9
  v9 := Tryz.zeroValue9
  t37 := Tryz.underlying27
  a37 := Tryz.isAgg27
  z37 := Tryz.sizeOf27
  v37 := Tryz.zeroValue27
  t127 := Tryz.underlying188
  a127 := Tryz.isAgg188
  z127 := Tryz.sizeOf188
  v127 := Tryz.zeroValue188
  t5 := Tryz.underlying5
  a5 := Tryz.isAgg5
  z5 := Tryz.sizeOf5
  v5 := Tryz.zeroValue5
  i0 := by kernel_rfl
  i3 := by kernel_rfl
  i4 := by kernel_rfl
  i5 := by kernel_rfl
  i9 := by kernel_rfl
  i37 := by kernel_rfl
  i127 := by kernel_rfl }
open Go.RowKit in
theorem stringslite_Clone (s : ByteArray) (w : World) (hlim : s.size ≤ 281474976710656) :
    Calls Tryz.prog 87 #[.string s] w fun e w' => e = .returned (.string s) ∧ Below w.heap.size w w' := Any.stringslite_Clone laysM316 s w hlim
def lays138_ren : Go.Shelf.Ren := ⟨fun | 138 => 133 | 195 => 140 | 218 => 142 | 143 => 134 | 219 => 143 | 217 => 145 | 225 => 146 | 224 => 147 | 267 => 148 | 266 => 149 | 314 => 150 | n => n, fun | 9 => 9 | 3 => 3 | 4 => 4 | 5 => 5 | 0 => 0 | 46 => 44 | 146 => 218 | 51 => 196 | n => n, fun | 1 => 2 | n => n⟩
theorem lays138 : Go.Proofs.Lays.n138 Tryz.prog lays138_ren := {
  mixed := by kernel_rfl
  f138 := Tryz.func133.trans (congrArg some (by kernel_rfl))
  f143 := Tryz.func134.trans (congrArg some (by kernel_rfl))
  f195 := Tryz.func140.trans (congrArg some (by kernel_rfl))
  f217 := Tryz.func145.trans (congrArg some (by kernel_rfl))
  f218 := Tryz.func142.trans (congrArg some (by kernel_rfl))
  f219 := Tryz.func143.trans (congrArg some (by kernel_rfl))
  f224 := Tryz.func147.trans (congrArg some (by kernel_rfl))
  f225 := Tryz.func146.trans (congrArg some (by kernel_rfl))
  f266 := Tryz.func149.trans (congrArg some (by kernel_rfl))
  f267 := Tryz.func148.trans (congrArg some (by kernel_rfl))
  f314 := Tryz.func150.trans (congrArg some (by kernel_rfl))
  t0 := Tryz.underlying0
  a0 := Tryz.isAgg0
  z0 := Tryz.sizeOf0
  v0 := Tryz.zeroValue0
  t3 := Tryz.underlying3
  a3 := Tryz.isAgg3
  z3 := Tryz.sizeOf3
  v3 := Tryz.zeroValue3
  t4 := Tryz.underlying4
  a4 := Tryz.isAgg4
  z4 := Tryz.sizeOf4
  v4 := Tryz.zeroValue4
  t5 := Tryz.underlying5
  a5 := Tryz.isAgg5
  z5 := Tryz.sizeOf5
  v5 := Tryz.zeroValue5
  t9 := Tryz.underlying9
  a9 := Tryz.isAgg9
  z9 := Tryz.sizeOf9
  v9 := Tryz.zeroValue9
  t46 := Tryz.underlying44
  a46 := Tryz.isAgg44
  z46 := Tryz.sizeOf44
  v46 := Tryz.zeroValue44
  t51 := Tryz.underlying196
  a51 := Tryz.isAgg196
  z51 := Tryz.sizeOf196
  v51 := Tryz.zeroValue196
  t146 := Tryz.underlying218
  a146 := Tryz.isAgg218
  z146 := Tryz.sizeOf218
  v146 := Tryz.zeroValue218
  g1 := by kernel_rfl }
open Go.RowKit Go.Lib in
theorem strings_Count_one (s : ByteArray) (c : UInt8) (w : World) :
    Calls Tryz.prog 133 #[.string s, .string ⟨#[c]⟩] w fun e w' => e = .returned (.int .i64 (Lib.countByte s.data.toList c)) ∧ w' = w := Any.strings_Count_one lays138 s c w
set_option maxHeartbeats 2000000 in
theorem reservedD_any (s:ByteArray) (w:World) :
  Calls Tryz.prog 77 #[.string s] w fun e w'=>e=.returned (.bool (resOf s.toList))∧w'=w:=by
 go_enter Tryz.func77,Tryz.ntmps77
 go_wp2
 all_goals
  go_ret
  refine⟨retB ?_,rfl⟩
  unfold resOf scalarOf
  first
   | (simp[*];done)
   | simp_all
def rn (l:List UInt8):Int:=((Lib.decodeL l).1:Int)
theorem mkB_size (l:List UInt8):(mkB l).size=l.length:=by
 have:=len_data (mkB l)
 rw[←this];rfl
theorem cloneB_any (s:ByteArray) (w:World) (hs:s.size≤281474976710656) :
  Calls Tryz.prog 57 #[.string s] w fun e w'=>e=.returned (.string s)∧Below w.heap.size w w':=by
 have h:=stringslite_Clone s w hs
 go_enter Tryz.func57,Tryz.ntmps57
 go_wp2_with fail
 refine h.mono ?_
 rintro e w1 ⟨rfl,hb⟩
 go_wp2_with fail
 go_ret
 exact⟨rfl,hb⟩
abbrev Sy:=List UInt8 × Int
/-! P7.2: a whole name means itself -/
def ahead (S:List UInt8):List UInt8:=if S=[] then [] else S++[46]
structure FD where
 num:Int
 name:List UInt8
 kind:Int
 rep:Bool
 type:Int
structure MD where
 name:List UInt8
 fields:List FD
structure VD where
 name:List UInt8
 num:Int
structure ED where
 name:List UInt8
 values:List VD
structure TD where
 id:Int
 service:List UInt8
 name:List UInt8
 inp:Int
 out:Int
structure SC where
 ms:List MD
 es:List ED
 ts:List TD
theorem take_snoc {α:Type} {l:List α} {j:Nat} {x:α} (h:l[j]? = some x):l.take (j+1)=l.take j++[x]:=by
 rw[List.take_add_one,h];rfl

def fnOK (n:Int):Bool:=decide (1≤n∧n≤536870911∧(n<19000∨19999<n))
/-! the tables -/
/-! rings -/
def Goes (ms:List MD) (a b:Nat):Prop:=∃ m,ms[a]? = some m∧∃ f,f∈m.fields∧f.kind=10∧f.rep=false∧f.type=(b:Int)
def Ring (ms:List MD) (t:Nat):Prop:=Relation.TransGen (Goes ms) t t
end Go.Proofs.YteajlfgbmefncaaGreatDoor
