/-
  Walks and plain words (PsW PrM DpR Dev DpA).
-/
import Derived.Test.YtpojeinddnjpfaaGreatDoorM1
import Derived.Laws.AppendOwn
import Derived.OwnWalk
import Derived.Maps.AppendAt
import Derived.BigQuiet
import Derived.Deep.QuietTactic
import Derived.Deep.AppendLies
import Derived.Lib.Hide
import Derived.Test.YtpojeinddnjpfaaGreatDoorM0
import Derived.Lib.ItoaMem
import Derived.Lib.ItoaLen
import Derived.Test.YtpojeinddnjpfaaGreatDoorProg
import Derived.Deep.Cut
import Derived.Deep.DeepCutAuto
namespace Go.Proofs.YtpojeinddnjpfaaGreatDoor
set_option linter.unusedVariables false
open Go.ChangeShapes Go.WideShapes Go.ChangeAt Go.RowKit

theorem aG {w:World} {R j:Nat} {cs:Array Value} {t:TypeId} {fr:Nat × Nat} (h:w.heap[R]? = some (.cells cs t fr)) (x:Value):(w.setCell ⟨R,j,none⟩ x).heap[R]? = some (.cells (cs.setIfInBounds j x) t fr):=by
 rw[setCell_eq_setRow _ _ _ _ _ _ _ h,setRow_heap w R _ _ _ _ h]
theorem aD (w:World) (o:Obj) (k:Nat) (h:k<w.heap.size):(w.alloc o).heap[k]? = w.heap[k]?:=Below.heap_alloc w o k h
theorem alloc_heap_new (w:World) (o:Obj):(w.alloc o).heap[w.heap.size]? = some o:=by
 show (w.heap.push o)[w.heap.size]? = _
 simp
theorem grownBy_set (w:World) (R j:Nat) (x:Value):w.grownBy (w.setCell ⟨R,j,none⟩ x) (some R):=
 have b:=(Below.refl R w).setCell (p:=⟨R,j,none⟩) (Nat.le_refl _) x
 ⟨b.os,b.tape,b.output,b.size,fun k hk hne=>Below.heap_setCell _ _ _ _ (fun e=>hne (by rw[e]))⟩
theorem grownBy_drew (w:World) (row:Option Nat):w.grownBy w.drew row:=⟨rfl,rfl,rfl,Nat.le_refl _,fun _ _ _=>rfl⟩
theorem grownBy_below {w w':World} (h:Below w.heap.size w w') (row:Option Nat):w.grownBy w' row:=⟨h.os,h.tape,h.output,h.size,fun k hk _=>h.block k hk⟩
theorem cT {a b c:World} {row row':Option Nat} (h:a.grownBy b row) (k:b.grownBy c row') (hr:∀ j,row'=some j→a.heap.size≤j∨row=some j):a.grownBy c row:=
 ⟨k.os.trans h.os,k.tape.trans h.tape,k.output.trans h.output,Nat.le_trans h.size k.size,fun i hi hne=>(k.block i (Nat.lt_of_lt_of_le hi h.size) (fun e=>by
  rcases hr i e.symm with h1 | h1
  ·omega
  ·exact hne h1.symm)).trans (h.block i hi hne)⟩

def dE (w:World) (R:Nat) (ad:Option Addr) (l:List Wd):Prop:=
 l=[]∨∃ g o,ad=some ⟨g,o,none⟩∧g<R∧∀ (j:Nat) (x:Wd),l[j]? = some x→w.cell? ⟨g,o+j*4,none⟩=some (.int .i64 x.kind)∧w.cell? ⟨g,o+(j*4+1),none⟩=some (.string (aC x.text))∧
  w.cell? ⟨g,o+(j*4+2),none⟩=some (.int .i64 (x.line:Int))∧w.cell? ⟨g,o+(j*4+3),none⟩=some (.int .i64 (x.col:Int))
def Sj (x:Wd):Prop:=x.text.length≤20000∧(x.kind=2→x.text.all cJ=true∧x.text.length≤10)
theorem dE.old {w w':World} {R:Nat} {ad:Option Addr} {l:List Wd} (h:dE w R ad l) (hb:∀ k,k<R→w'.heap[k]? = w.heap[k]?):dE w' R ad l:=by
 rcases h with h | ⟨g,o,rfl,hg,h⟩
 ·exact .inl h
 ·refine .inr ⟨g,o,rfl,hg,fun j x hj=>?_⟩
  obtain⟨h1,h2,h3,h4⟩:=h j x hj
  have e:=hb g hg
  exact⟨by rw[World.cell?_of_block e];exact h1,by rw[World.cell?_of_block e];exact h2,by rw[World.cell?_of_block e];exact h3,by rw[World.cell?_of_block e];exact h4⟩
theorem dE.head {w:World} {R:Nat} {ad:Option Addr} {x:Wd} {t:List Wd} (h:dE w R ad (x :: t)):∃ g o,ad=some ⟨g,o,none⟩∧g<R∧w.cell? ⟨g,o,none⟩=some (.int .i64 x.kind)∧w.cell? ⟨g,o+1,none⟩=some (.string (aC x.text))∧
  w.cell? ⟨g,o+2,none⟩=some (.int .i64 (x.line:Int))∧w.cell? ⟨g,o+3,none⟩=some (.int .i64 (x.col:Int)):=by
 rcases h with h | ⟨g,o,rfl,hg,h⟩
 ·cases h
 ·have:=h 0 x rfl
  exact⟨g,o,rfl,hg,this⟩
theorem dE.tail {w:World} {R:Nat} {ad:Option Addr} {x:Wd} {t:List Wd} (h:dE w R ad (x :: t)) {g o:Nat} (ha:ad=some ⟨g,o,none⟩) (sL:Option Addr) (hd:t=[]∨sL=some ⟨g,o+4,none⟩):dE w R sL t:=by
 rcases hd with hd | hd
 ·exact .inl hd
 ·rcases h with h | ⟨g',o',ha',hg,h⟩
  ·cases h
  ·rw[ha]at ha'
   simp only[Option.some.injEq,Addr.mk.injEq]at ha'
   obtain⟨rfl,rfl,_⟩:=ha'
   refine .inr ⟨g,o+4,hd,hg,fun j y hj=>?_⟩
   have:=h (j+1) y (by simpa using hj)
   rw[show o+(j+1)*4=o+4+j*4 by omega,show o+((j+1)*4+1)=o+4+(j*4+1)by omega,show o+((j+1)*4+2)=o+4+(j*4+2)by omega,show o+((j+1)*4+3)=o+4+(j*4+3)by omega]at this
   exact this
theorem Rd.Yx {r:Rd} {t:List UInt8} (h:r.is t=true):∃ y l,r.l=y :: l:=by
 have:=(Rd.Sh h).2.1
 cases hl:r.l with
 | nil=>exact absurd hl this
 | cons y l=>exact⟨y,l,rfl⟩
theorem Rd.Nu {r:Rd} (h:r.isName=true):∃ y l,r.l=y :: l∧r.e=0∧y.kind=1∧gJ y.text=false:=by
 unfold Rd.isName at h
 cases hl:r.l with
 | nil=>rw[hl]at h;simp at h
 | cons y l=>
  rw[hl]at h
  simp only[Bool.and_eq_true,decide_eq_true_iff,Bool.not_eq_true']at h
  exact⟨y,l,rfl,h.1,h.2.1,h.2.2⟩
theorem aDn {w:World} {B:Nat} {T:TypeId} {z0 z1 z2 z3 z4 z5 z6 z7:Value} (h:w.heap[B]? = some (.cells #[z0,z1,z2,z3,z4,z5,z6,z7] T (0,0))) (x0 x1 x2 x3 x4 x5 x6 x7:Value) :
  ((((((((w.setCell ⟨B,0,none⟩ x0).setCell ⟨B,1,none⟩ x1).setCell ⟨B,2,none⟩ x2).setCell ⟨B,3,none⟩ x3).setCell ⟨B,4,none⟩ x4).setCell ⟨B,5,none⟩ x5).setCell ⟨B,6,none⟩ x6).setCell ⟨B,7,none⟩ x7).heap[B]? = some (.cells #[x0,x1,x2,x3,x4,x5,x6,x7] T (0,0)):=by
 have h1:(w.setCell ⟨B,0,none⟩ x0).heap[B]? = some (.cells #[x0,z1,z2,z3,z4,z5,z6,z7] T (0,0)):=aG h _
 have h2:((w.setCell ⟨B,0,none⟩ x0).setCell ⟨B,1,none⟩ x1).heap[B]? = some (.cells #[x0,x1,z2,z3,z4,z5,z6,z7] T (0,0)):=aG h1 _
 have h3:(((w.setCell ⟨B,0,none⟩ x0).setCell ⟨B,1,none⟩ x1).setCell ⟨B,2,none⟩ x2).heap[B]? = some (.cells #[x0,x1,x2,z3,z4,z5,z6,z7] T (0,0)):=aG h2 _
 have h4:((((w.setCell ⟨B,0,none⟩ x0).setCell ⟨B,1,none⟩ x1).setCell ⟨B,2,none⟩ x2).setCell ⟨B,3,none⟩ x3).heap[B]? = some (.cells #[x0,x1,x2,x3,z4,z5,z6,z7] T (0,0)):=aG h3 _
 have h5:(((((w.setCell ⟨B,0,none⟩ x0).setCell ⟨B,1,none⟩ x1).setCell ⟨B,2,none⟩ x2).setCell ⟨B,3,none⟩ x3).setCell ⟨B,4,none⟩ x4).heap[B]? = some (.cells #[x0,x1,x2,x3,x4,z5,z6,z7] T (0,0)):=aG h4 _
 have h6:((((((w.setCell ⟨B,0,none⟩ x0).setCell ⟨B,1,none⟩ x1).setCell ⟨B,2,none⟩ x2).setCell ⟨B,3,none⟩ x3).setCell ⟨B,4,none⟩ x4).setCell ⟨B,5,none⟩ x5).heap[B]? = some (.cells #[x0,x1,x2,x3,x4,x5,z6,z7] T (0,0)):=aG h5 _
 have h7:(((((((w.setCell ⟨B,0,none⟩ x0).setCell ⟨B,1,none⟩ x1).setCell ⟨B,2,none⟩ x2).setCell ⟨B,3,none⟩ x3).setCell ⟨B,4,none⟩ x4).setCell ⟨B,5,none⟩ x5).setCell ⟨B,6,none⟩ x6).heap[B]? = some (.cells #[x0,x1,x2,x3,x4,x5,x6,z7] T (0,0)):=aG h6 _
 have h8:((((((((w.setCell ⟨B,0,none⟩ x0).setCell ⟨B,1,none⟩ x1).setCell ⟨B,2,none⟩ x2).setCell ⟨B,3,none⟩ x3).setCell ⟨B,4,none⟩ x4).setCell ⟨B,5,none⟩ x5).setCell ⟨B,6,none⟩ x6).setCell ⟨B,7,none⟩ x7).heap[B]? = some (.cells #[x0,x1,x2,x3,x4,x5,x6,x7] T (0,0)):=aG h7 _
 exact h8
theorem aE {w:World} {base:Nat} {E:TypeId} {k n:Nat} {v:Value} {xs:List Value} (h:w.ownsRow base E k v n xs):∀ b,v.ownBlock=some b→base≤b∧b<w.heap.size:=by
 intro b hb
 obtain⟨_,⟨rfl,_⟩ | ⟨g,cap,cur,rfl,hg,hh,_⟩⟩:=h
 ·simp[Value.ownBlock]at hb
 ·simp[Value.ownBlock]at hb
  have:=(Array.getElem?_eq_some_iff.1 hh).1
  omega
theorem aO {w:World} {base:Nat} {E:TypeId} {k n:Nat} {v:Value} {xs:List Value} (h:w.ownsRow base E k v n xs):∃ a c,v=.slice a n c:=by
 obtain⟨_,⟨rfl,h0⟩ | ⟨g,cap,cur,rfl,_⟩⟩:=h
 ·exact⟨none,0,by rw[h0]⟩
 ·exact⟨_,_,rfl⟩
theorem aR {w w':World} {base:Nat} {E:TypeId} {k n:Nat} {v:Value} {xs:List Value} (h:w.ownsRow base E k v n xs) (hh:∀ b,v.ownBlock=some b→w'.heap[b]? = w.heap[b]?):w'.ownsRow base E k v n xs:=by
 obtain⟨h1,h2 | ⟨g,cap,cur,hv,hg,hhp,r⟩⟩:=h
 ·exact⟨h1,.inl h2⟩
 ·exact⟨h1,.inr ⟨g,cap,cur,hv,hg,by rw[hh g (by rw[hv];rfl)];exact hhp,r⟩⟩
abbrev z8:Array Value:=#[.int .i64 0,.string ⟨#[]⟩,.int .i64 0,.int .i64 0,.slice none 0 0,.slice none 0 0,.slice none 0 0,.slice none 0 0]
theorem mA (en:Int × Int) (f:Nat) (r:Rd) (acc:List Vl) (h:¬(r.e=0∧r.is [125]=false)):dX en f r acc=(acc,r):=by
 cases f with
 | zero=>rfl
 | succ f=>rw[dX,if_neg h]
theorem Hz (en:Int × Int) (f:Nat) (r:Rd) (acc:List Vl) (h:r.e=0∧r.is [125]=false):dX en (f+1) r acc=dX en f (r.value en).2 (acc++[(r.value en).1]):=by
 rw[dX,if_pos h]
theorem kX (en:Int × Int) (f:Nat) (r:Rd) (acc:List Mt) (h:¬(r.e=0∧r.is [125]=false)):dA en f r acc=(acc,r):=by
 cases f with
 | zero=>rfl
 | succ f=>rw[dA,if_neg h]
theorem Dk (en:Int × Int) (f:Nat) (r:Rd) (acc:List Mt) (h:r.e=0∧r.is [125]=false):dA en (f+1) r acc=dA en f (r.method en).2 (acc++[(r.method en).1]):=by
 rw[dA,if_pos h]
theorem mB (en:Int × Int) (msg:Rd→Dc × Rd) (f:Nat) (r:Rd) (fs:List Fd) (ds:List Dc) (h:¬(r.e=0∧r.is [125]=false)):fN en msg f r fs ds=((fs,ds),r):=by
 cases f with
 | zero=>rfl
 | succ f=>rw[fN,if_neg h]
theorem Sk (en:Int × Int) (msg:Rd→Dc × Rd) (f:Nat) (r:Rd) (fs:List Fd) (ds:List Dc) (h:r.e=0∧r.is [125]=false):fN en msg (f+1) r fs ds =
  (if r.is bA=true then fN en msg f (msg r).2 fs (ds++[(msg r).1]) else if r.is cZ=true then fN en msg f (r.enum en).2 fs (ds++[(r.enum en).1]) else fN en msg f (r.field en).2 (fs++[(r.field en).1]) ds):=by
 rw[fN,if_pos h]
theorem iL (en:Int × Int) (f:Nat) (r:Rd) (acc:List Dc) (h:¬(r.e=0∧r.l≠[])):dU en f r acc=(acc,r):=by
 cases f with
 | zero=>rfl
 | succ f=>rw[dU,if_neg h]
theorem yU (en:Int × Int) (f:Nat) (r:Rd) (acc:List Dc) (h:r.e=0∧r.l≠[]):dU en (f+1) r acc =
  (if r.is bA=true then dU en f (r.message en 1).2 (acc++[(r.message en 1).1])
   else if r.is cZ=true then dU en f (r.enum en).2 (acc++[(r.enum en).1])
   else if r.is bQ=true then dU en f (r.service en).2 (acc++[(r.service en).1])
   else dU en f (r.fail 7 (r.here en)) acc):=by
 rw[dU,if_pos h]
theorem Nv (l:List UInt8):(cG l).1.length≤4000:=by
 unfold cG
 split
 ·simp
 ·exact jN _ _ _ _ _ (by simp)
theorem Ia (l:List UInt8):∀ x∈(cG l).1,Sj x:=by
 intro x hx
 refine⟨Cy l x hx,fun hk=>?_⟩
 have hok:vR x:=by
  unfold cG at hx
  split at hx
  ·simp at hx
  ·exact oN _ _ _ _ _ (by simp) x hx
 rcases hok with ⟨h1,_⟩ | ⟨_,_,h2⟩ | ⟨h3,_⟩
 ·omega
 ·rw[Bool.and_eq_true]at h2
  refine⟨h2.1,?_⟩
  have h3:=h2.2
  unfold pC at h3
  rw[Bool.and_eq_true,Bool.and_eq_true,decide_eq_true_iff]at h3
  exact h3.1.1
 ·omega
theorem Dn (l:List UInt8) (h:(cG l).2.2=0):l.length≤20000:=by
 unfold cG at h
 split at h
 ·exact absurd h (by decide)
 ·omega
theorem Rd.Nw {r:Rd} (h:r.kW=true):∃ y l,r.l=y :: l∧r.e=0∧0<bP y.text:=by
 unfold Rd.kW at h
 cases hl:r.l with
 | nil=>rw[hl]at h;simp at h
 | cons y l=>
  rw[hl]at h
  simp only[Bool.and_eq_true,decide_eq_true_iff]at h
  exact⟨y,l,rfl,h.1,h.2⟩
abbrev z6:Array Value:=#[.bool false,.string ⟨#[]⟩,.string ⟨#[]⟩,.int .i64 0,.int .i64 0,.int .i64 0]
theorem Sl:∀ (rs:List (List Value)) (j:Nat) (r:List Value) (i:Nat),(∀ r∈rs,r.length=8)→i<8→rs[j]? = some r→(rs.flatMap id)[j*8+i]? = r[i]?
 | [],j,r,i,h8,hi,h=>by simp at h
 | a :: t,0,r,i,h8,hi,h=>by
  have e:a=r:=by simpa using h
  subst e
  rw[List.flatMap_cons,Nat.zero_mul,Nat.zero_add,List.getElem?_append_left (by show i<(id a).length;rw[show (id a).length=8 from h8 a (by simp)];exact hi)];rfl
 | a :: t,j+1,r,i,h8,hi,h=>by
  have ha:(id a).length=8:=h8 a (by simp)
  rw[List.flatMap_cons,List.getElem?_append_right (by rw[ha];omega),ha,show (j+1)*8+i - 8=j*8+i by omega]
  exact Sl t j r i (fun x hx=>h8 x (by simp[hx])) hi (by simpa using h)
theorem Rd.Ar (r:Rd):r.m≤r.l.length+1:=by
 unfold Rd.m;split <;> omega
theorem Lx (a b:List UInt8):aC (a++b)=aC a++aC b:=by
 apply ByteArray.ext
 show (a++b).toArray=(aC a++aC b).data
 rw[ByteArray.data_append]
 simp[aC]
theorem As (l:List UInt8):(aC l).size=l.length:=by rw[←bC];rfl
theorem Rd.m_pos {r:Rd} {t:List UInt8} (h:r.is t=true):1≤r.m:=by
 unfold Rd.m;rw[if_pos (Rd.Sh h).1];omega
theorem Sm (en first:Int × Int) (f n:Nat) (s:List UInt8) (r:Rd) (h:r.is [46]=true):mR en first (f+1) n s r=mR en first f (n+1) (s++[46]++(r.take en [46]).aL) (if n=8 then ((r.take en [46]).name en).fail 8 first else (r.take en [46]).name en):=by
 rw[mR,if_pos h]
theorem Rd.Ib (r:Rd) (e:Int) (p:Int × Int) (he:e≠0):(r.fail e p).e≠0:=by
 unfold Rd.fail
 split
 ·exact he
 ·assumption
def rdM (w:World) (R:Nat):Nat:=
 match w.cell? ⟨R,5,none⟩,w.cell? ⟨R,0,none⟩with
 | some (.int _ e),some (.slice _ n _)=>if e=0 then n+1 else 0
 | _,_=>0
theorem mS {w w':World} {R G:Nat} {o:Obj} (h:w.heap[G]? = some o) (hg:w.grownBy w' (some R)) (hne:R≠G):w'.heap[G]? = some o:=by
 rw[hg.block G (Array.getElem?_eq_some_iff.1 h).1 (by intro e;cases e;exact hne rfl)];exact h
def dval (kind:Int) (nm:List UInt8) (l c:Int) (fs vs ms ins:Value):Value:=.agg #[.int .i64 kind,.string (aC nm),.int .i64 l,.int .i64 c,fs,vs,ms,ins]
def Ci (x:Fd):Bool:=sG x.type&&aZ x.name&&eF x.num
def Cj (x:Vl):Bool:=aZ x.name&&eF x.num
def Ck (x:Mt):Bool:=aZ x.name&&cF x.inp&&cF x.out
def oQ:Nat→Nat→List Dc→Bool
 | 0,k,ds=>ds.isEmpty
 | f+1,k,ds=>ds.all fun d=>aZ d.name&&
   (if d.kind=1 then decide (k<8)&&d.values.isEmpty&&d.methods.isEmpty&&d.fields.all Ci&&oQ f (k+1) d.inner
   else if d.kind=2 then d.fields.isEmpty&&d.methods.isEmpty&&d.inner.isEmpty&&d.values.all Cj
   else if d.kind=3 then decide (k=0)&&d.fields.isEmpty&&d.values.isEmpty&&d.inner.isEmpty&&d.methods.all Ck
   else false)
def Ly (f k:Nat) (d:Dc):Bool:=aZ d.name&&
   (if d.kind=1 then decide (k<8)&&d.values.isEmpty&&d.methods.isEmpty&&d.fields.all Ci&&oQ f (k+1) d.inner
   else if d.kind=2 then d.fields.isEmpty&&d.methods.isEmpty&&d.inner.isEmpty&&d.values.all Cj
   else if d.kind=3 then decide (k=0)&&d.fields.isEmpty&&d.values.isEmpty&&d.inner.isEmpty&&d.methods.all Ck
   else false)
theorem lG (f k:Nat) (ds:List Dc):oQ (f+1) k ds=ds.all (Ly f k):=rfl

/-! the words -/
/-! numbers -/
/-! paths -/
theorem lH {f k:Nat} {d:Dc} (h:Ly f k d=true):aZ d.name=true∧(d.kind=1∨d.kind=2∨d.kind=3)∧(d.fields.all Ci=true)∧(d.values.all Cj=true)∧(d.methods.all Ck=true)∧(d.kind=1→k<8∧oQ f (k+1) d.inner=true∧d.values=[]∧d.methods=[])∧(d.kind≠1→d.inner=[]∧d.fields=[])∧(d.kind=3→k=0∧d.values=[])∧(d.kind=2→d.methods=[]):=by
 unfold Ly at h
 rw[Bool.and_eq_true]at h
 obtain⟨h0,h⟩:=h
 refine⟨h0,?_⟩
 by_cases h1:d.kind=1
 ·rw[if_pos h1]at h
  simp only[Bool.and_eq_true,List.isEmpty_iff,decide_eq_true_iff]at h
  obtain⟨⟨⟨⟨a,b⟩,c⟩,e⟩,g⟩:=h
  exact⟨.inl h1,e,by rw[b];rfl,by rw[c];rfl,fun _=>⟨a,g,b,c⟩,fun n=>absurd h1 n,fun n=>by omega,fun n=>by omega⟩
 ·rw[if_neg h1]at h
  by_cases h2:d.kind=2
  ·rw[if_pos h2]at h
   simp only[Bool.and_eq_true,List.isEmpty_iff]at h
   obtain⟨⟨⟨a,b⟩,c⟩,e⟩:=h
   exact⟨.inr (.inl h2),by rw[a];rfl,e,by rw[b];rfl,fun n=>absurd n h1,fun _=>⟨c,a⟩,fun n=>by omega,fun _=>b⟩
  ·rw[if_neg h2]at h
   by_cases h3:d.kind=3
   ·rw[if_pos h3]at h
    simp only[Bool.and_eq_true,List.isEmpty_iff,decide_eq_true_iff]at h
    obtain⟨⟨⟨⟨a,b⟩,c⟩,e⟩,g⟩:=h
    exact⟨.inr (.inr h3),by rw[b];rfl,by rw[c];rfl,g,fun n=>absurd n h1,fun _=>⟨e,b⟩,fun _=>⟨a,c⟩,fun n=>by omega⟩
   ·rw[if_neg h3]at h;cases h
theorem rB {f k:Nat} {d:Dc} (h:Ly f k d=true):oQ f (k+1) d.inner=true:=by
 obtain⟨_,hk,_,_,_,h1,h2,_⟩:=lH h
 by_cases h':d.kind=1
 ·exact(h1 h').2.1
 ·rw[(h2 h').1];cases f <;> rfl
def aCd (x:Wd):Prop:=Sj x∧(x.kind=2→x.text≠[])
structure bW (w:World) (R:Nat) (en:Int × Int) (r:Rd):Prop where
 cells:∃ ad c,w.heap[R]? = some (.cells #[.slice ad r.l.length c,.int .i64 en.1,.int .i64 en.2,.int .i64 r.pl,.int .i64 r.pc,.int .i64 r.e] 145 (0,0))∧r.l.length≤c∧dE w R ad r.l
 good:∀ x∈r.l,aCd x
 few:r.l.length≤4000
theorem bW.lt {w:World} {R:Nat} {en:Int × Int} {r:Rd} (h:bW w R en r):R<w.heap.size:=by
 obtain⟨ad,c,hc,_⟩:=h.cells
 exact(Array.getElem?_eq_some_iff.1 hc).1
theorem bW.old {w w':World} {R:Nat} {en:Int × Int} {r:Rd} (h:bW w R en r) (hb:∀ k,k<R+1→w'.heap[k]? = w.heap[k]?):bW w' R en r:=by
 obtain⟨ad,c,hc,hl,hw⟩:=h.cells
 exact⟨⟨ad,c,by rw[hb R (by omega)];exact hc,hl,hw.old fun k hk=>hb k (by omega)⟩,h.good,h.few⟩
theorem bW.below {w w':World} {R:Nat} {en:Int × Int} {r:Rd} (h:bW w R en r) (hb:Below w.heap.size w w'):bW w' R en r:=
 h.old fun k hk=>hb.block k (by have:=h.lt;omega)
theorem bW.alloc {w:World} {R:Nat} {en:Int × Int} {r:Rd} (h:bW w R en r) (o:Obj):bW (w.alloc o) R en r:=h.below ((Below.refl _ w).alloc (Nat.le_refl _) o)
theorem bW.drew {w:World} {R:Nat} {en:Int × Int} {r:Rd} (h:bW w R en r):bW w.drew R en r:=h.old fun _ _=>rfl
theorem bW.far {w:World} {R:Nat} {en:Int × Int} {r:Rd} (h:bW w R en r) (g j:Nat) (hg:R<g) (x:Value):bW (w.setCell ⟨g,j,none⟩ x) R en r:=
 h.old fun k hk=>Below.heap_setCell _ _ _ _ (by show k≠g;omega)
theorem bW.get {w:World} {R:Nat} {en:Int × Int} {r:Rd} (h:bW w R en r):∃ ad c,r.l.length≤c∧dE w R ad r.l∧
  w.heap[R]? = some (.cells #[.slice ad r.l.length c,.int .i64 en.1,.int .i64 en.2,.int .i64 r.pl,.int .i64 r.pc,.int .i64 r.e] 145 (0,0))∧
  w.cell? ⟨R,0,none⟩=some (.slice ad r.l.length c)∧w.cell? ⟨R,1,none⟩=some (.int .i64 en.1)∧w.cell? ⟨R,2,none⟩=some (.int .i64 en.2)∧w.cell? ⟨R,3,none⟩=some (.int .i64 r.pl)∧w.cell? ⟨R,4,none⟩=some (.int .i64 r.pc)∧w.cell? ⟨R,5,none⟩=some (.int .i64 r.e)∧
  (∀ j,w.frozen? ⟨R,j,none⟩=false):=by
 obtain⟨ad,c,hc,hl,hw⟩:=h.cells
 refine⟨ad,c,hl,hw,hc,?_,?_,?_,?_,?_,?_,?_⟩
 all_goals simp[World.cell?,World.frozen?,hc]
theorem qA (g o n c:Nat) (h:n+1≤c):∃ sL,(n=0∨sL=some ⟨g,o+4,none⟩)∧∀ W,(Instr.slice 140 (.slice (some ⟨g,o,none⟩) (n+1) c) (some (.int .i64 1)) none none).run Tryz.prog W=.ok (.slice sL n (c - 1)) W:=by
 have hsz:∀ W,(sizeOf (Tryz.prog.elem 140)).run Tryz.prog W=.ok 4 W:=fun W=>by
  have:(Tryz.prog.info? (Tryz.prog.elem 140)).map (fun i=>i.size)=some 4:=by kernel_rfl
  obtain⟨i,hi,hs⟩:=Option.map_eq_some_iff.1 this
  simp[sizeOf,typeInfo,hi,hs]
 by_cases hc:c=1
 ·subst hc
  obtain rfl:n=0:=by omega
  refine⟨some ⟨g,o,none⟩,.inl rfl,fun W=>?_⟩
  rw[run_slice_l (P:=Tryz.prog) W 140 _ _ _ (by kernel_rfl) .i64 1 (by decide) (by decide),hsz]
  simp[Result.andThen,sliced]
 ·refine⟨some ⟨g,o+4,none⟩,.inr rfl,fun W=>?_⟩
  rw[run_slice_l (P:=Tryz.prog) W 140 _ _ _ (by kernel_rfl) .i64 1 (by decide) (by omega),hsz]
  have ea:(⟨g,o,none⟩:Addr).add 4=⟨g,o+4,none⟩:=by unfold Addr.add;split <;> simp_all
  simp[Result.andThen,sliced,hc,ea]
theorem bW.tail {w:World} {R:Nat} {en:Int × Int} {r:Rd} (h:bW w R en r) {y:Wd} {t:List Wd} (hrl:r.l=y :: t) {g o c:Nat}
  (hc:w.heap[R]? = some (.cells #[.slice (some ⟨g,o,none⟩) r.l.length c,.int .i64 en.1,.int .i64 en.2,.int .i64 r.pl,.int .i64 r.pc,.int .i64 r.e] 145 (0,0))) (hw:dE w R (some ⟨g,o,none⟩) r.l) (hl:r.l.length≤c)
  (sL:Option Addr) (hd:t.length=0∨sL=some ⟨g,o+4,none⟩):bW (w.setCell ⟨R,0,none⟩ (.slice sL t.length (c - 1))) R en r.tail:=by
 have e:r.tail.l=t:=by unfold Rd.tail;rw[hrl];rfl
 refine⟨⟨sL,c - 1,?_,?_,?_⟩,?_,?_⟩
 ·rw[aG hc,e];rfl
 ·rw[e];rw[hrl]at hl;simp at hl;omega
 ·rw[e]
  refine dE.old (w:=w) ?_ fun k hk=>Below.heap_setCell _ _ _ _ (by show k≠R;omega)
  rw[hrl]at hw
  exact hw.tail rfl sL (hd.imp List.eq_nil_of_length_eq_zero id)
 ·intro x hx;rw[e]at hx;exact h.good x (by rw[hrl];exact List.mem_cons_of_mem _ hx)
 ·rw[e];have:=h.few;rw[hrl]at this;simp at this;omega
set_option maxHeartbeats 1000000 in
theorem Nx (r:Int) (w:World) :
  Calls Tryz.prog 188 #[.int .i32 r] w fun e w'=>e=.returned (.bool (isSmall r))∧w'=w:=by
 go_enter Tryz.func188,Tryz.ntmps188
 go_wp2
 all_goals
  go_ret
  refine⟨aU ?_,rfl⟩
  unfold isSmall
  rw[Bool.eq_iff_iff]
  simp
  omega
set_option maxHeartbeats 1000000 in
theorem Ny (r:Int) (w:World) :
  Calls Tryz.prog 189 #[.int .i32 r] w fun e w'=>e=.returned (.bool (qW r))∧w'=w:=by
 go_enter Tryz.func189,Tryz.ntmps189
 go_wp2
 all_goals
  go_ret
  refine⟨aU ?_,rfl⟩
  unfold qW
  rw[Bool.eq_iff_iff]
  simp
  omega
theorem letter_eq (r:Int):bH r=(isSmall r || qW r || decide (913≤r∧r≤969)):=by
 unfold bH isSmall qW
 rw[Bool.eq_iff_iff];simp[or_assoc]
set_option maxHeartbeats 1000000 in
theorem qB (r:Int) (w:World) :
  Calls Tryz.prog 149 #[.int .i32 r] w fun e w'=>e=.returned (.bool (bH r))∧w'=w:=by
 have hs:=fun W=>Nx r W
 have hg:=fun W=>Ny r W
 rw[letter_eq]
 generalize isSmall r=S at *
 generalize qW r=G at *
 cases S <;> cases G
 all_goals
  go_enter Tryz.func149,Tryz.ntmps149
  go_wp2_with (first
   | (go_at_call 188;refine(hs _).mono ?_;rintro e w' ⟨rfl,rfl⟩)
   | (go_at_call 189;refine(hg _).mono ?_;rintro e w' ⟨rfl,rfl⟩))
  all_goals
   go_ret
   refine⟨aU ?_,rfl⟩
   clear hs hg
   first
    | rfl
    | (rw[Bool.eq_iff_iff];simp;omega)
    | (simp;omega)
set_option maxHeartbeats 1000000 in
theorem Sn (r:Int) (f:Bool) (w:World) :
  Calls Tryz.prog 168 #[.int .i32 r,.bool f] w fun e w'=>e=.returned (.bool (fitsAt f r))∧w'=w:=by
 have hl:=fun W=>qB r W
 unfold fitsAt
 generalize bH r=L at *
 cases L <;> cases f
 all_goals
  go_enter Tryz.func168,Tryz.ntmps168
  go_wp2_with (go_at_call 149;refine(hl _).mono ?_;rintro e w' ⟨rfl,rfl⟩)
  all_goals
   go_ret
   refine⟨aU ?_,rfl⟩
   clear hl
   unfold isDigit
   first
    | rfl
    | (rw[Bool.eq_iff_iff];simp;omega)
    | (simp_all;done)
    | (simp_all;omega)
set_option maxHeartbeats 2000000 in
theorem rC (s:ByteArray) (w:World) (hs:s.size<9223372036854775807) :
  Calls Tryz.prog 132 #[.string s] w fun e w'=>e=.returned (.bool (nameOf (runes s)))∧Below w.heap.size w w':=by
 have hF:=fun r f W=>Sn r f W
 have HN:Hid (nameOf (runes s)=eN 0 (sE s s.size 0)):=(Cv (runes s)).symm
 go_enter Tryz.func132,Tryz.ntmps132
 go_wp2
 go_loopw [3] (fun n w'=>∃ (pos b acc:Nat),w'=w.iter s pos∧n=.int .i64 acc∧eN 0 (sE s s.size 0)=eN acc (sE s b pos)∧s.size≤pos+b∧acc≤40) (fun _ w'=>s.size - w'.iterPos w.heap.size)
 case atStart=>exact⟨0,s.size,0,rfl,rfl,rfl,by omega,by omega⟩
 case round=>
  obtain⟨pos,b,acc,rfl,rfl,hc,hb,ha⟩:=hrel
  have HB:∀ p,Below w.heap.size w (w.iter s p):=fun p=>(Below.refl _ w).alloc (Nat.le_refl _) _
  by_cases hp:pos<s.size
  ·have hnx:∀ ty,(Instr.next (.pointer (some ⟨w.heap.size,0,none⟩)) true ty).run Tryz.prog (w.iter s pos)=_:=fun ty=>run_next_any w s pos ty hp
   have hwd:=width_pos s pos hp
   obtain⟨b,rfl⟩:∃ b',b=b'+1:=⟨b - 1,by omega⟩
   rw[qV s b pos hp,eN]at hc
   have HC:Hid (nameOf (runes s)=(decide (acc<40)&&fitsAt (acc == 0) ((Utf8.decode s pos).1:Int)&&eN (acc+1) (sE s b (pos+(Utf8.decode s pos).2)))):=by
    refine(?_:nameOf (runes s)=_)
    rw[HN.out,hc]
   have Hl:Hid (eN 0 (sE s s.size 0)=(decide (acc<40)&&fitsAt (acc == 0) ((Utf8.decode s pos).1:Int)&&eN (acc+1) (sE s b (pos+(Utf8.decode s pos).2)))):=hc
   clear hc
   by_cases h40:acc=40
   ·subst h40
    have HX:Hid (nameOf (runes s)=false):=by
     refine(?_:nameOf (runes s)=false)
     rw[HC.out];simp
    clear HC Hl HN
    go_wp2
    go_ret
    exact⟨aU HX.out.symm,HB _⟩
   ·have hlt:acc<40:=by omega
    have bBu:((acc:Int) == 40)=false:=by simp;omega
    have hd:(decide (acc<40))=true:=by simp[hlt]
    rw[hd]at HC Hl
    obtain⟨F,hFF⟩:∃ F,fitsAt (acc == 0) ((Utf8.decode s pos).1:Int)=F:=⟨_,rfl⟩
    have hf:∀ W,Calls Tryz.prog 168 #[.int .i32 ((Utf8.decode s pos).1:Int),.bool ((acc:Int) == 0)] W fun e w'=>e=.returned (.bool F)∧w'=W:=by
     intro W
     have:=hF ((Utf8.decode s pos).1:Int) (acc == 0) W
     rw[hFF]at this
     have e:((acc:Int) == 0)=(acc == 0):=by rw[Bool.eq_iff_iff];simp
     rw[e];exact this
    rw[hFF]at HC Hl
    clear hF hFF hd
    cases F with
    | false=>
     have HX:Hid (nameOf (runes s)=false):=by
      refine(?_:nameOf (runes s)=false)
      rw[HC.out];simp
     clear HC Hl HN
     go_wp2_with (go_at_call 168;refine(hf _).mono ?_;rintro e w' ⟨rfl,rfl⟩)
     go_ret
     exact⟨aU HX.out.symm,HB _⟩
    | true=>
     have HX:Hid (eN 0 (sE s s.size 0)=eN (acc+1) (sE s b (pos+(Utf8.decode s pos).2))):=by
      refine(?_:eN 0 (sE s s.size 0)=_)
      rw[Hl.out];simp
     clear HC Hl HN
     go_wp2_with (go_at_call 168;refine(hf _).mono ?_;rintro e w' ⟨rfl,rfl⟩)
     go_roundw
     case rel=>exact⟨pos+(Utf8.decode s pos).2,b,acc+1,rfl,by go_num,HX.out,by omega,by omega⟩
     case measure=>
      simp
      omega
  ·have hnx:∀ ty,(Instr.next (.pointer (some ⟨w.heap.size,0,none⟩)) true ty).run Tryz.prog (w.iter s pos)=_:=fun ty=>run_next_end w s pos ty hp
   have HX:Hid (nameOf (runes s)=decide (0<acc)):=by
    refine(?_:nameOf (runes s)=_)
    rw[HN.out,hc,Ll s b pos hp,eN]
   clear hc HN hF
   by_cases h0:acc=0
   ·subst h0
    go_wp2
    go_ret
    exact⟨aU (by rw[HX.out];simp),HB _⟩
   ·go_wp2
    go_ret
    exact⟨aU (by first | (rw[HX.out];done) | (rw[HX.out];simp;done) | (rw[HX.out];simp;omega)),HB _⟩
set_option maxHeartbeats 2000000 in
theorem jH (R:Nat) (en:Int × Int) (r:Rd) (w:World) (h:bW w R en r) :
  Calls Tryz.prog 115 #[.pointer (some ⟨R,0,none⟩)] w fun x w'=>x=.returned (.string (aC r.text))∧w'=w:=by
 have hlt:=h.lt
 obtain⟨ad,c,hl,hw,hc,c0,c1,c2,c3,c4,c5,hf⟩:=h.get
 cases hrl:r.l with
 | nil=>
  have hh:r.text=[]:=by unfold Rd.text;rw[hrl]
  rw[hh]
  rw[hrl]at c0
  have c0':w.cell? ⟨R,0,none⟩=some (.slice ad 0 c):=c0
  clear hw hc c0 c1 c2 c3 c4 c5 hf hrl hh h hl
  go_enter Tryz.func115,Tryz.ntmps115
  go_wp2_with fail
  go_ret
  exact⟨rfl,rfl⟩
 | cons y t=>
  have hh:r.text=y.text:=by unfold Rd.text;rw[hrl]
  rw[hh]
  rw[hrl]at c0 hw hl
  obtain⟨g,o,rfl,hg,d0,d1,d2,d3⟩:=hw.head
  have c0':w.cell? ⟨R,0,none⟩=some (.slice (some ⟨g,o,none⟩) (t.length+1) c):=c0
  have hne:((t.length:Int)+1 == 0)=false:=beq_eq_false_iff_ne.2 (by omega)
  clear hw hc c0 c1 c2 c3 c4 c5 hf hrl hh h
  go_enter Tryz.func115,Tryz.ntmps115
  go_wp2_with fail
  go_ret
  exact⟨rfl,rfl⟩
set_option maxHeartbeats 2000000 in
theorem mC (R:Nat) (en:Int × Int) (r:Rd) (w:World) (h:bW w R en r) :
  Calls Tryz.prog 157 #[.pointer (some ⟨R,0,none⟩)] w fun x w'=>x=.returned (.agg #[.int .i64 (r.here en).1,.int .i64 (r.here en).2])∧Below w.heap.size w w':=by
 have hlt:=h.lt
 have ha:=h.alloc (.cells #[.int .i64 0,.int .i64 0] 31)
 obtain⟨ad,c,hl,hw,hc,c0,c1,c2,c3,c4,c5,hf⟩:=ha.get
 have hb:=fun a b=>(Below.refl w.heap.size w).alloc (Nat.le_refl _) (.cells #[.int .i64 a,.int .i64 b] 31)
 have r0:∀ a b,(w.alloc (.cells #[.int .i64 a,.int .i64 b] 31)).cell? ⟨w.heap.size,0,none⟩=some (.int .i64 a):=fun a b=>by simp
 have r1:∀ a b,(w.alloc (.cells #[.int .i64 a,.int .i64 b] 31)).cell? ⟨w.heap.size,1,none⟩=some (.int .i64 b):=fun a b=>by simp
 cases hrl:r.l with
 | nil=>
  have hh:r.here en=en:=by unfold Rd.here;rw[hrl]
  rw[hh]
  rw[hrl]at c0
  have c0':(w.alloc (.cells #[.int .i64 0,.int .i64 0] 31)).cell? ⟨R,0,none⟩=some (.slice ad 0 c):=c0
  clear hw hc c0 c3 c4 c5 hf hrl hh ha h hl
  go_enter Tryz.func157,Tryz.ntmps157
  go_wp2_with fail
  refine bodyPost_ret (v:=.agg #[.int .i64 en.1,.int .i64 en.2]) (by simp[results,Tryz.results157,go_sem,r0,r1]) rfl ⟨rfl,hb _ _⟩
 | cons y t=>
  have hh:r.here en=((y.line:Int),(y.col:Int)):=by unfold Rd.here;rw[hrl]
  rw[hh]
  rw[hrl]at c0 hw hl
  obtain⟨g,o,rfl,hg,d0,d1,d2,d3⟩:=hw.head
  have c0':(w.alloc (.cells #[.int .i64 0,.int .i64 0] 31)).cell? ⟨R,0,none⟩=some (.slice (some ⟨g,o,none⟩) (t.length+1) c):=c0
  have hne:((t.length:Int)+1 == 0)=false:=beq_eq_false_iff_ne.2 (by omega)
  have hgs:g<w.heap.size:=by omega
  clear hw hc c0 c3 c4 c5 hf hrl hh ha h
  go_enter Tryz.func157,Tryz.ntmps157
  go_wp2_with fail
  refine bodyPost_ret (v:=.agg #[.int .i64 (y.line:Int),.int .i64 (y.col:Int)]) (by simp[results,Tryz.results157,go_sem,r0,r1]) rfl ⟨rfl,hb _ _⟩
set_option maxHeartbeats 2000000 in
theorem sM (R:Nat) (en:Int × Int) (r:Rd) (e:Int) (p1 p2:Int) (w:World) (he:r.e=0) (h:bW w R en r) :
  Calls Tryz.prog 156 #[.pointer (some ⟨R,0,none⟩),.agg #[.int .i64 p1,.int .i64 p2],.int .i64 e] w fun x w'=>x=.returned (.bool false)∧bW w' R en (r.fail e (p1,p2))∧w.grownBy w' (some R):=by
 have hlt:=h.lt
 have ha:=h.alloc (.cells #[.int .i64 p1,.int .i64 p2] 31)
 have HG:Hid (w.grownBy (w.alloc (.cells #[.int .i64 p1,.int .i64 p2] 31)) (some R)):=World.grownBy_alloc w _ _
 obtain⟨ad,c,hl,hw,hc,c0,c1,c2,c3,c4,c5,hf⟩:=ha.get
 have r0:(w.alloc (.cells #[.int .i64 p1,.int .i64 p2] 31)).cell? ⟨w.heap.size,0,none⟩=some (.int .i64 p1):=by simp
 have r1:(w.alloc (.cells #[.int .i64 p1,.int .i64 p2] 31)).cell? ⟨w.heap.size,1,none⟩=some (.int .i64 p2):=by simp
 have HF:Hid (r.fail e (p1,p2)=⟨r.l,e,p1,p2⟩):=by refine(?_:_=_);unfold Rd.fail;rw[if_pos he]
 have f3:=hf 3
 have f4:=hf 4
 have f5:=hf 5
 have HW:=aB hw
 have HC:=aB hc
 have hgd:=h.good
 have hfw:=h.few
 have hne:w.heap.size≠R:=by omega
 have hne':R≠w.heap.size:=by omega
 clear hw hc he hf c0 c1 c2 ha h
 go_enter Tryz.func156,Tryz.ntmps156
 go_upto_region 1 with fail
 generalize w.alloc (.cells #[.int .i64 p1,.int .i64 p2] 31)=V at *
 generalize w.heap.size=B at *
 go_wp2_with fail
 go_ret
 refine⟨rfl,?_,?_⟩
 ·rw[HF.out]
  refine⟨⟨ad,c,?_,hl,HW.out.old fun k hk=>?_⟩,hgd,hfw⟩
  ·exact aG (aG (aG HC.out _) _) _
  ·exact((Below.heap_setCell _ _ _ _ (by show k≠R;omega)).trans (Below.heap_setCell _ _ _ _ (by show k≠R;omega))).trans (Below.heap_setCell _ _ _ _ (by show k≠R;omega))
 ·exact HG.out.trans ((grownBy_set _ _ _ _).trans ((grownBy_set _ _ _ _).trans (grownBy_set _ _ _ _)))
set_option maxHeartbeats 2000000 in
theorem kL (R:Nat) (en:Int × Int) (r:Rd) (w:World) (he:r.e=0) (h:bW w R en r) :
  Calls Tryz.prog 119 #[.pointer (some ⟨R,0,none⟩)] w fun x w'=>x=.returned (.bool false)∧bW w' R en (r.fail 7 (r.here en))∧w.grownBy w' (some R):=by
 have hH:=mC R en r w h
 have hF:=fun W hW=>sM R en r 7 (r.here en).1 (r.here en).2 W he hW
 have HR:=aB h
 clear h he
 go_enter Tryz.func119,Tryz.ntmps119
 go_wp2_with fail
 refine hH.mono ?_
 rintro e w2 ⟨rfl,hb2⟩
 have HG2:=aB (grownBy_below hb2 (some R))
 go_wp2_with fail
 refine(hF w2 (HR.out.below hb2)).mono ?_
 rintro e w3 ⟨rfl,h3,hg3⟩
 go_wp2_with fail
 go_ret
 exact⟨rfl,h3,HG2.out.trans hg3⟩
theorem Rd.oR {r:Rd} {t:List UInt8} (he:r.e=0) (ht:t≠[]):r.is t=(r.text == t):=by
 unfold Rd.is Rd.text
 rw[he]
 cases r.l with
 | nil=>
  have:(([]:List UInt8) == t)=false:=by
   cases t with
   | nil=>exact absurd rfl ht
   | cons a b=>rfl
  simp[this]
 | cons y l=>simp
def Rd.skip (r:Rd) (t:List UInt8):Rd:=if r.is t=true then r.tail else r
set_option maxHeartbeats 2000000 in
set_option maxRecDepth 20000 in
theorem jI (R:Nat) (en:Int × Int) (r:Rd) (s:ByteArray) (w:World) (he:r.e=0) (hs:s.data.toList≠[]) (h:bW w R en r) :
  Calls Tryz.prog 159 #[.pointer (some ⟨R,0,none⟩),.string s] w fun x w'=>x=.returned (.bool (r.is s.data.toList))∧bW w' R en (r.skip s.data.toList)∧w.grownBy w' (some R):=by
 have hI:=jH R en r w h
 have hit:=Rd.oR he hs
 have hsl:s.toList=s.data.toList:=ByteArray.toList_eq s
 by_cases hi:r.is s.data.toList=true
 ·have ht:r.skip s.data.toList=r.tail:=by unfold Rd.skip;rw[if_pos hi]
  rw[ht,hi]
  obtain⟨y,t,hrl⟩:=Rd.Yx hi
  obtain⟨ad,c,hl,hw,hc,c0,c1,c2,c3,c4,c5,hf⟩:=h.get
  have hw0:=hw
  rw[hrl]at hw0
  obtain⟨g,o,rfl,hg,_⟩:=hw0.head
  obtain⟨sL,hd,hcut⟩:=qA g o t.length c (by rw[hrl]at hl;simpa using hl)
  have HT:=aB (h.tail hrl hc hw hl sL hd)
  rw[hrl]at c0
  have c0':w.cell? ⟨R,0,none⟩=some (.slice (some ⟨g,o,none⟩) (t.length+1) c):=c0
  have f0:=hf 0
  have hne:((aC r.text).toList == s.toList)=true:=by rw[aH,hsl,←hit,hi]
  clear hw hc c0 c1 c2 c3 c4 c5 hf ht hi hw0 hl hd hrl h he hit hsl hs
  go_enter Tryz.func159,Tryz.ntmps159
  go_wp2_with fail
  refine hI.mono ?_
  rintro e w1 ⟨rfl,h1⟩
  have h1:=h1.symm
  subst h1
  go_wp2_with fail
  go_ret
  exact⟨rfl,HT.out,grownBy_set _ _ _ _⟩
 ·have hi':r.is s.data.toList=false:=by simpa using hi
  have ht:r.skip s.data.toList=r:=by unfold Rd.skip;rw[if_neg hi]
  rw[ht,hi']
  have hne:((aC r.text).toList == s.toList)=false:=by rw[aH,hsl,←hit,hi']
  have HR:=aB h
  clear ht hi hi' h he hit hsl hs
  go_enter Tryz.func159,Tryz.ntmps159
  go_wp2_with fail
  refine hI.mono ?_
  rintro e w1 ⟨rfl,h1⟩
  have h1:=h1.symm
  subst h1
  go_wp2_with fail
  go_ret
  exact⟨rfl,HR.out,World.grownBy.refl _ _⟩
end Go.Proofs.YtpojeinddnjpfaaGreatDoor
