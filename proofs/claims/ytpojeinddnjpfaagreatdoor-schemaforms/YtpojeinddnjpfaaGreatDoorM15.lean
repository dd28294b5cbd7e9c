/-
  Walks and plain words (FnD ShP PtD RsR PsR PsQ PsP PsU PsC ShT).
-/
import Derived.Test.YtpojeinddnjpfaaGreatDoorM14
import Derived.Shelf.Strings.Search3
import Derived.Shelf.Strings.Split
import Derived.Shelf.LaysM
import Derived.Shelf.LaysC
import Derived.Ground.NamesProg
import Derived.Test.YtpojeinddnjpfaaGreatDoorProg
import Derived.Test.YtpojeinddnjpfaaGreatDoorM3
import Derived.Test.YtpojeinddnjpfaaGreatDoorM0
import Derived.Test.YtpojeinddnjpfaaGreatDoorM2
import Derived.Test.YtpojeinddnjpfaaGreatDoorM13
import Derived.Test.YtpojeinddnjpfaaGreatDoorM4
import Derived.Lib.IndexBytes
import Derived.Laws.AppendOwn
import Derived.OwnWalk
import Derived.Maps.AppendAt
import Derived.BigQuiet
import Derived.Deep.QuietTactic
import Derived.Lib.Hide
import Derived.Test.YtpojeinddnjpfaaGreatDoorM1
import Derived.Deep.AppendLies
import Derived.Deep.Cut
import Derived.Deep.DeepCutAuto
import Derived.Deep.RegionLaw
import Derived.Deep.RegionHeldLaw
namespace Go.Proofs.YtpojeinddnjpfaaGreatDoor
set_option linter.unusedVariables false
open Go.RowKit

theorem jF {f:Nat} {w W:World} {S:Nat→Prop} {v:Value} {ds:List Dc} (h:aM (f+1) w S v ds) (hW:∀ b,S b→W.heap[b]? = w.heap[b]?) {q:Nat} {x:Dc} (hx:ds[q]? = some x) :
  ∃ g o c fa fc va vc ma mc ia ic,v=.slice (some ⟨g,o,none⟩) ds.length c∧S g∧W.cell? ⟨g,o+q*8,none⟩=some (.int .i64 x.kind)∧W.cell? ⟨g,o+q*8+1,none⟩=some (.string (aC x.name))∧
   W.cell? ⟨g,o+q*8+2,none⟩=some (.int .i64 x.line)∧W.cell? ⟨g,o+q*8+3,none⟩=some (.int .i64 x.col)∧W.cell? ⟨g,o+q*8+4,none⟩=some (.slice fa x.fields.length fc)∧
   W.cell? ⟨g,o+q*8+5,none⟩=some (.slice va x.values.length vc)∧W.cell? ⟨g,o+q*8+6,none⟩=some (.slice ma x.methods.length mc)∧W.cell? ⟨g,o+q*8+7,none⟩=some (.slice ia x.inner.length ic)∧
   Kids f W S (.slice fa x.fields.length fc) (.slice va x.values.length vc) (.slice ma x.methods.length mc) (.slice ia x.inner.length ic) x:=by
 obtain⟨ad,c,hsl,hcc,hrows⟩:=h
 rcases hrows with h0 | ⟨g,o,had,hg,hrow⟩
 ·rw[h0]at hx;simp at hx
 subst had
 obtain⟨fs,vs,ms,ins,hcell,kd⟩:=hrow q x hx
 have kd:Kids f w S fs vs ms ins x:=kd
 have kd0:=kd
 obtain⟨r1,r2,r3,r4⟩:=kd0
 obtain⟨fa,fc,rfl⟩:=r1.cM
 obtain⟨va,vc,rfl⟩:=r2.cM
 obtain⟨ma,mc,rfl⟩:=r3.cM
 obtain⟨ia,ic,rfl⟩:=r4.eI
 have hb:=hW g hg
 have hc:∀ i u,(eZ x (.slice fa x.fields.length fc) (.slice va x.values.length vc) (.slice ma x.methods.length mc) (.slice ia x.inner.length ic))[i]? = some u→W.cell? ⟨g,o+(q*8+i),none⟩=some u:=fun i u hu=>by
  rw[World.cell?_of_block hb];exact hcell i u hu
 refine⟨g,o,c,fa,fc,va,vc,ma,mc,ia,ic,hsl,hg,?_,?_,?_,?_,?_,?_,?_,?_,kd.old hW⟩
 ·have:=hc 0 _ rfl;simpa [Nat.add_assoc]using this
 ·have:=hc 1 _ rfl;simpa [Nat.add_assoc]using this
 ·have:=hc 2 _ rfl;simpa [Nat.add_assoc]using this
 ·have:=hc 3 _ rfl;simpa [Nat.add_assoc]using this
 ·have:=hc 4 _ rfl;simpa [Nat.add_assoc]using this
 ·have:=hc 5 _ rfl;simpa [Nat.add_assoc]using this
 ·have:=hc 6 _ rfl;simpa [Nat.add_assoc]using this
 ·have:=hc 7 _ rfl;simpa [Nat.add_assoc]using this
open Go.Shelf
def Ey : Go.Shelf.Ren := ⟨fun | 143 => 155 | 219 => 192 | 217 => 209 | 225 => 212 | 224 => 213 | 267 => 214 | 266 => 220 | 314 => 226 | n => n, fun | 9 => 9 | 3 => 3 | 4 => 4 | 5 => 5 | 46 => 223 | 146 => 289 | 51 => 252 | n => n, fun | 1 => 0 | n => n⟩
theorem Zw : Go.Proofs.Lays.n143 Tryz.prog Ey := {
  mixed := by kernel_rfl
  f143 := Tryz.func155.trans (congrArg some (by kernel_rfl))
  f217 := Tryz.func209.trans (congrArg some (by kernel_rfl))
  f219 := Tryz.func192.trans (congrArg some (by kernel_rfl))
  f224 := Tryz.func213.trans (congrArg some (by kernel_rfl))
  f225 := Tryz.func212.trans (congrArg some (by kernel_rfl))
  f266 := Tryz.func220.trans (congrArg some (by kernel_rfl))
  f267 := Tryz.func214.trans (congrArg some (by kernel_rfl))
  f314 := Tryz.func226.trans (congrArg some (by kernel_rfl))
  t3 := Tryz.underlying3
  a3 := Tryz.isAgg3
  z3 := Tryz.sizeOf3
  v3 := Tryz.zeroValue3
  t4 := Tryz.underlying4
  a4 := Tryz.isAgg4
  z4 := Tryz.sizeOf4
  v4 := Tryz.zeroValue4
  t5 := Tryz.underlying5
  a5 := Tryz.isAgg5
  z5 := Tryz.sizeOf5
  v5 := Tryz.zeroValue5
  t9 := Tryz.underlying9
  a9 := Tryz.isAgg9
  z9 := Tryz.sizeOf9
  v9 := Tryz.zeroValue9
  t46 := Tryz.underlying223
  a46 := Tryz.isAgg223
  z46 := Tryz.sizeOf223
  v46 := Tryz.zeroValue223
  t51 := Tryz.underlying252
  a51 := Tryz.isAgg252
  z51 := Tryz.sizeOf252
  v51 := Tryz.zeroValue252
  t146 := Tryz.underlying289
  a146 := Tryz.isAgg289
  z146 := Tryz.sizeOf289
  v146 := Tryz.zeroValue289
  g1 := by kernel_rfl }
open Go.RowKit Go.Lib in
theorem strings_Index_one (s : ByteArray) (c : UInt8) (w : World) :
    Calls Tryz.prog 155 #[.string s, .string ⟨#[c]⟩] w fun e w' => e = .returned (.int .i64 (Lib.indexByte s.data.toList c)) ∧ w' = w := Any.strings_Index_one Zw s c w
def Ez : Go.Shelf.Ren := ⟨fun | 221 => 197 | 268 => 217 | 138 => 113 | 143 => 155 | 195 => 114 | 197 => 165 | 218 => 154 | 219 => 192 | 260 => 196 | 217 => 209 | 225 => 212 | 224 => 213 | 267 => 214 | 266 => 220 | 314 => 226 | n => n, fun | 9 => 9 | 3 => 3 | 31 => 100 | 4 => 4 | 0 => 0 | 105 => 198 | 21 => 21 | 5 => 5 | 46 => 223 | 119 => 265 | 139 => 268 | 138 => 267 | 146 => 289 | 51 => 252 | n => n, fun | 1 => 0 | 3 => 1 | 4 => 2 | n => n⟩
theorem Mp : Go.Proofs.Lays.n221 Tryz.prog Ez := {
  mixed := by kernel_rfl
  f138 := Tryz.func113.trans (congrArg some (by kernel_rfl))
  f143 := Tryz.func155.trans (congrArg some (by kernel_rfl))
  f195 := Tryz.func114.trans (congrArg some (by kernel_rfl))
  f197 := Tryz.func165.trans (congrArg some (by kernel_rfl))
  f217 := Tryz.func209.trans (congrArg some (by kernel_rfl))
  f218 := Tryz.func154.trans (congrArg some (by kernel_rfl))
  f219 := Tryz.func192.trans (congrArg some (by kernel_rfl))
  f221 := Tryz.func197.trans (congrArg some (by kernel_rfl))
  f224 := Tryz.func213.trans (congrArg some (by kernel_rfl))
  f225 := Tryz.func212.trans (congrArg some (by kernel_rfl))
  f260 := Tryz.func196.trans (congrArg some (by kernel_rfl))
  f266 := Tryz.func220.trans (congrArg some (by kernel_rfl))
  f267 := Tryz.func214.trans (congrArg some (by kernel_rfl))
  f268 := Tryz.func217.trans (congrArg some (by kernel_rfl))
  f314 := Tryz.func226.trans (congrArg some (by kernel_rfl))
  t0 := Tryz.underlying0
  a0 := Tryz.isAgg0
  z0 := Tryz.sizeOf0
  v0 := Tryz.zeroValue0
  t3 := Tryz.underlying3
  a3 := Tryz.isAgg3
  z3 := Tryz.sizeOf3
  v3 := Tryz.zeroValue3
  t4 := Tryz.underlying4
  a4 := Tryz.isAgg4
  z4 := Tryz.sizeOf4
  v4 := Tryz.zeroValue4
  t5 := Tryz.underlying5
  a5 := Tryz.isAgg5
  z5 := Tryz.sizeOf5
  v5 := Tryz.zeroValue5
  t9 := Tryz.underlying9
  a9 := Tryz.isAgg9
  z9 := Tryz.sizeOf9
  v9 := Tryz.zeroValue9
  t21 := Tryz.underlying21
  a21 := Tryz.isAgg21
  z21 := Tryz.sizeOf21
  v21 := Tryz.zeroValue21
  t31 := Tryz.underlying100
  a31 := Tryz.isAgg100
  z31 := Tryz.sizeOf100
  v31 := Tryz.zeroValue100
  t46 := Tryz.underlying223
  a46 := Tryz.isAgg223
  z46 := Tryz.sizeOf223
  v46 := Tryz.zeroValue223
  t51 := Tryz.underlying252
  a51 := Tryz.isAgg252
  z51 := Tryz.sizeOf252
  v51 := Tryz.zeroValue252
  t105 := Tryz.underlying198
  a105 := Tryz.isAgg198
  z105 := Tryz.sizeOf198
  v105 := Tryz.zeroValue198
  t119 := Tryz.underlying265
  a119 := Tryz.isAgg265
  z119 := Tryz.sizeOf265
  t138 := Tryz.underlying267
  a138 := Tryz.isAgg267
  z138 := Tryz.sizeOf267
  v138 := Tryz.zeroValue267
  t139 := Tryz.underlying268
  a139 := Tryz.isAgg268
  z139 := Tryz.sizeOf268
  v139 := Tryz.zeroValue268
  t146 := Tryz.underlying289
  a146 := Tryz.isAgg289
  z146 := Tryz.sizeOf289
  v146 := Tryz.zeroValue289
  g1 := by kernel_rfl
  g3 := by kernel_rfl
  g4 := by kernel_rfl }
open Go.RowKit Go.Lib in
theorem strings_genSplit (s sep : ByteArray) (sv : Nat) (n : Int) (N : Nat) (m : Int) (w : World) (hs : s.size < 4294967281) (hm : w.cell? ⟨0, 0, none⟩ = some (.int .i64 m)) (h1 : 1 ≤ sep.size) (hsv : sv ≤ sep.size) (hn0 : n ≠ 0) (hn63 : n ≤ 9223372036854775807) (hN : (N : Int) = min (if n < 0 then (Lib.countB s sep : Int) + 1 else n) ((s.size : Int) + 1)) :
    Calls Tryz.prog 197 #[.string s, .string sep, .int .i64 sv, .int .i64 n] w fun e w' =>
      e = .returned (.slice (some ⟨w.heap.size, 0, none⟩) (Lib.splitB sep sv (N - 1) s).length N) ∧ w' = w.alloc (.cells (Lib.cellsOf (Lib.splitB sep sv (N - 1) s) N) 9) := Any.strings_genSplit Mp (by kernel_rfl) s sep sv n N m w hs hm h1 hsv hn0 hn63 hN
def pieces (s:ByteArray):List ByteArray:=(jC [] s.data.toList).map fun l=>⟨l.toArray⟩
theorem jU (s:ByteArray):1≤(pieces s).length∧(pieces s).length≤s.size+1:=by
 unfold pieces;rw[List.length_map,←bC];exact qX _ _
theorem mk_data:∀ (xs:List ByteArray) (L:List (List UInt8)),xs.map (·.data.toList)=L→xs=L.map fun l=>⟨l.toArray⟩
 | [],L,h=>by subst h;rfl
 | x :: t,L,h=>by
  subst h
  rw[List.map_cons,List.map_cons,←mk_data t _ rfl]
theorem Jj (s:ByteArray) (h:(pieces s).length≤8):Lib.splitB ⟨#[46]⟩ 0 (min 9 (s.size+1) - 1) s=pieces s:=by
 refine mk_data _ _ ?_
 rw[Lib.splitB_data]
 show Lib.splitK [46] 0 _ _=_
 have hl:=jU s
 unfold pieces at h hl
 rw[List.length_map]at h hl
 exact(lX _ _).1 (by omega)
theorem Fa (s:ByteArray) (h:8<(pieces s).length):8<(Lib.splitB ⟨#[46]⟩ 0 (min 9 (s.size+1) - 1) s).length:=by
 have hl:=jU s
 unfold pieces at h hl
 rw[List.length_map]at h hl
 have e:(Lib.splitB ⟨#[46]⟩ 0 (min 9 (s.size+1) - 1) s).length=(Lib.splitK [46] 0 (min 9 (s.size+1) - 1) s.data.toList).length:=by
  rw[←List.length_map (f:=fun x:ByteArray=>x.data.toList),Lib.splitB_data]
 rw[e]
 have hk:min 9 (s.size+1) - 1=8:=by omega
 rw[hk]
 by_cases h9:(jC [] s.data.toList).length≤8+1
 ·rw[(lX 8 _).1 h9];exact h
 ·rw[(lX 8 _).2 (by omega)];omega

def rL (w:World) (g:Nat) (xs:List ByteArray):Prop:=∀ (j:Nat) (x:ByteArray),xs[j]? = some x→w.cell? ⟨g,j,none⟩=some (.string x)
theorem zJ {w w':World} {g:Nat} {xs:List ByteArray} (h:rL w g xs) (hb:Below w.heap.size w w'):rL w' g xs:=by
 intro j z hj
 have hc:=h j z hj
 have hlt:g<w.heap.size:=by
  by_cases hg:g<w.heap.size
  ·exact hg
  ·simp[World.cell?,Array.getElem?_eq_none (Nat.le_of_not_lt hg)]at hc
 rw[hb.cell hlt];exact hc

set_option maxHeartbeats 1000000 in
theorem Jk (s:ByteArray) (w:World) (hs:s.size≤4000000000) :
  Calls Tryz.prog 167 #[.string s,.string ⟨#[46]⟩,.int .i64 9] w fun e w'=>
   e=.returned (.slice (some ⟨w.heap.size,0,none⟩) (Lib.splitB ⟨#[46]⟩ 0 (min 9 (s.size+1) - 1) s).length (min 9 (s.size+1)))∧w'=w.alloc (.cells (Lib.cellsOf (Lib.splitB ⟨#[46]⟩ 0 (min 9 (s.size+1) - 1) s) (min 9 (s.size+1))) 9):=by
 have hG:Calls Tryz.prog 197 #[.string s,.string ⟨#[46]⟩,.int .i64 0,.int .i64 9] w fun e w'=>
   e=.returned (.slice (some ⟨w.heap.size,0,none⟩) (Lib.splitB ⟨#[46]⟩ 0 (min 9 (s.size+1) - 1) s).length (min 9 (s.size+1)))∧w'=w.alloc (.cells (Lib.cellsOf (Lib.splitB ⟨#[46]⟩ 0 (min 9 (s.size+1) - 1) s) (min 9 (s.size+1))) 9):=
  Any.strings_genSplit_core Mp (by kernel_rfl) s ⟨#[46]⟩ 0 9 (min 9 (s.size+1)) w (by omega) (by decide) (by decide)
   (fun x c hx=>(strings_Index_one x 46 _).mono fun e w' ⟨he,hw⟩=>⟨by
    rw[he]
    show _=Ending.returned (Value.int .i64 (Lib.index x.data.toList [46]))
    rw[Lib.index_one],hw⟩)
   ((strings_Count_one s 46 w).mono fun e w' ⟨he,hw⟩=>⟨by
    rw[he]
    show _=Ending.returned (Value.int .i64 ((Lib.count s.data.toList [46]:Nat):Int))
    rw[Lib.count_one];rfl,hw⟩)
   (by decide) (by decide) (by rw[if_neg (by decide)];omega)
 go_enter Tryz.func167,Tryz.ntmps167
 go_wp2_with fail
 refine hG.mono ?_
 rintro e w1 ⟨rfl,hw⟩
 go_wp2_with fail
 go_ret
 exact⟨rfl,rfl⟩

theorem nT {xs:List ByteArray} {N j:Nat} {x:ByteArray} (h:xs[j]? = some x):(Lib.cellsOf xs N)[j]? = some (.string x):=by
 have hlt:=(List.getElem?_eq_some_iff.1 h).1
 unfold Lib.cellsOf
 rw[List.getElem?_toArray,List.getElem?_append_left (by simpa using hlt)]
 simp[h]
theorem Zx (w:World) (g j:Nat) (c:Array Value) (t:TypeId) (v:Value) (hg:w.heap[g]? = some (.cells c t (0,0))) (hv:c[j]? = some v):(w.setCell ⟨g,j,none⟩ v).heap[g]? = some (.cells c t (0,0)):=by
 rw[setCell_eq_setRow _ _ _ _ _ _ _ hg]
 rw[setRow_heap w g c _ t _ hg]
 congr 2
 apply Array.ext_getElem?
 intro k
 rw[Array.getElem?_setIfInBounds]
 split
 ·rename_i h
  subst h
  split
  ·exact hv.symm
  ·rename_i h2
   rw[Array.getElem?_eq_none (by omega)]
 ·rfl
def bX (x:ByteArray):Bool:=nameOf (runes x)&&!gJ x.toList
theorem wM (w:World) (o:Obj):(w.alloc o).heap[w.heap.size]? = some o:=by
 show (w.heap.push o)[w.heap.size]? = _
 simp
theorem aN {w:World} {b:Nat} {o:Obj} (h:w.heap[b]? = some o):b<w.heap.size:=(Array.getElem?_eq_some_iff.1 h).1
def bT (s:ByteArray):Bool:=(pieces s).all bX
theorem To (x:ByteArray):bX x=(nameOf (runes x)&&!gJ x.toList):=rfl
theorem zK {l:List ByteArray} {k:Nat} {z:ByteArray} (h:l[k]? = some z) (p:ByteArray→Bool):(l.drop k).all p=(p z&&(l.drop (k+1)).all p):=by
 have hlt:=(List.getElem?_eq_some_iff.1 h).1
 rw[List.drop_eq_getElem_cons hlt,List.all_cons,(List.getElem?_eq_some_iff.1 h).2]
theorem qE {s:ByteArray} {x:ByteArray} (h:x∈pieces s):x.size≤s.size:=by
 have:∀ (l cur:List UInt8) (y:List UInt8),y∈jC cur l→y.length≤cur.length+l.length:=by
  intro l
  induction l with
  | nil=>intro cur y hy;simp[jC]at hy;subst hy;simp
  | cons b t ih=>
   intro cur y hy
   rw[jC]at hy
   split at hy
   ·rcases List.mem_cons.1 hy with rfl | hy
    ·simp
    ·have:=ih [] y hy;simp at this ⊢;omega
   ·have:=ih _ y hy;simp at this ⊢;omega
 unfold pieces at h
 rw[List.mem_map]at h
 obtain⟨y,hy,rfl⟩:=h
 have h2:=this s.data.toList [] y hy
 rw[bC]at h2
 have:(ByteArray.mk y.toArray).size=y.length:=by show y.toArray.size=_;simp
 rw[this];simpa using h2
open Go.ChangeShapes Go.WideShapes Go.ChangeAt
theorem aKq {a b:Int} (h:a=b):Ending.returned (.int .i64 a)=.returned (.int .i64 b):=by rw[h]
set_option maxHeartbeats 1000000 in
theorem Fb (s:ByteArray) (w:World) :
  Calls Tryz.prog 69 #[.string s] w fun e w'=>e=.returned (.int .i64 (bP s.toList))∧w'=w:=by
 go_enter Tryz.func69,Tryz.ntmps69
 go_wp2
 all_goals
  go_ret
  refine⟨aKq ?_,rfl⟩
  unfold bP
  simp[*]
set_option maxHeartbeats 1000000 in
theorem yD (s:ByteArray) (w:World) :
  Calls Tryz.prog 92 #[.string s] w fun e w'=>e=.returned (.bool (gJ s.toList))∧w'=w:=by
 have hS:=fun W=>Fb s W
 unfold gJ
 generalize bP s.toList=k at *
 go_enter Tryz.func92,Tryz.ntmps92
 go_wp2_with (go_at_call 69;refine(hS _).mono ?_;rintro e w' ⟨rfl,rfl⟩)
 all_goals
  go_ret
  refine⟨aU ?_,rfl⟩
  clear hS
  first
   | (simp[*];done)
   | simp_all
structure iZ (w:World) (R:Nat) (en:Int × Int) (r:Rd):Prop where
 cells:∃ ad c,w.heap[R]? = some (.cells #[.slice ad r.l.length c,.int .i64 en.1,.int .i64 en.2,.int .i64 r.pl,.int .i64 r.pc,.int .i64 r.e] 153 (0,0))∧r.l.length≤c∧dE w R ad r.l
 good:∀ x∈r.l,Sj x
 few:r.l.length≤4000
theorem iZ.lt {w:World} {R:Nat} {en:Int × Int} {r:Rd} (h:iZ w R en r):R<w.heap.size:=by
 obtain⟨ad,c,hc,_⟩:=h.cells
 exact(Array.getElem?_eq_some_iff.1 hc).1
theorem iZ.old {w w':World} {R:Nat} {en:Int × Int} {r:Rd} (h:iZ w R en r) (hb:∀ k,k<R+1→w'.heap[k]? = w.heap[k]?):iZ w' R en r:=by
 obtain⟨ad,c,hc,hl,hw⟩:=h.cells
 exact⟨⟨ad,c,by rw[hb R (by omega)];exact hc,hl,hw.old fun k hk=>hb k (by omega)⟩,h.good,h.few⟩
theorem iZ.below {w w':World} {R:Nat} {en:Int × Int} {r:Rd} (h:iZ w R en r) (hb:Below w.heap.size w w'):iZ w' R en r:=
 h.old fun k hk=>hb.block k (by have:=h.lt;omega)
theorem iZ.alloc {w:World} {R:Nat} {en:Int × Int} {r:Rd} (h:iZ w R en r) (o:Obj):iZ (w.alloc o) R en r:=h.below ((Below.refl _ w).alloc (Nat.le_refl _) o)
theorem iZ.drew {w:World} {R:Nat} {en:Int × Int} {r:Rd} (h:iZ w R en r):iZ w.drew R en r:=h.old fun _ _=>rfl
theorem iZ.far {w:World} {R:Nat} {en:Int × Int} {r:Rd} (h:iZ w R en r) (g j:Nat) (hg:R<g) (x:Value):iZ (w.setCell ⟨g,j,none⟩ x) R en r:=
 h.old fun k hk=>Below.heap_setCell _ _ _ _ (by show k≠g;omega)
theorem iZ.get {w:World} {R:Nat} {en:Int × Int} {r:Rd} (h:iZ w R en r):∃ ad c,r.l.length≤c∧dE w R ad r.l∧
  w.heap[R]? = some (.cells #[.slice ad r.l.length c,.int .i64 en.1,.int .i64 en.2,.int .i64 r.pl,.int .i64 r.pc,.int .i64 r.e] 153 (0,0))∧
  w.cell? ⟨R,0,none⟩=some (.slice ad r.l.length c)∧w.cell? ⟨R,1,none⟩=some (.int .i64 en.1)∧w.cell? ⟨R,2,none⟩=some (.int .i64 en.2)∧w.cell? ⟨R,3,none⟩=some (.int .i64 r.pl)∧w.cell? ⟨R,4,none⟩=some (.int .i64 r.pc)∧w.cell? ⟨R,5,none⟩=some (.int .i64 r.e)∧
  (∀ j,w.frozen? ⟨R,j,none⟩=false):=by
 obtain⟨ad,c,hc,hl,hw⟩:=h.cells
 refine⟨ad,c,hl,hw,hc,?_,?_,?_,?_,?_,?_,?_⟩
 all_goals simp[World.cell?,World.frozen?,hc]
theorem iZ.tail {w:World} {R:Nat} {en:Int × Int} {r:Rd} (h:iZ w R en r) {y:Wd} {t:List Wd} (hrl:r.l=y :: t) {g o c:Nat}
  (hc:w.heap[R]? = some (.cells #[.slice (some ⟨g,o,none⟩) r.l.length c,.int .i64 en.1,.int .i64 en.2,.int .i64 r.pl,.int .i64 r.pc,.int .i64 r.e] 153 (0,0))) (hw:dE w R (some ⟨g,o,none⟩) r.l) (hl:r.l.length≤c)
  (sL:Option Addr) (hd:t.length=0∨sL=some ⟨g,o+4,none⟩):iZ (w.setCell ⟨R,0,none⟩ (.slice sL t.length (c - 1))) R en r.tail:=by
 have e:r.tail.l=t:=by unfold Rd.tail;rw[hrl];rfl
 refine⟨⟨sL,c - 1,?_,?_,?_⟩,?_,?_⟩
 ·rw[aG hc,e];rfl
 ·rw[e];rw[hrl]at hl;simp at hl;omega
 ·rw[e]
  refine dE.old (w:=w) ?_ fun k hk=>Below.heap_setCell _ _ _ _ (by show k≠R;omega)
  rw[hrl]at hw
  exact hw.tail rfl sL (hd.imp List.eq_nil_of_length_eq_zero id)
 ·intro x hx;rw[e]at hx;exact h.good x (by rw[hrl];exact List.mem_cons_of_mem _ hx)
 ·rw[e];have:=h.few;rw[hrl]at this;simp at this;omega
theorem Rd.yW {w:World} {R:Nat} {en:Int × Int} {r:Rd} (h:iZ w R en r):r.aL.length≤20000:=by
 unfold Rd.aL Rd.text
 split
 ·cases hl:r.l with
  | nil=>simp
  | cons y t=>exact(h.good y (by rw[hl];simp)).1
 ·simp
theorem iZ.m {w:World} {R:Nat} {en:Int × Int} {r:Rd} (h:iZ w R en r):rdM w R=r.m:=by
 obtain⟨ad,c,_,_,_,c0,_,_,_,_,c5,_⟩:=h.get
 unfold rdM Rd.m
 rw[c0,c5]
theorem dC {w:World} {B:Nat} {T:TypeId} {z0 z1 z2 z3 z4 z5 z6 z7:Value} (h:w.heap[B]? = some (.cells #[z0,z1,z2,z3,z4,z5,z6,z7] T (0,0))) (x0 x1 x2 x3 x4 x5 x6 x7:Value) :
  ∃ Y,((((((((w.setCell ⟨B,0,none⟩ x0).setCell ⟨B,1,none⟩ x1).setCell ⟨B,2,none⟩ x2).setCell ⟨B,3,none⟩ x3).setCell ⟨B,4,none⟩ x4).setCell ⟨B,5,none⟩ x5).setCell ⟨B,6,none⟩ x6).setCell ⟨B,7,none⟩ x7)=Y∧Y.heap[B]? = some (.cells #[x0,x1,x2,x3,x4,x5,x6,x7] T (0,0))∧(∀ b,b≠B→Y.heap[b]? = w.heap[b]?)∧Y.heap.size=w.heap.size∧Below B w Y:=by
 have s8:=aDn h x0 x1 x2 x3 x4 x5 x6 x7
 have ho:∀ b,b≠B→((((((((w.setCell ⟨B,0,none⟩ x0).setCell ⟨B,1,none⟩ x1).setCell ⟨B,2,none⟩ x2).setCell ⟨B,3,none⟩ x3).setCell ⟨B,4,none⟩ x4).setCell ⟨B,5,none⟩ x5).setCell ⟨B,6,none⟩ x6).setCell ⟨B,7,none⟩ x7).heap[b]? = w.heap[b]?:=fun b hb=>by
  rw[Below.heap_setCell _ _ _ _ hb,Below.heap_setCell _ _ _ _ hb,Below.heap_setCell _ _ _ _ hb,Below.heap_setCell _ _ _ _ hb,Below.heap_setCell _ _ _ _ hb,Below.heap_setCell _ _ _ _ hb,Below.heap_setCell _ _ _ _ hb,Below.heap_setCell _ _ _ _ hb]
 have hz:((((((((w.setCell ⟨B,0,none⟩ x0).setCell ⟨B,1,none⟩ x1).setCell ⟨B,2,none⟩ x2).setCell ⟨B,3,none⟩ x3).setCell ⟨B,4,none⟩ x4).setCell ⟨B,5,none⟩ x5).setCell ⟨B,6,none⟩ x6).setCell ⟨B,7,none⟩ x7).heap.size=w.heap.size:=by simp
 have hb:Below B w ((((((((w.setCell ⟨B,0,none⟩ x0).setCell ⟨B,1,none⟩ x1).setCell ⟨B,2,none⟩ x2).setCell ⟨B,3,none⟩ x3).setCell ⟨B,4,none⟩ x4).setCell ⟨B,5,none⟩ x5).setCell ⟨B,6,none⟩ x6).setCell ⟨B,7,none⟩ x7):=(((((((((Below.refl B w).setCell (p:=⟨B,0,none⟩) (Nat.le_refl _) x0).setCell (p:=⟨B,1,none⟩) (Nat.le_refl _) x1).setCell (p:=⟨B,2,none⟩) (Nat.le_refl _) x2).setCell (p:=⟨B,3,none⟩) (Nat.le_refl _) x3).setCell (p:=⟨B,4,none⟩) (Nat.le_refl _) x4).setCell (p:=⟨B,5,none⟩) (Nat.le_refl _) x5).setCell (p:=⟨B,6,none⟩) (Nat.le_refl _) x6).setCell (p:=⟨B,7,none⟩) (Nat.le_refl _) x7)
 exact⟨_,rfl,s8,ho,hz,hb⟩
def eJ (k f:Nat) (w:World) (S:Nat→Prop) (v:Value) (ps:List Pl):Prop:=
 ∃ ad c,v=.slice ad ps.length c∧ps.length≤c∧(ps=[]∨∃ g o,ad=some ⟨g,o,none⟩∧S g∧∀ (j:Nat) (x:Pl),ps[j]? = some x→
   ∃ fs vs ms ins,(∀ (i:Nat) (u:Value),(eZ x.2 fs vs ms ins++[.string (aC x.1)])[i]? = some u→w.cell? ⟨g,o+(j*k+i),none⟩=some u)∧Kids f w S fs vs ms ins x.2)
theorem eJ.old {k f:Nat} {w w':World} {S:Nat→Prop} {v:Value} {ps:List Pl} (h:eJ k f w S v ps) (hb:∀ b,S b→w'.heap[b]? = w.heap[b]?):eJ k f w' S v ps:=by
 obtain⟨ad,c,hv,hc,h⟩:=h
 refine⟨ad,c,hv,hc,h.imp id ?_⟩
 rintro⟨g,o,ha,hg,h⟩
 refine⟨g,o,ha,hg,fun j d hj=>?_⟩
 obtain⟨fs,vs,ms,ins,h0,h1⟩:=h j d hj
 exact⟨fs,vs,ms,ins,fun i u hu=>by rw[World.cell?_of_block (hb g hg)];exact h0 i u hu,h1.old hb⟩
theorem eJ.more {k f:Nat} {w:World} {S S':Nat→Prop} {v:Value} {ps:List Pl} (h:eJ k f w S v ps) (hb:∀ b,S b→S' b):eJ k f w S' v ps:=by
 obtain⟨ad,c,hv,hc,h⟩:=h
 refine⟨ad,c,hv,hc,h.imp id ?_⟩
 rintro⟨g,o,ha,hg,h⟩
 refine⟨g,o,ha,hb g hg,fun j d hj=>?_⟩
 obtain⟨fs,vs,ms,ins,h0,h1⟩:=h j d hj
 exact⟨fs,vs,ms,ins,h0,h1.more hb⟩
theorem eJ.cM {k f:Nat} {w:World} {S:Nat→Prop} {v:Value} {ps:List Pl} (h:eJ k f w S v ps):∃ ad c,v=.slice ad ps.length c:=by
 obtain⟨ad,c,hv,_⟩:=h
 exact⟨ad,c,hv⟩
theorem lP {k f:Nat} {w W:World} {S:Nat→Prop} {v:Value} {ps:List Pl} (h:eJ k f w S v ps) (hW:∀ b,S b→W.heap[b]? = w.heap[b]?) {q:Nat} {x:Pl} (hx:ps[q]? = some x) :
  ∃ g o c fa fc va vc ma mc ia ic,v=.slice (some ⟨g,o,none⟩) ps.length c∧S g∧W.cell? ⟨g,o+q*k,none⟩=some (.int .i64 x.2.kind)∧W.cell? ⟨g,o+q*k+1,none⟩=some (.string (aC x.2.name))∧
   W.cell? ⟨g,o+q*k+2,none⟩=some (.int .i64 x.2.line)∧W.cell? ⟨g,o+q*k+3,none⟩=some (.int .i64 x.2.col)∧W.cell? ⟨g,o+q*k+4,none⟩=some (.slice fa x.2.fields.length fc)∧
   W.cell? ⟨g,o+q*k+5,none⟩=some (.slice va x.2.values.length vc)∧W.cell? ⟨g,o+q*k+6,none⟩=some (.slice ma x.2.methods.length mc)∧W.cell? ⟨g,o+q*k+7,none⟩=some (.slice ia x.2.inner.length ic)∧
   W.cell? ⟨g,o+q*k+8,none⟩=some (.string (aC x.1))∧
   Kids f W S (.slice fa x.2.fields.length fc) (.slice va x.2.values.length vc) (.slice ma x.2.methods.length mc) (.slice ia x.2.inner.length ic) x.2:=by
 obtain⟨ad,c,hsl,hcc,hrows⟩:=h
 rcases hrows with h0 | ⟨g,o,had,hg,hrow⟩
 ·rw[h0]at hx;simp at hx
 subst had
 obtain⟨fs,vs,ms,ins,hcell,kd⟩:=hrow q x hx
 have kd0:=kd
 obtain⟨r1,r2,r3,r4⟩:=kd0
 obtain⟨fa,fc,rfl⟩:=r1.cM
 obtain⟨va,vc,rfl⟩:=r2.cM
 obtain⟨ma,mc,rfl⟩:=r3.cM
 obtain⟨ia,ic,rfl⟩:=r4.eI
 have hb:=hW g hg
 have hc:∀ i u,(eZ x.2 (.slice fa x.2.fields.length fc) (.slice va x.2.values.length vc) (.slice ma x.2.methods.length mc) (.slice ia x.2.inner.length ic)++[.string (aC x.1)])[i]? = some u→W.cell? ⟨g,o+(q*k+i),none⟩=some u:=fun i u hu=>by
  rw[World.cell?_of_block hb];exact hcell i u hu
 refine⟨g,o,c,fa,fc,va,vc,ma,mc,ia,ic,hsl,hg,?_,?_,?_,?_,?_,?_,?_,?_,?_,kd.old hW⟩
 ·have:=hc 0 _ rfl;simpa [Nat.add_assoc]using this
 ·have:=hc 1 _ rfl;simpa [Nat.add_assoc]using this
 ·have:=hc 2 _ rfl;simpa [Nat.add_assoc]using this
 ·have:=hc 3 _ rfl;simpa [Nat.add_assoc]using this
 ·have:=hc 4 _ rfl;simpa [Nat.add_assoc]using this
 ·have:=hc 5 _ rfl;simpa [Nat.add_assoc]using this
 ·have:=hc 6 _ rfl;simpa [Nat.add_assoc]using this
 ·have:=hc 7 _ rfl;simpa [Nat.add_assoc]using this
 ·have:=hc 8 _ rfl;simpa [Nat.add_assoc]using this
theorem jV {w W:World} {S:Nat→Prop} {v:Value} {xs:List Fd} (h:RowsIn w S 6 pZ v xs) (hW:∀ b,S b→W.heap[b]? = w.heap[b]?) {q:Nat} {x:Fd} (hx:xs[q]? = some x) :
  ∃ g o c,v=.slice (some ⟨g,o,none⟩) xs.length c∧S g∧W.cell? ⟨g,o+q*6,none⟩=some (.bool x.rep)∧W.cell? ⟨g,o+q*6+1,none⟩=some (.string (aC x.type))∧W.cell? ⟨g,o+q*6+2,none⟩=some (.string (aC x.name))∧
   W.cell? ⟨g,o+q*6+3,none⟩=some (.int .i64 x.num)∧W.cell? ⟨g,o+q*6+4,none⟩=some (.int .i64 x.line)∧W.cell? ⟨g,o+q*6+5,none⟩=some (.int .i64 x.col):=by
 obtain⟨ad,c,hsl,hcc,hrows⟩:=h
 rcases hrows with h0 | ⟨g,o,had,hg,hrow⟩
 ·rw[h0]at hx;simp at hx
 subst had
 have hb:=hW g hg
 have hc:∀ i u,(pZ x)[i]? = some u→W.cell? ⟨g,o+(q*6+i),none⟩=some u:=fun i u hu=>by
  rw[World.cell?_of_block hb];exact hrow q x hx i u hu
 refine⟨g,o,c,hsl,hg,?_,?_,?_,?_,?_,?_⟩
 ·have:=hc 0 _ rfl;simpa [Nat.add_assoc]using this
 ·have:=hc 1 _ rfl;simpa [Nat.add_assoc]using this
 ·have:=hc 2 _ rfl;simpa [Nat.add_assoc]using this
 ·have:=hc 3 _ rfl;simpa [Nat.add_assoc]using this
 ·have:=hc 4 _ rfl;simpa [Nat.add_assoc]using this
 ·have:=hc 5 _ rfl;simpa [Nat.add_assoc]using this
theorem rM {w W:World} {S:Nat→Prop} {v:Value} {xs:List Vl} (h:RowsIn w S 4 sJ v xs) (hW:∀ b,S b→W.heap[b]? = w.heap[b]?) {q:Nat} {x:Vl} (hx:xs[q]? = some x) :
  ∃ g o c,v=.slice (some ⟨g,o,none⟩) xs.length c∧S g∧W.cell? ⟨g,o+q*4,none⟩=some (.string (aC x.name))∧
   W.cell? ⟨g,o+q*4+1,none⟩=some (.int .i64 x.num)∧W.cell? ⟨g,o+q*4+2,none⟩=some (.int .i64 x.line)∧W.cell? ⟨g,o+q*4+3,none⟩=some (.int .i64 x.col):=by
 obtain⟨ad,c,hsl,hcc,hrows⟩:=h
 rcases hrows with h0 | ⟨g,o,had,hg,hrow⟩
 ·rw[h0]at hx;simp at hx
 subst had
 have hb:=hW g hg
 have hc:∀ i u,(sJ x)[i]? = some u→W.cell? ⟨g,o+(q*4+i),none⟩=some u:=fun i u hu=>by
  rw[World.cell?_of_block hb];exact hrow q x hx i u hu
 refine⟨g,o,c,hsl,hg,?_,?_,?_,?_⟩
 ·have:=hc 0 _ rfl;simpa [Nat.add_assoc]using this
 ·have:=hc 1 _ rfl;simpa [Nat.add_assoc]using this
 ·have:=hc 2 _ rfl;simpa [Nat.add_assoc]using this
 ·have:=hc 3 _ rfl;simpa [Nat.add_assoc]using this
theorem rN {w W:World} {S:Nat→Prop} {v:Value} {xs:List Mt} (h:RowsIn w S 5 sK v xs) (hW:∀ b,S b→W.heap[b]? = w.heap[b]?) {q:Nat} {x:Mt} (hx:xs[q]? = some x) :
  ∃ g o c,v=.slice (some ⟨g,o,none⟩) xs.length c∧S g∧W.cell? ⟨g,o+q*5,none⟩=some (.string (aC x.name))∧W.cell? ⟨g,o+q*5+1,none⟩=some (.string (aC x.inp))∧W.cell? ⟨g,o+q*5+2,none⟩=some (.string (aC x.out))∧
   W.cell? ⟨g,o+q*5+3,none⟩=some (.int .i64 x.line)∧W.cell? ⟨g,o+q*5+4,none⟩=some (.int .i64 x.col):=by
 obtain⟨ad,c,hsl,hcc,hrows⟩:=h
 rcases hrows with h0 | ⟨g,o,had,hg,hrow⟩
 ·rw[h0]at hx;simp at hx
 subst had
 have hb:=hW g hg
 have hc:∀ i u,(sK x)[i]? = some u→W.cell? ⟨g,o+(q*5+i),none⟩=some u:=fun i u hu=>by
  rw[World.cell?_of_block hb];exact hrow q x hx i u hu
 refine⟨g,o,c,hsl,hg,?_,?_,?_,?_,?_⟩
 ·have:=hc 0 _ rfl;simpa [Nat.add_assoc]using this
 ·have:=hc 1 _ rfl;simpa [Nat.add_assoc]using this
 ·have:=hc 2 _ rfl;simpa [Nat.add_assoc]using this
 ·have:=hc 3 _ rfl;simpa [Nat.add_assoc]using this
 ·have:=hc 4 _ rfl;simpa [Nat.add_assoc]using this
def aRq (o:Option (Int × Int)) (l c:Int) (b:Bool):Prop:=(o=none∧b=false∧l=0∧c=0)∨(b=true∧o=some (l,c))
def wN (w:World) (o:Option (Int × Int)) (e:Ending) (w':World):Prop:=∃ l c b,e=.returned (.tuple #[.agg #[.int .i64 l,.int .i64 c],.bool b])∧Below w.heap.size w w'∧aRq o l c b
end Go.Proofs.YtpojeinddnjpfaaGreatDoor
