/-
  Walks and plain words (ShS ShV FoA VnT VkA).
-/
import Derived.Test.YteajlfgbmefncaaGreatDoorN0
import Derived.Test.YteajlfgbmefncaaGreatDoorN5
import Derived.Test.YteajlfgbmefncaaGreatDoorChecked
import Derived.Maps.OwnSet
import Derived.Deep.RegionLaw
import Derived.Deep.RegionHeldLaw
import Derived.Deep.AppendLies
import Derived.Deep.Cut
import Derived.Deep.DeepCutAuto
import Derived.Laws.AppendOwn
import Derived.OwnWalk
import Derived.Maps.AppendAt
import Derived.BigQuiet
import Derived.Deep.QuietTactic
import Derived.Lib.Hide
namespace Go.Proofs.YteajlfgbmefncaaGreatDoor
set_option linter.unusedVariables false
open Go.RowKit Go.Maps Go.WideMaps

theorem keyedS:Keyed Tryz.prog 9:=string_keyed Tryz.underlying9
theorem keyedI:Keyed Tryz.prog 3:=int_keyed Tryz.underlying3
def IsSet {α:Type} (K:TypeId) (lit:α→Lit) (w:World) (b:Nat) (ks:List α):Prop:=
 ∃ n,n≤ks.length∧w.ownsMap (H:=Unit) Tryz.prog K unitElem b n (setOf (.agg []) (ks.map lit))
def litS (x:List UInt8):Lit:=.string x
def litI (x:Int):Lit:=.int .i64 x
theorem litS_key (x:List UInt8):WideAt.IsKeyLit (litS x):=trivial
theorem litI_key (x:Int):WideAt.IsKeyLit (litI x):=trivial
theorem litS_one (x y:List UInt8) (h:litS x=litS y):x=y:=by injection h
theorem litI_one (x y:Int) (h:litI x=litI y):x=y:=by injection h
theorem IsSet.old {α:Type} {K:TypeId} {lit:α→Lit} {w w':World} {b:Nat} {ks:List α} (h:IsSet K lit w b ks) (hb:w'.heap[b]? = w.heap[b]?):IsSet K lit w' b ks:=by
 obtain⟨n,hn,es,cl,h1,h2⟩:=h
 exact⟨n,hn,es,cl,hb.trans h1,h2⟩
theorem IsSet.lt {α:Type} {K:TypeId} {lit:α→Lit} {w:World} {b:Nat} {ks:List α} (h:IsSet K lit w b ks):b<w.heap.size:=by
 obtain⟨n,hn,es,cl,h1,h2⟩:=h
 exact(Array.getElem?_eq_some_iff.1 h1).1
theorem isSet_made {α:Type} (K:TypeId) (lit:α→Lit) {w:World} {b:Nat} (h:w.heap[b]? = some (.map #[] 0)):IsSet K lit w b ([]:List α):=
 ⟨0,Nat.zero_le _,#[],0,h,⟨by simp,MapKept.stamped_empty 0,by simp⟩,Nat.le_refl _,rfl⟩
theorem mem_any {α:Type} {lit:α→Lit} (hk:∀ x,WideAt.IsKeyLit (lit x)) (hi:∀ x y,lit x=lit y→x=y) [DecidableEq α] (ks:List α) (x:α):(ks.map lit).any (fun y=>y.sameKey (lit x))=decide (x∈ks):=by
 rw[Bool.eq_iff_iff]
 simp only[List.any_map,List.any_eq_true,decide_eq_true_iff,Function.comp]
 constructor
 ·rintro⟨y,hy,h⟩
  have:=hi _ _ ((WideAt.sameKey_iff (hk x)).1 h)
  subst this;exact hy
 ·intro h
  exact⟨x,h,(WideAt.sameKey_iff (hk x)).2 rfl⟩
theorem set_size {α:Type} {lit:α→Lit} (hk:∀ x,WideAt.IsKeyLit (lit x)) (hi:∀ x y,lit x=lit y→x=y) [DecidableEq α] (ks:List α) (x:α) :
  Maps.size ((setOf (H:=Unit) (.agg []) (ks.map lit)).put (lit x) (.agg []))=Maps.size (setOf (H:=Unit) (.agg []) (ks.map lit))+(if x∈ks then 0 else 1):=by
 have hkk:∀ y∈ks.map lit,WideAt.IsKeyLit y:=by
  intro y hy
  obtain⟨z,_,rfl⟩:=List.mem_map.1 hy
  exact hk z
 rw[size_put (tidy_setOf _ _ hkk),has_setOf _ _ _ hkk,mem_any hk hi]
 by_cases h:x∈ks <;> simp[h]

set_option maxHeartbeats 4000000 in
theorem addS_any (b:Nat) (ks:List (List UInt8)) (x:(List UInt8)) (w:World) (h:IsSet 9 litS w b ks) (hx:x.length≤1000000000000) (hl:ks.length≤1000000) :
  Calls Tryz.prog 45 #[.map (some b),.string (mkB x)] w fun e w'=>e=.returned (.bool (!decide (x∈ks)))∧IsSet 9 litS w' b (ks++[x])∧w.grownBy w' (some b):=by
 obtain⟨n,hn,hown⟩:=h
 have HOWN:=hQz hown
 have hkey:keyOf Tryz.prog 9 (.string (mkB x))=some (litS x):=by
  have:=keyOf_string_mk (P:=Tryz.prog) (s:=mkB x) Tryz.underlying9 (by rw[mkB_size];unfold maxLen;omega)
  simpa [litS,mkB]using this
 have hsz:=set_size litS_key litS_one ks x
 obtain⟨D,hD⟩:∃ D,setOf (H:=Unit) (.agg []) (ks.map litS)=D:=⟨_,rfl⟩
 have hsl:=hown.size_le
 rw[hD]at hown hsz HOWN hsl
 obtain⟨B,hB⟩:∃ B,(!decide (x∈ks))=B:=⟨_,rfl⟩
 obtain⟨s1,hs1⟩:∃ s1,Maps.size D=s1:=⟨_,rfl⟩
 obtain⟨s2,hs2⟩:∃ s2,Maps.size (D.put (litS x) (.agg []))=s2:=⟨_,rfl⟩
 have HRES:Hid (((s1:Nat):Int)<((s2:Nat):Int)↔B=true):=by
  refine(?_:_↔_)
  rw[←hB,←hs1,←hs2,hsz]
  by_cases hm:x∈ks <;> simp[hm] <;> omega
 have HD:=hQz hD
 have HS1:=hQz hs1
 have HS2:=hQz hs2
 rw[hB]
 clear hD hsz hB hs1 hs2
 go_enter Tryz.func45,Tryz.ntmps45
 go_wp2_with (first
  | (at_len;refine wpList_len_own _ rfl _ 112 rfl 9 146 Tryz.underlying112 _ b n D rfl HOWN.out ?_;rw[HS1.out])
  | (at_mapUpdate;refine wpList_mapUpdate_own _ rfl _ _ _ 112 rfl 9 146 keyedS Tryz.underlying112 _ b n D rfl HOWN.out (by unfold maxLen;omega) _ _ _ rfl rfl hkey _ [] unitElem_mk ?_;intro w1 hown1 hgr1;have HOWN1:=hQz hown1;have HGR:=hQz hgr1;clear hown1 hgr1 HOWN HS1)
  | (at_len;refine wpList_len_own _ rfl _ 112 rfl 9 146 Tryz.underlying112 _ b (n+1) (D.put (litS x) (.agg [])) rfl HOWN1.out ?_;rw[HS2.out]))
 have hBv:decide (s1<s2)=B:=by
  have:=HRES.out
  cases B
  ·simp at this ⊢;omega
  ·simp at this ⊢;omega
 rw[hBv]
 go_ret
 refine⟨rfl,⟨n+1,by simp;omega,?_⟩,HGR.out⟩
 rw[List.map_append,List.map_cons,List.map_nil,setOf_snoc,HD.out]
 exact HOWN1.out
set_option maxHeartbeats 4000000 in
theorem addI_any (b:Nat) (ks:List Int) (x:Int) (w:World) (h:IsSet 3 litI w b ks) (hx:(Lit.int .i64 x).wf=true) (hl:ks.length≤1000000) :
  Calls Tryz.prog 75 #[.map (some b),.int .i64 x] w fun e w'=>e=.returned (.bool (!decide (x∈ks)))∧IsSet 3 litI w' b (ks++[x])∧w.grownBy w' (some b):=by
 obtain⟨n,hn,hown⟩:=h
 have HOWN:=hQz hown
 have hkey:keyOf Tryz.prog 3 (.int .i64 x)=some (litI x):=keyOf_int_mk Tryz.underlying3 hx
 have hsz:=set_size litI_key litI_one ks x
 obtain⟨D,hD⟩:∃ D,setOf (H:=Unit) (.agg []) (ks.map litI)=D:=⟨_,rfl⟩
 have hsl:=hown.size_le
 rw[hD]at hown hsz HOWN hsl
 obtain⟨B,hB⟩:∃ B,(!decide (x∈ks))=B:=⟨_,rfl⟩
 obtain⟨s1,hs1⟩:∃ s1,Maps.size D=s1:=⟨_,rfl⟩
 obtain⟨s2,hs2⟩:∃ s2,Maps.size (D.put (litI x) (.agg []))=s2:=⟨_,rfl⟩
 have HRES:Hid (((s1:Nat):Int)<((s2:Nat):Int)↔B=true):=by
  refine(?_:_↔_)
  rw[←hB,←hs1,←hs2,hsz]
  by_cases hm:x∈ks <;> simp[hm] <;> omega
 have HD:=hQz hD
 have HS1:=hQz hs1
 have HS2:=hQz hs2
 rw[hB]
 clear hD hsz hB hs1 hs2
 go_enter Tryz.func75,Tryz.ntmps75
 go_wp2_with (first
  | (at_len;refine wpList_len_own _ rfl _ 149 rfl 3 146 Tryz.underlying149 _ b n D rfl HOWN.out ?_;rw[HS1.out])
  | (at_mapUpdate;refine wpList_mapUpdate_own _ rfl _ _ _ 149 rfl 3 146 keyedI Tryz.underlying149 _ b n D rfl HOWN.out (by unfold maxLen;omega) _ _ _ rfl rfl hkey _ [] unitElem_mk ?_;intro w1 hown1 hgr1;have HOWN1:=hQz hown1;have HGR:=hQz hgr1;clear hown1 hgr1 HOWN HS1)
  | (at_len;refine wpList_len_own _ rfl _ 149 rfl 3 146 Tryz.underlying149 _ b (n+1) (D.put (litI x) (.agg [])) rfl HOWN1.out ?_;rw[HS2.out]))
 have hBv:decide (s1<s2)=B:=by
  have:=HRES.out
  cases B
  ·simp at this ⊢;omega
  ·simp at this ⊢;omega
 rw[hBv]
 go_ret
 refine⟨rfl,⟨n+1,by simp;omega,?_⟩,HGR.out⟩
 rw[List.map_append,List.map_cons,List.map_nil,setOf_snoc,HD.out]
 exact HOWN1.out
open Go.ChangeShapes Go.WideShapes Go.ChangeAt
def fdrow (x:FD):List Value:=[.int .i64 x.num,.string (mkB x.name),.int .i64 x.kind,.bool x.rep,.int .i64 x.type]
def vdrow (x:VD):List Value:=[.string (mkB x.name),.int .i64 x.num]
def tdrow (x:TD):List Value:=[.int .i64 x.id,.string (mkB x.service),.string (mkB x.name),.int .i64 x.inp,.int .i64 x.out]
def HeldN {α β:Type} (nm:α→List UInt8) (kids:α→List β) (k:Nat) (row:β→List Value) (w:World) (S:Nat→Prop) (v:Value) (xs:List α):Prop:=
 ∃ ad c,v=.slice ad xs.length c∧xs.length≤c∧(xs=[]∨∃ g o,ad=some ⟨g,o,none⟩∧S g∧∀ (j:Nat) (x:α),xs[j]? = some x→
   ∃ ka kc,w.cell? ⟨g,o+j*2,none⟩=some (.string (mkB (nm x)))∧w.cell? ⟨g,o+j*2+1,none⟩=some (.slice ka (kids x).length kc)∧RowsIn w S k row (.slice ka (kids x).length kc) (kids x))
def HeldM:=@HeldN MD FD MD.name MD.fields 5 fdrow
def HeldE:=@HeldN ED VD ED.name ED.values 2 vdrow
def HeldT (w:World) (S:Nat→Prop) (v:Value) (ts:List TD):Prop:=RowsIn w S 5 tdrow v ts
def HeldSc (w:World) (S:Nat→Prop) (a b c:Value) (s:SC):Prop:=HeldM w S a s.ms∧HeldE w S b s.es∧HeldT w S c s.ts
section
variable {α β:Type} {nm:α→List UInt8} {kids:α→List β} {k:Nat} {row:β→List Value} {w w' W:World} {S S':Nat→Prop} {v:Value} {xs:List α}
theorem HeldN.old (h:HeldN nm kids k row w S v xs) (hb:∀ b,S b→w'.heap[b]? = w.heap[b]?):HeldN nm kids k row w' S v xs:=by
 obtain⟨ad,c,hv,hc,h⟩:=h
 refine⟨ad,c,hv,hc,h.imp id ?_⟩
 rintro⟨g,o,ha,hg,h⟩
 refine⟨g,o,ha,hg,fun j d hj=>?_⟩
 obtain⟨ka,kc,h0,h1,h2⟩:=h j d hj
 exact⟨ka,kc,by rw[World.cell?_of_block (hb g hg)];exact h0,by rw[World.cell?_of_block (hb g hg)];exact h1,h2.old hb⟩
theorem HeldN.more (h:HeldN nm kids k row w S v xs) (hb:∀ b,S b→S' b):HeldN nm kids k row w S' v xs:=by
 obtain⟨ad,c,hv,hc,h⟩:=h
 refine⟨ad,c,hv,hc,h.imp id ?_⟩
 rintro⟨g,o,ha,hg,h⟩
 refine⟨g,o,ha,hb g hg,fun j d hj=>?_⟩
 obtain⟨ka,kc,h0,h1,h2⟩:=h j d hj
 exact⟨ka,kc,h0,h1,h2.more hb⟩
theorem HeldN.isSl (h:HeldN nm kids k row w S v xs):∃ ad c,v=.slice ad xs.length c:=by
 obtain⟨ad,c,hv,_⟩:=h
 exact⟨ad,c,hv⟩
theorem HeldN.nil (ad:Option Addr) (c:Nat):HeldN nm kids k row w S (.slice ad 0 c) ([]:List α):=⟨ad,c,rfl,Nat.zero_le _,.inl rfl⟩
theorem HeldN.at (h:HeldN nm kids k row w S v xs) (hW:∀ b,S b→W.heap[b]? = w.heap[b]?) {q:Nat} {x:α} (hx:xs[q]? = some x) :
  ∃ g o c ka kc,v=.slice (some ⟨g,o,none⟩) xs.length c∧S g∧W.cell? ⟨g,o+q*2,none⟩=some (.string (mkB (nm x)))∧W.cell? ⟨g,o+q*2+1,none⟩=some (.slice ka (kids x).length kc)∧RowsIn W S k row (.slice ka (kids x).length kc) (kids x):=by
 obtain⟨ad,c,hsl,hcc,hrows⟩:=h
 rcases hrows with h0 | ⟨g,o,had,hg,hrow⟩
 ·rw[h0]at hx;simp at hx
 subst had
 obtain⟨ka,kc,h0,h1,h2⟩:=hrow q x hx
 have hb:=hW g hg
 exact⟨g,o,c,ka,kc,hsl,hg,by rw[World.cell?_of_block hb];exact h0,by rw[World.cell?_of_block hb];exact h1,h2.old hW⟩
end
theorem fd_at {w W:World} {S:Nat→Prop} {v:Value} {xs:List FD} (h:RowsIn w S 5 fdrow v xs) (hW:∀ b,S b→W.heap[b]? = w.heap[b]?) {q:Nat} {x:FD} (hx:xs[q]? = some x) :
  ∃ g o c,v=.slice (some ⟨g,o,none⟩) xs.length c∧S g∧W.cell? ⟨g,o+q*5,none⟩=some (.int .i64 x.num)∧W.cell? ⟨g,o+q*5+1,none⟩=some (.string (mkB x.name))∧W.cell? ⟨g,o+q*5+2,none⟩=some (.int .i64 x.kind)∧
   W.cell? ⟨g,o+q*5+3,none⟩=some (.bool x.rep)∧W.cell? ⟨g,o+q*5+4,none⟩=some (.int .i64 x.type):=by
 obtain⟨ad,c,hsl,hcc,hrows⟩:=h
 rcases hrows with h0 | ⟨g,o,had,hg,hrow⟩
 ·rw[h0]at hx;simp at hx
 subst had
 have hb:=hW g hg
 have hc:∀ i u,(fdrow x)[i]? = some u→W.cell? ⟨g,o+(q*5+i),none⟩=some u:=fun i u hu=>by
  rw[World.cell?_of_block hb];exact hrow q x hx i u hu
 refine⟨g,o,c,hsl,hg,?_,?_,?_,?_,?_⟩
 ·have:=hc 0 _ rfl;simpa [Nat.add_assoc]using this
 ·have:=hc 1 _ rfl;simpa [Nat.add_assoc]using this
 ·have:=hc 2 _ rfl;simpa [Nat.add_assoc]using this
 ·have:=hc 3 _ rfl;simpa [Nat.add_assoc]using this
 ·have:=hc 4 _ rfl;simpa [Nat.add_assoc]using this
/-! a row grows by one element -/
section
variable {T t:TypeId} {k bytes base n:Nat} {z:Value} {wx:World} {v:Value} {xs:List Value}
theorem row_pushL (ht:Tryz.prog.underlying t=some (.slice T)) (hin:(Tryz.prog.info? T).map (fun i=>(i.zero,i.size,i.bytes))=some (some z,k,bytes)) (hzk:z.cells.size=k) (hk0:0<k)
  (h:wx.ownsRow base T k v n xs) (hb0:base≤wx.heap.size) (r:List Value) (hrl:r.length=k) (hr1:∀ u∈r,u.oneCell'=true) (B:Nat) (hB:wx.heap[B]? = some (.cells r.toArray T (0,0)))
  {ops:Array Oper} {rest:List Oper} {o:Oper} {a:Act} {Q:Exit→Act→World→Prop} (hgd:o.guard=none) (s' x':Operand)
  (ho:o.op=.call { callee:=.builtin .append,args:=#[s',x'],argTypes:=#[t,t] }) (hs:a.eval s'=v) (hx:a.eval x'=.slice (some ⟨B,0,none⟩) 1 1) (hm:n+1≤maxLen) (hbd:(n+1)*bytes≤140737488355328)
  (hk:∀ g cap W,W.ownsRow base T k (.slice (some ⟨g,0,none⟩) (n+1) cap) (n+1) (xs++r)→wx.grownBy W v.ownBlock→(v.ownBlock=some g∨g=wx.heap.size)→g<W.heap.size→wpList Tryz.prog ops Q rest (a.put o.dst (.slice (some ⟨g,0,none⟩) (n+1) cap)) W) :
  wpList Tryz.prog ops Q (o :: rest) a wx:=by
 obtain⟨i0,hi0,hz0,hz1,hz2⟩:=info_parts hin
 exact wpList_append_lies _ hgd s' x' t ho base T i0 z k bytes ht hi0 hz0 hz1 hz2 hzk hk0 v n xs hs h ⟨B,0,none⟩ 1 1 r hx (by rw[hrl,Nat.one_mul]) (World.news_of_block (cs:=r.toArray) (t:=T) (fr:=(0,0)) hB) hr1 (by decide) hm hbd hb0 _ rfl hk
end
theorem own_cut {w:World} {base:Nat} {T:TypeId} {g n cap:Nat} {xs:List Value} {x:Value} (h:w.ownsRow base T 1 (.slice (some ⟨g,0,none⟩) (n+1) cap) (n+1) (xs++[x])):w.ownsRow base T 1 (.slice (some ⟨g,0,none⟩) n cap) n xs:=by
 obtain⟨hl,⟨hv,h0⟩ | ⟨g',cap',cur,hv,hg,hh,h3,h4,h5,h6⟩⟩:=h
 ·cases hv
 ·have hv':g=g'∧cap=cap':=by
   injection hv with h1 h2 h3
   injection h1 with h1
   injection h1 with h1
   exact⟨h1,h3⟩
  obtain⟨rfl,rfl⟩:=hv'
  have hxl:xs.length=n:=by simpa using hl
  refine⟨by omega,.inr ⟨g,cap,cur,rfl,hg,hh,by omega,h4,h5,?_⟩⟩
  have e1:cur.toList.take n=(cur.toList.take ((n+1)*1)).take n:=by rw[List.take_take,Nat.min_eq_left (by omega)]
  have e2:(xs++[x]).take n=xs:=by rw[List.take_append_of_le_length (by omega),List.take_of_length_le (l:=xs) (by omega)]
  rw[Nat.mul_one,e1,h6,e2]
theorem own_last {w:World} {base:Nat} {T:TypeId} {g n cap:Nat} {xs:List Value} {x:Value} (h:w.ownsRow base T 1 (.slice (some ⟨g,0,none⟩) (n+1) cap) (n+1) (xs++[x])):w.cell? ⟨g,n,none⟩=some x∧n+1≤cap:=by
 obtain⟨hl,⟨hv,h0⟩ | ⟨g',cap',cur,hv,hg,hh,h3,h4,h5,h6⟩⟩:=h
 ·cases hv
 ·have hv':g=g'∧cap=cap':=by
   injection hv with h1 h2 h3
   injection h1 with h1
   injection h1 with h1
   exact⟨h1,h3⟩
  obtain⟨rfl,rfl⟩:=hv'
  have hxl:xs.length=n:=by simpa using hl
  refine⟨?_,h3⟩
  have e:(cur.toList.take ((n+1)*1))[n]? = some x:=by rw[h6,List.getElem?_append_right (by omega),hxl];simp
  rw[List.getElem?_take,if_pos (by omega)]at e
  simp only[World.cell?,hh]
  simpa using e
theorem box_new (w:World) (cs:Array Value) (T:TypeId):∃ Y,w.alloc (.cells cs T)=Y∧Y.heap[w.heap.size]? = some (.cells cs T (0,0))∧Below w.heap.size w Y∧Y.heap.size=w.heap.size+1:=
 ⟨_,rfl,alloc_heap_new _ _,(Below.refl _ w).alloc (Nat.le_refl _) _,by simp⟩
theorem map_new (w:World):∃ Y,w.alloc (.map #[] 0)=Y∧Y.heap[w.heap.size]? = some (.map #[] 0)∧Below w.heap.size w Y∧Y.heap.size=w.heap.size+1:=
 ⟨_,rfl,alloc_heap_new _ _,(Below.refl _ w).alloc (Nat.le_refl _) _,by simp⟩
theorem slice_two {a a':Option Addr} {n n' c c':Nat} (h:Value.slice a n c=.slice a' n' c'):a=a'∧c=c':=by
 injection h with h1 _ h3
 exact⟨h1,h3⟩
theorem vd_at {w W:World} {S:Nat→Prop} {v:Value} {xs:List VD} (h:RowsIn w S 2 vdrow v xs) (hW:∀ b,S b→W.heap[b]? = w.heap[b]?) {q:Nat} {x:VD} (hx:xs[q]? = some x) :
  ∃ g o c,v=.slice (some ⟨g,o,none⟩) xs.length c∧S g∧W.cell? ⟨g,o+q*2,none⟩=some (.string (mkB x.name))∧W.cell? ⟨g,o+q*2+1,none⟩=some (.int .i64 x.num):=by
 obtain⟨ad,c,hsl,hcc,hrows⟩:=h
 rcases hrows with h0 | ⟨g,o,had,hg,hrow⟩
 ·rw[h0]at hx;simp at hx
 subst had
 have hb:=hW g hg
 have hc:∀ i u,(vdrow x)[i]? = some u→W.cell? ⟨g,o+(q*2+i),none⟩=some u:=fun i u hu=>by
  rw[World.cell?_of_block hb];exact hrow q x hx i u hu
 refine⟨g,o,c,hsl,hg,?_,?_⟩
 ·have:=hc 0 _ rfl;simpa [Nat.add_assoc]using this
 ·have:=hc 1 _ rfl;simpa [Nat.add_assoc]using this
theorem td_at {w W:World} {S:Nat→Prop} {v:Value} {xs:List TD} (h:RowsIn w S 5 tdrow v xs) (hW:∀ b,S b→W.heap[b]? = w.heap[b]?) {q:Nat} {x:TD} (hx:xs[q]? = some x) :
  ∃ g o c,v=.slice (some ⟨g,o,none⟩) xs.length c∧S g∧W.cell? ⟨g,o+q*5,none⟩=some (.int .i64 x.id)∧W.cell? ⟨g,o+q*5+1,none⟩=some (.string (mkB x.service))∧W.cell? ⟨g,o+q*5+2,none⟩=some (.string (mkB x.name))∧W.cell? ⟨g,o+q*5+3,none⟩=some (.int .i64 x.inp)∧W.cell? ⟨g,o+q*5+4,none⟩=some (.int .i64 x.out):=by
 obtain⟨ad,c,hsl,hcc,hrows⟩:=h
 rcases hrows with h0 | ⟨g,o,had,hg,hrow⟩
 ·rw[h0]at hx;simp at hx
 subst had
 have hb:=hW g hg
 have hc:∀ i u,(tdrow x)[i]? = some u→W.cell? ⟨g,o+(q*5+i),none⟩=some u:=fun i u hu=>by
  rw[World.cell?_of_block hb];exact hrow q x hx i u hu
 refine⟨g,o,c,hsl,hg,?_,?_,?_,?_,?_⟩
 ·have:=hc 0 _ rfl;simpa [Nat.add_assoc]using this
 ·have:=hc 1 _ rfl;simpa [Nat.add_assoc]using this
 ·have:=hc 2 _ rfl;simpa [Nat.add_assoc]using this
 ·have:=hc 3 _ rfl;simpa [Nat.add_assoc]using this
 ·have:=hc 4 _ rfl;simpa [Nat.add_assoc]using this
theorem frz_at {w:World} {B:Nat} {cs:Array Value} {T:TypeId} (h:w.heap[B]? = some (.cells cs T (0,0))) (i:Nat):w.frozen? ⟨B,i,none⟩=false:=by simp[World.frozen?,h]
def Cells (w:World) (g o:Nat) (l:List Value):Prop:=∀ (i:Nat) (u:Value),l[i]? = some u→w.cell? ⟨g,o+i,none⟩=some u
theorem Cells.old {w w':World} {g o:Nat} {l:List Value} (h:Cells w g o l) (hb:w'.heap[g]? = w.heap[g]?):Cells w' g o l:=fun i u hu=>by rw[World.cell?_of_block hb];exact h i u hu
def SlIn {α:Type} (S:Nat→Prop) (k:Nat) (R:α→Nat→Nat→Prop) (v:Value) (xs:List α):Prop:=
 ∃ ad c,v=.slice ad xs.length c∧xs.length≤c∧(xs=[]∨∃ g o,ad=some ⟨g,o,none⟩∧S g∧∀ (j:Nat) (x:α),xs[j]? = some x→R x g (o+j*k))
theorem SlIn.imp {α:Type} {S S':Nat→Prop} {k:Nat} {R R':α→Nat→Nat→Prop} {v:Value} {xs:List α} (h:SlIn S k R v xs) (hS:∀ b,S b→S' b) (hR:∀ x g o,S g→R x g o→R' x g o):SlIn S' k R' v xs:=by
 obtain⟨ad,c,hv,hc,h⟩:=h
 refine⟨ad,c,hv,hc,h.imp id ?_⟩
 rintro⟨g,o,ha,hg,h⟩
 exact⟨g,o,ha,hS g hg,fun j x hj=>hR x g _ hg (h j x hj)⟩
theorem SlIn.nil {α:Type} (S:Nat→Prop) (k:Nat) (R:α→Nat→Nat→Prop) (ad:Option Addr) (c:Nat):SlIn S k R (.slice ad 0 c) ([]:List α):=⟨ad,c,rfl,Nat.zero_le _,.inl rfl⟩
theorem SlIn.isSl {α:Type} {S:Nat→Prop} {k:Nat} {R:α→Nat→Nat→Prop} {v:Value} {xs:List α} (h:SlIn S k R v xs):∃ ad c,v=.slice ad xs.length c∧xs.length≤c:=by
 obtain⟨ad,c,hv,hc,_⟩:=h
 exact⟨ad,c,hv,hc⟩
theorem SlIn.at {α:Type} {S:Nat→Prop} {k:Nat} {R:α→Nat→Nat→Prop} {v:Value} {xs:List α} (h:SlIn S k R v xs) {j:Nat} {x:α} (hj:xs[j]? = some x):∃ g o c,v=.slice (some ⟨g,o,none⟩) xs.length c∧S g∧R x g (o+j*k):=by
 obtain⟨ad,c,hv,hc,h | ⟨g,o,ha,hg,h⟩⟩:=h
 ·rw[h]at hj;simp at hj
 ·exact⟨g,o,c,by rw[hv,ha],hg,h j x hj⟩
structure Shp where
 row:Nd→Value→List Value
 k:Nat
 deep:Nd→Bool
def HeldG (s:Shp) (w:World) (S:Nat→Prop):Nat→Value→List (Int × List Nd)→Prop
 | 0,v,fl=>fl=[]∧∃ ad c,v=.slice ad 0 c
 | f+1,v,fl=>SlIn S 2 (fun x g o=>∃ vs,Cells w g o [.int .i64 x.1,vs]∧SlIn S s.k (fun y g o=>∃ fs,Cells w g o (s.row y fs)∧(s.deep y=true→HeldG s w S f fs y.fields)) vs x.2) v fl
def ValsG (s:Shp) (w:World) (S:Nat→Prop) (f:Nat) (vs:Value) (ys:List Nd):Prop:=SlIn S s.k (fun y g o=>∃ fs,Cells w g o (s.row y fs)∧(s.deep y=true→HeldG s w S f fs y.fields)) vs ys
theorem HeldG.mv {s:Shp} {w w':World} {S S':Nat→Prop} (hb:∀ b,S b→w'.heap[b]? = w.heap[b]?) (hS:∀ b,S b→S' b):∀ {f:Nat} {v:Value} {fl:List (Int × List Nd)},HeldG s w S f v fl→HeldG s w' S' f v fl
 | 0,v,fl,h=>h
 | f+1,v,fl,h=>by
  refine SlIn.imp h hS fun x g o hg hx=>?_
  obtain⟨vs,hc,hv⟩:=hx
  refine⟨vs,hc.old (hb g hg),SlIn.imp hv hS fun y g o hg hy=>?_⟩
  obtain⟨fs,hc,hf⟩:=hy
  exact⟨fs,hc.old (hb g hg),fun hd=>HeldG.mv hb hS (hf hd)⟩
theorem ValsG.mv {s:Shp} {w w':World} {S S':Nat→Prop} (hb:∀ b,S b→w'.heap[b]? = w.heap[b]?) (hS:∀ b,S b→S' b) {f:Nat} {v:Value} {ys:List Nd} (h:ValsG s w S f v ys):ValsG s w' S' f v ys:=by
 refine SlIn.imp h hS fun y g o hg hy=>?_
 obtain⟨fs,hc,hf⟩:=hy
 exact⟨fs,hc.old (hb g hg),fun hd=>HeldG.mv hb hS (hf hd)⟩
theorem HeldG.up {s:Shp} {w:World} {S:Nat→Prop}:∀ {f:Nat} {v:Value} {fl:List (Int × List Nd)},HeldG s w S f v fl→HeldG s w S (f+1) v fl
 | 0,v,fl,⟨h,ad,c,hv⟩=>by subst h;rw[hv];exact SlIn.nil _ _ _ ad c
 | f+1,v,fl,h=>by
  refine SlIn.imp h (fun _ h=>h) fun x g o hg hx=>?_
  obtain⟨vs,hc,hv⟩:=hx
  refine⟨vs,hc,SlIn.imp hv (fun _ h=>h) fun y g o hg hy=>?_⟩
  obtain⟨fs,hc,hf⟩:=hy
  exact⟨fs,hc,fun hd=>HeldG.up (hf hd)⟩
theorem HeldG.upTo {s:Shp} {w:World} {S:Nat→Prop} {f g:Nat} (hfg:f≤g) {v:Value} {fl:List (Int × List Nd)} (h:HeldG s w S f v fl):HeldG s w S g v fl:=by
 obtain⟨k,rfl⟩:∃ k,g=f+k:=⟨g - f,by omega⟩
 clear hfg
 induction k with
 | zero=>exact h
 | succ k ih=>exact ih.up
theorem HeldG.nil (s:Shp) (w:World) (S:Nat→Prop) (f:Nat) (ad:Option Addr) (c:Nat):HeldG s w S f (.slice ad 0 c) []:=by
 cases f with
 | zero=>exact⟨rfl,ad,c,rfl⟩
 | succ f=>exact SlIn.nil _ _ _ ad c
theorem HeldG.isSl {s:Shp} {w:World} {S:Nat→Prop} {f:Nat} {v:Value} {fl:List (Int × List Nd)} (h:HeldG s w S f v fl):∃ ad c,v=.slice ad fl.length c:=by
 cases f with
 | zero=>obtain⟨rfl,ad,c,h⟩:=h;exact⟨ad,c,h⟩
 | succ f=>obtain⟨ad,c,h,_⟩:=SlIn.isSl h;exact⟨ad,c,h⟩
theorem HeldG.at {s:Shp} {w W:World} {S:Nat→Prop} {f:Nat} {v:Value} {fl:List (Int × List Nd)} (h:HeldG s w S f v fl) (hW:∀ b,S b→W.heap[b]? = w.heap[b]?) {j:Nat} {x:Int × List Nd} (hj:fl[j]? = some x) :
  ∃ f' g o c va vc,f=f'+1∧v=.slice (some ⟨g,o,none⟩) fl.length c∧S g∧W.cell? ⟨g,o+j*2,none⟩=some (.int .i64 x.1)∧W.cell? ⟨g,o+j*2+1,none⟩=some (.slice va x.2.length vc)∧ValsG s w S f' (.slice va x.2.length vc) x.2:=by
 cases f with
 | zero=>rw[h.1]at hj;simp at hj
 | succ f=>
  obtain⟨g,o,c,hv,hg,vs,hc,hs⟩:=SlIn.at h hj
  have hcW:=hc.old (hW g hg)
  obtain⟨va,vc,rfl,_⟩:=SlIn.isSl hs
  refine⟨f,g,o,c,va,vc,rfl,hv,hg,?_,?_,hs⟩
  ·have:=hcW 0 _ rfl;simpa using this
  ·have:=hcW 1 _ rfl;simpa [Nat.add_assoc]using this
theorem ValsG.at {s:Shp} {w:World} {S:Nat→Prop} {f:Nat} {v:Value} {ys:List Nd} (h:ValsG s w S f v ys) {j:Nat} {y:Nd} (hj:ys[j]? = some y) :
  ∃ g o c fs,v=.slice (some ⟨g,o,none⟩) ys.length c∧S g∧Cells w g (o+j*s.k) (s.row y fs)∧(s.deep y=true→HeldG s w S f fs y.fields):=by
 obtain⟨g,o,c,hv,hg,fs,h1,h2⟩:=SlIn.at h hj
 exact⟨g,o,c,fs,hv,hg,h1,h2⟩
def nrow (y:Nd) (fs:Value):List Value:=[.int .i64 y.kind,.int .i64 y.n,.int .u64 y.u,.bool y.b,.string (mkB y.s),.int .i64 y.type,fs]
def rawS:Shp:=⟨nrow,7,fun _=>true⟩
def crow (y:Nd) (fs:Value):List Value:=nrow (cn y) fs
def clS:Shp:=⟨fun y fs=>crow y (if y.kind=7 then fs else .slice none 0 0),7,fun y=>decide (y.kind=7)⟩
def ival (y:Nd) (fs:Value):Value:=
 if y.kind=1 then .iface 68 (.int .i64 y.n) else if y.kind=2 then .iface 69 (.int .u64 y.u) else if y.kind=3 then .iface 70 (.bool y.b)
 else if y.kind=4 then .iface 71 (.string (mkB y.s)) else if y.kind=5 then .iface 72 (.string (mkB y.s)) else if y.kind=6 then .iface 73 (.int .i32 (IntKind.i32.wrap y.n))
 else if y.kind=7 then .iface 76 (.agg #[.int .i64 y.type,fs,.string (mkB y.s)]) else .nilIface
def valS:Shp:=⟨fun y fs=>[ival y fs],1,fun y=>decide (y.kind=7)⟩
def HeldV (w:World) (S:Nat→Prop) (f:Nat) (v:Value) (y:Nd):Prop:=∃ fs,v=ival y fs∧(y.kind=7→HeldG valS w S f fs y.fields)
theorem HeldV.mv {w w':World} {S S':Nat→Prop} (hb:∀ b,S b→w'.heap[b]? = w.heap[b]?) (hS:∀ b,S b→S' b) {f:Nat} {v:Value} {y:Nd} (h:HeldV w S f v y):HeldV w' S' f v y:=by
 obtain⟨fs,hv,h⟩:=h
 exact⟨fs,hv,fun hk=>HeldG.mv hb hS (h hk)⟩
def FitG (bs bf:Nat):Nat→Nd→Prop
 | 0,x=>x.s.length≤bs
 | f+1,x=>x.s.length≤bs∧x.fields.length≤bf∧∀ p∈x.fields,p.2.length≤bf∧∀ y∈p.2,FitG bs bf f y
theorem FitG.s {bs bf f:Nat} {x:Nd} (h:FitG bs bf f x):x.s.length≤bs:=by
 cases f with
 | zero=>exact h
 | succ f=>exact h.1
def FarV (w:World) (base:Nat) (v:Value) (b:Nat):Prop:=base≤b∧b<w.heap.size∧v.ownBlock≠some b
structure Gr {α:Type} (R:World→(Nat→Prop)→α→List Value→Prop) (w:World) (base:Nat) (T:TypeId) (k:Nat) (v:Value) (xs:List α) (rs:List (List Value)):Prop where
 own:w.ownsRow base T k v xs.length (rs.flatMap id)
 len:rs.length=xs.length
 row:∀ r∈rs,r.length=k
 kids:∀ (j:Nat) (x:α) (r:List Value),xs[j]? = some x→rs[j]? = some r→R w (FarV w base v) x r
def Mvs {α:Type} (R:World→(Nat→Prop)→α→List Value→Prop):Prop:=∀ (w w':World) (S S':Nat→Prop) (x:α) (r:List Value),R w S x r→(∀ b,S b→w'.heap[b]? = w.heap[b]?)→(∀ b,S b→S' b)→R w' S' x r
theorem Gr.nil {α:Type} (R:World→(Nat→Prop)→α→List Value→Prop) (w:World) (base:Nat) (T:TypeId) (k:Nat):Gr R w base T k (.slice none 0 0) [] []:=
 ⟨World.ownsRow_nil _ _ _ _,rfl,(fun r hr=>by cases hr),fun j x r h=>by simp at h⟩
theorem Gr.blk {α:Type} {R:World→(Nat→Prop)→α→List Value→Prop} {w:World} {base:Nat} {T:TypeId} {k:Nat} {v:Value} {xs:List α} {rs:List (List Value)} (h:Gr R w base T k v xs rs):∀ b,v.ownBlock=some b→base≤b∧b<w.heap.size:=own_block h.own
theorem Gr.keep {α:Type} {R:World→(Nat→Prop)→α→List Value→Prop} (hR:Mvs R) {w w':World} {base:Nat} {T:TypeId} {k:Nat} {v:Value} {xs:List α} {rs:List (List Value)} (h:Gr R w base T k v xs rs) (hb:∀ b,base≤b→b<w.heap.size→w'.heap[b]? = w.heap[b]?) (hs:w.heap.size≤w'.heap.size):Gr R w' base T k v xs rs:=
 ⟨own_keep h.own fun b hb'=>hb b (h.blk b hb').1 (h.blk b hb').2,h.len,h.row,fun j x r h1 h2=>hR _ _ _ _ x r (h.kids j x r h1 h2) (fun b hF=>hb b hF.1 hF.2.1) (fun b hF=>⟨hF.1,by have:=hF.2.1;omega,hF.2.2⟩)⟩
theorem Gr.push {α:Type} {R:World→(Nat→Prop)→α→List Value→Prop} (hR:Mvs R) {w W:World} {base:Nat} {T:TypeId} {k:Nat} {v:Value} {xs:List α} {rs:List (List Value)} (h:Gr R w base T k v xs rs) {x:α} {r:List Value} (hr:r.length=k) (hx:R w (FarV w base v) x r) {g cap n:Nat} (hn:xs.length=n)
  (ho:W.ownsRow base T k (.slice (some ⟨g,0,none⟩) (n+1) cap) (n+1) (rs.flatMap id++r)) (hg:w.grownBy W v.ownBlock) (hgg:v.ownBlock=some g∨g=w.heap.size):Gr R W base T k (.slice (some ⟨g,0,none⟩) (n+1) cap) (xs++[x]) (rs++[r]):=by
 have hmv:∀ (x:α) (r:List Value),R w (FarV w base v) x r→R W (FarV W base (.slice (some ⟨g,0,none⟩) (n+1) cap)) x r:=fun x r hx=>hR _ _ _ _ x r hx (fun b hF=>hg.block b hF.2.1 (fun e=>hF.2.2 e.symm)) (fun b hF=>⟨hF.1,by have:=hF.2.1;have:=hg.size;omega,fun e=>by
  have e2:g=b:=by simpa [Value.ownBlock]using e
  rcases hgg with h1 | h1
  ·exact hF.2.2 (by rw[h1,e2])
  ·have:=hF.2.1;omega⟩)
 refine⟨?_,by simp[h.len],?_,?_⟩
 ·rw[List.flatMap_append,List.length_append,hn];simpa using ho
 ·intro q hq
  rcases List.mem_append.1 hq with hq | hq
  ·exact h.row q hq
  ·have:q=r:=by simpa using hq
   rw[this];exact hr
 ·intro j y q hy hq
  rcases Nat.lt_or_ge j xs.length with hl | hl
  ·rw[List.getElem?_append_left hl]at hy
   rw[List.getElem?_append_left (by rw[h.len];exact hl)]at hq
   exact hmv y q (h.kids j y q hy hq)
  ·rw[List.getElem?_append_right hl]at hy
   rw[List.getElem?_append_right (by rw[h.len];exact hl),h.len]at hq
   have hj:j - xs.length=0:=by
    have:=(List.getElem?_eq_some_iff.1 hy).1
    simpa using this
   rw[hj]at hy hq
   have e1:x=y:=by simpa using hy
   have e2:r=q:=by simpa using hq
   subst e1 e2
   exact hmv _ _ hx
theorem flatK:∀ (rs:List (List Value)) (k j:Nat) (r:List Value) (i:Nat),(∀ r∈rs,r.length=k)→i<k→rs[j]? = some r→(rs.flatMap id)[j*k+i]? = r[i]?
 | [],k,j,r,i,h8,hi,h=>by simp at h
 | a :: t,k,0,r,i,h8,hi,h=>by
  have e:a=r:=by simpa using h
  subst e
  rw[List.flatMap_cons,Nat.zero_mul,Nat.zero_add,List.getElem?_append_left (by show i<(id a).length;rw[show (id a).length=k from h8 a (by simp)];exact hi)];rfl
 | a :: t,k,j+1,r,i,h8,hi,h=>by
  have ha:(id a).length=k:=h8 a (by simp)
  rw[List.flatMap_cons,List.getElem?_append_right (by rw[ha,Nat.succ_mul];omega),ha,show (j+1)*k+i - k=j*k+i by rw[Nat.succ_mul];omega]
  exact flatK t k j r i (fun r hr=>h8 r (List.mem_cons_of_mem _ hr)) hi (by simpa using h)
theorem Gr.held {α:Type} {R:World→(Nat→Prop)→α→List Value→Prop} {w:World} {base:Nat} {T:TypeId} {k:Nat} {v:Value} {xs:List α} {rs:List (List Value)} (h:Gr R w base T k v xs rs) (S:Nat→Prop) (hS:∀ b,v.ownBlock=some b→S b):SlIn S k (fun x g o=>∃ r,Cells w g o r∧R w (FarV w base v) x r) v xs:=by
 have hk:=h.kids
 have hrow:=h.row
 have hlen:=h.len
 obtain⟨hl,⟨rfl,h0⟩ | ⟨g,cap,cur,rfl,hg,hh,h3,h4,h5,h6⟩⟩:=h.own
 ·exact⟨none,0,by rw[h0],by omega,.inl (List.eq_nil_of_length_eq_zero h0)⟩
 ·refine⟨_,cap,rfl,h3,.inr ⟨g,0,rfl,hS g rfl,fun j x hj=>?_⟩⟩
  have hjl:=(List.getElem?_eq_some_iff.1 hj).1
  obtain⟨r,hr⟩:∃ r,rs[j]? = some r:=⟨_,List.getElem?_eq_getElem (by rw[hlen];exact hjl)⟩
  refine⟨r,fun i u hu=>?_,hk j x r hj hr⟩
  have hrl:=hrow r (List.mem_of_getElem? hr)
  have hi:i<k:=by
   have:=(List.getElem?_eq_some_iff.1 hu).1
   rw[hrl]at this;exact this
  have e:=flatK rs k j r i hrow hi hr
  have hb:j*k+i<xs.length*k:=by
   have:(j+1)*k≤xs.length*k:=Nat.mul_le_mul_right k hjl
   rw[Nat.succ_mul]at this
   omega
  rw[←h6,List.getElem?_take,if_pos (by omega),hu]at e
  simp only[World.cell?,hh]
  rw[Nat.zero_add]
  simpa using e
set_option maxHeartbeats 4000000 in
theorem ownT_any (k:Int) (w:World):Calls Tryz.prog 104 #[.int .i64 k] w fun e w'=>e=.returned (.int .i64 (ownT k))∧w'=w:=by
 unfold ownT
 by_cases h1:k=1
 ·subst h1;go_enter Tryz.func104,Tryz.ntmps104
  go_wp2_with fail
  go_ret
  exact⟨rfl,rfl⟩
 by_cases h2:k=2
 ·subst h2;go_enter Tryz.func104,Tryz.ntmps104
  go_wp2_with fail
  go_ret
  exact⟨rfl,rfl⟩
 by_cases h3:k=3
 ·subst h3;go_enter Tryz.func104,Tryz.ntmps104
  go_wp2_with fail
  go_ret
  exact⟨rfl,rfl⟩
 by_cases h4:k=4
 ·subst h4;go_enter Tryz.func104,Tryz.ntmps104
  go_wp2_with fail
  go_ret
  exact⟨rfl,rfl⟩
 by_cases h9:k=9
 ·subst h9;go_enter Tryz.func104,Tryz.ntmps104
  go_wp2_with fail
  go_ret
  exact⟨rfl,rfl⟩
 by_cases h7:k=7
 ·subst h7;go_enter Tryz.func104,Tryz.ntmps104
  go_wp2_with fail
  go_ret
  exact⟨rfl,rfl⟩
 by_cases h8:k=8
 ·subst h8;go_enter Tryz.func104,Tryz.ntmps104
  go_wp2_with fail
  go_ret
  exact⟨rfl,rfl⟩
 go_enter Tryz.func104,Tryz.ntmps104
 go_wp2_with fail
 go_ret
 exact⟨rfl,rfl⟩
set_option maxHeartbeats 4000000 in
theorem wireT_any (k:Int) (w:World):Calls Tryz.prog 66 #[.int .i64 k] w fun e w'=>e=.returned (.int .i64 (wireT k))∧w'=w:=by
 unfold wireT
 by_cases h7:k=7
 ·subst h7;go_enter Tryz.func66,Tryz.ntmps66
  go_wp2_with fail
  go_ret
  exact⟨rfl,rfl⟩
 by_cases h8:k=8
 ·subst h8;go_enter Tryz.func66,Tryz.ntmps66
  go_wp2_with fail
  go_ret
  exact⟨rfl,rfl⟩
 by_cases h5:k=5
 ·subst h5;go_enter Tryz.func66,Tryz.ntmps66
  go_wp2_with fail
  go_ret
  exact⟨rfl,rfl⟩
 by_cases h6:k=6
 ·subst h6;go_enter Tryz.func66,Tryz.ntmps66
  go_wp2_with fail
  go_ret
  exact⟨rfl,rfl⟩
 by_cases h10:k=10
 ·subst h10;go_enter Tryz.func66,Tryz.ntmps66
  go_wp2_with fail
  go_ret
  exact⟨rfl,rfl⟩
 go_enter Tryz.func66,Tryz.ntmps66
 go_wp2_with fail
 go_ret
 exact⟨rfl,rfl⟩
set_option maxHeartbeats 4000000 in
theorem packed_any (k:Int) (w:World):Calls Tryz.prog 67 #[.int .i64 k] w fun e w'=>e=.returned (.bool (decide (wireT k≠2)))∧w'=w:=by
 have h:=wireT_any k w
 obtain⟨t,ht⟩:∃ t,wireT k=t:=⟨_,rfl⟩
 rw[ht]at h ⊢
 clear ht
 by_cases ht:t=2
 ·subst ht
  go_enter Tryz.func67,Tryz.ntmps67
  go_wp2_with fail
  refine h.mono ?_
  rintro e W ⟨rfl,hW⟩
  have hW:=hW.symm
  subst hW
  go_wp2_with fail
  go_ret
  exact⟨rfl,rfl⟩
 ·have hd:decide (t≠2)=true:=decide_eq_true ht
  rw[hd]
  clear hd
  go_enter Tryz.func67,Tryz.ntmps67
  go_wp2_with fail
  refine h.mono ?_
  rintro e W ⟨rfl,hW⟩
  have hW:=hW.symm
  subst hW
  go_wp2_with fail
  go_ret
  exact⟨by show Ending.returned (.bool (t != 2))=_;rw[show (t != 2)=true from by simp[ht]],rfl⟩
set_option maxHeartbeats 4000000 in
theorem kindOf_any (k:Int) (w:World):Calls Tryz.prog 95 #[.int .i64 k] w fun e w'=>e=.returned (.int .i64 (kindOf k))∧w'=w:=by
 unfold kindOf
 by_cases hs:k=1∨k=2∨k=3∨k=4∨k=5∨k=6∨k=7∨k=8∨k=9
 ·rcases hs with rfl | rfl | rfl | rfl | rfl | rfl | rfl | rfl | rfl <;>
  ·go_enter Tryz.func95,Tryz.ntmps95
   go_wp2_with fail
   go_ret
   exact⟨rfl,rfl⟩
 ·have h1:¬k=1:=by omega
  have h2:¬k=2:=by omega
  have h3:¬k=3:=by omega
  have h4:¬k=4:=by omega
  have h5:¬k=5:=by omega
  have h6:¬k=6:=by omega
  have h7:¬k=7:=by omega
  have h8:¬k=8:=by omega
  have h9:¬k=9:=by omega
  clear hs
  go_enter Tryz.func95,Tryz.ntmps95
  go_wp2_with fail
  go_ret
  exact⟨rfl,rfl⟩
end Go.Proofs.YteajlfgbmefncaaGreatDoor
