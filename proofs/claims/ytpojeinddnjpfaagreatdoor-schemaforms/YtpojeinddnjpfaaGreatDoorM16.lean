/-
  Walks and plain words (ShS ShV FoA SlS2 Pie2).
-/
import Derived.Test.YtpojeinddnjpfaaGreatDoorM15
import Derived.Test.YtpojeinddnjpfaaGreatDoorChecked
import Derived.Maps.OwnSet
import Derived.Deep.AppendLies
import Derived.Test.YtpojeinddnjpfaaGreatDoorM0
import Derived.Laws.AppendOwn
import Derived.OwnWalk
import Derived.Deep.RegionWith
import Derived.Deep.RegionLaw
namespace Go.Proofs.YtpojeinddnjpfaaGreatDoor
set_option linter.unusedVariables false
open Go.RowKit Go.Maps Go.WideMaps

theorem Be:Keyed Tryz.prog 9:=string_keyed Tryz.underlying9
theorem aEh:Keyed Tryz.prog 3:=int_keyed Tryz.underlying3
def cC {α:Type} (K:TypeId) (lit:α→Lit) (w:World) (b:Nat) (ks:List α):Prop:=
 ∃ n,n≤ks.length∧w.ownsMap (H:=Unit) Tryz.prog K unitElem b n (setOf (.agg []) (ks.map lit))
def eQ (x:List UInt8):Lit:=.string x
def mF (x:Int):Lit:=.int .i64 x
theorem Fc (x:List UInt8):WideAt.IsKeyLit (eQ x):=trivial
theorem Tp (x:Int):WideAt.IsKeyLit (mF x):=trivial
theorem Fe (x y:List UInt8) (h:eQ x=eQ y):x=y:=by injection h
theorem Tq (x y:Int) (h:mF x=mF y):x=y:=by injection h
theorem cC.old {α:Type} {K:TypeId} {lit:α→Lit} {w w':World} {b:Nat} {ks:List α} (h:cC K lit w b ks) (hb:w'.heap[b]? = w.heap[b]?):cC K lit w' b ks:=by
 obtain⟨n,hn,es,cl,h1,h2⟩:=h
 exact⟨n,hn,es,cl,hb.trans h1,h2⟩
theorem cC.lt {α:Type} {K:TypeId} {lit:α→Lit} {w:World} {b:Nat} {ks:List α} (h:cC K lit w b ks):b<w.heap.size:=by
 obtain⟨n,hn,es,cl,h1,h2⟩:=h
 exact(Array.getElem?_eq_some_iff.1 h1).1
theorem dZ {α:Type} (K:TypeId) (lit:α→Lit) {w:World} {b:Nat} (h:w.heap[b]? = some (.map #[] 0)):cC K lit w b ([]:List α):=
 ⟨0,Nat.zero_le _,#[],0,h,⟨by simp,MapKept.stamped_empty 0,by simp⟩,Nat.le_refl _,rfl⟩
theorem Zy {α:Type} {lit:α→Lit} (hk:∀ x,WideAt.IsKeyLit (lit x)) (hi:∀ x y,lit x=lit y→x=y) [DecidableEq α] (ks:List α) (x:α):(ks.map lit).any (fun y=>y.sameKey (lit x))=decide (x∈ks):=by
 rw[Bool.eq_iff_iff]
 simp only[List.any_map,List.any_eq_true,decide_eq_true_iff,Function.comp]
 constructor
 ·rintro⟨y,hy,h⟩
  have:=hi _ _ ((WideAt.sameKey_iff (hk x)).1 h)
  subst this;exact hy
 ·intro h
  exact⟨x,h,(WideAt.sameKey_iff (hk x)).2 rfl⟩
theorem Ff {α:Type} {lit:α→Lit} (hk:∀ x,WideAt.IsKeyLit (lit x)) (hi:∀ x y,lit x=lit y→x=y) [DecidableEq α] (ks:List α) (x:α) :
  Maps.size ((setOf (H:=Unit) (.agg []) (ks.map lit)).put (lit x) (.agg []))=Maps.size (setOf (H:=Unit) (.agg []) (ks.map lit))+(if x∈ks then 0 else 1):=by
 have hkk:∀ y∈ks.map lit,WideAt.IsKeyLit y:=by
  intro y hy
  obtain⟨z,_,rfl⟩:=List.mem_map.1 hy
  exact hk z
 rw[size_put (tidy_setOf _ _ hkk),has_setOf _ _ _ hkk,Zy hk hi]
 by_cases h:x∈ks <;> simp[h]

theorem bU {w:World} {B:Nat} {T:TypeId} {z0 z1:Value} (h:w.heap[B]? = some (.cells #[z0,z1] T (0,0))) (x0 x1:Value) :
  ∃ Y,((w.setCell ⟨B,0,none⟩ x0).setCell ⟨B,1,none⟩ x1)=Y∧Y.heap[B]? = some (.cells #[x0,x1] T (0,0))∧(∀ b,b≠B→Y.heap[b]? = w.heap[b]?)∧Y.heap.size=w.heap.size∧Below B w Y:=by
 refine⟨_,rfl,?_,fun b hb=>?_,by simp,?_⟩
 ·rw[aG (aG h x0) x1];rfl
 ·rw[Below.heap_setCell _ _ _ _ hb,Below.heap_setCell _ _ _ _ hb]
 ·exact(((Below.refl B w).setCell (p:=⟨B,0,none⟩) (Nat.le_refl _) x0).setCell (p:=⟨B,1,none⟩) (Nat.le_refl _) x1)
theorem bS {w w0:World} {B:Nat} (h:w.heap[B]? = some (.cells #[.int .i64 0,.int .i64 0] 31 (0,0))) (hw:Below w0.heap.size w0 w) (hB:w0.heap.size≤B) (l c:Int) :
  ∃ Y,((w.setCell ⟨B,0,none⟩ (.int .i64 l)).setCell ⟨B,1,none⟩ (.int .i64 c))=Y∧Y.cell? ⟨B,0,none⟩=some (.int .i64 l)∧Y.cell? ⟨B,1,none⟩=some (.int .i64 c)∧Below w0.heap.size w0 Y:=by
 obtain⟨Y,hY,h8,ho,hz,hb⟩:=bU h (.int .i64 l) (.int .i64 c)
 exact⟨Y,hY,by simp[World.cell?,h8],by simp[World.cell?,h8],hw.trans (hb.mono hB)⟩
set_option maxHeartbeats 4000000 in
theorem gQ (b:Nat) (ks:List (List UInt8)) (x:(List UInt8)) (w:World) (h:cC 9 eQ w b ks) (hx:x.length≤1000000000000) (hl:ks.length≤1000000) :
  Calls Tryz.prog 57 #[.map (some b),.string (aC x)] w fun e w'=>e=.returned (.bool (!decide (x∈ks)))∧cC 9 eQ w' b (ks++[x])∧w.grownBy w' (some b):=by
 obtain⟨n,hn,hown⟩:=h
 have HOWN:=aB hown
 have hkey:keyOf Tryz.prog 9 (.string (aC x))=some (eQ x):=by
  have:=keyOf_string_mk (P:=Tryz.prog) (s:=aC x) Tryz.underlying9 (by rw[aV];unfold maxLen;omega)
  simpa [eQ,aC]using this
 have hsz:=Ff Fc Fe ks x
 obtain⟨D,hD⟩:∃ D,setOf (H:=Unit) (.agg []) (ks.map eQ)=D:=⟨_,rfl⟩
 have hsl:=hown.size_le
 rw[hD]at hown hsz HOWN hsl
 obtain⟨B,hB⟩:∃ B,(!decide (x∈ks))=B:=⟨_,rfl⟩
 obtain⟨s1,hs1⟩:∃ s1,Maps.size D=s1:=⟨_,rfl⟩
 obtain⟨s2,hs2⟩:∃ s2,Maps.size (D.put (eQ x) (.agg []))=s2:=⟨_,rfl⟩
 have qF:Hid (((s1:Nat):Int)<((s2:Nat):Int)↔B=true):=by
  refine(?_:_↔_)
  rw[←hB,←hs1,←hs2,hsz]
  by_cases hm:x∈ks <;> simp[hm] <;> omega
 have HD:=aB hD
 have pE:=aB hs1
 have HS2:=aB hs2
 rw[hB]
 clear hD hsz hB hs1 hs2
 go_enter Tryz.func57,Tryz.ntmps57
 go_wp2_with (first
  | (at_len;refine wpList_len_own _ rfl _ 119 rfl 9 174 Tryz.underlying119 _ b n D rfl HOWN.out ?_;rw[pE.out])
  | (at_mapUpdate;refine wpList_mapUpdate_own _ rfl _ _ _ 119 rfl 9 174 Be Tryz.underlying119 _ b n D rfl HOWN.out (by unfold maxLen;omega) _ _ _ rfl rfl hkey _ [] unitElem_mk ?_;intro w1 hown1 Fg;have tQ:=aB hown1;have Pc:=aB Fg;clear hown1 Fg HOWN pE)
  | (at_len;refine wpList_len_own _ rfl _ 119 rfl 9 174 Tryz.underlying119 _ b (n+1) (D.put (eQ x) (.agg [])) rfl tQ.out ?_;rw[HS2.out]))
 have hBv:decide (s1<s2)=B:=by
  have:=qF.out
  cases B
  ·simp at this ⊢;omega
  ·simp at this ⊢;omega
 rw[hBv]
 go_ret
 refine⟨rfl,⟨n+1,by simp;omega,?_⟩,Pc.out⟩
 rw[List.map_append,List.map_cons,List.map_nil,setOf_snoc,HD.out]
 exact tQ.out
set_option maxHeartbeats 4000000 in
theorem nU (b:Nat) (ks:List Int) (x:Int) (w:World) (h:cC 3 mF w b ks) (hx:(Lit.int .i64 x).wf=true) (hl:ks.length≤1000000) :
  Calls Tryz.prog 60 #[.map (some b),.int .i64 x] w fun e w'=>e=.returned (.bool (!decide (x∈ks)))∧cC 3 mF w' b (ks++[x])∧w.grownBy w' (some b):=by
 obtain⟨n,hn,hown⟩:=h
 have HOWN:=aB hown
 have hkey:keyOf Tryz.prog 3 (.int .i64 x)=some (mF x):=keyOf_int_mk Tryz.underlying3 hx
 have hsz:=Ff Tp Tq ks x
 obtain⟨D,hD⟩:∃ D,setOf (H:=Unit) (.agg []) (ks.map mF)=D:=⟨_,rfl⟩
 have hsl:=hown.size_le
 rw[hD]at hown hsz HOWN hsl
 obtain⟨B,hB⟩:∃ B,(!decide (x∈ks))=B:=⟨_,rfl⟩
 obtain⟨s1,hs1⟩:∃ s1,Maps.size D=s1:=⟨_,rfl⟩
 obtain⟨s2,hs2⟩:∃ s2,Maps.size (D.put (mF x) (.agg []))=s2:=⟨_,rfl⟩
 have qF:Hid (((s1:Nat):Int)<((s2:Nat):Int)↔B=true):=by
  refine(?_:_↔_)
  rw[←hB,←hs1,←hs2,hsz]
  by_cases hm:x∈ks <;> simp[hm] <;> omega
 have HD:=aB hD
 have pE:=aB hs1
 have HS2:=aB hs2
 rw[hB]
 clear hD hsz hB hs1 hs2
 go_enter Tryz.func60,Tryz.ntmps60
 go_wp2_with (first
  | (at_len;refine wpList_len_own _ rfl _ 122 rfl 3 174 Tryz.underlying122 _ b n D rfl HOWN.out ?_;rw[pE.out])
  | (at_mapUpdate;refine wpList_mapUpdate_own _ rfl _ _ _ 122 rfl 3 174 aEh Tryz.underlying122 _ b n D rfl HOWN.out (by unfold maxLen;omega) _ _ _ rfl rfl hkey _ [] unitElem_mk ?_;intro w1 hown1 Fg;have tQ:=aB hown1;have Pc:=aB Fg;clear hown1 Fg HOWN pE)
  | (at_len;refine wpList_len_own _ rfl _ 122 rfl 3 174 Tryz.underlying122 _ b (n+1) (D.put (mF x) (.agg [])) rfl tQ.out ?_;rw[HS2.out]))
 have hBv:decide (s1<s2)=B:=by
  have:=qF.out
  cases B
  ·simp at this ⊢;omega
  ·simp at this ⊢;omega
 rw[hBv]
 go_ret
 refine⟨rfl,⟨n+1,by simp;omega,?_⟩,Pc.out⟩
 rw[List.map_append,List.map_cons,List.map_nil,setOf_snoc,HD.out]
 exact tQ.out
open Go.ChangeShapes Go.WideShapes Go.ChangeAt
def cA (x:FD):List Value:=[.int .i64 x.num,.string (aC x.name),.int .i64 x.kind,.bool x.rep,.int .i64 x.type]
def eV (x:VD):List Value:=[.string (aC x.name),.int .i64 x.num]
def gD (x:TD):List Value:=[.int .i64 x.id,.string (aC x.service),.string (aC x.name),.int .i64 x.inp,.int .i64 x.out]
def aW {α β:Type} (nm:α→List UInt8) (kids:α→List β) (k:Nat) (row:β→List Value) (w:World) (S:Nat→Prop) (v:Value) (xs:List α):Prop:=
 ∃ ad c,v=.slice ad xs.length c∧xs.length≤c∧(xs=[]∨∃ g o,ad=some ⟨g,o,none⟩∧S g∧∀ (j:Nat) (x:α),xs[j]? = some x→
   ∃ ka kc,w.cell? ⟨g,o+j*2,none⟩=some (.string (aC (nm x)))∧w.cell? ⟨g,o+j*2+1,none⟩=some (.slice ka (kids x).length kc)∧RowsIn w S k row (.slice ka (kids x).length kc) (kids x))
def kQ:=@aW MD FD MD.name MD.fields 5 cA
def rO:=@aW ED VD ED.name ED.values 2 eV
def zL (w:World) (S:Nat→Prop) (v:Value) (ts:List TD):Prop:=RowsIn w S 5 gD v ts
def cH (w:World) (S:Nat→Prop) (a b c:Value) (s:SC):Prop:=kQ w S a s.ms∧rO w S b s.es∧zL w S c s.ts
section
variable {α β:Type} {nm:α→List UInt8} {kids:α→List β} {k:Nat} {row:β→List Value} {w w' W:World} {S S':Nat→Prop} {v:Value} {xs:List α}
theorem aW.old (h:aW nm kids k row w S v xs) (hb:∀ b,S b→w'.heap[b]? = w.heap[b]?):aW nm kids k row w' S v xs:=by
 obtain⟨ad,c,hv,hc,h⟩:=h
 refine⟨ad,c,hv,hc,h.imp id ?_⟩
 rintro⟨g,o,ha,hg,h⟩
 refine⟨g,o,ha,hg,fun j d hj=>?_⟩
 obtain⟨ka,kc,h0,h1,h2⟩:=h j d hj
 exact⟨ka,kc,by rw[World.cell?_of_block (hb g hg)];exact h0,by rw[World.cell?_of_block (hb g hg)];exact h1,h2.old hb⟩
theorem aW.more (h:aW nm kids k row w S v xs) (hb:∀ b,S b→S' b):aW nm kids k row w S' v xs:=by
 obtain⟨ad,c,hv,hc,h⟩:=h
 refine⟨ad,c,hv,hc,h.imp id ?_⟩
 rintro⟨g,o,ha,hg,h⟩
 refine⟨g,o,ha,hb g hg,fun j d hj=>?_⟩
 obtain⟨ka,kc,h0,h1,h2⟩:=h j d hj
 exact⟨ka,kc,h0,h1,h2.more hb⟩
theorem aW.cM (h:aW nm kids k row w S v xs):∃ ad c,v=.slice ad xs.length c:=by
 obtain⟨ad,c,hv,_⟩:=h
 exact⟨ad,c,hv⟩
theorem aW.nil (ad:Option Addr) (c:Nat):aW nm kids k row w S (.slice ad 0 c) ([]:List α):=⟨ad,c,rfl,Nat.zero_le _,.inl rfl⟩
theorem aW.at (h:aW nm kids k row w S v xs) (hW:∀ b,S b→W.heap[b]? = w.heap[b]?) {q:Nat} {x:α} (hx:xs[q]? = some x) :
  ∃ g o c ka kc,v=.slice (some ⟨g,o,none⟩) xs.length c∧S g∧W.cell? ⟨g,o+q*2,none⟩=some (.string (aC (nm x)))∧W.cell? ⟨g,o+q*2+1,none⟩=some (.slice ka (kids x).length kc)∧RowsIn W S k row (.slice ka (kids x).length kc) (kids x):=by
 obtain⟨ad,c,hsl,hcc,hrows⟩:=h
 rcases hrows with h0 | ⟨g,o,had,hg,hrow⟩
 ·rw[h0]at hx;simp at hx
 subst had
 obtain⟨ka,kc,h0,h1,h2⟩:=hrow q x hx
 have hb:=hW g hg
 exact⟨g,o,c,ka,kc,hsl,hg,by rw[World.cell?_of_block hb];exact h0,by rw[World.cell?_of_block hb];exact h1,h2.old hW⟩
end
theorem kR {w W:World} {S:Nat→Prop} {v:Value} {xs:List FD} (h:RowsIn w S 5 cA v xs) (hW:∀ b,S b→W.heap[b]? = w.heap[b]?) {q:Nat} {x:FD} (hx:xs[q]? = some x) :
  ∃ g o c,v=.slice (some ⟨g,o,none⟩) xs.length c∧S g∧W.cell? ⟨g,o+q*5,none⟩=some (.int .i64 x.num)∧W.cell? ⟨g,o+q*5+1,none⟩=some (.string (aC x.name))∧W.cell? ⟨g,o+q*5+2,none⟩=some (.int .i64 x.kind)∧
   W.cell? ⟨g,o+q*5+3,none⟩=some (.bool x.rep)∧W.cell? ⟨g,o+q*5+4,none⟩=some (.int .i64 x.type):=by
 obtain⟨ad,c,hsl,hcc,hrows⟩:=h
 rcases hrows with h0 | ⟨g,o,had,hg,hrow⟩
 ·rw[h0]at hx;simp at hx
 subst had
 have hb:=hW g hg
 have hc:∀ i u,(cA x)[i]? = some u→W.cell? ⟨g,o+(q*5+i),none⟩=some u:=fun i u hu=>by
  rw[World.cell?_of_block hb];exact hrow q x hx i u hu
 refine⟨g,o,c,hsl,hg,?_,?_,?_,?_,?_⟩
 ·have:=hc 0 _ rfl;simpa [Nat.add_assoc]using this
 ·have:=hc 1 _ rfl;simpa [Nat.add_assoc]using this
 ·have:=hc 2 _ rfl;simpa [Nat.add_assoc]using this
 ·have:=hc 3 _ rfl;simpa [Nat.add_assoc]using this
 ·have:=hc 4 _ rfl;simpa [Nat.add_assoc]using this
/-! a row grows by one element -/
section
variable {T t:TypeId} {k bytes base n:Nat} {z:Value} {wx:World} {v:Value} {xs:List Value}
theorem oW (ht:Tryz.prog.underlying t=some (.slice T)) (hin:(Tryz.prog.info? T).map (fun i=>(i.zero,i.size,i.bytes))=some (some z,k,bytes)) (hzk:z.cells.size=k) (hk0:0<k)
  (h:wx.ownsRow base T k v n xs) (hb0:base≤wx.heap.size) (r:List Value) (hrl:r.length=k) (hr1:∀ u∈r,u.oneCell'=true) (B:Nat) (hB:wx.heap[B]? = some (.cells r.toArray T (0,0)))
  {ops:Array Oper} {rest:List Oper} {o:Oper} {a:Act} {Q:Exit→Act→World→Prop} (hgd:o.guard=none) (s' x':Operand)
  (ho:o.op=.call { callee:=.builtin .append,args:=#[s',x'],argTypes:=#[t,t] }) (hs:a.eval s'=v) (hx:a.eval x'=.slice (some ⟨B,0,none⟩) 1 1) (hm:n+1≤maxLen) (hbd:(n+1)*bytes≤140737488355328)
  (hk:∀ g cap W,W.ownsRow base T k (.slice (some ⟨g,0,none⟩) (n+1) cap) (n+1) (xs++r)→wx.grownBy W v.ownBlock→(v.ownBlock=some g∨g=wx.heap.size)→g<W.heap.size→wpList Tryz.prog ops Q rest (a.put o.dst (.slice (some ⟨g,0,none⟩) (n+1) cap)) W) :
  wpList Tryz.prog ops Q (o :: rest) a wx:=by
 obtain⟨i0,hi0,hz0,hz1,hz2⟩:=info_parts hin
 exact wpList_append_lies _ hgd s' x' t ho base T i0 z k bytes ht hi0 hz0 hz1 hz2 hzk hk0 v n xs hs h ⟨B,0,none⟩ 1 1 r hx (by rw[hrl,Nat.one_mul]) (World.news_of_block (cs:=r.toArray) (t:=T) (fr:=(0,0)) hB) hr1 (by decide) hm hbd hb0 _ rfl hk
theorem lQ (ht:Tryz.prog.underlying t=some (.slice T)) (hin:(Tryz.prog.info? T).map (fun i=>(i.zero,i.size,i.bytes))=some (some z,k,bytes)) (hzk:z.cells.size=k) (hk0:0<k)
  (h:wx.ownsRow base T k v n xs) (hb0:base≤wx.heap.size) (r:List Value) (hrl:r.length=k) (hr1:∀ u∈r,u.oneCell'=true) (B:Nat) (hB:wx.heap[B]? = some (.cells r.toArray T (0,0)))
  {ops:Array Oper} {o:Oper} {a:Act} {K:Act→World→Prop} {Q:Exit→Act→World→Prop} {E:Prop} (hgd:o.guard=none) (s' x':Operand)
  (ho:o.op=.call { callee:=.builtin .append,args:=#[s',x'],argTypes:=#[t,t] }) (hs:a.eval s'=v) (hx:a.eval x'=.slice (some ⟨B,0,none⟩) 1 1) (hm:n+1≤maxLen) (hbd:(n+1)*bytes≤140737488355328)
  (hk:∀ g cap W,W.ownsRow base T k (.slice (some ⟨g,0,none⟩) (n+1) cap) (n+1) (xs++r)→wx.grownBy W v.ownBlock→(v.ownBlock=some g∨g=wx.heap.size)→g<W.heap.size→K (a.put o.dst (.slice (some ⟨g,0,none⟩) (n+1) cap)) W) :
  if Region.wanted o (yielded ops a.tmps)=true then Oper.wp Tryz.prog o a wx K Q else E:=by
 obtain⟨i0,hi0,hz0,hz1,hz2⟩:=info_parts hin
 exact step_append_lies _ hgd s' x' t ho base T i0 z k bytes ht hi0 hz0 hz1 hz2 hzk hk0 v n xs hs h ⟨B,0,none⟩ 1 1 r hx (by rw[hrl,Nat.one_mul]) (World.news_of_block (cs:=r.toArray) (t:=T) (fr:=(0,0)) hB) hr1 (by decide) hm hbd hb0 _ rfl hk
end
theorem Zz {w:World} {base:Nat} {T:TypeId} {g n cap:Nat} {xs:List Value} {x:Value} (h:w.ownsRow base T 1 (.slice (some ⟨g,0,none⟩) (n+1) cap) (n+1) (xs++[x])):w.ownsRow base T 1 (.slice (some ⟨g,0,none⟩) n cap) n xs:=by
 obtain⟨hl,⟨hv,h0⟩ | ⟨g',cap',cur,hv,hg,hh,h3,h4,h5,h6⟩⟩:=h
 ·cases hv
 ·have hv':g=g'∧cap=cap':=by
   injection hv with h1 h2 h3
   injection h1 with h1
   injection h1 with h1
   exact⟨h1,h3⟩
  obtain⟨rfl,rfl⟩:=hv'
  have hxl:xs.length=n:=by simpa using hl
  refine⟨by omega,.inr ⟨g,cap,cur,rfl,hg,hh,by omega,h4,h5,?_⟩⟩
  have e1:cur.toList.take n=(cur.toList.take ((n+1)*1)).take n:=by rw[List.take_take,Nat.min_eq_left (by omega)]
  have e2:(xs++[x]).take n=xs:=by rw[List.take_append_of_le_length (by omega),List.take_of_length_le (l:=xs) (by omega)]
  rw[Nat.mul_one,e1,h6,e2]
theorem Tr {w:World} {base:Nat} {T:TypeId} {g n cap:Nat} {xs:List Value} {x:Value} (h:w.ownsRow base T 1 (.slice (some ⟨g,0,none⟩) (n+1) cap) (n+1) (xs++[x])):w.cell? ⟨g,n,none⟩=some x∧n+1≤cap:=by
 obtain⟨hl,⟨hv,h0⟩ | ⟨g',cap',cur,hv,hg,hh,h3,h4,h5,h6⟩⟩:=h
 ·cases hv
 ·have hv':g=g'∧cap=cap':=by
   injection hv with h1 h2 h3
   injection h1 with h1
   injection h1 with h1
   exact⟨h1,h3⟩
  obtain⟨rfl,rfl⟩:=hv'
  have hxl:xs.length=n:=by simpa using hl
  refine⟨?_,h3⟩
  have e:(cur.toList.take ((n+1)*1))[n]? = some x:=by rw[h6,List.getElem?_append_right (by omega),hxl];simp
  rw[List.getElem?_take,if_pos (by omega)]at e
  simp only[World.cell?,hh]
  simpa using e
theorem bY (w:World) (cs:Array Value) (T:TypeId):∃ Y,w.alloc (.cells cs T)=Y∧Y.heap[w.heap.size]? = some (.cells cs T (0,0))∧Below w.heap.size w Y∧Y.heap.size=w.heap.size+1:=
 ⟨_,rfl,alloc_heap_new _ _,(Below.refl _ w).alloc (Nat.le_refl _) _,by simp⟩
theorem rP (w:World):∃ Y,w.alloc (.map #[] 0)=Y∧Y.heap[w.heap.size]? = some (.map #[] 0)∧Below w.heap.size w Y∧Y.heap.size=w.heap.size+1:=
 ⟨_,rfl,alloc_heap_new _ _,(Below.refl _ w).alloc (Nat.le_refl _) _,by simp⟩
theorem aJ {a a':Option Addr} {n n' c c':Nat} (h:Value.slice a n c=.slice a' n' c'):a=a'∧c=c':=by
 injection h with h1 _ h3
 exact⟨h1,h3⟩
theorem Ts {a b:FD} (h0:a.num=b.num) (h1:a.name=b.name) (h2:a.kind=b.kind) (h3:a.rep=b.rep) (h4:a.type=b.type):a=b:=by cases a;cases b;simp_all
theorem Tt {a b:VD} (h0:a.name=b.name) (h1:a.num=b.num):a=b:=by cases a;cases b;simp_all
theorem Tu {a b:TD} (h0:a.id=b.id) (h1:a.service=b.service) (h2:a.name=b.name) (h3:a.inp=b.inp) (h4:a.out=b.out):a=b:=by cases a;cases b;simp_all
theorem Tv {a b:MD} (h0:a.name=b.name) (h1:a.fields=b.fields):a=b:=by cases a;cases b;simp_all
theorem Tw {a b:ED} (h0:a.name=b.name) (h1:a.values=b.values):a=b:=by cases a;cases b;simp_all
theorem pV {w W:World} {S:Nat→Prop} {v:Value} {xs:List VD} (h:RowsIn w S 2 eV v xs) (hW:∀ b,S b→W.heap[b]? = w.heap[b]?) {q:Nat} {x:VD} (hx:xs[q]? = some x) :
  ∃ g o c,v=.slice (some ⟨g,o,none⟩) xs.length c∧S g∧W.cell? ⟨g,o+q*2,none⟩=some (.string (aC x.name))∧W.cell? ⟨g,o+q*2+1,none⟩=some (.int .i64 x.num):=by
 obtain⟨ad,c,hsl,hcc,hrows⟩:=h
 rcases hrows with h0 | ⟨g,o,had,hg,hrow⟩
 ·rw[h0]at hx;simp at hx
 subst had
 have hb:=hW g hg
 have hc:∀ i u,(eV x)[i]? = some u→W.cell? ⟨g,o+(q*2+i),none⟩=some u:=fun i u hu=>by
  rw[World.cell?_of_block hb];exact hrow q x hx i u hu
 refine⟨g,o,c,hsl,hg,?_,?_⟩
 ·have:=hc 0 _ rfl;simpa [Nat.add_assoc]using this
 ·have:=hc 1 _ rfl;simpa [Nat.add_assoc]using this
theorem tR {w W:World} {S:Nat→Prop} {v:Value} {xs:List TD} (h:RowsIn w S 5 gD v xs) (hW:∀ b,S b→W.heap[b]? = w.heap[b]?) {q:Nat} {x:TD} (hx:xs[q]? = some x) :
  ∃ g o c,v=.slice (some ⟨g,o,none⟩) xs.length c∧S g∧W.cell? ⟨g,o+q*5,none⟩=some (.int .i64 x.id)∧W.cell? ⟨g,o+q*5+1,none⟩=some (.string (aC x.service))∧W.cell? ⟨g,o+q*5+2,none⟩=some (.string (aC x.name))∧W.cell? ⟨g,o+q*5+3,none⟩=some (.int .i64 x.inp)∧W.cell? ⟨g,o+q*5+4,none⟩=some (.int .i64 x.out):=by
 obtain⟨ad,c,hsl,hcc,hrows⟩:=h
 rcases hrows with h0 | ⟨g,o,had,hg,hrow⟩
 ·rw[h0]at hx;simp at hx
 subst had
 have hb:=hW g hg
 have hc:∀ i u,(gD x)[i]? = some u→W.cell? ⟨g,o+(q*5+i),none⟩=some u:=fun i u hu=>by
  rw[World.cell?_of_block hb];exact hrow q x hx i u hu
 refine⟨g,o,c,hsl,hg,?_,?_,?_,?_,?_⟩
 ·have:=hc 0 _ rfl;simpa [Nat.add_assoc]using this
 ·have:=hc 1 _ rfl;simpa [Nat.add_assoc]using this
 ·have:=hc 2 _ rfl;simpa [Nat.add_assoc]using this
 ·have:=hc 3 _ rfl;simpa [Nat.add_assoc]using this
 ·have:=hc 4 _ rfl;simpa [Nat.add_assoc]using this
theorem aKs:(Tryz.prog.info? 9).map (fun i=>(i.zero,i.size,i.bytes))=some (some (.string ByteArray.empty),1,16):=by kernel_rfl
def uL (w:World) (base:Nat) (v:Value) (xs:List ByteArray):Prop:=w.ownsRow base 9 1 v xs.length (xs.map Value.string)
theorem Jl {w:World} {base:Nat} {v:Value} {xs:List ByteArray} (h:uL w base v xs):∀ k,v.ownBlock=some k→base≤k:=by
 intro k hk
 obtain⟨_,⟨rfl,_⟩ | ⟨g,cap,cur,rfl,hg,_⟩⟩:=h
 ·simp[Value.ownBlock]at hk
 ·simp[Value.ownBlock]at hk;omega
theorem qG {w:World} {base:Nat} {v:Value} {xs:List ByteArray} (h:uL w base v xs) (h1:1≤xs.length) :
  ∃ g c cur,v=.slice (some ⟨g,0,none⟩) xs.length c∧base≤g∧w.heap[g]? = some (.cells cur 9 (0,0))∧xs.length≤c∧rL w g xs:=by
 obtain⟨_,⟨rfl,h0⟩ | ⟨g,cap,cur,rfl,hg,hh,h3,h4,h5,h6⟩⟩:=h
 ·omega
 ·refine⟨g,cap,cur,rfl,hg,hh,h3,?_⟩
  intro j z hj
  have hjl:=(List.getElem?_eq_some_iff.1 hj).1
  have e:cur.toList[j]? = some (.string z):=by
   have:(cur.toList.take (xs.length*1))[j]? = (xs.map Value.string)[j]?:=by rw[h6]
   rw[List.getElem?_take,if_pos (by omega),List.getElem?_map,hj]at this
   simpa using this
  simp only[World.cell?,hh]
  simpa using e
theorem Tx (w:World) (x:ByteArray):uL (w.alloc (.cells #[.string x] 9)) w.heap.size (.slice (some ⟨w.heap.size,0,none⟩) 1 1) [x]:=
 ⟨by simp,.inr ⟨_,1,#[.string x],rfl,Nat.le_refl _,wM _ _,Nat.le_refl _,by unfold maxLen;omega,by simp,by simp⟩⟩
theorem Ty {w:World} {base g c:Nat} {pre:List ByteArray} {x:ByteArray} (y:ByteArray) (h:uL w base (.slice (some ⟨g,0,none⟩) (pre++[x]).length c) (pre++[x])) :
  uL (w.setCell ⟨g,pre.length,none⟩ (.string y)) base (.slice (some ⟨g,0,none⟩) (pre++[y]).length c) (pre++[y]):=by
 obtain⟨_,⟨h1,h0⟩ | ⟨g',cap,cur,hv,hg,hh,h3,h4,h5,h6⟩⟩:=h
 ·simp at h0
 ·simp only[Value.slice.injEq,Option.some.injEq,Addr.mk.injEq,and_true]at hv
  obtain⟨rfl,_,rfl⟩:=hv
  refine⟨by simp,.inr ⟨g,c,cur.setIfInBounds pre.length (.string y),by simp,hg,?_,by simpa using h3,h4,by simpa using h5,?_⟩⟩
  ·rw[setCell_eq_setRow _ _ _ _ _ _ _ hh,setRow_heap w g cur _ 9 _ hh]
  ·simp only[List.length_append,List.length_cons,List.length_nil,Nat.mul_one]at h6 ⊢
   rw[Array.toList_setIfInBounds,List.take_set,h6]
   simp
theorem Tz {w:World} {ops:Array Oper} {rest:List Oper} {o:Oper} {a:Act} {Q:Exit→Act→World→Prop} (hgd:o.guard=none) (s x:Operand)
  (ho:o.op=.call { callee:=.builtin .append,args:=#[s,x],argTypes:=#[100,100] })
  (base:Nat) (v:Value) (xs:List ByteArray) (r:ByteArray) (hs:a.eval s=v) (hown:uL w base v xs)
  (hx:a.eval x=.slice (some ⟨w.heap.size,0,none⟩) 1 1) (hbd:xs.length≤1000000000) (hbase:base≤w.heap.size)
  (h:∀ v' w',uL w' base v' (xs++[r])→Below base w w'→wpList Tryz.prog ops Q rest (a.put o.dst v') w'):wpList Tryz.prog ops Q (o :: rest) a (w.alloc (.cells #[.string r] 9)):=by
 obtain⟨i0,hi,hz0,hz1,hz2⟩:=info_parts aKs
 refine wpList_append_own _ hgd s x 100 ho base 9 i0 (.string ByteArray.empty) 1 16 Tryz.underlying100 hi hz0 hz1 hz2 rfl (by decide) v _ _ hs (World.ownsRow.alloc hown _) ⟨w.heap.size,0,none⟩ 1 1 [.string r] hx rfl ?_ ?_ (by unfold maxLen;omega) (by omega) (by simp;omega) ?_
 ·intro j u hj
  cases j with
  | zero=>simp at hj;subst hj;simp[Addr.add]
  | succ j=>simp at hj
 ·intro u hu;simp at hu;subst hu;rfl
 ·intro v' w' h1 h2 _
  refine h v' w' ?_ (((Below.refl base w).alloc hbase _).grown h2 (by simp;omega) (Jl hown))
  unfold uL
  rw[List.length_append,List.map_append]
  exact h1
theorem Ua (cur:List UInt8) (s:ByteArray) (k:Nat) (hp:k<s.size):(ByteArray.mk cur.toArray)++s.extract k (k+1)=ByteArray.mk (cur++[s[k]'hp]).toArray:=by
 have e:s.extract k (k+1)=⟨#[s[k]'hp]⟩:=by
  apply ByteArray.ext
  rw[ByteArray.data_extract]
  apply Array.ext'
  rw[Array.toList_extract]
  have hk:k<s.data.toList.length:=by rw[bC];exact hp
  rw[List.extract_eq_take_drop]
  rw[List.drop_eq_getElem_cons hk]
  simp
  rfl
 rw[e,ByteArray.mk_append_mk]
 first | done | (congr 1;apply Array.ext';simp)
set_option maxHeartbeats 4000000 in
theorem Fh (s:ByteArray) (w:World) (hs:s.size≤3000) :
  Calls Tryz.prog 90 #[.string s] w fun e w'=>(∃ v,e=.returned v∧uL w' w.heap.size v (pieces s))∧Below w.heap.size w w':=by
 have HP:Hid (pieces s=(jC [] s.data.toList).map aC):=rfl
 have hld:=bC s
 have HL:Hid (s.data.toList.length=s.size):=hld
 clear hld
 go_enter Tryz.func90,Tryz.ntmps90
 go_wp2_with fail
 go_loopw [3,4] (fun o i wr=>∃ (k:Nat) (pre:List (List UInt8)) (cur:List UInt8),k≤s.size∧i=.int .i64 k∧uL wr w.heap.size o (pre.map aC++[aC cur])∧Below w.heap.size w wr∧pre.length≤k∧cur.length≤k∧pre++jC cur (s.data.toList.drop k)=jC [] s.data.toList) (fun _ i _=>s.size - (intOf i).toNat)
 case atStart=>exact⟨0,[],[],by omega,rfl,Tx w ⟨#[]⟩,(Below.refl _ w).alloc (Nat.le_refl _) _,by simp,by simp,rfl⟩
 case round=>
  obtain⟨k,pre,cur,hk,rfl,hown,hbw,hpl,hcl,hacc⟩:=hrel
  have HA:Hid (pre++jC cur (s.data.toList.drop k)=jC [] s.data.toList):=hacc
  clear hacc
  obtain⟨g,c,cc,rfl,hg,hgh,hc,hH⟩:=qG hown (by simp)
  have Zi:=hbw.size
  have hml:(pre.map aC++[aC cur]).length=pre.length+1:=by simp
  by_cases hlt:k<s.size
  ·have hdr:s.data.toList.drop k=s[k]'hlt :: s.data.toList.drop (k+1):=by
    rw[List.drop_eq_getElem_cons (by rw[HL.out];exact hlt)];rfl
   by_cases h46:s[k]'hlt=46
   ·have aRs:(((s[k]'hlt).toNat:Int) == 46)=true:=by rw[h46];rfl
    have HX:Hid ((pre++[cur])++jC [] (s.data.toList.drop (k+1))=jC [] s.data.toList):=by
     refine(?_:_=_)
     have:=HA.out;rw[hdr,h46,Ak]at this
     rw[←this];simp
    clear HA hdr h46
    go_wp2_with (at_builtin;refine Tz rfl _ _ rfl w.heap.size (.slice (some ⟨g,0,none⟩) (pre.map aC++[aC cur]).length c) (pre.map aC++[aC cur]) ⟨#[]⟩ rfl hown rfl (by rw[hml];omega) Zi ?_)
    intro v' wx hown' hb'
    obtain⟨g2,c2,cc2,rfl,_⟩:=qG hown' (by simp)
    go_wp2_with fail
    go_roundw
    case rel=>
     refine⟨k+1,pre++[cur],[],by omega,by go_num,?_,hbw.trans hb',by simp;omega,by simp,HX.out⟩
     simpa [aC]using hown'
    case measure=>simp[intOf];omega
   ·have aRs:(((s[k]'hlt).toNat:Int) == 46)=false:=by
     rw[beq_eq_false_iff_ne]
     intro e
     apply h46
     apply UInt8.toNat_inj.1
     show _=46
     omega
    have HX:Hid (pre++jC (cur++[s[k]'hlt]) (s.data.toList.drop (k+1))=jC [] s.data.toList):=by
     refine(?_:_=_)
     have:=HA.out;rw[hdr,Al _ _ _ h46]at this
     exact this
    clear HA hdr h46
    have hcell:wr.cell? ⟨g,pre.length,none⟩=some (.string (aC cur)):=hH pre.length (aC cur) (by simp)
    have hfz:wr.frozen? ⟨g,pre.length,none⟩=false:=Lib.frozen_of_heap hgh _
    have HOS:Hid (∀ y,uL (wr.setCell ⟨g,pre.length,none⟩ (.string y)) w.heap.size (.slice (some ⟨g,0,none⟩) (pre.length+1) c) (pre.map aC++[y])):=fun y=>by
     have:=Ty y hown
     simpa using this
    have HBS:Hid (∀ y,Below w.heap.size w (wr.setCell ⟨g,pre.length,none⟩ (.string y))):=fun y=>hbw.setCell (p:=⟨g,pre.length,none⟩) hg _
    have Dw:=Ua cur s k hlt
    have aRt:Hid (aC cur++s.extract k (k+1)=aC (cur++[s[k]'hlt])):=Dw
    clear Dw hown hbw hgh hH
    rw[hml]
    rw[hml]at hc
    clear hml
    obtain⟨q,hq⟩:∃ q,pre.length=q:=⟨_,rfl⟩
    have HPL:Hid (pre.length≤k+1):=by
     refine(?_:pre.length≤k+1)
     omega
    rw[hq]at hpl hcell hfz HOS HBS ⊢
    clear hq
    have hsz2:(aC cur).size≤3000:=by
     have:(aC cur).size=cur.length:=by show cur.toArray.size=_;simp
     omega
    have aRu:Hid (uL (wr.setCell ⟨g,q,none⟩ (.string (aC (cur++[s[k]'hlt])))).drew w.heap.size (.slice (some ⟨g,0,none⟩) (q+1) c) (pre.map aC++[aC (cur++[s[k]'hlt])])):=HOS.out _
    have aRv:Hid (Below w.heap.size w (wr.setCell ⟨g,q,none⟩ (.string (aC (cur++[s[k]'hlt])))).drew):=(HBS.out _).drew
    generalize aC cur=cb at *
    have hw1:IntKind.i64.wrap ((q:Int)+1 - 1)=(q:Int):=by rw[IntKind.wrap_i64];omega
    have hw2:=eE k (by omega)
    have hq0:(0:Int)≤(q:Int):=by omega
    have hq1:(q:Int)<(q:Int)+1:=by omega
    have hk0:(0:Int)≤(k:Int):=by omega
    have hk1:(k:Int)≤(k:Int)+1:=by omega
    have hk2:(k:Int)+1≤(s.size:Int):=by omega
    go_wp2_with fail
    go_region
    rw[aRt.out]
    go_wp2_with fail
    go_roundw
    case rel=>exact⟨k+1,pre,cur++[s[k]'hlt],by omega,by go_num,aRu.out,aRv.out,HPL.out,by simp;omega,HX.out⟩
    case measure=>simp[intOf];omega
  ·have HX:Hid (pre.map aC++[aC cur]=pieces s):=by
    refine(?_:_=_)
    have:=HA.out
    rw[List.drop_eq_nil_of_le (by have:=HL.out;omega),Yp]at this
    rw[HP.out,←this];simp
   have hown2:=hown
   rw[HX.out]at hown2
   clear HA
   go_wp2_with fail
   go_ret
   refine⟨⟨_,rfl,?_⟩,hbw⟩
   rw[HX.out];exact hown2
end Go.Proofs.YtpojeinddnjpfaaGreatDoor
