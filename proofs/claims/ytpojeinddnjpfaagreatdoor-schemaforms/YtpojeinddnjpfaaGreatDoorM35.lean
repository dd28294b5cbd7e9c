/-
  Walks and plain words (ShU ShN ShZ SkS).
-/
import Derived.Test.YtpojeinddnjpfaaGreatDoorM34
import Derived.Test.YtpojeinddnjpfaaGreatDoorM14
import Derived.Shelf.SlGeneric
import Derived.Shelf.SlSortCmp.WholeK
import Derived.Shelf.SlSortCmp.NoneTotal
import Derived.Ground.SlsfProg
import Derived.Ground.NamesProg
import Derived.Test.YtpojeinddnjpfaaGreatDoorProg
import Derived.Test.YtpojeinddnjpfaaGreatDoorM16
import Derived.Sort.OwnSorted
namespace Go.Proofs.YtpojeinddnjpfaaGreatDoor
set_option linter.unusedVariables false
open Go.ChangeShapes Go.WideShapes Go.ChangeAt Go.RowKit

theorem aDi {k:Nat}:∀ (rs:List (List Value)) (j:Nat) (r:List Value) (i:Nat),(∀ r∈rs,r.length=k)→i<k→rs[j]? = some r→(rs.flatMap id)[j*k+i]? = r[i]?
 | [],j,r,i,_,_,h=>by simp at h
 | a :: t,0,r,i,hk,hi,h=>by
  have:a=r:=by simpa using h
  subst this
  rw[List.flatMap_cons,Nat.zero_mul,Nat.zero_add,List.getElem?_append_left (by show i<a.length;rw[hk a (by simp)];exact hi)];rfl
 | a :: t,j+1,r,i,hk,hi,h=>by
  have ha:(id a).length=k:=hk a (by simp)
  rw[List.flatMap_cons,List.getElem?_append_right (by rw[ha,Nat.succ_mul];omega),ha,show (j+1)*k+i - k=j*k+i by rw[Nat.succ_mul];omega]
  exact aDi t j r i (fun r hr=>hk r (by simp[hr])) hi (by simpa using h)
structure Tb {α β:Type} (nm:α→List UInt8) (kids:α→List β) (k:Nat) (row:β→List Value) (w:World) (base:Nat) (T:TypeId) (K:Nat→Prop) (v:Value) (xs:List α) (rs:List (List Value)):Prop where
 own:w.ownsRow base T 2 v xs.length (rs.flatMap id)
 len:rs.length=xs.length
 rows:∀ (j:Nat) (x:α),xs[j]? = some x→∃ ka kc,rs[j]? = some [.string (aC (nm x)),.slice ka (kids x).length kc]∧RowsIn w K k row (.slice ka (kids x).length kc) (kids x)
section
variable {α β:Type} {nm:α→List UInt8} {kids:α→List β} {k:Nat} {row:β→List Value} {w W:World} {base:Nat} {T:TypeId} {K K':Nat→Prop} {v v':Value} {xs:List α} {rs:List (List Value)}
theorem Tb.nil (w:World) (base:Nat) (T:TypeId) (K:Nat→Prop):Tb nm kids k row w base T K (.slice none 0 0) ([]:List α) []:=⟨World.ownsRow_nil _ _ _ _,rfl,fun j d h=>by simp at h⟩
theorem Tb.keep (h:Tb nm kids k row w base T K v xs rs) (ho:∀ b,v.ownBlock=some b→W.heap[b]? = w.heap[b]?) (hb:∀ b,K b→W.heap[b]? = w.heap[b]?) (hK:∀ b,K b→K' b):Tb nm kids k row W base T K' v xs rs:=
 ⟨aR h.own ho,h.len,fun j d hj=>by
  obtain⟨ka,kc,h1,h2⟩:=h.rows j d hj
  exact⟨ka,kc,h1,(h2.old hb).more hK⟩⟩
theorem Tb.held (h:Tb nm kids k row w base T K v xs rs) (hS:∀ b,K b→K' b) (hv:∀ b,v.ownBlock=some b→K' b):aW nm kids k row w K' v xs:=by
 have hr2:∀ r∈rs,r.length=2:=by
  intro r hr
  obtain⟨j,hj⟩:=List.getElem?_of_mem hr
  have hlt:=(List.getElem?_eq_some_iff.1 hj).1
  have hlt2:j<xs.length:=by rw[←h.len];exact hlt
  obtain⟨ka,kc,h1,_⟩:=h.rows j (xs[j]'hlt2) (by rw[List.getElem?_eq_getElem hlt2])
  rw[hj]at h1
  rw[Option.some.inj h1];rfl
 have hk:=h.rows
 have hlen:=h.len
 obtain⟨hl,⟨rfl,h0⟩ | ⟨g,cap,cur,rfl,hg,hh,h3,h4,h5,h6⟩⟩:=h.own
 ·exact⟨none,0,by rw[h0],by omega,.inl (List.eq_nil_of_length_eq_zero h0)⟩
 ·refine⟨_,cap,rfl,h3,.inr ⟨g,0,rfl,hv g rfl,fun j d hj=>?_⟩⟩
  obtain⟨ka,kc,hr,hrow⟩:=hk j d hj
  have hjl:=(List.getElem?_eq_some_iff.1 hj).1
  have key:∀ i u,[Value.string (aC (nm d)),.slice ka (kids d).length kc][i]? = some u→w.cell? ⟨g,0+(j*2+i),none⟩=some u:=by
   intro i u hu
   have hi:i<2:=(List.getElem?_eq_some_iff.1 hu).1
   have e:=aDi rs j _ i hr2 hi hr
   rw[←h6,List.getElem?_take,if_pos (by omega),hu]at e
   simp only[World.cell?,hh]
   rw[Nat.zero_add]
   simpa using e
  refine⟨ka,kc,?_,?_,hrow.more hS⟩
  ·have:=key 0 _ rfl;simpa using this
  ·have:=key 1 _ rfl;simpa [Nat.add_assoc]using this
theorem Tb.push (h:Tb nm kids k row w base T K v xs rs) (x:α) (ka:Option Addr) (kc:Nat) (hown:W.ownsRow base T 2 v' (xs.length+1) (rs.flatMap id++[.string (aC (nm x)),.slice ka (kids x).length kc])) (hrow:RowsIn w K k row (.slice ka (kids x).length kc) (kids x)) (ho:∀ b,K b→W.heap[b]? = w.heap[b]?) (hK:∀ b,K b→K' b) :
  Tb nm kids k row W base T K' v' (xs++[x]) (rs++[[.string (aC (nm x)),.slice ka (kids x).length kc]]):=by
 refine⟨?_,by simp[h.len],?_⟩
 ·rw[List.length_append,List.flatMap_append]
  simpa using hown
 ·intro j d hj
  by_cases hjl:j<xs.length
  ·rw[List.getElem?_append_left hjl]at hj
   obtain⟨a,c,hr1,hk1⟩:=h.rows j d hj
   exact⟨a,c,by rw[List.getElem?_append_left (by rw[h.len];exact hjl)];exact hr1,(hk1.old ho).more hK⟩
  ·have hjn:=(List.getElem?_eq_some_iff.1 hj).1
   rw[List.length_append]at hjn
   have pD:j=xs.length:=by simp at hjn;omega
   subst pD
   rw[List.getElem?_append_right (Nat.le_refl _),Nat.sub_self]at hj
   have e:x=d:=by simpa using hj
   subst e
   exact⟨ka,kc,by rw[←h.len,List.getElem?_append_right (Nat.le_refl _),Nat.sub_self];rfl,(hrow.old ho).more hK⟩
end
def Aa (w:World) (B:Nat) (mv ev xv:Value) (b:Nat):Prop:=b<w.heap.size∧b≠B∧mv.ownBlock≠some b∧ev.ownBlock≠some b∧xv.ownBlock≠some b
def Qs (base:Nat) (w:World) (B:Nat) (mv ev xv:Value) (b:Nat):Prop:=Aa w B mv ev xv b∧base≤b
structure Bd (f base:Nat) (w:World) (B mb:Nat) (tv mv ev xv:Value) (types:List Dc) (ps:List Pl) (n:Nat) (s:SC) (mr er:List (List Value)):Prop where
 cells:w.heap[B]? = some (.cells #[tv,.map (some mb),mv,ev,xv] 128 (0,0))
 bb:B<base
 sz:base≤w.heap.size
 far:Aa w B mv ev xv mb
 held:aM (f+1) w (Aa w B mv ev xv) tv types
 nums:eD w mb ps n
 ms:Tb MD.name MD.fields 5 cA w base 48 (Qs base w B mv ev xv) mv s.ms mr
 es:Tb ED.name ED.values 2 eV w base 91 (Qs base w B mv ev xv) ev s.es er
 ts:w.ownsRow base 45 5 xv s.ts.length (s.ts.flatMap gD)
 me:∀ b,mv.ownBlock=some b→ev.ownBlock≠some b∧xv.ownBlock≠some b
 ex:∀ b,ev.ownBlock=some b→xv.ownBlock≠some b
section
variable {f base:Nat} {w W:World} {B mb:Nat} {tv mv ev xv:Value} {types:List Dc} {ps:List Pl} {n:Nat} {s:SC} {mr er:List (List Value)}
theorem Bd.bl (h:Bd f base w B mb tv mv ev xv types ps n s mr er):Bl f w B mb tv mv ev xv types ps n:=⟨h.cells,⟨_,fun b hb=>hb.1,h.held⟩,h.nums⟩
theorem Bd.lt (h:Bd f base w B mb tv mv ev xv types ps n s mr er):B<w.heap.size:=Nat.lt_of_lt_of_le h.bb h.sz
theorem Bd.grow (h:Bd f base w B mb tv mv ev xv types ps n s mr er) (hs:w.heap.size≤W.heap.size) (hb:∀ b,b<w.heap.size→W.heap[b]? = w.heap[b]?):Bd f base W B mb tv mv ev xv types ps n s mr er:=by
 have hf:∀ b,Aa w B mv ev xv b→Aa W B mv ev xv b:=fun b h=>⟨by have:=h.1;omega,h.2⟩
 have ho:∀ b,Aa w B mv ev xv b→W.heap[b]? = w.heap[b]?:=fun b h=>hb b h.1
 exact⟨(hb B h.lt).trans h.cells,h.bb,by have:=h.sz;omega,hf mb h.far,(aM.old ho h.held).more hf,h.nums.old (ho mb h.far),h.ms.keep (fun b hb'=>hb b (aE h.ms.own b hb').2) (fun b h=>ho b h.1) (fun b h=>⟨hf b h.1,h.2⟩),h.es.keep (fun b hb'=>hb b (aE h.es.own b hb').2) (fun b h=>ho b h.1) (fun b h=>⟨hf b h.1,h.2⟩),aR h.ts (fun b hb'=>hb b (aE h.ts b hb').2),h.me,h.ex⟩
theorem Bd.below (h:Bd f base w B mb tv mv ev xv types ps n s mr er) (hb:Below w.heap.size w W):Bd f base W B mb tv mv ev xv types ps n s mr er:=h.grow hb.size hb.block
theorem Bd.aMs (h:Bd f base w B mb tv mv ev xv types ps n s mr er) (x:MD) (ka:Option Addr) (kc:Nat) (hrow:RowsIn w (Qs base w B mv ev xv) 5 cA (.slice ka x.fields.length kc) x.fields) (g cap:Nat) (hown:W.ownsRow base 48 2 (.slice (some ⟨g,0,none⟩) (s.ms.length+1) cap) (s.ms.length+1) (mr.flatMap id++[.string (aC x.name),.slice ka x.fields.length kc])) (hgr:w.grownBy W mv.ownBlock) (hat:mv.ownBlock=some g∨w.heap.size≤g) :
  Bd f base (W.setCell ⟨B,2,none⟩ (.slice (some ⟨g,0,none⟩) (s.ms.length+1) cap)) B mb tv (.slice (some ⟨g,0,none⟩) (s.ms.length+1) cap) ev xv types ps n ⟨s.ms++[x],s.es,s.ts⟩ (mr++[[.string (aC x.name),.slice ka x.fields.length kc]]) er:=by
 have hs:=hgr.size
 have hob:=aE h.ms.own
 have hBb:=h.bb
 have hlt:=h.lt
 have hgb:base≤g∧g<W.heap.size:=aE hown g rfl
 have hsz:(W.setCell ⟨B,2,none⟩ (.slice (some ⟨g,0,none⟩) (s.ms.length+1) cap)).heap.size=W.heap.size:=by simp
 have hne:∀ b,b<w.heap.size→mv.ownBlock≠some b→b≠g:=fun b hb hn e=>by
  subst e
  rcases hat with e | e
  ·exact hn e
  ·omega
 have hf:∀ b,Aa w B mv ev xv b→Aa (W.setCell ⟨B,2,none⟩ (.slice (some ⟨g,0,none⟩) (s.ms.length+1) cap)) B (.slice (some ⟨g,0,none⟩) (s.ms.length+1) cap) ev xv b:=fun b hb=>by
  have hgn:(Value.slice (some ⟨g,0,none⟩) (s.ms.length+1) cap).ownBlock≠some b:=fun e=>hne b hb.1 hb.2.2.1 (Option.some.inj e).symm
  exact⟨by rw[hsz];have:=hb.1;omega,hb.2.1,hgn,hb.2.2.2.1,hb.2.2.2.2⟩
 have hW:∀ b,b<w.heap.size→b≠B→mv.ownBlock≠some b→(W.setCell ⟨B,2,none⟩ (.slice (some ⟨g,0,none⟩) (s.ms.length+1) cap)).heap[b]? = w.heap[b]?:=fun b h1 h2 h3=>by
  rw[Below.heap_setCell _ _ _ _ h2]
  exact hgr.block b h1 (fun e=>h3 e.symm)
 have ho:∀ b,Aa w B mv ev xv b→(W.setCell ⟨B,2,none⟩ (.slice (some ⟨g,0,none⟩) (s.ms.length+1) cap)).heap[b]? = w.heap[b]?:=fun b hb=>hW b hb.1 hb.2.1 hb.2.2.1
 have hBW:W.heap[B]? = _:=(hgr.block B hlt (fun e=>by have:=(hob B e.symm).1;omega)).trans h.cells
 have hown':(W.setCell ⟨B,2,none⟩ (.slice (some ⟨g,0,none⟩) (s.ms.length+1) cap)).ownsRow base 48 2 (.slice (some ⟨g,0,none⟩) (s.ms.length+1) cap) (s.ms.length+1) (mr.flatMap id++[.string (aC x.name),.slice ka x.fields.length kc]):=aR hown fun b hb=>Below.heap_setCell _ _ _ _ (by have:=(aE hown b hb).1;show b≠B;omega)
 refine⟨by rw[aG hBW];rfl,hBb,by rw[hsz];have:=h.sz;omega,hf mb h.far,(aM.old ho h.held).more hf,h.nums.old (ho mb h.far),?_,?_,?_,?_,?_⟩
 ·exact h.ms.push x ka kc hown' hrow (fun b h=>ho b h.1) (fun b h=>⟨hf b h.1,h.2⟩)
 ·exact h.es.keep (fun b hb=>hW b (aE h.es.own b hb).2 (by have:=(aE h.es.own b hb).1;omega) (fun e=>(h.me b e).1 hb)) (fun b h=>ho b h.1) (fun b h=>⟨hf b h.1,h.2⟩)
 ·exact aR h.ts (fun b hb=>hW b (aE h.ts b hb).2 (by have:=(aE h.ts b hb).1;omega) (fun e=>(h.me b e).2 hb))
 ·intro b hb
  have hb':g=b:=Option.some.inj hb
  subst hb'
  exact⟨fun e=>hne g (aE h.es.own g e).2 (fun e'=>(h.me g e').1 e) rfl,fun e=>hne g (aE h.ts g e).2 (fun e'=>(h.me g e').2 e) rfl⟩
 ·exact h.ex
theorem Bd.aMu (h:Bd f base w B mb tv mv ev xv types ps n s mr er) (x:ED) (ka:Option Addr) (kc:Nat) (hrow:RowsIn w (Qs base w B mv ev xv) 2 eV (.slice ka x.values.length kc) x.values) (g cap:Nat) (hown:W.ownsRow base 91 2 (.slice (some ⟨g,0,none⟩) (s.es.length+1) cap) (s.es.length+1) (er.flatMap id++[.string (aC x.name),.slice ka x.values.length kc])) (hgr:w.grownBy W ev.ownBlock) (hat:ev.ownBlock=some g∨w.heap.size≤g) :
  Bd f base (W.setCell ⟨B,3,none⟩ (.slice (some ⟨g,0,none⟩) (s.es.length+1) cap)) B mb tv mv (.slice (some ⟨g,0,none⟩) (s.es.length+1) cap) xv types ps n ⟨s.ms,s.es++[x],s.ts⟩ mr (er++[[.string (aC x.name),.slice ka x.values.length kc]]):=by
 have hs:=hgr.size
 have hob:=aE h.es.own
 have hBb:=h.bb
 have hlt:=h.lt
 have hgb:base≤g∧g<W.heap.size:=aE hown g rfl
 have hsz:(W.setCell ⟨B,3,none⟩ (.slice (some ⟨g,0,none⟩) (s.es.length+1) cap)).heap.size=W.heap.size:=by simp
 have hne:∀ b,b<w.heap.size→ev.ownBlock≠some b→b≠g:=fun b hb hn e=>by
  subst e
  rcases hat with e | e
  ·exact hn e
  ·omega
 have hf:∀ b,Aa w B mv ev xv b→Aa (W.setCell ⟨B,3,none⟩ (.slice (some ⟨g,0,none⟩) (s.es.length+1) cap)) B mv (.slice (some ⟨g,0,none⟩) (s.es.length+1) cap) xv b:=fun b hb=>by
  have hgn:(Value.slice (some ⟨g,0,none⟩) (s.es.length+1) cap).ownBlock≠some b:=fun e=>hne b hb.1 hb.2.2.2.1 (Option.some.inj e).symm
  exact⟨by rw[hsz];have:=hb.1;omega,hb.2.1,hb.2.2.1,hgn,hb.2.2.2.2⟩
 have hW:∀ b,b<w.heap.size→b≠B→ev.ownBlock≠some b→(W.setCell ⟨B,3,none⟩ (.slice (some ⟨g,0,none⟩) (s.es.length+1) cap)).heap[b]? = w.heap[b]?:=fun b h1 h2 h3=>by
  rw[Below.heap_setCell _ _ _ _ h2]
  exact hgr.block b h1 (fun e=>h3 e.symm)
 have ho:∀ b,Aa w B mv ev xv b→(W.setCell ⟨B,3,none⟩ (.slice (some ⟨g,0,none⟩) (s.es.length+1) cap)).heap[b]? = w.heap[b]?:=fun b hb=>hW b hb.1 hb.2.1 hb.2.2.2.1
 have hBW:W.heap[B]? = _:=(hgr.block B hlt (fun e=>by have:=(hob B e.symm).1;omega)).trans h.cells
 have hown':(W.setCell ⟨B,3,none⟩ (.slice (some ⟨g,0,none⟩) (s.es.length+1) cap)).ownsRow base 91 2 (.slice (some ⟨g,0,none⟩) (s.es.length+1) cap) (s.es.length+1) (er.flatMap id++[.string (aC x.name),.slice ka x.values.length kc]):=aR hown fun b hb=>Below.heap_setCell _ _ _ _ (by have:=(aE hown b hb).1;show b≠B;omega)
 refine⟨by rw[aG hBW];rfl,hBb,by rw[hsz];have:=h.sz;omega,hf mb h.far,(aM.old ho h.held).more hf,h.nums.old (ho mb h.far),?_,?_,?_,?_,?_⟩
 ·exact h.ms.keep (fun b hb=>hW b (aE h.ms.own b hb).2 (by have:=(aE h.ms.own b hb).1;omega) (fun e=>(h.me b hb).1 e)) (fun b h=>ho b h.1) (fun b h=>⟨hf b h.1,h.2⟩)
 ·exact h.es.push x ka kc hown' hrow (fun b h=>ho b h.1) (fun b h=>⟨hf b h.1,h.2⟩)
 ·exact aR h.ts (fun b hb=>hW b (aE h.ts b hb).2 (by have:=(aE h.ts b hb).1;omega) (fun e=>h.ex b e hb))
 ·intro b hb
  refine⟨fun e=>?_,(h.me b hb).2⟩
  have e':g=b:=Option.some.inj e
  subst e'
  exact hne g (aE h.ms.own g hb).2 (fun e'=>(h.me g hb).1 e') rfl
 ·intro b hb
  have hb':g=b:=Option.some.inj hb
  subst hb'
  exact fun e=>hne g (aE h.ts g e).2 (fun e'=>h.ex g e' e) rfl
theorem Bd.aMv (h:Bd f base w B mb tv mv ev xv types ps n s mr er) (x:TD) (g cap:Nat) (hown:W.ownsRow base 45 5 (.slice (some ⟨g,0,none⟩) (s.ts.length+1) cap) (s.ts.length+1) (s.ts.flatMap gD++gD x)) (hgr:w.grownBy W xv.ownBlock) (hat:xv.ownBlock=some g∨w.heap.size≤g) :
  Bd f base (W.setCell ⟨B,4,none⟩ (.slice (some ⟨g,0,none⟩) (s.ts.length+1) cap)) B mb tv mv ev (.slice (some ⟨g,0,none⟩) (s.ts.length+1) cap) types ps n ⟨s.ms,s.es,s.ts++[x]⟩ mr er:=by
 have hs:=hgr.size
 have hob:=aE h.ts
 have hBb:=h.bb
 have hlt:=h.lt
 have hgb:base≤g∧g<W.heap.size:=aE hown g rfl
 have hsz:(W.setCell ⟨B,4,none⟩ (.slice (some ⟨g,0,none⟩) (s.ts.length+1) cap)).heap.size=W.heap.size:=by simp
 have hne:∀ b,b<w.heap.size→xv.ownBlock≠some b→b≠g:=fun b hb hn e=>by
  subst e
  rcases hat with e | e
  ·exact hn e
  ·omega
 have hf:∀ b,Aa w B mv ev xv b→Aa (W.setCell ⟨B,4,none⟩ (.slice (some ⟨g,0,none⟩) (s.ts.length+1) cap)) B mv ev (.slice (some ⟨g,0,none⟩) (s.ts.length+1) cap) b:=fun b hb=>by
  have hgn:(Value.slice (some ⟨g,0,none⟩) (s.ts.length+1) cap).ownBlock≠some b:=fun e=>hne b hb.1 hb.2.2.2.2 (Option.some.inj e).symm
  exact⟨by rw[hsz];have:=hb.1;omega,hb.2.1,hb.2.2.1,hb.2.2.2.1,hgn⟩
 have hW:∀ b,b<w.heap.size→b≠B→xv.ownBlock≠some b→(W.setCell ⟨B,4,none⟩ (.slice (some ⟨g,0,none⟩) (s.ts.length+1) cap)).heap[b]? = w.heap[b]?:=fun b h1 h2 h3=>by
  rw[Below.heap_setCell _ _ _ _ h2]
  exact hgr.block b h1 (fun e=>h3 e.symm)
 have ho:∀ b,Aa w B mv ev xv b→(W.setCell ⟨B,4,none⟩ (.slice (some ⟨g,0,none⟩) (s.ts.length+1) cap)).heap[b]? = w.heap[b]?:=fun b hb=>hW b hb.1 hb.2.1 hb.2.2.2.2
 have hBW:W.heap[B]? = _:=(hgr.block B hlt (fun e=>by have:=(hob B e.symm).1;omega)).trans h.cells
 have hown':(W.setCell ⟨B,4,none⟩ (.slice (some ⟨g,0,none⟩) (s.ts.length+1) cap)).ownsRow base 45 5 (.slice (some ⟨g,0,none⟩) (s.ts.length+1) cap) (s.ts.length+1) (s.ts.flatMap gD++gD x):=aR hown fun b hb=>Below.heap_setCell _ _ _ _ (by have:=(aE hown b hb).1;show b≠B;omega)
 refine⟨by rw[aG hBW];rfl,hBb,by rw[hsz];have:=h.sz;omega,hf mb h.far,(aM.old ho h.held).more hf,h.nums.old (ho mb h.far),?_,?_,?_,?_,?_⟩
 ·exact h.ms.keep (fun b hb=>hW b (aE h.ms.own b hb).2 (by have:=(aE h.ms.own b hb).1;omega) (fun e=>(h.me b hb).2 e)) (fun b h=>ho b h.1) (fun b h=>⟨hf b h.1,h.2⟩)
 ·exact h.es.keep (fun b hb=>hW b (aE h.es.own b hb).2 (by have:=(aE h.es.own b hb).1;omega) (fun e=>h.ex b hb e)) (fun b h=>ho b h.1) (fun b h=>⟨hf b h.1,h.2⟩)
 ·show World.ownsRow _ _ _ _ _ (s.ts++[x]).length ((s.ts++[x]).flatMap gD)
  rw[List.length_append,List.flatMap_append]
  simpa using hown'
 ·intro b hb
  refine⟨(h.me b hb).1,fun e=>?_⟩
  have e':g=b:=Option.some.inj e
  subst e'
  exact hne g (aE h.ms.own g hb).2 (fun e'=>(h.me g hb).2 e') rfl
 ·intro b hb e
  have e':g=b:=Option.some.inj e
  subst e'
  exact hne g (aE h.es.own g hb).2 (fun e'=>h.ex g hb e') rfl
end
abbrev xH (l:List FD):Prop:=l.Pairwise fun x y=>x.num<y.num
theorem Gp:∀ (a b:List FD),a.Perm b→xH a→xH b→a=b
 | [],b,h,_,_=>by
  have:=h.length_eq
  cases b with
  | nil=>rfl
  | cons _ _=>simp at this
 | x :: a,b,h,ha,hb=>by
  cases b with
  | nil=>have:=h.length_eq;simp at this
  | cons y b=>
   have ha':=List.pairwise_cons.1 ha
   have hb':=List.pairwise_cons.1 hb
   have hxy:x=y:=by
    have h1:x∈y :: b:=h.mem_iff.1 (by simp)
    have h2:y∈x :: a:=h.mem_iff.2 (by simp)
    rcases List.mem_cons.1 h1 with e | h1
    ·exact e
    ·rcases List.mem_cons.1 h2 with e | h2
     ·exact e.symm
     ·have:=ha'.1 y h2
      have:=hb'.1 x h1
      omega
   subst hxy
   rw[Gp a b ((List.perm_cons x).1 h) ha'.2 hb'.2]
theorem Ab (l:List FD) (x:FD):(yC l x).Perm (x :: l):=by
 unfold yC
 have h:=List.perm_middle (a:=x) (l₁:=l.takeWhile fun y=>decide (y.num<x.num)) (l₂:=l.dropWhile fun y=>decide (y.num<x.num))
 rw[List.takeWhile_append_dropWhile]at h
 exact h
theorem Nf:∀ (l:List FD) (n:Int),∀ y∈l.takeWhile (fun y=>decide (y.num<n)),y.num<n
 | [],n,y,h=>by simp at h
 | a :: t,n,y,h=>by
  rw[List.takeWhile_cons]at h
  by_cases ha:a.num<n
  ·rw[if_pos (by simpa using ha)]at h
   rcases List.mem_cons.1 h with rfl | h
   ·exact ha
   ·exact Nf t n y h
  ·rw[if_neg (by simpa using ha)]at h
   simp at h
theorem Cf:∀ (l:List FD) (n:Int),xH l→∀ y∈l.dropWhile (fun y=>decide (y.num<n)),n≤y.num
 | [],n,_,y,h=>by simp at h
 | a :: t,n,hr,y,h=>by
  have hr':=List.pairwise_cons.1 hr
  rw[List.dropWhile_cons]at h
  by_cases ha:a.num<n
  ·rw[if_pos (by simpa using ha)]at h
   exact Cf t n hr'.2 y h
  ·rw[if_neg (by simpa using ha)]at h
   rcases List.mem_cons.1 h with rfl | h
   ·omega
   ·have:=hr'.1 y h;omega
theorem Qt (l:List FD) (x:FD) (hl:xH l) (hx:∀ y∈l,y.num≠x.num):xH (yC l x):=by
 unfold yC
 refine List.pairwise_append.2 ⟨hl.sublist (List.takeWhile_sublist _),List.pairwise_cons.2 ⟨?_,hl.sublist (List.dropWhile_sublist _)⟩,?_⟩
 ·intro y hy
  have h1:=Cf l x.num hl y hy
  have h2:=hx y ((List.dropWhile_sublist _).subset hy)
  omega
 ·intro a ha b hb
  have h1:=Nf l x.num a ha
  rcases List.mem_cons.1 hb with rfl | hb
  ·exact h1
  ·have h2:=Cf l x.num hl b hb
   omega
theorem tD:∀ (xs acc:List FD),xH acc→((acc++xs).map (·.num)).Nodup→(xs.foldl yC acc).Perm (acc++xs)∧xH (xs.foldl yC acc)
 | [],acc,h,_=>⟨by simp,h⟩
 | x :: t,acc,h,hn=>by
  have hn':((yC acc x++t).map (·.num)).Nodup:=by
   have hp:(yC acc x++t).Perm (acc++x :: t):=((Ab acc x).append_right t).trans List.perm_middle.symm
   exact((hp.map (·.num)).nodup_iff).2 hn
  have hx:∀ y∈acc,y.num≠x.num:=by
   intro y hy e
   rw[List.map_append,List.nodup_append]at hn
   exact hn.2.2 y.num (List.mem_map_of_mem hy) x.num (by simp) e
  obtain⟨h1,h2⟩:=tD t (yC acc x) (Qt acc x h hx) hn'
  exact⟨h1.trans (((Ab acc x).append_right t).trans List.perm_middle.symm),h2⟩
theorem Qu {xs ys:List FD} (hn:(xs.map (·.num)).Nodup) (hp:ys.Perm xs) (hs:ys.Pairwise fun x y=>x.num≤y.num):ys=zI xs:=by
 obtain⟨h1,h2⟩:=tD xs [] List.Pairwise.nil hn
 refine Gp ys _ (hp.trans h1.symm) ?_ h2
 have hny:(ys.map (·.num)).Nodup:=((hp.map (·.num)).nodup_iff).2 hn
 have aVn:ys.Pairwise fun x y=>x.num≠y.num:=List.pairwise_map.1 hny
 exact(hs.and aVn).imp fun ⟨a,b⟩=>by omega
open Go.Shelf
def Cg : Go.Shelf.Ren := ⟨fun | 6 => 102 | 15 => 145 | 14 => 144 | 28 => 184 | 29 => 185 | 20 => 176 | 21 => 177 | 22 => 178 | 23 => 179 | 24 => 180 | 25 => 181 | 26 => 182 | 27 => 183 | 46 => 203 | 47 => 204 | 48 => 205 | 49 => 206 | 50 => 207 | 57 => 219 | n => n, fun | 22 => 46 | 24 => 88 | 25 => 181 | 3 => 3 | 39 => 223 | 0 => 0 | 53 => 252 | 55 => 254 | 4 => 4 | 46 => 246 | 45 => 245 | 50 => 182 | 5 => 5 | 9 => 9 | 66 => 272 | 70 => 233 | 76 => 281 | 77 => 42 | n => n, fun | n => n⟩
theorem Gq : Go.Proofs.SlLaysF0.n6 Tryz.prog Cg := {
  mixed := by kernel_rfl
  f6 := ⟨Tryz.f102.name, by decide, Tryz.func102.trans (congrArg some (by kernel_rfl))⟩
  f14 := ⟨Tryz.f144.name, by decide, Tryz.func144.trans (congrArg some (by kernel_rfl))⟩
  f15 := Tryz.func145.trans (congrArg some (by kernel_rfl))
  f20 := ⟨Tryz.f176.name, by decide, Tryz.func176.trans (congrArg some (by kernel_rfl))⟩
  f21 := ⟨Tryz.f177.name, by decide, Tryz.func177.trans (congrArg some (by kernel_rfl))⟩
  f22 := ⟨Tryz.f178.name, by decide, Tryz.func178.trans (congrArg some (by kernel_rfl))⟩
  f23 := ⟨Tryz.f179.name, by decide, Tryz.func179.trans (congrArg some (by kernel_rfl))⟩
  f24 := ⟨Tryz.f180.name, by decide, Tryz.func180.trans (congrArg some (by kernel_rfl))⟩
  f25 := ⟨Tryz.f181.name, by decide, Tryz.func181.trans (congrArg some (by kernel_rfl))⟩
  f26 := ⟨Tryz.f182.name, by decide, Tryz.func182.trans (congrArg some (by kernel_rfl))⟩
  f27 := ⟨Tryz.f183.name, by decide, Tryz.func183.trans (congrArg some (by kernel_rfl))⟩
  f28 := Tryz.func184.trans (congrArg some (by kernel_rfl))
  f29 := Tryz.func185.trans (congrArg some (by kernel_rfl))
  f46 := ⟨Tryz.f203.name, by decide, Tryz.func203.trans (congrArg some (by kernel_rfl))⟩
  f47 := Tryz.func204.trans (congrArg some (by kernel_rfl))
  f48 := Tryz.func205.trans (congrArg some (by kernel_rfl))
  f49 := ⟨Tryz.f206.name, by decide, Tryz.func206.trans (congrArg some (by kernel_rfl))⟩
  f50 := ⟨Tryz.f207.name, by decide, Tryz.func207.trans (congrArg some (by kernel_rfl))⟩
  f57 := ⟨Tryz.f219.name, by decide, Tryz.func219.trans (congrArg some (by kernel_rfl))⟩
  t0 := Tryz.underlying0
  a0 := Tryz.isAgg0
  z0 := Tryz.sizeOf0
  v0 := Tryz.zeroValue0
  t3 := Tryz.underlying3
  a3 := Tryz.isAgg3
  z3 := Tryz.sizeOf3
  v3 := Tryz.zeroValue3
  t4 := Tryz.underlying4
  a4 := Tryz.isAgg4
  z4 := Tryz.sizeOf4
  v4 := Tryz.zeroValue4
  t5 := Tryz.underlying5
  a5 := Tryz.isAgg5
  z5 := Tryz.sizeOf5
  v5 := Tryz.zeroValue5
  t9 := Tryz.underlying9
  a9 := Tryz.isAgg9
  z9 := Tryz.sizeOf9
  v9 := Tryz.zeroValue9
  t22 := Tryz.underlying46
  a22 := Tryz.isAgg46
  z22 := Tryz.sizeOf46
  v22 := Tryz.zeroValue46
  t25 := Tryz.underlying181
  a25 := Tryz.isAgg181
  z25 := Tryz.sizeOf181
  v25 := Tryz.zeroValue181
  t39 := Tryz.underlying223
  a39 := Tryz.isAgg223
  z39 := Tryz.sizeOf223
  v39 := Tryz.zeroValue223
  t45 := Tryz.underlying245
  a45 := Tryz.isAgg245
  z45 := Tryz.sizeOf245
  v45 := Tryz.zeroValue245
  t46 := Tryz.underlying246
  a46 := Tryz.isAgg246
  z46 := Tryz.sizeOf246
  v46 := Tryz.zeroValue246
  t50 := Tryz.underlying182
  a50 := Tryz.isAgg182
  z50 := Tryz.sizeOf182
  v50 := Tryz.zeroValue182
  t53 := Tryz.underlying252
  a53 := Tryz.isAgg252
  z53 := Tryz.sizeOf252
  v53 := Tryz.zeroValue252
  t55 := Tryz.underlying254
  a55 := Tryz.isAgg254
  z55 := Tryz.sizeOf254
  v55 := Tryz.zeroValue254
  t66 := Tryz.underlying272
  a66 := Tryz.isAgg272
  z66 := Tryz.sizeOf272
  v66 := Tryz.zeroValue272
  t70 := Tryz.underlying233
  a70 := Tryz.isAgg233
  z70 := Tryz.sizeOf233
  v70 := Tryz.zeroValue233
  t76 := Tryz.underlying281
  a76 := Tryz.isAgg281
  z76 := Tryz.sizeOf281
  v76 := Tryz.zeroValue281
  t77 := Tryz.underlying42
  a77 := Tryz.isAgg42
  z77 := Tryz.sizeOf42
  v77 := Tryz.zeroValue42 }
open Go.Lib Go.Sort
instance:Inhabited FD:=⟨⟨0,[],0,false,0⟩⟩

def Kp (x y:FD):Int:=if x.num<y.num then -1 else if y.num<x.num then 1 else 0
theorem ltF (x y:FD):ltOf Kp x y=decide (x.num<y.num):=by
 unfold ltOf Kp
 by_cases h1:x.num<y.num
 ·simp[h1]
 ·by_cases h2:y.num<x.num <;> simp[h1,h2]
theorem aVo:SWO (ltOf Kp) where
 irrefl x:=by rw[ltF];simp
 trans x y z h1 h2:=by rw[ltF]at *;simp at *;omega
 ntrans x y z h1 h2:=by rw[ltF]at *;simp at *;omega
theorem Kq (a b:Int) (w:World):Calls Tryz.prog 104 #[.int .i64 a,.int .i64 b] w fun e w'=>e=.returned (.int .i64 (if a<b then -1 else if b<a then 1 else 0))∧w'=w:=by
 by_cases h1:a<b
 ·rw[if_pos h1]
  go_enter Tryz.func104,Tryz.ntmps104
  go_wp2
  go_ret
  exact⟨rfl,rfl⟩
 ·rw[if_neg h1]
  by_cases h2:b<a
  ·rw[if_pos h2]
   go_enter Tryz.func104,Tryz.ntmps104
   go_wp2
   go_ret
   exact⟨rfl,rfl⟩
  ·rw[if_neg h2]
   go_enter Tryz.func104,Tryz.ntmps104
   go_wp2
   go_ret
   exact⟨rfl,rfl⟩
set_option maxHeartbeats 1000000 in
theorem Qv (x y:FD) (W:World):Calls Tryz.prog 103 #[.agg (cA x).toArray,.agg (cA y).toArray] W fun e w'=>e=.returned (.int .i64 (Kp x y))∧∃ q os',w'=grow (W.drewN q) os':=by
 have hcon:=fun W'=>Kq x.num y.num W'
 have hr:Kp x y=if x.num<y.num then -1 else if y.num<x.num then 1 else 0:=rfl
 rw[←hr]at hcon
 generalize Kp x y=r at hcon ⊢
 show Calls Tryz.prog 103 #[.agg #[.int .i64 x.num,.string (aC x.name),.int .i64 x.kind,.bool x.rep,.int .i64 x.type],.agg #[.int .i64 y.num,.string (aC y.name),.int .i64 y.kind,.bool y.rep,.int .i64 y.type]] W _
 clear hr
 go_enter Tryz.func103,Tryz.ntmps103
 go_wp2_with (go_at_call 104;refine(hcon _).mono ?_;rintro e w' ⟨rfl,rfl⟩)
 go_ret
 exact⟨rfl,0,_,by rw[alloc_eq_grow,alloc_eq_grow,grow_grow];rfl⟩
theorem xI (xs:List FD):(flatK cA 5 xs.toArray).toList=xs.flatMap cA:=by
 have hl:(xs.flatMap cA).length=xs.length*5:=by
  induction xs with
  | nil=>rfl
  | cons a t ih=>rw[List.flatMap_cons,List.length_append,ih];simp[cA];omega
 apply List.ext_getElem?
 intro t
 by_cases ht:t<xs.length*5
 ·have h1:(flatK cA 5 xs.toArray).toList[t]? = some ((flatK cA 5 xs.toArray)[t]!):=by
   rw[Array.getElem?_toList,getElem!_pos _ t (by simpa using ht),Array.getElem?_eq_getElem (by simpa using ht)]
  rw[h1,get_flatK _ _ _ _ (by simpa using ht)]
  have hq:t / 5<xs.length:=by omega
  have hx:xs[t / 5]? = some xs.toArray[t / 5]!:=by
   rw[getElem!_pos _ _ (by simpa using hq),List.getElem?_eq_getElem hq]
   simp
  have e:=rA (k:=5) (row:=cA) (fun _=>rfl) xs (t / 5) _ (t % 5) (by omega) hx
  rw[show t / 5*5+t % 5=t by omega]at e
  rw[e,getElem!_pos _ _ (by show t % 5<5;omega)]
  rw[List.getElem?_eq_getElem (by show t % 5<5;omega)]
 ·rw[List.getElem?_eq_none (by simp;omega),List.getElem?_eq_none (by omega)]
def aBa (base:Nat) (v:Value) (xs:List FD) (w:World) (e:Ending) (w':World):Prop:=e=.returned (.tuple #[])∧∃ ys:List FD,ys.Perm xs∧(ys.Pairwise fun x y=>x.num≤y.num)∧w'.ownsRow base 88 5 v xs.length (ys.flatMap cA)∧w.grownBy w' v.ownBlock
theorem aGm (w:World):(isAgg 88).run Tryz.prog w=.ok true w:=by
 first
  | exact Tryz.isAgg88 w
  | kernel_rfl
theorem aBb (w:World):(Go.sizeOf 88).run Tryz.prog w=.ok 5 w:=by
 first
  | exact Tryz.sizeOf88 w
  | kernel_rfl
set_option maxHeartbeats 2000000 in
theorem Kr (base:Nat) (v:Value) (xs:List FD) (w:World) (h:w.ownsRow base 88 5 v xs.length (xs.flatMap cA)) (hl:xs.length≤1000000) :
  Calls Tryz.prog 102 #[v,.func (.func 103) #[] #[]] w fun e w'=>aBa base v xs w e w':=by
 by_cases h0:xs.length=0
 ·have hx:xs=[]:=List.eq_nil_of_length_eq_zero h0
  subst hx
  obtain⟨ad,c,rfl⟩:∃ ad c,v=.slice ad 0 c:=by
   obtain⟨_,⟨rfl,_⟩ | ⟨g,cap,cur,rfl,_⟩⟩:=h
   ·exact⟨_,_,rfl⟩
   ·exact⟨_,_,rfl⟩
  have hc:=AnyF.slices_SortFunc_none Gq ad c (.func (.func 103) #[] #[]) w
  change Calls Tryz.prog 102 _ _ _ at hc
  refine hc.mono ?_
  rintro e w' ⟨rfl,rfl⟩
  exact⟨rfl,[],List.Perm.refl _,List.Pairwise.nil,h,World.grownBy.refl _ _⟩
 ·obtain⟨hfl,⟨rfl,hz⟩ | ⟨g,cap,cur,rfl,hg,hh,h3,h4,h5,h6⟩⟩:=h
  ·exact absurd hz h0
  have eg:∀ args w,(callFunc 103 args).run Tryz.prog w=.ok (.enter 103 args) w:=enters_of Tryz.func103 (by kernel_rfl) rfl
  have hlt:g<w.heap.size:=(Array.getElem?_eq_some_iff.1 hh).1
  have hH:HoldsK cA 5 w g 0 xs.toArray:=by
   intro j hj
   have hj':j<xs.length*5:=by simpa using hj
   refine⟨?_,by simp[World.frozen?,hh]⟩
   have e1:(cur.toList.take (xs.length*5))[j]? = (flatK cA 5 xs.toArray).toList[j]?:=by rw[xI,h6]
   rw[List.getElem?_take_of_lt hj',Array.getElem?_toList,Array.getElem?_toList,Array.getElem?_eq_getElem (xs:=flatK cA 5 xs.toArray) (by simpa using hj')]at e1
   simp only[World.cell?,hh,Nat.zero_add]
   simp only[Option.isSome_none,Bool.false_eq_true,if_false]
   rw[e1,getElem!_pos _ j (by simpa using hj')]
   rfl
  have hc:=AnyQ.slices_SortFunc Gq 5 aGm aBb cA (fun _=>rfl) (fun x v hv=>by simp[cA]at hv;rcases hv with rfl | rfl | rfl | rfl | rfl <;> rfl) Kp aVo 103 #[] g 0 cap xs.toArray w eg (fun _ _ _ _ x y=>Qv x y _) hH hlt (by simp;omega)
  change Calls Tryz.prog 102 _ _ _ at hc
  rw[show xs.toArray.size=xs.length by simp]at hc
  refine hc.mono ?_
  rintro e w' ⟨rfl,d',n,os,⟨hps,hpo,hpp⟩,hsrt,rfl⟩
  obtain⟨ys,rfl⟩:∃ ys:List FD,d'=ys.toArray:=⟨d'.toList,by simp⟩
  have hys:ys.length=xs.length:=by simpa using hps
  refine⟨rfl,ys,?_,?_,?_,?_⟩
  ·have:=hpp
   rw[show (0:Nat)=0 from rfl]at this
   have e1:(ys.toArray.extract 0 xs.length).toList=ys:=by
    rw[←hys];simp
   have e2:(xs.toArray.extract 0 xs.length).toList=xs:=by simp
   rw[e1,e2]at this
   exact this
  ·rw[List.pairwise_iff_getElem]
   intro i j hi hj hij
   have:=hsrt i j (Nat.zero_le _) hij (by omega)
   rw[ltF]at this
   rw[getElem!_pos _ i (by simpa using hi),getElem!_pos _ j (by simpa using hj)]at this
   simp at this
   omega
  ·have hb2:(sortWorldK cA 5 w g 0 n ys.toArray os).heap[g]? = some (.cells (putCells id 0 (flatK cA 5 ys.toArray) cur) 88 (0,0)):=by
    unfold sortWorldK putRowK
    rw[heap_grow_old _ _ (by simpa using hlt)]
    simp[putRow,mapBlock,Sort.ahead,Array.getElem?_modify,hh,onCells]
   have aVp:(ys.flatMap cA).length=xs.length*5:=by
    rw[←xI,Array.length_toList,size_flatK,←hys];simp
   refine⟨aVp,.inr ⟨g,cap,_,rfl,hg,hb2,h3,h4,by simp[putCells,h5],?_⟩⟩
   rw[←xI]
   apply List.ext_getElem?
   intro j
   by_cases hj:j<xs.length*5
   ·have hjc:j<cur.size:=by rw[h5];have:=Nat.mul_le_mul_right 5 h3;omega
    have hjf:j<(flatK cA 5 ys.toArray).size:=by rw[size_flatK];simpa [hys]using hj
    rw[List.getElem?_take_of_lt hj,Array.getElem?_toList,Array.getElem?_toList,Array.getElem?_eq_getElem hjf]
    simp only[putCells]
    simp[hjc]
    rw[if_pos (by omega),getElem!_pos _ j hjf]
   ·rw[List.getElem?_take_eq_none (by omega),List.getElem?_eq_none (by rw[Array.length_toList,size_flatK];simp;omega)]
  ·refine⟨rfl,rfl,rfl,by unfold sortWorldK putRowK;simp,fun k hk hne=>?_⟩
   unfold sortWorldK putRowK
   rw[heap_grow_old _ _ (by simpa using hk)]
   have:g≠k:=fun e=>hne (by rw[e];rfl)
   simp[putRow,mapBlock,Sort.ahead,Array.getElem?_modify,this]
end Go.Proofs.YtpojeinddnjpfaaGreatDoor
