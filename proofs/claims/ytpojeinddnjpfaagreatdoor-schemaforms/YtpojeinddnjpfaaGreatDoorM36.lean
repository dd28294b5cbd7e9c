/-
  Walks and plain words (ShO).
-/
import Derived.Test.YtpojeinddnjpfaaGreatDoorProg
import Derived.OrdersHeld
import Derived.Deep.RegionHeld
namespace Go.Proofs.YtpojeinddnjpfaaGreatDoor
set_option linter.unusedVariables false

section
variable {P:Program} {ops:Array Oper} {Q:Exit→Act→World→Prop} {md:Region.Mode}
def Qw (md:Region.Mode) (ops:Array Oper) (l:Array Bool):Prop:=∀ (j:Nat) (oj:Oper),ops[j]? = some oj→l.getD j false=true→∀ e∈oj.after,Region.binds md e=true→l.getD e.on false=true
def aMw (md:Region.Mode) (ops:Array Oper) (l:Array Bool):Bool:=(List.range ops.size).all fun j=>match ops[j]? with
 | some oj=>!l.getD j false || oj.after.all fun e=>!Region.binds md e || l.getD e.on false
 | none=>true
theorem aGn {l:Array Bool} (h:aMw md ops l=true):Qw md ops l:=by
 intro j oj hj hl e he hb
 have hjs:=(Array.getElem?_eq_some_iff.1 hj).1
 have h1:=List.all_eq_true.1 h j (List.mem_range.2 hjs)
 simp only[hj,hl,Bool.not_true,Bool.false_or]at h1
 have h2:=Array.all_eq_true_iff_forall_mem.1 h1 e he
 simpa [hb]using h2
theorem aBc {l:Array Bool} {j:Nat} (h:Qw md ops l) (hj:j∈Region.ready md ops l):Qw md ops (l.setIfInBounds j true):=by
 intro k ok hk hl e he hb
 by_cases hjk:j=k
 ·subst hjk
  obtain⟨_,oj,hoj,hall⟩:=mem_ready.1 hj
  rw[hk]at hoj
  cases hoj
  exact getD_set_true (hall e he hb)
 ·rw[getD_set_ne false hjk]at hl
  exact getD_set_true (h k ok hk hl e he hb)
def chainB (md:Region.Mode) (ops:Array Oper):Nat→List Nat→Bool
 | _,[]=>true
 | s,t :: p=>(match ops[s]? with
  | some o=>o.after.toList.any fun e=>Region.binds md e&&(e.on == t)
  | none=>false)&&chainB md ops t p
theorem Ac {l:Array Bool} (h:Qw md ops l):∀ (p:List Nat) (s:Nat),chainB md ops s p=true→l.getD s false=true→∀ t∈p,l.getD t false=true
 | [],s,_,_,t,ht=>by simp at ht
 | b :: p,s,hc,hs,t,ht=>by
  rw[chainB,Bool.and_eq_true]at hc
  obtain⟨h1,h2⟩:=hc
  have hb:l.getD b false=true:=by
   cases ho:ops[s]? with
   | none=>rw[ho]at h1;cases h1
   | some o=>
    rw[ho]at h1
    obtain⟨e,he,h3⟩:=List.any_eq_true.1 h1
    rw[Bool.and_eq_true]at h3
    have:=h s o ho hs e (by simpa using he) h3.1
    have e2:e.on=b:=by simpa using h3.2
    rw[e2]at this;exact this
  rcases List.mem_cons.1 ht with rfl | ht
  ·exact hb
  ·exact Ac h p b h2 hb t ht
def Ph (st:Nat) (Sy Sp:World→Prop) (l:Array Bool) (w:World):Prop:=Sy w∧(l.getD st false=false→Sp w)
def lA (P:Program) (md:Region.Mode) (ops:Array Oper) (Q:Exit→Act→World→Prop) (st:Nat) (Sy Sp:World→Prop):Nat→Array Bool→Act→World→Prop
 | 0,l,a,w=>Region.ready md ops l=[]∧Q .normal a w
 | fuel+1,l,a,w=>
  (Region.ready md ops l=[]→Q .normal a w)∧
  ∀ i∈Region.ready md ops l,wpOp P ops Q i (fun a' w'=>Ph st Sy Sp (l.setIfInBounds i true) w'∧lA P md ops Q st Sy Sp fuel (l.setIfInBounds i true) a' w') a w
variable {st:Nat} {Sy Sp:World→Prop}
theorem Gr:∀ (fuel:Nat) (l:Array Bool) (a:Act) (w:World),lA P md ops Q st Sy Sp fuel l a w→wpAny P md ops Q fuel l a w
 | 0,_,_,_,h=>h
 | fuel+1,_,_,_,h=>⟨h.1,fun i hi=>wpOp_mono (fun a' w' h'=>Gr fuel _ a' w' h'.2) (h.2 i hi)⟩
theorem aBd {i:Nat} {oi:Oper} {v:Value} {p:List Nat} (hch:chainB md ops st p=true) (hpi:i∈p) (hist:i≠st) (hi:ops[i]? = some oi) (hsel:∀ (j:Nat) (o:Oper) cs b,ops[j]? = some o→o.op≠.select cs b)
  (hQ:∀ c a w,Q (.panic c) (a.put oi.dst v) w→Q (.panic c) a w) :
  ∀ (fuel:Nat) (l:Array Bool) (a:Act) (w:World),Qw md ops l→
   (∀ j oj,ops[j]? = some oj→j≠i→l.getD j true=false→(∀ e∈oj.after,Region.binds md e=true→e.on≠i)→oi.apart ops oj=true)→
   i∈Region.ready md ops l→YieldsIf P ops (fun W=>Sy W∧Sp W) oi v a→Ph st Sy Sp l w→
   lA P md ops Q st Sy Sp fuel (l.setIfInBounds i true) (a.put oi.dst v) w→lA P md ops Q st Sy Sp (fuel+1) l a w:=by
 have both:∀ (l:Array Bool) (w:World),Qw md ops l→l.getD i true=false→Ph st Sy Sp l w→Sy w∧Sp w:=fun l w hc hl hS=>by
  refine⟨hS.1,hS.2 ?_⟩
  cases hs:l.getD st false with
  | false=>rfl
  | true=>
   have h1:=Ac hc p st hch hs i hpi
   rcases Nat.lt_or_ge i l.size with h' | h'
   ·simp[h']at hl h1;rw[hl]at h1;cases h1
   ·simp[Array.getElem?_eq_none h']at hl
 have same:∀ (l:Array Bool) (w:World),Ph st Sy Sp (l.setIfInBounds i true) w↔Ph st Sy Sp l w:=fun l w=>by
  unfold Ph
  rw[getD_set_ne false hist]
 intro fuel
 induction fuel with
 | zero=>
  intro l a w hc _ hr hy hS H
  have h0:=(mem_ready.1 hr).1
  refine⟨fun h=>(by rw[h]at hr;cases hr),fun j hj=>?_⟩
  by_cases hji:j=i
  ·subst hji;exact hy.wpOp hi (both l w hc h0 hS) ⟨(same l w).2 hS,H⟩
  ·have:=ready_mono hj hji
   rw[H.1]at this
   cases this
 | succ fuel ih=>
  intro l a w hc hfree hr hy hS H
  have h0:=(mem_ready.1 hr).1
  refine⟨fun h=>(by rw[h]at hr;cases hr),fun j hj=>?_⟩
  by_cases hji:j=i
  ·subst hji;exact hy.wpOp hi (both l w hc h0 hS) ⟨(same l w).2 hS,H⟩
  ·have h1:=H.2 j (ready_mono hj hji)
   obtain⟨hjun,oj,hoj,hall⟩:=mem_ready.1 hj
   have hnot:∀ e∈oj.after,Region.binds md e=true→e.on≠i:=fun e he hb heq=>by
    have h1:=hall e he hb
    rw[heq]at h1
    rcases Nat.lt_or_ge i l.size with h' | h'
    ·simp[h']at h0 h1;rw[h0]at h1;cases h1
    ·simp[Array.getElem?_eq_none h']at h1
   have h2:=wpOp_putIf hoj (hfree j oj hoj hji hjun hnot) (fun cs b=>hsel i oi cs b hi) (fun cs b=>hsel j oj cs b hoj) hQ hy h1
   refine wpOp_mono (fun a' w' h3=>?_) h2
   obtain⟨h3,h4,h5⟩:=h3
   rw[Array.setIfInBounds_comm _ _ (Ne.symm hji)]at h4 h5
   have h6:=(same (l.setIfInBounds j true) w').1 h4
   refine⟨h6,ih (l.setIfInBounds j true) a' w' (aBc hc hj) ?_ (ready_mono hr (Ne.symm hji)) h3 h6 h5⟩
   intro k ok hk hki hun hno
   refine hfree k ok hk hki ?_ hno
   by_cases hjk:j=k
   ·subst hjk;exact hjun
   ·rw[getD_set_ne true hjk]at hun;exact hun
theorem bL {i:Nat} {oi:Oper} {v:Value} {fuel:Nat} {l:Array Bool} {a:Act} {w:World} (p:List Nat) (hi:ops[i]? = some oi) (hch:(chainB md ops st p&&p.contains i&&!(i == st)&&Region.noSelect ops&&Region.free md ops l i&&(Region.ready md ops l).contains i&&aMw md ops l)=true)
  (hQ:∀ c a w,Q (.panic c) (a.put oi.dst v) w→Q (.panic c) a w) (hy:YieldsIf P ops (fun W=>Sy W∧Sp W) oi v a) (hS:Ph st Sy Sp l w)
  (h:lA P md ops Q st Sy Sp fuel (l.setIfInBounds i true) (a.put oi.dst v) w):lA P md ops Q st Sy Sp (fuel+1) l a w:=by
 simp only[Bool.and_eq_true]at hch
 obtain⟨⟨⟨⟨⟨⟨h1,h2⟩,h3⟩,h4⟩,h5⟩,h6⟩,h7⟩:=hch
 exact aBd h1 (by simpa using h2) (by simpa using h3) hi (Region.noSelect_spec h4) hQ fuel l a w (aGn h7) (Region.free_spec hi h5) (by simpa using h6) hy hS h
theorem lW {i:Nat} {o:Oper} {fuel:Nat} {l:Array Bool} {a:Act} {w:World} (hr:Region.ready md ops l=[i]) (ho:ops[i]? = some o)
  (h:∀ K':Act→World→Prop,Shut (∀ a w,Ph st Sy Sp (l.setIfInBounds i true) w→lA P md ops Q st Sy Sp fuel (l.setIfInBounds i true) a w→K' a w)→if Region.wanted o (yielded ops a.tmps)=true then Oper.wp P o a w K' Q else K' (a.put o.dst undef) w):lA P md ops Q st Sy Sp (fuel+1) l a w:=by
 refine⟨fun h0=>(by rw[hr]at h0;cases h0),fun j hj=>?_⟩
 rw[hr]at hj
 have:j=i:=by simpa using hj
 subst this
 exact wpOp_step ho (fun K' hK=>h K' (fun a w hS hW=>hK a w ⟨hS,hW⟩))
theorem Ks {l:Array Bool} {a:Act} {w:World} (hr:Region.ready md ops l=[]) (h:Q .normal a w):∀ fuel,lA P md ops Q st Sy Sp fuel l a w
 | 0=>⟨hr,h⟩
 | _+1=>⟨fun _=>h,by rw[hr];simp⟩
theorem xJ {id:Nat} {a:Act} {w:World} (st:Nat) (Sy Sp:World→Prop) (hm:P.follows .mixedOrders=true)
  (h:lA P .any ops Q st Sy Sp ops.size (Array.replicate ops.size false) a w.drew):(Code.region id ops true).wp P Q a w:=
 wp_region_any hm (Gr _ _ _ _ h)
end
end Go.Proofs.YtpojeinddnjpfaaGreatDoor
