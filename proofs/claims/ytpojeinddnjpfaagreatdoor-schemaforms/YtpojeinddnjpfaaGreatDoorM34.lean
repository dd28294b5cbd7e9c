/-
  Walks and plain words (SkW SkY).
-/
import Derived.Test.YtpojeinddnjpfaaGreatDoorM0
import Derived.Test.YtpojeinddnjpfaaGreatDoorM16
import Derived.Test.YtpojeinddnjpfaaGreatDoorM29
import Derived.Test.YtpojeinddnjpfaaGreatDoorM33
import Derived.Maps.OwnOps
import Derived.Deep.RegionHeldLaw
import Derived.BigQuiet
import Derived.Deep.QuietTactic
namespace Go.Proofs.YtpojeinddnjpfaaGreatDoor
set_option linter.unusedVariables false
open Go.ChangeShapes Go.WideShapes Go.ChangeAt Go.RowKit Go.Maps

theorem Kn (l:List UInt8) (w:World) :
  Calls Tryz.prog 141 #[.string (aC l)] w fun e w'=>e=.returned (.int .i64 (bP l))∧w'=w:=by
 have hl:(aC l).toList=l:=aH l
 go_enter Tryz.func141,Tryz.ntmps141
 go_wp2
 all_goals
  go_ret
  refine⟨aKq ?_,rfl⟩
  unfold bP
  simp_all
def bR (ds:List Dc):List Dc:=ds.filter fun d=>decide (d.kind≠3)
theorem Ko (ds:List Dc) (d:Dc):bR (ds++[d])=bR ds++(if d.kind≠3 then [d] else []):=by
 unfold bR
 rw[List.filter_append]
 by_cases h:d.kind=3 <;> simp[h]
theorem zZ (ds:List Dc):(bR ds).length≤ds.length:=List.length_filter_le _ _
def aGe (f:Nat) (w:World) (ds:List Dc) (e:Ending) (w':World):Prop:=∃ rv,e=.returned rv∧aM (f+1) w' (fun b=>b<w'.heap.size) rv ds∧Below w.heap.size w w'
set_option maxHeartbeats 16000000 in
set_option maxRecDepth 20000 in
theorem Xc (f:Nat) (ds:List Dc) (v:Value) (w:World) (hlen:ds.length≤100000) (hH:aM (f+1) w (fun b=>b<w.heap.size) v ds) :
  Calls Tryz.prog 61 #[v] w fun e w'=>aGe f w (bR ds) e w':=by
 have HH:=aB hH
 obtain⟨ad,cc,rfl⟩:=hH.eI
 obtain⟨n,hn⟩:∃ n,ds.length=n:=⟨_,rfl⟩
 have HN:=aB hn
 rw[hn]at hlen ⊢
 clear hH hn
 go_enter Tryz.func61,Tryz.ntmps61
 go_wp2_with fail
 go_loopw [3,8] (fun u i wr=>∃ (j:Nat) (rs:List (List Value)),i=.int .i64 (j:Int)∧j≤n∧qU f wr w.heap.size (fun b=>b<w.heap.size) u (bR (ds.take j)) rs∧Below w.heap.size w wr) (fun _ i _=>n - (intOf i).toNat)
 case atStart=>exact⟨0,[],rfl,Nat.zero_le _,qU.nil _ _ _ _,Below.refl _ _⟩
 case round=>
  generalize wr=w1 at *
  obtain⟨j,rs,rfl,hj,hD,hbel⟩:=hrel
  obtain⟨pa,pc,hpv⟩:=aO hD.own
  subst hpv
  have HD:=aB hD
  have HB:=aB hbel
  have hsw:=hbel.size
  clear hD hbel
  by_cases hjn:j<n
  ·obtain⟨d,hd⟩:∃ d,ds[j]? = some d:=⟨_,List.getElem?_eq_getElem (by have:=HN.out;omega)⟩
   have hxl:(bR (ds.take j)).length≤j:=Nat.le_trans (zZ _) (by simp;omega)
   have HXN:Hid (bR (ds.take (j+1))=bR (ds.take j)++(if d.kind≠3 then [d] else [])):=by
    refine(?_:_=_)
    rw[aY hd,Ko]
   obtain⟨X,hX⟩:∃ X,bR (ds.take j)=X:=⟨_,rfl⟩
   rw[hX]at HD HXN hxl ⊢
   obtain⟨g,o,c0,fa,fc,va,vc,ma,mc,ia,ic,hsl,hg,e0,e1,e2,e3,e4,e5,e6,e7,kd⟩:=jF HH.out (W:=w1) (fun b hb=>HB.out.block b hb) hd
   rw[HN.out]at hsl
   obtain⟨rfl,rfl⟩:ad=some ⟨g,o,none⟩∧cc=c0:=by
    injection hsl with h1 _ h3
    exact⟨h1,h3⟩
   have hj0:(0:Int)≤(j:Int):=by omega
   have hj1:(j:Int)<(n:Int):=by omega
   have hwq:=eE j (by omega)
   have eO:=aB kd
   have HOW:Hid (∀ b,(Value.slice pa X.length pc).ownBlock=some b→w.heap.size≤b∧b<w1.heap.size):=fun b hb=>aE HD.out.own b hb
   clear hX hsl kd hd
   have hC:(w1.alloc (.cells #[.int .i64 d.kind,.string (aC d.name),.int .i64 d.line,.int .i64 d.col,.slice fa d.fields.length fc,.slice va d.values.length vc,.slice ma d.methods.length mc,.slice ia d.inner.length ic] 69)).heap[w1.heap.size]? = some (.cells #[.int .i64 d.kind,.string (aC d.name),.int .i64 d.line,.int .i64 d.col,.slice fa d.fields.length fc,.slice va d.values.length vc,.slice ma d.methods.length mc,.slice ia d.inner.length ic] 69 (0,0)):=alloc_heap_new _ _
   have bG:Below w1.heap.size w1 (w1.alloc (.cells #[.int .i64 d.kind,.string (aC d.name),.int .i64 d.line,.int .i64 d.col,.slice fa d.fields.length fc,.slice va d.values.length vc,.slice ma d.methods.length mc,.slice ia d.inner.length ic] 69)):=(Below.refl _ w1).alloc (Nat.le_refl _) _
   go_upto_region 5 with fail
   generalize (w1.alloc (.cells #[.int .i64 d.kind,.string (aC d.name),.int .i64 d.line,.int .i64 d.col,.slice fa d.fields.length fc,.slice va d.values.length vc,.slice ma d.methods.length mc,.slice ia d.inner.length ic] 69))=Y at *
   have l0:=aA hC 0 rfl
   have l1:=aA hC 1 rfl
   have l2:=aA hC 2 rfl
   have l3:=aA hC 3 rfl
   have l4:=aA hC 4 rfl
   have l5:=aA hC 5 rfl
   have l6:=aA hC 6 rfl
   have l7:=aA hC 7 rfl
   have cE:=aB (HB.out.trans (bG.mono hsw))
   have Mh:Hid (qU f Y w.heap.size (fun b=>b<w.heap.size) (.slice pa X.length pc) X rs):=HD.out.keep (fun b hb=>bG.block b (HOW.out b hb).2) (fun b hb=>bG.block b (by have hb':b<w.heap.size:=hb;omega)) (fun _ h=>h)
   have yA:Hid (Kids f Y (fun b=>b<w.heap.size) (.slice fa d.fields.length fc) (.slice va d.values.length vc) (.slice ma d.methods.length mc) (.slice ia d.inner.length ic) d):=eO.out.old fun b hb=>bG.block b (by have hb':b<w.heap.size:=hb;omega)
   have hYs:=bG.size
   clear hC bG e0 e1 e2 e3 e4 e5 e6 e7
   by_cases hk:d.kind=3
   ·rw[hk]at l0
    have HXE:Hid (bR (ds.take (j+1))=X):=by
     refine(?_:_=_)
     rw[HXN.out,if_neg (by simp[hk]),List.append_nil]
    clear hk
    go_wp2_with fail
    go_roundw
    case rel=>exact⟨j+1,rs,by go_num,by omega,by rw[HXE.out];exact Mh.out,cE.out⟩
    case measure=>simp[intOf];omega
   ·have hk':(d.kind != 3)=true:=by simp[hk]
    have HXE:Hid (bR (ds.take (j+1))=X++[d]):=by
     refine(?_:_=_)
     rw[HXN.out,if_pos hk]
    go_wp2_with (at_builtin;refine qU.aLw Mh.out (by omega) d _ _ _ _ (fun b=>b<w.heap.size) yA.out (by intro u hu;simp only[eZ,List.mem_cons,List.not_mem_nil,or_false]at hu;rcases hu with rfl | rfl | rfl | rfl | rfl | rfl | rfl | rfl <;> rfl) (fun b hb=>⟨(by have hb':b<w.heap.size:=(hb.elim id id);omega),fun e=>by have:=HOW.out _ e;have hb':b<w.heap.size:=(hb.elim id id);omega⟩) rfl _ _ rfl _ rfl rfl rfl (by omega) ?_)
    intro g2 cap2 W2 hD2 kZ hng hgb
    have HD2:Hid (qU f W2 w.heap.size (fun b=>b<w.heap.size) (.slice (some ⟨g2,0,none⟩) (X.length+1) cap2) (X++[d]) _):=hD2.keep (fun _ _=>rfl) (fun _ _=>rfl) (fun b hb=>by first | exact hb | exact hb.elim id id)
    have HB2:Hid (Below w.heap.size w W2):=cE.out.grown kZ (by omega) (fun b hb=>(HOW.out b hb).1)
    clear hD2 kZ hng l0 l1 l2 l3 l4 l5 l6 l7
    go_wp2_with fail
    go_roundw
    case rel=>exact⟨j+1,_,by go_num,by omega,by rw[HXE.out];exact HD2.out,HB2.out⟩
    case measure=>simp[intOf];omega
  ·have sZ:¬(j:Int)<(n:Int):=by omega
   have hte:ds.take j=ds:=List.take_of_length_le (by have:=HN.out;omega)
   rw[hte]at HD ⊢
   obtain⟨X,hX⟩:∃ X,bR ds=X:=⟨_,rfl⟩
   rw[hX]at HD ⊢
   have HXE:=aB hX
   have Ww:Hid (aM (f+1) w1 (fun b=>b<w1.heap.size) (.slice pa X.length pc) X):=HD.out.held (fun b hb=>by have hb':b<w.heap.size:=hb;omega) (fun b hb=>(aE HD.out.own b hb).2)
   clear hte hX
   go_wp2_with fail
   go_ret
   exact⟨_,rfl,by rw[HXE.out];exact Ww.out,HB.out⟩
def eM (ps:List Pl):Nat→List UInt8→Int
 | 0,_=>0
 | j+1,x=>match ps[j]? with
  | some p=>if (p.2.kind=1∨p.2.kind=2)∧x=p.1 then (dI p.2.kind (ps.take j):Int) else eM ps j x
  | none=>eM ps j x
def eD (w:World) (b:Nat) (ps:List Pl) (j:Nat):Prop:=∃ n D,n≤j∧w.ownsMap (H:=Unit) Tryz.prog 9 (plainElem Tryz.prog 3) b n D∧IsMap D∧∀ x,D.atKey (eQ x) (.lit (.int .i64 0))=.lit (.int .i64 (eM ps j x))
theorem eD.old {w w':World} {b:Nat} {ps:List Pl} {j:Nat} (h:eD w b ps j) (hb:w'.heap[b]? = w.heap[b]?):eD w' b ps j:=by
 obtain⟨n,D,hn,⟨es,cl,h1,h2⟩,h3⟩:=h
 exact⟨n,D,hn,⟨es,cl,hb.trans h1,h2⟩,h3⟩
theorem eD.lt {w:World} {b:Nat} {ps:List Pl} {j:Nat} (h:eD w b ps j):b<w.heap.size:=by
 obtain⟨n,D,hn,⟨es,cl,h1,h2⟩,h3⟩:=h
 exact(Array.getElem?_eq_some_iff.1 h1).1
theorem aGg:(Tryz.prog.info? 3).map (fun i=>(i.zero,i.size,i.bytes))=some (some (.int .i64 0),1,8):=by kernel_rfl
theorem aMm (w:World):(zeroValue 3).run Tryz.prog w=.ok (.int .i64 0) w:=by
 obtain⟨i0,hi0,hz0,-,-⟩:=info_parts aGg
 simp[zeroValue,typeInfo,hi0,hz0]
theorem aMn (x:List UInt8) (hx:x.length≤1000000000000):keyOf Tryz.prog 9 (.string (aC x))=some (eQ x):=by
 have:=Go.WideMaps.keyOf_string_mk (P:=Tryz.prog) (s:=aC x) Tryz.underlying9 (by rw[aV];unfold maxLen;omega)
 simpa [eQ,aC]using this
theorem aAy {a b:Int} (h:(DataW.lit (.int .i64 a):DataW Unit)=.lit (.int .i64 b)):a=b:=by
 injection h with h
 injection h
theorem eD.look {w:World} {b:Nat} {ps:List Pl} {j:Nat} (h:eD w b ps j) (x:List UInt8) (hx:x.length≤1000000000000):(Instr.lookup 125 (.map (some b)) (.string (aC x)) false).run Tryz.prog w=.ok (.int .i64 (eM ps j x)) w:=by
 obtain⟨n,D,hn,hown,-,hD⟩:=h
 obtain⟨c,hrun,hat,-⟩:=hown.lookup_int Be Tryz.underlying125 Tryz.underlying3 (aMm w) (aMn x hx)
 have:eM ps j x=c:=aAy ((hD x).symm.trans hat)
 rw[this];exact hrun
theorem Gn {D:DataW Unit} {ps:List Pl} {j:Nat} {p:Pl} (hm:IsMap D) (hD:∀ x,D.atKey (eQ x) (.lit (.int .i64 0))=.lit (.int .i64 (eM ps j x))) (hp:ps[j]? = some p) (hk:p.2.kind=1∨p.2.kind=2) {c:Nat} (hc:dI p.2.kind (ps.take j)=c) :
  ∀ x,(D.put (eQ p.1) (.lit (.int .i64 (c:Int)))).atKey (eQ x) (.lit (.int .i64 0))=.lit (.int .i64 (eM ps (j+1) x)):=by
 intro x
 have e:eM ps (j+1) x=if (p.2.kind=1∨p.2.kind=2)∧x=p.1 then (dI p.2.kind (ps.take j):Int) else eM ps j x:=by simp only[eM,hp]
 rw[e]
 by_cases hx:x=p.1
 ·subst hx
  rw[atKey_put_same hm (Fc _),if_pos ⟨hk,rfl⟩,hc]
 ·rw[atKey_put_other (fun e=>hx (Fe _ _ e)),hD,if_neg (fun h=>hx h.2)]
theorem Qp {ps:List Pl} {j:Nat} {p:Pl} (hp:ps[j]? = some p) (h1:p.2.kind≠1) (h2:p.2.kind≠2) (x:List UInt8):eM ps (j+1) x=eM ps j x:=by
 simp only[eM,hp]
 rw[if_neg (fun h=>h.1.elim h1 h2)]
def aGh (w:World) (ps:List Pl) (n:Nat) (e:Ending) (w':World):Prop:=∃ b,e=.returned (.map (some b))∧w.heap.size≤b∧eD w' b ps n∧Below w.heap.size w w'
set_option maxHeartbeats 16000000 in
set_option maxRecDepth 20000 in
theorem Qq (f:Nat) (ps:List Pl) (v:Value) (w:World) (hn0:ps.length≤100000) (hm0:∀ x∈ps,x.1.length≤1000000000000) (hH:eJ 9 f w (fun b=>b<w.heap.size) v ps) :
  Calls Tryz.prog 62 #[v] w fun e w'=>aGh w ps ps.length e w':=by
 have HH:=aB hH
 obtain⟨ad,cc,rfl⟩:=hH.cM
 obtain⟨n,hn⟩:∃ n,ps.length=n:=⟨_,rfl⟩
 have HN:=aB hn
 rw[hn]at hn0 ⊢
 have HM:=aB hm0
 clear hH hn hm0
 have hmm:=@run_makeMap Tryz.prog
 go_enter Tryz.func62,Tryz.ntmps62
 go_wp2_with fail
 clear hmm
 go_loopw [4,5,11] (fun a1 a2 i wr=>∃ (j c1 c2:Nat),i=.int .i64 (j:Int)∧a1=.int .i64 (c1:Int)∧a2=.int .i64 (c2:Int)∧j≤n∧dI 1 (ps.take j)=c1∧dI 2 (ps.take j)=c2∧c1≤j∧c2≤j∧eD wr w.heap.size ps j∧Below w.heap.size w wr) (fun _ _ i _=>n - (intOf i).toNat)
 case atStart=>exact⟨0,0,0,rfl,rfl,rfl,Nat.zero_le _,rfl,rfl,Nat.le_refl _,Nat.le_refl _,⟨0,.map [],Nat.le_refl _,World.ownsMap_made _ _ _ _,isMap_empty,fun x=>rfl⟩,(Below.refl _ w).alloc (Nat.le_refl _) _⟩
 case round=>
  generalize wr=w1 at *
  obtain⟨j,c1,c2,rfl,rfl,rfl,hj,hc1,hc2,hb1,hb2,hmap,hbel⟩:=hrel
  have Rx:=aB hc1
  have Hl:=aB hc2
  have Yl:=aB hmap
  have HB:=aB hbel
  have hsw:=hbel.size
  have hl1:=hmap.lt
  clear hc1 hc2 hmap hbel
  by_cases hjn:j<n
  ·obtain⟨x,hx⟩:∃ x,ps[j]? = some x:=⟨_,List.getElem?_eq_getElem (by have:=HN.out;omega)⟩
   have hxl:=HM.out x (List.mem_of_getElem? hx)
   have yK:Hid (dI 1 (ps.take (j+1))=c1+if x.2.kind=1 then 1 else 0):=by
    refine(?_:_=_)
    rw[aY hx,gC,Rx.out]
   have yL:Hid (dI 2 (ps.take (j+1))=c2+if x.2.kind=2 then 1 else 0):=by
    refine(?_:_=_)
    rw[aY hx,gC,Hl.out]
   have hkey:=aMn x.1 hxl
   have hw1:=eE c1 (by omega)
   have hw2:=eE c2 (by omega)
   have vH:=aB hx
   obtain⟨g,o,c0,fa,fc,va,vc,ma,mc,ia,ic,hsl,hg,e0,e1,e2,e3,e4,e5,e6,e7,e8,kd⟩:=lP HH.out (W:=w1) (fun b hb=>HB.out.block b hb) hx
   rw[HN.out]at hsl
   obtain⟨rfl,rfl⟩:ad=some ⟨g,o,none⟩∧cc=c0:=by
    injection hsl with h1 _ h3
    exact⟨h1,h3⟩
   have hj0:(0:Int)≤(j:Int):=by omega
   have hj1:(j:Int)<(n:Int):=by omega
   have hwq:=eE j (by omega)
   have eO:=aB kd
   clear hsl kd
   have hC:(w1.alloc (.cells #[.int .i64 x.2.kind,.string (aC x.2.name),.int .i64 x.2.line,.int .i64 x.2.col,.slice fa x.2.fields.length fc,.slice va x.2.values.length vc,.slice ma x.2.methods.length mc,.slice ia x.2.inner.length ic,.string (aC x.1)] 117)).heap[w1.heap.size]? = some (.cells #[.int .i64 x.2.kind,.string (aC x.2.name),.int .i64 x.2.line,.int .i64 x.2.col,.slice fa x.2.fields.length fc,.slice va x.2.values.length vc,.slice ma x.2.methods.length mc,.slice ia x.2.inner.length ic,.string (aC x.1)] 117 (0,0)):=alloc_heap_new _ _
   have bG:Below w1.heap.size w1 (w1.alloc (.cells #[.int .i64 x.2.kind,.string (aC x.2.name),.int .i64 x.2.line,.int .i64 x.2.col,.slice fa x.2.fields.length fc,.slice va x.2.values.length vc,.slice ma x.2.methods.length mc,.slice ia x.2.inner.length ic,.string (aC x.1)] 117)):=(Below.refl _ w1).alloc (Nat.le_refl _) _
   go_upto_region 6 with fail
   generalize (w1.alloc (.cells #[.int .i64 x.2.kind,.string (aC x.2.name),.int .i64 x.2.line,.int .i64 x.2.col,.slice fa x.2.fields.length fc,.slice va x.2.values.length vc,.slice ma x.2.methods.length mc,.slice ia x.2.inner.length ic,.string (aC x.1)] 117))=Y at *
   have l0:=aA hC 0 rfl
   have l1:=aA hC 1 rfl
   have l2:=aA hC 2 rfl
   have l3:=aA hC 3 rfl
   have l4:=aA hC 4 rfl
   have l5:=aA hC 5 rfl
   have l6:=aA hC 6 rfl
   have l7:=aA hC 7 rfl
   have l8:=aA hC 8 rfl
   have cE:=aB (HB.out.trans (bG.mono hsw))
   have tU:Hid (eD Y w.heap.size ps j):=Yl.out.old (bG.block _ hl1)
   have hYs:=bG.size
   clear hC bG e0 e1 e2 e3 e4 e5 e6 e7 e8
   by_cases hk:x.2.kind=1
   ·obtain⟨nn,D,hnn,hown,Ce,hDD⟩:=tU.out
    have HOWN:=aB hown
    have aGj:=aB (Gn (c:=c1) Ce hDD vH.out (.inl hk) (by rw[hk];exact Rx.out))
    have aGk:=aB (Ce.put (eQ x.1) (.lit (.int .i64 (c1:Int))))
    have Ob:Hid (dI 1 (ps.take (j+1))=c1+1):=by
     refine(?_:_=_)
     rw[yK.out];simp[hk]
    have Ie:Hid (dI 2 (ps.take (j+1))=c2):=by
     refine(?_:_=_)
     rw[yL.out];simp[hk]
    rw[hk]at l0
    clear hk hown Ce hDD
    go_wp2_with (at_mapUpdate;refine wpList_mapUpdate_own _ rfl _ _ _ 125 rfl 9 3 Be Tryz.underlying125 _ w.heap.size nn D rfl HOWN.out (by unfold maxLen;omega) _ _ _ rfl rfl hkey _ [] (plainElem_int Tryz.underlying3 (WalkArith.wf_i64 (by omega))) ?_)
    intro w5 hown5 hgr5
    have HM5:Hid (eD w5 w.heap.size ps (j+1)):=⟨nn+1,_,by omega,hown5,aGk.out,aGj.out⟩
    have Px:Hid (Below w.heap.size w w5):=cE.out.grown hgr5 (by omega) (fun b hb=>by cases hb;exact Nat.le_refl _)
    clear hown5 hgr5
    go_wp2_with fail
    go_roundw
    case rel=>exact⟨j+1,_,_,by go_num,by go_num,by go_num,by omega,Ob.out,Ie.out,by omega,by omega,HM5.out,Px.out⟩
    case measure=>simp[intOf];omega
   by_cases hk2:x.2.kind=2
   ·have hk:=hk2
    clear hk2
    obtain⟨nn,D,hnn,hown,Ce,hDD⟩:=tU.out
    have HOWN:=aB hown
    have aGj:=aB (Gn (c:=c2) Ce hDD vH.out (.inr hk) (by rw[hk];exact Hl.out))
    have aGk:=aB (Ce.put (eQ x.1) (.lit (.int .i64 (c2:Int))))
    have Ob:Hid (dI 1 (ps.take (j+1))=c1):=by
     refine(?_:_=_)
     rw[yK.out];simp[hk]
    have Ie:Hid (dI 2 (ps.take (j+1))=c2+1):=by
     refine(?_:_=_)
     rw[yL.out];simp[hk]
    rw[hk]at l0
    clear hk hown Ce hDD
    go_wp2_with (at_mapUpdate;refine wpList_mapUpdate_own _ rfl _ _ _ 125 rfl 9 3 Be Tryz.underlying125 _ w.heap.size nn D rfl HOWN.out (by unfold maxLen;omega) _ _ _ rfl rfl hkey _ [] (plainElem_int Tryz.underlying3 (WalkArith.wf_i64 (by omega))) ?_)
    intro w5 hown5 hgr5
    have HM5:Hid (eD w5 w.heap.size ps (j+1)):=⟨nn+1,_,by omega,hown5,aGk.out,aGj.out⟩
    have Px:Hid (Below w.heap.size w w5):=cE.out.grown hgr5 (by omega) (fun b hb=>by cases hb;exact Nat.le_refl _)
    clear hown5 hgr5
    go_wp2_with fail
    go_roundw
    case rel=>exact⟨j+1,_,_,by go_num,by go_num,by go_num,by omega,Ob.out,Ie.out,by omega,by omega,HM5.out,Px.out⟩
    case measure=>simp[intOf];omega
   ·have h1':(x.2.kind == 1)=false:=by simp[hk]
    have h2':(x.2.kind == 2)=false:=by simp[hk2]
    have Ob:Hid (dI 1 (ps.take (j+1))=c1):=by
     refine(?_:_=_)
     rw[yK.out];simp[hk]
    have Ie:Hid (dI 2 (ps.take (j+1))=c2):=by
     refine(?_:_=_)
     rw[yL.out];simp[hk2]
    have HM5:Hid (eD Y w.heap.size ps (j+1)):=by
     obtain⟨nn,D,hnn,hown,Ce,hDD⟩:=tU.out
     exact⟨nn,D,by omega,hown,Ce,fun y=>by rw[hDD,Qp vH.out hk hk2]⟩
    go_wp2_with fail
    go_roundw
    case rel=>exact⟨j+1,_,_,by go_num,rfl,rfl,by omega,Ob.out,Ie.out,by omega,by omega,HM5.out,cE.out⟩
    case measure=>simp[intOf];omega
  ·have sZ:¬(j:Int)<(n:Int):=by omega
   have pD:j=n:=by omega
   have HJE:=aB pD
   clear pD hjn
   go_wp2_with fail
   go_ret
   exact⟨w.heap.size,rfl,Nat.le_refl _,by rw[←HJE.out];exact Yl.out,HB.out⟩
def Xd (f:Nat) (types:List Dc) (ps:List Pl) (n:Nat) (whole ty:List UInt8):Option (Int × Int):=if bP ty=0 then (match iN (f+1) types whole ty with
  | some t=>some (if t.2=1 then 10 else 9,eM ps n t.1)
  | none=>none) else some (bP ty,0)
def Qr (f:Nat) (types:List Dc) (ps:List Pl) (n:Nat) (path:List UInt8):Option Int:=match iN (f+1) types [] path with
 | some t=>if t.2=1 then some (eM ps n t.1) else none
 | none=>none
def aMp (r:Option (Int × Int)) (w:World) (e:Ending) (w':World):Prop:=∃ k m b,e=.returned (.tuple #[.int .i64 k,.int .i64 m,.bool b])∧((b=true∧r=some (k,m))∨(b=false∧r=none))∧Below w.heap.size w w'
def aMq (r:Option Int) (w:World) (e:Ending) (w':World):Prop:=∃ m b,e=.returned (.tuple #[.int .i64 m,.bool b])∧((b=true∧r=some m)∨(b=false∧r=none))∧Below w.heap.size w w'
structure Bl (f:Nat) (w:World) (B mb:Nat) (tv m e t:Value) (types:List Dc) (ps:List Pl) (n:Nat):Prop where
 cells:w.heap[B]? = some (.cells #[tv,.map (some mb),m,e,t] 128 (0,0))
 held:∃ S:Nat→Prop,(∀ b,S b→b<w.heap.size)∧aM (f+1) w S tv types
 nums:eD w mb ps n
set_option maxHeartbeats 8000000 in
set_option maxRecDepth 20000 in
theorem aAz (f:Nat) (types:List Dc) (ps:List Pl) (n B mb:Nat) (tv m e t:Value) (whole ty:List UInt8) (w:World) (hct:mO (f+1) types≤100000) (hfit:iV (f+1) types) (mP:lL (f+1) types) (hwl:whole.length≤1000000000000) (htl:ty.length≤200000000)
  (hsy:∀ y:Sy,iN (f+1) types whole ty=some y→y.1.length≤1000000000000) (hB:Bl f w B mb tv m e t types ps n) :
  Calls Tryz.prog 100 #[.pointer (some ⟨B,0,none⟩),.string (aC whole),.string (aC ty)] w fun e w'=>aMp (Xd f types ps n whole ty) w e w':=by
 obtain⟨hc,⟨S,hS,hH⟩,hN⟩:=hB
 obtain⟨ta,tc,rfl⟩:=hH.eI
 have HR:Hid (Xd f types ps n whole ty=if bP ty=0 then (match iN (f+1) types whole ty with
  | some t=>some (if t.2=1 then 10 else 9,eM ps n t.1)
  | none=>none) else some (bP ty,0)):=rfl
 generalize Xd f types ps n whole ty=RES at *
 have hplain:=fun W=>Kn ty W
 obtain⟨sk,hsk⟩:∃ k,bP ty=k:=⟨_,rfl⟩
 rw[hsk]at hplain HR
 have bEv:0≤sk:=by
  rw[←hsk];unfold bP
  repeat' split
  all_goals omega
 have hfind:=Gm f types _ whole ty S w hct hfit mP hwl htl hH hS
 have c0:=aA hc 0 rfl
 have HC:=aB hc
 have xS:=aB hN
 have Um:=aB hsy
 have hBl:=aN hc
 have hml:=hN.lt
 clear hsk hc hN hsy hH hS
 by_cases hs0:sk=0
 ·subst hs0
  have hz:¬(0:Int)<0:=by omega
  rw[if_pos rfl]at HR
  go_enter Tryz.func100,Tryz.ntmps100
  go_wp2_with fail
  refine(hplain _).mono ?_
  rintro e W1 ⟨rfl,h1⟩
  have h1:=h1.symm
  subst h1
  clear hplain
  go_wp2_with fail
  refine hfind.mono ?_
  rintro e W2 ⟨Xe,hb2⟩
  obtain⟨s,k,b,rfl,hsx⟩:=Xe.one
  have hV:(W2.alloc (.cells #[.string s,.int .i64 k] 115)).heap[W2.heap.size]? = some (.cells #[.string s,.int .i64 k] 115 (0,0)):=alloc_heap_new _ _
  have dO:Below W2.heap.size W2 (W2.alloc (.cells #[.string s,.int .i64 k] 115)):=(Below.refl _ W2).alloc (Nat.le_refl _) _
  have Cq:=hb2.size
  go_upto_region 5 with fail
  generalize (W2.alloc (.cells #[.string s,.int .i64 k] 115))=Y at *
  have gE:Below w.heap.size w Y:=hb2.trans (dO.mono Cq)
  have cE:=aB gE
  have hcY:Y.heap[B]? = _:=(gE.block _ hBl).trans HC.out
  have hnY:eD Y mb ps n:=xS.out.old (gE.block _ hml)
  have y1:=aA hcY 1 rfl
  have v0:=aA hV 0 rfl
  have v1:=aA hV 1 rfl
  have Yh:=aB hsx
  clear hV dO gE hcY hsx Xe hfind hb2 c0
  cases b
  case false=>
   have qR:Hid (RES=none):=by
    refine(?_:_=_)
    rcases Yh.out with ⟨h,_⟩ | ⟨_,h,_⟩
    ·cases h
    ·rw[HR.out,h]
   clear y1 v0 v1
   go_wp2_with fail
   go_ret3
   exact⟨0,0,false,rfl,.inr ⟨rfl,qR.out⟩,cE.out⟩
  case true=>
   obtain⟨y,hy,rfl,rfl⟩:∃ y:Sy,iN (f+1) types whole ty=some y∧s=aC y.1∧k=y.2:=by
    rcases Yh.out with ⟨_,y,h⟩ | ⟨h,_⟩
    ·exact⟨y,h⟩
    ·cases h
   have hyl:=Um.out y hy
   have yB:Hid (RES=some (if y.2=1 then 10 else 9,eM ps n y.1)):=by
    refine(?_:_=_)
    rw[HR.out,hy]
   have hk0:=hnY.look y.1 hyl
   have hk1:(Instr.lookup 125 (.map (some mb)) (.string (aC y.1)) false).run Tryz.prog Y.drew=_:=(eD.old (w':=Y.drew) hnY rfl).look y.1 hyl
   obtain⟨NUM,Xf⟩:∃ k,eM ps n y.1=k:=⟨_,rfl⟩
   rw[Xf]at hk0 hk1 yB
   clear hnY hy Xf HR Yh hyl
   by_cases hy1:y.2=1
   ·rw[hy1]at v1
    rw[if_pos hy1]at yB
    clear hy1
    go_upto_region 10 with fail
    go_region
    all_goals
     go_wp2_with fail
     go_ret3
     exact⟨10,NUM,true,rfl,.inl ⟨rfl,yB.out⟩,by first | exact cE.out | exact cE.out.drew⟩
   ·have aVm:(y.2 == 1)=false:=by simp[hy1]
    rw[if_neg hy1]at yB
    go_upto_region 10 with fail
    go_region
    all_goals
     go_wp2_with fail
     go_ret3
     exact⟨9,NUM,true,rfl,.inl ⟨rfl,yB.out⟩,by first | exact cE.out | exact cE.out.drew⟩
 ·have hz:(0:Int)<sk:=by omega
  rw[if_neg hs0]at HR
  go_enter Tryz.func100,Tryz.ntmps100
  go_wp2_with fail
  refine(hplain _).mono ?_
  rintro e W1 ⟨rfl,h1⟩
  have h1:=h1.symm
  subst h1
  go_wp2_with fail
  go_ret3
  exact⟨sk,0,true,rfl,.inl ⟨rfl,HR.out⟩,Below.refl _ _⟩
set_option maxHeartbeats 8000000 in
set_option maxRecDepth 20000 in
theorem Nd (f:Nat) (types:List Dc) (ps:List Pl) (n B mb:Nat) (tv m e t:Value) (path:List UInt8) (w:World) (hct:mO (f+1) types≤100000) (hfit:iV (f+1) types) (mP:lL (f+1) types) (htl:path.length≤200000000)
  (hsy:∀ y:Sy,iN (f+1) types [] path=some y→y.1.length≤1000000000000) (hB:Bl f w B mb tv m e t types ps n) :
  Calls Tryz.prog 105 #[.pointer (some ⟨B,0,none⟩),.string (aC path)] w fun e w'=>aMq (Qr f types ps n path) w e w':=by
 obtain⟨hc,⟨S,hS,hH⟩,hN⟩:=hB
 obtain⟨ta,tc,rfl⟩:=hH.eI
 have HR:Hid (Qr f types ps n path=match iN (f+1) types [] path with
 | some t=>if t.2=1 then some (eM ps n t.1) else none
 | none=>none):=rfl
 generalize Qr f types ps n path=RES at *
 have hfind:=Gm f types _ [] path S w hct hfit mP (by simp) htl hH hS
 have c0:=aA hc 0 rfl
 have HC:=aB hc
 have xS:=aB hN
 have Um:=aB hsy
 have hBl:=aN hc
 have hml:=hN.lt
 clear hc hN hsy hH hS
 go_enter Tryz.func105,Tryz.ntmps105
 go_wp2_with fail
 refine hfind.mono ?_
 rintro e W2 ⟨Xe,hb2⟩
 obtain⟨s,k,b,rfl,hsx⟩:=Xe.one
 have hV:(W2.alloc (.cells #[.string s,.int .i64 k] 115)).heap[W2.heap.size]? = some (.cells #[.string s,.int .i64 k] 115 (0,0)):=alloc_heap_new _ _
 have dO:Below W2.heap.size W2 (W2.alloc (.cells #[.string s,.int .i64 k] 115)):=(Below.refl _ W2).alloc (Nat.le_refl _) _
 have Cq:=hb2.size
 go_upto_region 2 with fail
 generalize (W2.alloc (.cells #[.string s,.int .i64 k] 115))=Y at *
 have gE:Below w.heap.size w Y:=hb2.trans (dO.mono Cq)
 have cE:=aB gE
 have hcY:Y.heap[B]? = _:=(gE.block _ hBl).trans HC.out
 have hnY:eD Y mb ps n:=xS.out.old (gE.block _ hml)
 have y1:=aA hcY 1 rfl
 have v0:=aA hV 0 rfl
 have v1:=aA hV 1 rfl
 have Yh:=aB hsx
 clear hV dO gE hcY hsx Xe hfind hb2 c0
 cases b
 case false=>
  have qR:Hid (RES=none):=by
   refine(?_:_=_)
   rcases Yh.out with ⟨h,_⟩ | ⟨_,h,_⟩
   ·cases h
   ·rw[HR.out,h]
  clear y1 v0 v1
  go_wp2_with fail
  go_ret2
  exact⟨0,false,rfl,.inr ⟨rfl,qR.out⟩,cE.out⟩
 case true=>
  obtain⟨y,hy,rfl,rfl⟩:∃ y:Sy,iN (f+1) types [] path=some y∧s=aC y.1∧k=y.2:=by
   rcases Yh.out with ⟨_,y,h⟩ | ⟨h,_⟩
   ·exact⟨y,h⟩
   ·cases h
  have hyl:=Um.out y hy
  have yB:Hid (RES=if y.2=1 then some (eM ps n y.1) else none):=by
   refine(?_:_=_)
   rw[HR.out,hy]
  have hk0:=hnY.look y.1 hyl
  have hk1:(Instr.lookup 125 (.map (some mb)) (.string (aC y.1)) false).run Tryz.prog Y.drew=_:=(eD.old (w':=Y.drew) hnY rfl).look y.1 hyl
  obtain⟨NUM,Xf⟩:∃ k,eM ps n y.1=k:=⟨_,rfl⟩
  rw[Xf]at hk0 hk1 yB
  clear hnY hy Xf HR Yh hyl
  by_cases hy1:y.2=1
  ·rw[hy1]at v1
   rw[if_pos hy1]at yB
   clear hy1
   go_upto_region 4 with fail
   go_region
   all_goals
    go_wp2_with fail
    go_ret2
    exact⟨NUM,true,rfl,.inl ⟨rfl,yB.out⟩,by first | exact cE.out | exact cE.out.drew⟩
  ·have aVm:(y.2 != 1)=true:=by simp[hy1]
   rw[if_neg hy1]at yB
   clear y1 v0 hk0 hk1
   go_wp2_with fail
   go_ret2
   exact⟨0,false,rfl,.inr ⟨rfl,yB.out⟩,cE.out⟩
end Go.Proofs.YtpojeinddnjpfaaGreatDoor
