/-
  Walks and plain words (SxA).
-/
import Derived.Test.YtpojeinddnjpfaaGreatDoorM0
import Derived.Test.YtpojeinddnjpfaaGreatDoorM13
import Derived.Test.YtpojeinddnjpfaaGreatDoorM17
import Derived.Test.YtpojeinddnjpfaaGreatDoorM30
import Derived.Test.YtpojeinddnjpfaaGreatDoorM15
import Derived.Laws.AppendOwnNone
import Derived.Deep.RegionLaw
import Derived.Deep.RegionHeldLaw
namespace Go.Proofs.YtpojeinddnjpfaaGreatDoor
set_option linter.unusedVariables false


end Go.Proofs.YtpojeinddnjpfaaGreatDoor
namespace Go.Proofs.YtpojeinddnjpfaaGreatDoor
set_option linter.unusedVariables false
open Go.ChangeShapes Go.WideShapes Go.ChangeAt Go.RowKit

theorem kU (a b:List UInt8):aC (a++b)=aC a++aC b:=by
 apply ByteArray.ext
 rw[ByteArray.data_append]
 apply Array.ext'
 rw[Array.toList_append]
 rfl
def oH (x:Sy):List Value:=[.string (aC x.1),.int .i64 x.2]
theorem aFw:(Tryz.prog.info? 115).map (fun i=>(i.zero,i.size,i.bytes))=some (some (.agg #[.string ⟨#[]⟩,.int .i64 0]),2,24):=by kernel_rfl
section
variable {T t:TypeId} {base:Nat} {wx:World} {v:Value} {xs:List Sy}
theorem Wq (ht:Tryz.prog.underlying t=some (.slice T)) (hin:(Tryz.prog.info? T).map (fun i=>(i.zero,i.size,i.bytes))=some (some (.agg #[.string ⟨#[]⟩,.int .i64 0]),2,24))
  (h:wx.ownsRow base T 2 v xs.length (xs.flatMap oH)) (hb0:base≤wx.heap.size) (x:Sy) {ops:Array Oper} {o:Oper} {a:Act} {K:Act→World→Prop} {Q:Exit→Act→World→Prop} {E:Prop} (hgd:o.guard=none) (s' x':Operand)
  (ho:o.op=.call { callee:=.builtin .append,args:=#[s',x'],argTypes:=#[t,t] }) (nO:Array Value) (hcs:nO=(oH x).toArray)
  (hs:a.eval s'=v) (hx:a.eval x'=.slice (some ⟨wx.heap.size,0,none⟩) 1 1) (hbd:xs.length≤100000)
  (hk:∀ g cap W,W.ownsRow base T 2 (.slice (some ⟨g,0,none⟩) (xs.length+1) cap) (xs++[x]).length ((xs++[x]).flatMap oH)→wx.grownBy W v.ownBlock→(v.ownBlock=some g∨wx.heap.size≤g)→K (a.put o.dst (.slice (some ⟨g,0,none⟩) (xs.length+1) cap)) W) :
  if Region.wanted o (yielded ops a.tmps)=true then Oper.wp Tryz.prog o a (wx.alloc (.cells nO T)) K Q else E:=by
 subst hcs
 obtain⟨i0,hi0,hz0,hz1,hz2⟩:=info_parts hin
 refine step_append_lies _ hgd s' x' t ho base T i0 _ 2 24 ht hi0 hz0 hz1 hz2 rfl (by decide) v xs.length (xs.flatMap oH) hs (World.ownsRow.alloc h _) ⟨wx.heap.size,0,none⟩ 1 1 (oH x) hx rfl ?_ (by intro u hu;simp only[oH,List.mem_cons,List.not_mem_nil,or_false]at hu;rcases hu with rfl | rfl <;> rfl) (by decide) (by unfold maxLen;omega) (by omega) (by simp;omega) _ rfl ?_
 ·exact World.news_of_block (cs:=(oH x).toArray) (t:=T) (fr:=(0,0)) (by show (wx.heap.push _)[wx.heap.size]? = _;simp)
 ·intro g cap W hown hg hat hlt
  refine hk g cap W ?_ ((World.grownBy_alloc _ _ _).trans hg) (hat.imp id fun e=>by rw[e];simp)
  rw[List.length_append,List.flatMap_append]
  simpa using hown
end
theorem aLy {T:TypeId} {base:Nat} {w W:World} {v:Value} {xs:List Sy} (h:w.ownsRow base T 2 v xs.length (xs.flatMap oH)) (hW:∀ b,v.ownBlock=some b→W.heap[b]? = w.heap[b]?) {q:Nat} {x:Sy} (hx:xs[q]? = some x) :
  ∃ g c,v=.slice (some ⟨g,0,none⟩) xs.length c∧base≤g∧g<w.heap.size∧W.cell? ⟨g,q*2,none⟩=some (.string (aC x.1))∧W.cell? ⟨g,q*2+1,none⟩=some (.int .i64 x.2):=by
 have hq:=(List.getElem?_eq_some_iff.1 hx).1
 obtain⟨kl,⟨ku,k0⟩ | ⟨g,cap,cur,ku,hg,hh,h3,h4,h5,h6⟩⟩:=h
 ·omega
 ·have hb:=hW g (by rw[ku];rfl)
  have key:∀ i u,(oH x)[i]? = some u→i<2→W.cell? ⟨g,q*2+i,none⟩=some u:=by
   intro i u hu hi
   have e:=rA (k:=2) (row:=oH) (fun _=>rfl) xs q x i hi hx
   rw[←h6,List.getElem?_take,if_pos (by omega),hu]at e
   rw[World.cell?_of_block hb]
   simp only[World.cell?,hh]
   simpa using e
  exact⟨g,cap,ku,hg,(Array.getElem?_eq_some_iff.1 hh).1,key 0 _ rfl (by decide),key 1 _ rfl (by decide)⟩
theorem lV:∀ (f:Nat) (a:List UInt8) (ds:List Dc),(cK f a ds).length≤mO f ds
 | 0,a,ds=>by simp[cK]
 | f+1,a,[]=>by simp[cK]
 | f+1,a,d :: t=>by
  rw[sS,oG]
  have h1:=lV f (a++d.name++[46]) d.inner
  have h2:=lV (f+1) a t
  simp only[List.length_cons,List.length_append]
  unfold ctD
  omega
theorem Bv (f:Nat) (ds:List Dc) {j:Nat} {d:Dc} (hd:ds[j]? = some d):mO (f+1) (ds.take j)+ctD f d≤mO (f+1) ds:=by
 have e:ds=ds.take j++d :: ds.drop (j+1):=by
  have hj:=(List.getElem?_eq_some_iff.1 hd).1
  have:=(List.getElem?_eq_some_iff.1 hd).2
  rw[←this,←List.drop_eq_getElem_cons hj,List.take_append_drop]
 have key:∀ a b:List Dc,mO (f+1) (a++b)=mO (f+1) a+mO (f+1) b:=by
  intro a b
  simp[mO]
 rw[e,key,oG]
 rw[←e]
 omega
theorem Wr (f:Nat) (a:List UInt8) (ds:List Dc) {j:Nat} {d:Dc} (hd:ds[j]? = some d):cK (f+1) a (ds.take (j+1))=cK (f+1) a (ds.take j)++[(a++d.name,d.kind)]++cK f (a++d.name++[46]) d.inner:=by
 rw[List.take_add_one,hd]
 exact Ow f a d (ds.take j)
end Go.Proofs.YtpojeinddnjpfaaGreatDoor
namespace Go.Proofs.YtpojeinddnjpfaaGreatDoor
set_option linter.unusedVariables false
open Go.ChangeShapes Go.WideShapes Go.ChangeAt Go.RowKit

theorem Bw (l:List UInt8) (k:Nat):(aC l).extract 0 k=aC (l.take k):=by
 apply ByteArray.ext
 rw[ByteArray.data_extract]
 apply Array.ext'
 rw[Array.toList_extract]
 show List.extract l 0 k=l.take k
 rw[List.extract_eq_take_drop];simp
theorem Bx (l:List UInt8) (k:Nat):(aC l).extract k (aC l).size=aC (l.drop k):=by
 apply ByteArray.ext
 rw[ByteArray.data_extract,aV]
 apply Array.ext'
 rw[Array.toList_extract]
 show List.extract l k l.length=l.drop k
 rw[List.extract_eq_take_drop]
 exact List.take_of_length_le (by simp)
theorem aDb (l:List UInt8) (k:Nat) (hk:k≤l.length) (W:World):(Instr.slice 9 (.string (aC l)) none (some (.int .i64 (k:Int))) none).run Tryz.prog W=.ok (.string (aC (l.take k))) W:=by
 rw[run_slice_string_to_if W 9 _ .i64 (k:Int) Tryz.underlying9,if_pos ⟨by omega,by rw[aV];omega⟩,Int.toNat_natCast,Bw]
theorem Nc (l:List UInt8) (k:Nat) (hk:k≤l.length) (W:World):(Instr.slice 9 (.string (aC l)) (some (.int .i64 (k:Int))) none none).run Tryz.prog W=.ok (.string (aC (l.drop k))) W:=by
 rw[run_slice_string_from_if W 9 _ .i64 (k:Int) Tryz.underlying9,if_pos ⟨by omega,by rw[aV];omega⟩,Int.toNat_natCast,Bx]
set_option maxHeartbeats 16000000 in
set_option maxRecDepth 20000 in
theorem yI:∀ (f:Nat) (ds:List Dc) (v:Value) (a:List UInt8) (base:Nat) (ov:Value) (xs:List Sy) (w:World),iV f ds→lL f ds→a.length+200000001*mO f ds≤1000000000000→xs.length+mO f ds≤50000→aM f w (fun b=>b<base) v ds→base≤w.heap.size→
  w.ownsRow base 115 2 ov xs.length (xs.flatMap oH)→
  Calls Tryz.prog 99 #[ov,.agg #[.string (aC a),v]] w fun e w'=>∃ rv,e=.returned rv∧w'.ownsRow base 115 2 rv (xs++cK f a ds).length ((xs++cK f a ds).flatMap oH)∧w.grownBy w' ov.ownBlock∧∀ b,rv.ownBlock=some b→ov.ownBlock=some b∨w.heap.size≤b:=by
 intro f
 induction f with
 | zero=>
  rintro ds v a base ov xs w _ _ _ _ ⟨rfl,ad,c,rfl⟩ hbw hown
  have HO:=aB hown
  obtain⟨oa,oc,rfl⟩:=aO hown
  clear hown
  go_enter Tryz.func99,Tryz.ntmps99
  go_upto_region 1 with fail
  have hV:(w.alloc (.cells #[.string (aC a),.slice ad 0 c] 173)).heap[w.heap.size]? = some (.cells #[.string (aC a),.slice ad 0 c] 173 (0,0)):=alloc_heap_new _ _
  have HG:=aB (World.grownBy_alloc w (.cells #[.string (aC a),.slice ad 0 c] 173) (Value.slice oa xs.length oc).ownBlock)
  have HOV:=aB (HO.out.alloc (.cells #[.string (aC a),.slice ad 0 c] 173))
  generalize (w.alloc (.cells #[.string (aC a),.slice ad 0 c] 173))=V at *
  have c1:=aA hV 1 rfl
  go_wp2_with fail
  go_loopw [0,11] (fun v i wr=>v=.slice oa xs.length oc∧i=.int .i64 0∧wr=V) (fun _ _ _=>0)
  case atStart=>exact⟨rfl,rfl,rfl⟩
  case round=>
   obtain⟨rfl,rfl,hwr⟩:=hrel
   subst hwr
   go_wp2_with fail
   go_ret
   exact⟨_,rfl,by rw[show cK 0 a []=[] from rfl,List.append_nil];exact HOV.out,HG.out,fun b hb=>.inl hb⟩
 | succ f ih=>
  intro ds v a base ov xs w hfit mP hbd hxc hH hbw hown
  have rQ:=aB hfit
  have HTX:=aB mP
  have HH:=aB hH
  have hlen:=hfit.1
  have vD:=aB hbd
  have HXC:=aB hxc
  have HO:=aB hown
  obtain⟨ad,c,rfl⟩:=hH.eI
  obtain⟨oa,oc,rfl⟩:=aO hown
  obtain⟨n,hn⟩:∃ n,ds.length=n:=⟨_,rfl⟩
  have HN:=aB hn
  rw[hn]at hlen ⊢
  clear hfit mP hbd hH hn hown hxc
  obtain⟨OB,Yg⟩:∃ x,(Value.slice oa xs.length oc).ownBlock=x:=⟨_,rfl⟩
  have qK:Hid (∀ b,OB=some b→base≤b∧b<w.heap.size):=fun b hb=>aE HO.out b (Yg.trans hb)
  rw[Yg]
  have HEB:=aB Yg
  obtain⟨Z,hZ⟩:∃ Z,xs++cK (f+1) a ds=Z:=⟨_,rfl⟩
  have HZ:=aB hZ
  rw[hZ]
  clear Yg hZ
  go_enter Tryz.func99,Tryz.ntmps99
  go_upto_region 1 with fail
  have hV:(w.alloc (.cells #[.string (aC a),.slice ad n c] 173)).heap[w.heap.size]? = some (.cells #[.string (aC a),.slice ad n c] 173 (0,0)):=alloc_heap_new _ _
  have sB:=aB (World.grownBy_alloc w (.cells #[.string (aC a),.slice ad n c] 173) OB)
  have HOV:=aB (HO.out.alloc (.cells #[.string (aC a),.slice ad n c] 173))
  have iH:(w.alloc (.cells #[.string (aC a),.slice ad n c] 173)).heap.size=w.heap.size+1:=by simp
  generalize (w.alloc (.cells #[.string (aC a),.slice ad n c] 173))=V at *
  have c1:=aA hV 1 rfl
  have iA:=aB hV
  have Sz:=aB iH
  clear hV iH
  go_wp2_with fail
  clear c1
  go_loopw [0,11] (fun v i wr=>∃ j:Nat,i=.int .i64 (j:Int)∧j≤n∧V.grownBy wr OB∧(∀ b,v.ownBlock=some b→OB=some b∨w.heap.size+1≤b)∧wr.ownsRow base 115 2 v (xs++cK (f+1) a (ds.take j)).length ((xs++cK (f+1) a (ds.take j)).flatMap oH)) (fun _ i _=>n - (intOf i).toNat)
  case atStart=>exact⟨0,rfl,by omega,World.grownBy.refl _ _,fun b hb=>.inl (HEB.out.symm.trans hb),by rw[List.take_zero,show cK (f+1) a []=[] from rfl,List.append_nil];exact HOV.out⟩
  case round=>
   generalize wr=w1 at *
   obtain⟨j,rfl,hj,hgr,hat,hown⟩:=hrel
   obtain⟨pa,pc,hov⟩:=aO hown
   subst hov
   have HO1:=aB hown
   have HG:=aB hgr
   have HAT:=aB hat
   have hs1:w.heap.size+1≤w1.heap.size:=by have:=hgr.size;rw[Sz.out]at this;exact this
   have oY:Hid (w1.heap[w.heap.size]? = some (.cells #[.string (aC a),.slice ad n c] 173 (0,0))):=by
    refine(?_:_=_)
    rw[hgr.block w.heap.size (by rw[Sz.out];omega) (fun e=>by have:=qK.out w.heap.size e.symm;omega)];exact iA.out
   have HOLD:Hid (∀ b,b<base→w1.heap[b]? = w.heap[b]?):=fun b hb=>by
    rw[HG.out.block b (by rw[Sz.out];omega) (fun e=>by have:=qK.out b e.symm;omega)]
    exact sB.out.block b (by omega) (fun e=>by have:=qK.out b e.symm;omega)
   clear hown hgr hat
   by_cases hjn:j<n
   ·obtain⟨d,hd⟩:∃ d,ds[j]? = some d:=⟨_,List.getElem?_eq_getElem (by have:=HN.out;omega)⟩
    have hct:=Bv f ds hd
    have hdm:=List.mem_of_getElem? hd
    have Ye:=rQ.out.2 d hdm
    have htd:=HTX.out d hdm
    have hn1:=htd.1
    have aTw:=lV (f+1) a (ds.take j)
    have aLz:=lV f (a++d.name++[46]) d.inner
    have hbd:=vD.out
    have hxc:=HXC.out
    have hcd:ctD f d=1+d.fields.length+d.values.length+d.methods.length+mO f d.inner:=rfl
    have sC:=aB (Wr f a ds hd)
    obtain⟨X,hX⟩:∃ X,xs++cK (f+1) a (ds.take j)=X:=⟨_,rfl⟩
    obtain⟨I,hI⟩:∃ I,cK f (a++d.name++[46]) d.inner=I:=⟨_,rfl⟩
    have hXl:X.length+mO f d.inner+1≤50000:=by rw[←hX,List.length_append];omega
    obtain⟨g,o,c0,fa,fc,va,vc,ma,mc,ia,ic,hsl,hg,e0,e1,e2,e3,e4,e5,e6,e7,kd⟩:=jF HH.out (W:=w1) (fun b hb=>HOLD.out b hb) hd
    rw[HN.out]at hsl
    obtain⟨rfl,rfl⟩:ad=some ⟨g,o,none⟩∧c=c0:=by
     injection hsl with h1 _ h3
     exact⟨h1,h3⟩
    have hgw:g<base:=hg
    have eO:=aB kd.2.2.2
    obtain⟨P,hP⟩:∃ P,a++d.name=P:=⟨_,rfl⟩
    obtain⟨M,hM⟩:∃ M,P++[46]=M:=⟨_,rfl⟩
    obtain⟨X2,hX2⟩:∃ X2,X++[(P,d.kind)]=X2:=⟨_,rfl⟩
    obtain⟨X3,hX3⟩:∃ X3,X2++I=X3:=⟨_,rfl⟩
    rw[hP,hM]at hI aLz
    have aTy:X2.length=X.length+1:=by rw[←hX2];simp
    have hMl:M.length=a.length+d.name.length+1:=by rw[←hM,←hP];simp;omega
    have aTz:Hid (xs++cK (f+1) a (ds.take (j+1))=X3):=by
     refine(?_:_=_)
     rw[sC.out,hP,hM,←List.append_assoc,←List.append_assoc,hX,hI,hX2,hX3]
    rw[hX]at HO1 HAT ⊢
    have zb:(aC a).size=a.length:=aV a
    have zn:(aC d.name).size=d.name.length:=aV _
    have s1:=Ga (aC a) (aC d.name) 1000000000000 (by omega) (by omega)
    have s2:=Ga (aC a++aC d.name) ⟨#[46]⟩ 2000000000000 (by rw[ByteArray.size_append];omega) (by show _+1≤_;omega)
    have HE:Hid (aC a++aC d.name++⟨#[46]⟩=aC M):=by
     refine(?_:_=_)
     show aC a++aC d.name++aC [46]=_
     rw[←kU,←kU,hP,hM]
    obtain⟨N,hN⟩:∃ N,P.length=N:=⟨_,rfl⟩
    have hNb:N≤2000000000000:=by rw[←hN,←hP,List.length_append];omega
    have hsl1:=aDb M N (by rw[←hM];simp;omega)
    have hMt:M.take N=P:=by rw[←hM,List.take_left' hN]
    rw[hMt]at hsl1
    have hz:(aC M).size=N+1:=by rw[aV,←hM,List.length_append,hN];rfl
    have hw1:IntKind.i64.wrap (N:Int)=(N:Int):=by rw[IntKind.wrap_i64];omega
    have hw2:(0:Int)≤(N:Int):=by omega
    have hex:(aC M).extract 0 N=aC P:=by rw[Bw,hMt]
    have hj0:(0:Int)≤(j:Int):=by omega
    have hj1:(j:Int)<(n:Int):=by omega
    have hwq:=eE j (by omega)
    have hrec:=fun (W:World) (ov':Value) (h1:aM f W (fun b=>b<base) (.slice ia d.inner.length ic) d.inner) (h2:base≤W.heap.size) (h3:W.ownsRow base 115 2 ov' X2.length (X2.flatMap oH))=>ih d.inner (.slice ia d.inner.length ic) M base ov' X2 W Ye.2.2.2 htd.2.2.2.2 (by omega) (by omega) h1 h2 h3
    rw[hI,hX3]at hrec
    have Yj:=aB hX2
    have HRC:=aB hrec
    have hXb:X.length≤100000:=by omega
    have uY:=aB hN
    have b0:=aA oY.out 0 rfl
    have hY:(w1.alloc (.cells #[.int .i64 d.kind,.string (aC d.name),.int .i64 d.line,.int .i64 d.col,.slice fa d.fields.length fc,.slice va d.values.length vc,.slice ma d.methods.length mc,.slice ia d.inner.length ic] 69)).heap[w1.heap.size]? = some (.cells #[.int .i64 d.kind,.string (aC d.name),.int .i64 d.line,.int .i64 d.col,.slice fa d.fields.length fc,.slice va d.values.length vc,.slice ma d.methods.length mc,.slice ia d.inner.length ic] 69 (0,0)):=alloc_heap_new _ _
    have gE:Below w1.heap.size w1 (w1.alloc (.cells #[.int .i64 d.kind,.string (aC d.name),.int .i64 d.line,.int .i64 d.col,.slice fa d.fields.length fc,.slice va d.values.length vc,.slice ma d.methods.length mc,.slice ia d.inner.length ic] 69)):=(Below.refl _ w1).alloc (Nat.le_refl _) _
    have uI:=aB (HO1.out.alloc (.cells #[.int .i64 d.kind,.string (aC d.name),.int .i64 d.line,.int .i64 d.col,.slice fa d.fields.length fc,.slice va d.values.length vc,.slice ma d.methods.length mc,.slice ia d.inner.length ic] 69))
    clear hX hI hd hdm Ye htd hct aTw aLz hbd hxc hcd kd hsl hrec hn1 zb zn hN sC hP hM hX2 hX3 aTy hMl hMt
    go_upto_region 4 with fail
    generalize (w1.alloc (.cells #[.int .i64 d.kind,.string (aC d.name),.int .i64 d.line,.int .i64 d.col,.slice fa d.fields.length fc,.slice va d.values.length vc,.slice ma d.methods.length mc,.slice ia d.inner.length ic] 69))=Y at *
    have hlY:=aN hY
    have y0:=aA hY 0 rfl
    have y1:=aA hY 1 rfl
    have yb:Y.cell? ⟨w.heap.size,0,none⟩=some (.string (aC a)):=by rw[gE.cell (show w.heap.size<w1.heap.size by omega)];exact b0
    have nC:=aB gE
    have HYC:=aB hY
    have hsY:=gE.size
    clear e0 e1 e2 e3 e4 e5 e6 e7 b0 hY gE
    go_upto_region 5 with fail
    rw[HE.out]
    clear s1 s2 yb
    go_region_law (first
     | (refine Wq (T:=115) Tryz.underlying111 aFw uI.out.drew (by show base≤Y.heap.size;omega) (P,d.kind) rfl _ _ rfl _ rfl rfl rfl hXb ?_;intro g2 cap2 W2 hown2 kZ Qk))
    all_goals
     have HO2:Hid (W2.ownsRow base 115 2 (.slice (some ⟨g2,0,none⟩) (X.length+1) cap2) X2.length (X2.flatMap oH)):=by
      refine(?_:World.ownsRow _ _ _ _ _ _ _)
      rw[←Yj.out]
      first | exact hown2 | (rw[List.length_append,List.flatMap_append];simpa using hown2)
     have hgY:Y.grownBy W2 (Value.slice pa X.length pc).ownBlock:=⟨kZ.os,kZ.tape,kZ.output,kZ.size,kZ.block⟩
     have hY2:W2.heap[w1.heap.size]? = some (.cells #[.int .i64 d.kind,.string (aC d.name),.int .i64 d.line,.int .i64 d.col,.slice fa d.fields.length fc,.slice va d.values.length vc,.slice ma d.methods.length mc,.slice ia d.inner.length ic] 69 (0,0)):=by
      rw[hgY.block _ hlY (fun e=>by have:=aE HO1.out _ e.symm;omega)];exact HYC.out
     have y7:=aA hY2 7 rfl
     have aAt:w1.grownBy W2 (Value.slice pa X.length pc).ownBlock:=World.grownBy.trans ⟨nC.out.os,nC.out.tape,nC.out.output,nC.out.size,fun k hk _=>nC.out.block k hk⟩ hgY
     have aMb:V.grownBy W2 OB:=cT HG.out aAt (fun b hb=>(HAT.out b hb).symm.imp (fun h=>by rw[Sz.out];exact h) id)
     have HG2:=aB aMb
     have HA2:Hid (∀ b,(Value.slice (some ⟨g2,0,none⟩) (X.length+1) cap2).ownBlock=some b→OB=some b∨w.heap.size+1≤b):=fun b hb=>by
      have hb':g2=b:=Option.some.inj hb
      subst hb'
      rcases Qk with e | e
      ·exact HAT.out _ e
      ·right
       have e':Y.heap.size≤g2:=e
       omega
     have HH2:Hid (aM f W2 (fun b=>b<base) (.slice ia d.inner.length ic) d.inner):=aM.old (fun b hb=>aAt.block b (by have hb':b<base:=hb;omega) (fun e=>by have:=aE HO1.out b e.symm;have hb':b<base:=hb;omega)) eO.out
     have hs2:w1.heap.size≤W2.heap.size:=aAt.size
     clear hown2 kZ Qk hgY hY2 aAt aMb y0 y1 hsl1 hz hw1 hw2 hex
     go_wp2_with fail
     refine(HRC.out W2 _ HH2.out (by omega) HO2.out).mono ?_
     rintro e W3 ⟨rv,rfl,hown3,Bn,yG⟩
     have HO3:=aB hown3
     have Gb:Hid (V.grownBy W3 OB):=cT HG2.out Bn (fun b hb=>(HA2.out b hb).symm.imp (fun h=>by rw[Sz.out];exact h) id)
     have HA3:Hid (∀ b,rv.ownBlock=some b→OB=some b∨w.heap.size+1≤b):=fun b hb=>by
      rcases yG b hb with e | e
      ·exact HA2.out b e
      ·right;omega
     obtain⟨ra,rc,By⟩:=aO hown3
     subst By
     clear hown3 Bn yG y7
     go_wp2_with fail
     go_roundw
     case rel=>exact⟨j+1,by go_num,by omega,Gb.out,HA3.out,by rw[aTz.out];exact HO3.out⟩
     case measure=>simp[intOf];omega
   ·have sZ:¬(j:Int)<(n:Int):=by omega
    have pD:ds.take j=ds:=List.take_of_length_le (by have:=HN.out;omega)
    rw[pD,HZ.out]at HO1 HAT ⊢
    have HGE:Hid (w.grownBy w1 OB):=sB.out.trans HG.out
    go_wp2_with fail
    go_ret
    exact⟨_,rfl,HO1.out,HGE.out,fun b hb=>(HAT.out b hb).imp id fun h=>by omega⟩
set_option maxHeartbeats 1000000 in
theorem Ws (f:Nat) (ds:List Dc) (v:Value) (w:World) (hf:iV f ds) (ht:lL f ds) (hc:mO f ds≤2000) (hH:aM f w (fun b=>b<w.heap.size) v ds) :
  Calls Tryz.prog 55 #[v] w fun e w'=>∃ rv,e=.returned rv∧w'.ownsRow w.heap.size 115 2 rv (cK f [] ds).length ((cK f [] ds).flatMap oH)∧Below w.heap.size w w':=by
 have h:=yI f ds v [] w.heap.size (.slice none 0 0) [] w hf ht (by simp;omega) (by simp;omega) hH (Nat.le_refl _) (World.ownsRow_nil _ _ _ _)
 obtain⟨ad,c,rfl⟩:=hH.eI
 have H:=aB h
 clear hf ht hc hH h
 go_enter Tryz.func55,Tryz.ntmps55
 go_wp2_with fail
 refine H.out.mono ?_
 rintro e w1 ⟨rv,rfl,h1,h2,h3⟩
 rw[List.nil_append]at h1
 have H1:=aB h1
 have H2:Hid (Below w.heap.size w w1):=⟨h2.os,h2.tape,h2.output,h2.size,fun k hk=>h2.block k hk (by intro e;cases e)⟩
 obtain⟨ra,rc,By⟩:=aO h1
 subst By
 clear h1 h2 h3
 go_wp2_with fail
 go_ret
 exact⟨_,rfl,H1.out,H2.out⟩
end Go.Proofs.YtpojeinddnjpfaaGreatDoor
