/-
  Walks and plain words (SkT).
-/
import Derived.Test.YtpojeinddnjpfaaGreatDoorM0
import Derived.Test.YtpojeinddnjpfaaGreatDoorM37
import Derived.Test.YtpojeinddnjpfaaGreatDoorM38
import Derived.Test.YtpojeinddnjpfaaGreatDoorM39
import Derived.Test.YtpojeinddnjpfaaGreatDoorM40
namespace Go.Proofs.YtpojeinddnjpfaaGreatDoor
set_option linter.unusedVariables false
open Go.ChangeShapes Go.WideShapes Go.ChangeAt Go.RowKit Go.Maps

def oM (f:Nat) (types:List Dc) (ps:List Pl) (n:Nat) (x:Pl):Option (Int × Int):=if x.2.kind=1 then aQ (kV f types ps n x) x.2.fields.length else if x.2.kind=3 then aQ (mQ f types ps n x) x.2.methods.length else none
def fL (f:Nat) (types:List Dc) (ps:List Pl) (n i:Nat):Option (Int × Int):=match ps[i]? with
 | some x=>oM f types ps n x
 | none=>none
def rX (f:Nat) (types:List Dc) (ps:List Pl) (n:Nat) (s:SC) (x:Pl):SC:=if x.2.kind=1 then ⟨s.ms++[⟨x.1,zI (x.2.fields.map (Kt f types ps n x.1))⟩],s.es,s.ts⟩ else if x.2.kind=2 then ⟨s.ms,s.es++[Es x],s.ts⟩ else if x.2.kind=3 then ⟨s.ms,s.es,x.2.methods.foldl (oL f types ps n x.2.name) s.ts⟩ else s
def cU (f:Nat) (types:List Dc) (ps:List Pl) (n:Nat) (qs:List Pl):SC:=qs.foldl (rX f types ps n) ⟨[],[],[]⟩
theorem qO (f:Nat) (types:List Dc) (ps:List Pl) (n:Nat) (qs:List Pl) (x:Pl):cU f types ps n (qs++[x])=rX f types ps n (cU f types ps n qs) x:=by
 unfold cU;rw[List.foldl_append];rfl
theorem Ad (f:Nat) (types:List Dc) (ps:List Pl) (n:Nat):∀ (k:Nat) (qs:List Pl),qs.length=k→(cU f types ps n qs).ms.length≤qs.length∧(cU f types ps n qs).es.length≤qs.length∧(cU f types ps n qs).ts.length≤hJ qs
 | 0,qs,h=>by
  have:qs=[]:=List.eq_nil_of_length_eq_zero h
  subst this;exact⟨Nat.le_refl _,Nat.le_refl _,Nat.le_refl _⟩
 | k+1,qs,h=>by
  rcases List.eq_nil_or_concat qs with h0 | ⟨q,x,h1⟩
  ·subst h0;simp at h
  ·rw[List.concat_eq_append]at h1
   subst h1
   have hl:q.length=k:=by simpa using h
   obtain⟨a,b,c⟩:=Ad f types ps n k q hl
   rw[qO,sU,List.length_append]
   unfold rX
   split
   ·simp;omega
   ·split
    ·simp;omega
    ·split
     ·rw[show (⟨(cU f types ps n q).ms,(cU f types ps n q).es,x.2.methods.foldl (oL f types ps n x.2.name) (cU f types ps n q).ts⟩:SC).ts.length=_ from xL f types ps n x.2.name x.2.methods _]
      simp;omega
     ·simp;omega
structure aHb (x:Pl):Prop where
 fl:x.2.fields.length≤100000
 vl:x.2.values.length≤100000
 ml:x.2.methods.length≤100000
 wl:x.1.length≤1000000000000
 nl:x.2.name.length≤1000000
 ft:∀ y∈x.2.fields,y.type.length≤200000000∧y.name.length≤1000000
 vt:∀ y∈x.2.values,y.name.length≤1000000
 mt:∀ y∈x.2.methods,y.inp.length≤200000000∧y.out.length≤200000000∧y.name.length≤1000000
 nd:(x.2.fields.map (·.num)).Nodup
def aHc (R:Option (Int × Int)) (s:SC) (w:World) (e:Ending) (w':World):Prop:=∃ (aa ba ca:Option Addr) (an ac bn bc cn cc:Nat) (l p:Int) (q:Bool),e=.returned (.tuple #[.agg #[.slice aa an ac,.slice ba bn bc,.slice ca cn cc],.agg #[.int .i64 l,.int .i64 p],.bool q])∧Below w.heap.size w w'∧
 ((q=true∧R=some (l,p)∧aa=none∧an=0∧ac=0∧ba=none∧bn=0∧bc=0∧ca=none∧cn=0∧cc=0)∨(q=false∧R=none∧l=0∧p=0∧cH w' (fun b=>w.heap.size≤b∧b<w'.heap.size) (.slice aa an ac) (.slice ba bn bc) (.slice ca cn cc) s))
theorem cO {w:World} {B:Nat} {T:TypeId} {z0 z1 z2:Value} (h:w.heap[B]? = some (.cells #[z0,z1,z2] T (0,0))) (x0 x1 x2:Value) :
  ∃ Y,(((w.setCell ⟨B,0,none⟩ x0).setCell ⟨B,1,none⟩ x1).setCell ⟨B,2,none⟩ x2)=Y∧Y.heap[B]? = some (.cells #[x0,x1,x2] T (0,0))∧(∀ b,b≠B→Y.heap[b]? = w.heap[b]?)∧Y.heap.size=w.heap.size∧Below B w Y:=by
 refine⟨_,rfl,?_,fun b hb=>?_,by simp,?_⟩
 ·rw[aG (aG (aG h x0) x1) x2];rfl
 ·rw[Below.heap_setCell _ _ _ _ hb,Below.heap_setCell _ _ _ _ hb,Below.heap_setCell _ _ _ _ hb]
 ·exact((((Below.refl B w).setCell (p:=⟨B,0,none⟩) (Nat.le_refl _) x0).setCell (p:=⟨B,1,none⟩) (Nat.le_refl _) x1).setCell (p:=⟨B,2,none⟩) (Nat.le_refl _) x2)
set_option maxHeartbeats 32000000 in
set_option maxRecDepth 20000 in
theorem Xn (f:Nat) (ds:List Dc) (dv:Value) (ps:List Pl) (v:Value) (w:World) (hn0:ps.length≤100000) (hds:ds.length≤100000) (hms:hJ ps≤100000) (hTy:Ng f (bR ds)) (hxf:∀ x∈ps,aHb x) (hD:aM (f+1) w (fun b=>b<w.heap.size) dv ds) (hH:eJ 9 f w (fun b=>b<w.heap.size) v ps) :
  Calls Tryz.prog 28 #[dv,v] w fun e w'=>aHc (aQ (fL f (bR ds) ps ps.length) ps.length) (cU f (bR ds) ps ps.length ps) w e w':=by
 have HH:=aB hH
 have lI:=aB hD
 have wT:=aB hTy
 have HXF:=aB hxf
 obtain⟨ad,cc,rfl⟩:=hH.cM
 obtain⟨dd,dc,rfl⟩:=hD.eI
 obtain⟨n,hn⟩:∃ n,ps.length=n:=⟨_,rfl⟩
 have HN:=aB hn
 obtain⟨kF,aHd⟩:∃ t,bR ds=t:=⟨_,rfl⟩
 rw[hn]at hn0 ⊢
 rw[aHd]at wT ⊢
 have HMS:=aB hms
 obtain⟨RES,Jq⟩:∃ r,aQ (fL f kF ps n) n=r:=⟨_,rfl⟩
 have qF:=aB Jq
 rw[Jq]
 have jS:((w.alloc (.cells #[.slice none 0 0,.slice none 0 0,.slice none 0 0] 29)).alloc (.cells #[.int .i64 0,.int .i64 0] 31)).heap[w.heap.size]? = some (.cells #[.slice none 0 0,.slice none 0 0,.slice none 0 0] 29 (0,0)):=by
  rw[aD _ _ _ (by simp)];exact alloc_heap_new _ _
 have hV1:((w.alloc (.cells #[.slice none 0 0,.slice none 0 0,.slice none 0 0] 29)).alloc (.cells #[.int .i64 0,.int .i64 0] 31)).heap[w.heap.size+1]? = some (.cells #[.int .i64 0,.int .i64 0] 31 (0,0)):=by
  have:=alloc_heap_new (w.alloc (.cells #[.slice none 0 0,.slice none 0 0,.slice none 0 0] 29)) (.cells #[.int .i64 0,.int .i64 0] 31)
  simpa using this
 have dO:Below w.heap.size w ((w.alloc (.cells #[.slice none 0 0,.slice none 0 0,.slice none 0 0] 29)).alloc (.cells #[.int .i64 0,.int .i64 0] 31)):=((Below.refl _ w).alloc (Nat.le_refl _) _).alloc (by simp) _
 have iH:((w.alloc (.cells #[.slice none 0 0,.slice none 0 0,.slice none 0 0] 29)).alloc (.cells #[.int .i64 0,.int .i64 0] 31)).heap.size=w.heap.size+2:=by simp
 clear hH hD hTy hxf hn hms Jq
 go_enter Tryz.func28,Tryz.ntmps28
 go_upto_region 1 with fail
 generalize ((w.alloc (.cells #[.slice none 0 0,.slice none 0 0,.slice none 0 0] 29)).alloc (.cells #[.int .i64 0,.int .i64 0] 31))=V at *
 have mV:=aB jS
 have kI:=aB hV1
 have iA:=aB dO
 have Gd:w.heap.size+2≤V.heap.size:=by omega
 have hsv:=Xc f ds _ V hds ((aM.old (fun b hb=>dO.block b hb) lI.out).more fun b hb=>by have hb':b<w.heap.size:=hb;omega)
 rw[aHd]at hsv
 clear jS hV1 dO iH aHd
 go_wp2_with fail
 refine hsv.mono ?_
 rintro e W1 ⟨tv,rfl,htv,hb1⟩
 obtain⟨ta,tc,hta⟩:=htv.eI
 subst hta
 have Uf:=hb1.size
 have HTV:=aB htv
 have HB1:=aB (iA.out.trans (hb1.mono (by omega)))
 have aHe:=aB hb1
 have hnu:=Qq f ps _ W1 (by rw[HN.out];exact hn0) (fun x hx=>(HXF.out x hx).wl) ((HH.out.old fun b hb=>HB1.out.block b hb).more fun b hb=>by have hb':b<w.heap.size:=hb;omega)
 rw[HN.out]at hnu
 clear htv hb1 hsv
 go_wp2_with fail
 refine hnu.mono ?_
 rintro e W2 ⟨mb,rfl,aWl,hnm,hb2⟩
 have Cq:=hb2.size
 have hml:=hnm.lt
 have hU:(W2.alloc (.cells #[.slice ta kF.length tc,.map (some mb),.slice none 0 0,.slice none 0 0,.slice none 0 0] 128)).heap[W2.heap.size]? = some (.cells #[.slice ta kF.length tc,.map (some mb),.slice none 0 0,.slice none 0 0,.slice none 0 0] 128 (0,0)):=alloc_heap_new _ _
 have hUb:Below W2.heap.size W2 (W2.alloc (.cells #[.slice ta kF.length tc,.map (some mb),.slice none 0 0,.slice none 0 0,.slice none 0 0] 128)):=(Below.refl _ W2).alloc (Nat.le_refl _) _
 have Mu:(W2.alloc (.cells #[.slice ta kF.length tc,.map (some mb),.slice none 0 0,.slice none 0 0,.slice none 0 0] 128)).heap.size=W2.heap.size+1:=by simp
 have HB2:=aB hb2
 have xS:=aB hnm
 clear hnu hb2 hnm
 go_upto_region 2 with fail
 generalize (W2.alloc (.cells #[.slice ta kF.length tc,.map (some mb),.slice none 0 0,.slice none 0 0,.slice none 0 0] 128))=U at *
 obtain⟨B,hB⟩:∃ b,W2.heap.size=b:=⟨_,rfl⟩
 have HUo:Hid (∀ b,b<W2.heap.size→U.heap[b]? = W2.heap[b]?):=fun b hb=>hUb.block b hb
 have aNl:Hid (Bd f (B+1) U B mb (.slice ta kF.length tc) (.slice none 0 0) (.slice none 0 0) (.slice none 0 0) kF ps n ⟨[],[],[]⟩ [] []):=by
  refine(?_:Bd _ _ _ _ _ _ _ _ _ _ _ _ _ _ _)
  rw[hB]at hU Mu hml
  have hno:∀ b,(Value.slice none 0 0).ownBlock≠some b:=fun b e=>by cases e
  refine⟨hU,by omega,by omega,⟨by omega,by omega,hno _,hno _,hno _⟩,?_,xS.out.old (HUo.out mb (by omega)),Tb.nil _ _ _ _,Tb.nil _ _ _ _,World.ownsRow_nil _ _ _ _,fun b e=>(by cases e),fun b e=>(by cases e)⟩
  refine(aM.old (fun b hb=>(HUo.out b (by have hb':b<W1.heap.size:=hb;omega)).trans (HB2.out.block b hb)) HTV.out).more fun b hb=>?_
  have hb':b<W1.heap.size:=hb
  exact⟨by omega,by omega,hno _,hno _,hno _⟩
 have hBs:B<U.heap.size:=by omega
 have hB2:w.heap.size+2≤B:=by omega
 have HUW:Hid (Below w.heap.size w U):=HB1.out.trans ((HB2.out.trans (hUb.mono Cq)).mono (by omega))
 have nD:Hid (U.heap[w.heap.size]? = some (.cells #[.slice none 0 0,.slice none 0 0,.slice none 0 0] 29 (0,0))):=(HUo.out _ (by omega)).trans ((HB2.out.block _ (by omega)).trans ((aHe.out.block _ (by omega)).trans mV.out))
 have HU1:Hid (U.heap[w.heap.size+1]? = some (.cells #[.int .i64 0,.int .i64 0] 31 (0,0))):=(HUo.out _ (by omega)).trans ((HB2.out.block _ (by omega)).trans ((aHe.out.block _ (by omega)).trans kI.out))
 clear hU hUb Mu HUo xS HTV hml aWl HB2 HB1 aHe iA mV kI
 rw[hB]
 clear hB Cq Uf Gd
 go_wp2_with fail
 go_loopw [19] (fun i wr=>∃ (j:Nat) (mv ev xv:Value) (mr er:List (List Value)),i=.int .i64 (j:Int)∧j≤n∧aQ (fL f kF ps n) j=none∧Bd f (B+1) wr B mb (.slice ta kF.length tc) mv ev xv kF ps n (cU f kF ps n (ps.take j)) mr er∧Below B U wr) (fun i _=>n - (intOf i).toNat)
 case atStart=>exact⟨0,_,_,_,[],[],rfl,Nat.zero_le _,rfl,aNl.out,Below.refl _ _⟩
 case round=>
  generalize wr=w1 at *
  obtain⟨j,mv,ev,xv,mr,er,rfl,hj,hfs,hbd,hoth⟩:=hrel
  have fW:=aB hfs
  have vD:=aB hbd
  have Xo:=aB hoth
  have Xk:Hid (∀ b,b<B→w1.heap[b]? = U.heap[b]?):=fun b hb=>hoth.block b hb
  have hBw:=hbd.lt
  have hsz1:=hbd.sz
  have Nh:Hid (∀ b,mv.ownBlock=some b→B+1≤b∧b<w1.heap.size):=fun b hb=>aE hbd.ms.own b hb
  have HEB:Hid (∀ b,ev.ownBlock=some b→B+1≤b∧b<w1.heap.size):=fun b hb=>aE hbd.es.own b hb
  have HXB:Hid (∀ b,xv.ownBlock=some b→B+1≤b∧b<w1.heap.size):=fun b hb=>aE hbd.ts b hb
  clear hfs hbd hoth aNl
  by_cases hjn:j<n
  ·obtain⟨x,hx⟩:∃ x,ps[j]? = some x:=⟨_,List.getElem?_eq_getElem (by have:=HN.out;omega)⟩
   have vH:=aB (HXF.out x (List.mem_of_getElem? hx))
   obtain⟨tb1,tb2,tb3⟩:=Ad f kF ps n _ (ps.take j) rfl
   have htj:(ps.take j).length≤j:=by simp;omega
   have hmt:hJ (ps.take j)≤hJ ps:=by
    have e:ps=ps.take j++ps.drop j:=(List.take_append_drop _ _).symm
    have key:∀ (a b:List Pl),hJ a≤hJ (a++b):=fun a b=>by
     induction a with
     | nil=>simp[hJ]
     | cons c t ih=>simp only[List.cons_append,hJ];omega
    exact Nat.le_trans (key _ (ps.drop j)) (Nat.le_of_eq (congrArg hJ e.symm))
   have hmm:=HMS.out
   have HG:Hid (fL f kF ps n j=oM f kF ps n x):=by
    refine(?_:_=_)
    unfold fL
    rw[hx]
   have HTN:Hid (cU f kF ps n (ps.take (j+1))=rX f kF ps n (cU f kF ps n (ps.take j)) x):=by
    refine(?_:_=_)
    rw[aY hx,qO]
   obtain⟨g,o,c0,fa,fc,va,vc,ma,mc,ia,ic,hsl,hg,e0,e1,e2,e3,e4,e5,e6,e7,e8,kd⟩:=lP HH.out (W:=w1) (fun b hb=>(Xk.out b (by have hb':b<w.heap.size:=hb;omega)).trans (HUW.out.block b hb)) hx
   rw[HN.out]at hsl
   obtain⟨rfl,rfl⟩:ad=some ⟨g,o,none⟩∧cc=c0:=by
    injection hsl with h1 _ h3
    exact⟨h1,h3⟩
   have hj0:(0:Int)≤(j:Int):=by omega
   have hj1:(j:Int)<(n:Int):=by omega
   have hwq:=eE j (by omega)
   obtain⟨ST,hST⟩:∃ s,cU f kF ps n (ps.take j)=s:=⟨_,rfl⟩
   rw[hST]at tb1 tb2 tb3 vD HTN
   have hb1:ST.ms.length≤100000:=by omega
   have hb2:ST.es.length≤100000:=by omega
   have hb3:ST.ts.length≤100000:=by omega
   have eO:=aB kd
   clear hsl kd hST tb1 tb2 tb3 htj hmt hmm hx
   have hC0:((w1.alloc (.cells #[.int .i64 x.2.kind,.string (aC x.2.name),.int .i64 x.2.line,.int .i64 x.2.col,.slice fa x.2.fields.length fc,.slice va x.2.values.length vc,.slice ma x.2.methods.length mc,.slice ia x.2.inner.length ic,.string (aC x.1)] 117)).alloc (.cells #[.int .i64 0,.int .i64 0] 31)).heap[w1.heap.size]? = some (.cells #[.int .i64 x.2.kind,.string (aC x.2.name),.int .i64 x.2.line,.int .i64 x.2.col,.slice fa x.2.fields.length fc,.slice va x.2.values.length vc,.slice ma x.2.methods.length mc,.slice ia x.2.inner.length ic,.string (aC x.1)] 117 (0,0)):=by
    rw[aD _ _ _ (by simp)];exact alloc_heap_new _ _
   have kM:((w1.alloc (.cells #[.int .i64 x.2.kind,.string (aC x.2.name),.int .i64 x.2.line,.int .i64 x.2.col,.slice fa x.2.fields.length fc,.slice va x.2.values.length vc,.slice ma x.2.methods.length mc,.slice ia x.2.inner.length ic,.string (aC x.1)] 117)).alloc (.cells #[.int .i64 0,.int .i64 0] 31)).heap[w1.heap.size+1]? = some (.cells #[.int .i64 0,.int .i64 0] 31 (0,0)):=by
    have:=alloc_heap_new (w1.alloc (.cells #[.int .i64 x.2.kind,.string (aC x.2.name),.int .i64 x.2.line,.int .i64 x.2.col,.slice fa x.2.fields.length fc,.slice va x.2.values.length vc,.slice ma x.2.methods.length mc,.slice ia x.2.inner.length ic,.string (aC x.1)] 117)) (.cells #[.int .i64 0,.int .i64 0] 31)
    simpa using this
   have bG:Below w1.heap.size w1 ((w1.alloc (.cells #[.int .i64 x.2.kind,.string (aC x.2.name),.int .i64 x.2.line,.int .i64 x.2.col,.slice fa x.2.fields.length fc,.slice va x.2.values.length vc,.slice ma x.2.methods.length mc,.slice ia x.2.inner.length ic,.string (aC x.1)] 117)).alloc (.cells #[.int .i64 0,.int .i64 0] 31)):=((Below.refl _ w1).alloc (Nat.le_refl _) _).alloc (by simp) _
   have hCs:((w1.alloc (.cells #[.int .i64 x.2.kind,.string (aC x.2.name),.int .i64 x.2.line,.int .i64 x.2.col,.slice fa x.2.fields.length fc,.slice va x.2.values.length vc,.slice ma x.2.methods.length mc,.slice ia x.2.inner.length ic,.string (aC x.1)] 117)).alloc (.cells #[.int .i64 0,.int .i64 0] 31)).heap.size=w1.heap.size+2:=by simp
   go_upto_region 6 with fail
   generalize ((w1.alloc (.cells #[.int .i64 x.2.kind,.string (aC x.2.name),.int .i64 x.2.line,.int .i64 x.2.col,.slice fa x.2.fields.length fc,.slice va x.2.values.length vc,.slice ma x.2.methods.length mc,.slice ia x.2.inner.length ic,.string (aC x.1)] 117)).alloc (.cells #[.int .i64 0,.int .i64 0] 31))=Y at *
   have HC0:=aB hC0
   have Rx:=aB kM
   have hYs:w1.heap.size+2≤Y.heap.size:=by omega
   have cE:=aB bG
   have Kv:=aB (vD.out.below (W:=Y) bG)
   have yA:Hid (Kids f Y (Aa Y B mv ev xv) (.slice fa x.2.fields.length fc) (.slice va x.2.values.length vc) (.slice ma x.2.methods.length mc) (.slice ia x.2.inner.length ic) x.2):=(eO.out.old fun b hb=>bG.block b (by have hb':b<w.heap.size:=hb;omega)).more fun b hb=>by
    have hb':b<w.heap.size:=hb
    exact⟨by omega,by omega,fun e=>by have:=Nh.out b e;omega,fun e=>by have:=HEB.out b e;omega,fun e=>by have:=HXB.out b e;omega⟩
   have l0:=aA hC0 0 rfl
   have l1:=aA hC0 1 rfl
   have l2:=aA hC0 2 rfl
   have l3:=aA hC0 3 rfl
   have l4:=aA hC0 4 rfl
   have l5:=aA hC0 5 rfl
   have l6:=aA hC0 6 rfl
   have l7:=aA hC0 7 rfl
   have l8:=aA hC0 8 rfl
   clear hC0 kM bG hCs e0 e1 e2 e3 e4 e5 e6 e7 e8 eO
   by_cases hk:x.2.kind=1
   ·have hcall:=Xg f (B+1) B mb _ mv ev xv kF ps n ST mr er x fa va ma ia fc vc mc ic Y f wT.out vH.out.fl vH.out.wl vH.out.ft hb1 Kv.out yA.out
    rw[hk]at l0
    have HK:=aB hk
    rw[hk]at hcall
    clear hk
    go_wp2_with fail
    refine hcall.mono ?_
    rintro e W3 ⟨l,c,b,rfl,h3B,Ho,h3o,dW⟩
    have gS:=aB dW
    have hne:∀ b,w1.heap.size≤b→mv.ownBlock≠some b:=fun b hb e=>by have:=Nh.out b e;omega
    have Kw:W3.heap[w1.heap.size+1]? = some (.cells #[.int .i64 0,.int .i64 0] 31 (0,0)):=(h3o _ (by omega) (by omega) (hne _ (by omega))).trans Rx.out
    have HLO:Hid (∀ b,b<B→W3.heap[b]? = U.heap[b]?):=fun b hb=>(h3o b (by omega) (by omega) (fun e=>by have:=Nh.out b e;omega)).trans ((cE.out.block b (by omega)).trans (Xk.out b hb))
    obtain⟨Z,hZ,z8,zo,zs,zb⟩:=bU Kw (.int .i64 l) (.int .i64 c)
    have HZ:=aB hZ
    have k0:=aA Kw 0 rfl
    have k1:=aA Kw 1 rfl
    have mI:=aF Kw 0
    have mJ:=aF Kw 1
    have HZL:Hid (∀ b,b<B→Z.heap[b]? = U.heap[b]?):=fun b hb=>(zo b (by omega)).trans (HLO.out b hb)
    have HZ8:=aB z8
    have Gu:Hid (Below B U Z):=((Xo.out.trans (cE.out.mono (by omega))).trans h3B).trans (zb.mono (by omega))
    have hZs:W3.heap.size≤Z.heap.size:=by omega
    have HZS:Hid (Z.heap.size=W3.heap.size):=zs
    have Xi:=aB zo
    have H3B:=aB Kw
    clear dW hcall hZ z8 zo zs zb Kw h3o hne l0 l1 l2 l3 l4 l5 l6 l7 l8
    cases b
    case true=>
     have fU:Hid (fL f kF ps n j=some (l,c)):=by
      refine(?_:_=_)
      rw[HG.out];unfold oM
      rw[if_pos HK.out]
      rcases gS.out with ⟨_,h⟩ | ⟨h,_⟩
      ·exact h
      ·cases h
     have z0:=aA HZ8.out 0 rfl
     have z1:=aA HZ8.out 1 rfl
     have cX:Z.heap[w.heap.size]? = some (.cells #[.slice none 0 0,.slice none 0 0,.slice none 0 0] 29 (0,0)):=(HZL.out _ (by omega)).trans nD.out
     have dF:Z.heap[w.heap.size+1]? = some (.cells #[.int .i64 0,.int .i64 0] 31 (0,0)):=(HZL.out _ (by omega)).trans HU1.out
     have m0:=aA cX 0 rfl
     have m1:=aA cX 1 rfl
     have m2:=aA cX 2 rfl
     have Gv:=aF cX 0
     have mf1:=aF cX 1
     have mf2:=aF cX 2
     have p0:=aA dF 0 rfl
     have p1:=aA dF 1 rfl
     have Gw:=aF dF 0
     have Gx:=aF dF 1
     have xM:=aB cX
     have xN:=aB dF
     have uT:Hid (Below w.heap.size w Z):=HUW.out.trans (Gu.out.mono (by omega))
     clear cX dF
     go_upto_region 14 with fail
     rw[HZ.out]
     go_upto_region 15 with fail
     obtain⟨A1,hA1,a8,ao,yN,ab⟩:=cO xM.out (.slice none 0 0) (.slice none 0 0) (.slice none 0 0)
     obtain⟨A2,hA2,c8,co,cs,cb⟩:=bU ((ao _ (by omega)).trans xN.out) (.int .i64 l) (.int .i64 c)
     obtain⟨B1,hB1,b8,bo,bs,bb⟩:=bU xN.out (.int .i64 l) (.int .i64 c)
     obtain⟨B2,hB2,d8,do',ds',db⟩:=cO ((bo _ (by omega)).trans xM.out) (.slice none 0 0) (.slice none 0 0) (.slice none 0 0)
     have HA1:=aB hA1
     have HA2:=aB hA2
     have tE:=aB hB1
     have tF:=aB hB2
     have hA:A2.heap[w.heap.size]? = some (.cells #[.slice none 0 0,.slice none 0 0,.slice none 0 0] 29 (0,0)):=(co _ (by omega)).trans a8
     have hBx:B2.heap[w.heap.size+1]? = some (.cells #[.int .i64 l,.int .i64 c] 31 (0,0)):=(do' _ (by omega)).trans b8
     have r0:=aA hA 0 rfl
     have r1:=aA hA 1 rfl
     have r2:=aA hA 2 rfl
     have r3:=aA c8 0 rfl
     have r4:=aA c8 1 rfl
     have s0:=aA d8 0 rfl
     have s1:=aA d8 1 rfl
     have s2:=aA d8 2 rfl
     have s3:=aA hBx 0 rfl
     have s4:=aA hBx 1 rfl
     have yO:Hid (Below w.heap.size w A2):=uT.out.trans (ab.trans (cb.mono (by omega)))
     have Re:Hid (Below w.heap.size w B2):=uT.out.trans ((bb.mono (by omega)).trans db)
     have oI:Hid (RES=some (l,c)):=by
      refine(?_:_=_)
      rw[←qF.out];exact aI fW.out fU.out (by omega)
     clear hA1 a8 ao yN ab hA2 c8 co cs cb hB1 b8 bo bs bb hB2 d8 do' ds' db hA hBx
     go_region
     all_goals
      first | rw[HA1.out,HA2.out] | rw[tE.out,tF.out]
      clear z0 z1 m0 m1 m2 Gv mf1 mf2 p0 p1 Gw Gx k0 k1 mI mJ
      go_wp2_with fail
      first
       | (refine bodyPost_ret (v:=.tuple #[.agg #[.slice none 0 0,.slice none 0 0,.slice none 0 0],.agg #[.int .i64 l,.int .i64 c],.bool true]) (by simp[results,Tryz.results28,go_sem,r0,r1,r2,r3,r4]) rfl ?_;exact⟨_,_,_,_,_,_,_,_,_,_,_,_,rfl,yO.out.drew,.inl ⟨rfl,oI.out,rfl,rfl,rfl,rfl,rfl,rfl,rfl,rfl,rfl⟩⟩)
       | (refine bodyPost_ret (v:=.tuple #[.agg #[.slice none 0 0,.slice none 0 0,.slice none 0 0],.agg #[.int .i64 l,.int .i64 c],.bool true]) (by simp[results,Tryz.results28,go_sem,s0,s1,s2,s3,s4]) rfl ?_;exact⟨_,_,_,_,_,_,_,_,_,_,_,_,rfl,Re.out.drew,.inl ⟨rfl,oI.out,rfl,rfl,rfl,rfl,rfl,rfl,rfl,rfl,rfl⟩⟩)
    case false=>
     obtain⟨-,hl,hc,hno,hmore⟩:=gS.out.resolve_left (fun h=>by cases h.1)
     subst hl hc
     have mK:Hid (fL f kF ps n j=none):=by
      refine(?_:_=_)
      rw[HG.out];unfold oM
      rw[if_pos HK.out]
      exact hno
     have hall:∀ b,Z.heap[b]? = W3.heap[b]?:=fun b=>by
      by_cases hbe:b=w1.heap.size+1
      ·subst hbe;rw[HZ8.out,H3B.out]
      ·exact Xi.out b hbe
     obtain⟨ys,mv',mr',hpm,hpw,Gy⟩:=hmore
     have hys:ys=zI (x.2.fields.map (Kt f kF ps n x.1)):=Qu (by rw[List.map_map];exact vH.out.nd) hpm hpw
     have iU:Hid (Bd f (B+1) Z B mb (.slice ta kF.length tc) mv' ev xv kF ps n (cU f kF ps n (ps.take (j+1))) mr' er):=by
      refine(?_:Bd _ _ _ _ _ _ _ _ _ _ _ _ _ _ _)
      rw[HTN.out];unfold rX;rw[if_pos HK.out,←hys]
      exact Gy.grow (by omega) fun b _=>hall b
     clear hpm hpw Gy hys
     clear hno hall
     go_wp2_with fail
     rw[HZ.out]
     try go_wp2_with fail
     go_roundw
     case rel=>exact⟨j+1,_,_,_,_,_,by go_num,by omega,bD fW.out mK.out,iU.out,Gu.out⟩
     case measure=>simp[intOf];omega
   by_cases hk2:x.2.kind=2
   ·have hcall:=Xj f (B+1) B mb _ mv ev xv kF ps n ST mr er x fa va ma ia fc vc mc ic Y f vH.out.vl vH.out.vt hb2 Kv.out yA.out
    rw[hk2]at l0
    have HK:=aB hk2
    rw[hk2]at hcall
    have mK:Hid (fL f kF ps n j=none):=by
     refine(?_:_=_)
     rw[HG.out];unfold oM
     rw[if_neg hk,if_neg (by rw[HK.out];decide)]
    have HKN:=aB hk
    clear hk2 hk
    go_wp2_with fail
    refine hcall.mono ?_
    rintro e W3 ⟨rfl,h3B,Ho,h3o,ev',er',Gy⟩
    have iU:Hid (Bd f (B+1) W3 B mb (.slice ta kF.length tc) mv ev' xv kF ps n (cU f kF ps n (ps.take (j+1))) mr er'):=by
     refine(?_:Bd _ _ _ _ _ _ _ _ _ _ _ _ _ _ _)
     rw[HTN.out];unfold rX;rw[if_neg HKN.out,if_pos HK.out]
     exact Gy
    have Gu:Hid (Below B U W3):=(Xo.out.trans (cE.out.mono (by omega))).trans h3B
    clear hcall h3o Gy l0 l1 l2 l3 l4 l5 l6 l7 l8
    go_wp2_with fail
    go_roundw
    case rel=>exact⟨j+1,_,_,_,_,_,by go_num,by omega,bD fW.out mK.out,iU.out,Gu.out⟩
    case measure=>simp[intOf];omega
   by_cases hk3:x.2.kind=3
   ·have hk:=hk3
    clear hk3
    have hcall:=aBm f (B+1) B mb _ mv ev xv kF ps n ST mr er x fa va ma ia fc vc mc ic Y f wT.out vH.out.ml vH.out.nl vH.out.mt hb3 Kv.out yA.out
    rw[hk]at l0
    have HK:=aB hk
    rw[hk]at hcall
    clear hk
    go_wp2_with fail
    refine hcall.mono ?_
    rintro e W3 ⟨l,c,b,rfl,h3B,Ho,h3o,dW⟩
    have gS:=aB dW
    have hne:∀ b,w1.heap.size≤b→xv.ownBlock≠some b:=fun b hb e=>by have:=HXB.out b e;omega
    have Kw:W3.heap[w1.heap.size+1]? = some (.cells #[.int .i64 0,.int .i64 0] 31 (0,0)):=(h3o _ (by omega) (by omega) (hne _ (by omega))).trans Rx.out
    have HLO:Hid (∀ b,b<B→W3.heap[b]? = U.heap[b]?):=fun b hb=>(h3o b (by omega) (by omega) (fun e=>by have:=HXB.out b e;omega)).trans ((cE.out.block b (by omega)).trans (Xk.out b hb))
    obtain⟨Z,hZ,z8,zo,zs,zb⟩:=bU Kw (.int .i64 l) (.int .i64 c)
    have HZ:=aB hZ
    have k0:=aA Kw 0 rfl
    have k1:=aA Kw 1 rfl
    have mI:=aF Kw 0
    have mJ:=aF Kw 1
    have HZL:Hid (∀ b,b<B→Z.heap[b]? = U.heap[b]?):=fun b hb=>(zo b (by omega)).trans (HLO.out b hb)
    have HZ8:=aB z8
    have Gu:Hid (Below B U Z):=((Xo.out.trans (cE.out.mono (by omega))).trans h3B).trans (zb.mono (by omega))
    have hZs:W3.heap.size≤Z.heap.size:=by omega
    have HZS:Hid (Z.heap.size=W3.heap.size):=zs
    have Xi:=aB zo
    have H3B:=aB Kw
    clear dW hcall hZ z8 zo zs zb Kw h3o hne l0 l1 l2 l3 l4 l5 l6 l7 l8
    cases b
    case true=>
     have fU:Hid (fL f kF ps n j=some (l,c)):=by
      refine(?_:_=_)
      rw[HG.out];unfold oM
      rw[if_neg (by rw[HK.out];decide),if_pos HK.out]
      rcases gS.out with ⟨_,h⟩ | ⟨h,_⟩
      ·exact h
      ·cases h
     have z0:=aA HZ8.out 0 rfl
     have z1:=aA HZ8.out 1 rfl
     have cX:Z.heap[w.heap.size]? = some (.cells #[.slice none 0 0,.slice none 0 0,.slice none 0 0] 29 (0,0)):=(HZL.out _ (by omega)).trans nD.out
     have dF:Z.heap[w.heap.size+1]? = some (.cells #[.int .i64 0,.int .i64 0] 31 (0,0)):=(HZL.out _ (by omega)).trans HU1.out
     have m0:=aA cX 0 rfl
     have m1:=aA cX 1 rfl
     have m2:=aA cX 2 rfl
     have Gv:=aF cX 0
     have mf1:=aF cX 1
     have mf2:=aF cX 2
     have p0:=aA dF 0 rfl
     have p1:=aA dF 1 rfl
     have Gw:=aF dF 0
     have Gx:=aF dF 1
     have xM:=aB cX
     have xN:=aB dF
     have uT:Hid (Below w.heap.size w Z):=HUW.out.trans (Gu.out.mono (by omega))
     clear cX dF
     go_upto_region 14 with fail
     rw[HZ.out]
     go_upto_region 15 with fail
     obtain⟨A1,hA1,a8,ao,yN,ab⟩:=cO xM.out (.slice none 0 0) (.slice none 0 0) (.slice none 0 0)
     obtain⟨A2,hA2,c8,co,cs,cb⟩:=bU ((ao _ (by omega)).trans xN.out) (.int .i64 l) (.int .i64 c)
     obtain⟨B1,hB1,b8,bo,bs,bb⟩:=bU xN.out (.int .i64 l) (.int .i64 c)
     obtain⟨B2,hB2,d8,do',ds',db⟩:=cO ((bo _ (by omega)).trans xM.out) (.slice none 0 0) (.slice none 0 0) (.slice none 0 0)
     have HA1:=aB hA1
     have HA2:=aB hA2
     have tE:=aB hB1
     have tF:=aB hB2
     have hA:A2.heap[w.heap.size]? = some (.cells #[.slice none 0 0,.slice none 0 0,.slice none 0 0] 29 (0,0)):=(co _ (by omega)).trans a8
     have hBx:B2.heap[w.heap.size+1]? = some (.cells #[.int .i64 l,.int .i64 c] 31 (0,0)):=(do' _ (by omega)).trans b8
     have r0:=aA hA 0 rfl
     have r1:=aA hA 1 rfl
     have r2:=aA hA 2 rfl
     have r3:=aA c8 0 rfl
     have r4:=aA c8 1 rfl
     have s0:=aA d8 0 rfl
     have s1:=aA d8 1 rfl
     have s2:=aA d8 2 rfl
     have s3:=aA hBx 0 rfl
     have s4:=aA hBx 1 rfl
     have yO:Hid (Below w.heap.size w A2):=uT.out.trans (ab.trans (cb.mono (by omega)))
     have Re:Hid (Below w.heap.size w B2):=uT.out.trans ((bb.mono (by omega)).trans db)
     have oI:Hid (RES=some (l,c)):=by
      refine(?_:_=_)
      rw[←qF.out];exact aI fW.out fU.out (by omega)
     clear hA1 a8 ao yN ab hA2 c8 co cs cb hB1 b8 bo bs bb hB2 d8 do' ds' db hA hBx
     go_region
     all_goals
      first | rw[HA1.out,HA2.out] | rw[tE.out,tF.out]
      clear z0 z1 m0 m1 m2 Gv mf1 mf2 p0 p1 Gw Gx k0 k1 mI mJ
      go_wp2_with fail
      first
       | (refine bodyPost_ret (v:=.tuple #[.agg #[.slice none 0 0,.slice none 0 0,.slice none 0 0],.agg #[.int .i64 l,.int .i64 c],.bool true]) (by simp[results,Tryz.results28,go_sem,r0,r1,r2,r3,r4]) rfl ?_;exact⟨_,_,_,_,_,_,_,_,_,_,_,_,rfl,yO.out.drew,.inl ⟨rfl,oI.out,rfl,rfl,rfl,rfl,rfl,rfl,rfl,rfl,rfl⟩⟩)
       | (refine bodyPost_ret (v:=.tuple #[.agg #[.slice none 0 0,.slice none 0 0,.slice none 0 0],.agg #[.int .i64 l,.int .i64 c],.bool true]) (by simp[results,Tryz.results28,go_sem,s0,s1,s2,s3,s4]) rfl ?_;exact⟨_,_,_,_,_,_,_,_,_,_,_,_,rfl,Re.out.drew,.inl ⟨rfl,oI.out,rfl,rfl,rfl,rfl,rfl,rfl,rfl,rfl,rfl⟩⟩)
    case false=>
     obtain⟨-,hl,hc,hno,hmore⟩:=gS.out.resolve_left (fun h=>by cases h.1)
     subst hl hc
     have mK:Hid (fL f kF ps n j=none):=by
      refine(?_:_=_)
      rw[HG.out];unfold oM
      rw[if_neg (by rw[HK.out];decide),if_pos HK.out]
      exact hno
     have hall:∀ b,Z.heap[b]? = W3.heap[b]?:=fun b=>by
      by_cases hbe:b=w1.heap.size+1
      ·subst hbe;rw[HZ8.out,H3B.out]
      ·exact Xi.out b hbe
     obtain⟨xv',Gy⟩:=hmore
     have iU:Hid (Bd f (B+1) Z B mb (.slice ta kF.length tc) mv ev xv' kF ps n (cU f kF ps n (ps.take (j+1))) mr er):=by
      refine(?_:Bd _ _ _ _ _ _ _ _ _ _ _ _ _ _ _)
      rw[HTN.out];unfold rX;rw[if_neg (by rw[HK.out];decide),if_neg (by rw[HK.out];decide),if_pos HK.out]
      exact Gy.grow (by omega) fun b _=>hall b
     clear Gy
     clear hno hall
     go_wp2_with fail
     rw[HZ.out]
     try go_wp2_with fail
     go_roundw
     case rel=>exact⟨j+1,_,_,_,_,_,by go_num,by omega,bD fW.out mK.out,iU.out,Gu.out⟩
     case measure=>simp[intOf];omega
   ·have h1':(x.2.kind == 1)=false:=by simp[hk]
    have h2':(x.2.kind == 2)=false:=by simp[hk2]
    have h3':(x.2.kind == 3)=false:=by simp[hk3]
    have mK:Hid (fL f kF ps n j=none):=by
     refine(?_:_=_)
     rw[HG.out];unfold oM
     rw[if_neg hk,if_neg hk3]
    have iU:Hid (Bd f (B+1) Y B mb (.slice ta kF.length tc) mv ev xv kF ps n (cU f kF ps n (ps.take (j+1))) mr er):=by
     refine(?_:Bd _ _ _ _ _ _ _ _ _ _ _ _ _ _ _)
     rw[HTN.out];unfold rX;rw[if_neg hk,if_neg hk2,if_neg hk3]
     exact Kv.out
    have Gu:Hid (Below B U Y):=Xo.out.trans (cE.out.mono (by omega))
    go_wp2_with fail
    go_roundw
    case rel=>exact⟨j+1,_,_,_,_,_,by go_num,by omega,bD fW.out mK.out,iU.out,Gu.out⟩
    case measure=>simp[intOf];omega
  ·have sZ:¬(j:Int)<(n:Int):=by omega
   have pD:j=n:=by omega
   have hte:ps.take j=ps:=List.take_of_length_le (by have:=HN.out;omega)
   rw[hte]at vD
   obtain⟨Cs,Ct,hmv⟩:=aO vD.out.ms.own
   obtain⟨Ni,Nj,hev⟩:=aO vD.out.es.own
   obtain⟨fC,fD,hxv⟩:=aO vD.out.ts
   obtain⟨MN,hMN⟩:∃ q,(cU f kF ps n ps).ms.length=q:=⟨_,rfl⟩
   obtain⟨EN,Ij⟩:∃ q,(cU f kF ps n ps).es.length=q:=⟨_,rfl⟩
   obtain⟨XN,hXN⟩:∃ q,(cU f kF ps n ps).ts.length=q:=⟨_,rfl⟩
   rw[hMN]at hmv
   rw[Ij]at hev
   rw[hXN]at hxv
   subst hmv hev hxv
   have hcB:=vD.out.cells
   have cX:w1.heap[w.heap.size]? = some (.cells #[.slice none 0 0,.slice none 0 0,.slice none 0 0] 29 (0,0)):=(Xk.out _ (by omega)).trans nD.out
   have dF:w1.heap[w.heap.size+1]? = some (.cells #[.int .i64 0,.int .i64 0] 31 (0,0)):=(Xk.out _ (by omega)).trans HU1.out
   have b2:=aA hcB 2 rfl
   have b3:=aA hcB 3 rfl
   have b4:=aA hcB 4 rfl
   have m0:=aA cX 0 rfl
   have m1:=aA cX 1 rfl
   have m2:=aA cX 2 rfl
   have Gv:=aF cX 0
   have mf1:=aF cX 1
   have mf2:=aF cX 2
   obtain⟨A1,hA1,a8,ao,yN,ab⟩:=cO cX (.slice Cs MN Ct) (.slice Ni EN Nj) (.slice fC XN fD)
   have hA5:A1.heap[w.heap.size+1]? = some (.cells #[.int .i64 0,.int .i64 0] 31 (0,0)):=(ao _ (by omega)).trans dF
   have p0:=aA dF 0 rfl
   have p1:=aA dF 1 rfl
   have Gw:=aF dF 0
   have Gx:=aF dF 1
   obtain⟨A2,hA2,c8,co,cs,cb⟩:=bU hA5 (.int .i64 0) (.int .i64 0)
   have hA:A2.heap[w.heap.size]? = _:=(co _ (by omega)).trans a8
   have r0:=aA hA 0 rfl
   have r1:=aA hA 1 rfl
   have r2:=aA hA 2 rfl
   have r3:=aA c8 0 rfl
   have r4:=aA c8 1 rfl
   have HA1:=aB hA1
   have HA2:=aB hA2
   have yO:Hid (Below w.heap.size w A2):=(HUW.out.trans (Xo.out.mono (by omega))).trans (ab.trans (cb.mono (by omega)))
   have aWp:A2.heap.size=w1.heap.size:=by omega
   have hsame:∀ b,B+1≤b→A2.heap[b]? = w1.heap[b]?:=fun b hb=>(co b (by omega)).trans (ao b (by omega))
   have yH:Hid (cH A2 (fun b=>w.heap.size≤b∧b<A2.heap.size) (.slice Cs MN Ct) (.slice Ni EN Nj) (.slice fC XN fD) (cU f kF ps n ps)):=by
    refine(?_:cH _ _ _ _ _ _)
    have hbd:=vD.out
    refine⟨?_,?_,?_⟩
    ·exact(aW.old (hbd.ms.held (K':=fun b=>B+1≤b∧b<w1.heap.size) (fun b hb=>⟨hb.2,hb.1.1⟩) (fun b hb=>aE hbd.ms.own b hb)) (fun b hb=>hsame b hb.1)).more fun b hb=>⟨by have:=hb.1;omega,by have:=hb.2;omega⟩
    ·exact(aW.old (hbd.es.held (K':=fun b=>B+1≤b∧b<w1.heap.size) (fun b hb=>⟨hb.2,hb.1.1⟩) (fun b hb=>aE hbd.es.own b hb)) (fun b hb=>hsame b hb.1)).more fun b hb=>⟨by have:=hb.1;omega,by have:=hb.2;omega⟩
    ·have ht:w1.ownsRow (B+1) 45 5 (.slice fC XN fD) (cU f kF ps n ps).ts.length ((cU f kF ps n ps).ts.flatMap gD):=hbd.ts
     exact((gZ (row:=gD) (fun _=>rfl) ht (fun b=>B+1≤b∧b<w1.heap.size) (fun b hb=>aE ht b hb)).old (fun b hb=>hsame b hb.1)).more fun b hb=>⟨by have:=hb.1;omega,by have:=hb.2;omega⟩
   have qR:Hid (RES=none):=by
    refine(?_:_=_)
    have h:=fW.out;rw[pD]at h;exact qF.out.symm.trans h
   clear hA1 a8 ao yN ab hA2 c8 co cs cb hA aWp hsame pD hjn hte cX dF hcB hMN Ij hXN hA5
   go_wp2_with fail
   rw[HA1.out,HA2.out]
   try go_wp2_with fail
   refine bodyPost_ret (v:=.tuple #[.agg #[.slice Cs MN Ct,.slice Ni EN Nj,.slice fC XN fD],.agg #[.int .i64 0,.int .i64 0],.bool false]) (by simp[results,Tryz.results28,go_sem,r0,r1,r2,r3,r4]) rfl ?_
   exact⟨_,_,_,_,_,_,_,_,_,_,_,_,rfl,yO.out,.inr ⟨rfl,qR.out,rfl,rfl,yH.out⟩⟩
end Go.Proofs.YtpojeinddnjpfaaGreatDoor
