/-
  Walks and plain words (SkG).
-/
import Derived.Test.YtpojeinddnjpfaaGreatDoorM0
import Derived.Test.YtpojeinddnjpfaaGreatDoorM42
import Derived.Deep.OwnRows
namespace Go.Proofs.YtpojeinddnjpfaaGreatDoor
set_option linter.unusedVariables false
open Go.ChangeShapes Go.WideShapes Go.ChangeAt Go.RowKit

def sets (w:World) (B q:Nat):List Value→World
 | []=>w
 | x :: t=>sets (w.setCell ⟨B,q,none⟩ x) B (q+1) t
theorem Gz {B:Nat} {T:TypeId}:∀ (xs:List Value) (w:World) (q:Nat) (cs:Array Value),w.heap[B]? = some (.cells cs T (0,0))→q+xs.length≤cs.size→
  ∃ cs':Array Value,(sets w B q xs).heap[B]? = some (.cells cs' T (0,0))∧cs'.size=cs.size∧(∀ (i:Nat) (u:Value),xs[i]? = some u→cs'[q+i]? = some u)∧(∀ p:Nat,p<q∨q+xs.length≤p→cs'[p]? = cs[p]?)∧(∀ b,b≠B→(sets w B q xs).heap[b]? = w.heap[b]?)∧(sets w B q xs).heap.size=w.heap.size∧Below B w (sets w B q xs)
 | [],w,q,cs,h,_=>⟨cs,h,rfl,fun i u hu=>by simp at hu,fun _ _=>rfl,fun _ _=>rfl,rfl,Below.refl _ _⟩
 | x :: t,w,q,cs,h,hq=>by
  have hq':q+(t.length+1)≤cs.size:=hq
  obtain⟨cs',h1,h2,h3,h4,h5,h6,h7⟩:=Gz t (w.setCell ⟨B,q,none⟩ x) (q+1) _ (aG h x) (by simp;omega)
  refine⟨cs',h1,by rw[h2];simp,fun i u hu=>?_,fun p hp=>?_,fun b hb=>?_,by rw[sets,h6];simp,?_⟩
  ·cases i with
   | zero=>
    have:x=u:=by simpa using hu
    subst this
    rw[Nat.add_zero,h4 q (.inl (by omega)),Array.getElem?_setIfInBounds,if_pos rfl,if_pos (by omega)]
   | succ i=>
    have:=h3 i u (by simpa using hu)
    rw[show q+(i+1)=q+1+i by omega];exact this
  ·have hp':p<q∨q+(t.length+1)≤p:=hp
   rw[h4 p (by omega),Array.getElem?_setIfInBounds,if_neg (by omega)]
  ·rw[sets,h5 b hb,Below.heap_setCell _ _ _ _ hb]
  ·exact((Below.refl B w).setCell (p:=⟨B,q,none⟩) (Nat.le_refl _) x).trans h7
theorem Xq {w:World} {B q:Nat} {T:TypeId} {cs:Array Value} (h:w.heap[B]? = some (.cells cs T (0,0))) (hq:q+9≤cs.size) (x0 x1 x2 x3 x4 x5 x6 x7 x8:Value) :
  ∃ (Y:World) (cs':Array Value),(((((((((w.setCell ⟨B,q,none⟩ x0).setCell ⟨B,q+1,none⟩ x1).setCell ⟨B,q+2,none⟩ x2).setCell ⟨B,q+3,none⟩ x3).setCell ⟨B,q+4,none⟩ x4).setCell ⟨B,q+5,none⟩ x5).setCell ⟨B,q+6,none⟩ x6).setCell ⟨B,q+7,none⟩ x7).setCell ⟨B,q+8,none⟩ x8)=Y∧Y.heap[B]? = some (.cells cs' T (0,0))∧cs'.size=cs.size∧(∀ (i:Nat) (u:Value),[x0,x1,x2,x3,x4,x5,x6,x7,x8][i]? = some u→cs'[q+i]? = some u)∧(∀ p:Nat,p<q→cs'[p]? = cs[p]?)∧(∀ b,b≠B→Y.heap[b]? = w.heap[b]?)∧Y.heap.size=w.heap.size∧Below B w Y:=by
 obtain⟨cs',h1,h2,h3,h4,h5,h6,h7⟩:=Gz [x0,x1,x2,x3,x4,x5,x6,x7,x8] w q cs h hq
 exact⟨_,cs',rfl,h1,h2,h3,fun p hp=>h4 p (.inl hp),h5,h6,h7⟩
theorem aHh:(Tryz.prog.info? 117).map (fun i=>(i.zero,i.size,i.bytes))=some (some (.agg #[.int .i64 0,.string ⟨#[]⟩,.int .i64 0,.int .i64 0,.slice none 0 0,.slice none 0 0,.slice none 0 0,.slice none 0 0,.string ⟨#[]⟩]),9,152):=by kernel_rfl
theorem aNv (n:Nat) (hn:n≤100000):∃ cs:Array Value,cs.size=n*9∧∀ w:World,(Instr.makeSlice 58 (.int .i64 (n:Int)) (.int .i64 (n:Int))).run Tryz.prog w=.ok (.slice (some ⟨w.heap.size,0,none⟩) n n) (w.alloc (.cells cs 117)):=by
 obtain⟨i0,hi0,hz0,hz1,hz2⟩:=info_parts aHh
 refine⟨madeCells (Value.agg #[.int .i64 0,.string ⟨#[]⟩,.int .i64 0,.int .i64 0,.slice none 0 0,.slice none 0 0,.slice none 0 0,.slice none 0 0,.string ⟨#[]⟩]).cells (n*9),size_madeCells _ _,fun w=>?_⟩
 have hr:=run_make (P:=Tryz.prog) w 58 117 i0 _ Tryz.underlying58 hi0 hz0 .i64 .i64 n n (by omega) (Int.le_refl _) (by rw[hz2];omega) (by omega)
 simp only[Int.toNat_natCast,hz1]at hr
 exact hr
def aHi (f:Nat) (w:World) (ps:List Pl) (e:Ending) (w':World):Prop:=∃ rv,e=.returned rv∧eJ 9 f w' (fun b=>b<w'.heap.size) rv ps∧Below w.heap.size w w'
set_option maxHeartbeats 16000000 in
set_option maxRecDepth 20000 in
theorem Kx (f:Nat) (ds:List Dc) (v:Value) (w:World) (hf:iV (f+1) ds) (ht:lL (f+1) ds) (hc:mO (f+1) ds≤2000) (hH:aM (f+1) w (fun b=>b<w.heap.size) v ds) :
  Calls Tryz.prog 24 #[v] w fun e w'=>aHi f w (aX (f+1) [] ds) e w':=by
 have HF:=aB hf
 have HT:=aB ht
 have HH:=aB hH
 obtain⟨ad,cc,rfl⟩:=hH.eI
 have hall:=Ws (f+1) ds _ w hf ht hc hH
 have hln:=lV (f+1) [] ds
 obtain⟨ps,hps⟩:∃ ps,aX (f+1) [] ds=ps:=⟨_,rfl⟩
 have hfl:fQ (f+1) ds=ps.map (·.2):=by rw[←hps,xP]
 have hal:cK (f+1) [] ds=ps.map fun x=>(x.1,x.2.kind):=by rw[←hps,gN]
 have HFL:=aB hfl
 obtain⟨A,hA⟩:∃ A,cK (f+1) [] ds=A:=⟨_,rfl⟩
 rw[hA]at hall hln hal
 have hAl:A.length=ps.length:=by rw[hal,List.length_map]
 obtain⟨n,hn⟩:∃ n,ps.length=n:=⟨_,rfl⟩
 have HN:=aB hn
 rw[hn]at hAl
 have sC:=aB hal
 have Wy:=aB hAl
 rw[hAl]at hall hln
 obtain⟨cs0,aHj,hmk⟩:=aNv n (by omega)
 have hn0:n≤2000:=by omega
 rw[hps]
 clear hf ht hH hps hfl hal hA hAl hn hln
 go_enter Tryz.func24,Tryz.ntmps24
 go_wp2_with fail
 refine hall.mono ?_
 rintro e W1 ⟨sv,rfl,hsy,hb1⟩
 obtain⟨sa,sc,hsv⟩:=aO hsy
 subst hsv
 have Um:=aB hsy
 have HB1:=aB hb1
 have Uf:=hb1.size
 clear hall hsy hb1
 have hM:(W1.alloc (.cells cs0 117)).heap[W1.heap.size]? = some (.cells cs0 117 (0,0)):=alloc_heap_new _ _
 have yF:Below W1.heap.size W1 (W1.alloc (.cells cs0 117)):=(Below.refl _ W1).alloc (Nat.le_refl _) _
 go_upto_region 3 with fail
 generalize (W1.alloc (.cells cs0 117))=W2 at *
 have hlM:=aN hM
 have HH2:Hid (aM (f+1) W2 (fun b=>b<w.heap.size) (.slice ad ds.length cc) ds):=aM.old (fun b hb=>(yF.block b (by have hb':b<w.heap.size:=hb;omega)).trans (HB1.out.block b hb)) HH.out
 have Xr:=Rh f (fun b=>b<w.heap.size) W2.heap.size (fun b hb=>by have hb':b<w.heap.size:=hb;omega) (f+1) (by omega) ds _ (.slice none 0 0) [] [] W2 HF.out (by simp;omega) HH2.out (Nat.le_refl _) (qU.nil _ _ _ _)
 rw[List.nil_append,HFL.out]at Xr
 have HM:=aB hM
 have Nh:=aB yF
 have HMK:=aB hmk
 clear hM yF hmk
 go_wp2_with fail
 refine Xr.mono ?_
 rintro e W3 ⟨rv,rs,rfl,hD,hg3,yG⟩
 obtain⟨ra,rc,By⟩:=aO hD.own
 subst By
 rw[List.length_map,HN.out]at hD yG ⊢
 have hg3':W2.grownBy W3 none:=hg3
 have Ho:=hg3'.size
 have HB3:Hid (Below w.heap.size w W3):=(HB1.out.trans (Nh.out.mono Uf)).grown hg3' (by omega) (fun b hb=>by cases hb)
 have Yc:Hid (W3.heap[W1.heap.size]? = some (.cells cs0 117 (0,0))):=(hg3'.block _ hlM (by simp)).trans HM.out
 have pO:Hid (W3.ownsRow w.heap.size 115 2 (.slice sa n sc) A.length (A.flatMap oH)):=by
  refine(?_:World.ownsRow _ _ _ _ _ _ _)
  rw[Wy.out]
  exact aR Um.out fun b hb=>(hg3'.block b (by have:=aE Um.out b hb;omega) (by simp)).trans (Nh.out.block b (aE Um.out b hb).2)
 have hsl:∀ b,(Value.slice sa n sc).ownBlock=some b→b<W1.heap.size:=fun b hb=>(aE Um.out b hb).2
 have HSL:=aB hsl
 have HHD:Hid (aM (f+1) W3 (fun b=>b<w.heap.size∨(Value.slice ra n rc).ownBlock=some b) (.slice ra n rc) (ps.map (·.2))):=hD.held (fun b hb=>.inl hb) (fun b hb=>.inr hb)
 have hrl:∀ b,(Value.slice ra n rc).ownBlock=some b→W2.heap.size≤b∧b<W3.heap.size:=fun b hb=>aE hD.own b hb
 have HRL:=aB hrl
 clear hD hg3 yG hg3' hsl hrl Xr HM Nh HMK
 go_wp2_with fail
 go_loopw [15] (fun i wr=>∃ (j:Nat) (cs:Array Value),i=.int .i64 (j:Int)∧j≤n∧Below w.heap.size w wr∧W3.heap.size≤wr.heap.size∧wr.heap[W1.heap.size]? = some (.cells cs 117 (0,0))∧cs.size=n*9∧(∀ b,b<W3.heap.size→b≠W1.heap.size→wr.heap[b]? = W3.heap[b]?)∧(∀ (q:Nat) (x:Pl),q<j→ps[q]? = some x→∃ fs vs ms ins,(∀ (i:Nat) (u:Value),(eZ x.2 fs vs ms ins++[.string (aC x.1)])[i]? = some u→cs[q*9+i]? = some u)∧Kids f W3 (fun b=>b<w.heap.size∨(Value.slice ra n rc).ownBlock=some b) fs vs ms ins x.2)) (fun i _=>n - (intOf i).toNat)
 case atStart=>exact⟨0,cs0,rfl,Nat.zero_le _,HB3.out,Nat.le_refl _,Yc.out,aHj,fun b _ _=>rfl,fun q x hq=>by omega⟩
 case round=>
  generalize wr=w1 at *
  obtain⟨j,cs,rfl,hj,hbel,hsz,hblk,hcs,hoth,hrows⟩:=hrel
  have HB:=aB hbel
  have fE:=aB hblk
  have HCS:=aB hcs
  have HO:=aB hoth
  have HR:=aB hrows
  have hsw:=hbel.size
  have hl1:=aN hblk
  clear hbel hblk hcs hoth hrows
  by_cases hjn:j<n
  ·obtain⟨x,hx⟩:∃ x,ps[j]? = some x:=⟨_,List.getElem?_eq_getElem (by have:=HN.out;omega)⟩
   have hdx:(ps.map (·.2))[j]? = some x.2:=by rw[List.getElem?_map,hx];rfl
   have hax:A[j]? = some (x.1,x.2.kind):=by rw[sC.out,List.getElem?_map,hx];rfl
   have hNM:∀ b,(b<w.heap.size∨(Value.slice ra n rc).ownBlock=some b)→b<W3.heap.size∧b≠W1.heap.size:=fun b hb=>by
    rcases hb with h | h
    ·omega
    ·have:=HRL.out b h;omega
   obtain⟨g,o,c0,fa,fc,va,vc,ma,mc,ia,ic,hsl,hg,e0,e1,e2,e3,e4,e5,e6,e7,kd⟩:=jF HHD.out (W:=w1) (fun b hb=>HO.out b (hNM b hb).1 (hNM b hb).2) hdx
   rw[List.length_map,HN.out]at hsl
   obtain⟨rfl,rfl⟩:ra=some ⟨g,o,none⟩∧rc=c0:=by
    injection hsl with h1 _ h3
    exact⟨h1,h3⟩
   obtain⟨gs,cg,hsv,hgs,hgl,s0,s1⟩:=aLy pO.out (W:=w1) (fun b hb=>HO.out b (by have:=HSL.out b hb;omega) (by have:=HSL.out b hb;omega)) hax
   rw[Wy.out]at hsv
   obtain⟨rfl,rfl⟩:sa=some ⟨gs,0,none⟩∧sc=cg:=by
    injection hsv with h1 _ h3
    exact⟨h1,h3⟩
   have bFu:gs<W1.heap.size:=HSL.out gs rfl
   have eO:Hid (Kids f W3 (fun b=>b<w.heap.size∨(Value.slice (some ⟨g,o,none⟩) n rc).ownBlock=some b) _ _ _ _ x.2):=kd.old fun b hb=>(HO.out b (hNM b hb).1 (hNM b hb).2).symm
   have hj0:(0:Int)≤(j:Int):=by omega
   have hj1:(j:Int)<(n:Int):=by omega
   have hwq:=eE j (by omega)
   have HX:=aB hx
   clear hsl hsv kd hdx hax hx hNM
   have hC:(w1.alloc (.cells #[.int .i64 x.2.kind,.string (aC x.2.name),.int .i64 x.2.line,.int .i64 x.2.col,.slice fa x.2.fields.length fc,.slice va x.2.values.length vc,.slice ma x.2.methods.length mc,.slice ia x.2.inner.length ic] 69)).heap[w1.heap.size]? = some (.cells #[.int .i64 x.2.kind,.string (aC x.2.name),.int .i64 x.2.line,.int .i64 x.2.col,.slice fa x.2.fields.length fc,.slice va x.2.values.length vc,.slice ma x.2.methods.length mc,.slice ia x.2.inner.length ic] 69 (0,0)):=alloc_heap_new _ _
   have bG:Below w1.heap.size w1 (w1.alloc (.cells #[.int .i64 x.2.kind,.string (aC x.2.name),.int .i64 x.2.line,.int .i64 x.2.col,.slice fa x.2.fields.length fc,.slice va x.2.values.length vc,.slice ma x.2.methods.length mc,.slice ia x.2.inner.length ic] 69)):=(Below.refl _ w1).alloc (Nat.le_refl _) _
   go_upto_region 6 with fail
   generalize (w1.alloc (.cells #[.int .i64 x.2.kind,.string (aC x.2.name),.int .i64 x.2.line,.int .i64 x.2.col,.slice fa x.2.fields.length fc,.slice va x.2.values.length vc,.slice ma x.2.methods.length mc,.slice ia x.2.inner.length ic] 69))=Y at *
   have l0:=aA hC 0 rfl
   have l1:=aA hC 1 rfl
   have l2:=aA hC 2 rfl
   have l3:=aA hC 3 rfl
   have l4:=aA hC 4 rfl
   have l5:=aA hC 5 rfl
   have l6:=aA hC 6 rfl
   have l7:=aA hC 7 rfl
   have cE:=aB (HB.out.trans (bG.mono hsw))
   have tU:Hid (Y.heap[W1.heap.size]? = some (.cells cs 117 (0,0))):=(bG.block _ hl1).trans fE.out
   have uI:Hid (∀ b,b<W3.heap.size→b≠W1.heap.size→Y.heap[b]? = W3.heap[b]?):=fun b h1 h2=>(bG.block b (by omega)).trans (HO.out b h1 h2)
   have hsy:=bG.size
   have y0:Y.cell? ⟨gs,j*2,none⟩=some (.string (aC x.1)):=by rw[bG.cell (p:=⟨gs,j*2,none⟩) (show gs<w1.heap.size by omega)];exact s0
   have hq9:j*9+9≤cs.size:=by have:=HCS.out;omega
   obtain⟨u0,m0⟩:∃ u,Y.cell? ⟨W1.heap.size,j*9,none⟩=some u:=⟨cs[j*9]'(by omega),by simp[World.cell?,tU.out]⟩
   have f0:Y.frozen? ⟨W1.heap.size,j*9,none⟩=false:=by simp[World.frozen?,tU.out]
   obtain⟨u1,m1⟩:∃ u,Y.cell? ⟨W1.heap.size,j*9+1,none⟩=some u:=⟨cs[j*9+1]'(by omega),by simp[World.cell?,tU.out]⟩
   have f1:Y.frozen? ⟨W1.heap.size,j*9+1,none⟩=false:=by simp[World.frozen?,tU.out]
   obtain⟨u2,m2⟩:∃ u,Y.cell? ⟨W1.heap.size,j*9+2,none⟩=some u:=⟨cs[j*9+2]'(by omega),by simp[World.cell?,tU.out]⟩
   have f2:Y.frozen? ⟨W1.heap.size,j*9+2,none⟩=false:=by simp[World.frozen?,tU.out]
   obtain⟨u3,m3⟩:∃ u,Y.cell? ⟨W1.heap.size,j*9+3,none⟩=some u:=⟨cs[j*9+3]'(by omega),by simp[World.cell?,tU.out]⟩
   have f3:Y.frozen? ⟨W1.heap.size,j*9+3,none⟩=false:=by simp[World.frozen?,tU.out]
   obtain⟨u4,m4⟩:∃ u,Y.cell? ⟨W1.heap.size,j*9+4,none⟩=some u:=⟨cs[j*9+4]'(by omega),by simp[World.cell?,tU.out]⟩
   have f4:Y.frozen? ⟨W1.heap.size,j*9+4,none⟩=false:=by simp[World.frozen?,tU.out]
   obtain⟨u5,m5⟩:∃ u,Y.cell? ⟨W1.heap.size,j*9+5,none⟩=some u:=⟨cs[j*9+5]'(by omega),by simp[World.cell?,tU.out]⟩
   have f5:Y.frozen? ⟨W1.heap.size,j*9+5,none⟩=false:=by simp[World.frozen?,tU.out]
   obtain⟨u6,m6⟩:∃ u,Y.cell? ⟨W1.heap.size,j*9+6,none⟩=some u:=⟨cs[j*9+6]'(by omega),by simp[World.cell?,tU.out]⟩
   have f6:Y.frozen? ⟨W1.heap.size,j*9+6,none⟩=false:=by simp[World.frozen?,tU.out]
   obtain⟨u7,m7⟩:∃ u,Y.cell? ⟨W1.heap.size,j*9+7,none⟩=some u:=⟨cs[j*9+7]'(by omega),by simp[World.cell?,tU.out]⟩
   have f7:Y.frozen? ⟨W1.heap.size,j*9+7,none⟩=false:=by simp[World.frozen?,tU.out]
   obtain⟨u8,m8⟩:∃ u,Y.cell? ⟨W1.heap.size,j*9+8,none⟩=some u:=⟨cs[j*9+8]'(by omega),by simp[World.cell?,tU.out]⟩
   have f8:Y.frozen? ⟨W1.heap.size,j*9+8,none⟩=false:=by simp[World.frozen?,tU.out]
   obtain⟨Z,cs2,hZ,z9,zsz,aNw,aNx,zo,zs,zb⟩:=Xq tU.out hq9 (.int .i64 x.2.kind) (.string (aC x.2.name)) (.int .i64 x.2.line) (.int .i64 x.2.col) (.slice fa x.2.fields.length fc) (.slice va x.2.values.length vc) (.slice ma x.2.methods.length mc) (.slice ia x.2.inner.length ic) (.string (aC x.1))
   have HZ:=aB hZ
   have iU:Hid (Below w.heap.size w Z):=cE.out.trans (zb.mono (by omega))
   have HMZ:=aB z9
   have HOZ:Hid (∀ b,b<W3.heap.size→b≠W1.heap.size→Z.heap[b]? = W3.heap[b]?):=fun b h1 h2=>(zo b h2).trans (uI.out b h1 h2)
   have HRZ:Hid (∀ (q:Nat) (y:Pl),q<j+1→ps[q]? = some y→∃ fs vs ms ins,(∀ (i:Nat) (u:Value),(eZ y.2 fs vs ms ins++[.string (aC y.1)])[i]? = some u→cs2[q*9+i]? = some u)∧Kids f W3 (fun b=>b<w.heap.size∨(Value.slice (some ⟨g,o,none⟩) n rc).ownBlock=some b) fs vs ms ins y.2):=by
    refine(?_:∀ _,_)
    intro q y hq hy
    by_cases hqj:q=j
    ·subst hqj
     rw[HX.out]at hy
     cases hy
     exact⟨_,_,_,_,fun i u hu=>aNw i u hu,eO.out⟩
    ·obtain⟨fs,vs,ms,ins,h1,h2⟩:=HR.out q y (by omega) hy
     refine⟨fs,vs,ms,ins,fun i u hu=>?_,h2⟩
     have hi:i<9:=(List.getElem?_eq_some_iff.1 hu).1
     rw[aNx _ (by omega)]
     exact h1 i u hu
   have hcz:cs2.size=n*9:=by rw[zsz];exact HCS.out
   have HCZ:=aB hcz
   have aXd:W3.heap.size≤Z.heap.size:=by omega
   clear hZ z9 zsz aNw aNx zo zs zb hcz hC bG e0 e1 e2 e3 e4 e5 e6 e7 s0 s1 hq9
   go_region
   all_goals
    try rw[HZ.out]
    clear cE tU uI
    go_wp2_with fail
    go_roundw
    case rel=>exact⟨j+1,cs2,by go_num,by omega,by first | exact iU.out | exact iU.out.drew,aXd,HMZ.out,HCZ.out,HOZ.out,HRZ.out⟩
    case measure=>simp[intOf];omega
  ·have sZ:¬(j:Int)<(n:Int):=by omega
   have pD:j=n:=by omega
   have HHP:Hid (eJ 9 f w1 (fun b=>b<w1.heap.size) (.slice (some ⟨W1.heap.size,0,none⟩) n n) ps):=by
    refine(?_:eJ _ _ _ _ _ _)
    refine⟨_,n,by rw[HN.out],by rw[HN.out];exact Nat.le_refl _,.inr ⟨W1.heap.size,0,rfl,by omega,fun q x hx=>?_⟩⟩
    obtain⟨fs,vs,ms,ins,h1,h2⟩:=HR.out q x (by have:=(List.getElem?_eq_some_iff.1 hx).1;have:=HN.out;omega) hx
    refine⟨fs,vs,ms,ins,fun i u hu=>?_,(h2.old fun b hb=>HO.out b ?_ ?_).more fun b hb=>?_⟩
    ·simp only[World.cell?,fE.out,Nat.zero_add]
     exact h1 i u hu
    ·rcases hb with h | h
     ·omega
     ·exact(HRL.out b h).2
    ·rcases hb with h | h
     ·omega
     ·have:=HRL.out b h;omega
    ·rcases hb with h | h
     ·show b < _;omega
     ·have:=HRL.out b h;show b < _;omega
   clear pD hjn
   go_wp2_with fail
   go_ret
   exact⟨_,rfl,HHP.out,HB.out⟩
end Go.Proofs.YtpojeinddnjpfaaGreatDoor
