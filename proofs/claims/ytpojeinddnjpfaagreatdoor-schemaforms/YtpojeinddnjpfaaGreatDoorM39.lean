/-
  Walks and plain words (SkV).
-/
import Derived.Test.YtpojeinddnjpfaaGreatDoorM0
import Derived.Test.YtpojeinddnjpfaaGreatDoorM37
namespace Go.Proofs.YtpojeinddnjpfaaGreatDoor
set_option linter.unusedVariables false
open Go.ChangeShapes Go.WideShapes Go.ChangeAt Go.RowKit Go.Maps

theorem aBl:(Tryz.prog.info? 45).map (fun i=>(i.zero,i.size,i.bytes))=some (some (.agg #[.int .i64 0,.string ⟨#[]⟩,.string ⟨#[]⟩,.int .i64 0,.int .i64 0]),5,56):=by kernel_rfl
theorem Ra (x:TD):∀ u∈gD x,u.oneCell'=true:=by
 intro u hu
 simp only[gD,List.mem_cons,List.not_mem_nil,or_false]at hu
 rcases hu with rfl | rfl | rfl | rfl | rfl <;> rfl
def oL (f:Nat) (types:List Dc) (ps:List Pl) (n:Nat) (svc:List UInt8) (ts:List TD) (m:Mt):List TD:=ts++[⟨ts.length+1,svc,m.name,(Qr f types ps n m.inp).getD 0,(Qr f types ps n m.out).getD 0⟩]
def mQ (f:Nat) (types:List Dc) (ps:List Pl) (n:Nat) (x:Pl) (k:Nat):Option (Int × Int):=match x.2.methods[k]? with
 | some m=>if (Qr f types ps n m.inp).isNone=true∨(Qr f types ps n m.out).isNone=true then some (m.line,m.col) else none
 | none=>none
def aNe (f base B mb:Nat) (tv mv ev xv:Value) (types:List Dc) (ps:List Pl) (n:Nat) (s:SC) (mr er:List (List Value)) (x:Pl) (w:World) (e:Ending) (w':World):Prop:=
  ∃ l c b,e=.returned (.tuple #[.agg #[.int .i64 l,.int .i64 c],.bool b])∧Below B w w'∧w.heap.size≤w'.heap.size∧(∀ b,b<w.heap.size→b≠B→xv.ownBlock≠some b→w'.heap[b]? = w.heap[b]?)∧
    ((b=true∧aQ (mQ f types ps n x) x.2.methods.length=some (l,c))∨
     (b=false∧l=0∧c=0∧aQ (mQ f types ps n x) x.2.methods.length=none∧∃ (xv':Value),Bd f base w' B mb tv mv ev xv' types ps n ⟨s.ms,s.es,x.2.methods.foldl (oL f types ps n x.2.name) s.ts⟩ mr er))
theorem xL (f:Nat) (types:List Dc) (ps:List Pl) (n:Nat) (svc:List UInt8):∀ (ms:List Mt) (ts:List TD),(ms.foldl (oL f types ps n svc) ts).length=ts.length+ms.length
 | [],ts=>rfl
 | m :: t,ts=>by rw[List.foldl_cons,xL f types ps n svc t];simp[oL];omega
set_option maxHeartbeats 16000000 in
set_option maxRecDepth 20000 in
theorem aBm (f base B mb:Nat) (tv mv ev xv:Value) (types:List Dc) (ps:List Pl) (n:Nat) (s:SC) (mr er:List (List Value)) (x:Pl) (fa va ma ia:Option Addr) (fc vc mc ic:Nat) (w:World) (F:Nat)
  (hTy:Ng f types) (hfl:x.2.methods.length≤100000) (hwl:x.2.name.length≤1000000) (hft:∀ y∈x.2.methods,y.inp.length≤200000000∧y.out.length≤200000000∧y.name.length≤1000000) (hms:s.ts.length≤100000)
  (hB:Bd f base w B mb tv mv ev xv types ps n s mr er) (kd:Kids F w (Aa w B mv ev xv) (.slice fa x.2.fields.length fc) (.slice va x.2.values.length vc) (.slice ma x.2.methods.length mc) (.slice ia x.2.inner.length ic) x.2) :
  Calls Tryz.prog 65 #[.pointer (some ⟨B,0,none⟩),.agg #[.int .i64 x.2.kind,.string (aC x.2.name),.int .i64 x.2.line,.int .i64 x.2.col,.slice fa x.2.fields.length fc,.slice va x.2.values.length vc,.slice ma x.2.methods.length mc,.slice ia x.2.inner.length ic,.string (aC x.1)]] w fun e w'=>aNe f base B mb tv mv ev xv types ps n s mr er x w e w':=by
 have wT:=aB hTy
 have rQ:=aB hft
 have HB:=aB hB
 have eO:=aB kd
 have hBlt:=hB.lt
 obtain⟨nf,hnf⟩:∃ k,x.2.methods.length=k:=⟨_,rfl⟩
 have gI:=aB hnf
 rw[hnf]at hfl eO ⊢
 clear hTy hft hB kd hnf
 have dO:Below w.heap.size w ((w.alloc (.cells #[.int .i64 x.2.kind,.string (aC x.2.name),.int .i64 x.2.line,.int .i64 x.2.col,.slice fa x.2.fields.length fc,.slice va x.2.values.length vc,.slice ma nf mc,.slice ia x.2.inner.length ic,.string (aC x.1)] 117)).alloc (.cells #[.int .i64 0,.int .i64 0] 31)):=((Below.refl _ w).alloc (Nat.le_refl _) _).alloc (by simp) _
 have hV1:((w.alloc (.cells #[.int .i64 x.2.kind,.string (aC x.2.name),.int .i64 x.2.line,.int .i64 x.2.col,.slice fa x.2.fields.length fc,.slice va x.2.values.length vc,.slice ma nf mc,.slice ia x.2.inner.length ic,.string (aC x.1)] 117)).alloc (.cells #[.int .i64 0,.int .i64 0] 31)).heap[w.heap.size+1]? = some (.cells #[.int .i64 0,.int .i64 0] 31 (0,0)):=by
  have:=alloc_heap_new (w.alloc (.cells #[.int .i64 x.2.kind,.string (aC x.2.name),.int .i64 x.2.line,.int .i64 x.2.col,.slice fa x.2.fields.length fc,.slice va x.2.values.length vc,.slice ma nf mc,.slice ia x.2.inner.length ic,.string (aC x.1)] 117)) (.cells #[.int .i64 0,.int .i64 0] 31)
  simpa using this
 have jS:((w.alloc (.cells #[.int .i64 x.2.kind,.string (aC x.2.name),.int .i64 x.2.line,.int .i64 x.2.col,.slice fa x.2.fields.length fc,.slice va x.2.values.length vc,.slice ma nf mc,.slice ia x.2.inner.length ic,.string (aC x.1)] 117)).alloc (.cells #[.int .i64 0,.int .i64 0] 31)).heap[w.heap.size]? = some (.cells #[.int .i64 x.2.kind,.string (aC x.2.name),.int .i64 x.2.line,.int .i64 x.2.col,.slice fa x.2.fields.length fc,.slice va x.2.values.length vc,.slice ma nf mc,.slice ia x.2.inner.length ic,.string (aC x.1)] 117 (0,0)):=by
  rw[aD _ _ _ (by simp)];exact alloc_heap_new _ _
 have iH:((w.alloc (.cells #[.int .i64 x.2.kind,.string (aC x.2.name),.int .i64 x.2.line,.int .i64 x.2.col,.slice fa x.2.fields.length fc,.slice va x.2.values.length vc,.slice ma nf mc,.slice ia x.2.inner.length ic,.string (aC x.1)] 117)).alloc (.cells #[.int .i64 0,.int .i64 0] 31)).heap.size=w.heap.size+2:=by simp
 go_enter Tryz.func65,Tryz.ntmps65
 go_upto_region 1 with fail
 generalize ((w.alloc (.cells #[.int .i64 x.2.kind,.string (aC x.2.name),.int .i64 x.2.line,.int .i64 x.2.col,.slice fa x.2.fields.length fc,.slice va x.2.values.length vc,.slice ma nf mc,.slice ia x.2.inner.length ic,.string (aC x.1)] 117)).alloc (.cells #[.int .i64 0,.int .i64 0] 31))=V at *
 have v4:=aA jS 6 rfl
 have iA:=aB dO
 have mV:=aB jS
 have kI:=aB hV1
 have Gd:w.heap.size+2≤V.heap.size:=by omega
 have HBV:=aB (HB.out.below (W:=V) dO)
 have HXB:Hid (∀ b,xv.ownBlock=some b→b<w.heap.size):=fun b hb=>(aE HB.out.ts b hb).2
 clear dO jS hV1 iH
 go_wp2_with fail
 clear v4
 go_loopw [15] (fun i wr=>∃ (k:Nat) (xv':Value),i=.int .i64 (k:Int)∧k≤nf∧aQ (mQ f types ps n x) k=none∧Bd f base wr B mb tv mv ev xv' types ps n ⟨s.ms,s.es,(x.2.methods.take k).foldl (oL f types ps n x.2.name) s.ts⟩ mr er∧Below B w wr∧w.heap.size+2≤wr.heap.size∧wr.heap[w.heap.size]? = some (.cells #[.int .i64 x.2.kind,.string (aC x.2.name),.int .i64 x.2.line,.int .i64 x.2.col,.slice fa x.2.fields.length fc,.slice va x.2.values.length vc,.slice ma nf mc,.slice ia x.2.inner.length ic,.string (aC x.1)] 117 (0,0))∧wr.heap[w.heap.size+1]? = some (.cells #[.int .i64 0,.int .i64 0] 31 (0,0))∧(∀ b,b<w.heap.size→b≠B→xv.ownBlock≠some b→wr.heap[b]? = w.heap[b]?)∧(∀ b,xv'.ownBlock=some b→xv.ownBlock=some b∨w.heap.size+2≤b)) (fun i _=>nf - (intOf i).toNat)
 case atStart=>exact⟨0,xv,rfl,Nat.zero_le _,rfl,HBV.out,iA.out.mono (by omega),Gd,mV.out,kI.out,fun b h1 _ _=>iA.out.block b h1,fun b hb=>.inl hb⟩
 case round=>
  generalize wr=w1 at *
  obtain⟨k,xv1,rfl,hk,hfs,hbd,hbel,hsz,hx0,hx1,hoth,hxo⟩:=hrel
  have aBn:=aB hbel
  have fW:=aB hfs
  have vD:=aB hbd
  have H0:=aB hx0
  have H1:=aB hx1
  have Xk:=aB hoth
  have HXO:=aB hxo
  clear hbel hfs hx0 hx1 hoth hxo mV kI iA HBV
  have hxne:∀ b,w.heap.size≤b→b<w.heap.size+2→xv1.ownBlock≠some b:=fun b h1 h2 e=>by
   rcases HXO.out b e with h | h
   ·have:=HXB.out b h;omega
   ·omega
  have aGx:=aB hxne
  have htl:=xL f types ps n x.2.name (x.2.methods.take k) s.ts
  have hkl:(x.2.methods.take k).length=k:=by rw[List.length_take,gI.out];omega
  rw[hkl]at htl
  obtain⟨mX,aGy⟩:∃ T,(x.2.methods.take k).foldl (oL f types ps n x.2.name) s.ts=T:=⟨_,rfl⟩
  rw[aGy]at htl vD hbd
  obtain⟨fC,fD,hxv⟩:=aO hbd.ts
  have hxv:xv1=.slice fC mX.length fD:=hxv
  subst hxv
  have aGz:=aB aGy
  have bFb:mX.length≤300000:=by omega
  clear hbd hxne hkl aGy htl
  by_cases hkn:k<nf
  ·obtain⟨y,hy⟩:∃ y,x.2.methods[k]? = some y:=⟨_,List.getElem?_eq_getElem (by have:=gI.out;omega)⟩
   obtain⟨hil,hol,aMx⟩:=rQ.out y (List.mem_of_getElem? hy)
   obtain⟨g,oo,c0,hsl,hg,e0,e1,e2,e3,e4⟩:=rN eO.out.2.2.1 (W:=w1) (fun b hb=>Xk.out b hb.1 hb.2.1 hb.2.2.2.2) hy
   rw[gI.out]at hsl
   obtain⟨rfl,rfl⟩:ma=some ⟨g,oo,none⟩∧mc=c0:=by
    injection hsl with h1 _ h3
    exact⟨h1,h3⟩
   have Sb:Hid (mQ f types ps n x k=if (Qr f types ps n y.inp).isNone=true∨(Qr f types ps n y.out).isNone=true then some (y.line,y.col) else none):=by
    refine(?_:_=_)
    unfold mQ
    rw[hy]
   have nE:Hid ((x.2.methods.take (k+1)).foldl (oL f types ps n x.2.name) s.ts=mX++[⟨mX.length+1,x.2.name,y.name,(Qr f types ps n y.inp).getD 0,(Qr f types ps n y.out).getD 0⟩]):=by
    refine(?_:_=_)
    rw[aY hy,List.foldl_append,aGz.out];rfl
   have hk0:(0:Int)≤(k:Int):=by omega
   have hk1:(k:Int)<(nf:Int):=by omega
   have hwq:=eE k (by omega)
   clear hsl hy
   have hC:(w1.alloc (.cells #[.string (aC y.name),.string (aC y.inp),.string (aC y.out),.int .i64 y.line,.int .i64 y.col] 77)).heap[w1.heap.size]? = some (.cells #[.string (aC y.name),.string (aC y.inp),.string (aC y.out),.int .i64 y.line,.int .i64 y.col] 77 (0,0)):=alloc_heap_new _ _
   have bG:Below w1.heap.size w1 (w1.alloc (.cells #[.string (aC y.name),.string (aC y.inp),.string (aC y.out),.int .i64 y.line,.int .i64 y.col] 77)):=(Below.refl _ w1).alloc (Nat.le_refl _) _
   go_upto_region 4 with fail
   generalize (w1.alloc (.cells #[.string (aC y.name),.string (aC y.inp),.string (aC y.out),.int .i64 y.line,.int .i64 y.col] 77))=Y at *
   have l0:=aA hC 0 rfl
   have l1:=aA hC 1 rfl
   have l2:=aA hC 2 rfl
   have l3:=aA hC 3 rfl
   have l4:=aA hC 4 rfl
   have hYs:=bG.size
   have hYl:=aN hC
   have cE:=aB bG
   have sW:Hid (Y.heap[w1.heap.size]? = some (.cells #[.string (aC y.name),.string (aC y.inp),.string (aC y.out),.int .i64 y.line,.int .i64 y.col] 77 (0,0))):=hC
   have Kv:=aB (vD.out.below (W:=Y) bG)
   have hm1:=Nd f types ps n B mb tv _ ev _ y.inp Y wT.out.ct wT.out.fit wT.out.txt hil (fun z hz=>wT.out.sym _ _ z hz) Kv.out.bl
   obtain⟨RI,hRI⟩:∃ r,Qr f types ps n y.inp=r:=⟨_,rfl⟩
   obtain⟨RO,hRO⟩:∃ r,Qr f types ps n y.out=r:=⟨_,rfl⟩
   rw[hRI]at hm1 Sb nE
   rw[hRO]at Sb nE
   have HRO:=aB hRO
   clear hC bG e0 e1 e2 e3 e4 hRI hRO
   go_wp2_with fail
   refine hm1.mono ?_
   rintro e W2 ⟨mi,b,rfl,hr1,hb2⟩
   have Cq:=hb2.size
   have HW2:=aB (cE.out.trans (hb2.mono hYs))
   have tW:Hid (W2.heap[w1.heap.size]? = some (.cells #[.string (aC y.name),.string (aC y.inp),.string (aC y.out),.int .i64 y.line,.int .i64 y.col] 77 (0,0))):=(hb2.block _ hYl).trans sW.out
   have HR1:=aB hr1
   clear hb2 hr1 l0 l1 l2 l3 l4 hm1 sW Kv
   cases b
   case false=>
    have hno:RI=none:=by
     rcases HR1.out with ⟨h,_⟩ | ⟨_,h⟩
     ·cases h
     ·exact h
    have fU:Hid (mQ f types ps n x k=some (y.line,y.col)):=by
     refine(?_:_=_)
     rw[Sb.out,hno];rw[if_pos (.inl rfl)]
    have q4:=aA tW.out 3 rfl
    have q5:=aA tW.out 4 rfl
    have hw1:W2.heap[w.heap.size+1]? = some (.cells #[.int .i64 0,.int .i64 0] 31 (0,0)):=(HW2.out.block _ (by omega)).trans H1.out
    have k0:=aA hw1 0 rfl
    have k1:=aA hw1 1 rfl
    have mI:=aF hw1 0
    have mJ:=aF hw1 1
    obtain⟨Z,hZ,z8,zo,zs,zb⟩:=bU hw1 (.int .i64 y.line) (.int .i64 y.col)
    have HZ:=aB hZ
    have r0:=aA z8 0 rfl
    have r1:=aA z8 1 rfl
    have aWf:=HW2.out.size
    have Xi:Hid (∀ b,b<w.heap.size→b≠B→xv.ownBlock≠some b→Z.heap[b]? = w.heap[b]?):=fun b h1 h2 h3=>(zo b (by omega)).trans ((HW2.out.block b (by omega)).trans (Xk.out b h1 h2 h3))
    have hZs:w.heap.size≤Z.heap.size:=by omega
    have Gu:Hid (Below B w Z):=(aBn.out.trans (HW2.out.mono (by omega))).trans (zb.mono (by omega))
    clear hZ z8 zo zs zb hw1
    go_wp2_with fail
    rw[HZ.out]
    refine bodyPost_ret (v:=.tuple #[.agg #[.int .i64 y.line,.int .i64 y.col],.bool true]) (by simp[results,Tryz.results65,go_sem,r0,r1]) rfl ?_
    exact⟨_,_,_,rfl,Gu.out,hZs,Xi.out,.inl ⟨rfl,by rw[gI.out];exact aI fW.out fU.out (by omega)⟩⟩
   case true=>
    have hsi:RI=some mi:=by
     rcases HR1.out with ⟨_,h⟩ | ⟨h,_⟩
     ·exact h
     ·cases h
    rw[hsi]at Sb nE
    have aWg:=aB (vD.out.below (W:=W2) HW2.out)
    have hm2:=Nd f types ps n B mb tv _ ev _ y.out W2 wT.out.ct wT.out.fit wT.out.txt hol (fun z hz=>wT.out.sym _ _ z hz) aWg.out.bl
    rw[HRO.out]at hm2
    have q2:=aA tW.out 2 rfl
    clear hsi HR1
    go_wp2_with fail
    refine hm2.mono ?_
    rintro e W3 ⟨mo,b,rfl,hr2,hb3⟩
    have Ho:=hb3.size
    have HW3:=aB (HW2.out.trans (hb3.mono HW2.out.size))
    have h2l:=aN tW.out
    have Hn:Hid (W3.heap[w1.heap.size]? = some (.cells #[.string (aC y.name),.string (aC y.inp),.string (aC y.out),.int .i64 y.line,.int .i64 y.col] 77 (0,0))):=(hb3.block _ h2l).trans tW.out
    have HR2:=aB hr2
    clear hb3 hr2 q2 hm2
    cases b
    case false=>
     have hno:RO=none:=by
      rcases HR2.out with ⟨h,_⟩ | ⟨_,h⟩
      ·cases h
      ·exact h
     have fU:Hid (mQ f types ps n x k=some (y.line,y.col)):=by
      refine(?_:_=_)
      rw[Sb.out,hno];rw[if_pos (.inr rfl)]
     have q4:=aA Hn.out 3 rfl
     have q5:=aA Hn.out 4 rfl
     have hw1:W3.heap[w.heap.size+1]? = some (.cells #[.int .i64 0,.int .i64 0] 31 (0,0)):=(HW3.out.block _ (by omega)).trans H1.out
     have k0:=aA hw1 0 rfl
     have k1:=aA hw1 1 rfl
     have mI:=aF hw1 0
     have mJ:=aF hw1 1
     obtain⟨Z,hZ,z8,zo,zs,zb⟩:=bU hw1 (.int .i64 y.line) (.int .i64 y.col)
     have HZ:=aB hZ
     have r0:=aA z8 0 rfl
     have r1:=aA z8 1 rfl
     have aWf:=HW3.out.size
     have Xi:Hid (∀ b,b<w.heap.size→b≠B→xv.ownBlock≠some b→Z.heap[b]? = w.heap[b]?):=fun b h1 h2 h3=>(zo b (by omega)).trans ((HW3.out.block b (by omega)).trans (Xk.out b h1 h2 h3))
     have hZs:w.heap.size≤Z.heap.size:=by omega
     have Gu:Hid (Below B w Z):=(aBn.out.trans (HW3.out.mono (by omega))).trans (zb.mono (by omega))
     clear hZ z8 zo zs zb hw1
     go_wp2_with fail
     rw[HZ.out]
     refine bodyPost_ret (v:=.tuple #[.agg #[.int .i64 y.line,.int .i64 y.col],.bool true]) (by simp[results,Tryz.results65,go_sem,r0,r1]) rfl ?_
     exact⟨_,_,_,rfl,Gu.out,hZs,Xi.out,.inl ⟨rfl,by rw[gI.out];exact aI fW.out fU.out (by omega)⟩⟩
    case true=>
     have hso:RO=some mo:=by
      rcases HR2.out with ⟨_,h⟩ | ⟨h,_⟩
      ·exact h
      ·cases h
     rw[hso]at Sb nE
     have mK:Hid (mQ f types ps n x k=none):=by
      refine(?_:_=_)
      rw[Sb.out,if_neg (by simp)]
     have Xl:=aB (vD.out.below (W:=W3) HW3.out)
     have Rs:=fun W=>lK (aC x.2.name) W (by rw[aV];omega)
     have aWh:=fun W=>lK (aC y.name) W (by rw[aV];omega)
     have bFe:=HW3.out.size
     have h3l:=aN Hn.out
     have aNf:=Xl.out.lt
     have hbb:=Xl.out.bb
     have hB1:=vD.out.lt
     have h30:W3.heap[w.heap.size]? = some (.cells #[.int .i64 x.2.kind,.string (aC x.2.name),.int .i64 x.2.line,.int .i64 x.2.col,.slice fa x.2.fields.length fc,.slice va x.2.values.length vc,.slice (some ⟨g,oo,none⟩) nf mc,.slice ia x.2.inner.length ic,.string (aC x.1)] 117 (0,0)):=(HW3.out.block _ (by omega)).trans H0.out
     have dG:W3.drew.heap[w1.heap.size]? = some (.cells #[.string (aC y.name),.string (aC y.inp),.string (aC y.out),.int .i64 y.line,.int .i64 y.col] 77 (0,0))∧W3.drew.heap[w.heap.size]? = some (.cells #[.int .i64 x.2.kind,.string (aC x.2.name),.int .i64 x.2.line,.int .i64 x.2.col,.slice fa x.2.fields.length fc,.slice va x.2.values.length vc,.slice (some ⟨g,oo,none⟩) nf mc,.slice ia x.2.inner.length ic,.string (aC x.1)] 117 (0,0)):=⟨Hn.out,h30⟩
     have dM:W3.drew.heap[B]? = some (.cells #[tv,.map (some mb),mv,ev,.slice fC mX.length fD] 128 (0,0)):=Xl.out.cells
     have Qy:Hid (∀ W:World,(W.heap[w1.heap.size]? = some (.cells #[.string (aC y.name),.string (aC y.inp),.string (aC y.out),.int .i64 y.line,.int .i64 y.col] 77 (0,0))∧W.heap[w.heap.size]? = some (.cells #[.int .i64 x.2.kind,.string (aC x.2.name),.int .i64 x.2.line,.int .i64 x.2.col,.slice fa x.2.fields.length fc,.slice va x.2.values.length vc,.slice (some ⟨g,oo,none⟩) nf mc,.slice ia x.2.inner.length ic,.string (aC x.1)] 117 (0,0)))→W.heap[B]? = some (.cells #[tv,.map (some mb),mv,ev,.slice fC mX.length fD] 128 (0,0))→W.cell? ⟨w1.heap.size,0,none⟩=some (.string (aC y.name))∧W.cell? ⟨w.heap.size,1,none⟩=some (.string (aC x.2.name))∧W.cell? ⟨B,4,none⟩=some (.slice fC mX.length fD)):=fun W h1 h2=>⟨by simp[World.cell?,h1.1],by simp[World.cell?,h1.2],by simp[World.cell?,h2]⟩
     have qK:Hid (∀ b,(Value.slice fC mX.length fD).ownBlock=some b→base≤b∧b<w1.heap.size):=fun b hb=>aE vD.out.ts b hb
     have uI:Hid (W3.ownsRow base 45 5 (.slice fC mX.length fD) mX.length (mX.flatMap gD)):=Xl.out.ts
     have hwt:IntKind.i64.wrap ((mX.length:Int)+1)=(mX.length:Int)+1:=by rw[IntKind.wrap_i64];omega
     have hbs:=vD.out.sz
     clear hso HR2 h30
     go_upto_region 10 with fail
     refine xJ 28 (fun W=>W.heap[w1.heap.size]? = some (.cells #[.string (aC y.name),.string (aC y.inp),.string (aC y.out),.int .i64 y.line,.int .i64 y.col] 77 (0,0))∧W.heap[w.heap.size]? = some (.cells #[.int .i64 x.2.kind,.string (aC x.2.name),.int .i64 x.2.line,.int .i64 x.2.col,.slice fa x.2.fields.length fc,.slice va x.2.values.length vc,.slice (some ⟨g,oo,none⟩) nf mc,.slice ia x.2.inner.length ic,.string (aC x.1)] 117 (0,0))) (fun W=>W.heap[B]? = some (.cells #[tv,.map (some mb),mv,ev,.slice fC mX.length fD] 128 (0,0))) (by kernel_rfl) ?_
     refine bL (i:=0) (v:=.pointer (some ⟨B,0,none⟩)) [27,26,25,0] rfl (by kernel_rfl) (fun _ _ _ h=>h) (.inl ⟨by kernel_rfl,fun W hW=>by go_simp⟩) ⟨dG,fun _=>dM⟩ ?_
     refine bL (i:=1) (v:=.pointer (some ⟨B,0,none⟩)) [24,5,4,3,2,1] rfl (by kernel_rfl) (fun _ _ _ h=>h) (.inl ⟨by kernel_rfl,fun W hW=>by go_simp⟩) ⟨dG,fun _=>dM⟩ ?_
     refine bL (i:=2) (v:=.pointer (some ⟨B,0,none⟩)) [24,5,4,3,2] rfl (by kernel_rfl) (fun _ _ _ h=>h) (.inl ⟨by kernel_rfl,fun W hW=>by go_simp⟩) ⟨dG,fun _=>dM⟩ ?_
     refine bL (i:=3) (v:=.pointer (some ⟨B,2,none⟩)) [24,5,4,3] rfl (by kernel_rfl) (fun _ _ _ h=>h) (.inl ⟨by kernel_rfl,fun W hW=>by go_simp⟩) ⟨dG,fun _=>dM⟩ ?_
     refine bL (i:=4) (v:=.pointer (some ⟨B,4,none⟩)) [24,5,4] rfl (by kernel_rfl) (fun _ _ _ h=>h) (.inl ⟨by kernel_rfl,fun W hW=>by go_simp⟩) ⟨dG,fun _=>dM⟩ ?_
     refine bL (i:=5) (v:=.slice fC mX.length fD) [24,5] rfl (by kernel_rfl) (fun _ _ _ h=>h) (.inl ⟨by kernel_rfl,fun W hW=>by obtain⟨u0,u1,up⟩:=Qy.out W hW.1 hW.2;go_simp⟩) ⟨dG,fun _=>dM⟩ ?_
     refine bL (i:=6) (v:=.pointer (some ⟨B,0,none⟩)) [24,23,22,12,11,10,9,8,7,6] rfl (by kernel_rfl) (fun _ _ _ h=>h) (.inl ⟨by kernel_rfl,fun W hW=>by go_simp⟩) ⟨dG,fun _=>dM⟩ ?_
     refine bL (i:=7) (v:=.pointer (some ⟨B,0,none⟩)) [24,23,22,12,11,10,9,8,7] rfl (by kernel_rfl) (fun _ _ _ h=>h) (.inl ⟨by kernel_rfl,fun W hW=>by go_simp⟩) ⟨dG,fun _=>dM⟩ ?_
     refine bL (i:=8) (v:=.pointer (some ⟨B,2,none⟩)) [24,23,22,12,11,10,9,8] rfl (by kernel_rfl) (fun _ _ _ h=>h) (.inl ⟨by kernel_rfl,fun W hW=>by go_simp⟩) ⟨dG,fun _=>dM⟩ ?_
     refine bL (i:=9) (v:=.pointer (some ⟨B,4,none⟩)) [24,23,22,12,11,10,9] rfl (by kernel_rfl) (fun _ _ _ h=>h) (.inl ⟨by kernel_rfl,fun W hW=>by go_simp⟩) ⟨dG,fun _=>dM⟩ ?_
     refine bL (i:=10) (v:=.slice fC mX.length fD) [24,23,22,12,11,10] rfl (by kernel_rfl) (fun _ _ _ h=>h) (.inl ⟨by kernel_rfl,fun W hW=>by obtain⟨u0,u1,up⟩:=Qy.out W hW.1 hW.2;go_simp⟩) ⟨dG,fun _=>dM⟩ ?_
     refine bL (i:=11) (v:=.int .i64 (mX.length:Int)) [24,23,22,12,11] rfl (by kernel_rfl) (fun _ _ _ h=>h) (.inl ⟨by kernel_rfl,fun W hW=>by go_simp⟩) ⟨dG,fun _=>dM⟩ ?_
     refine bL (i:=12) (v:=.int .i64 ((mX.length:Int)+1)) [24,23,22,12] rfl (by kernel_rfl) (fun _ _ _ h=>h) (.inl ⟨by kernel_rfl,fun W hW=>by go_simp⟩) ⟨dG,fun _=>dM⟩ ?_
     refine bL (i:=13) (v:=.pointer (some ⟨w.heap.size,0,none⟩)) [24,23,22,16,15,14,13] rfl (by kernel_rfl) (fun _ _ _ h=>h) (.inl ⟨by kernel_rfl,fun W hW=>by go_simp⟩) ⟨dG,fun _=>dM⟩ ?_
     refine bL (i:=14) (v:=.pointer (some ⟨w.heap.size,1,none⟩)) [24,23,22,16,15,14] rfl (by kernel_rfl) (fun _ _ _ h=>h) (.inl ⟨by kernel_rfl,fun W hW=>by go_simp⟩) ⟨dG,fun _=>dM⟩ ?_
     refine bL (i:=15) (v:=.string (aC x.2.name)) [24,23,22,16,15] rfl (by kernel_rfl) (fun _ _ _ h=>h) (.inl ⟨by kernel_rfl,fun W hW=>by obtain⟨u0,u1,up⟩:=Qy.out W hW.1 hW.2;go_simp⟩) ⟨dG,fun _=>dM⟩ ?_
     refine bL (i:=17) (v:=.pointer (some ⟨w1.heap.size,0,none⟩)) [24,23,22,19,18,17] rfl (by kernel_rfl) (fun _ _ _ h=>h) (.inl ⟨by kernel_rfl,fun W hW=>by go_simp⟩) ⟨dG,fun _=>dM⟩ ?_
     refine bL (i:=18) (v:=.string (aC y.name)) [24,23,22,19,18] rfl (by kernel_rfl) (fun _ _ _ h=>h) (.inl ⟨by kernel_rfl,fun W hW=>by obtain⟨u0,u1,up⟩:=Qy.out W hW.1 hW.2;go_simp⟩) ⟨dG,fun _=>dM⟩ ?_
     refine bL (i:=20) (v:=.int .i64 mi) [24,23,22,20] rfl (by kernel_rfl) (fun _ _ _ h=>h) (.inl ⟨by kernel_rfl,fun W hW=>by go_simp⟩) ⟨dG,fun _=>dM⟩ ?_
     refine bL (i:=21) (v:=.int .i64 mo) [24,23,22,21] rfl (by kernel_rfl) (fun _ _ _ h=>h) (.inl ⟨by kernel_rfl,fun W hW=>by go_simp⟩) ⟨dG,fun _=>dM⟩ ?_
     refine lW (i:=16) (by kernel_rfl) rfl (fun K hK=>?_)
     go_simp
     refine(Rs _).mono ?_
     rintro e4 W4 ⟨rfl,hb4⟩
     have Bg:Below W3.heap.size W3 W4:=(Below.refl _ W3).drew.trans hb4
     have hy4:W4.heap[w1.heap.size]? = _∧W4.heap[w.heap.size]? = _:=⟨(Bg.block _ h3l).trans dG.1,(Bg.block _ (by omega)).trans dG.2⟩
     have hp4:=(Bg.block _ aNf).trans dM
     dsimp only
     refine hK.out _ _ ⟨hy4,fun _=>hp4⟩ ?_
     clear hK K
     refine lW (i:=19) (by kernel_rfl) rfl (fun K hK=>?_)
     go_simp
     refine(aWh _).mono ?_
     rintro e5 W5 ⟨rfl,hb5⟩
     have gT:Below W3.heap.size W3 W5:=Bg.trans (hb5.mono Bg.size)
     have xT:W5.heap[w1.heap.size]? = _∧W5.heap[w.heap.size]? = _:=⟨(gT.block _ h3l).trans dG.1,(gT.block _ (by omega)).trans dG.2⟩
     have Gs:=(gT.block _ aNf).trans dM
     have ho5:W5.ownsRow base 45 5 (.slice fC mX.length fD) mX.length (mX.flatMap gD):=(aR uI.out fun b hb=>gT.block b (by have:=qK.out b hb;omega))
     have h5s:=gT.size
     dsimp only
     refine hK.out _ _ ⟨xT,fun _=>Gs⟩ ?_
     clear hK K
     refine bL (i:=22) (v:=.agg #[.int .i64 ((mX.length:Int)+1),.string (aC x.2.name),.string (aC y.name),.int .i64 mi,.int .i64 mo]) [24,23,22] rfl (by kernel_rfl) (fun _ _ _ h=>h) (.inl ⟨by kernel_rfl,fun W hW=>by go_simp⟩) ⟨xT,fun _=>Gs⟩ ?_
     refine lW (i:=23) (by kernel_rfl) rfl (fun K hK=>?_)
     go_simp
     refine hK.out _ _ ⟨⟨(aD _ _ _ (by omega)).trans xT.1,(aD _ _ _ (by omega)).trans xT.2⟩,fun _=>(aD _ _ _ (by omega)).trans Gs⟩ ?_
     clear hK K
     refine lW (i:=24) (by kernel_rfl) rfl (fun K hK=>?_)
     refine lQ (T:=45) Tryz.underlying27 aBl rfl (by decide) (ho5.alloc _) (by simp;omega) (gD ⟨(mX.length:Int)+1,x.2.name,y.name,mi,mo⟩) rfl (Ra _) W5.heap.size (alloc_heap_new _ _) rfl _ _ rfl rfl rfl (by unfold maxLen;omega) (by omega) ?_
     intro g6 cap6 W6 hown6 jA uS aBh
     have hgr5:W5.grownBy W6 (Value.slice fC mX.length fD).ownBlock:=((World.grownBy_alloc _ _ _).trans jA)
     have yM:W6.heap[B]? = some (.cells #[tv,.map (some mb),mv,ev,.slice fC mX.length fD] 128 (0,0)):=((hgr5.block _ (by omega) (fun e=>by have:=qK.out _ e.symm;omega)).trans Gs)
     have Gt:W6.heap[w1.heap.size]? = _∧W6.heap[w.heap.size]? = _:=⟨(hgr5.block _ (by omega) (fun e=>by have:=qK.out _ e.symm;omega)).trans xT.1,(hgr5.block _ (by omega) (fun e=>aGx.out _ (Nat.le_refl _) (by omega) e.symm)).trans xT.2⟩
     have c61:W6.cell? ⟨B,4,none⟩=some (.slice fC mX.length fD):=(by simp[World.cell?,yM])
     have f61:W6.frozen? ⟨B,4,none⟩=false:=(by simp[World.frozen?,yM])
     refine hK.out _ _ ⟨Gt,fun _=>yM⟩ ?_
     clear hK K
     refine bL (i:=25) (v:=.pointer (some ⟨B,0,none⟩)) [27,26,25] rfl (by kernel_rfl) (fun _ _ _ h=>h) (.inl ⟨by kernel_rfl,fun W hW=>by go_simp⟩) ⟨Gt,fun _=>yM⟩ ?_
     refine bL (i:=26) (v:=.pointer (some ⟨B,2,none⟩)) [27,26] rfl (by kernel_rfl) (fun _ _ _ h=>h) (.inl ⟨by kernel_rfl,fun W hW=>by go_simp⟩) ⟨Gt,fun _=>yM⟩ ?_
     refine bL (i:=27) (v:=.pointer (some ⟨B,4,none⟩)) [27] rfl (by kernel_rfl) (fun _ _ _ h=>h) (.inl ⟨by kernel_rfl,fun W hW=>by go_simp⟩) ⟨Gt,fun _=>yM⟩ ?_
     refine lW (i:=28) (by kernel_rfl) rfl (fun K hK=>?_)
     go_simp
     refine hK.out _ _ ⟨⟨(Below.heap_setCell _ _ _ _ (by show w1.heap.size≠B;omega)).trans Gt.1,(Below.heap_setCell _ _ _ _ (by show w.heap.size≠B;omega)).trans Gt.2⟩,fun h=>(by cases h)⟩ ?_
     clear hK K
     refine Ks (by kernel_rfl) ?_ _
     have aNg:=Xl.out.below (W:=W5) gT
     have Ch:(Value.slice fC mX.length fD).ownBlock=some g6∨W5.heap.size≤g6:=uS.imp id fun e=>by rw[e];simp
     have hpush:=aNg.aMv ⟨(mX.length:Int)+1,x.2.name,y.name,mi,mo⟩ g6 cap6 hown6 hgr5 Ch
     have sX:∀ b,b<w1.heap.size→b≠B→(Value.slice fC mX.length fD).ownBlock≠some b→(W6.setCell ⟨B,4,none⟩ (.slice (some ⟨g6,0,none⟩) (mX.length+1) cap6)).heap[b]? = w1.heap[b]?:=fun b h1 h2 h3=>by
      rw[Below.heap_setCell _ _ _ _ h2,hgr5.block b (by omega) (fun e=>h3 e.symm)]
      exact(gT.block b (by omega)).trans (HW3.out.block b h1)
     have Fo:W5.heap.size≤(W6.setCell ⟨B,4,none⟩ (.slice (some ⟨g6,0,none⟩) (mX.length+1) cap6)).heap.size:=by have:=hgr5.size;simp;omega
     have hQB:Below B w (W6.setCell ⟨B,4,none⟩ (.slice (some ⟨g6,0,none⟩) (mX.length+1) cap6)):=(show Below B w W6 from (aBn.out.trans ((HW3.out.trans (gT.mono HW3.out.size)).mono (by omega))).grown hgr5 (by omega) (fun b hb=>by have:=qK.out b hb;omega)).setCell (p:=⟨B,4,none⟩) (Nat.le_refl _) _
     obtain⟨Q,hQ⟩:∃ Q,(W6.setCell ⟨B,4,none⟩ (.slice (some ⟨g6,0,none⟩) (mX.length+1) cap6))=Q:=⟨_,rfl⟩
     rw[hQ]at hpush sX Fo hQB
     have HQB:=aB hQB
     have HQ:=aB hQ
     have HPU:Hid (Bd f base Q B mb tv mv ev (.slice (some ⟨g6,0,none⟩) (mX.length+1) cap6) types ps n ⟨s.ms,s.es,mX++[⟨(mX.length:Int)+1,x.2.name,y.name,mi,mo⟩]⟩ mr er):=hpush
     have HQ0:Hid (Q.heap[w.heap.size]? = _):=(sX _ (by omega) (by omega) (aGx.out _ (Nat.le_refl _) (by omega))).trans H0.out
     have HQ1:Hid (Q.heap[w.heap.size+1]? = some (.cells #[.int .i64 0,.int .i64 0] 31 (0,0))):=(sX _ (by omega) (by omega) (aGx.out _ (by omega) (by omega))).trans H1.out
     have hxx:∀ b,b<w.heap.size→xv.ownBlock≠some b→(Value.slice fC mX.length fD).ownBlock≠some b:=fun b h1 h2 e=>by
      rcases HXO.out b e with h | h
      ·exact h2 h
      ·omega
     have HQT:Hid (∀ b,b<w.heap.size→b≠B→xv.ownBlock≠some b→Q.heap[b]? = w.heap[b]?):=fun b h1 h2 h3=>(sX b (by omega) h2 (hxx b h1 h3)).trans (Xk.out b h1 h2 h3)
     have HQX:Hid (∀ b,(Value.slice (some ⟨g6,0,none⟩) (mX.length+1) cap6).ownBlock=some b→xv.ownBlock=some b∨w.heap.size+2≤b):=fun b hb=>by
      have hb':g6=b:=Option.some.inj hb
      subst hb'
      rcases Ch with e | e
      ·exact HXO.out _ e
      ·right;omega
     have aWi:w.heap.size+2≤Q.heap.size:=by omega
     clear hQB hQ hpush sX Fo hown6 jA hgr5 uS Ch hb4 Bg hb5 gT ho5 hy4 hp4 xT Gs yM Gt dG dM aNg hxx
     rw[HQ.out]
     clear c61 f61
     go_wp2_with fail
     go_roundw
     case rel=>exact⟨k+1,_,by go_num,by omega,bD fW.out mK.out,by rw[nE.out];exact HPU.out,HQB.out,aWi,HQ0.out,HQ1.out,HQT.out,HQX.out⟩
     case measure=>simp[intOf];omega
  ·have hkn':¬(k:Int)<(nf:Int):=by omega
   have hke:k=nf:=by omega
   have hte:x.2.methods.take k=x.2.methods:=List.take_of_length_le (by have:=gI.out;omega)
   rw[hte]at aGz
   have h1:=H1.out
   have k0:=aA h1 0 rfl
   have k1:=aA h1 1 rfl
   have mI:=aF h1 0
   have mJ:=aF h1 1
   obtain⟨Z,hZ,z8,zo,zs,zb⟩:=bU h1 (.int .i64 0) (.int .i64 0)
   have HZ:=aB hZ
   have r0:=aA z8 0 rfl
   have r1:=aA z8 1 rfl
   have hall:∀ b,Z.heap[b]? = w1.heap[b]?:=fun b=>by
    by_cases hbe:b=w.heap.size+1
    ·subst hbe;rw[z8,h1]
    ·exact zo b hbe
   have iU:=aB (vD.out.grow (W:=Z) (by omega) fun b _=>hall b)
   have Xi:Hid (∀ b,b<w.heap.size→b≠B→xv.ownBlock≠some b→Z.heap[b]? = w.heap[b]?):=fun b h1 h2 h3=>(hall b).trans (Xk.out b h1 h2 h3)
   have hZs:w.heap.size≤Z.heap.size:=by omega
   have Gu:Hid (Below B w Z):=aBn.out.trans (zb.mono (by omega))
   have uN:=aB hke
   clear hZ z8 zo zs zb hall h1 hke hte hkn
   go_wp2_with fail
   rw[HZ.out]
   refine bodyPost_ret (v:=.tuple #[.agg #[.int .i64 0,.int .i64 0],.bool false]) (by simp[results,Tryz.results65,go_sem,r0,r1]) rfl ?_
   exact⟨_,_,_,rfl,Gu.out,hZs,Xi.out,.inr ⟨rfl,rfl,rfl,by rw[gI.out,←uN.out];exact fW.out,_,by rw[aGz.out];exact iU.out⟩⟩
end Go.Proofs.YtpojeinddnjpfaaGreatDoor
