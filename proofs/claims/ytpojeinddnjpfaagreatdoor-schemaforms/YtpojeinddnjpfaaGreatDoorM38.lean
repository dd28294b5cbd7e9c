/-
  Walks and plain words (SkE).
-/
import Derived.Test.YtpojeinddnjpfaaGreatDoorM0
import Derived.Test.YtpojeinddnjpfaaGreatDoorM37
namespace Go.Proofs.YtpojeinddnjpfaaGreatDoor
set_option linter.unusedVariables false
open Go.ChangeShapes Go.WideShapes Go.ChangeAt Go.RowKit Go.Maps

theorem aBj:(Tryz.prog.info? 93).map (fun i=>(i.zero,i.size,i.bytes))=some (some (.agg #[.string ⟨#[]⟩,.int .i64 0]),2,24):=by kernel_rfl
theorem aBk:(Tryz.prog.info? 91).map (fun i=>(i.zero,i.size,i.bytes))=some (some (.agg #[.string ⟨#[]⟩,.slice none 0 0]),2,40):=by kernel_rfl
theorem Qz (x:VD):∀ u∈eV x,u.oneCell'=true:=by
 intro u hu
 simp only[eV,List.mem_cons,List.not_mem_nil,or_false]at hu
 rcases hu with rfl | rfl <;> rfl
def aGv (f base B mb:Nat) (tv mv ev xv:Value) (types:List Dc) (ps:List Pl) (n:Nat) (s:SC) (mr er:List (List Value)) (x:Pl) (w:World) (e:Ending) (w':World):Prop:=
 e=.returned (.tuple #[])∧Below B w w'∧w.heap.size≤w'.heap.size∧(∀ b,b<w.heap.size→b≠B→ev.ownBlock≠some b→w'.heap[b]? = w.heap[b]?)∧∃ (ev':Value) (er':List (List Value)),Bd f base w' B mb tv mv ev' xv types ps n ⟨s.ms,s.es++[Es x],s.ts⟩ mr er'
set_option maxHeartbeats 16000000 in
set_option maxRecDepth 20000 in
theorem Xj (f base B mb:Nat) (tv mv ev xv:Value) (types:List Dc) (ps:List Pl) (n:Nat) (s:SC) (mr er:List (List Value)) (x:Pl) (fa va ma ia:Option Addr) (fc vc mc ic:Nat) (w:World) (F:Nat)
  (hfl:x.2.values.length≤100000) (hft:∀ y∈x.2.values,y.name.length≤1000000) (hms:s.es.length≤100000)
  (hB:Bd f base w B mb tv mv ev xv types ps n s mr er) (kd:Kids F w (Aa w B mv ev xv) (.slice fa x.2.fields.length fc) (.slice va x.2.values.length vc) (.slice ma x.2.methods.length mc) (.slice ia x.2.inner.length ic) x.2) :
  Calls Tryz.prog 64 #[.pointer (some ⟨B,0,none⟩),.agg #[.int .i64 x.2.kind,.string (aC x.2.name),.int .i64 x.2.line,.int .i64 x.2.col,.slice fa x.2.fields.length fc,.slice va x.2.values.length vc,.slice ma x.2.methods.length mc,.slice ia x.2.inner.length ic,.string (aC x.1)]] w fun e w'=>aGv f base B mb tv mv ev xv types ps n s mr er x w e w':=by
 have rQ:=aB hft
 have HB:=aB hB
 have eO:=aB kd
 have hBlt:=hB.lt
 obtain⟨Ni,Nj,hev⟩:=aO hB.es.own
 subst hev
 obtain⟨nf,hnf⟩:∃ k,x.2.values.length=k:=⟨_,rfl⟩
 have gI:=aB hnf
 rw[hnf]at hfl eO ⊢
 clear hft hB kd hnf
 have dO:Below w.heap.size w ((w.alloc (.cells #[.int .i64 x.2.kind,.string (aC x.2.name),.int .i64 x.2.line,.int .i64 x.2.col,.slice fa x.2.fields.length fc,.slice va nf vc,.slice ma x.2.methods.length mc,.slice ia x.2.inner.length ic,.string (aC x.1)] 117)).alloc (.cells #[.string (aC x.1),.slice none 0 0] 91)):=((Below.refl _ w).alloc (Nat.le_refl _) _).alloc (by simp) _
 have hV1:((w.alloc (.cells #[.int .i64 x.2.kind,.string (aC x.2.name),.int .i64 x.2.line,.int .i64 x.2.col,.slice fa x.2.fields.length fc,.slice va nf vc,.slice ma x.2.methods.length mc,.slice ia x.2.inner.length ic,.string (aC x.1)] 117)).alloc (.cells #[.string (aC x.1),.slice none 0 0] 91)).heap[w.heap.size+1]? = some (.cells #[.string (aC x.1),.slice none 0 0] 91 (0,0)):=by
  have:=alloc_heap_new (w.alloc (.cells #[.int .i64 x.2.kind,.string (aC x.2.name),.int .i64 x.2.line,.int .i64 x.2.col,.slice fa x.2.fields.length fc,.slice va nf vc,.slice ma x.2.methods.length mc,.slice ia x.2.inner.length ic,.string (aC x.1)] 117)) (.cells #[.string (aC x.1),.slice none 0 0] 91)
  simpa using this
 have jS:((w.alloc (.cells #[.int .i64 x.2.kind,.string (aC x.2.name),.int .i64 x.2.line,.int .i64 x.2.col,.slice fa x.2.fields.length fc,.slice va nf vc,.slice ma x.2.methods.length mc,.slice ia x.2.inner.length ic,.string (aC x.1)] 117)).alloc (.cells #[.string (aC x.1),.slice none 0 0] 91)).heap[w.heap.size]? = some (.cells #[.int .i64 x.2.kind,.string (aC x.2.name),.int .i64 x.2.line,.int .i64 x.2.col,.slice fa x.2.fields.length fc,.slice va nf vc,.slice ma x.2.methods.length mc,.slice ia x.2.inner.length ic,.string (aC x.1)] 117 (0,0)):=by
  rw[aD _ _ _ (by simp)];exact alloc_heap_new _ _
 have iH:((w.alloc (.cells #[.int .i64 x.2.kind,.string (aC x.2.name),.int .i64 x.2.line,.int .i64 x.2.col,.slice fa x.2.fields.length fc,.slice va nf vc,.slice ma x.2.methods.length mc,.slice ia x.2.inner.length ic,.string (aC x.1)] 117)).alloc (.cells #[.string (aC x.1),.slice none 0 0] 91)).heap.size=w.heap.size+2:=by simp
 go_enter Tryz.func64,Tryz.ntmps64
 go_upto_region 2 with fail
 generalize ((w.alloc (.cells #[.int .i64 x.2.kind,.string (aC x.2.name),.int .i64 x.2.line,.int .i64 x.2.col,.slice fa x.2.fields.length fc,.slice va nf vc,.slice ma x.2.methods.length mc,.slice ia x.2.inner.length ic,.string (aC x.1)] 117)).alloc (.cells #[.string (aC x.1),.slice none 0 0] 91))=V at *
 have v4:=aA jS 5 rfl
 have iA:=aB dO
 have mV:=aB jS
 have kI:=aB hV1
 have Gd:w.heap.size+2≤V.heap.size:=by omega
 clear dO jS hV1 iH
 go_wp2_with fail
 clear v4
 go_loopw [14] (fun i wr=>∃ (k:Nat) (fv:Value),i=.int .i64 (k:Int)∧k≤nf∧Below w.heap.size w wr∧w.heap.size+2≤wr.heap.size∧wr.heap[w.heap.size]? = some (.cells #[.int .i64 x.2.kind,.string (aC x.2.name),.int .i64 x.2.line,.int .i64 x.2.col,.slice fa x.2.fields.length fc,.slice va nf vc,.slice ma x.2.methods.length mc,.slice ia x.2.inner.length ic,.string (aC x.1)] 117 (0,0))∧wr.heap[w.heap.size+1]? = some (.cells #[.string (aC x.1),fv] 91 (0,0))∧wr.ownsRow (w.heap.size+2) 93 2 fv k (((x.2.values.take k).map fun v=>(⟨v.name,v.num⟩:VD)).flatMap eV)) (fun i _=>nf - (intOf i).toNat)
 case atStart=>exact⟨0,_,rfl,Nat.zero_le _,iA.out,Gd,mV.out,kI.out,World.ownsRow_nil _ _ _ _⟩
 case round=>
  generalize wr=w1 at *
  obtain⟨k,fv,rfl,hk,hbel,hsz,hx0,hx2,hown⟩:=hrel
  obtain⟨nF,nG,hfv⟩:=aO hown
  subst hfv
  have HBE:=aB hbel
  have H0:=aB hx0
  have H2:=aB hx2
  have HO:=aB hown
  clear hbel hx0 hx2 hown mV kI iA
  by_cases hkn:k<nf
  ·obtain⟨y,hy⟩:∃ y,x.2.values[k]? = some y:=⟨_,List.getElem?_eq_getElem (by have:=gI.out;omega)⟩
   have aMx:=rQ.out y (List.mem_of_getElem? hy)
   obtain⟨g,oo,c0,hsl,hg,e0,e1,e2,e3⟩:=rM eO.out.2.1 (W:=w1) (fun b hb=>HBE.out.block b hb.1) hy
   rw[gI.out]at hsl
   obtain⟨rfl,rfl⟩:va=some ⟨g,oo,none⟩∧vc=c0:=by
    injection hsl with h1 _ h3
    exact⟨h1,h3⟩
   have nE:Hid ((x.2.values.take (k+1)).map (fun v=>(⟨v.name,v.num⟩:VD))=((x.2.values.take k).map fun v=>(⟨v.name,v.num⟩:VD))++[⟨y.name,y.num⟩]):=by
    refine(?_:_=_)
    rw[aY hy,List.map_append];rfl
   have hk0:(0:Int)≤(k:Int):=by omega
   have hk1:(k:Int)<(nf:Int):=by omega
   have hwq:=eE k (by omega)
   obtain⟨XS,Ym⟩:∃ X,((x.2.values.take k).map fun v=>(⟨v.name,v.num⟩:VD))=X:=⟨_,rfl⟩
   rw[Ym]at HO nE
   clear hsl hy Ym
   have hC:(w1.alloc (.cells #[.string (aC y.name),.int .i64 y.num,.int .i64 y.line,.int .i64 y.col] 74)).heap[w1.heap.size]? = some (.cells #[.string (aC y.name),.int .i64 y.num,.int .i64 y.line,.int .i64 y.col] 74 (0,0)):=alloc_heap_new _ _
   have bG:Below w1.heap.size w1 (w1.alloc (.cells #[.string (aC y.name),.int .i64 y.num,.int .i64 y.line,.int .i64 y.col] 74)):=(Below.refl _ w1).alloc (Nat.le_refl _) _
   go_upto_region 5 with fail
   generalize (w1.alloc (.cells #[.string (aC y.name),.int .i64 y.num,.int .i64 y.line,.int .i64 y.col] 74))=Y at *
   have hYs:=bG.size
   have hYl:=aN hC
   have cE:=aB (HBE.out.trans (bG.mono (by omega)))
   have zO:Hid (Y.heap[w.heap.size]? = _):=(bG.block _ (by omega)).trans H0.out
   have dM:Y.drew.heap[w.heap.size+1]? = some (.cells #[.string (aC x.1),.slice nF k nG] 91 (0,0)):=(bG.block _ (by omega)).trans H2.out
   have dG:Y.drew.heap[w1.heap.size]? = some (.cells #[.string (aC y.name),.int .i64 y.num,.int .i64 y.line,.int .i64 y.col] 74 (0,0)):=hC
   have qK:Hid (∀ b,(Value.slice nF k nG).ownBlock=some b→w.heap.size+2≤b∧b<w1.heap.size):=fun b hb=>aE HO.out b hb
   have uI:Hid (Y.ownsRow (w.heap.size+2) 93 2 (.slice nF k nG) k (XS.flatMap eV)):=aR HO.out fun b hb=>bG.block b (aE HO.out b hb).2
   have Rs:=fun W=>lK (aC y.name) W (by rw[aV];omega)
   have Qy:Hid (∀ W:World,W.heap[w1.heap.size]? = some (.cells #[.string (aC y.name),.int .i64 y.num,.int .i64 y.line,.int .i64 y.col] 74 (0,0))→W.heap[w.heap.size+1]? = some (.cells #[.string (aC x.1),.slice nF k nG] 91 (0,0))→W.cell? ⟨w1.heap.size,0,none⟩=some (.string (aC y.name))∧W.cell? ⟨w1.heap.size,1,none⟩=some (.int .i64 y.num)∧W.cell? ⟨w.heap.size+1,1,none⟩=some (.slice nF k nG)):=fun W h1 h2=>⟨by simp[World.cell?,h1],by simp[World.cell?,h1],by simp[World.cell?,h2]⟩
   clear hC bG e0 e1 e2 e3 HO
   refine xJ 11 (fun W=>W.heap[w1.heap.size]? = some (.cells #[.string (aC y.name),.int .i64 y.num,.int .i64 y.line,.int .i64 y.col] 74 (0,0))) (fun W=>W.heap[w.heap.size+1]? = some (.cells #[.string (aC x.1),.slice nF k nG] 91 (0,0))) (by kernel_rfl) ?_
   refine bL (i:=0) (v:=.pointer (some ⟨w.heap.size+1,1,none⟩)) [9,1,0] rfl (by kernel_rfl) (fun _ _ _ h=>h) (.inl ⟨by kernel_rfl,fun W hW=>by go_simp⟩) ⟨dG,fun _=>dM⟩ ?_
   refine bL (i:=1) (v:=.slice nF k nG) [9,1] rfl (by kernel_rfl) (fun _ _ _ h=>h) (.inl ⟨by kernel_rfl,fun W hW=>by obtain⟨u0,u1,up⟩:=Qy.out W hW.1 hW.2;go_simp⟩) ⟨dG,fun _=>dM⟩ ?_
   refine bL (i:=2) (v:=.pointer (some ⟨w1.heap.size,0,none⟩)) [9,8,7,4,3,2] rfl (by kernel_rfl) (fun _ _ _ h=>h) (.inl ⟨by kernel_rfl,fun W hW=>by go_simp⟩) ⟨dG,fun _=>dM⟩ ?_
   refine bL (i:=3) (v:=.string (aC y.name)) [9,8,7,4,3] rfl (by kernel_rfl) (fun _ _ _ h=>h) (.inl ⟨by kernel_rfl,fun W hW=>by obtain⟨u0,u1,up⟩:=Qy.out W hW.1 hW.2;go_simp⟩) ⟨dG,fun _=>dM⟩ ?_
   refine bL (i:=5) (v:=.pointer (some ⟨w1.heap.size,1,none⟩)) [9,8,7,6,5] rfl (by kernel_rfl) (fun _ _ _ h=>h) (.inl ⟨by kernel_rfl,fun W hW=>by go_simp⟩) ⟨dG,fun _=>dM⟩ ?_
   refine bL (i:=6) (v:=.int .i64 y.num) [9,8,7,6] rfl (by kernel_rfl) (fun _ _ _ h=>h) (.inl ⟨by kernel_rfl,fun W hW=>by obtain⟨u0,u1,up⟩:=Qy.out W hW.1 hW.2;go_simp⟩) ⟨dG,fun _=>dM⟩ ?_
   refine lW (i:=4) (by kernel_rfl) rfl (fun K hK=>?_)
   go_simp
   refine(Rs _).mono ?_
   rintro e5 W5 ⟨rfl,hb5⟩
   have gT:Below Y.heap.size Y W5:=(Below.refl _ Y).drew.trans hb5
   have xT:=(gT.block _ hYl).trans dG
   have Gs:=(gT.block _ (by omega)).trans dM
   have ho5:W5.ownsRow (w.heap.size+2) 93 2 (.slice nF k nG) k (XS.flatMap eV):=(aR uI.out fun b hb=>gT.block b (by have:=qK.out b hb;omega))
   have h5s:=gT.size
   dsimp only
   refine hK.out _ _ ⟨xT,fun _=>Gs⟩ ?_
   clear hK K
   refine bL (i:=7) (v:=.agg #[.string (aC y.name),.int .i64 y.num]) [9,8,7] rfl (by kernel_rfl) (fun _ _ _ h=>h) (.inl ⟨by kernel_rfl,fun W hW=>by go_simp⟩) ⟨xT,fun _=>Gs⟩ ?_
   refine lW (i:=8) (by kernel_rfl) rfl (fun K hK=>?_)
   go_simp
   refine hK.out _ _ ⟨(aD _ _ _ (by omega)).trans xT,fun _=>(aD _ _ _ (by omega)).trans Gs⟩ ?_
   clear hK K
   refine lW (i:=9) (by kernel_rfl) rfl (fun K hK=>?_)
   refine lQ (T:=93) Tryz.underlying89 aBj rfl (by decide) (ho5.alloc _) (by simp;omega) (eV ⟨y.name,y.num⟩) rfl (Qz _) W5.heap.size (alloc_heap_new _ _) rfl _ _ rfl rfl rfl (by unfold maxLen;omega) (by omega) ?_
   intro g6 cap6 W6 hown6 jA uS aBh
   have hgr5:W5.grownBy W6 (Value.slice nF k nG).ownBlock:=((World.grownBy_alloc _ _ _).trans jA)
   have yM:W6.heap[w.heap.size+1]? = some (.cells #[.string (aC x.1),.slice nF k nG] 91 (0,0)):=((hgr5.block _ (by omega) (fun e=>by have:=qK.out _ e.symm;omega)).trans Gs)
   have Gt:W6.heap[w1.heap.size]? = _:=((hgr5.block _ (by omega) (fun e=>by have:=qK.out _ e.symm;omega)).trans xT)
   have c61:W6.cell? ⟨w.heap.size+1,1,none⟩=some (.slice nF k nG):=(by simp[World.cell?,yM])
   have f61:W6.frozen? ⟨w.heap.size+1,1,none⟩=false:=(by simp[World.frozen?,yM])
   refine hK.out _ _ ⟨Gt,fun _=>yM⟩ ?_
   clear hK K
   refine bL (i:=10) (v:=.pointer (some ⟨w.heap.size+1,1,none⟩)) [10] rfl (by kernel_rfl) (fun _ _ _ h=>h) (.inl ⟨by kernel_rfl,fun W hW=>by go_simp⟩) ⟨Gt,fun _=>yM⟩ ?_
   refine lW (i:=11) (by kernel_rfl) rfl (fun K hK=>?_)
   go_simp
   refine hK.out _ _ ⟨(Below.heap_setCell _ _ _ _ (by show w1.heap.size≠w.heap.size+1;omega)).trans Gt,fun h=>(by cases h)⟩ ?_
   clear hK K
   refine Ks (by kernel_rfl) ?_ _
   have hb6:Below (w.heap.size+2) Y W6:=(gT.mono (by omega)).grown hgr5 (by omega) (fun b hb=>(qK.out b hb).1)
   have hQp:(W6.setCell ⟨w.heap.size+1,1,none⟩ (.slice (some ⟨g6,0,none⟩) (k+1) cap6)).heap[w.heap.size+1]? = some (.cells #[.string (aC x.1),.slice (some ⟨g6,0,none⟩) (k+1) cap6] 91 (0,0)):=by rw[aG yM];rfl
   have sX:∀ b,b≠w.heap.size+1→(W6.setCell ⟨w.heap.size+1,1,none⟩ (.slice (some ⟨g6,0,none⟩) (k+1) cap6)).heap[b]? = W6.heap[b]?:=fun b hb=>Below.heap_setCell _ _ _ _ hb
   have Fo:(W6.setCell ⟨w.heap.size+1,1,none⟩ (.slice (some ⟨g6,0,none⟩) (k+1) cap6)).heap.size=W6.heap.size:=by simp
   have hQb:Below w.heap.size w (W6.setCell ⟨w.heap.size+1,1,none⟩ (.slice (some ⟨g6,0,none⟩) (k+1) cap6)):=(cE.out.trans (hb6.mono (by omega))).setCell (p:=⟨w.heap.size+1,1,none⟩) (by show w.heap.size≤w.heap.size+1;omega) _
   obtain⟨Q,hQ⟩:∃ Q,(W6.setCell ⟨w.heap.size+1,1,none⟩ (.slice (some ⟨g6,0,none⟩) (k+1) cap6))=Q:=⟨_,rfl⟩
   rw[hQ]at hQp sX Fo hQb
   have HQ:=aB hQ
   have vJ:Hid (Q.heap[w.heap.size]? = _):=(sX _ (by omega)).trans ((hb6.block _ (by omega)).trans zO.out)
   have H32:=aB hQp
   have HB3:=aB hQb
   have Ho:w.heap.size+2≤Q.heap.size:=by have:=hgr5.size;omega
   have HO3:Hid (Q.ownsRow (w.heap.size+2) 93 2 (.slice (some ⟨g6,0,none⟩) (k+1) cap6) (k+1) ((XS++[(⟨y.name,y.num⟩:VD)]).flatMap eV)):=by
    refine(?_:World.ownsRow _ _ _ _ _ _ _)
    rw[List.flatMap_append]
    refine aR ?_ fun b hb=>sX b (by have:=(aE hown6 b hb).1;omega)
    simpa using hown6
   clear hQ hQp sX Fo hQb hb6 hown6 jA hgr5 uS hb5 gT ho5 xT Gs yM Gt dG dM
   rw[HQ.out]
   clear c61 f61
   go_wp2_with fail
   go_roundw
   case rel=>exact⟨k+1,_,by go_num,by omega,HB3.out,Ho,vJ.out,H32.out,by rw[nE.out];exact HO3.out⟩
   case measure=>simp[intOf];omega
  ·have hkn':¬(k:Int)<(nf:Int):=by omega
   have hke:k=nf:=by omega
   have hte:x.2.values.take k=x.2.values:=List.take_of_length_le (by have:=gI.out;omega)
   rw[hte]at HO
   have hel:(Es x).values.length=k:=by show (x.2.values.map _).length=k;rw[List.length_map,gI.out,hke]
   have HO':Hid (w1.ownsRow (w.heap.size+2) 93 2 (.slice nF k nG) (Es x).values.length ((Es x).values.flatMap eV)):=by
    refine(?_:World.ownsRow _ _ _ _ _ _ _)
    rw[hel];exact HO.out
   have HEL:=aB hel
   have qK:Hid (∀ b,(Value.slice nF k nG).ownBlock=some b→w.heap.size+2≤b∧b<w1.heap.size):=fun b hb=>aE HO.out b hb
   have xK:=aB (HB.out.below (W:=w1) HBE.out)
   have hU5:=xK.out.cells
   have p0:=aA H2.out 0 rfl
   have p1:=aA H2.out 1 rfl
   have b2:=aA hU5 3 rfl
   have b2a:∀ ob,(w1.alloc ob).cell? ⟨B,3,none⟩=some (.slice Ni s.es.length Nj):=fun ob=>by rw[World.cell?_of_block (aD _ _ _ (by show B < _;omega))];exact b2
   have b2d:∀ ob,(w1.drew.alloc ob).cell? ⟨B,3,none⟩=some (.slice Ni s.es.length Nj):=fun ob=>by rw[World.cell?_of_block (aD _ _ _ (by show B<w1.heap.size;omega))];exact b2
   have nX:Hid (RowsIn w1 (Qs base w1 B mv (.slice Ni s.es.length Nj) xv) 2 eV (.slice nF (Es x).values.length nG) (Es x).values):=by
    refine(?_:RowsIn _ _ _ _ _ _)
    rw[hel]
    refine gZ (row:=eV) (fun _=>rfl) HO'.out _ fun b hb=>?_
    have hb':=qK.out b hb
    have hwB:=HB.out
    have hwz:=hwB.sz
    refine⟨⟨by omega,by omega,fun e=>?_,fun e=>?_,fun e=>?_⟩,by omega⟩
    ·have:=(aE hwB.ms.own b e).2;omega
    ·have:=(aE hwB.es.own b e).2;omega
    ·have:=(aE hwB.ts b e).2;omega
   have hMO:(w1.drew).ownsRow base 91 2 (.slice Ni s.es.length Nj) s.es.length (er.flatMap id):=xK.out.es.own
   have Nh:Hid (∀ b,(Value.slice Ni s.es.length Nj).ownBlock=some b→base≤b∧b<w.heap.size):=fun b hb=>aE HB.out.es.own b hb
   have hbs:=xK.out.sz
   have hbb:=HB.out.bb
   clear hte hke hkn hel HO'
   go_upto_region 7 with fail
   go_region_law (first
    | (refine lQ (T:=91) Tryz.underlying26 aBk rfl (by decide) (hMO.alloc _) (by simp;show base≤w1.heap.size+1;omega) [.string (aC x.1),.slice nF k nG] rfl (by intro u hu;simp only[List.mem_cons,List.not_mem_nil,or_false]at hu;rcases hu with rfl | rfl <;> rfl) w1.heap.size (alloc_heap_new _ _) rfl _ _ rfl rfl rfl (by unfold maxLen;omega) (by omega) ?_;intro g6 cap6 W6 hown6 jA uS aBh;have hgr5:w1.grownBy W6 (Value.slice Ni s.es.length Nj).ownBlock:=(World.grownBy.trans (World.grownBy_alloc w1 _ _) ⟨jA.os,jA.tape,jA.output,jA.size,jA.block⟩);have hB6:W6.heap[B]? = some (.cells #[tv,.map (some mb),mv,.slice Ni s.es.length Nj,xv] 128 (0,0)):=((hgr5.block _ (by omega) (fun e=>by have:=Nh.out _ e.symm;omega)).trans xK.out.cells);have c62:W6.cell? ⟨B,3,none⟩=some (.slice Ni s.es.length Nj):=(by simp[World.cell?,hB6]);have f62:W6.frozen? ⟨B,3,none⟩=false:=(by simp[World.frozen?,hB6]);dsimp only))
   all_goals
    have Ch:(Value.slice Ni s.es.length Nj).ownBlock=some g6∨w1.heap.size≤g6:=uS.imp id fun e=>by rw[e];simp
    have hpush:=xK.out.aMu (Es x) nF nG nX.out g6 cap6 (by rw[HEL.out];exact hown6) hgr5 Ch
    have sX:∀ b,b<w.heap.size→b≠B→(Value.slice Ni s.es.length Nj).ownBlock≠some b→(W6.setCell ⟨B,3,none⟩ (.slice (some ⟨g6,0,none⟩) (s.es.length+1) cap6)).heap[b]? = w.heap[b]?:=fun b h1 h2 h3=>by
     rw[Below.heap_setCell _ _ _ _ h2,hgr5.block b (by omega) (fun e=>h3 e.symm)]
     exact HBE.out.block b h1
    have Fo:w.heap.size≤(W6.setCell ⟨B,3,none⟩ (.slice (some ⟨g6,0,none⟩) (s.es.length+1) cap6)).heap.size:=by have:=hgr5.size;simp;omega
    have HQB:Hid (Below B w (W6.setCell ⟨B,3,none⟩ (.slice (some ⟨g6,0,none⟩) (s.es.length+1) cap6))):=(show Below B w W6 from (HBE.out.mono (by omega)).grown hgr5 (by omega) (fun b hb=>by have:=Nh.out b hb;omega)).setCell (p:=⟨B,3,none⟩) (Nat.le_refl _) _
    have HPU:=aB hpush
    have HQO:=aB sX
    have HQS:=aB Fo
    clear hpush sX Fo hown6 jA hgr5 uS Ch hB6 b2a b2d hMO
    try go_wp2_with fail
    go_end0
    exact⟨rfl,HQB.out,HQS.out,HQO.out,_,_,HPU.out⟩
end Go.Proofs.YtpojeinddnjpfaaGreatDoor
