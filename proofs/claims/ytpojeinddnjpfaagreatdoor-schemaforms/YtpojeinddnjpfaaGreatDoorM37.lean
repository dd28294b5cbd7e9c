/-
  Walks and plain words (SkM).
-/
import Derived.Test.YtpojeinddnjpfaaGreatDoorM0
import Derived.Test.YtpojeinddnjpfaaGreatDoorM35
import Derived.Test.YtpojeinddnjpfaaGreatDoorM13
import Derived.Test.YtpojeinddnjpfaaGreatDoorM36
import Derived.Deep.RegionLaw
namespace Go.Proofs.YtpojeinddnjpfaaGreatDoor
set_option linter.unusedVariables false
open Go.ChangeShapes Go.WideShapes Go.ChangeAt Go.RowKit Go.Maps

theorem aBe:(Tryz.prog.info? 88).map (fun i=>(i.zero,i.size,i.bytes))=some (some (.agg #[.int .i64 0,.string ⟨#[]⟩,.int .i64 0,.bool false,.int .i64 0]),5,48):=by kernel_rfl
theorem aBf:(Tryz.prog.info? 48).map (fun i=>(i.zero,i.size,i.bytes))=some (some (.agg #[.string ⟨#[]⟩,.slice none 0 0]),2,40):=by kernel_rfl
theorem Qx (x:FD):∀ u∈cA x,u.oneCell'=true:=by
 intro u hu
 simp only[cA,List.mem_cons,List.not_mem_nil,or_false]at hu
 rcases hu with rfl | rfl | rfl | rfl | rfl <;> rfl
def Kt (f:Nat) (types:List Dc) (ps:List Pl) (n:Nat) (whole:List UInt8) (y:Fd):FD:=⟨y.num,y.name,((Xd f types ps n whole y.type).getD (0,0)).1,y.rep,((Xd f types ps n whole y.type).getD (0,0)).2⟩
def kV (f:Nat) (types:List Dc) (ps:List Pl) (n:Nat) (x:Pl) (k:Nat):Option (Int × Int):=match x.2.fields[k]? with
 | some y=>if (Xd f types ps n x.1 y.type).isNone=true then some (y.line,y.col) else none
 | none=>none
structure Ng (f:Nat) (types:List Dc):Prop where
 ct:mO (f+1) types≤100000
 fit:iV (f+1) types
 txt:lL (f+1) types
 sym:∀ (sc path:List UInt8) (z:Sy),iN (f+1) types sc path=some z→z.1.length≤1000000000000
def Ku (f base B mb:Nat) (tv mv ev xv:Value) (types:List Dc) (ps:List Pl) (n:Nat) (s:SC) (mr er:List (List Value)) (x:Pl) (w:World) (e:Ending) (w':World):Prop:=
  ∃ l c b,e=.returned (.tuple #[.agg #[.int .i64 l,.int .i64 c],.bool b])∧Below B w w'∧w.heap.size≤w'.heap.size∧(∀ b,b<w.heap.size→b≠B→mv.ownBlock≠some b→w'.heap[b]? = w.heap[b]?)∧
    ((b=true∧aQ (kV f types ps n x) x.2.fields.length=some (l,c))∨
     (b=false∧l=0∧c=0∧aQ (kV f types ps n x) x.2.fields.length=none∧∃ (ys:List FD) (mv':Value) (mr':List (List Value)),ys.Perm (x.2.fields.map (Kt f types ps n x.1))∧(ys.Pairwise fun a b=>a.num≤b.num)∧Bd f base w' B mb tv mv' ev xv types ps n ⟨s.ms++[⟨x.1,ys⟩],s.es,s.ts⟩ mr' er))
set_option maxHeartbeats 16000000 in
set_option maxRecDepth 20000 in
theorem Xg (f base B mb:Nat) (tv mv ev xv:Value) (types:List Dc) (ps:List Pl) (n:Nat) (s:SC) (mr er:List (List Value)) (x:Pl) (fa va ma ia:Option Addr) (fc vc mc ic:Nat) (w:World) (F:Nat)
  (hTy:Ng f types) (hfl:x.2.fields.length≤100000) (hwl:x.1.length≤1000000000000) (hft:∀ y∈x.2.fields,y.type.length≤200000000∧y.name.length≤1000000) (hms:s.ms.length≤100000)
  (hB:Bd f base w B mb tv mv ev xv types ps n s mr er) (kd:Kids F w (Aa w B mv ev xv) (.slice fa x.2.fields.length fc) (.slice va x.2.values.length vc) (.slice ma x.2.methods.length mc) (.slice ia x.2.inner.length ic) x.2) :
  Calls Tryz.prog 63 #[.pointer (some ⟨B,0,none⟩),.agg #[.int .i64 x.2.kind,.string (aC x.2.name),.int .i64 x.2.line,.int .i64 x.2.col,.slice fa x.2.fields.length fc,.slice va x.2.values.length vc,.slice ma x.2.methods.length mc,.slice ia x.2.inner.length ic,.string (aC x.1)]] w fun e w'=>Ku f base B mb tv mv ev xv types ps n s mr er x w e w':=by
 have wT:=aB hTy
 have rQ:=aB hft
 have HB:=aB hB
 have eO:=aB kd
 have hBlt:=hB.lt
 obtain⟨Cs,Ct,hmv⟩:=aO hB.ms.own
 subst hmv
 obtain⟨nf,hnf⟩:∃ k,x.2.fields.length=k:=⟨_,rfl⟩
 have gI:=aB hnf
 rw[hnf]at hfl eO ⊢
 have qF:Hid (∀ e w',Ku f base B mb tv (.slice Cs s.ms.length Ct) ev xv types ps n s mr er x w e w'→Ku f base B mb tv (.slice Cs s.ms.length Ct) ev xv types ps n s mr er x w e w'):=fun _ _ h=>h
 clear hTy hft hB kd hnf
 have dO:Below w.heap.size w (((w.alloc (.cells #[.int .i64 x.2.kind,.string (aC x.2.name),.int .i64 x.2.line,.int .i64 x.2.col,.slice fa nf fc,.slice va x.2.values.length vc,.slice ma x.2.methods.length mc,.slice ia x.2.inner.length ic,.string (aC x.1)] 117)).alloc (.cells #[.int .i64 0,.int .i64 0] 31)).alloc (.cells #[.string (aC x.1),.slice none 0 0] 48)):=(((Below.refl _ w).alloc (Nat.le_refl _) _).alloc (by simp) _).alloc (by simp;omega) _
 have hV2:(((w.alloc (.cells #[.int .i64 x.2.kind,.string (aC x.2.name),.int .i64 x.2.line,.int .i64 x.2.col,.slice fa nf fc,.slice va x.2.values.length vc,.slice ma x.2.methods.length mc,.slice ia x.2.inner.length ic,.string (aC x.1)] 117)).alloc (.cells #[.int .i64 0,.int .i64 0] 31)).alloc (.cells #[.string (aC x.1),.slice none 0 0] 48)).heap[w.heap.size+2]? = some (.cells #[.string (aC x.1),.slice none 0 0] 48 (0,0)):=by
  have:=alloc_heap_new ((w.alloc (.cells #[.int .i64 x.2.kind,.string (aC x.2.name),.int .i64 x.2.line,.int .i64 x.2.col,.slice fa nf fc,.slice va x.2.values.length vc,.slice ma x.2.methods.length mc,.slice ia x.2.inner.length ic,.string (aC x.1)] 117)).alloc (.cells #[.int .i64 0,.int .i64 0] 31)) (.cells #[.string (aC x.1),.slice none 0 0] 48)
  simpa using this
 have hV1:(((w.alloc (.cells #[.int .i64 x.2.kind,.string (aC x.2.name),.int .i64 x.2.line,.int .i64 x.2.col,.slice fa nf fc,.slice va x.2.values.length vc,.slice ma x.2.methods.length mc,.slice ia x.2.inner.length ic,.string (aC x.1)] 117)).alloc (.cells #[.int .i64 0,.int .i64 0] 31)).alloc (.cells #[.string (aC x.1),.slice none 0 0] 48)).heap[w.heap.size+1]? = some (.cells #[.int .i64 0,.int .i64 0] 31 (0,0)):=by
  rw[aD _ _ _ (by simp)]
  have:=alloc_heap_new (w.alloc (.cells #[.int .i64 x.2.kind,.string (aC x.2.name),.int .i64 x.2.line,.int .i64 x.2.col,.slice fa nf fc,.slice va x.2.values.length vc,.slice ma x.2.methods.length mc,.slice ia x.2.inner.length ic,.string (aC x.1)] 117)) (.cells #[.int .i64 0,.int .i64 0] 31)
  simpa using this
 have jS:(((w.alloc (.cells #[.int .i64 x.2.kind,.string (aC x.2.name),.int .i64 x.2.line,.int .i64 x.2.col,.slice fa nf fc,.slice va x.2.values.length vc,.slice ma x.2.methods.length mc,.slice ia x.2.inner.length ic,.string (aC x.1)] 117)).alloc (.cells #[.int .i64 0,.int .i64 0] 31)).alloc (.cells #[.string (aC x.1),.slice none 0 0] 48)).heap[w.heap.size]? = some (.cells #[.int .i64 x.2.kind,.string (aC x.2.name),.int .i64 x.2.line,.int .i64 x.2.col,.slice fa nf fc,.slice va x.2.values.length vc,.slice ma x.2.methods.length mc,.slice ia x.2.inner.length ic,.string (aC x.1)] 117 (0,0)):=by
  rw[aD _ _ _ (by simp;omega),aD _ _ _ (by simp)];exact alloc_heap_new _ _
 have iH:(((w.alloc (.cells #[.int .i64 x.2.kind,.string (aC x.2.name),.int .i64 x.2.line,.int .i64 x.2.col,.slice fa nf fc,.slice va x.2.values.length vc,.slice ma x.2.methods.length mc,.slice ia x.2.inner.length ic,.string (aC x.1)] 117)).alloc (.cells #[.int .i64 0,.int .i64 0] 31)).alloc (.cells #[.string (aC x.1),.slice none 0 0] 48)).heap.size=w.heap.size+3:=by simp
 go_enter Tryz.func63,Tryz.ntmps63
 go_upto_region 2 with fail
 generalize (((w.alloc (.cells #[.int .i64 x.2.kind,.string (aC x.2.name),.int .i64 x.2.line,.int .i64 x.2.col,.slice fa nf fc,.slice va x.2.values.length vc,.slice ma x.2.methods.length mc,.slice ia x.2.inner.length ic,.string (aC x.1)] 117)).alloc (.cells #[.int .i64 0,.int .i64 0] 31)).alloc (.cells #[.string (aC x.1),.slice none 0 0] 48))=V at *
 have v4:=aA jS 4 rfl
 have iA:=aB dO
 have mV:=aB jS
 have kI:=aB hV1
 have Mw:=aB hV2
 have Gd:w.heap.size+3≤V.heap.size:=by omega
 clear dO jS hV1 hV2 iH
 go_wp2_with fail
 clear v4
 go_loopw [19] (fun i wr=>∃ (k:Nat) (fv:Value),i=.int .i64 (k:Int)∧k≤nf∧aQ (kV f types ps n x) k=none∧Below w.heap.size w wr∧w.heap.size+3≤wr.heap.size∧wr.heap[w.heap.size]? = some (.cells #[.int .i64 x.2.kind,.string (aC x.2.name),.int .i64 x.2.line,.int .i64 x.2.col,.slice fa nf fc,.slice va x.2.values.length vc,.slice ma x.2.methods.length mc,.slice ia x.2.inner.length ic,.string (aC x.1)] 117 (0,0))∧wr.heap[w.heap.size+1]? = some (.cells #[.int .i64 0,.int .i64 0] 31 (0,0))∧wr.heap[w.heap.size+2]? = some (.cells #[.string (aC x.1),fv] 48 (0,0))∧wr.ownsRow (w.heap.size+3) 88 5 fv k (((x.2.fields.take k).map (Kt f types ps n x.1)).flatMap cA)) (fun i _=>nf - (intOf i).toNat)
 case atStart=>exact⟨0,_,rfl,Nat.zero_le _,rfl,iA.out,Gd,mV.out,kI.out,Mw.out,World.ownsRow_nil _ _ _ _⟩
 case round=>
  generalize wr=w1 at *
  obtain⟨k,fv,rfl,hk,hfs,hbel,hsz,hx0,hx1,hx2,hown⟩:=hrel
  obtain⟨nF,nG,hfv⟩:=aO hown
  subst hfv
  have fW:=aB hfs
  have HBE:=aB hbel
  have H0:=aB hx0
  have H1:=aB hx1
  have H2:=aB hx2
  have HO:=aB hown
  clear hfs hbel hx0 hx1 hx2 hown mV kI Mw iA
  by_cases hkn:k<nf
  ·obtain⟨y,hy⟩:∃ y,x.2.fields[k]? = some y:=⟨_,List.getElem?_eq_getElem (by have:=gI.out;omega)⟩
   obtain⟨aVs,aMx⟩:=rQ.out y (List.mem_of_getElem? hy)
   have hff:∀ b,Aa w B (.slice Cs s.ms.length Ct) ev xv b→b<w.heap.size:=fun b hb=>hb.1
   obtain⟨g,oo,c0,hsl,hg,e0,e1,e2,e3,e4,e5⟩:=jV eO.out.1 (W:=w1) (fun b hb=>HBE.out.block b hb.1) hy
   rw[gI.out]at hsl
   obtain⟨rfl,rfl⟩:fa=some ⟨g,oo,none⟩∧fc=c0:=by
    injection hsl with h1 _ h3
    exact⟨h1,h3⟩
   have Sb:Hid (kV f types ps n x k=if (Xd f types ps n x.1 y.type).isNone=true then some (y.line,y.col) else none):=by
    refine(?_:_=_)
    unfold kV
    rw[hy]
   have nE:Hid ((x.2.fields.take (k+1)).map (Kt f types ps n x.1)=(x.2.fields.take k).map (Kt f types ps n x.1)++[Kt f types ps n x.1 y]):=by
    refine(?_:_=_)
    rw[aY hy,List.map_append];rfl
   have HFP:Hid (Kt f types ps n x.1 y=⟨y.num,y.name,((Xd f types ps n x.1 y.type).getD (0,0)).1,y.rep,((Xd f types ps n x.1 y.type).getD (0,0)).2⟩):=rfl
   have hk0:(0:Int)≤(k:Int):=by omega
   have hk1:(k:Int)<(nf:Int):=by omega
   have hwq:=eE k (by omega)
   obtain⟨XS,Ym⟩:∃ X,(x.2.fields.take k).map (Kt f types ps n x.1)=X:=⟨_,rfl⟩
   rw[Ym]at HO nE
   have b8:=aA H0.out 8 rfl
   have hwh:∀ b,b<w.heap.size→b<w1.heap.size:=fun b hb=>by omega
   clear hsl hy Ym hff
   have hC:(w1.alloc (.cells #[.bool y.rep,.string (aC y.type),.string (aC y.name),.int .i64 y.num,.int .i64 y.line,.int .i64 y.col] 71)).heap[w1.heap.size]? = some (.cells #[.bool y.rep,.string (aC y.type),.string (aC y.name),.int .i64 y.num,.int .i64 y.line,.int .i64 y.col] 71 (0,0)):=alloc_heap_new _ _
   have bG:Below w1.heap.size w1 (w1.alloc (.cells #[.bool y.rep,.string (aC y.type),.string (aC y.name),.int .i64 y.num,.int .i64 y.line,.int .i64 y.col] 71)):=(Below.refl _ w1).alloc (Nat.le_refl _) _
   go_upto_region 5 with fail
   generalize (w1.alloc (.cells #[.bool y.rep,.string (aC y.type),.string (aC y.name),.int .i64 y.num,.int .i64 y.line,.int .i64 y.col] 71))=Y at *
   have l0:=aA hC 0 rfl
   have l1:=aA hC 1 rfl
   have l2:=aA hC 2 rfl
   have l3:=aA hC 3 rfl
   have l4:=aA hC 4 rfl
   have l5:=aA hC 5 rfl
   have hYs:=bG.size
   have hYl:=aN hC
   have cE:=aB (HBE.out.trans (bG.mono (by omega)))
   have zO:Hid (Y.heap[w.heap.size]? = _):=(bG.block _ (by omega)).trans H0.out
   have uM:Hid (Y.heap[w.heap.size+1]? = _):=(bG.block _ (by omega)).trans H1.out
   have HY2:Hid (Y.heap[w.heap.size+2]? = _):=(bG.block _ (by omega)).trans H2.out
   have uI:Hid (Y.ownsRow (w.heap.size+3) 88 5 (.slice nF k nG) k (XS.flatMap cA)):=aR HO.out fun b hb=>bG.block b (aE HO.out b hb).2
   have qK:Hid (∀ b,(Value.slice nF k nG).ownBlock=some b→w.heap.size+3≤b∧b<w1.heap.size):=fun b hb=>aE HO.out b hb
   have sW:Hid (Y.heap[w1.heap.size]? = _):=hC
   have y8:=aA zO.out 8 rfl
   have aMy:=HB.out.below (W:=Y) cE.out
   have aGo:=aAz f types ps n B mb tv _ ev xv x.1 y.type Y wT.out.ct wT.out.fit wT.out.txt hwl aVs (fun z hz=>wT.out.sym _ _ z hz) aMy.bl
   obtain⟨FT,hFT⟩:∃ r,Xd f types ps n x.1 y.type=r:=⟨_,rfl⟩
   rw[hFT]at aGo Sb HFP
   clear hC bG e0 e1 e2 e3 e4 e5 hFT b8 aMy HO H0 H1 H2
   go_wp2_with fail
   refine aGo.mono ?_
   rintro e W2 ⟨kk,kt,b,rfl,aMz,hb2⟩
   have Cq:=hb2.size
   have HB2:=aB (cE.out.trans (hb2.mono (by have:=cE.out.size;omega)))
   have rR:Hid (W2.heap[w.heap.size]? = _):=(hb2.block _ (by omega)).trans zO.out
   have Fk:Hid (W2.heap[w.heap.size+1]? = some (.cells #[.int .i64 0,.int .i64 0] 31 (0,0))):=(hb2.block _ (by omega)).trans uM.out
   have H22:Hid (W2.heap[w.heap.size+2]? = some (.cells #[.string (aC x.1),.slice nF k nG] 48 (0,0))):=(hb2.block _ (by omega)).trans HY2.out
   have tW:Hid (W2.heap[w1.heap.size]? = some (.cells #[.bool y.rep,.string (aC y.type),.string (aC y.name),.int .i64 y.num,.int .i64 y.line,.int .i64 y.col] 71 (0,0))):=(hb2.block _ hYl).trans sW.out
   have HO2:Hid (W2.ownsRow (w.heap.size+3) 88 5 (.slice nF k nG) k (XS.flatMap cA)):=aR uI.out fun b hb=>hb2.block b (by have:=qK.out b hb;omega)
   have aGp:=aB aMz
   clear hb2 aMz l0 l1 l2 l3 l4 l5 y8 aGo zO uM HY2 sW uI cE
   cases b
   case false=>
    have hnone:FT=none:=by
     rcases aGp.out with ⟨h,_⟩ | ⟨_,h⟩
     ·cases h
     ·exact h
    have fU:Hid (kV f types ps n x k=some (y.line,y.col)):=by
     refine(?_:_=_)
     rw[Sb.out,hnone];rfl
    have q4:=aA tW.out 4 rfl
    have q5:=aA tW.out 5 rfl
    have k0:=aA Fk.out 0 rfl
    have k1:=aA Fk.out 1 rfl
    have mI:=aF Fk.out 0
    have mJ:=aF Fk.out 1
    obtain⟨Z,hZ,r0,r1,fM⟩:=bS Fk.out HB2.out (by omega) y.line y.col
    have HZ:=aB hZ
    clear hZ hnone
    go_wp2_with fail
    rw[HZ.out]
    refine bodyPost_ret (v:=.tuple #[.agg #[.int .i64 y.line,.int .i64 y.col],.bool true]) (by simp[results,Tryz.results63,go_sem,r0,r1]) rfl ?_
    exact⟨_,_,_,rfl,fM.mono (by omega),fM.size,fun b h1 _ _=>fM.block b h1,.inl ⟨rfl,by rw[gI.out];exact aI fW.out fU.out (by omega)⟩⟩
   case true=>
    have hsome:FT=some (kk,kt):=by
     rcases aGp.out with ⟨_,h⟩ | ⟨h,_⟩
     ·exact h
     ·cases h
    have mK:Hid (kV f types ps n x k=none):=by
     refine(?_:_=_)
     rw[Sb.out,hsome];rfl
    have HFE:Hid (Kt f types ps n x.1 y=⟨y.num,y.name,kk,y.rep,kt⟩):=by
     refine(?_:_=_)
     rw[HFP.out,hsome];rfl
    have Rs:=fun W=>lK (aC y.name) W (by rw[aV];omega)
    clear hsome Sb HFP aGp
    have hcf:∀ W:World,W.heap[w1.heap.size]? = some (.cells #[.bool y.rep,.string (aC y.type),.string (aC y.name),.int .i64 y.num,.int .i64 y.line,.int .i64 y.col] 71 (0,0))→W.heap[w.heap.size+2]? = some (.cells #[.string (aC x.1),.slice nF k nG] 48 (0,0))→W.cell? ⟨w1.heap.size,0,none⟩=some (.bool y.rep)∧W.cell? ⟨w1.heap.size,2,none⟩=some (.string (aC y.name))∧W.cell? ⟨w1.heap.size,3,none⟩=some (.int .i64 y.num)∧W.cell? ⟨w.heap.size+2,1,none⟩=some (.slice nF k nG):=fun W h1 h2=>⟨by simp[World.cell?,h1],by simp[World.cell?,h1],by simp[World.cell?,h1],by simp[World.cell?,h2]⟩
    have Qy:=aB hcf
    obtain⟨t0,t2,t3,tp⟩:=hcf W2 tW.out H22.out
    clear hcf
    have aVv:w1.heap.size<W2.heap.size:=aN tW.out
    go_upto_region 8 with fail
    have dG:W2.drew.heap[w1.heap.size]? = _:=tW.out
    have dM:W2.drew.heap[w.heap.size+2]? = _:=H22.out
    clear t0 t2 t3 tp
    refine xJ 15 (fun W=>W.heap[w1.heap.size]? = some (.cells #[.bool y.rep,.string (aC y.type),.string (aC y.name),.int .i64 y.num,.int .i64 y.line,.int .i64 y.col] 71 (0,0))) (fun W=>W.heap[w.heap.size+2]? = some (.cells #[.string (aC x.1),.slice nF k nG] 48 (0,0))) (by kernel_rfl) ?_
    refine bL (i:=0) (v:=.pointer (some ⟨w.heap.size+2,1,none⟩)) [13,1,0] rfl (by kernel_rfl) (fun _ _ _ h=>h) (.inl ⟨by kernel_rfl,fun W hW=>by go_simp⟩) ⟨dG,fun _=>dM⟩ ?_
    refine bL (i:=1) (v:=.slice nF k nG) [13,1] rfl (by kernel_rfl) (fun _ _ _ h=>h) (.inl ⟨by kernel_rfl,fun W hW=>by obtain⟨u0,u2,u3,up⟩:=Qy.out W hW.1 hW.2;go_simp⟩) ⟨dG,fun _=>dM⟩ ?_
    refine bL (i:=2) (v:=.pointer (some ⟨w1.heap.size,3,none⟩)) [13,12,11,3,2] rfl (by kernel_rfl) (fun _ _ _ h=>h) (.inl ⟨by kernel_rfl,fun W hW=>by go_simp⟩) ⟨dG,fun _=>dM⟩ ?_
    refine bL (i:=3) (v:=.int .i64 y.num) [13,12,11,3] rfl (by kernel_rfl) (fun _ _ _ h=>h) (.inl ⟨by kernel_rfl,fun W hW=>by obtain⟨u0,u2,u3,up⟩:=Qy.out W hW.1 hW.2;go_simp⟩) ⟨dG,fun _=>dM⟩ ?_
    refine bL (i:=4) (v:=.pointer (some ⟨w1.heap.size,2,none⟩)) [13,12,11,6,5,4] rfl (by kernel_rfl) (fun _ _ _ h=>h) (.inl ⟨by kernel_rfl,fun W hW=>by go_simp⟩) ⟨dG,fun _=>dM⟩ ?_
    refine bL (i:=5) (v:=.string (aC y.name)) [13,12,11,6,5] rfl (by kernel_rfl) (fun _ _ _ h=>h) (.inl ⟨by kernel_rfl,fun W hW=>by obtain⟨u0,u2,u3,up⟩:=Qy.out W hW.1 hW.2;go_simp⟩) ⟨dG,fun _=>dM⟩ ?_
    refine bL (i:=7) (v:=.int .i64 kk) [13,12,11,7] rfl (by kernel_rfl) (fun _ _ _ h=>h) (.inl ⟨by kernel_rfl,fun W hW=>by go_simp⟩) ⟨dG,fun _=>dM⟩ ?_
    refine bL (i:=8) (v:=.pointer (some ⟨w1.heap.size,0,none⟩)) [13,12,11,9,8] rfl (by kernel_rfl) (fun _ _ _ h=>h) (.inl ⟨by kernel_rfl,fun W hW=>by go_simp⟩) ⟨dG,fun _=>dM⟩ ?_
    refine bL (i:=9) (v:=.bool y.rep) [13,12,11,9] rfl (by kernel_rfl) (fun _ _ _ h=>h) (.inl ⟨by kernel_rfl,fun W hW=>by obtain⟨u0,u2,u3,up⟩:=Qy.out W hW.1 hW.2;go_simp⟩) ⟨dG,fun _=>dM⟩ ?_
    refine bL (i:=10) (v:=.int .i64 kt) [13,12,11,10] rfl (by kernel_rfl) (fun _ _ _ h=>h) (.inl ⟨by kernel_rfl,fun W hW=>by go_simp⟩) ⟨dG,fun _=>dM⟩ ?_
    refine lW (i:=6) (by kernel_rfl) rfl (fun K hK=>?_)
    go_simp
    refine(Rs _).mono ?_
    rintro e5 W5 ⟨rfl,hb5⟩
    have gT:Below W2.heap.size W2 W5:=(Below.refl _ W2).drew.trans hb5
    have xT:=(gT.block _ aVv).trans tW.out
    have Gs:=(gT.block _ (by omega)).trans H22.out
    have ho5:W5.ownsRow (w.heap.size+3) 88 5 (.slice nF k nG) k (XS.flatMap cA):=(aR HO2.out fun b hb=>gT.block b (by have:=qK.out b hb;omega))
    have h5s:=gT.size
    dsimp only
    refine hK.out _ _ ⟨xT,fun _=>Gs⟩ ?_
    clear hK K
    refine bL (i:=11) (v:=.agg #[.int .i64 y.num,.string (aC y.name),.int .i64 kk,.bool y.rep,.int .i64 kt]) [13,12,11] rfl (by kernel_rfl) (fun _ _ _ h=>h) (.inl ⟨by kernel_rfl,fun W hW=>by go_simp⟩) ⟨xT,fun _=>Gs⟩ ?_
    refine lW (i:=12) (by kernel_rfl) rfl (fun K hK=>?_)
    go_simp
    refine hK.out _ _ ⟨(aD _ _ _ (by omega)).trans xT,fun _=>(aD _ _ _ (by omega)).trans Gs⟩ ?_
    clear hK K
    refine lW (i:=13) (by kernel_rfl) rfl (fun K hK=>?_)
    refine lQ (T:=88) Tryz.underlying46 aBe rfl (by decide) (ho5.alloc _) (by simp;omega) (cA ⟨y.num,y.name,kk,y.rep,kt⟩) rfl (Qx _) W5.heap.size (alloc_heap_new _ _) rfl _ _ rfl rfl rfl (by unfold maxLen;omega) (by omega) ?_
    intro g6 cap6 W6 hown6 jA uS aBh
    have hgr5:W5.grownBy W6 (Value.slice nF k nG).ownBlock:=((World.grownBy_alloc _ _ _).trans jA)
    have yM:W6.heap[w.heap.size+2]? = some (.cells #[.string (aC x.1),.slice nF k nG] 48 (0,0)):=((hgr5.block _ (by omega) (fun e=>by have:=qK.out _ e.symm;omega)).trans Gs)
    have Gt:W6.heap[w1.heap.size]? = _:=((hgr5.block _ (by omega) (fun e=>by have:=qK.out _ e.symm;omega)).trans xT)
    have c61:W6.cell? ⟨w.heap.size+2,1,none⟩=some (.slice nF k nG):=(by simp[World.cell?,yM])
    have f61:W6.frozen? ⟨w.heap.size+2,1,none⟩=false:=(by simp[World.frozen?,yM])
    refine hK.out _ _ ⟨Gt,fun _=>yM⟩ ?_
    clear hK K
    refine bL (i:=14) (v:=.pointer (some ⟨w.heap.size+2,1,none⟩)) [14] rfl (by kernel_rfl) (fun _ _ _ h=>h) (.inl ⟨by kernel_rfl,fun W hW=>by go_simp⟩) ⟨Gt,fun _=>yM⟩ ?_
    refine lW (i:=15) (by kernel_rfl) rfl (fun K hK=>?_)
    go_simp
    refine hK.out _ _ ⟨(Below.heap_setCell _ _ _ _ (by show w1.heap.size≠w.heap.size+2;omega)).trans Gt,fun h=>(by cases h)⟩ ?_
    clear hK K
    refine Ks (by kernel_rfl) ?_ _
    all_goals
     have hb6:Below (w.heap.size+3) W2 W6:=(gT.mono (by omega)).grown hgr5 (by have:=gT.size;omega) (fun b hb=>(qK.out b hb).1)
     have hQp:(W6.setCell ⟨w.heap.size+2,1,none⟩ (.slice (some ⟨g6,0,none⟩) (k+1) cap6)).heap[w.heap.size+2]? = some (.cells #[.string (aC x.1),.slice (some ⟨g6,0,none⟩) (k+1) cap6] 48 (0,0)):=by rw[aG yM];rfl
     have sX:∀ b,b≠w.heap.size+2→(W6.setCell ⟨w.heap.size+2,1,none⟩ (.slice (some ⟨g6,0,none⟩) (k+1) cap6)).heap[b]? = W6.heap[b]?:=fun b hb=>Below.heap_setCell _ _ _ _ hb
     have Fo:(W6.setCell ⟨w.heap.size+2,1,none⟩ (.slice (some ⟨g6,0,none⟩) (k+1) cap6)).heap.size=W6.heap.size:=by simp
     have hQb:Below w.heap.size w (W6.setCell ⟨w.heap.size+2,1,none⟩ (.slice (some ⟨g6,0,none⟩) (k+1) cap6)):=(HB2.out.trans (hb6.mono (by omega))).setCell (p:=⟨w.heap.size+2,1,none⟩) (by show w.heap.size≤w.heap.size+2;omega) _
     obtain⟨Q,hQ⟩:∃ Q,W6.setCell ⟨w.heap.size+2,1,none⟩ (.slice (some ⟨g6,0,none⟩) (k+1) cap6)=Q:=⟨_,rfl⟩
     rw[hQ]at hQp sX Fo hQb
     have HQ:=aB hQ
     have vJ:Hid (Q.heap[w.heap.size]? = _):=(sX _ (by omega)).trans ((hb6.block _ (by omega)).trans rR.out)
     have H31:Hid (Q.heap[w.heap.size+1]? = some (.cells #[.int .i64 0,.int .i64 0] 31 (0,0))):=(sX _ (by omega)).trans ((hb6.block _ (by omega)).trans Fk.out)
     have H32:=aB hQp
     have HB3:=aB hQb
     have Ho:w.heap.size+3≤Q.heap.size:=by have:=gT.size;have:=hgr5.size;omega
     have HO3:Hid (Q.ownsRow (w.heap.size+3) 88 5 (.slice (some ⟨g6,0,none⟩) (k+1) cap6) (k+1) ((XS++[Kt f types ps n x.1 y]).flatMap cA)):=by
      refine(?_:World.ownsRow _ _ _ _ _ _ _)
      rw[HFE.out,List.flatMap_append]
      refine aR ?_ fun b hb=>sX b (by have:=(aE hown6 b hb).1;omega)
      simpa using hown6
     clear hQ hQp sX Fo hQb hb6 hown6 jA hgr5 uS hb5 gT ho5 xT Gs yM Gt dG dM
     try go_wp2_with fail
     rw[HQ.out]
     clear c61 f61
     try go_wp2_with fail
     go_roundw
     case rel=>exact⟨k+1,_,by go_num,by omega,bD fW.out mK.out,HB3.out,Ho,vJ.out,H31.out,H32.out,by rw[nE.out];exact HO3.out⟩
     case measure=>simp[intOf];omega
  ·have hkn':¬(k:Int)<(nf:Int):=by omega
   have hke:k=nf:=by omega
   have hte:x.2.fields.take k=x.2.fields:=List.take_of_length_le (by have:=gI.out;omega)
   rw[hte]at HO
   obtain⟨XS,Ym⟩:∃ X,x.2.fields.map (Kt f types ps n x.1)=X:=⟨_,rfl⟩
   rw[Ym]at HO
   have HXS:=aB Ym
   have hXl:XS.length=k:=by rw[←Ym,List.length_map,gI.out,hke]
   have HXL:=aB hXl
   have hso:=Kr (w.heap.size+3) (.slice nF k nG) XS w1 (by rw[hXl];exact HO.out) (by omega)
   have uN:=aB hke
   have q1:=aA H2.out 1 rfl
   have qK:Hid (∀ b,(Value.slice nF k nG).ownBlock=some b→w.heap.size+3≤b∧b<w1.heap.size):=fun b hb=>aE HO.out b hb
   clear hte Ym hXl hke hkn
   go_wp2_with fail
   refine hso.mono ?_
   rintro e U ⟨rfl,ys,hperm,hpw,Xh,aGr⟩
   rw[HXL.out]at Xh
   have Mu:=aGr.size
   have hUB:Below (w.heap.size+3) w1 U:=(Below.refl _ w1).grown aGr (by omega) (fun b hb=>(qK.out b hb).1)
   have HUB:Hid (Below w.heap.size w U):=HBE.out.trans (hUB.mono (by omega))
   have HU1:Hid (U.heap[w.heap.size+1]? = some (.cells #[.int .i64 0,.int .i64 0] 31 (0,0))):=(hUB.block _ (by omega)).trans H1.out
   have hU2:U.heap[w.heap.size+2]? = _:=(hUB.block _ (by omega)).trans H2.out
   have HU2:=aB hU2
   have xK:=aB (HB.out.below (W:=U) HUB.out)
   have hU5:=xK.out.cells
   have p0:=aA hU2 0 rfl
   have p1:=aA hU2 1 rfl
   have b2:=aA hU5 2 rfl
   have hUlt:w.heap.size+3≤U.heap.size:=by omega
   have b2a:∀ ob,(U.alloc ob).cell? ⟨B,2,none⟩=some (.slice Cs s.ms.length Ct):=fun ob=>by rw[World.cell?_of_block (aD _ _ _ (by show B < _;omega))];exact b2
   have b2d:∀ ob,(U.drew.alloc ob).cell? ⟨B,2,none⟩=some (.slice Cs s.ms.length Ct):=fun ob=>by rw[World.cell?_of_block (aD _ _ _ (by show B<U.heap.size;omega))];exact b2
   have aNc:=aB hperm
   have HPW:=aB hpw
   have hyl:ys.length=k:=by rw[hperm.length_eq,HXL.out]
   have HYL:=aB hyl
   have nX:Hid (RowsIn U (Qs base U B (.slice Cs s.ms.length Ct) ev xv) 5 cA (.slice nF ys.length nG) ys):=by
    refine(?_:RowsIn _ _ _ _ _ _)
    rw[hyl]
    have aGs:U.ownsRow (w.heap.size+3) 88 5 (.slice nF k nG) ys.length (ys.flatMap cA):=by rw[hyl];exact Xh
    refine gZ (row:=cA) (fun _=>rfl) aGs _ fun b hb=>?_
    have hb':=qK.out b hb
    have hwB:=HB.out
    have hwz:=hwB.sz
    refine⟨⟨by omega,by omega,fun e=>?_,fun e=>?_,fun e=>?_⟩,by omega⟩
    ·have:=(aE hwB.ms.own b e).2;omega
    ·have:=(aE hwB.es.own b e).2;omega
    ·have:=(aE hwB.ts b e).2;omega
   have hMO:(U.drew).ownsRow base 48 2 (.slice Cs s.ms.length Ct) s.ms.length (mr.flatMap id):=xK.out.ms.own
   have yF:∀ b,(Value.slice Cs s.ms.length Ct).ownBlock=some b→base≤b∧b<w.heap.size:=fun b hb=>aE HB.out.ms.own b hb
   have Nh:=aB yF
   have hbs:=xK.out.sz
   have hbb:=HB.out.bb
   have hbw:=HB.out.sz
   clear hperm hpw Xh aGr hUB hU2 hso q1 hyl yF
   go_upto_region 11 with fail
   go_region_law (first
    | (refine lQ (T:=48) Tryz.underlying25 aBf rfl (by decide) (hMO.alloc _) (by simp;show base≤U.heap.size+1;omega) [.string (aC x.1),.slice nF k nG] rfl (by intro u hu;simp only[List.mem_cons,List.not_mem_nil,or_false]at hu;rcases hu with rfl | rfl <;> rfl) U.heap.size (alloc_heap_new _ _) rfl _ _ rfl rfl rfl (by unfold maxLen;omega) (by omega) ?_;intro g6 cap6 W6 hown6 jA uS aBh;have hgr5:U.grownBy W6 (Value.slice Cs s.ms.length Ct).ownBlock:=(World.grownBy.trans (World.grownBy_alloc U _ _) ⟨jA.os,jA.tape,jA.output,jA.size,jA.block⟩);have hB6:W6.heap[B]? = some (.cells #[tv,.map (some mb),.slice Cs s.ms.length Ct,ev,xv] 128 (0,0)):=((hgr5.block _ (by omega) (fun e=>by have:=Nh.out _ e.symm;omega)).trans xK.out.cells);have c62:W6.cell? ⟨B,2,none⟩=some (.slice Cs s.ms.length Ct):=(by simp[World.cell?,hB6]);have f62:W6.frozen? ⟨B,2,none⟩=false:=(by simp[World.frozen?,hB6]);dsimp only))
   all_goals
    have Ch:(Value.slice Cs s.ms.length Ct).ownBlock=some g6∨U.heap.size≤g6:=uS.imp id fun e=>by rw[e];simp
    have hpush:=xK.out.aMs ⟨x.1,ys⟩ nF nG nX.out g6 cap6 (by simpa [HYL.out]using hown6) hgr5 Ch
    have hQ1:(W6.setCell ⟨B,2,none⟩ (.slice (some ⟨g6,0,none⟩) (s.ms.length+1) cap6)).heap[w.heap.size+1]? = some (.cells #[.int .i64 0,.int .i64 0] 31 (0,0)):=by
     rw[Below.heap_setCell _ _ _ _ (by show w.heap.size+1≠B;omega)]
     exact(hgr5.block _ (by omega) (fun e=>by have:=Nh.out _ e.symm;omega)).trans HU1.out
    have sX:∀ b,b<w.heap.size→b≠B→(Value.slice Cs s.ms.length Ct).ownBlock≠some b→(W6.setCell ⟨B,2,none⟩ (.slice (some ⟨g6,0,none⟩) (s.ms.length+1) cap6)).heap[b]? = w.heap[b]?:=fun b h1 h2 h3=>by
     rw[Below.heap_setCell _ _ _ _ h2,hgr5.block b (by omega) (fun e=>h3 e.symm)]
     exact HUB.out.block b h1
    have Fo:w.heap.size+3≤(W6.setCell ⟨B,2,none⟩ (.slice (some ⟨g6,0,none⟩) (s.ms.length+1) cap6)).heap.size:=by have:=hgr5.size;simp;omega
    have hQB:Below B w (W6.setCell ⟨B,2,none⟩ (.slice (some ⟨g6,0,none⟩) (s.ms.length+1) cap6)):=(show Below B w W6 from (HUB.out.mono (by omega)).grown hgr5 (by omega) (fun b hb=>by have:=Nh.out b hb;omega)).setCell (p:=⟨B,2,none⟩) (Nat.le_refl _) _
    obtain⟨Q,hQ⟩:∃ Q,W6.setCell ⟨B,2,none⟩ (.slice (some ⟨g6,0,none⟩) (s.ms.length+1) cap6)=Q:=⟨_,rfl⟩
    rw[hQ]at hpush hQ1 sX Fo hQB
    have HQ:=aB hQ
    have HPU:=aB hpush
    have HQO:=aB sX
    obtain⟨Z,hZ,z8,zo,zs,zb⟩:=bU hQ1 (.int .i64 0) (.int .i64 0)
    have HZ:=aB hZ
    have fM:Bd f base Z B mb tv (.slice (some ⟨g6,0,none⟩) (s.ms.length+1) cap6) ev xv types ps n ⟨s.ms++[⟨x.1,ys⟩],s.es,s.ts⟩ (mr++[[.string (aC x.1),.slice nF ys.length nG]]) er:=hpush.grow (by omega) fun b hb=>by
     by_cases hbe:b=w.heap.size+1
     ·subst hbe;rw[z8,hQ1]
     ·exact zo b hbe
    have iU:=aB fM
    have k0:=aA hQ1 0 rfl
    have k1:=aA hQ1 1 rfl
    have mI:=aF hQ1 0
    have mJ:=aF hQ1 1
    have r0:=aA z8 0 rfl
    have r1:=aA z8 1 rfl
    have Xi:Hid (∀ b,b<w.heap.size→b≠B→(Value.slice Cs s.ms.length Ct).ownBlock≠some b→Z.heap[b]? = w.heap[b]?):=fun b h1 h2 h3=>(zo b (by omega)).trans (HQO.out b h1 h2 h3)
    have hZs:w.heap.size≤Z.heap.size:=by omega
    have Gu:Hid (Below B w Z):=hQB.trans (zb.mono (by omega))
    clear hQB hQ hpush hQ1 sX Fo hZ z8 zo zs zb fM hown6 jA hgr5 uS Ch hB6 b2a b2d hMO
    rw[HQ.out]
    clear c62 f62 b2 p0 p1
    go_wp2_with fail
    rw[HZ.out]
    refine bodyPost_ret (v:=.tuple #[.agg #[.int .i64 0,.int .i64 0],.bool false]) (by simp[results,Tryz.results63,go_sem,r0,r1]) rfl ?_
    exact⟨_,_,_,rfl,Gu.out,hZs,Xi.out,.inr ⟨rfl,rfl,rfl,by rw[gI.out,←uN.out];exact fW.out,ys,_,_,by rw[HXS.out];exact aNc.out,HPW.out,iU.out⟩⟩
end Go.Proofs.YtpojeinddnjpfaaGreatDoor
