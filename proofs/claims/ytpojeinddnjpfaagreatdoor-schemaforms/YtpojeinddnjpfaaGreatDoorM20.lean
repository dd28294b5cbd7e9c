/-
  Walks and plain words (SkR).
-/
import Derived.Test.YtpojeinddnjpfaaGreatDoorM0
import Derived.Test.YtpojeinddnjpfaaGreatDoorM16
import Derived.Test.YtpojeinddnjpfaaGreatDoorM14
import Derived.Test.YtpojeinddnjpfaaGreatDoorM19
import Derived.Deep.OwnRows
import Derived.Deep.RegionHeldLaw
namespace Go.Proofs.YtpojeinddnjpfaaGreatDoor
set_option linter.unusedVariables false
open Go.ChangeShapes Go.WideShapes Go.ChangeAt Go.RowKit Go.Maps

def aSi:Value→Nat
 | .slice _ n _=>n
 | _=>0
def Ui:Value→Bool
 | .bool b=>!b
 | _=>false
def mL (x:Nat):Value:=.int .i64 (x:Int)
def aEo (w:World) (B:Nat):Nat:=match w.heap[B]? with
 | some (.cells cs _ _)=>(cs.toList.filter Ui).length
 | _=>0
theorem Mx {w:World} {B:Nat} {s:List Bool} {T:TypeId} {fr:Nat × Nat} (h:w.heap[B]? = some (.cells (s.map Value.bool).toArray T fr)):aEo w B=Ru s:=by
 unfold aEo Ru
 rw[h]
 show (((s.map Value.bool).toArray.toList).filter Ui).length=_
 rw[List.toList_toArray,List.filter_map,List.length_map]
 rfl
def Fm (B:Nat) (v:Value) (w:World):Nat:=2*aEo w B+aSi v
def My (ms:List MD) (t:Nat) (w:World) (e:Ending) (w':World):Prop:=∃ b,e=.returned (.bool b)∧(b=true↔Ring ms t)∧Below w.heap.size w w'
theorem Uj (g n c q:Nat) (h:q≤c) (W:World):(Instr.slice 139 (.slice (some ⟨g,0,none⟩) n c) none (some (.int .i64 (q:Int))) none).run Tryz.prog W=.ok (.slice (some ⟨g,0,none⟩) q c) W:=by
 have hsz:(sizeOf (Tryz.prog.elem 139)).run Tryz.prog W=.ok 1 W:=by
  have:(Tryz.prog.info? (Tryz.prog.elem 139)).map (fun i=>i.size)=some 1:=by kernel_rfl
  obtain⟨i,hi,hs⟩:=Option.map_eq_some_iff.1 this
  simp[sizeOf,typeInfo,hi,hs]
 rw[run_slice_h (P:=Tryz.prog) W 139 _ _ _ (by kernel_rfl) .i64 (q:Int) (by omega) (by omega),hsz]
 have ea:(⟨g,0,none⟩:Addr).add 0=⟨g,0,none⟩:=by unfold Addr.add;split <;> simp_all
 simp[Result.andThen,sliced,ea]
theorem Uk:(Tryz.prog.info? 3).map (fun i=>(i.zero,i.size,i.bytes))=some (some (.int .i64 0),1,8):=by kernel_rfl
theorem aEp:(Tryz.prog.info? 4).map (fun i=>(i.zero,i.size,i.bytes))=some (some (.bool false),1,1):=by kernel_rfl
theorem Jr (n:Nat):madeCells #[.bool false] n=((List.replicate n false).map Value.bool).toArray:=by
 apply Array.ext
 ·simp[size_madeCells]
 ·intro i h1 h2
  simp[madeCells,Nat.mod_one]
def oX (ms:List MD):Prop:=ms.length≤100000∧∀ m∈ms,m.fields.length≤100000∧∀ f∈m.fields,f.kind=10→f.rep=false→0≤f.type∧f.type<(ms.length:Int)
theorem Pq {s:List Bool} {y:Nat} (hy:y<s.length):((s.map Value.bool).toArray).setIfInBounds y (.bool true)=((s.set y true).map Value.bool).toArray:=by
 apply Array.ext
 ·simp
 ·intro i h1 h2
  simp[List.getElem_set]
set_option maxHeartbeats 16000000 in
set_option maxRecDepth 20000 in
theorem zP (ms:List MD) (v:Value) (t:Nat) (w:World) (hf:oX ms) (ht:t<ms.length) (hH:kQ w (fun b=>b<w.heap.size) v ms) :
  Calls Tryz.prog 66 #[v,.int .i64 (t:Int)] w fun e w'=>My ms t w e w':=by
 have HF:=aB hf
 have HH:=aB hH
 obtain⟨ad,cc,rfl⟩:=aW.cM hH
 have hn0:=hf.1
 have hst:=Je ms t ht
 obtain⟨n,hn⟩:∃ n,ms.length=n:=⟨_,rfl⟩
 have HN:=aB hn
 rw[hn]at hn0 ht hst ⊢
 have HST:=aB hst
 have hmk:=run_make_row' (P:=Tryz.prog) 184 4 (.bool false) 1 Tryz.underlying184 aEp rfl .i64 .i64 n (by omega) (by omega)
 rw[Jr]at hmk
 clear hf hH hn hst
 obtain⟨s0,hs0⟩:∃ s,List.replicate n false=s:=⟨_,rfl⟩
 rw[hs0]at hmk HST
 clear hs0
 have hM:(w.alloc (.cells (s0.map Value.bool).toArray 4)).heap[w.heap.size]? = some (.cells (s0.map Value.bool).toArray 4 (0,0)):=alloc_heap_new _ _
 have yF:Below w.heap.size w (w.alloc (.cells (s0.map Value.bool).toArray 4)):=(Below.refl _ w).alloc (Nat.le_refl _) _
 go_enter Tryz.func66,Tryz.ntmps66
 go_upto_region 2 with fail
 generalize (w.alloc (.cells (s0.map Value.bool).toArray 4))=V at *
 have hlV:=aN hM
 have iA:=aB yF
 have HVM:=aB hM
 have iH:=yF.size
 clear hM yF hmk
 go_wp2_with fail
 go_loopw [6] (fun u wr=>∃ (s:List Bool) (wt:List Nat),RInv ms t s wt∧wr.ownsRow V.heap.size 3 1 u wt.length (wt.map mL)∧wr.heap[w.heap.size]? = some (.cells (s.map Value.bool).toArray 4 (0,0))∧Below w.heap.size w wr∧V.heap.size≤wr.heap.size∧wt.length+Ru s≤n+1) (fun u wr=>Fm w.heap.size u wr)
 case atStart=>
  refine⟨s0,[t],HST.out,?_,(aD _ _ _ hlV).trans HVM.out,iA.out.alloc iH _,by simp,?_⟩
  ·exact⟨rfl,.inr ⟨V.heap.size,1,#[.int .i64 (t:Int)],rfl,Nat.le_refl _,alloc_heap_new _ _,Nat.le_refl _,by unfold maxLen;omega,rfl,rfl⟩⟩
  ·have h1:Ru s0≤s0.length:=List.length_filter_le _ _
   have:=HST.out.len
   rw[HN.out]at this
   simp;omega
 case round=>
  generalize wr=w1 at *
  obtain⟨s,wt,hinv,hown,wS,hbel,hsz,hcnt⟩:=hrel
  obtain⟨ua,uc,huv⟩:=aO hown
  subst huv
  have HI:=aB hinv
  have HO:=aB hown
  have HS:=aB wS
  have HB:=aB hbel
  have hsw:=hbel.size
  have hls:=aN wS
  clear hinv hown wS hbel
  rcases List.eq_nil_or_concat wt with hnil | ⟨wt',c,Dw⟩
  ·subst hnil
   have hnr:=HI.out.stop
   go_wp2_with fail
   go_ret
   exact⟨false,rfl,by simp[hnr],HB.out⟩
  ·rw[List.concat_eq_append]at Dw
   subst Dw
   obtain⟨q,hq⟩:∃ q,wt'.length=q:=⟨_,rfl⟩
   have hcl:(wt'++[c]).length=q+1:=by simp[hq]
   have hmap:(wt'++[c]).map mL=wt'.map mL++[mL c]:=by simp
   rw[hcl,hmap]at HO
   rw[hcl]at hcnt ⊢
   obtain⟨g,aSj⟩:∃ g,ua=some ⟨g,0,none⟩:=by
    obtain⟨_,⟨hv,h0⟩ | ⟨g,cap,cur,hv,_⟩⟩:=HO.out
    ·cases h0
    ·injection hv with h1 _ _
     exact⟨g,h1⟩
   subst aSj
   obtain⟨Ul,hcap⟩:=Tr HO.out
   have hlast:w1.cell? ⟨g,q,none⟩=some (.int .i64 (c:Int)):=Ul
   clear Ul
   have hgb:=aE HO.out g rfl
   have hcw:=HI.out.wait c (by simp)
   rw[HN.out]at hcw
   obtain⟨m,hm⟩:∃ m,ms[c]? = some m:=⟨_,List.getElem?_eq_getElem (by have:=HN.out;omega)⟩
   obtain⟨gm,om,cm,ka,kc,hsl,hgm,e0,e1,hrows⟩:=aW.at HH.out (W:=w1) (fun b hb=>HB.out.block b hb) hm
   rw[HN.out]at hsl
   obtain⟨rfl,rfl⟩:ad=some ⟨gm,om,none⟩∧cc=cm:=by
    injection hsl with h1 _ h3
    exact⟨h1,h3⟩
   obtain⟨hfl,hft⟩:=HF.out.2 m (List.mem_of_getElem? hm)
   have rQ:=aB hft
   have aLb:=aB (HI.out.pop hm)
   have nX:=aB hrows
   have hun:=Mx HS.out
   have aEr:Hid (Fm w.heap.size (.slice (some ⟨g,0,none⟩) (q+1) uc) w1=2*Ru s+(q+1)):=by
    refine(?_:_=_)
    unfold Fm;rw[hun];rfl
   obtain⟨M0,hM0⟩:∃ M,2*Ru s+(q+1)=M:=⟨_,rfl⟩
   rw[hM0]at aEr
   have Su:=aB hM0
   have Js:=aB (Zz HO.out)
   have hw1:IntKind.i64.wrap (((q+1:Nat):Int) - 1)=(q:Int):=by rw[IntKind.wrap_i64];omega
   have aSk:IntKind.i64.wrap ((q:Int)+1 - 1)=(q:Int):=by rw[IntKind.wrap_i64];omega
   have hq0:(0:Int)≤(q:Int):=by omega
   have hq1:(q:Int)<(q:Int)+1:=by omega
   have hqp:(0:Int)<(q:Int)+1:=by omega
   have hc0:(0:Int)≤(c:Int):=by omega
   have hc1:(c:Int)<(n:Int):=by omega
   have hcut:=Uj g (q+1) uc q (by omega)
   obtain⟨nf,hnf⟩:∃ n,m.fields.length=n:=⟨_,rfl⟩
   rw[hnf]at e1 nX hfl
   have gI:=aB hnf
   have HQ:=aB hq
   have hcq:c<n:=hcw.1
   clear hcl hmap hsl hrows hun hM0 hnf hq hcw hft HI HO
   have hC:(w1.alloc (.cells #[.string (aC m.name),.slice ka nf kc] 48)).heap[w1.heap.size]? = some (.cells #[.string (aC m.name),.slice ka nf kc] 48 (0,0)):=alloc_heap_new _ _
   have bG:Below w1.heap.size w1 (w1.alloc (.cells #[.string (aC m.name),.slice ka nf kc] 48)):=(Below.refl _ w1).alloc (Nat.le_refl _) _
   go_upto_region 5 with fail
   generalize (w1.alloc (.cells #[.string (aC m.name),.slice ka nf kc] 48))=Y at *
   have cE:=aB (HB.out.trans (bG.mono hsw))
   have Um:Hid (Y.heap[w.heap.size]? = some (.cells (s.map Value.bool).toArray 4 (0,0))):=(bG.block _ hls).trans HS.out
   have uI:Hid (Y.ownsRow V.heap.size 3 1 (.slice (some ⟨g,0,none⟩) q uc) wt'.length (wt'.map mL)):=by
    refine(?_:World.ownsRow _ _ _ _ _ _ _)
    rw[HQ.out]
    exact aR Js.out fun b hb=>bG.block b (aE Js.out b hb).2
   have l1:=aA hC 1 rfl
   have hYs:=bG.size
   have yB:Hid (RowsIn Y (fun b=>b<w.heap.size) 5 cA (.slice ka nf kc) m.fields):=nX.out.old fun b hb=>bG.block b (by have hb':b<w.heap.size:=hb;omega)
   clear hC bG e0 e1 hlast Js nX
   go_wp2_with fail
   clear l1 hcut hw1 aSk
   go_loopw [6,35] (fun u i wr=>∃ (k:Nat) (s:List Bool) (wt:List Nat),i=.int .i64 (k:Int)∧k≤nf∧Jd ms t s wt c m.fields k∧wr.ownsRow V.heap.size 3 1 u wt.length (wt.map mL)∧wr.heap[w.heap.size]? = some (.cells (s.map Value.bool).toArray 4 (0,0))∧Below w.heap.size w wr∧V.heap.size≤wr.heap.size∧2*Ru s+wt.length<M0∧wt.length+Ru s≤n+1) (fun _ i _=>nf - (intOf i).toNat)
   case atStart=>exact⟨0,s,wt',rfl,Nat.zero_le _,aLb.out,uI.out,Um.out,cE.out,by omega,by have:=Su.out;have:=HQ.out;omega,by have:=HQ.out;omega⟩
   case round=>
    generalize wr=w2 at *
    clear Um uI aLb HS hls hgb hcap hcnt
    obtain⟨k,s2,Bm,rfl,hk,hin,hown,wS,hbel,hsz2,aSl,hcnt⟩:=hrel
    obtain⟨va,vc,huv⟩:=aO hown
    subst huv
    have HI:=aB hin
    have HO:=aB hown
    have HS:=aB wS
    have HB2:=aB hbel
    have uO:=hbel.size
    have hls:=aN wS
    have hlen:=hin.len
    rw[HN.out]at hlen
    clear hin hown wS hbel
    by_cases hkn:k<nf
    ·obtain⟨y,hy⟩:∃ y,m.fields[k]? = some y:=⟨_,List.getElem?_eq_getElem (by have:=gI.out;omega)⟩
     obtain⟨g2,o2,c2,hsl,hg2,e0,e1,e2,e3,e4⟩:=kR yB.out (W:=w2) (fun b hb=>(HB2.out.block b hb).trans (cE.out.block b hb).symm) hy
     rw[gI.out]at hsl
     obtain⟨rfl,rfl⟩:ka=some ⟨g2,o2,none⟩∧kc=c2:=by
      injection hsl with h1 _ h3
      exact⟨h1,h3⟩
     have hk0:(0:Int)≤(k:Int):=by omega
     have hk1:(k:Int)<(nf:Int):=by omega
     have hwk:=eE k (by omega)
     have wT:Hid (y.kind=10→y.rep=false→0≤y.type∧y.type<(n:Int)):=by
      refine(?_:_→_)
      have:=rQ.out y (List.mem_of_getElem? hy)
      rw[HN.out]at this
      exact this
     have HY:=aB hy
     clear hsl hy
     have hC:(w2.alloc (.cells #[.int .i64 y.num,.string (aC y.name),.int .i64 y.kind,.bool y.rep,.int .i64 y.type] 88)).heap[w2.heap.size]? = some (.cells #[.int .i64 y.num,.string (aC y.name),.int .i64 y.kind,.bool y.rep,.int .i64 y.type] 88 (0,0)):=alloc_heap_new _ _
     have bG:Below w2.heap.size w2 (w2.alloc (.cells #[.int .i64 y.num,.string (aC y.name),.int .i64 y.kind,.bool y.rep,.int .i64 y.type] 88)):=(Below.refl _ w2).alloc (Nat.le_refl _) _
     go_upto_region 9 with fail
     generalize (w2.alloc (.cells #[.int .i64 y.num,.string (aC y.name),.int .i64 y.kind,.bool y.rep,.int .i64 y.type] 88))=U at *
     have l0:=aA hC 0 rfl
     have l1:=aA hC 1 rfl
     have l2:=aA hC 2 rfl
     have l3:=aA hC 3 rfl
     have l4:=aA hC 4 rfl
     have eY:=aB (HB2.out.trans (bG.mono uO))
     have HSU:Hid (U.heap[w.heap.size]? = some (.cells (s2.map Value.bool).toArray 4 (0,0))):=(bG.block _ hls).trans HS.out
     have HOU:Hid (U.ownsRow V.heap.size 3 1 (.slice va Bm.length vc) Bm.length (Bm.map mL)):=aR HO.out fun b hb=>bG.block b (aE HO.out b hb).2
     have Mu:=bG.size
     have hUl:=aN hC
     have Un:=aB hC
     have qK:Hid (∀ b,(Value.slice va Bm.length vc).ownBlock=some b→V.heap.size≤b∧b<w2.heap.size):=fun b hb=>aE HO.out b hb
     clear hC bG e0 e1 e2 e3 e4 HO HS
     have gK:∀ (hs:y.kind=10→y.rep=false→∀ z:Nat,y.type=(z:Int)→Seen s2 z),Jd ms t s2 Bm c m.fields (k+1):=fun hs=>HI.out.skip HY.out hs
     by_cases hkd:y.kind=10
     ·rw[hkd]at l2
      cases Cn:y.rep
      case true=>
       rw[Cn]at l3
       have uY:=aB (gK (fun _ h=>by rw[Cn]at h;cases h))
       clear gK Cn hkd
       go_wp2_with fail
       go_roundw
       case rel=>exact⟨k+1,s2,Bm,by go_num,by omega,uY.out,HOU.out,HSU.out,eY.out,by omega,by omega,by omega⟩
       case measure=>simp[intOf];omega
      case false=>
       rw[Cn]at l3
       obtain⟨ht0,ht1⟩:=wT.out hkd Cn
       obtain⟨z,hz⟩:∃ z:Nat,y.type=(z:Int):=⟨y.type.toNat,by omega⟩
       have hzn:z<n:=by omega
       rw[hz]at l4
       have HZ:=aB hz
       have eO:=aB hkd
       have HRP:=aB Cn
       have hz0:(0:Int)≤(z:Int):=by omega
       have hz1:(z:Int)<(n:Int):=by omega
       obtain⟨b,hb⟩:∃ b,s2[z]? = some b:=⟨_,List.getElem?_eq_getElem (by omega)⟩
       have q0:U.cell? ⟨w.heap.size,z,none⟩=some (.bool b):=by simp[World.cell?,HSU.out,hb]
       have qf:U.frozen? ⟨w.heap.size,z,none⟩=false:=by simp[World.frozen?,HSU.out]
       have iU:=aB hb
       clear hz hkd Cn hb ht0 ht1
       cases b
       case true=>
        have uY:=aB (gK (fun _ _ z' hz'=>by have:z'=z:=(by have:=HZ.out;omega);subst this;exact iU.out))
        clear gK
        go_wp2_with fail
        go_roundw
        case rel=>exact⟨k+1,s2,Bm,by go_num,by omega,uY.out,HOU.out,HSU.out,eY.out,by omega,by omega,by omega⟩
        case measure=>simp[intOf];omega
       case false=>
        clear gK
        by_cases Uo:z=t
        ·have hr:Ring ms t:=HI.out.found HY.out eO.out HRP.out (by rw[HZ.out,Uo])
         have aAg:(z:Int)=(t:Int):=by omega
         rw[Uo]at l4 q0 qf
         have ht0:(0:Int)≤(t:Int):=by omega
         have ht1:(t:Int)<(n:Int):=by omega
         clear Uo aAg hz0 hz1
         go_wp2_with fail
         go_ret
         exact⟨true,rfl,by simp[hr],eY.out⟩
        ·have aAg:((z:Int) == (t:Int))=false:=by simp;omega
         have aSm:¬(z:Int)=(t:Int):=by omega
         have uY:=aB (HI.out.mark HY.out eO.out HRP.out HZ.out (by rw[HN.out];exact hzn) Uo)
         have hu:=Mo s2 z iU.out
         have Fo:(U.setCell ⟨w.heap.size,z,none⟩ (.bool true)).heap[w.heap.size]? = some (.cells ((s2.set z true).map Value.bool).toArray 4 (0,0)):=by rw[aG HSU.out,Pq (by omega)]
         have hQb:Below w.heap.size w (U.setCell ⟨w.heap.size,z,none⟩ (.bool true)):=eY.out.setCell (p:=⟨w.heap.size,z,none⟩) (Nat.le_refl _) _
         have sX:∀ b,b≠w.heap.size→(U.setCell ⟨w.heap.size,z,none⟩ (.bool true)).heap[b]? = U.heap[b]?:=fun b hb=>Below.heap_setCell _ _ _ _ hb
         have aB:(U.setCell ⟨w.heap.size,z,none⟩ (.bool true)).heap.size=U.heap.size:=by simp
         go_upto_region 13 with fail
         generalize (U.setCell ⟨w.heap.size,z,none⟩ (.bool true))=R at *
         have hQ1:R.heap.size≤U.heap.size:=by omega
         have hQ2:U.heap.size≤R.heap.size:=by omega
         clear aB
         have HRC:Hid (R.heap[w2.heap.size]? = _):=(sX _ (by omega)).trans Un.out
         have r4:R.cell? ⟨w2.heap.size,4,none⟩=some (.int .i64 (z:Int)):=by have:=HZ.out;simp[World.cell?,HRC.out,this]
         have HOR:Hid (R.ownsRow V.heap.size 3 1 (.slice va Bm.length vc) Bm.length (Bm.map mL)):=aR HOU.out fun b hb=>sX b (by have:=qK.out b hb;omega)
         have HSR:=aB Fo
         have HBR:=aB hQb
         clear l0 l1 l2 l3 l4 q0 qf Fo hQb sX Uo aAg aSm HOU HSU eY HRC
         go_wp2_with (at_builtin;refine oW (T:=3) Tryz.underlying139 Uk rfl (by decide) (HOR.out.alloc _) (by simp;omega) [.int .i64 (z:Int)] rfl (by intro u hu;have:u=.int .i64 (z:Int):=(by simpa using hu);subst this;rfl) R.heap.size (alloc_heap_new _ _) rfl _ _ rfl rfl rfl (by unfold maxLen;omega) (by omega) ?_)
         intro g3 aSn W3 hown3 Bn yG hlt3
         have hgR:R.grownBy W3 (Value.slice va Bm.length vc).ownBlock:=(World.grownBy_alloc _ _ _).trans Bn
         have hne:∀ b,b<V.heap.size→(some b≠(Value.slice va Bm.length vc).ownBlock):=fun b hb e=>by have:=qK.out b e.symm;omega
         have pO:Hid (W3.heap[w.heap.size]? = _):=(hgR.block _ (by omega) (hne _ hlV)).trans HSR.out
         have HB3:Hid (Below w.heap.size w W3):=HBR.out.grown hgR (by omega) (fun b hb=>by have:=qK.out b hb;omega)
         have HO3:Hid (W3.ownsRow V.heap.size 3 1 (.slice (some ⟨g3,0,none⟩) (Bm.length+1) aSn) (Bm++[z]).length ((Bm++[z]).map mL)):=by
          refine(?_:World.ownsRow _ _ _ _ _ _ _)
          rw[List.length_append,List.map_append]
          exact hown3
         have hs3:=hgR.size
         clear hown3 Bn yG hgR hne r4
         go_wp2_with fail
         go_roundw
         case rel=>exact⟨k+1,s2.set z true,Bm++[z],by go_num,by omega,uY.out,HO3.out,pO.out,HB3.out,by omega,by simp;omega,by simp;omega⟩
         case measure=>simp[intOf];omega
     ·have bDd:(y.kind != 10)=true:=by simp[hkd]
      have uY:=aB (gK (fun h=>absurd h hkd))
      clear gK
      go_wp2_with fail
      go_roundw
      case rel=>exact⟨k+1,s2,Bm,by go_num,by omega,uY.out,HOU.out,HSU.out,eY.out,by omega,by omega,by omega⟩
      case measure=>simp[intOf];omega
    ·have hkn':¬(k:Int)<(nf:Int):=by omega
     have HIV:=aB (HI.out.fin (by rw[gI.out];omega))
     have hun:=Mx HS.out
     have HME:Hid (Fm w.heap.size (.slice va Bm.length vc) w2<M0):=by
      refine(?_:(_:Nat) < _)
      unfold Fm;rw[hun];exact aSl
     clear hun hkn
     go_wp2_with fail
     go_roundw
     case rel=>exact⟨s2,Bm,HIV.out,HO.out,HS.out,HB2.out,hsz2,by omega⟩
     case measure=>first | exact HME.out | (rw[aEr.out];exact HME.out) | (have h1:=aEr.out;have h2:=HME.out;omega)
set_option maxHeartbeats 16000000 in
set_option maxRecDepth 20000 in
theorem Up (f:Nat) (ms:List MD) (mv:Value) (ps:List Pl) (v:Value) (w:World) (hn0:ps.length≤100000) (hfit:oX ms) (hcn:dI 1 ps≤ms.length) (hM:kQ w (fun b=>b<w.heap.size) mv ms) (hH:eJ 9 f w (fun b=>b<w.heap.size) v ps) :
  Calls Tryz.prog 29 #[mv,v] w fun e w'=>∃ o,mT ms ps ps.length o∧wN w o e w':=by
 have HH:=aB hH
 have HHM:=aB hM
 have aEt:=aB hfit
 obtain⟨ad,cc,rfl⟩:=hH.cM
 obtain⟨md,mcc,rfl⟩:=aW.cM hM
 obtain⟨n,hn⟩:∃ n,ps.length=n:=⟨_,rfl⟩
 have HN:=aB hn
 rw[hn]at hn0 ⊢
 have HCN:=aB hcn
 clear hH hn hM hfit hcn
 go_enter Tryz.func29,Tryz.ntmps29
 go_wp2_with fail
 go_loopw [6,11] (fun c i wr=>∃ (j m:Nat),i=.int .i64 (j:Int)∧c=.int .i64 (m:Int)∧j≤n∧dI 1 (ps.take j)=m∧m≤j∧mT ms ps j none∧Below w.heap.size w wr∧wr.heap[w.heap.size]? = some (.cells #[.int .i64 0,.int .i64 0] 31 (0,0))) (fun _ i _=>n - (intOf i).toNat)
 case atStart=>exact⟨0,0,rfl,rfl,Nat.zero_le _,rfl,Nat.le_refl _,fun i x hi=>by omega,(Below.refl _ w).alloc (Nat.le_refl _) _,alloc_heap_new _ _⟩
 case round=>
  generalize wr=w1 at *
  obtain⟨j,m,rfl,rfl,hj,hcm,hmj,hcy,hbel,qL⟩:=hrel
  have HCM:=aB hcm
  have sW:=aB hcy
  have HB:=aB hbel
  have HX:=aB qL
  have hsw:=hbel.size
  have hlt:=aN qL
  clear hcm hcy hbel qL
  by_cases hjn:j<n
  ·obtain⟨x,hx⟩:∃ x,ps[j]? = some x:=⟨_,List.getElem?_eq_getElem (by have:=HN.out;omega)⟩
   have hcs:=gC 1 (ps.take j) x
   rw[←aY hx,HCM.out]at hcs
   have bDi:dI 1 (ps.take (j+1))≤ms.length:=by
    refine Nat.le_trans ?_ HCN.out
    have:ps=ps.take (j+1)++ps.drop (j+1):=(List.take_append_drop _ _).symm
    rw[this]
    unfold dI
    rw[List.filter_append,List.length_append,←this]
    omega
   have vH:=aB hx
   have HCS:=aB hcs
   obtain⟨g,o,c0,fa,fc,va,vc,ma,mc,ia,ic,hsl,hg,e0,e1,e2,e3,e4,e5,e6,e7,e8,kd⟩:=lP HH.out (W:=w1) (fun b hb=>HB.out.block b hb) hx
   rw[HN.out]at hsl
   obtain⟨rfl,rfl⟩:ad=some ⟨g,o,none⟩∧cc=c0:=by
    injection hsl with h1 _ h3
    exact⟨h1,h3⟩
   have hj0:(0:Int)≤(j:Int):=by omega
   have hj1:(j:Int)<(n:Int):=by omega
   have hwq:=eE j (by omega)
   have eO:=aB kd
   clear hsl kd hcs
   have hC:(w1.alloc (.cells #[.int .i64 x.2.kind,.string (aC x.2.name),.int .i64 x.2.line,.int .i64 x.2.col,.slice fa x.2.fields.length fc,.slice va x.2.values.length vc,.slice ma x.2.methods.length mc,.slice ia x.2.inner.length ic,.string (aC x.1)] 117)).heap[w1.heap.size]? = some (.cells #[.int .i64 x.2.kind,.string (aC x.2.name),.int .i64 x.2.line,.int .i64 x.2.col,.slice fa x.2.fields.length fc,.slice va x.2.values.length vc,.slice ma x.2.methods.length mc,.slice ia x.2.inner.length ic,.string (aC x.1)] 117 (0,0)):=alloc_heap_new _ _
   have bG:Below w1.heap.size w1 (w1.alloc (.cells #[.int .i64 x.2.kind,.string (aC x.2.name),.int .i64 x.2.line,.int .i64 x.2.col,.slice fa x.2.fields.length fc,.slice va x.2.values.length vc,.slice ma x.2.methods.length mc,.slice ia x.2.inner.length ic,.string (aC x.1)] 117)):=(Below.refl _ w1).alloc (Nat.le_refl _) _
   go_upto_region 5 with fail
   generalize (w1.alloc (.cells #[.int .i64 x.2.kind,.string (aC x.2.name),.int .i64 x.2.line,.int .i64 x.2.col,.slice fa x.2.fields.length fc,.slice va x.2.values.length vc,.slice ma x.2.methods.length mc,.slice ia x.2.inner.length ic,.string (aC x.1)] 117))=Y at *
   have l0:=aA hC 0 rfl
   have l1:=aA hC 1 rfl
   have l2:=aA hC 2 rfl
   have l3:=aA hC 3 rfl
   have l4:=aA hC 4 rfl
   have l5:=aA hC 5 rfl
   have l6:=aA hC 6 rfl
   have l7:=aA hC 7 rfl
   have l8:=aA hC 8 rfl
   have cE:=aB (HB.out.trans (bG.mono hsw))
   have sY:Hid (Y.heap[w.heap.size]? = some (.cells #[.int .i64 0,.int .i64 0] 31 (0,0))):=(bG.block _ hlt).trans HX.out
   have HCB:=aB hC
   have hYs:=bG.size
   have hYl:=aN hC
   have tU:Hid (kQ Y (fun b=>b<Y.heap.size) (.slice md ms.length mcc) ms):=(aW.old HHM.out (fun b hb=>(bG.block b (by have hb':b<w.heap.size:=hb;omega)).trans (HB.out.block b hb))).more fun b hb=>by have hb':b<w.heap.size:=hb;omega
   have hw1:=eE m (by omega)
   clear hC bG e0 e1 e2 e3 e4 e5 e6 e7 e8
   by_cases hk:x.2.kind=1
   ·have hc1:dI 1 (ps.take (j+1))=m+1:=by have:=HCS.out;rw[if_pos hk]at this;exact this
    have hring:=zP ms _ m Y aEt.out (by omega) tU.out
    have Rx:=aB hc1
    have HK:=aB hk
    rw[hk]at l0
    clear hc1 hk
    go_wp2_with fail
    refine hring.mono ?_
    rintro e W2 ⟨b,rfl,hb,Mz⟩
    have HW2:=aB (cE.out.trans (Mz.mono cE.out.size))
    have h20:W2.heap[w.heap.size]? = some (.cells #[.int .i64 0,.int .i64 0] 31 (0,0)):=(Mz.block _ (by omega)).trans sY.out
    have gH:W2.heap[w1.heap.size]? = _:=(Mz.block _ hYl).trans HCB.out
    have p0:=aA gH 2 rfl
    have p1:=aA gH 3 rfl
    have rR:=aB h20
    have HRG:=aB hb
    clear hb Mz gH l0 l1 l2 l3 l4 l5 l6 l7 l8 hring
    cases b
    case true=>
     have hrr:Ring ms m:=HRG.out.1 rfl
     have gS:Hid (mT ms ps n (some (x.2.line,x.2.col))):=by
      refine(?_:mT _ _ _ _)
      refine⟨j,x,vH.out,HK.out,by rw[HCM.out];exact hrr,rfl,fun i y hi hy hk=>sW.out i y hi hy hk⟩
     have k0:=aA h20 0 rfl
     have k1:=aA h20 1 rfl
     have mI:=aF h20 0
     have mJ:=aF h20 1
     clear h20
     obtain⟨Z,hZ,r0,r1,fM⟩:=bS rR.out HW2.out (Nat.le_refl _) x.2.line x.2.col
     have HZ:=aB hZ
     clear hZ
     go_wp2_with fail
     rw[HZ.out]
     refine bodyPost_ret (v:=.tuple #[.agg #[.int .i64 x.2.line,.int .i64 x.2.col],.bool true]) (by simp[results,Tryz.results29,go_sem,r0,r1]) rfl ?_
     exact⟨_,gS.out,_,_,_,rfl,fM,.inr ⟨rfl,rfl⟩⟩
    case false=>
     have hrr:¬Ring ms m:=fun h=>by have:=HRG.out.2 h;cases this
     have fS:Hid (mT ms ps (j+1) none):=by
      refine(?_:mT _ _ _ _)
      intro i y hi hy hk
      by_cases hij:i=j
      ·subst hij
       rw[HCM.out];exact hrr
      ·exact sW.out i y (by omega) hy hk
     clear hrr p0 p1 h20
     go_wp2_with fail
     go_roundw
     case rel=>exact⟨j+1,m+1,by go_num,by go_num,by omega,Rx.out,by omega,fS.out,HW2.out,rR.out⟩
     case measure=>simp[intOf];omega
   ·have hk':(x.2.kind != 1)=true:=by simp[hk]
    have Rx:Hid (dI 1 (ps.take (j+1))=m):=by
     refine(?_:_=_)
     have:=HCS.out;rw[if_neg hk]at this;exact this
    have fS:Hid (mT ms ps (j+1) none):=by
     refine(?_:mT _ _ _ _)
     intro i y hi hy hk1
     by_cases hij:i=j
     ·subst hij
      rw[vH.out]at hy
      cases hy
      exact absurd hk1 hk
     ·exact sW.out i y (by omega) hy hk1
    go_wp2_with fail
    go_roundw
    case rel=>exact⟨j+1,m,by go_num,rfl,by omega,Rx.out,by omega,fS.out,cE.out,sY.out⟩
    case measure=>simp[intOf];omega
  ·have sZ:¬(j:Int)<(n:Int):=by omega
   have pD:j=n:=by omega
   obtain⟨Z,hZ,r0,r1,fM⟩:=bS HX.out HB.out (Nat.le_refl _) 0 0
   have HZ:=aB hZ
   have k0:=aA HX.out 0 rfl
   have k1:=aA HX.out 1 rfl
   have mI:=aF HX.out 0
   have mJ:=aF HX.out 1
   have HJE:=aB pD
   clear hZ pD hjn
   go_wp2_with fail
   rw[HZ.out]
   refine bodyPost_ret (v:=.tuple #[.agg #[.int .i64 0,.int .i64 0],.bool false]) (by simp[results,Tryz.results29,go_sem,r0,r1]) rfl ?_
   exact⟨_,by rw[←HJE.out];exact sW.out,_,_,_,rfl,fM,.inl ⟨rfl,rfl,rfl,rfl⟩⟩
end Go.Proofs.YtpojeinddnjpfaaGreatDoor
