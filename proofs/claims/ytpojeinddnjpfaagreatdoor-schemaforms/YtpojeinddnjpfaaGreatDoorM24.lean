/-
  Walks and plain words (FoP FoQ).
-/
import Derived.Test.YtpojeinddnjpfaaGreatDoorM14
import Derived.Test.YtpojeinddnjpfaaGreatDoorM22
import Derived.Test.YtpojeinddnjpfaaGreatDoorM23
import Derived.Test.YtpojeinddnjpfaaGreatDoorM16
import Derived.Test.YtpojeinddnjpfaaGreatDoorM20
import Derived.DeepKeys4
namespace Go.Proofs.YtpojeinddnjpfaaGreatDoor
set_option linter.unusedVariables false
open Go.ChangeShapes Go.WideShapes Go.ChangeAt Go.RowKit Go.Maps

set_option maxHeartbeats 2000000 in
theorem pA (l:List UInt8) (w:World) (hl:l.length≤200000000) :
  Calls Tryz.prog 87 #[.string (aC l)] w fun e w'=>e=.returned (.bool (aZ l))∧Below w.heap.size w w':=by
 have hN:=fun W=>rC (aC l) W (by rw[aV];omega)
 have hR:=fun W=>iD (aC l) W
 rw[aH]at hR
 have HP:Hid (aZ l=(nameOf (runes (aC l))&&!gJ l)):=rfl
 generalize aZ l=P at *
 generalize nameOf (runes (aC l))=a at *
 generalize gJ l=c at *
 go_enter Tryz.func87,Tryz.ntmps87
 cases a with
 | false=>
  go_wp2_with fail
  refine(hN _).mono ?_
  rintro e w1 ⟨rfl,hb⟩
  clear hN hR
  go_wp2_with fail
  go_ret
  exact⟨aU (by rw[HP.out];rfl),hb⟩
 | true=>
  go_wp2_with fail
  refine(hN _).mono ?_
  rintro e w1 ⟨rfl,hb⟩
  go_wp2_with fail
  refine(hR _).mono ?_
  rintro e w2 ⟨rfl,rfl⟩
  clear hN hR
  go_wp2_with fail
  go_ret
  exact⟨aU (by rw[HP.out];cases c <;> rfl),hb⟩
set_option maxHeartbeats 1000000 in
theorem Jx (s:ByteArray) (w:World) (hs:s.size≤200000000) :
  Calls Tryz.prog 84 #[.string s] w fun e w'=>e=.returned (.bool (cF s.data.toList))∧Below w.heap.size w w':=by
 have hP:=wO s w hs
 have hq:=iG s
 obtain⟨R,hR⟩:∃ R,cF s.data.toList=R:=⟨_,rfl⟩
 rw[hR]at hq ⊢
 have HQ:Hid (∀ e w',cY s e w'→∃ ad n c,e=.returned (.tuple #[.slice ad n c,.bool R])):=by
  intro e w' h
  unfold cY at h
  split at h
  ·rename_i hc
   obtain⟨g,c,he,_⟩:=h
   have:R=true:=by rw[hq,hc.2,decide_eq_true hc.1];rfl
   rw[this]
   exact⟨_,_,_,he⟩
  ·rename_i hc
   have:R=false:=by
    rw[hq]
    by_cases h8:(pieces s).length≤8
    ·have:bT s=false:=by
      cases hz:bT s with
      | false=>rfl
      | true=>exact absurd ⟨h8,hz⟩ hc
     rw[this];simp
    ·rw[decide_eq_false h8];rfl
   rw[this]
   exact⟨_,_,_,h⟩
 clear hq hR
 go_enter Tryz.func84,Tryz.ntmps84
 go_wp2_with fail
 refine hP.mono ?_
 rintro e w1 ⟨hA,hb⟩
 obtain⟨ad,n,c,rfl⟩:=HQ.out e w1 hA
 clear hP hA HQ
 go_wp2_with fail
 go_ret
 exact⟨rfl,hb⟩
theorem zS (l:List UInt8) (w:World) (hl:l.length≤200000000) :
  Calls Tryz.prog 84 #[.string (aC l)] w fun e w'=>e=.returned (.bool (cF l))∧Below w.heap.size w w':=by
 have:=Jx (aC l) w (by rw[aV];exact hl)
 rw[show (aC l).data.toList=l from rfl]at this
 exact this
set_option maxHeartbeats 4000000 in
theorem nY (ma ea ta:Option Addr) (nm ne nt mc ec tc:Nat) (n:Int) (w:World) :
  Calls Tryz.prog 89 #[.agg #[.slice ma nm mc,.slice ea ne ec,.slice ta nt tc],.int .i64 n] w fun e w'=>e=.returned (.bool (Bb nm n))∧Below w.heap.size w w':=by
 obtain⟨R,hR⟩:∃ r,Bb nm n=r:=⟨_,rfl⟩
 have HR:=aB hR
 rw[hR]
 obtain⟨Y,hY,hC,hb,-⟩:=bY w #[.slice ma nm mc,.slice ea ne ec,.slice ta nt tc] 29
 have HY:=aB hY
 have HB:=aB hb
 have l0:=aA hC 0 rfl
 clear hY hb hC hR
 go_enter Tryz.func89,Tryz.ntmps89
 go_upto_region 1 with fail
 rw[HY.out]
 by_cases h0:0≤n
 ·by_cases h1:n<(nm:Int)
  ·go_wp2_with fail
   go_ret
   exact⟨aU (by rw[←HR.out];unfold Bb;exact(decide_eq_true (by omega)).symm),HB.out⟩
  ·go_wp2_with fail
   go_ret
   exact⟨aU (by rw[←HR.out];unfold Bb;exact(decide_eq_false (by omega)).symm),HB.out⟩
 ·go_wp2_with fail
  go_ret
  exact⟨aU (by rw[←HR.out];unfold Bb;exact(decide_eq_false (by omega)).symm),HB.out⟩
set_option maxHeartbeats 8000000 in
theorem Ps (ma ea ta:Option Addr) (nm ne nt mc ec tc:Nat) (y:FD) (w:World) :
  Calls Tryz.prog 131 #[.agg #[.slice ma nm mc,.slice ea ne ec,.slice ta nt tc],.agg #[.int .i64 y.num,.string (aC y.name),.int .i64 y.kind,.bool y.rep,.int .i64 y.type]] w fun e w'=>e=.returned (.bool (sV ne nm y))∧Below w.heap.size w w':=by
 obtain⟨R,hR⟩:∃ r,sV ne nm y=r:=⟨_,rfl⟩
 unfold sV at hR
 have HR:=aB hR
 obtain⟨Y,hY,hC,hb,hYs⟩:=bY w #[.slice ma nm mc,.slice ea ne ec,.slice ta nt tc] 29
 obtain⟨V,hV,hD,dO,iH⟩:=bY Y #[.int .i64 y.num,.string (aC y.name),.int .i64 y.kind,.bool y.rep,.int .i64 y.type] 88
 rw[show sV ne nm y=R from hR]
 have HY:=aB hY
 have HV:=aB hV
 have HB:=aB (hb.trans (dO.mono hb.size))
 rw[hYs]at hD dO iH
 have hC2:=(dO.block _ (by omega)).trans hC
 have s0:=aA hC2 0 rfl
 have s1:=aA hC2 1 rfl
 have s2:=aA hC2 2 rfl
 have l2:=aA hD 2 rfl
 have l4:=aA hD 4 rfl
 have hM:=nY ma ea ta nm ne nt mc ec tc y.type V
 clear hY hV hC hC2 hD hb dO hYs hR iH
 go_enter Tryz.func131,Tryz.ntmps131
 go_upto_region 1 with fail
 rw[HY.out,HV.out]
 generalize y.kind=kd at *
 generalize y.type=ty at *
 by_cases h9:kd=9
 ·subst h9
  rw[if_pos rfl]at HR
  by_cases h0:0≤ty
  ·by_cases h1:ty<(ne:Int)
   ·go_wp2_with fail
    go_ret
    exact⟨aU (by rw[←HR.out];exact(decide_eq_true (by omega)).symm),HB.out⟩
   ·go_wp2_with fail
    go_ret
    exact⟨aU (by rw[←HR.out];exact(decide_eq_false (by omega)).symm),HB.out⟩
  ·go_wp2_with fail
   go_ret
   exact⟨aU (by rw[←HR.out];exact(decide_eq_false (by omega)).symm),HB.out⟩
 ·rw[if_neg h9]at HR
  by_cases h10:kd=10
  ·subst h10
   rw[if_pos rfl]at HR
   clear h9
   go_wp2_with fail
   refine hM.mono ?_
   rintro e W ⟨rfl,hbw⟩
   go_wp2_with fail
   go_ret
   exact⟨aU (by rw[←HR.out];rfl),HB.out.trans (hbw.mono HB.out.size)⟩
  ·rw[if_neg h10]at HR
   by_cases h1:1≤kd
   ·by_cases h8:kd≤8
    ·by_cases ht:ty=0
     ·subst ht
      go_wp2_with fail
      go_ret
      exact⟨aU (by rw[←HR.out];exact(decide_eq_true ⟨by omega,by omega,trivial⟩).symm),HB.out⟩
     ·go_wp2_with fail
      go_ret
      exact⟨aU (by rw[←HR.out,decide_eq_false (show ¬(1≤kd∧kd≤8∧ty=0)by omega)];exact beq_eq_false_iff_ne.2 ht),HB.out⟩
    ·go_wp2_with fail
     go_ret
     exact⟨aU (by rw[←HR.out];exact(decide_eq_false (by omega)).symm),HB.out⟩
   ·go_wp2_with fail
    go_ret
    exact⟨aU (by rw[←HR.out];exact(decide_eq_false (by omega)).symm),HB.out⟩
def aEx (fs:List FD):Prop:=fs.length≤100000∧∀ f∈fs,f.name.length≤100000
set_option maxHeartbeats 16000000 in
set_option maxRecDepth 20000 in
theorem Ft (ma ea ta:Option Addr) (nm ne nt mc ec tc:Nat) (fs:List FD) (v:Value) (w:World) (hf:aEx fs) (hH:RowsIn w (fun b=>b<w.heap.size) 5 cA v fs) :
  Calls Tryz.prog 85 #[.agg #[.slice ma nm mc,.slice ea ne ec,.slice ta nt tc],v] w fun e w'=>e=.returned (.bool (pR ne nm fs))∧Below w.heap.size w w':=by
 have HH:=aB hH
 obtain⟨ad,cc,rfl⟩:=hH.cM
 have HF:=aB hf
 have hn0:=hf.1
 obtain⟨R,hR⟩:∃ r,pR ne nm fs=r:=⟨_,rfl⟩
 have Bh:eX (fF fs (kP ne nm fs)) fs.length=R:=hR
 obtain⟨n,hn⟩:∃ n,fs.length=n:=⟨_,rfl⟩
 have HN:=aB hn
 rw[hR]
 rw[hn]at hn0 Bh ⊢
 have qS:=aB Bh
 obtain⟨Y,hY,hC,hb,hYs⟩:=bY w #[.slice ma nm mc,.slice ea ne ec,.slice ta nt tc] 29
 obtain⟨V,hV,hM,dO,iH⟩:=rP Y
 have HY:=aB hY
 have HV:=aB hV
 have iA:=aB (hb.trans (dO.mono hb.size))
 rw[hYs]at hM dO iH
 have yH:=aB ((dO.block _ (by omega)).trans hC)
 have nZ:Hid (cC 9 eQ V (w.heap.size+1) ([]:List (List UInt8))):=dZ _ _ hM
 have hmm:=@run_makeMap Tryz.prog
 clear hH hf hn hR Bh hY hV hC hb hM dO hYs iH
 go_enter Tryz.func85,Tryz.ntmps85
 go_upto_region 2 with fail
 rw[HY.out,HV.out]
 clear hmm
 go_wp2_with fail
 go_loopw [6,12] (fun u i wr=>∃ k:Nat,i=.int .i64 (k:Int)∧u=.int .i64 (wK fs k)∧k≤n∧eX (fF fs (kP ne nm fs)) k=true∧Below w.heap.size w wr∧wr.heap[w.heap.size]? = some (.cells #[.slice ma nm mc,.slice ea ne ec,.slice ta nt tc] 29 (0,0))∧cC 9 eQ wr (w.heap.size+1) (fI fs k)) (fun _ i _=>n - (intOf i).toNat)
 case atStart=>exact⟨0,rfl,rfl,Nat.zero_le _,rfl,iA.out,yH.out,nZ.out⟩
 case round=>
  generalize wr=w1 at *
  obtain⟨k,rfl,rfl,hk,hall,hbel,hsc,hset⟩:=hrel
  have cW:=aB hall
  have HB:=aB hbel
  have HS:=aB hsc
  have HT:=aB hset
  have hsw:=hbel.size
  have hl2:=hset.lt
  clear hall hbel hsc hset iA yH nZ
  obtain⟨p,hp⟩:∃ p,wK fs k=p:=⟨_,rfl⟩
  rw[hp]
  by_cases hkn:k<n
  ·obtain⟨y,hy⟩:∃ y,fs[k]? = some y:=⟨_,List.getElem?_eq_getElem (by have:=HN.out;omega)⟩
   obtain⟨g,o,c0,hsl,hg,e0,e1,e2,e3,e4⟩:=kR HH.out (W:=w1) (fun b hb=>HB.out.block b hb) hy
   rw[HN.out]at hsl
   obtain⟨rfl,rfl⟩:=aJ hsl
   have hnl:=HF.out.2 y (List.mem_of_getElem? hy)
   have fS:=aB (Ev hy)
   have HPX:=aB (wL hy)
   have hkl:=Jg fs k
   have HG:Hid (fF fs (kP ne nm fs) k=(decide (p<y.num)&&(fV y.num&&(aZ y.name&&(!decide (y.name∈fI fs k)&&sV ne nm y))))):=by
    refine(?_:_=_)
    rw[dB hy,←hp];rfl
   have dR:Hid (fF fs (kP ne nm fs) k=false→R=false):=fun h=>by rw[←qS.out];exact cQ h (by omega)
   have hk0:(0:Int)≤(k:Int):=by omega
   have hk1:(k:Int)<(n:Int):=by omega
   have hwk:=eE k (by omega)
   obtain⟨KS,lT⟩:∃ K,fI fs k=K:=⟨_,rfl⟩
   rw[lT]at HT fS hkl HG
   clear hsl hy lT hp
   obtain⟨U,hU,hC,bG,Mu⟩:=bY w1 #[.int .i64 y.num,.string (aC y.name),.int .i64 y.kind,.bool y.rep,.int .i64 y.type] 88
   have HU:=aB hU
   clear hU
   go_upto_region 6 with fail
   rw[HU.out]
   have l0:=aA hC 0 rfl
   have l1:=aA hC 1 rfl
   have eY:=aB (HB.out.trans (bG.mono hsw))
   have Rv:=aB ((bG.block _ (by omega)).trans HS.out)
   have vF:=aB hC
   have hus:=HT.out.old (bG.block _ hl2)
   have hfc:=rT y.num U
   have hpl:=pA y.name U (by omega)
   clear hC bG e0 e1 e2 e3 e4
   by_cases h1:p<y.num
   case neg=>
    go_wp2_with fail
    go_ret
    exact⟨aU (dR.out (by rw[HG.out,decide_eq_false (by omega)];rfl)).symm,eY.out⟩
   generalize fV y.num=B1 at *
   cases B1
   case false=>
    go_wp2_with fail
    refine hfc.mono ?_
    rintro e u1 ⟨rfl,hu1⟩
    have hu1:=hu1.symm
    subst hu1
    go_wp2_with fail
    go_ret
    exact⟨aU (dR.out (by rw[HG.out];simp)).symm,eY.out⟩
   go_wp2_with fail
   refine hfc.mono ?_
   rintro e u1 ⟨rfl,hu1⟩
   have hu1:=hu1.symm
   subst hu1
   clear hfc
   generalize aZ y.name=B2 at *
   go_wp2_with fail
   refine hpl.mono ?_
   rintro e U1 ⟨rfl,hb1⟩
   clear hpl
   have HB1:=aB (eY.out.trans (hb1.mono eY.out.size))
   cases B2
   case false=>
    go_wp2_with fail
    go_ret
    exact⟨aU (dR.out (by rw[HG.out];simp)).symm,HB1.out⟩
   have q1:U1.cell? ⟨w1.heap.size,1,none⟩=some (.string (aC y.name)):=(hb1.cell (by simp;omega)).trans l1
   have Vj:=aB ((hb1.block _ (by omega)).trans vF.out)
   have Jy:=aB ((hb1.block _ (by omega)).trans Rv.out)
   have hadd:=gQ (w.heap.size+1) KS y.name U1 (hus.old (hb1.block _ (by omega))) (by omega) (by omega)
   have hs1:=hb1.size
   obtain⟨B3,hB3⟩:∃ b,(!decide (y.name∈KS))=b:=⟨_,rfl⟩
   rw[hB3]at hadd HG
   clear hB3 hb1 hus l0 l1
   go_wp2_with fail
   refine hadd.mono ?_
   rintro e U2 ⟨rfl,hset,hgr⟩
   have HB2:=aB (HB1.out.grown hgr HB1.out.size (fun b hb=>by cases hb;omega))
   have Cq:=(hgr.block _ (by omega) (by simp)).trans Jy.out
   have gH:=(hgr.block _ (by omega) (by simp;omega)).trans Vj.out
   have nZ:=aB hset
   have hs2:=hgr.size
   have hl3:=hset.lt
   clear hadd hset hgr q1
   cases B3
   case false=>
    go_wp2_with fail
    go_ret
    exact⟨aU (dR.out (by rw[HG.out];simp)).symm,HB2.out⟩
   have s0:=aA Cq 0 rfl
   have s1:=aA Cq 1 rfl
   have s2:=aA Cq 2 rfl
   have l0:=aA gH 0 rfl
   have l1:=aA gH 1 rfl
   have l2:=aA gH 2 rfl
   have l3:=aA gH 3 rfl
   have l4:=aA gH 4 rfl
   have Fs:=aB Cq
   have hty:=Ps ma ea ta nm ne nt mc ec tc y U2
   generalize sV ne nm y=B4 at *
   clear Cq gH
   go_wp2_with fail
   refine hty.mono ?_
   rintro e U3 ⟨rfl,hb3⟩
   have HB3:=aB (HB2.out.trans (hb3.mono HB2.out.size))
   clear hty
   cases B4
   case false=>
    go_wp2_with fail
    go_ret
    exact⟨aU (dR.out (by rw[HG.out];simp)).symm,HB3.out⟩
   have m0:U3.cell? ⟨w1.heap.size,0,none⟩=some (.int .i64 y.num):=(hb3.cell (by simp;omega)).trans l0
   have pO:=aB ((hb3.block _ (by omega)).trans Fs.out)
   have HT3:=aB (nZ.out.old (hb3.block _ hl3))
   clear l0 l1 l2 l3 l4 s0 s1 s2 hb3
   go_wp2_with fail
   go_roundw
   case rel=>exact⟨k+1,by go_num,by rw[HPX.out],by omega,cP cW.out (by rw[HG.out,decide_eq_true (by omega)];rfl),HB3.out,pO.out,by rw[fS.out];exact HT3.out⟩
   case measure=>simp[intOf];omega
  ·have hkn':¬(k:Int)<(n:Int):=by omega
   have hke:k=n:=by omega
   have HRR:Hid (R=true):=by
    refine(?_:_=_)
    rw[←qS.out,←hke];exact cW.out
   clear hke
   go_wp2_with fail
   go_ret
   exact⟨aU HRR.out.symm,HB.out⟩
open Go.WideMaps
set_option maxHeartbeats 16000000 in
set_option maxRecDepth 20000 in
theorem Pt (ma ea ta:Option Addr) (nm ne nt mc ec tc:Nat) (ms:List MD) (w:World) (hnm:ms.length=nm) (hf:nm≤100000∧∀ m∈ms,aEx m.fields) (hH:kQ w (fun b=>b<w.heap.size) (.slice ma nm mc) ms) :
  Calls Tryz.prog 41 #[.agg #[.slice ma nm mc,.slice ea ne ec,.slice ta nt tc]] w fun e w'=>e=.returned (.bool (lO ne nm ms))∧Below w.heap.size w w':=by
 have HH:=aB hH
 have HF:=aB hf.2
 have hn0:=hf.1
 obtain⟨R,hR⟩:∃ r,lO ne nm ms=r:=⟨_,rfl⟩
 have qS:Hid (eX (fF ms (rJ ne nm)) nm=R):=by
  refine(?_:_=_)
  rw[←hR,←hnm];rfl
 have HN:=aB hnm
 rw[hR]
 obtain⟨Y,hY,hC,hb,hYs⟩:=bY w #[.slice ma nm mc,.slice ea ne ec,.slice ta nt tc] 29
 have HY:=aB hY
 have nC:=aB hb
 have yH:=aB hC
 have s0:=aA hC 0 rfl
 clear hH hf hnm hR hY hb hC
 go_enter Tryz.func41,Tryz.ntmps41
 go_upto_region 1 with fail
 rw[HY.out]
 go_wp2_with fail
 clear s0
 go_loopw [8] (fun i wr=>∃ k:Nat,i=.int .i64 (k:Int)∧k≤nm∧eX (fF ms (rJ ne nm)) k=true∧Below w.heap.size w wr∧wr.heap[w.heap.size]? = some (.cells #[.slice ma nm mc,.slice ea ne ec,.slice ta nt tc] 29 (0,0))) (fun i _=>nm - (intOf i).toNat)
 case atStart=>exact⟨0,rfl,Nat.zero_le _,rfl,nC.out,yH.out⟩
 case round=>
  generalize wr=w1 at *
  obtain⟨k,rfl,hk,hall,hbel,hsc⟩:=hrel
  have hsw:=hbel.size
  have hlt:=aN hsc
  have cW:=aB hall
  have HB:=aB hbel
  have HS:=aB hsc
  clear hall hbel hsc nC yH
  by_cases hkn:k<nm
  ·obtain⟨y,hy⟩:∃ y,ms[k]? = some y:=⟨_,List.getElem?_eq_getElem (by have:=HN.out;omega)⟩
   obtain⟨g,o,c0,ka,kc,hsl,hg,e0,e1,hrow⟩:=aW.at HH.out (W:=w1) (fun b hb=>HB.out.block b hb) hy
   obtain⟨rfl,rfl⟩:=aJ hsl
   have hfit:=HF.out y (List.mem_of_getElem? hy)
   have HG:Hid (fF ms (rJ ne nm) k=(decide (y.fields.length≤32)&&pR ne nm y.fields)):=dB hy
   have dR:Hid (fF ms (rJ ne nm) k=false→R=false):=fun h=>by rw[←qS.out];exact cQ h (by omega)
   have hk0:(0:Int)≤(k:Int):=by omega
   have hk1:(k:Int)<(nm:Int):=by omega
   have hwk:=eE k (by omega)
   obtain⟨U,hU,hC,bG,Mu⟩:=bY w1 #[.string (aC y.name),.slice ka y.fields.length kc] 48
   have hS:=(bG.block _ (by omega)).trans HS.out
   have eY:=aB (HB.out.trans (bG.mono hsw))
   have hc:=Ft (some ⟨g,o,none⟩) ea ta nm ne nt mc ec tc y.fields _ U hfit ((hrow.old fun b hb=>bG.block b (by have hb':b<w.heap.size:=hb;omega)).more fun b hb=>by have hb':b<w.heap.size:=hb;omega)
   have hfl:=hfit.1
   obtain⟨nf,hnf⟩:∃ n,y.fields.length=n:=⟨_,rfl⟩
   rw[hnf]at e1 hU hC HG hc hfl
   have HU:=aB hU
   have Rv:=aB hS
   have l1:=aA hC 1 rfl
   have s0:=aA hS 0 rfl
   have s1:=aA hS 1 rfl
   have s2:=aA hS 2 rfl
   clear hsl hy hfit hU hC bG hS hrow hnf
   generalize pR ne nm y.fields=B1 at *
   go_upto_region 4 with fail
   rw[HU.out]
   clear e0 e1
   by_cases h1:nf≤32
   case neg=>
    have h1':(32:Int)<(nf:Int):=by omega
    go_wp2_with fail
    go_ret
    exact⟨aU (dR.out (by rw[HG.out];rw[decide_eq_false (by omega)];rfl)).symm,eY.out⟩
   have h1':¬(32:Int)<(nf:Int):=by omega
   go_wp2_with fail
   refine hc.mono ?_
   rintro e U1 ⟨rfl,hb1⟩
   have HB1:=aB (eY.out.trans (hb1.mono eY.out.size))
   have pE:=aB ((hb1.block _ (by omega)).trans Rv.out)
   clear hc l1 s0 s1 s2 hb1
   cases B1
   case false=>
    go_wp2_with fail
    go_ret
    exact⟨aU (dR.out (by rw[HG.out];simp)).symm,HB1.out⟩
   go_wp2_with fail
   go_roundw
   case rel=>exact⟨k+1,by go_num,by omega,cP cW.out (by rw[HG.out,decide_eq_true (by omega)];rfl),HB1.out,pE.out⟩
   case measure=>simp[intOf];omega
  ·have hkn':¬(k:Int)<(nm:Int):=by omega
   have hke:k=nm:=by omega
   have HRR:Hid (R=true):=by
    refine(?_:_=_)
    have h:=cW.out
    rw[hke]at h
    rw[←qS.out];exact h
   clear hke
   go_wp2_with fail
   go_ret
   exact⟨aU HRR.out.symm,HB.out⟩
def aEy (vs:List VD):Prop:=vs.length≤100000∧∀ f∈vs,f.name.length≤100000
set_option maxHeartbeats 16000000 in
set_option maxRecDepth 20000 in
theorem Fu (vs:List VD) (v:Value) (w:World) (hf:aEy vs) (hH:RowsIn w (fun b=>b<w.heap.size) 2 eV v vs) :
  Calls Tryz.prog 86 #[v] w fun e w'=>e=.returned (.bool (rH vs))∧Below w.heap.size w w':=by
 have HH:=aB hH
 obtain⟨ad,cc,rfl⟩:=hH.cM
 have HF:=aB hf
 have hn0:=hf.1
 obtain⟨R,hR⟩:∃ r,rH vs=r:=⟨_,rfl⟩
 have Bh:eX (fF vs (pS vs)) vs.length=R:=hR
 obtain⟨n,hn⟩:∃ n,vs.length=n:=⟨_,rfl⟩
 have HN:=aB hn
 rw[hR]
 rw[hn]at hn0 Bh ⊢
 have qS:=aB Bh
 obtain⟨Y,hY,hC,hb,hYs⟩:=rP w
 obtain⟨V,hV,hM,dO,iH⟩:=rP Y
 have HY:=aB hY
 have HV:=aB hV
 have iA:=aB (hb.trans (dO.mono hb.size))
 rw[hYs]at hM dO iH
 have pE:Hid (cC 9 eQ V w.heap.size ([]:List (List UInt8))):=dZ _ _ ((dO.block _ (by omega)).trans hC)
 have HS2:Hid (cC 3 mF V (w.heap.size+1) ([]:List Int)):=dZ _ _ hM
 have hmm:=@run_makeMap Tryz.prog
 clear hH hf hn hR Bh hY hV hC hb hM dO hYs iH
 go_enter Tryz.func86,Tryz.ntmps86
 go_upto_region 2 with fail
 rw[HY.out,HV.out]
 clear hmm
 go_wp2_with fail
 go_loopw [11] (fun i wr=>∃ k:Nat,i=.int .i64 (k:Int)∧k≤n∧eX (fF vs (pS vs)) k=true∧Below w.heap.size w wr∧cC 9 eQ wr w.heap.size (iX vs k)∧cC 3 mF wr (w.heap.size+1) (mU vs k)) (fun i _=>n - (intOf i).toNat)
 case atStart=>exact⟨0,rfl,Nat.zero_le _,rfl,iA.out,pE.out,HS2.out⟩
 case round=>
  generalize wr=w1 at *
  obtain⟨k,rfl,hk,hall,hbel,hs1,hs2⟩:=hrel
  have hsw:=hbel.size
  have hl1:=hs1.lt
  have hl2:=hs2.lt
  clear pE HS2
  have cW:=aB hall
  have HB:=aB hbel
  have pE:=aB hs1
  have HS2:=aB hs2
  clear hall hbel hs1 hs2 iA
  by_cases hkn:k<n
  ·obtain⟨y,hy⟩:∃ y,vs[k]? = some y:=⟨_,List.getElem?_eq_getElem (by have:=HN.out;omega)⟩
   obtain⟨g,o,c0,hsl,hg,e0,e1⟩:=pV HH.out (W:=w1) (fun b hb=>HB.out.block b hb) hy
   rw[HN.out]at hsl
   obtain⟨rfl,rfl⟩:=aJ hsl
   have hnl:=HF.out.2 y (List.mem_of_getElem? hy)
   have fS:=aB (Ew hy)
   have HMX:=aB (Jf hy)
   have hkl:=Jh vs k
   have hml:=Pb vs k
   have HG:Hid (fF vs (pS vs) k=(eF y.num&&(!decide (y.num∈mU vs k)&&(aZ y.name&&!decide (y.name∈iX vs k))))):=dB hy
   have dR:Hid (fF vs (pS vs) k=false→R=false):=fun h=>by rw[←qS.out];exact cQ h (by omega)
   have hk0:(0:Int)≤(k:Int):=by omega
   have hk1:(k:Int)<(n:Int):=by omega
   have hwk:=eE k (by omega)
   obtain⟨KS,lT⟩:∃ K,iX vs k=K:=⟨_,rfl⟩
   obtain⟨MS,hMS⟩:∃ K,mU vs k=K:=⟨_,rfl⟩
   rw[lT]at pE fS hkl HG
   rw[hMS]at HS2 HMX hml HG
   obtain⟨U,hU,hC,bG,Mu⟩:=bY w1 #[.string (aC y.name),.int .i64 y.num] 93
   have HU:=aB hU
   clear hsl hy lT hMS hU
   go_upto_region 5 with fail
   rw[HU.out]
   have l1:=aA hC 1 rfl
   have eY:=aB (HB.out.trans (bG.mono hsw))
   have vF:=aB hC
   have aLl:=pE.out.old (bG.block _ hl1)
   have aLm:=HS2.out.old (bG.block _ hl2)
   clear hC bG e0 e1 pE HS2
   by_cases h0:0≤y.num
   case neg=>
    have h0':y.num<0:=by omega
    go_wp2_with fail
    go_ret
    exact⟨aU (dR.out (by rw[HG.out];unfold eF;rw[decide_eq_false (by omega)];rfl)).symm,eY.out⟩
   by_cases h1:y.num≤2147483647
   case neg=>
    have h0':¬y.num<0:=by omega
    have h1':2147483647<y.num:=by omega
    go_wp2_with fail
    go_ret
    exact⟨aU (dR.out (by rw[HG.out];unfold eF;rw[decide_eq_false (by omega)];rfl)).symm,eY.out⟩
   have h0':¬y.num<0:=by omega
   have h1':¬2147483647<y.num:=by omega
   have gL:eF y.num=true:=by unfold eF;exact decide_eq_true (by omega)
   rw[gL]at HG
   have hadd:=nU (w.heap.size+1) MS y.num U aLm (wV gL) (by omega)
   obtain⟨B1,hB1⟩:∃ b,(!decide (y.num∈MS))=b:=⟨_,rfl⟩
   rw[hB1]at hadd HG
   clear hB1 aLm gL
   go_wp2_with fail
   refine hadd.mono ?_
   rintro e U1 ⟨rfl,hset,hgr⟩
   have HB1:=aB (eY.out.grown hgr eY.out.size (fun b hb=>by cases hb;omega))
   have h1c:=(hgr.block _ (by omega) (by simp;omega)).trans vF.out
   have h1n:=aLl.old (hgr.block _ (by omega) (by simp))
   have Vk:=aB hset
   have hs1:=hgr.size
   have hl3:=hset.lt
   clear hadd hset hgr l1 aLl
   cases B1
   case false=>
    go_wp2_with fail
    go_ret
    exact⟨aU (dR.out (by rw[HG.out];simp)).symm,HB1.out⟩
   have l0:=aA h1c 0 rfl
   have hpl:=pA y.name U1 (by omega)
   generalize aZ y.name=B2 at *
   go_wp2_with fail
   refine hpl.mono ?_
   rintro e U2 ⟨rfl,hb2⟩
   have HB2:=aB (HB1.out.trans (hb2.mono HB1.out.size))
   clear hpl
   cases B2
   case false=>
    go_wp2_with fail
    go_ret
    exact⟨aU (dR.out (by rw[HG.out];simp)).symm,HB2.out⟩
   have q0:U2.cell? ⟨w1.heap.size,0,none⟩=some (.string (aC y.name)):=(hb2.cell (by simp;omega)).trans l0
   have hs2:=hb2.size
   have hadd:=gQ w.heap.size KS y.name U2 (h1n.old (hb2.block _ (by omega))) (by omega) (by omega)
   have aLn:=aB (Vk.out.old (hb2.block _ (by omega)))
   obtain⟨B3,hB3⟩:∃ b,(!decide (y.name∈KS))=b:=⟨_,rfl⟩
   rw[hB3]at hadd HG
   clear hB3 hb2 l0 h1c h1n Vk
   go_wp2_with fail
   refine hadd.mono ?_
   rintro e U3 ⟨rfl,hset,hgr⟩
   have HB3:=aB (HB2.out.grown hgr HB2.out.size (fun b hb=>by cases hb;omega))
   have aTb:=aB (aLn.out.old (hgr.block _ (by omega) (by simp)))
   have aTc:=aB hset
   clear hadd hset hgr q0 aLn
   cases B3
   case false=>
    go_wp2_with fail
    go_ret
    exact⟨aU (dR.out (by rw[HG.out];simp)).symm,HB3.out⟩
   go_wp2_with fail
   go_roundw
   case rel=>exact⟨k+1,by go_num,by omega,cP cW.out (by rw[HG.out];rfl),HB3.out,by rw[fS.out];exact aTc.out,by rw[HMX.out];exact aTb.out⟩
   case measure=>simp[intOf];omega
  ·have hkn':¬(k:Int)<(n:Int):=by omega
   have hke:k=n:=by omega
   have HRR:Hid (R=true):=by
    refine(?_:_=_)
    have h:=cW.out
    rw[hke]at h
    rw[←qS.out];exact h
   clear hke
   go_wp2_with fail
   go_ret
   exact⟨aU HRR.out.symm,HB.out⟩
set_option maxHeartbeats 16000000 in
set_option maxRecDepth 20000 in
theorem Jz (es:List ED) (v:Value) (w:World) (hf:es.length≤100000∧∀ m∈es,aEy m.values) (hH:rO w (fun b=>b<w.heap.size) v es) :
  Calls Tryz.prog 42 #[v] w fun e w'=>e=.returned (.bool (pU es))∧Below w.heap.size w w':=by
 have HH:=aB hH
 obtain⟨ad,cc,rfl⟩:=aW.cM hH
 have HF:=aB hf.2
 have hn0:=hf.1
 obtain⟨R,hR⟩:∃ r,pU es=r:=⟨_,rfl⟩
 have Bh:eX (fF es tP) es.length=R:=hR
 obtain⟨n,hn⟩:∃ n,es.length=n:=⟨_,rfl⟩
 have HN:=aB hn
 rw[hR]
 rw[hn]at hn0 Bh ⊢
 have qS:=aB Bh
 clear hH hf hn hR Bh
 go_enter Tryz.func42,Tryz.ntmps42
 go_wp2_with fail
 go_loopw [7] (fun i wr=>∃ k:Nat,i=.int .i64 (k:Int)∧k≤n∧eX (fF es tP) k=true∧Below w.heap.size w wr) (fun i _=>n - (intOf i).toNat)
 case atStart=>exact⟨0,rfl,Nat.zero_le _,rfl,Below.refl _ _⟩
 case round=>
  generalize wr=w1 at *
  obtain⟨k,rfl,hk,hall,hbel⟩:=hrel
  have hsw:=hbel.size
  have cW:=aB hall
  have HB:=aB hbel
  clear hall hbel
  by_cases hkn:k<n
  ·obtain⟨y,hy⟩:∃ y,es[k]? = some y:=⟨_,List.getElem?_eq_getElem (by have:=HN.out;omega)⟩
   obtain⟨g,o,c0,ka,kc,hsl,hg,e0,e1,hrow⟩:=aW.at HH.out (W:=w1) (fun b hb=>HB.out.block b hb) hy
   rw[HN.out]at hsl
   obtain⟨rfl,rfl⟩:=aJ hsl
   have hfit:=HF.out y (List.mem_of_getElem? hy)
   have HG:Hid (fF es tP k=(zeroV y.values&&rH y.values)):=dB hy
   have dR:Hid (fF es tP k=false→R=false):=fun h=>by rw[←qS.out];exact cQ h (by omega)
   have hk0:(0:Int)≤(k:Int):=by omega
   have hk1:(k:Int)<(n:Int):=by omega
   have hwk:=eE k (by omega)
   obtain⟨U,hU,hC,bG,Mu⟩:=bY w1 #[.string (aC y.name),.slice ka y.values.length kc] 91
   have eY:=aB (HB.out.trans (bG.mono hsw))
   have hrU:=(hrow.old fun b hb=>bG.block b (by have hb':b<w.heap.size:=hb;omega)).more (S':=fun b=>b<U.heap.size) fun b hb=>by have hb':b<w.heap.size:=hb;omega
   have hc:=Fu y.values _ U hfit hrU
   obtain⟨nv,Zp⟩:∃ n,y.values.length=n:=⟨_,rfl⟩
   have HRU:=aB hrU
   have Pi:=aB Zp
   rw[Zp]at e1 hU hC hc HRU
   have HU:=aB hU
   have l1:=aA hC 1 rfl
   clear hsl hy hfit hU hC bG hrow hrU Zp
   generalize rH y.values=B1 at *
   go_upto_region 4 with fail
   rw[HU.out]
   clear e0 e1
   by_cases h0:nv=0
   ·have hz:zeroV y.values=false:=by
     have h1:y.values=[]:=List.length_eq_zero_iff.1 (by rw[Pi.out];exact h0)
     rw[h1];rfl
    rw[hz]at HG
    subst h0
    clear hc Pi HRU hz
    go_wp2_with fail
    go_ret
    exact⟨aU (dR.out (by rw[HG.out];rfl)).symm,eY.out⟩
   ·obtain⟨v0,hv0⟩:∃ v,y.values[0]? = some v:=⟨_,List.getElem?_eq_getElem (by have:=Pi.out;omega)⟩
    obtain⟨g2,o2,c2,hsl,hg2,f0,f1⟩:=pV HRU.out (W:=U) (fun b hb=>rfl) hv0
    rw[Pi.out]at hsl
    obtain⟨rfl,rfl⟩:=aJ hsl
    rw[Nat.zero_mul,Nat.add_zero]at f1
    have hz:zeroV y.values=decide (v0.num=0):=by unfold zeroV;rw[hv0]
    rw[hz]at HG
    have h0':¬(nv:Int)=0:=by omega
    have h0p:(0:Int)<(nv:Int):=by omega
    clear hsl hv0 hz Pi HRU f0
    generalize v0.num=z at *
    by_cases hz0:z=0
    case neg=>
     go_wp2_with fail
     go_ret
     exact⟨aU (dR.out (by rw[HG.out,decide_eq_false (by omega)];rfl)).symm,eY.out⟩
    subst hz0
    go_wp2_with fail
    refine hc.mono ?_
    rintro e U1 ⟨rfl,hb1⟩
    have HB1:=aB (eY.out.trans (hb1.mono eY.out.size))
    clear hc l1 f1 hb1
    cases B1
    case false=>
     go_wp2_with fail
     go_ret
     exact⟨aU (dR.out (by rw[HG.out];simp)).symm,HB1.out⟩
    go_wp2_with fail
    go_roundw
    case rel=>exact⟨k+1,by go_num,by omega,cP cW.out (by rw[HG.out];simp),HB1.out⟩
    case measure=>simp[intOf];omega
  ·have hkn':¬(k:Int)<(n:Int):=by omega
   have hke:k=n:=by omega
   have HRR:Hid (R=true):=by
    refine(?_:_=_)
    have h:=cW.out
    rw[hke]at h
    rw[←qS.out];exact h
   clear hke
   go_wp2_with fail
   go_ret
   exact⟨aU HRR.out.symm,HB.out⟩
def Vm (ms:List MD) (w:World) (e:Ending) (w':World):Prop:=∃ b,e=.returned (.bool b)∧(b=true↔∃ i,i<ms.length∧Ring ms i)∧Below w.heap.size w w'
set_option maxHeartbeats 16000000 in
set_option maxRecDepth 20000 in
theorem Vn (ms:List MD) (v:Value) (w:World) (hf:oX ms) (hH:kQ w (fun b=>b<w.heap.size) v ms) :
  Calls Tryz.prog 44 #[v] w fun e w'=>Vm ms w e w':=by
 have HH:=aB hH
 obtain⟨ad,cc,rfl⟩:=aW.cM hH
 have HF:=aB hf
 have hn0:=hf.1
 obtain⟨n,hn⟩:∃ n,ms.length=n:=⟨_,rfl⟩
 have HN:=aB hn
 rw[hn]at hn0 ⊢
 rw[hn]at HH
 clear hH hf hn
 go_enter Tryz.func44,Tryz.ntmps44
 go_wp2_with fail
 go_loopw [6] (fun i wr=>∃ k:Nat,i=.int .i64 (k:Int)∧k≤n∧(∀ j,j<k→¬Ring ms j)∧Below w.heap.size w wr) (fun i _=>n - (intOf i).toNat)
 case atStart=>exact⟨0,rfl,Nat.zero_le _,fun j hj=>absurd hj (Nat.not_lt_zero _),Below.refl _ _⟩
 case round=>
  generalize wr=w1 at *
  obtain⟨k,rfl,hk,hall,hbel⟩:=hrel
  have hsw:=hbel.size
  have cW:=aB hall
  have HB:=aB hbel
  clear hall hbel
  by_cases hkn:k<n
  ·have hc:=zP ms (.slice ad n cc) k w1 HF.out (by have:=HN.out;omega) ((aW.old HH.out fun b hb=>HB.out.block b hb).more fun b hb=>by have hb':b<w.heap.size:=hb;omega)
   have hk0:(0:Int)≤(k:Int):=by omega
   have hk1:(k:Int)<(n:Int):=by omega
   have hwk:=eE k (by omega)
   go_wp2_with fail
   refine hc.mono ?_
   rintro e U1 ⟨b,rfl,hbi,hb1⟩
   have HB1:=aB (HB.out.trans (hb1.mono HB.out.size))
   have wX:=aB hbi
   clear hc hb1 hbi
   cases b
   case true=>
    go_wp2_with fail
    go_ret
    exact⟨true,rfl,⟨fun _=>⟨k,by have:=HN.out;omega,wX.out.1 (by simp)⟩,fun _=>rfl⟩,HB1.out⟩
   go_wp2_with fail
   go_roundw
   case rel=>
    refine⟨k+1,by go_num,by omega,fun j hj=>?_,HB1.out⟩
    by_cases hjk:j=k
    ·rw[hjk];intro h;exact absurd (wX.out.2 h) (by simp)
    ·exact cW.out j (by omega)
   case measure=>simp[intOf];omega
  ·have hkn':¬(k:Int)<(n:Int):=by omega
   go_wp2_with fail
   go_ret
   exact⟨false,rfl,⟨(fun h=>by cases h),fun ⟨i,hi,hr⟩=>absurd hr (cW.out i (by have:=HN.out;omega))⟩,HB.out⟩
end Go.Proofs.YtpojeinddnjpfaaGreatDoor
