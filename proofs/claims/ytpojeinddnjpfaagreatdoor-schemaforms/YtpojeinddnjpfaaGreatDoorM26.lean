/-
  Walks and plain words (FoF).
-/
import Derived.Test.YtpojeinddnjpfaaGreatDoorM18
import Derived.Test.YtpojeinddnjpfaaGreatDoorM21
import Derived.Test.YtpojeinddnjpfaaGreatDoorM25
import Derived.Deep.RegionHeldLaw
namespace Go.Proofs.YtpojeinddnjpfaaGreatDoor
set_option linter.unusedVariables false
open Go.ChangeShapes Go.WideShapes Go.ChangeAt Go.RowKit

def Fv (x:List UInt8):Value:=.string (aC x)
theorem Bp {ns:List (List UInt8)} {i:Nat} {x:List UInt8} (h:ns[i]? = some x):(ns.map Fv)[i]? = some (.string (aC x)):=by rw[List.getElem?_map,h];rfl
theorem zT {ns:List (List UInt8)} {k:Nat} {x:List UInt8} (h:ns[k]? = some x):(ns.take (k+1)).map Fv=(ns.take k).map Fv++[.string (aC x)]:=by rw[aY h,List.map_append];rfl
theorem Vs:(Tryz.prog.info? 9).map (fun i=>(i.zero,i.size,i.bytes))=some (some (.string ⟨#[]⟩),1,16):=by kernel_rfl
theorem Pz {ns:List (List UInt8)} {k:Nat} {b:List UInt8} (h:∀ (j:Nat) (x:List UInt8),j<k→ns[j]? = some x→¬x=b):b∉ns.take k:=fun hm=>by
 obtain⟨j,hj⟩:=List.getElem?_of_mem hm
 have hjk:=(List.getElem?_eq_some_iff.1 hj).1
 rw[List.length_take]at hjk
 rw[List.getElem?_take,if_pos (by omega)]at hj
 exact h j b (by omega) hj rfl
theorem Qa {ns:List (List UInt8)} {k j:Nat} {x:List UInt8} (hj:j<k) (hx:ns[j]? = some x):x∈ns.take k:=List.mem_of_getElem? (show (ns.take k)[j]? = some x by rw[List.getElem?_take,if_pos hj];exact hx)
theorem Vt {w:World} {base:Nat} {ua:Option Addr} {uc n:Nat} {xs:List Value} (h:w.ownsRow base 9 1 (.slice ua n uc) n xs) (hn:0<n):∃ g,ua=some ⟨g,0,none⟩:=Ju h hn
set_option maxHeartbeats 64000000 in
set_option maxRecDepth 20000 in
theorem Qb (ma ea ta:Option Addr) (nm ne nt mc ec tc:Nat) (s:SC) (w:World) (hT:qI w) (hnm:s.ms.length=nm) (hne:s.es.length=ne) (hnt:s.ts.length=nt) (hf:aAn s) (hH:cH w (fun b=>b<w.heap.size) (.slice ma nm mc) (.slice ea ne ec) (.slice ta nt tc) s) :
  Calls Tryz.prog 18 #[.agg #[.slice ma nm mc,.slice ea ne ec,.slice ta nt tc]] w fun e w'=>pB s w e w':=by
 obtain⟨Y,hY,hC,hb,hYs⟩:=bY w #[.slice ma nm mc,.slice ea ne ec,.slice ta nt tc] 29
 have xU:Hid (∀ W,Below Y.heap.size Y W→kQ W (fun b=>b<W.heap.size) (.slice ma nm mc) s.ms∧rO W (fun b=>b<W.heap.size) (.slice ea ne ec) s.es∧zL W (fun b=>b<W.heap.size) (.slice ta nt tc) s.ts∧Below w.heap.size w W∧W.cell? ⟨w.heap.size,0,none⟩=some (.slice ma nm mc)∧W.cell? ⟨w.heap.size,1,none⟩=some (.slice ea ne ec)∧W.cell? ⟨w.heap.size,2,none⟩=some (.slice ta nt tc)):=by
  refine(?_:∀ W,_→_)
  intro W hW
  have hw:=hb.trans (hW.mono hb.size)
  have e1:=(hW.block _ (by omega)).trans hC
  have old:∀ b,b<w.heap.size→W.heap[b]? = w.heap[b]?:=fun b h=>hw.block b h
  have more:∀ b,b<w.heap.size→b<W.heap.size:=fun b h=>by have:=hw.size;omega
  exact⟨(aW.old hH.1 old).more more,(aW.old hH.2.1 old).more more,(RowsIn.old hH.2.2 old).more more,hw,aA e1 0 rfl,aA e1 1 rfl,aA e1 2 rfl⟩
 have HY:=aB hY
 have HFF:=aB hf
 have HL:Hid (Bc s=decide (nm≤64∧ne≤64∧nt≤64)):=by
  refine(?_:_=_)
  unfold Bc;rw[hnm,hne,hnt]
 have rU:Hid (rK s=(Bc s&&(rI (aS s)&&(lO s.es.length s.ms.length s.ms&&(pU s.es&&pT s.ms.length s.ts))))):=rfl
 have Vu:=rU
 have dR:Hid (∀ W,Below w.heap.size w W→rK s=false→pB s w (.returned (.bool false)) W):=fun W hW h=>⟨false,rfl,⟨(fun h=>by cases h),fun h'=>by rw[h'.1]at h;cases h⟩,hW⟩
 have aFb:Hid (eX (fF (aS s) (jT (aS s))) (nm+ne)=false→rK s=false):=fun h=>by
  have h1:rI (aS s)=false:=by unfold rI allA;rw[qN,hnm,hne];exact h
  rw[Vu.out,h1];simp
 have aTm:Hid (eX (fF s.ms (rJ ne nm)) nm=false→rK s=false):=fun h=>by
  have h1:lO s.es.length s.ms.length s.ms=false:=by unfold lO allA;rw[hnm,hne];exact h
  rw[Vu.out,h1];simp
 have aTn:Hid (eX (fF s.es tP) ne=false→rK s=false):=fun h=>by
  have h1:pU s.es=false:=by unfold pU allA;rw[hne];exact h
  rw[Vu.out,h1];simp
 have rQ:Hid (eX (fF s.ts (iO nm s.ts)) nt=false→rK s=false):=fun h=>by
  have h1:pT s.ms.length s.ts=false:=by unfold pT allA;rw[hnt,hnm];exact h
  rw[Vu.out,h1];simp
 have HFN:Hid (∀ y∈aS s,y.length≤100000):=by
  refine(?_:∀ y,_→_)
  intro y hy
  rcases List.mem_append.1 hy with h | h
  ·obtain⟨m,hm,rfl⟩:=List.mem_map.1 h;exact(hf.2.1 m hm).1
  ·obtain⟨m,hm,rfl⟩:=List.mem_map.1 h;exact(hf.2.2.1 m hm).1
 obtain⟨_,_,_,hby,z0,z1,z2⟩:=xU.out Y (Below.refl _ _)
 have mZ:=aB hby
 have HN:=aB hnm
 have Ry:=aB hne
 have Rz:=aB hnt
 have HTW:=aB hT
 have hl1:=hf.1.1
 have hl2:=hf.1.2
 rw[hnm]at hl1
 rw[hne]at hl2
 clear hH hf hnm hne hnt hY hb hC hby hT Vu
 go_enter Tryz.func18,Tryz.ntmps18
 go_upto_region 1 with fail
 rw[HY.out]
 by_cases c1:nm≤64
 case neg=>
  have c1':64<(nm:Int):=by omega
  go_wp2_with fail
  go_ret
  exact dR.out _ mZ.out (by rw[rU.out,HL.out,decide_eq_false (by omega)];rfl)
 have c1':¬64<(nm:Int):=by omega
 by_cases c2:ne≤64
 case neg=>
  have c2':64<(ne:Int):=by omega
  go_wp2_with fail
  go_ret
  exact dR.out _ mZ.out (by rw[rU.out,HL.out,decide_eq_false (by omega)];rfl)
 have c2':¬64<(ne:Int):=by omega
 by_cases c3:nt≤64
 case neg=>
  have c3':64<(nt:Int):=by omega
  go_wp2_with fail
  go_ret
  exact dR.out _ mZ.out (by rw[rU.out,HL.out,decide_eq_false (by omega)];rfl)
 have c3':¬64<(nt:Int):=by omega
 have hlb:Bc s=true:=by rw[HL.out];exact decide_eq_true (by omega)
 rw[hlb]at rU
 clear hlb HL
 go_wp2_with fail
 clear z0 z1 z2 mZ
 go_loopw [3,35] (fun u i wr=>∃ k:Nat,i=.int .i64 (k:Int)∧k≤nm∧wr.ownsRow Y.heap.size 9 1 u (k) (((aS s).take (k)).map Fv)∧Below Y.heap.size Y wr) (fun _ i _=>nm - (intOf i).toNat)
 case atStart=>exact⟨0,rfl,Nat.zero_le _,⟨rfl,.inl ⟨rfl,rfl⟩⟩,Below.refl _ _⟩
 case round=>
  generalize wr=w1 at *
  obtain⟨k,rfl,hk,hown,hbel⟩:=hrel
 
  obtain⟨ua,uc,huv⟩:=aO hown
  subst huv
  have HO:=aB hown
  have cE:=aB hbel
  have hsw:=hbel.size
  have hk0:(0:Int)≤(k:Int):=by omega
  have hwk:=eE k (by omega)
  obtain⟨fE,vA,HT1,hbw,z0,z1,z2⟩:=xU.out w1 hbel
  have mZ:=aB hbw
  clear hown hbel hbw
  by_cases hkn:k<nm
  ·obtain⟨y,hy⟩:∃ y,s.ms[k]? = some y:=⟨_,List.getElem?_eq_getElem (by have:=HN.out;omega)⟩
   obtain⟨g,o,c0,ka,kc,hsl,hg,e0,e1,-⟩:=aW.at fE (W:=w1) (fun b hb=>rfl) hy
   obtain⟨ha,hc⟩:=aJ hsl
   have hna:=wY hy
  
   have fS:=aB (zT hna)
   have hk1:(k:Int)<(nm:Int):=by omega
   rw[ha]at z0
   clear hsl hy hna ha hc e1 fE vA HT1
   have hBX:(w1.alloc (.cells #[.string (aC y.name)] 9)).heap[w1.heap.size]? = some (.cells #[.string (aC y.name)] 9 (0,0)):=alloc_heap_new _ _
   have HOA:Hid ((w1.alloc (.cells #[.string (aC y.name)] 9)).ownsRow Y.heap.size 9 1 (.slice ua (k) uc) (k) (((aS s).take (k)).map Fv)):=aR HO.out fun b hb=>aD _ _ _ (aE HO.out b hb).2
   have HBA:=aB (cE.out.alloc hsw (.cells #[.string (aC y.name)] 9))
   have Us:=aB hBX
   have hAs:(w1.alloc (.cells #[.string (aC y.name)] 9)).heap.size=w1.heap.size+1:=by simp
   clear hBX
   go_wp2_with (at_builtin;refine oW (T:=9) (t:=100) Tryz.underlying100 Vs rfl (by decide) HOA.out (by rw[hAs];omega) [.string (aC y.name)] rfl (by simp[Value.oneCell']) w1.heap.size Us.out rfl _ _ rfl rfl rfl (by unfold maxLen;omega) (by omega) ?_;intro g cap W hown hgr hor hgl;have HOW:=aB hown;have Pc:=aB hgr;clear hown hgr hor)
   have Fw:Hid (Below Y.heap.size Y W):=HBA.out.grown Pc.out (by rw[hAs];omega) (fun b hb=>(aE HOA.out b hb).1)
   go_roundw
   case rel=>exact⟨k+1,by go_num,by omega,by rw[fS.out];exact HOW.out,Fw.out⟩
   case measure=>simp[intOf];omega
  ·have hkn':¬(k:Int)<(nm:Int):=by omega
   have hke:nm=k:=by omega
   subst hke
   clear hk0 hwk fE vA HT1 z0 z2 hsw
   go_wp2_with fail
   clear z1
   go_loopw [3,51] (fun u i wr=>∃ k:Nat,i=.int .i64 (k:Int)∧k≤ne∧wr.ownsRow Y.heap.size 9 1 u (nm+k) (((aS s).take (nm+k)).map Fv)∧Below Y.heap.size Y wr) (fun _ i _=>ne - (intOf i).toNat)
   case atStart=>exact⟨0,rfl,Nat.zero_le _,by first | exact HO.out | (simpa using HO.out),cE.out⟩
   case round=>
    generalize wr=w1 at *
    obtain⟨k,rfl,hk,hown,hbel⟩:=hrel
    clear HO cE
    obtain⟨ua,uc,huv⟩:=aO hown
    subst huv
    have HO:=aB hown
    have cE:=aB hbel
    have hsw:=hbel.size
    have hk0:(0:Int)≤(k:Int):=by omega
    have hwk:=eE k (by omega)
    obtain⟨fE,vA,HT1,hbw,z0,z1,z2⟩:=xU.out w1 hbel
    have mZ:=aB hbw
    clear hown hbel hbw
    by_cases hkn:k<ne
    ·obtain⟨y,hy⟩:∃ y,s.es[k]? = some y:=⟨_,List.getElem?_eq_getElem (by have:=Ry.out;omega)⟩
     obtain⟨g,o,c0,ka,kc,hsl,hg,e0,e1,-⟩:=aW.at vA (W:=w1) (fun b hb=>rfl) hy
     obtain⟨ha,hc⟩:=aJ hsl
     have hna:=wZ hy
     rw[HN.out]at hna
     have fS:=aB (zT hna)
     have hk1:(k:Int)<(ne:Int):=by omega
     rw[ha]at z1
     clear hsl hy hna ha hc e1 fE vA HT1
     have hBX:(w1.alloc (.cells #[.string (aC y.name)] 9)).heap[w1.heap.size]? = some (.cells #[.string (aC y.name)] 9 (0,0)):=alloc_heap_new _ _
     have HOA:Hid ((w1.alloc (.cells #[.string (aC y.name)] 9)).ownsRow Y.heap.size 9 1 (.slice ua (nm+k) uc) (nm+k) (((aS s).take (nm+k)).map Fv)):=aR HO.out fun b hb=>aD _ _ _ (aE HO.out b hb).2
     have HBA:=aB (cE.out.alloc hsw (.cells #[.string (aC y.name)] 9))
     have Us:=aB hBX
     have hAs:(w1.alloc (.cells #[.string (aC y.name)] 9)).heap.size=w1.heap.size+1:=by simp
     clear hBX
     go_wp2_with (at_builtin;refine oW (T:=9) (t:=100) Tryz.underlying100 Vs rfl (by decide) HOA.out (by rw[hAs];omega) [.string (aC y.name)] rfl (by simp[Value.oneCell']) w1.heap.size Us.out rfl _ _ rfl rfl rfl (by unfold maxLen;omega) (by omega) ?_;intro g cap W hown hgr hor hgl;have HOW:=aB hown;have Pc:=aB hgr;clear hown hgr hor)
     have Fw:Hid (Below Y.heap.size Y W):=HBA.out.grown Pc.out (by rw[hAs];omega) (fun b hb=>(aE HOA.out b hb).1)
     go_roundw
     case rel=>exact⟨k+1,by go_num,by omega,by rw[←Nat.add_assoc,fS.out];exact HOW.out,Fw.out⟩
     case measure=>simp[intOf];omega
    ·have hkn':¬(k:Int)<(ne:Int):=by omega
     have hke:ne=k:=by omega
     subst hke
     clear hk0 hwk hsw fE vA HT1 z0 z1 z2
     obtain⟨N,hN⟩:∃ N,nm+ne=N:=⟨_,rfl⟩
     rw[hN]at HO aFb ⊢
     have Yi:Hid ((aS s).length=N):=by
      refine(?_:_=_)
      rw[qN,HN.out,Ry.out,hN]
     have HO2:Hid (w1.ownsRow Y.heap.size 9 1 (.slice ua N uc) N ((aS s).map Fv)):=by
      have h:=HO.out
      rw[List.take_of_length_le (by rw[Yi.out];exact Nat.le_refl _)]at h
      exact h
     have hNl:N≤200000:=by omega
     clear HO hN
     go_wp2_with fail
     go_loopw [66] (fun i wr=>∃ k:Nat,i=.int .i64 (k:Int)∧k≤N∧eX (fF (aS s) (jT (aS s))) k=true∧Below w1.heap.size w1 wr) (fun i _=>N - (intOf i).toNat)
     case atStart=>exact⟨0,rfl,Nat.zero_le _,rfl,Below.refl _ _⟩
     case round=>
      generalize wr=w2 at *
      obtain⟨k,rfl,hk,hall,hbel⟩:=hrel
      have cW:=aB hall
      have HB2:=aB hbel
      have aLs:=aB (cE.out.trans (hbel.mono cE.out.size))
      have Fw:=aB (mZ.out.trans (hbel.mono mZ.out.size))
      have HOX:=aB (aR HO2.out fun b hb=>hbel.block b (aE HO2.out b hb).2)
      have hk0:(0:Int)≤(k:Int):=by omega
      have hwk:=eE k (by omega)
      clear hall hbel
      by_cases hkn:k<N
      ·obtain⟨y,hy⟩:∃ y,(aS s)[k]? = some y:=⟨_,List.getElem?_eq_getElem (by have:=Yi.out;omega)⟩
       obtain⟨g,rfl⟩:=Vt HOX.out (by omega)
       have c0:w2.cell? ⟨g,k,none⟩=some (.string (aC y)):=rS HOX.out (Bp hy)
       have hyl:y.length≤100000:=HFN.out y (List.mem_of_getElem? hy)
       have hp:=Pn y w2 (dQ HTW.out Fw.out) (by omega)
       have HG:Hid (fF (aS s) (jT (aS s)) k=(cF y&&!decide (y∈(aS s).take k))):=dB hy
       have HYY:=aB hy
       have hk1:(k:Int)<(N:Int):=by omega
       clear hy
       generalize cF y=B1 at *
       go_wp2_with fail
       refine hp.mono ?_
       rintro e U1 ⟨⟨ad,pn,pc,rfl⟩,hb1⟩
       have HB1:=aB (HB2.out.trans (hb1.mono HB2.out.size))
       have HW1:=aB (Fw.out.trans (hb1.mono Fw.out.size))
       have HO1:=aB (aR HOX.out fun b hb=>hb1.block b (aE HOX.out b hb).2)
       clear hp hb1 c0
       cases B1
       case false=>
        have GB:fF (aS s) (jT (aS s)) k=false:=by rw[HG.out];rfl
        go_wp2_with fail
        go_ret
        exact dR.out _ HW1.out (aFb.out (cQ GB (by omega)))
       go_wp2_with fail
       go_loopw [80] (fun i wr=>∃ j:Nat,i=.int .i64 (j:Int)∧j≤k∧(∀ (q:Nat) (x:List UInt8),q<j→(aS s)[q]? = some x→¬x=y)∧Below U1.heap.size U1 wr) (fun i _=>k - (intOf i).toNat)
       case atStart=>exact⟨0,rfl,Nat.zero_le _,fun q x hq=>absurd hq (Nat.not_lt_zero _),Below.refl _ _⟩
       case round=>
        obtain⟨j,rfl,hj,hall,hbel⟩:=hrel
        have HA2:=aB hall
        have HB3:=aB hbel
        have HOJ:=aB (aR HO1.out fun b hb=>hbel.block b (aE HO1.out b hb).2)
        clear hall hbel
        have c0:wr.cell? ⟨g,k,none⟩=some (.string (aC y)):=rS HOJ.out (Bp HYY.out)
        have hj0:(0:Int)≤(j:Int):=by omega
        have hwj:=eE j (by omega)
        by_cases hjk:j<k
        ·obtain⟨x,hx⟩:∃ x,(aS s)[j]? = some x:=⟨_,List.getElem?_eq_getElem (by have:=Yi.out;omega)⟩
         have c1:wr.cell? ⟨g,j,none⟩=some (.string (aC x)):=rS HOJ.out (Bp hx)
         have hj1:(j:Int)<(k:Int):=by omega
         have hj2:(j:Int)<(N:Int):=by omega
         have fE:Hid (x=y→y∈(aS s).take k):=fun h=>h▸Qa hjk hx
         have fS:Hid (¬x=y→∀ (q:Nat) (z:List UInt8),q<j+1→(aS s)[q]? = some z→¬z=y):=fun a=>jK HA2.out hx a
         have gR:Hid (∀ nq:Nat,Below U1.heap.size U1 (wr.drewN nq)):=fun nq=>HB3.out.trans ⟨rfl,rfl,rfl,Nat.le_refl _,fun _ _=>rfl⟩
         clear hx
         by_cases t0:x=y
         ·have hm:=fE.out t0
          rw[t0]at c1
          have GB:fF (aS s) (jT (aS s)) k=false:=by rw[HG.out];simp[hm]
          clear t0 fE fS hm
          go_wp2_with fail
          go_quiet (fail)
          go_wp2_with fail
          go_ret
          exact dR.out _ (HW1.out.trans ((gR.out _).mono HW1.out.size)) (aFb.out (cQ GB (by omega)))
         have t0':=jW t0
         have Ud:=beq_eq_false_iff_ne.2 t0
         have pG:=aB (fS.out t0)
         clear fE fS
         go_wp2_with fail
         go_quiet (fail)
         go_wp2_with fail
         go_roundw
         case rel=>exact⟨j+1,by go_num,by omega,pG.out,gR.out _⟩
         case measure=>simp[intOf];omega
        ·have Ue:¬(j:Int)<(k:Int):=by omega
         have hn1:y∉(aS s).take k:=Pz fun q x hq hx=>HA2.out q x (by omega) hx
         have jX:Hid (fF (aS s) (jT (aS s)) k=true):=by
          refine(?_:_=_)
          rw[HG.out,decide_eq_false hn1];rfl
         have HB9:=aB (HB1.out.trans (HB3.out.mono HB1.out.size))
         clear hn1 c0
         go_wp2_with fail
         go_roundw
         case rel=>exact⟨k+1,by go_num,by omega,cP cW.out jX.out,HB9.out⟩
         case measure=>simp[intOf];omega
      ·have hkn':¬(k:Int)<(N:Int):=by omega
       have hfn:rI (aS s)=true:=by
        have h:=cW.out
        have hke:k=N:=by omega
        rw[hke,←Yi.out]at h
        exact h
       rw[hfn]at rU
       obtain⟨_,_,_,_,z0,_,_⟩:=xU.out w2 aLs.out
       clear hfn cW hk hkn hk0 hwk cE mZ HB2
       have cE:=aLs
       have mZ:=Fw
       go_wp2_with fail
       clear z0
       go_loopw [97] (fun i wr=>∃ k:Nat,i=.int .i64 (k:Int)∧k≤nm∧eX (fF s.ms (rJ ne nm)) k=true∧Below Y.heap.size Y wr) (fun i _=>nm - (intOf i).toNat)
       case atStart=>exact⟨0,rfl,Nat.zero_le _,rfl,cE.out⟩
       case round=>
        generalize wr=w5 at *
        obtain⟨k,rfl,hk,hall,hbel⟩:=hrel
        clear cE
        have cW:=aB hall
        have cE:=aB hbel
        obtain⟨fE,vA,HT1,hbw,z0,z1,z2⟩:=xU.out w5 hbel
        have mZ:=aB hbw
        have hk0:(0:Int)≤(k:Int):=by omega
        have hwk:=eE k (by omega)
        clear hall hbel hbw
        by_cases hkn:k<nm
        ·obtain⟨y,hy⟩:∃ y,s.ms[k]? = some y:=⟨_,List.getElem?_eq_getElem (by have:=HN.out;omega)⟩
         obtain⟨g,o,c0,ka,kc,hsl,hg,e0,e1,hrow⟩:=aW.at fE (W:=w5) (fun b hb=>rfl) hy
         obtain⟨ha,hc⟩:=aJ hsl
         have hfit:=(HFF.out.2.1 y (List.mem_of_getElem? hy)).2
         have HG:Hid (fF s.ms (rJ ne nm) k=(decide (y.fields.length≤32)&&pR ne nm y.fields)):=dB hy
         have hk1:(k:Int)<(nm:Int):=by omega
         have hS0:Below w5.heap.size w5 w5.drew:=(Below.refl _ _).drew
         have hcl:∀ W,Below w5.heap.size w5 W→Calls Tryz.prog 46 #[.agg #[.slice ma nm mc,.slice ea ne ec,.slice ta nt tc],.agg #[.string (aC y.name),.slice ka y.fields.length kc]] W fun e w'=>e=.returned (.bool (decide (y.fields.length≤32)&&pR ne nm y.fields))∧Below w5.heap.size w5 w':=fun W hW=>
          (Bi ma ea ta nm ne nt mc ec tc y ka kc W (dQ HTW.out (mZ.out.trans (hW.mono mZ.out.size))) hfit ((hrow.old fun b hb=>hW.block b hb).more fun b hb=>by have hb':b<w5.heap.size:=hb;have:=hW.size;omega)).mono fun e w' ⟨h1,h2⟩=>⟨h1,hW.trans (h2.mono hW.size)⟩
         have b0:∀ W,Below w5.heap.size w5 W→W.cell? ⟨w.heap.size,0,none⟩=some (.slice ma nm mc):=fun W hW=>(hW.cell (by have:=mZ.out.size;have:=cE.out.size;simp;omega)).trans z0
         have b1:∀ W,Below w5.heap.size w5 W→W.cell? ⟨w.heap.size,1,none⟩=some (.slice ea ne ec):=fun W hW=>(hW.cell (by have:=mZ.out.size;have:=cE.out.size;simp;omega)).trans z1
         have b2:∀ W,Below w5.heap.size w5 W→W.cell? ⟨w.heap.size,2,none⟩=some (.slice ta nt tc):=fun W hW=>(hW.cell (by have:=mZ.out.size;have:=cE.out.size;simp;omega)).trans z2
         have f0:∀ W,Below w5.heap.size w5 W→W.cell? ⟨g,o+k*2,none⟩=some (.string (aC y.name)):=fun W hW=>(hW.cell (by have:g<w5.heap.size:=hg;simpa using this)).trans e0
         have f1:∀ W,Below w5.heap.size w5 W→W.cell? ⟨g,o+k*2+1,none⟩=some (.slice ka y.fields.length kc):=fun W hW=>(hW.cell (by have:g<w5.heap.size:=hg;simpa using this)).trans e1
         subst ha
         clear hsl hy hc hrow hfit e0 e1 fE vA HT1 z0 z1 z2
         generalize (decide (y.fields.length≤32)&&pR ne nm y.fields)=B1 at *
         go_upto_region 30 with fail
         go_cut [107] (fun v wx=>v=.bool (!B1)∧Below w5.heap.size w5 wx)
         case first=>
          go_region_held_law (fun W=>Below w5.heap.size w5 W) (first | with_reducible exact hS0 | assumption) (first | (go_simp;go_at_call 46;refine(hcl _ (by first | assumption | exact hS0)).mono ?_;rintro e W1 ⟨rfl,hW1⟩;dsimp only))
          all_goals go_wp2_with fail
          all_goals go_meet
          all_goals exact⟨rfl,by assumption⟩
         case rest=>
          obtain⟨rfl,hS1⟩:=hcut
          generalize wc=U1 at *
          have HB1:=aB (cE.out.trans (hS1.mono cE.out.size))
          have HW1:=aB (mZ.out.trans (hS1.mono mZ.out.size))
          clear hS0 hS1 hcl b0 b1 b2 f0 f1
          cases B1
          case false=>
           go_wp2_with fail
           go_ret
           exact dR.out _ HW1.out (aTm.out (cQ HG.out (by omega)))
          go_wp2_with fail
          go_roundw
          case rel=>exact⟨k+1,by go_num,by omega,cP cW.out HG.out,HB1.out⟩
          case measure=>simp[intOf];omega
        ·have hkn':¬(k:Int)<(nm:Int):=by omega
         have hfm:lO s.es.length s.ms.length s.ms=true:=by
          have h:=cW.out
          have hke:k=nm:=by omega
          rw[hke]at h
          unfold lO allA
          rw[HN.out,Ry.out];exact h
         have HRF:=aB (xA HFF.out hfm)
         rw[hfm]at rU
         clear hfm fE vA HT1 z0 z2 cW hk hkn hk0 hwk
         go_wp2_with fail
         clear z1
         go_loopw [112] (fun i wr=>∃ k:Nat,i=.int .i64 (k:Int)∧k≤ne∧eX (fF s.es tP) k=true∧Below Y.heap.size Y wr) (fun i _=>ne - (intOf i).toNat)
         case atStart=>exact⟨0,rfl,Nat.zero_le _,rfl,cE.out⟩
         case round=>
          generalize wr=w6 at *
          obtain⟨k,rfl,hk,hall,hbel⟩:=hrel
          clear cE
          have cW:=aB hall
          have cE:=aB hbel
          obtain⟨fE,vA,HT1,hbw,z0,z1,z2⟩:=xU.out w6 hbel
          have mZ:=aB hbw
          have hk0:(0:Int)≤(k:Int):=by omega
          have hwk:=eE k (by omega)
          clear hall hbel hbw
          by_cases hkn:k<ne
          ·obtain⟨y,hy⟩:∃ y,s.es[k]? = some y:=⟨_,List.getElem?_eq_getElem (by have:=Ry.out;omega)⟩
           obtain⟨g,o,c0,ka,kc,hsl,hg,e0,e1,hrow⟩:=aW.at vA (W:=w6) (fun b hb=>rfl) hy
           obtain⟨ha,hc⟩:=aJ hsl
           have hfit:=(HFF.out.2.2.1 y (List.mem_of_getElem? hy)).2
           have HG:Hid (fF s.es tP k=(zeroV y.values&&rH y.values)):=dB hy
           have hk1:(k:Int)<(ne:Int):=by omega
           have hcl:=Po y ka kc w6 (dQ HTW.out mZ.out) hfit hrow
           subst ha
           clear hsl hy hc hrow hfit fE vA HT1 z0 z2
           generalize (zeroV y.values&&rH y.values)=B1 at *
           go_wp2_with fail
           refine hcl.mono ?_
           rintro e U1 ⟨rfl,hS1⟩
           have HB1:=aB (cE.out.trans (hS1.mono cE.out.size))
           have HW1:=aB (mZ.out.trans (hS1.mono mZ.out.size))
           clear hcl hS1 e0 e1 z1
           cases B1
           case false=>
            go_wp2_with fail
            go_ret
            exact dR.out _ HW1.out (aTn.out (cQ HG.out (by omega)))
           go_wp2_with fail
           go_roundw
           case rel=>exact⟨k+1,by go_num,by omega,cP cW.out HG.out,HB1.out⟩
           case measure=>simp[intOf];omega
          ·have hkn':¬(k:Int)<(ne:Int):=by omega
           have hfe:pU s.es=true:=by
            have h:=cW.out
            have hke:k=ne:=by omega
            rw[hke,←Ry.out]at h
            exact h
           rw[hfe]at rU
           clear hfe fE vA HT1 z0 z1 cW hk hkn hk0 hwk
           go_wp2_with fail
           clear z2
           go_loopw [126] (fun i wr=>∃ k:Nat,i=.int .i64 (k:Int)∧k≤nt∧eX (fF s.ts (iO nm s.ts)) k=true∧Below Y.heap.size Y wr) (fun i _=>nt - (intOf i).toNat)
           case atStart=>exact⟨0,rfl,Nat.zero_le _,rfl,cE.out⟩
           case round=>
            generalize wr=w7 at *
            obtain⟨k,rfl,hk,hall,hbel⟩:=hrel
            clear cE
            have cW:=aB hall
            have cE:=aB hbel
            have hsw:=hbel.size
            obtain⟨fE,vA,HT1,hbw,z0,z1,z2⟩:=xU.out w7 hbel
            have mZ:=aB hbw
            have hk0:(0:Int)≤(k:Int):=by omega
            have hwk:=eE k (by omega)
            clear hall hbel hbw
            by_cases hkn:k<nt
            ·obtain⟨y,hy⟩:∃ y,s.ts[k]? = some y:=⟨_,List.getElem?_eq_getElem (by have:=Rz.out;omega)⟩
             obtain⟨g,o,c0,hsl,hg,e0,e1,e2,e3,e4⟩:=tR HT1 (W:=w7) (fun b hb=>rfl) hy
             rw[Rz.out]at hsl
             obtain⟨ha,hc⟩:=aJ hsl
             have z2s:=z2
             rw[ha]at z2
             have HHA:=aB ha
             have hnl:=HFF.out.2.2.2.2 y (List.mem_of_getElem? hy)
             have HG:Hid (fF s.ts (iO nm s.ts) k=(decide (y.id=(k:Int)+1)&&(aZ y.service&&(aZ y.name&&(!decide ((y.service,y.name)∈iY s.ts k)&&(Bb nm y.inp&&Bb nm y.out)))))):=dB hy
             have hk1:(k:Int)<(nt:Int):=by omega
             obtain⟨U,hU,hC,bG,Mu⟩:=bY w7 #[.int .i64 y.id,.string (aC y.service),.string (aC y.name),.int .i64 y.inp,.int .i64 y.out] 45
             have HU:=aB hU
             have eY:=aB (cE.out.trans (bG.mono hsw))
             have HWU:=aB (mZ.out.trans (bG.mono mZ.out.size))
             have vF:=aB hC
             have l0:=aA hC 0 rfl
             have l1:=aA hC 1 rfl
             have hp1:=mG y.service U (dQ HTW.out HWU.out) (by omega)
             clear hsl hy hU hC bG fE vA HT1 ha z2s
             go_upto_region 43 with fail
             rw[HU.out]
             clear e0 e1 e2 e3 e4 z0 z1 z2 hc
             by_cases hid:y.id=(k:Int)+1
             case neg=>
              have GB:fF s.ts (iO nm s.ts) k=false:=by rw[HG.out];rw[decide_eq_false (by omega)];rfl
              go_wp2_with fail
              go_ret
              exact dR.out _ HWU.out (rQ.out (cQ GB (by omega)))
             rw[hid]at l0 vF
             have HID:=aB hid
             clear hid
             generalize aZ y.service=B1 at *
             go_wp2_with fail
             refine hp1.mono ?_
             rintro e U1 ⟨rfl,hb1⟩
             have HW1:=aB (HWU.out.trans (hb1.mono HWU.out.size))
             have HB1:=aB (eY.out.trans (hb1.mono eY.out.size))
             have h1c:=(hb1.block _ (by omega)).trans vF.out
             have Vj:=aB h1c
             have hs1:=hb1.size
             have q2:=aA h1c 2 rfl
             clear hp1 hb1 l0 l1 h1c
             cases B1
             case false=>
              have GB:fF s.ts (iO nm s.ts) k=false:=by rw[HG.out];simp
              go_wp2_with fail
              go_ret
              exact dR.out _ HW1.out (rQ.out (cQ GB (by omega)))
             have hp2:=mG y.name U1 (dQ HTW.out HW1.out) (by omega)
             generalize aZ y.name=B2 at *
             go_wp2_with fail
             refine hp2.mono ?_
             rintro e U2 ⟨rfl,hb2⟩
             have HW2:=aB (HW1.out.trans (hb2.mono HW1.out.size))
             have HB2:=aB (HB1.out.trans (hb2.mono HB1.out.size))
             have gH:=(hb2.block _ (by omega)).trans Vj.out
             have aFa:=aB gH
             have hs2:=hb2.size
             have l3:=aA gH 3 rfl
             have l4:=aA gH 4 rfl
             obtain⟨_,_,_,_,z0,z1,z2⟩:=xU.out U2 HB2.out
             clear hp2 hb2 q2 gH z1 z2
             cases B2
             case false=>
              have GB:fF s.ts (iO nm s.ts) k=false:=by rw[HG.out];simp
              go_wp2_with fail
              go_ret
              exact dR.out _ HW2.out (rQ.out (cQ GB (by omega)))
             by_cases c0:0≤y.inp
             case neg=>
              have c0':y.inp<0:=by omega
              have hib:Bb nm y.inp=false:=decide_eq_false (by omega)
              have GB:fF s.ts (iO nm s.ts) k=false:=by rw[HG.out];rw[hib];simp
              go_wp2_with fail
              go_ret
              exact dR.out _ HW2.out (rQ.out (cQ GB (by omega)))
             have c0':¬y.inp<0:=by omega
             by_cases c1:y.inp<(nm:Int)
             case neg=>
              have c1':(nm:Int)≤y.inp:=by omega
              have hib:Bb nm y.inp=false:=decide_eq_false (by omega)
              have GB:fF s.ts (iO nm s.ts) k=false:=by rw[HG.out];rw[hib];simp
              go_wp2_with fail
              go_ret
              exact dR.out _ HW2.out (rQ.out (cQ GB (by omega)))
             have c1':¬(nm:Int)≤y.inp:=by omega
             have hib:Bb nm y.inp=true:=decide_eq_true ⟨c0,c1⟩
             rw[hib]at HG
             clear hib
             by_cases d0:0≤y.out
             case neg=>
              have d0':y.out<0:=by omega
              have hib:Bb nm y.out=false:=decide_eq_false (by omega)
              have GB:fF s.ts (iO nm s.ts) k=false:=by rw[HG.out];rw[hib];simp
              go_wp2_with fail
              go_ret
              exact dR.out _ HW2.out (rQ.out (cQ GB (by omega)))
             have d0':¬y.out<0:=by omega
             by_cases d1:y.out<(nm:Int)
             case neg=>
              have d1':(nm:Int)≤y.out:=by omega
              have hib:Bb nm y.out=false:=decide_eq_false (by omega)
              have GB:fF s.ts (iO nm s.ts) k=false:=by rw[HG.out];rw[hib];simp
              go_wp2_with fail
              go_ret
              exact dR.out _ HW2.out (rQ.out (cQ GB (by omega)))
             have d1':¬(nm:Int)≤y.out:=by omega
             have hib:Bb nm y.out=true:=decide_eq_true ⟨d0,d1⟩
             rw[hib]at HG
             clear hib
             go_wp2_with fail
             clear z0 l3 l4 c0 c1 d0 d1 c0' c1' d0' d1'
             go_loopw [178] (fun i wr=>∃ j:Nat,i=.int .i64 (j:Int)∧j≤k∧(∀ (q:Nat) (x:TD),q<j→s.ts[q]? = some x→¬(x.service,x.name)=(y.service,y.name))∧Below U2.heap.size U2 wr) (fun i _=>k - (intOf i).toNat)
             case atStart=>exact⟨0,rfl,Nat.zero_le _,fun q x hq=>absurd hq (Nat.not_lt_zero _),Below.refl _ _⟩
             case round=>
              obtain⟨j,rfl,hj,hall,hbel⟩:=hrel
              have HA2:=aB hall
              have Mv:=aB (HB2.out.trans (hbel.mono HB2.out.size))
              have hjc:=(hbel.block _ (by omega)).trans aFa.out
              have HB3:=aB hbel
              have l1:=aA hjc 1 rfl
              have l2:=aA hjc 2 rfl
              obtain⟨_,_,HTJ,hWJ,_,_,z2⟩:=xU.out wr Mv.out
              have HWJ:=aB hWJ
              clear hall hbel hjc hWJ
              have hj0:(0:Int)≤(j:Int):=by omega
              have hwj:=eE j (by omega)
              by_cases hjk:j<k
              ·obtain⟨x,hx⟩:∃ x,s.ts[j]? = some x:=⟨_,List.getElem?_eq_getElem (by have:=Rz.out;omega)⟩
               obtain⟨g2,o2,c2,hsl,hg2,f0,f1,f2,-,-⟩:=tR HTJ (W:=wr) (fun b hb=>rfl) hx
               rw[Rz.out]at hsl
               obtain⟨ha2,hc2⟩:=aJ hsl
               rw[ha2]at z2
               have hj1:(j:Int)<(k:Int):=by omega
               have hj2:(j:Int)<(nt:Int):=by omega
               have fE:Hid (x.service=y.service→x.name=y.name→(y.service,y.name)∈iY s.ts k):=fun h1 h2=>by
                have:=lR (f:=fun t:TD=>(t.service,t.name)) hjk hx
                rw[h1,h2]at this
                exact this
               have fS:Hid (¬(x.service,x.name)=(y.service,y.name)→∀ (q:Nat) (z:TD),q<j+1→s.ts[q]? = some z→¬(z.service,z.name)=(y.service,y.name)):=fun a=>jK HA2.out hx a
               have gR:Hid (∀ nq:Nat,Below U2.heap.size U2 (wr.drewN nq)):=fun nq=>HB3.out.trans ⟨rfl,rfl,rfl,Nat.le_refl _,fun _ _=>rfl⟩
               clear hsl hx hc2 ha2 HTJ f0
               by_cases t0:x.service=y.service
               case neg=>
                have t0':=jW t0
                have Ud:=beq_eq_false_iff_ne.2 t0
                have pG:=aB (fS.out fun h=>t0 (by simpa using congrArg Prod.fst h))
                clear fE fS
                go_wp2_with fail
                go_quiet (fail)
                go_wp2_with fail
                go_roundw
                case rel=>exact⟨j+1,by go_num,by omega,pG.out,gR.out _⟩
                case measure=>simp[intOf];omega
               rw[t0]at f1
               by_cases t1:x.name=y.name
               case neg=>
                have t1':=jW t1
                have bDq:=beq_eq_false_iff_ne.2 t1
                have pG:=aB (fS.out fun h=>t1 (by simpa using congrArg Prod.snd h))
                clear fE fS t0
                go_wp2_with fail
                go_quiet (fail)
                go_wp2_with fail
                go_roundw
                case rel=>exact⟨j+1,by go_num,by omega,pG.out,gR.out _⟩
                case measure=>simp[intOf];omega
               have hm:=fE.out t0 t1
               rw[t1]at f2
               have GB:fF s.ts (iO nm s.ts) k=false:=by rw[HG.out];simp[hm]
               clear fE fS t0 t1 hm
               go_wp2_with fail
               go_quiet (fail)
               go_wp2_with fail
               go_ret
               exact dR.out _ (HW2.out.trans ((gR.out _).mono HW2.out.size)) (rQ.out (cQ GB (by omega)))
              ·have Ue:¬(j:Int)<(k:Int):=by omega
               have hn1:(y.service,y.name)∉iY s.ts k:=lS (f:=fun t:TD=>(t.service,t.name)) fun q x hq hx=>HA2.out q x (by omega) hx
               have jX:Hid (fF s.ts (iO nm s.ts) k=true):=by
                refine(?_:_=_)
                rw[HG.out,decide_eq_false hn1,decide_eq_true HID.out];rfl
               clear hn1 l1 l2 z2 HTJ
               go_wp2_with fail
               go_roundw
               case rel=>exact⟨k+1,by go_num,by omega,cP cW.out jX.out,Mv.out⟩
               case measure=>simp[intOf];omega
            ·have hkn':¬(k:Int)<(nt:Int):=by omega
             have hft:pT s.ms.length s.ts=true:=by
              have h:=cW.out
              have hke:k=nt:=by omega
              rw[hke,←Rz.out]at h
              rw[HN.out];exact h
             rw[hft]at rU
             clear hft fE vA HT1 z1 z2 cW hk hkn hk0 hwk
             go_wp2_with fail
             clear z0
             go_loopw [206] (fun i wr=>∃ k:Nat,i=.int .i64 (k:Int)∧k≤nm∧(∀ j,j<k→¬Ring s.ms j)∧Below Y.heap.size Y wr) (fun i _=>nm - (intOf i).toNat)
             case atStart=>exact⟨0,rfl,Nat.zero_le _,fun j hj=>absurd hj (Nat.not_lt_zero _),cE.out⟩
             case round=>
              generalize wr=w9 at *
              obtain⟨k,rfl,hk,hall,hbel⟩:=hrel
              clear cE
              have cW:=aB hall
              have cE:=aB hbel
              obtain⟨fE,vA,HT1,hbw,z0,z1,z2⟩:=xU.out w9 hbel
              have mZ:=aB hbw
              have hk0:(0:Int)≤(k:Int):=by omega
              have hwk:=eE k (by omega)
              clear hall hbel hbw
              by_cases hkn:k<nm
              ·have hc:=Jv ma ea ta nm ne nt mc ec tc s.ms k w9 HN.out HRF.out hkn fE
               have hk1:(k:Int)<(nm:Int):=by omega
               clear fE vA HT1
               go_wp2_with fail
               refine hc.mono ?_
               rintro e U1 ⟨b,rfl,hbi,hb1⟩
               have HB1:=aB (cE.out.trans (hb1.mono cE.out.size))
               have HW1:=aB (mZ.out.trans (hb1.mono mZ.out.size))
               have wX:=aB hbi
               clear hc hb1 hbi z0 z1 z2
               cases b
               case true=>
                go_wp2_with fail
                go_ret
                exact⟨false,rfl,⟨(fun h=>by cases h),fun h=>absurd (wX.out.1 (by simp)) (h.2 k (by have:=HN.out;omega))⟩,HW1.out⟩
               go_wp2_with fail
               go_roundw
               case rel=>
                refine⟨k+1,by go_num,by omega,fun j hj=>?_,HB1.out⟩
                by_cases hjk:j=k
                ·rw[hjk];intro h;exact absurd (wX.out.2 h) (by simp)
                ·exact cW.out j (by omega)
               case measure=>simp[intOf];omega
              ·have hkn':¬(k:Int)<(nm:Int):=by omega
               go_wp2_with fail
               go_ret
               exact⟨true,rfl,⟨fun _=>⟨rU.out,fun i hi=>cW.out i (by have:=HN.out;omega)⟩,fun _=>rfl⟩,mZ.out⟩
end Go.Proofs.YtpojeinddnjpfaaGreatDoor
