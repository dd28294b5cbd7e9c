/-
  Walks and plain words (FoF).
-/
import Derived.Test.YteajlfgbmefncaaGreatDoorN14
import Derived.Test.YteajlfgbmefncaaGreatDoorN28
import Derived.Test.YteajlfgbmefncaaGreatDoorN27
import Derived.Deep.RegionHeldLaw
namespace Go.Proofs.YteajlfgbmefncaaGreatDoor
set_option linter.unusedVariables false
open Go.ChangeShapes Go.WideShapes Go.ChangeAt Go.RowKit

def strV (x:List UInt8):Value:=.string (mkB x)
theorem strV_at {ns:List (List UInt8)} {i:Nat} {x:List UInt8} (h:ns[i]? = some x):(ns.map strV)[i]? = some (.string (mkB x)):=by rw[List.getElem?_map,h];rfl
theorem strV_take {ns:List (List UInt8)} {k:Nat} {x:List UInt8} (h:ns[k]? = some x):(ns.take (k+1)).map strV=(ns.take k).map strV++[.string (mkB x)]:=by rw[take_snoc h,List.map_append];rfl
theorem info9S:(Tryz.prog.info? 9).map (fun i=>(i.zero,i.size,i.bytes))=some (some (.string ⟨#[]⟩),1,16):=by kernel_rfl
theorem not_takeN {ns:List (List UInt8)} {k:Nat} {b:List UInt8} (h:∀ (j:Nat) (x:List UInt8),j<k→ns[j]? = some x→¬x=b):b∉ns.take k:=fun hm=>by
 obtain⟨j,hj⟩:=List.getElem?_of_mem hm
 have hjk:=(List.getElem?_eq_some_iff.1 hj).1
 rw[List.length_take]at hjk
 rw[List.getElem?_take,if_pos (by omega)]at hj
 exact h j b (by omega) hj rfl
theorem mem_takeN {ns:List (List UInt8)} {k j:Nat} {x:List UInt8} (hj:j<k) (hx:ns[j]? = some x):x∈ns.take k:=List.mem_of_getElem? (show (ns.take k)[j]? = some x by rw[List.getElem?_take,if_pos hj];exact hx)
theorem ptr_take {w:World} {base:Nat} {ua:Option Addr} {uc n:Nat} {xs:List Value} (h:w.ownsRow base 9 1 (.slice ua n uc) n xs) (hn:0<n):∃ g,ua=some ⟨g,0,none⟩:=ptr_of h hn
set_option maxHeartbeats 64000000 in
set_option maxRecDepth 20000 in
theorem formR_any (ma ea ta:Option Addr) (nm ne nt mc ec tc:Nat) (s:SC) (w:World) (hT:Tabs w) (hnm:s.ms.length=nm) (hne:s.es.length=ne) (hnt:s.ts.length=nt) (hf:FitS s) (hH:HeldSc w (fun b=>b<w.heap.size) (.slice ma nm mc) (.slice ea ne ec) (.slice ta nt tc) s) :
  Calls Tryz.prog 17 #[.agg #[.slice ma nm mc,.slice ea ne ec,.slice ta nt tc]] w fun e w'=>FormAns s w e w':=by
 obtain⟨Y,hY,hC,hb,hYs⟩:=box_new w #[.slice ma nm mc,.slice ea ne ec,.slice ta nt tc] 26
 have HHY:Hid (∀ W,Below Y.heap.size Y W→HeldM W (fun b=>b<W.heap.size) (.slice ma nm mc) s.ms∧HeldE W (fun b=>b<W.heap.size) (.slice ea ne ec) s.es∧HeldT W (fun b=>b<W.heap.size) (.slice ta nt tc) s.ts∧Below w.heap.size w W∧W.cell? ⟨w.heap.size,0,none⟩=some (.slice ma nm mc)∧W.cell? ⟨w.heap.size,1,none⟩=some (.slice ea ne ec)∧W.cell? ⟨w.heap.size,2,none⟩=some (.slice ta nt tc)):=by
  refine(?_:∀ W,_→_)
  intro W hW
  have hw:=hb.trans (hW.mono hb.size)
  have e1:=(hW.block _ (by omega)).trans hC
  have old:∀ b,b<w.heap.size→W.heap[b]? = w.heap[b]?:=fun b h=>hw.block b h
  have more:∀ b,b<w.heap.size→b<W.heap.size:=fun b h=>by have:=hw.size;omega
  exact⟨(HeldN.old hH.1 old).more more,(HeldN.old hH.2.1 old).more more,(RowsIn.old hH.2.2 old).more more,hw,cell_at e1 0 rfl,cell_at e1 1 rfl,cell_at e1 2 rfl⟩
 have HY:=hQz hY
 have HFF:=hQz hf
 have HL:Hid (lenB s=decide (nm≤64∧ne≤64∧nt≤64)):=by
  refine(?_:_=_)
  unfold lenB;rw[hnm,hne,hnt]
 have HFM:Hid (formS s=(lenB s&&(formN (namesS s)&&(formM s.es.length s.ms.length s.ms&&(formE s.es&&formT s.ms.length s.ts))))):=rfl
 have HFM0:=HFM
 have HNO:Hid (∀ W,Below w.heap.size w W→formS s=false→FormAns s w (.returned (.bool false)) W):=fun W hW h=>⟨false,rfl,⟨(fun h=>by cases h),fun h'=>by rw[h'.1]at h;cases h⟩,hW⟩
 have HFNS:Hid (allB (atB (namesS s) (goodN (namesS s))) (nm+ne)=false→formS s=false):=fun h=>by
  have h1:formN (namesS s)=false:=by unfold formN allA;rw[namesS_len,hnm,hne];exact h
  rw[HFM0.out,h1];simp
 have HFMS:Hid (allB (atB s.ms (goodM ne nm)) nm=false→formS s=false):=fun h=>by
  have h1:formM s.es.length s.ms.length s.ms=false:=by unfold formM allA;rw[hnm,hne];exact h
  rw[HFM0.out,h1];simp
 have HFES:Hid (allB (atB s.es goodE) ne=false→formS s=false):=fun h=>by
  have h1:formE s.es=false:=by unfold formE allA;rw[hne];exact h
  rw[HFM0.out,h1];simp
 have HFT:Hid (allB (atB s.ts (goodT nm s.ts)) nt=false→formS s=false):=fun h=>by
  have h1:formT s.ms.length s.ts=false:=by unfold formT allA;rw[hnt,hnm];exact h
  rw[HFM0.out,h1];simp
 have HFN:Hid (∀ y∈namesS s,y.length≤100000):=by
  refine(?_:∀ y,_→_)
  intro y hy
  rcases List.mem_append.1 hy with h | h
  ·obtain⟨m,hm,rfl⟩:=List.mem_map.1 h;exact(hf.2.1 m hm).1
  ·obtain⟨m,hm,rfl⟩:=List.mem_map.1 h;exact(hf.2.2.1 m hm).1
 obtain⟨_,_,_,hby,z0,z1,z2⟩:=HHY.out Y (Below.refl _ _)
 have HBW:=hQz hby
 have HN:=hQz hnm
 have HNE:=hQz hne
 have HNT:=hQz hnt
 have HTW:=hQz hT
 have hl1:=hf.1.1
 have hl2:=hf.1.2
 rw[hnm]at hl1
 rw[hne]at hl2
 clear hH hf hnm hne hnt hY hb hC hby hT HFM0
 go_enter Tryz.func17,Tryz.ntmps17
 go_upto_region 1 with fail
 rw[HY.out]
 by_cases c1:nm≤64
 case neg=>
  have c1':64<(nm:Int):=by omega
  go_wp2_with fail
  go_ret
  exact HNO.out _ HBW.out (by rw[HFM.out,HL.out,decide_eq_false (by omega)];rfl)
 have c1':¬64<(nm:Int):=by omega
 by_cases c2:ne≤64
 case neg=>
  have c2':64<(ne:Int):=by omega
  go_wp2_with fail
  go_ret
  exact HNO.out _ HBW.out (by rw[HFM.out,HL.out,decide_eq_false (by omega)];rfl)
 have c2':¬64<(ne:Int):=by omega
 by_cases c3:nt≤64
 case neg=>
  have c3':64<(nt:Int):=by omega
  go_wp2_with fail
  go_ret
  exact HNO.out _ HBW.out (by rw[HFM.out,HL.out,decide_eq_false (by omega)];rfl)
 have c3':¬64<(nt:Int):=by omega
 have hlb:lenB s=true:=by rw[HL.out];exact decide_eq_true (by omega)
 rw[hlb]at HFM
 clear hlb HL
 go_wp2_with fail
 clear z0 z1 z2 HBW
 go_loopw [3,35] (fun u i wr=>∃ k:Nat,i=.int .i64 (k:Int)∧k≤nm∧wr.ownsRow Y.heap.size 9 1 u (k) (((namesS s).take (k)).map strV)∧Below Y.heap.size Y wr) (fun _ i _=>nm - (intOf i).toNat)
 case atStart=>exact⟨0,rfl,Nat.zero_le _,⟨rfl,.inl ⟨rfl,rfl⟩⟩,Below.refl _ _⟩
 case round=>
  generalize wr=w1 at *
  obtain⟨k,rfl,hk,hown,hbel⟩:=hrel
 
  obtain⟨ua,uc,huv⟩:=own_slice hown
  subst huv
  have HO:=hQz hown
  have HBY:=hQz hbel
  have hsw:=hbel.size
  have hk0:(0:Int)≤(k:Int):=by omega
  have hwk:=wQz k (by omega)
  obtain⟨HM1,HE1,HT1,hbw,z0,z1,z2⟩:=HHY.out w1 hbel
  have HBW:=hQz hbw
  clear hown hbel hbw
  by_cases hkn:k<nm
  ·obtain⟨y,hy⟩:∃ y,s.ms[k]? = some y:=⟨_,List.getElem?_eq_getElem (by have:=HN.out;omega)⟩
   obtain⟨g,o,c0,ka,kc,hsl,hg,e0,e1,-⟩:=HeldN.at HM1 (W:=w1) (fun b hb=>rfl) hy
   obtain⟨ha,hc⟩:=slice_two hsl
   have hna:=namesS_at1 hy
  
   have HNX:=hQz (strV_take hna)
   have hk1:(k:Int)<(nm:Int):=by omega
   rw[ha]at z0
   clear hsl hy hna ha hc e1 HM1 HE1 HT1
   have hBX:(w1.alloc (.cells #[.string (mkB y.name)] 9)).heap[w1.heap.size]? = some (.cells #[.string (mkB y.name)] 9 (0,0)):=alloc_heap_new _ _
   have HOA:Hid ((w1.alloc (.cells #[.string (mkB y.name)] 9)).ownsRow Y.heap.size 9 1 (.slice ua (k) uc) (k) (((namesS s).take (k)).map strV)):=own_keep HO.out fun b hb=>alloc_heap_old _ _ _ (own_block HO.out b hb).2
   have HBA:=hQz (HBY.out.alloc hsw (.cells #[.string (mkB y.name)] 9))
   have HBX2:=hQz hBX
   have hAs:(w1.alloc (.cells #[.string (mkB y.name)] 9)).heap.size=w1.heap.size+1:=by simp
   clear hBX
   go_wp2_with (at_builtin;refine row_pushL (T:=9) (t:=93) Tryz.underlying93 info9S rfl (by decide) HOA.out (by rw[hAs];omega) [.string (mkB y.name)] rfl (by simp[Value.oneCell']) w1.heap.size HBX2.out rfl _ _ rfl rfl rfl (by unfold maxLen;omega) (by omega) ?_;intro g cap W hown hgr hor hgl;have HOW:=hQz hown;have HGR:=hQz hgr;clear hown hgr hor)
   have HBW2:Hid (Below Y.heap.size Y W):=HBA.out.grown HGR.out (by rw[hAs];omega) (fun b hb=>(own_block HOA.out b hb).1)
   go_roundw
   case rel=>exact⟨k+1,by go_num,by omega,by rw[HNX.out];exact HOW.out,HBW2.out⟩
   case measure=>simp[intOf];omega
  ·have hkn':¬(k:Int)<(nm:Int):=by omega
   have hke:nm=k:=by omega
   subst hke
   clear hk0 hwk HM1 HE1 HT1 z0 z2 hsw
   go_wp2_with fail
   clear z1
   go_loopw [3,51] (fun u i wr=>∃ k:Nat,i=.int .i64 (k:Int)∧k≤ne∧wr.ownsRow Y.heap.size 9 1 u (nm+k) (((namesS s).take (nm+k)).map strV)∧Below Y.heap.size Y wr) (fun _ i _=>ne - (intOf i).toNat)
   case atStart=>exact⟨0,rfl,Nat.zero_le _,by first | exact HO.out | (simpa using HO.out),HBY.out⟩
   case round=>
    generalize wr=w1 at *
    obtain⟨k,rfl,hk,hown,hbel⟩:=hrel
    clear HO HBY
    obtain⟨ua,uc,huv⟩:=own_slice hown
    subst huv
    have HO:=hQz hown
    have HBY:=hQz hbel
    have hsw:=hbel.size
    have hk0:(0:Int)≤(k:Int):=by omega
    have hwk:=wQz k (by omega)
    obtain⟨HM1,HE1,HT1,hbw,z0,z1,z2⟩:=HHY.out w1 hbel
    have HBW:=hQz hbw
    clear hown hbel hbw
    by_cases hkn:k<ne
    ·obtain⟨y,hy⟩:∃ y,s.es[k]? = some y:=⟨_,List.getElem?_eq_getElem (by have:=HNE.out;omega)⟩
     obtain⟨g,o,c0,ka,kc,hsl,hg,e0,e1,-⟩:=HeldN.at HE1 (W:=w1) (fun b hb=>rfl) hy
     obtain⟨ha,hc⟩:=slice_two hsl
     have hna:=namesS_at2 hy
     rw[HN.out]at hna
     have HNX:=hQz (strV_take hna)
     have hk1:(k:Int)<(ne:Int):=by omega
     rw[ha]at z1
     clear hsl hy hna ha hc e1 HM1 HE1 HT1
     have hBX:(w1.alloc (.cells #[.string (mkB y.name)] 9)).heap[w1.heap.size]? = some (.cells #[.string (mkB y.name)] 9 (0,0)):=alloc_heap_new _ _
     have HOA:Hid ((w1.alloc (.cells #[.string (mkB y.name)] 9)).ownsRow Y.heap.size 9 1 (.slice ua (nm+k) uc) (nm+k) (((namesS s).take (nm+k)).map strV)):=own_keep HO.out fun b hb=>alloc_heap_old _ _ _ (own_block HO.out b hb).2
     have HBA:=hQz (HBY.out.alloc hsw (.cells #[.string (mkB y.name)] 9))
     have HBX2:=hQz hBX
     have hAs:(w1.alloc (.cells #[.string (mkB y.name)] 9)).heap.size=w1.heap.size+1:=by simp
     clear hBX
     go_wp2_with (at_builtin;refine row_pushL (T:=9) (t:=93) Tryz.underlying93 info9S rfl (by decide) HOA.out (by rw[hAs];omega) [.string (mkB y.name)] rfl (by simp[Value.oneCell']) w1.heap.size HBX2.out rfl _ _ rfl rfl rfl (by unfold maxLen;omega) (by omega) ?_;intro g cap W hown hgr hor hgl;have HOW:=hQz hown;have HGR:=hQz hgr;clear hown hgr hor)
     have HBW2:Hid (Below Y.heap.size Y W):=HBA.out.grown HGR.out (by rw[hAs];omega) (fun b hb=>(own_block HOA.out b hb).1)
     go_roundw
     case rel=>exact⟨k+1,by go_num,by omega,by rw[←Nat.add_assoc,HNX.out];exact HOW.out,HBW2.out⟩
     case measure=>simp[intOf];omega
    ·have hkn':¬(k:Int)<(ne:Int):=by omega
     have hke:ne=k:=by omega
     subst hke
     clear hk0 hwk hsw HM1 HE1 HT1 z0 z1 z2
     obtain⟨N,hN⟩:∃ N,nm+ne=N:=⟨_,rfl⟩
     rw[hN]at HO HFNS ⊢
     have HNN:Hid ((namesS s).length=N):=by
      refine(?_:_=_)
      rw[namesS_len,HN.out,HNE.out,hN]
     have HO2:Hid (w1.ownsRow Y.heap.size 9 1 (.slice ua N uc) N ((namesS s).map strV)):=by
      have h:=HO.out
      rw[List.take_of_length_le (by rw[HNN.out];exact Nat.le_refl _)]at h
      exact h
     have hNl:N≤200000:=by omega
     clear HO hN
     go_wp2_with fail
     go_loopw [66] (fun i wr=>∃ k:Nat,i=.int .i64 (k:Int)∧k≤N∧allB (atB (namesS s) (goodN (namesS s))) k=true∧Below w1.heap.size w1 wr) (fun i _=>N - (intOf i).toNat)
     case atStart=>exact⟨0,rfl,Nat.zero_le _,rfl,Below.refl _ _⟩
     case round=>
      generalize wr=w2 at *
      obtain⟨k,rfl,hk,hall,hbel⟩:=hrel
      have HALL:=hQz hall
      have HB2:=hQz hbel
      have HBY2:=hQz (HBY.out.trans (hbel.mono HBY.out.size))
      have HBW2:=hQz (HBW.out.trans (hbel.mono HBW.out.size))
      have HOX:=hQz (own_keep HO2.out fun b hb=>hbel.block b (own_block HO2.out b hb).2)
      have hk0:(0:Int)≤(k:Int):=by omega
      have hwk:=wQz k (by omega)
      clear hall hbel
      by_cases hkn:k<N
      ·obtain⟨y,hy⟩:∃ y,(namesS s)[k]? = some y:=⟨_,List.getElem?_eq_getElem (by have:=HNN.out;omega)⟩
       obtain⟨g,rfl⟩:=ptr_take HOX.out (by omega)
       have c0:w2.cell? ⟨g,k,none⟩=some (.string (mkB y)):=own_get HOX.out (strV_at hy)
       have hyl:y.length≤100000:=HFN.out y (List.mem_of_getElem? hy)
       have hp:=pathA_any y w2 (tabs_below HTW.out HBW2.out) (by omega)
       have HG:Hid (atB (namesS s) (goodN (namesS s)) k=(pathOK y&&!decide (y∈(namesS s).take k))):=atB_some hy
       have HYY:=hQz hy
       have hk1:(k:Int)<(N:Int):=by omega
       clear hy
       generalize pathOK y=B1 at *
       go_wp2_with fail
       refine hp.mono ?_
       rintro e U1 ⟨⟨ad,pn,pc,rfl⟩,hb1⟩
       have HB1:=hQz (HB2.out.trans (hb1.mono HB2.out.size))
       have HW1:=hQz (HBW2.out.trans (hb1.mono HBW2.out.size))
       have HO1:=hQz (own_keep HOX.out fun b hb=>hb1.block b (own_block HOX.out b hb).2)
       clear hp hb1 c0
       cases B1
       case false=>
        have GB:atB (namesS s) (goodN (namesS s)) k=false:=by rw[HG.out];rfl
        go_wp2_with fail
        go_ret
        exact HNO.out _ HW1.out (HFNS.out (allB_no GB (by omega)))
       go_wp2_with fail
       go_loopw [80] (fun i wr=>∃ j:Nat,i=.int .i64 (j:Int)∧j≤k∧(∀ (q:Nat) (x:List UInt8),q<j→(namesS s)[q]? = some x→¬x=y)∧Below U1.heap.size U1 wr) (fun i _=>k - (intOf i).toNat)
       case atStart=>exact⟨0,rfl,Nat.zero_le _,fun q x hq=>absurd hq (Nat.not_lt_zero _),Below.refl _ _⟩
       case round=>
        obtain⟨j,rfl,hj,hall,hbel⟩:=hrel
        have HA2:=hQz hall
        have HB3:=hQz hbel
        have HOJ:=hQz (own_keep HO1.out fun b hb=>hbel.block b (own_block HO1.out b hb).2)
        clear hall hbel
        have c0:wr.cell? ⟨g,k,none⟩=some (.string (mkB y)):=own_get HOJ.out (strV_at HYY.out)
        have hj0:(0:Int)≤(j:Int):=by omega
        have hwj:=wQz j (by omega)
        by_cases hjk:j<k
        ·obtain⟨x,hx⟩:∃ x,(namesS s)[j]? = some x:=⟨_,List.getElem?_eq_getElem (by have:=HNN.out;omega)⟩
         have c1:wr.cell? ⟨g,j,none⟩=some (.string (mkB x)):=own_get HOJ.out (strV_at hx)
         have hj1:(j:Int)<(k:Int):=by omega
         have hj2:(j:Int)<(N:Int):=by omega
         have HM1:Hid (x=y→y∈(namesS s).take k):=fun h=>h▸mem_takeN hjk hx
         have HNX:Hid (¬x=y→∀ (q:Nat) (z:List UInt8),q<j+1→(namesS s)[q]? = some z→¬z=y):=fun a=>allR_next HA2.out hx a
         have HTQ:Hid (∀ nq:Nat,Below U1.heap.size U1 (wr.drewN nq)):=fun nq=>HB3.out.trans ⟨rfl,rfl,rfl,Nat.le_refl _,fun _ _=>rfl⟩
         clear hx
         by_cases t0:x=y
         ·have hm:=HM1.out t0
          rw[t0]at c1
          have GB:atB (namesS s) (goodN (namesS s)) k=false:=by rw[HG.out];simp[hm]
          clear t0 HM1 HNX hm
          go_wp2_with fail
          go_quiet (fail)
          go_wp2_with fail
          go_ret
          exact HNO.out _ (HW1.out.trans ((HTQ.out _).mono HW1.out.size)) (HFNS.out (allB_no GB (by omega)))
         have t0':=mkBR_beq t0
         have t0'':=beq_eq_false_iff_ne.2 t0
         have HTE:=hQz (HNX.out t0)
         clear HM1 HNX
         go_wp2_with fail
         go_quiet (fail)
         go_wp2_with fail
         go_roundw
         case rel=>exact⟨j+1,by go_num,by omega,HTE.out,HTQ.out _⟩
         case measure=>simp[intOf];omega
        ·have hjk':¬(j:Int)<(k:Int):=by omega
         have hn1:y∉(namesS s).take k:=not_takeN fun q x hq hx=>HA2.out q x (by omega) hx
         have HOK:Hid (atB (namesS s) (goodN (namesS s)) k=true):=by
          refine(?_:_=_)
          rw[HG.out,decide_eq_false hn1];rfl
         have HB9:=hQz (HB1.out.trans (HB3.out.mono HB1.out.size))
         clear hn1 c0
         go_wp2_with fail
         go_roundw
         case rel=>exact⟨k+1,by go_num,by omega,allB_step HALL.out HOK.out,HB9.out⟩
         case measure=>simp[intOf];omega
      ·have hkn':¬(k:Int)<(N:Int):=by omega
       have hfn:formN (namesS s)=true:=by
        have h:=HALL.out
        have hke:k=N:=by omega
        rw[hke,←HNN.out]at h
        exact h
       rw[hfn]at HFM
       obtain⟨_,_,_,_,z0,_,_⟩:=HHY.out w2 HBY2.out
       clear hfn HALL hk hkn hk0 hwk HBY HBW HB2
       have HBY:=HBY2
       have HBW:=HBW2
       go_wp2_with fail
       clear z0
       go_loopw [97] (fun i wr=>∃ k:Nat,i=.int .i64 (k:Int)∧k≤nm∧allB (atB s.ms (goodM ne nm)) k=true∧Below Y.heap.size Y wr) (fun i _=>nm - (intOf i).toNat)
       case atStart=>exact⟨0,rfl,Nat.zero_le _,rfl,HBY.out⟩
       case round=>
        generalize wr=w5 at *
        obtain⟨k,rfl,hk,hall,hbel⟩:=hrel
        clear HBY
        have HALL:=hQz hall
        have HBY:=hQz hbel
        obtain⟨HM1,HE1,HT1,hbw,z0,z1,z2⟩:=HHY.out w5 hbel
        have HBW:=hQz hbw
        have hk0:(0:Int)≤(k:Int):=by omega
        have hwk:=wQz k (by omega)
        clear hall hbel hbw
        by_cases hkn:k<nm
        ·obtain⟨y,hy⟩:∃ y,s.ms[k]? = some y:=⟨_,List.getElem?_eq_getElem (by have:=HN.out;omega)⟩
         obtain⟨g,o,c0,ka,kc,hsl,hg,e0,e1,hrow⟩:=HeldN.at HM1 (W:=w5) (fun b hb=>rfl) hy
         obtain⟨ha,hc⟩:=slice_two hsl
         have hfit:=(HFF.out.2.1 y (List.mem_of_getElem? hy)).2
         have HG:Hid (atB s.ms (goodM ne nm) k=(decide (y.fields.length≤32)&&formF ne nm y.fields)):=atB_some hy
         have hk1:(k:Int)<(nm:Int):=by omega
         have hS0:Below w5.heap.size w5 w5.drew:=(Below.refl _ _).drew
         have hcl:∀ W,Below w5.heap.size w5 W→Calls Tryz.prog 34 #[.agg #[.slice ma nm mc,.slice ea ne ec,.slice ta nt tc],.agg #[.string (mkB y.name),.slice ka y.fields.length kc]] W fun e w'=>e=.returned (.bool (decide (y.fields.length≤32)&&formF ne nm y.fields))∧Below w5.heap.size w5 w':=fun W hW=>
          (messageR_any ma ea ta nm ne nt mc ec tc y ka kc W (tabs_below HTW.out (HBW.out.trans (hW.mono HBW.out.size))) hfit ((hrow.old fun b hb=>hW.block b hb).more fun b hb=>by have hb':b<w5.heap.size:=hb;have:=hW.size;omega)).mono fun e w' ⟨h1,h2⟩=>⟨h1,hW.trans (h2.mono hW.size)⟩
         have b0:∀ W,Below w5.heap.size w5 W→W.cell? ⟨w.heap.size,0,none⟩=some (.slice ma nm mc):=fun W hW=>(hW.cell (by have:=HBW.out.size;have:=HBY.out.size;simp;omega)).trans z0
         have b1:∀ W,Below w5.heap.size w5 W→W.cell? ⟨w.heap.size,1,none⟩=some (.slice ea ne ec):=fun W hW=>(hW.cell (by have:=HBW.out.size;have:=HBY.out.size;simp;omega)).trans z1
         have b2:∀ W,Below w5.heap.size w5 W→W.cell? ⟨w.heap.size,2,none⟩=some (.slice ta nt tc):=fun W hW=>(hW.cell (by have:=HBW.out.size;have:=HBY.out.size;simp;omega)).trans z2
         have f0:∀ W,Below w5.heap.size w5 W→W.cell? ⟨g,o+k*2,none⟩=some (.string (mkB y.name)):=fun W hW=>(hW.cell (by have:g<w5.heap.size:=hg;simpa using this)).trans e0
         have f1:∀ W,Below w5.heap.size w5 W→W.cell? ⟨g,o+k*2+1,none⟩=some (.slice ka y.fields.length kc):=fun W hW=>(hW.cell (by have:g<w5.heap.size:=hg;simpa using this)).trans e1
         subst ha
         clear hsl hy hc hrow hfit e0 e1 HM1 HE1 HT1 z0 z1 z2
         generalize (decide (y.fields.length≤32)&&formF ne nm y.fields)=B1 at *
         go_upto_region 30 with fail
         go_cut [107] (fun v wx=>v=.bool (!B1)∧Below w5.heap.size w5 wx)
         case first=>
          go_region_held_law (fun W=>Below w5.heap.size w5 W) (first | with_reducible exact hS0 | assumption) (first | (go_simp;go_at_call 34;refine(hcl _ (by first | assumption | exact hS0)).mono ?_;rintro e W1 ⟨rfl,hW1⟩;dsimp only))
          all_goals go_wp2_with fail
          all_goals go_meet
          all_goals exact⟨rfl,by assumption⟩
         case rest=>
          obtain⟨rfl,hS1⟩:=hcut
          generalize wc=U1 at *
          have HB1:=hQz (HBY.out.trans (hS1.mono HBY.out.size))
          have HW1:=hQz (HBW.out.trans (hS1.mono HBW.out.size))
          clear hS0 hS1 hcl b0 b1 b2 f0 f1
          cases B1
          case false=>
           go_wp2_with fail
           go_ret
           exact HNO.out _ HW1.out (HFMS.out (allB_no HG.out (by omega)))
          go_wp2_with fail
          go_roundw
          case rel=>exact⟨k+1,by go_num,by omega,allB_step HALL.out HG.out,HB1.out⟩
          case measure=>simp[intOf];omega
        ·have hkn':¬(k:Int)<(nm:Int):=by omega
         have hfm:formM s.es.length s.ms.length s.ms=true:=by
          have h:=HALL.out
          have hke:k=nm:=by omega
          rw[hke]at h
          unfold formM allA
          rw[HN.out,HNE.out];exact h
         have HRF:=hQz (ringFit_of HFF.out hfm)
         rw[hfm]at HFM
         clear hfm HM1 HE1 HT1 z0 z2 HALL hk hkn hk0 hwk
         go_wp2_with fail
         clear z1
         go_loopw [112] (fun i wr=>∃ k:Nat,i=.int .i64 (k:Int)∧k≤ne∧allB (atB s.es goodE) k=true∧Below Y.heap.size Y wr) (fun i _=>ne - (intOf i).toNat)
         case atStart=>exact⟨0,rfl,Nat.zero_le _,rfl,HBY.out⟩
         case round=>
          generalize wr=w6 at *
          obtain⟨k,rfl,hk,hall,hbel⟩:=hrel
          clear HBY
          have HALL:=hQz hall
          have HBY:=hQz hbel
          obtain⟨HM1,HE1,HT1,hbw,z0,z1,z2⟩:=HHY.out w6 hbel
          have HBW:=hQz hbw
          have hk0:(0:Int)≤(k:Int):=by omega
          have hwk:=wQz k (by omega)
          clear hall hbel hbw
          by_cases hkn:k<ne
          ·obtain⟨y,hy⟩:∃ y,s.es[k]? = some y:=⟨_,List.getElem?_eq_getElem (by have:=HNE.out;omega)⟩
           obtain⟨g,o,c0,ka,kc,hsl,hg,e0,e1,hrow⟩:=HeldN.at HE1 (W:=w6) (fun b hb=>rfl) hy
           obtain⟨ha,hc⟩:=slice_two hsl
           have hfit:=(HFF.out.2.2.1 y (List.mem_of_getElem? hy)).2
           have HG:Hid (atB s.es goodE k=(zeroV y.values&&formV y.values)):=atB_some hy
           have hk1:(k:Int)<(ne:Int):=by omega
           have hcl:=enumR_any y ka kc w6 (tabs_below HTW.out HBW.out) hfit hrow
           subst ha
           clear hsl hy hc hrow hfit HM1 HE1 HT1 z0 z2
           generalize (zeroV y.values&&formV y.values)=B1 at *
           go_wp2_with fail
           refine hcl.mono ?_
           rintro e U1 ⟨rfl,hS1⟩
           have HB1:=hQz (HBY.out.trans (hS1.mono HBY.out.size))
           have HW1:=hQz (HBW.out.trans (hS1.mono HBW.out.size))
           clear hcl hS1 e0 e1 z1
           cases B1
           case false=>
            go_wp2_with fail
            go_ret
            exact HNO.out _ HW1.out (HFES.out (allB_no HG.out (by omega)))
           go_wp2_with fail
           go_roundw
           case rel=>exact⟨k+1,by go_num,by omega,allB_step HALL.out HG.out,HB1.out⟩
           case measure=>simp[intOf];omega
          ·have hkn':¬(k:Int)<(ne:Int):=by omega
           have hfe:formE s.es=true:=by
            have h:=HALL.out
            have hke:k=ne:=by omega
            rw[hke,←HNE.out]at h
            exact h
           rw[hfe]at HFM
           clear hfe HM1 HE1 HT1 z0 z1 HALL hk hkn hk0 hwk
           go_wp2_with fail
           clear z2
           go_loopw [126] (fun i wr=>∃ k:Nat,i=.int .i64 (k:Int)∧k≤nt∧allB (atB s.ts (goodT nm s.ts)) k=true∧Below Y.heap.size Y wr) (fun i _=>nt - (intOf i).toNat)
           case atStart=>exact⟨0,rfl,Nat.zero_le _,rfl,HBY.out⟩
           case round=>
            generalize wr=w7 at *
            obtain⟨k,rfl,hk,hall,hbel⟩:=hrel
            clear HBY
            have HALL:=hQz hall
            have HBY:=hQz hbel
            have hsw:=hbel.size
            obtain⟨HM1,HE1,HT1,hbw,z0,z1,z2⟩:=HHY.out w7 hbel
            have HBW:=hQz hbw
            have hk0:(0:Int)≤(k:Int):=by omega
            have hwk:=wQz k (by omega)
            clear hall hbel hbw
            by_cases hkn:k<nt
            ·obtain⟨y,hy⟩:∃ y,s.ts[k]? = some y:=⟨_,List.getElem?_eq_getElem (by have:=HNT.out;omega)⟩
             obtain⟨g,o,c0,hsl,hg,e0,e1,e2,e3,e4⟩:=td_at HT1 (W:=w7) (fun b hb=>rfl) hy
             rw[HNT.out]at hsl
             obtain⟨ha,hc⟩:=slice_two hsl
             have z2s:=z2
             rw[ha]at z2
             have HHA:=hQz ha
             have hnl:=HFF.out.2.2.2.2 y (List.mem_of_getElem? hy)
             have HG:Hid (atB s.ts (goodT nm s.ts) k=(decide (y.id=(k:Int)+1)&&(plainL y.service&&(plainL y.name&&(!decide ((y.service,y.name)∈pairsT s.ts k)&&(inB nm y.inp&&inB nm y.out)))))):=atB_some hy
             have hk1:(k:Int)<(nt:Int):=by omega
             obtain⟨U,hU,hC,hCb,hUs⟩:=box_new w7 #[.int .i64 y.id,.string (mkB y.service),.string (mkB y.name),.int .i64 y.inp,.int .i64 y.out] 64
             have HU:=hQz hU
             have HBU:=hQz (HBY.out.trans (hCb.mono hsw))
             have HWU:=hQz (HBW.out.trans (hCb.mono HBW.out.size))
             have HUC:=hQz hC
             have l0:=cell_at hC 0 rfl
             have l1:=cell_at hC 1 rfl
             have hp1:=plainQ_any y.service U (tabs_below HTW.out HWU.out) (by omega)
             clear hsl hy hU hC hCb HM1 HE1 HT1 ha z2s
             go_upto_region 43 with fail
             rw[HU.out]
             clear e0 e1 e2 e3 e4 z0 z1 z2 hc
             by_cases hid:y.id=(k:Int)+1
             case neg=>
              have GB:atB s.ts (goodT nm s.ts) k=false:=by rw[HG.out];rw[decide_eq_false (by omega)];rfl
              go_wp2_with fail
              go_ret
              exact HNO.out _ HWU.out (HFT.out (allB_no GB (by omega)))
             rw[hid]at l0 HUC
             have HID:=hQz hid
             clear hid
             generalize plainL y.service=B1 at *
             go_wp2_with fail
             refine hp1.mono ?_
             rintro e U1 ⟨rfl,hb1⟩
             have HW1:=hQz (HWU.out.trans (hb1.mono HWU.out.size))
             have HB1:=hQz (HBU.out.trans (hb1.mono HBU.out.size))
             have h1c:=(hb1.block _ (by omega)).trans HUC.out
             have HUC1:=hQz h1c
             have hs1:=hb1.size
             have q2:=cell_at h1c 2 rfl
             clear hp1 hb1 l0 l1 h1c
             cases B1
             case false=>
              have GB:atB s.ts (goodT nm s.ts) k=false:=by rw[HG.out];simp
              go_wp2_with fail
              go_ret
              exact HNO.out _ HW1.out (HFT.out (allB_no GB (by omega)))
             have hp2:=plainQ_any y.name U1 (tabs_below HTW.out HW1.out) (by omega)
             generalize plainL y.name=B2 at *
             go_wp2_with fail
             refine hp2.mono ?_
             rintro e U2 ⟨rfl,hb2⟩
             have HW2:=hQz (HW1.out.trans (hb2.mono HW1.out.size))
             have HB2:=hQz (HB1.out.trans (hb2.mono HB1.out.size))
             have h2c:=(hb2.block _ (by omega)).trans HUC1.out
             have HUC2:=hQz h2c
             have hs2:=hb2.size
             have l3:=cell_at h2c 3 rfl
             have l4:=cell_at h2c 4 rfl
             obtain⟨_,_,_,_,z0,z1,z2⟩:=HHY.out U2 HB2.out
             clear hp2 hb2 q2 h2c z1 z2
             cases B2
             case false=>
              have GB:atB s.ts (goodT nm s.ts) k=false:=by rw[HG.out];simp
              go_wp2_with fail
              go_ret
              exact HNO.out _ HW2.out (HFT.out (allB_no GB (by omega)))
             by_cases c0:0≤y.inp
             case neg=>
              have c0':y.inp<0:=by omega
              have hib:inB nm y.inp=false:=decide_eq_false (by omega)
              have GB:atB s.ts (goodT nm s.ts) k=false:=by rw[HG.out];rw[hib];simp
              go_wp2_with fail
              go_ret
              exact HNO.out _ HW2.out (HFT.out (allB_no GB (by omega)))
             have c0':¬y.inp<0:=by omega
             by_cases c1:y.inp<(nm:Int)
             case neg=>
              have c1':(nm:Int)≤y.inp:=by omega
              have hib:inB nm y.inp=false:=decide_eq_false (by omega)
              have GB:atB s.ts (goodT nm s.ts) k=false:=by rw[HG.out];rw[hib];simp
              go_wp2_with fail
              go_ret
              exact HNO.out _ HW2.out (HFT.out (allB_no GB (by omega)))
             have c1':¬(nm:Int)≤y.inp:=by omega
             have hib:inB nm y.inp=true:=decide_eq_true ⟨c0,c1⟩
             rw[hib]at HG
             clear hib
             by_cases d0:0≤y.out
             case neg=>
              have d0':y.out<0:=by omega
              have hib:inB nm y.out=false:=decide_eq_false (by omega)
              have GB:atB s.ts (goodT nm s.ts) k=false:=by rw[HG.out];rw[hib];simp
              go_wp2_with fail
              go_ret
              exact HNO.out _ HW2.out (HFT.out (allB_no GB (by omega)))
             have d0':¬y.out<0:=by omega
             by_cases d1:y.out<(nm:Int)
             case neg=>
              have d1':(nm:Int)≤y.out:=by omega
              have hib:inB nm y.out=false:=decide_eq_false (by omega)
              have GB:atB s.ts (goodT nm s.ts) k=false:=by rw[HG.out];rw[hib];simp
              go_wp2_with fail
              go_ret
              exact HNO.out _ HW2.out (HFT.out (allB_no GB (by omega)))
             have d1':¬(nm:Int)≤y.out:=by omega
             have hib:inB nm y.out=true:=decide_eq_true ⟨d0,d1⟩
             rw[hib]at HG
             clear hib
             go_wp2_with fail
             clear z0 l3 l4 c0 c1 d0 d1 c0' c1' d0' d1'
             go_loopw [178] (fun i wr=>∃ j:Nat,i=.int .i64 (j:Int)∧j≤k∧(∀ (q:Nat) (x:TD),q<j→s.ts[q]? = some x→¬(x.service,x.name)=(y.service,y.name))∧Below U2.heap.size U2 wr) (fun i _=>k - (intOf i).toNat)
             case atStart=>exact⟨0,rfl,Nat.zero_le _,fun q x hq=>absurd hq (Nat.not_lt_zero _),Below.refl _ _⟩
             case round=>
              obtain⟨j,rfl,hj,hall,hbel⟩:=hrel
              have HA2:=hQz hall
              have HBJ:=hQz (HB2.out.trans (hbel.mono HB2.out.size))
              have hjc:=(hbel.block _ (by omega)).trans HUC2.out
              have HB3:=hQz hbel
              have l1:=cell_at hjc 1 rfl
              have l2:=cell_at hjc 2 rfl
              obtain⟨_,_,HTJ,hWJ,_,_,z2⟩:=HHY.out wr HBJ.out
              have HWJ:=hQz hWJ
              clear hall hbel hjc hWJ
              have hj0:(0:Int)≤(j:Int):=by omega
              have hwj:=wQz j (by omega)
              by_cases hjk:j<k
              ·obtain⟨x,hx⟩:∃ x,s.ts[j]? = some x:=⟨_,List.getElem?_eq_getElem (by have:=HNT.out;omega)⟩
               obtain⟨g2,o2,c2,hsl,hg2,f0,f1,f2,-,-⟩:=td_at HTJ (W:=wr) (fun b hb=>rfl) hx
               rw[HNT.out]at hsl
               obtain⟨ha2,hc2⟩:=slice_two hsl
               rw[ha2]at z2
               have hj1:(j:Int)<(k:Int):=by omega
               have hj2:(j:Int)<(nt:Int):=by omega
               have HM1:Hid (x.service=y.service→x.name=y.name→(y.service,y.name)∈pairsT s.ts k):=fun h1 h2=>by
                have:=mem_take (f:=fun t:TD=>(t.service,t.name)) hjk hx
                rw[h1,h2]at this
                exact this
               have HNX:Hid (¬(x.service,x.name)=(y.service,y.name)→∀ (q:Nat) (z:TD),q<j+1→s.ts[q]? = some z→¬(z.service,z.name)=(y.service,y.name)):=fun a=>allR_next HA2.out hx a
               have HTQ:Hid (∀ nq:Nat,Below U2.heap.size U2 (wr.drewN nq)):=fun nq=>HB3.out.trans ⟨rfl,rfl,rfl,Nat.le_refl _,fun _ _=>rfl⟩
               clear hsl hx hc2 ha2 HTJ f0
               by_cases t0:x.service=y.service
               case neg=>
                have t0':=mkBR_beq t0
                have t0'':=beq_eq_false_iff_ne.2 t0
                have HTE:=hQz (HNX.out fun h=>t0 (by simpa using congrArg Prod.fst h))
                clear HM1 HNX
                go_wp2_with fail
                go_quiet (fail)
                go_wp2_with fail
                go_roundw
                case rel=>exact⟨j+1,by go_num,by omega,HTE.out,HTQ.out _⟩
                case measure=>simp[intOf];omega
               rw[t0]at f1
               by_cases t1:x.name=y.name
               case neg=>
                have t1':=mkBR_beq t1
                have t1'':=beq_eq_false_iff_ne.2 t1
                have HTE:=hQz (HNX.out fun h=>t1 (by simpa using congrArg Prod.snd h))
                clear HM1 HNX t0
                go_wp2_with fail
                go_quiet (fail)
                go_wp2_with fail
                go_roundw
                case rel=>exact⟨j+1,by go_num,by omega,HTE.out,HTQ.out _⟩
                case measure=>simp[intOf];omega
               have hm:=HM1.out t0 t1
               rw[t1]at f2
               have GB:atB s.ts (goodT nm s.ts) k=false:=by rw[HG.out];simp[hm]
               clear HM1 HNX t0 t1 hm
               go_wp2_with fail
               go_quiet (fail)
               go_wp2_with fail
               go_ret
               exact HNO.out _ (HW2.out.trans ((HTQ.out _).mono HW2.out.size)) (HFT.out (allB_no GB (by omega)))
              ·have hjk':¬(j:Int)<(k:Int):=by omega
               have hn1:(y.service,y.name)∉pairsT s.ts k:=not_take (f:=fun t:TD=>(t.service,t.name)) fun q x hq hx=>HA2.out q x (by omega) hx
               have HOK:Hid (atB s.ts (goodT nm s.ts) k=true):=by
                refine(?_:_=_)
                rw[HG.out,decide_eq_false hn1,decide_eq_true HID.out];rfl
               clear hn1 l1 l2 z2 HTJ
               go_wp2_with fail
               go_roundw
               case rel=>exact⟨k+1,by go_num,by omega,allB_step HALL.out HOK.out,HBJ.out⟩
               case measure=>simp[intOf];omega
            ·have hkn':¬(k:Int)<(nt:Int):=by omega
             have hft:formT s.ms.length s.ts=true:=by
              have h:=HALL.out
              have hke:k=nt:=by omega
              rw[hke,←HNT.out]at h
              rw[HN.out];exact h
             rw[hft]at HFM
             clear hft HM1 HE1 HT1 z1 z2 HALL hk hkn hk0 hwk
             go_wp2_with fail
             clear z0
             go_loopw [206] (fun i wr=>∃ k:Nat,i=.int .i64 (k:Int)∧k≤nm∧(∀ j,j<k→¬Ring s.ms j)∧Below Y.heap.size Y wr) (fun i _=>nm - (intOf i).toNat)
             case atStart=>exact⟨0,rfl,Nat.zero_le _,fun j hj=>absurd hj (Nat.not_lt_zero _),HBY.out⟩
             case round=>
              generalize wr=w9 at *
              obtain⟨k,rfl,hk,hall,hbel⟩:=hrel
              clear HBY
              have HALL:=hQz hall
              have HBY:=hQz hbel
              obtain⟨HM1,HE1,HT1,hbw,z0,z1,z2⟩:=HHY.out w9 hbel
              have HBW:=hQz hbw
              have hk0:(0:Int)≤(k:Int):=by omega
              have hwk:=wQz k (by omega)
              clear hall hbel hbw
              by_cases hkn:k<nm
              ·have hc:=needsR_any ma ea ta nm ne nt mc ec tc s.ms k w9 HN.out HRF.out hkn HM1
               have hk1:(k:Int)<(nm:Int):=by omega
               clear HM1 HE1 HT1
               go_wp2_with fail
               refine hc.mono ?_
               rintro e U1 ⟨b,rfl,hbi,hb1⟩
               have HB1:=hQz (HBY.out.trans (hb1.mono HBY.out.size))
               have HW1:=hQz (HBW.out.trans (hb1.mono HBW.out.size))
               have HBI:=hQz hbi
               clear hc hb1 hbi z0 z1 z2
               cases b
               case true=>
                go_wp2_with fail
                go_ret
                exact⟨false,rfl,⟨(fun h=>by cases h),fun h=>absurd (HBI.out.1 (by simp)) (h.2 k (by have:=HN.out;omega))⟩,HW1.out⟩
               go_wp2_with fail
               go_roundw
               case rel=>
                refine⟨k+1,by go_num,by omega,fun j hj=>?_,HB1.out⟩
                by_cases hjk:j=k
                ·rw[hjk];intro h;exact absurd (HBI.out.2 h) (by simp)
                ·exact HALL.out j (by omega)
               case measure=>simp[intOf];omega
              ·have hkn':¬(k:Int)<(nm:Int):=by omega
               go_wp2_with fail
               go_ret
               exact⟨true,rfl,⟨fun _=>⟨HFM.out,fun i hi=>HALL.out i (by have:=HN.out;omega)⟩,fun _=>rfl⟩,HBW.out⟩
end Go.Proofs.YteajlfgbmefncaaGreatDoor
