/-
  Walks and plain words (FoQ).
-/
import Derived.Test.YteajlfgbmefncaaGreatDoorN25
import Derived.DeepKeys4
namespace Go.Proofs.YteajlfgbmefncaaGreatDoor
set_option linter.unusedVariables false
open Go.ChangeShapes Go.WideShapes Go.ChangeAt Go.RowKit Go.Maps Go.WideMaps

set_option maxHeartbeats 16000000 in
set_option maxRecDepth 20000 in
theorem msgsP_any (ma ea ta:Option Addr) (nm ne nt mc ec tc:Nat) (ms:List MD) (w:World) (hnm:ms.length=nm) (hf:nm≤100000∧∀ m∈ms,FitF m.fields) (hH:HeldM w (fun b=>b<w.heap.size) (.slice ma nm mc) ms) :
  Calls Tryz.prog 22 #[.agg #[.slice ma nm mc,.slice ea ne ec,.slice ta nt tc]] w fun e w'=>e=.returned (.bool (formM ne nm ms))∧Below w.heap.size w w':=by
 have HH:=hQz hH
 have HF:=hQz hf.2
 have hn0:=hf.1
 obtain⟨R,hR⟩:∃ r,formM ne nm ms=r:=⟨_,rfl⟩
 have HRT:Hid (allB (atB ms (goodM ne nm)) nm=R):=by
  refine(?_:_=_)
  rw[←hR,←hnm];rfl
 have HN:=hQz hnm
 rw[hR]
 obtain⟨Y,hY,hC,hb,hYs⟩:=box_new w #[.slice ma nm mc,.slice ea ne ec,.slice ta nt tc] 26
 have HY:=hQz hY
 have HYB:=hQz hb
 have HSC:=hQz hC
 have s0:=cell_at hC 0 rfl
 clear hH hf hnm hR hY hb hC
 go_enter Tryz.func22,Tryz.ntmps22
 go_upto_region 1 with fail
 rw[HY.out]
 go_wp2_with fail
 clear s0
 go_loopw [8] (fun i wr=>∃ k:Nat,i=.int .i64 (k:Int)∧k≤nm∧allB (atB ms (goodM ne nm)) k=true∧Below w.heap.size w wr∧wr.heap[w.heap.size]? = some (.cells #[.slice ma nm mc,.slice ea ne ec,.slice ta nt tc] 26 (0,0))) (fun i _=>nm - (intOf i).toNat)
 case atStart=>exact⟨0,rfl,Nat.zero_le _,rfl,HYB.out,HSC.out⟩
 case round=>
  generalize wr=w1 at *
  obtain⟨k,rfl,hk,hall,hbel,hsc⟩:=hrel
  have hsw:=hbel.size
  have hlt:=blk_lt hsc
  have HALL:=hQz hall
  have HB:=hQz hbel
  have HS:=hQz hsc
  clear hall hbel hsc HYB HSC
  by_cases hkn:k<nm
  ·obtain⟨y,hy⟩:∃ y,ms[k]? = some y:=⟨_,List.getElem?_eq_getElem (by have:=HN.out;omega)⟩
   obtain⟨g,o,c0,ka,kc,hsl,hg,e0,e1,hrow⟩:=HeldN.at HH.out (W:=w1) (fun b hb=>HB.out.block b hb) hy
   obtain⟨rfl,rfl⟩:=slice_two hsl
   have hfit:=HF.out y (List.mem_of_getElem? hy)
   have HG:Hid (atB ms (goodM ne nm) k=(decide (y.fields.length≤32)&&formF ne nm y.fields)):=atB_some hy
   have HNO:Hid (atB ms (goodM ne nm) k=false→R=false):=fun h=>by rw[←HRT.out];exact allB_no h (by omega)
   have hk0:(0:Int)≤(k:Int):=by omega
   have hk1:(k:Int)<(nm:Int):=by omega
   have hwk:=wQz k (by omega)
   obtain⟨U,hU,hC,hCb,hUs⟩:=box_new w1 #[.string (mkB y.name),.slice ka y.fields.length kc] 54
   have hS:=(hCb.block _ (by omega)).trans HS.out
   have HBU:=hQz (HB.out.trans (hCb.mono hsw))
   have hc:=fieldsP_any (some ⟨g,o,none⟩) ea ta nm ne nt mc ec tc y.fields _ U hfit ((hrow.old fun b hb=>hCb.block b (by have hb':b<w.heap.size:=hb;omega)).more fun b hb=>by have hb':b<w.heap.size:=hb;omega)
   have hfl:=hfit.1
   obtain⟨nf,hnf⟩:∃ n,y.fields.length=n:=⟨_,rfl⟩
   rw[hnf]at e1 hU hC HG hc hfl
   have HU:=hQz hU
   have HUS:=hQz hS
   have l1:=cell_at hC 1 rfl
   have s0:=cell_at hS 0 rfl
   have s1:=cell_at hS 1 rfl
   have s2:=cell_at hS 2 rfl
   clear hsl hy hfit hU hC hCb hS hrow hnf
   generalize formF ne nm y.fields=B1 at *
   go_upto_region 4 with fail
   rw[HU.out]
   clear e0 e1
   by_cases h1:nf≤32
   case neg=>
    have h1':(32:Int)<(nf:Int):=by omega
    go_wp2_with fail
    go_ret
    exact⟨retB (HNO.out (by rw[HG.out];rw[decide_eq_false (by omega)];rfl)).symm,HBU.out⟩
   have h1':¬(32:Int)<(nf:Int):=by omega
   go_wp2_with fail
   refine hc.mono ?_
   rintro e U1 ⟨rfl,hb1⟩
   have HB1:=hQz (HBU.out.trans (hb1.mono HBU.out.size))
   have HS1:=hQz ((hb1.block _ (by omega)).trans HUS.out)
   clear hc l1 s0 s1 s2 hb1
   cases B1
   case false=>
    go_wp2_with fail
    go_ret
    exact⟨retB (HNO.out (by rw[HG.out];simp)).symm,HB1.out⟩
   go_wp2_with fail
   go_roundw
   case rel=>exact⟨k+1,by go_num,by omega,allB_step HALL.out (by rw[HG.out,decide_eq_true (by omega)];rfl),HB1.out,HS1.out⟩
   case measure=>simp[intOf];omega
  ·have hkn':¬(k:Int)<(nm:Int):=by omega
   have hke:k=nm:=by omega
   have HRR:Hid (R=true):=by
    refine(?_:_=_)
    have h:=HALL.out
    rw[hke]at h
    rw[←HRT.out];exact h
   clear hke
   go_wp2_with fail
   go_ret
   exact⟨retB HRR.out.symm,HB.out⟩
def FitV (vs:List VD):Prop:=vs.length≤100000∧∀ f∈vs,f.name.length≤100000
set_option maxHeartbeats 16000000 in
set_option maxRecDepth 20000 in
theorem valuesP_any (vs:List VD) (v:Value) (w:World) (hf:FitV vs) (hH:RowsIn w (fun b=>b<w.heap.size) 2 vdrow v vs) :
  Calls Tryz.prog 47 #[v] w fun e w'=>e=.returned (.bool (formV vs))∧Below w.heap.size w w':=by
 have HH:=hQz hH
 obtain⟨ad,cc,rfl⟩:=hH.isSl
 have HF:=hQz hf
 have hn0:=hf.1
 obtain⟨R,hR⟩:∃ r,formV vs=r:=⟨_,rfl⟩
 have hRT:allB (atB vs (goodV vs)) vs.length=R:=hR
 obtain⟨n,hn⟩:∃ n,vs.length=n:=⟨_,rfl⟩
 have HN:=hQz hn
 rw[hR]
 rw[hn]at hn0 hRT ⊢
 have HRT:=hQz hRT
 obtain⟨Y,hY,hC,hb,hYs⟩:=map_new w
 obtain⟨V,hV,hM,hVb,hVs⟩:=map_new Y
 have HY:=hQz hY
 have HV:=hQz hV
 have HVB:=hQz (hb.trans (hVb.mono hb.size))
 rw[hYs]at hM hVb hVs
 have HS1:Hid (IsSet 9 litS V w.heap.size ([]:List (List UInt8))):=isSet_made _ _ ((hVb.block _ (by omega)).trans hC)
 have HS2:Hid (IsSet 3 litI V (w.heap.size+1) ([]:List Int)):=isSet_made _ _ hM
 have hmm:=@run_makeMap Tryz.prog
 clear hH hf hn hR hRT hY hV hC hb hM hVb hYs hVs
 go_enter Tryz.func47,Tryz.ntmps47
 go_upto_region 2 with fail
 rw[HY.out,HV.out]
 clear hmm
 go_wp2_with fail
 go_loopw [11] (fun i wr=>∃ k:Nat,i=.int .i64 (k:Int)∧k≤n∧allB (atB vs (goodV vs)) k=true∧Below w.heap.size w wr∧IsSet 9 litS wr w.heap.size (namesV vs k)∧IsSet 3 litI wr (w.heap.size+1) (numsV vs k)) (fun i _=>n - (intOf i).toNat)
 case atStart=>exact⟨0,rfl,Nat.zero_le _,rfl,HVB.out,HS1.out,HS2.out⟩
 case round=>
  generalize wr=w1 at *
  obtain⟨k,rfl,hk,hall,hbel,hs1,hs2⟩:=hrel
  have hsw:=hbel.size
  have hl1:=hs1.lt
  have hl2:=hs2.lt
  clear HS1 HS2
  have HALL:=hQz hall
  have HB:=hQz hbel
  have HS1:=hQz hs1
  have HS2:=hQz hs2
  clear hall hbel hs1 hs2 HVB
  by_cases hkn:k<n
  ·obtain⟨y,hy⟩:∃ y,vs[k]? = some y:=⟨_,List.getElem?_eq_getElem (by have:=HN.out;omega)⟩
   obtain⟨g,o,c0,hsl,hg,e0,e1⟩:=vd_at HH.out (W:=w1) (fun b hb=>HB.out.block b hb) hy
   rw[HN.out]at hsl
   obtain⟨rfl,rfl⟩:=slice_two hsl
   have hnl:=HF.out.2 y (List.mem_of_getElem? hy)
   have HNX:=hQz (namesV_step hy)
   have HMX:=hQz (numsV_step hy)
   have hkl:=namesV_len vs k
   have hml:=numsV_len vs k
   have HG:Hid (atB vs (goodV vs) k=(numOK y.num&&(!decide (y.num∈numsV vs k)&&(plainL y.name&&!decide (y.name∈namesV vs k))))):=atB_some hy
   have HNO:Hid (atB vs (goodV vs) k=false→R=false):=fun h=>by rw[←HRT.out];exact allB_no h (by omega)
   have hk0:(0:Int)≤(k:Int):=by omega
   have hk1:(k:Int)<(n:Int):=by omega
   have hwk:=wQz k (by omega)
   obtain⟨KS,hKS⟩:∃ K,namesV vs k=K:=⟨_,rfl⟩
   obtain⟨MS,hMS⟩:∃ K,numsV vs k=K:=⟨_,rfl⟩
   rw[hKS]at HS1 HNX hkl HG
   rw[hMS]at HS2 HMX hml HG
   obtain⟨U,hU,hC,hCb,hUs⟩:=box_new w1 #[.string (mkB y.name),.int .i64 y.num] 62
   have HU:=hQz hU
   clear hsl hy hKS hMS hU
   go_upto_region 5 with fail
   rw[HU.out]
   have l1:=cell_at hC 1 rfl
   have HBU:=hQz (HB.out.trans (hCb.mono hsw))
   have HUC:=hQz hC
   have hus1:=HS1.out.old (hCb.block _ hl1)
   have hus2:=HS2.out.old (hCb.block _ hl2)
   clear hC hCb e0 e1 HS1 HS2
   by_cases h0:0≤y.num
   case neg=>
    have h0':y.num<0:=by omega
    go_wp2_with fail
    go_ret
    exact⟨retB (HNO.out (by rw[HG.out];unfold numOK;rw[decide_eq_false (by omega)];rfl)).symm,HBU.out⟩
   by_cases h1:y.num≤2147483647
   case neg=>
    have h0':¬y.num<0:=by omega
    have h1':2147483647<y.num:=by omega
    go_wp2_with fail
    go_ret
    exact⟨retB (HNO.out (by rw[HG.out];unfold numOK;rw[decide_eq_false (by omega)];rfl)).symm,HBU.out⟩
   have h0':¬y.num<0:=by omega
   have h1':¬2147483647<y.num:=by omega
   have hnum:numOK y.num=true:=by unfold numOK;exact decide_eq_true (by omega)
   rw[hnum]at HG
   have hadd:=addI_any (w.heap.size+1) MS y.num U hus2 (num_wf hnum) (by omega)
   obtain⟨B1,hB1⟩:∃ b,(!decide (y.num∈MS))=b:=⟨_,rfl⟩
   rw[hB1]at hadd HG
   clear hB1 hus2 hnum
   go_wp2_with fail
   refine hadd.mono ?_
   rintro e U1 ⟨rfl,hset,hgr⟩
   have HB1:=hQz (HBU.out.grown hgr HBU.out.size (fun b hb=>by cases hb;omega))
   have h1c:=(hgr.block _ (by omega) (by simp;omega)).trans HUC.out
   have h1n:=hus1.old (hgr.block _ (by omega) (by simp))
   have HSM:=hQz hset
   have hs1:=hgr.size
   have hl3:=hset.lt
   clear hadd hset hgr l1 hus1
   cases B1
   case false=>
    go_wp2_with fail
    go_ret
    exact⟨retB (HNO.out (by rw[HG.out];simp)).symm,HB1.out⟩
   have l0:=cell_at h1c 0 rfl
   have hpl:=nameS_any y.name U1 (by omega)
   generalize plainL y.name=B2 at *
   go_wp2_with fail
   refine hpl.mono ?_
   rintro e U2 ⟨rfl,hb2⟩
   have HB2:=hQz (HB1.out.trans (hb2.mono HB1.out.size))
   clear hpl
   cases B2
   case false=>
    go_wp2_with fail
    go_ret
    exact⟨retB (HNO.out (by rw[HG.out];simp)).symm,HB2.out⟩
   have q0:U2.cell? ⟨w1.heap.size,0,none⟩=some (.string (mkB y.name)):=(hb2.cell (by simp;omega)).trans l0
   have hs2:=hb2.size
   have hadd:=addS_any w.heap.size KS y.name U2 (h1n.old (hb2.block _ (by omega))) (by omega) (by omega)
   have HSM2:=hQz (HSM.out.old (hb2.block _ (by omega)))
   obtain⟨B3,hB3⟩:∃ b,(!decide (y.name∈KS))=b:=⟨_,rfl⟩
   rw[hB3]at hadd HG
   clear hB3 hb2 l0 h1c h1n HSM
   go_wp2_with fail
   refine hadd.mono ?_
   rintro e U3 ⟨rfl,hset,hgr⟩
   have HB3:=hQz (HB2.out.grown hgr HB2.out.size (fun b hb=>by cases hb;omega))
   have HSM3:=hQz (HSM2.out.old (hgr.block _ (by omega) (by simp)))
   have HSN3:=hQz hset
   clear hadd hset hgr q0 HSM2
   cases B3
   case false=>
    go_wp2_with fail
    go_ret
    exact⟨retB (HNO.out (by rw[HG.out];simp)).symm,HB3.out⟩
   go_wp2_with fail
   go_roundw
   case rel=>exact⟨k+1,by go_num,by omega,allB_step HALL.out (by rw[HG.out];rfl),HB3.out,by rw[HNX.out];exact HSN3.out,by rw[HMX.out];exact HSM3.out⟩
   case measure=>simp[intOf];omega
  ·have hkn':¬(k:Int)<(n:Int):=by omega
   have hke:k=n:=by omega
   have HRR:Hid (R=true):=by
    refine(?_:_=_)
    have h:=HALL.out
    rw[hke]at h
    rw[←HRT.out];exact h
   clear hke
   go_wp2_with fail
   go_ret
   exact⟨retB HRR.out.symm,HB.out⟩
set_option maxHeartbeats 16000000 in
set_option maxRecDepth 20000 in
theorem enumsP_any (es:List ED) (v:Value) (w:World) (hf:es.length≤100000∧∀ m∈es,FitV m.values) (hH:HeldE w (fun b=>b<w.heap.size) v es) :
  Calls Tryz.prog 23 #[v] w fun e w'=>e=.returned (.bool (formE es))∧Below w.heap.size w w':=by
 have HH:=hQz hH
 obtain⟨ad,cc,rfl⟩:=HeldN.isSl hH
 have HF:=hQz hf.2
 have hn0:=hf.1
 obtain⟨R,hR⟩:∃ r,formE es=r:=⟨_,rfl⟩
 have hRT:allB (atB es goodE) es.length=R:=hR
 obtain⟨n,hn⟩:∃ n,es.length=n:=⟨_,rfl⟩
 have HN:=hQz hn
 rw[hR]
 rw[hn]at hn0 hRT ⊢
 have HRT:=hQz hRT
 clear hH hf hn hR hRT
 go_enter Tryz.func23,Tryz.ntmps23
 go_wp2_with fail
 go_loopw [7] (fun i wr=>∃ k:Nat,i=.int .i64 (k:Int)∧k≤n∧allB (atB es goodE) k=true∧Below w.heap.size w wr) (fun i _=>n - (intOf i).toNat)
 case atStart=>exact⟨0,rfl,Nat.zero_le _,rfl,Below.refl _ _⟩
 case round=>
  generalize wr=w1 at *
  obtain⟨k,rfl,hk,hall,hbel⟩:=hrel
  have hsw:=hbel.size
  have HALL:=hQz hall
  have HB:=hQz hbel
  clear hall hbel
  by_cases hkn:k<n
  ·obtain⟨y,hy⟩:∃ y,es[k]? = some y:=⟨_,List.getElem?_eq_getElem (by have:=HN.out;omega)⟩
   obtain⟨g,o,c0,ka,kc,hsl,hg,e0,e1,hrow⟩:=HeldN.at HH.out (W:=w1) (fun b hb=>HB.out.block b hb) hy
   rw[HN.out]at hsl
   obtain⟨rfl,rfl⟩:=slice_two hsl
   have hfit:=HF.out y (List.mem_of_getElem? hy)
   have HG:Hid (atB es goodE k=(zeroV y.values&&formV y.values)):=atB_some hy
   have HNO:Hid (atB es goodE k=false→R=false):=fun h=>by rw[←HRT.out];exact allB_no h (by omega)
   have hk0:(0:Int)≤(k:Int):=by omega
   have hk1:(k:Int)<(n:Int):=by omega
   have hwk:=wQz k (by omega)
   obtain⟨U,hU,hC,hCb,hUs⟩:=box_new w1 #[.string (mkB y.name),.slice ka y.values.length kc] 60
   have HBU:=hQz (HB.out.trans (hCb.mono hsw))
   have hrU:=(hrow.old fun b hb=>hCb.block b (by have hb':b<w.heap.size:=hb;omega)).more (S':=fun b=>b<U.heap.size) fun b hb=>by have hb':b<w.heap.size:=hb;omega
   have hc:=valuesP_any y.values _ U hfit hrU
   obtain⟨nv,hnv⟩:∃ n,y.values.length=n:=⟨_,rfl⟩
   have HRU:=hQz hrU
   have HNV:=hQz hnv
   rw[hnv]at e1 hU hC hc HRU
   have HU:=hQz hU
   have l1:=cell_at hC 1 rfl
   clear hsl hy hfit hU hC hCb hrow hrU hnv
   generalize formV y.values=B1 at *
   go_upto_region 4 with fail
   rw[HU.out]
   clear e0 e1
   by_cases h0:nv=0
   ·have hz:zeroV y.values=false:=by
     have h1:y.values=[]:=List.length_eq_zero_iff.1 (by rw[HNV.out];exact h0)
     rw[h1];rfl
    rw[hz]at HG
    subst h0
    clear hc HNV HRU hz
    go_wp2_with fail
    go_ret
    exact⟨retB (HNO.out (by rw[HG.out];rfl)).symm,HBU.out⟩
   ·obtain⟨v0,hv0⟩:∃ v,y.values[0]? = some v:=⟨_,List.getElem?_eq_getElem (by have:=HNV.out;omega)⟩
    obtain⟨g2,o2,c2,hsl,hg2,f0,f1⟩:=vd_at HRU.out (W:=U) (fun b hb=>rfl) hv0
    rw[HNV.out]at hsl
    obtain⟨rfl,rfl⟩:=slice_two hsl
    rw[Nat.zero_mul,Nat.add_zero]at f1
    have hz:zeroV y.values=decide (v0.num=0):=by unfold zeroV;rw[hv0]
    rw[hz]at HG
    have h0':¬(nv:Int)=0:=by omega
    have h0p:(0:Int)<(nv:Int):=by omega
    clear hsl hv0 hz HNV HRU f0
    generalize v0.num=z at *
    by_cases hz0:z=0
    case neg=>
     go_wp2_with fail
     go_ret
     exact⟨retB (HNO.out (by rw[HG.out,decide_eq_false (by omega)];rfl)).symm,HBU.out⟩
    subst hz0
    go_wp2_with fail
    refine hc.mono ?_
    rintro e U1 ⟨rfl,hb1⟩
    have HB1:=hQz (HBU.out.trans (hb1.mono HBU.out.size))
    clear hc l1 f1 hb1
    cases B1
    case false=>
     go_wp2_with fail
     go_ret
     exact⟨retB (HNO.out (by rw[HG.out];simp)).symm,HB1.out⟩
    go_wp2_with fail
    go_roundw
    case rel=>exact⟨k+1,by go_num,by omega,allB_step HALL.out (by rw[HG.out];simp),HB1.out⟩
    case measure=>simp[intOf];omega
  ·have hkn':¬(k:Int)<(n:Int):=by omega
   have hke:k=n:=by omega
   have HRR:Hid (R=true):=by
    refine(?_:_=_)
    have h:=HALL.out
    rw[hke]at h
    rw[←HRT.out];exact h
   clear hke
   go_wp2_with fail
   go_ret
   exact⟨retB HRR.out.symm,HB.out⟩
def AnyAns (ms:List MD) (w:World) (e:Ending) (w':World):Prop:=∃ b,e=.returned (.bool b)∧(b=true↔∃ i,i<ms.length∧Ring ms i)∧Below w.heap.size w w'
set_option maxHeartbeats 16000000 in
set_option maxRecDepth 20000 in
theorem anyP_any (ms:List MD) (v:Value) (w:World) (hf:RingFit ms) (hH:HeldM w (fun b=>b<w.heap.size) v ms) :
  Calls Tryz.prog 25 #[v] w fun e w'=>AnyAns ms w e w':=by
 have HH:=hQz hH
 obtain⟨ad,cc,rfl⟩:=HeldN.isSl hH
 have HF:=hQz hf
 have hn0:=hf.1
 obtain⟨n,hn⟩:∃ n,ms.length=n:=⟨_,rfl⟩
 have HN:=hQz hn
 rw[hn]at hn0 ⊢
 rw[hn]at HH
 clear hH hf hn
 go_enter Tryz.func25,Tryz.ntmps25
 go_wp2_with fail
 go_loopw [6] (fun i wr=>∃ k:Nat,i=.int .i64 (k:Int)∧k≤n∧(∀ j,j<k→¬Ring ms j)∧Below w.heap.size w wr) (fun i _=>n - (intOf i).toNat)
 case atStart=>exact⟨0,rfl,Nat.zero_le _,fun j hj=>absurd hj (Nat.not_lt_zero _),Below.refl _ _⟩
 case round=>
  generalize wr=w1 at *
  obtain⟨k,rfl,hk,hall,hbel⟩:=hrel
  have hsw:=hbel.size
  have HALL:=hQz hall
  have HB:=hQz hbel
  clear hall hbel
  by_cases hkn:k<n
  ·have hc:=ringP_any ms (.slice ad n cc) k w1 HF.out (by have:=HN.out;omega) ((HeldN.old HH.out fun b hb=>HB.out.block b hb).more fun b hb=>by have hb':b<w.heap.size:=hb;omega)
   have hk0:(0:Int)≤(k:Int):=by omega
   have hk1:(k:Int)<(n:Int):=by omega
   have hwk:=wQz k (by omega)
   go_wp2_with fail
   refine hc.mono ?_
   rintro e U1 ⟨b,rfl,hbi,hb1⟩
   have HB1:=hQz (HB.out.trans (hb1.mono HB.out.size))
   have HBI:=hQz hbi
   clear hc hb1 hbi
   cases b
   case true=>
    go_wp2_with fail
    go_ret
    exact⟨true,rfl,⟨fun _=>⟨k,by have:=HN.out;omega,HBI.out.1 (by simp)⟩,fun _=>rfl⟩,HB1.out⟩
   go_wp2_with fail
   go_roundw
   case rel=>
    refine⟨k+1,by go_num,by omega,fun j hj=>?_,HB1.out⟩
    by_cases hjk:j=k
    ·rw[hjk];intro h;exact absurd (HBI.out.2 h) (by simp)
    ·exact HALL.out j (by omega)
   case measure=>simp[intOf];omega
  ·have hkn':¬(k:Int)<(n:Int):=by omega
   go_wp2_with fail
   go_ret
   exact⟨false,rfl,⟨(fun h=>by cases h),fun ⟨i,hi,hr⟩=>absurd hr (HALL.out i (by have:=HN.out;omega))⟩,HB.out⟩
end Go.Proofs.YteajlfgbmefncaaGreatDoor
