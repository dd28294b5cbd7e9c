/-
  Walks and plain words (SkU FoP SkR).
-/
import Derived.Test.YteajlfgbmefncaaGreatDoorN6
import Derived.Test.YteajlfgbmefncaaGreatDoorN1
import Derived.Test.YteajlfgbmefncaaGreatDoorN12
import Derived.Test.YteajlfgbmefncaaGreatDoorN0
import Derived.Test.YteajlfgbmefncaaGreatDoorN5
import Derived.Lib.ItoaMem
import Derived.Lib.ItoaLen
import Derived.Deep.RegionWith
import Derived.Deep.RegionHeldLaw
import Derived.Deep.RegionLaw
import Derived.Deep.OwnRows
namespace Go.Proofs.YteajlfgbmefncaaGreatDoor
set_option linter.unusedVariables false
open Go.ChangeShapes Go.WideShapes Go.ChangeAt Go.RowKit Go.Maps

theorem fnP_any (n:Int) (w:World):Calls Tryz.prog 73 #[.int .i64 n] w fun e w'=>e=.returned (.bool (fnOK n))∧w'=w:=by
 obtain⟨R,hR⟩:∃ r,fnOK n=r:=⟨_,rfl⟩
 have HR:=hQz hR
 rw[hR]
 clear hR
 by_cases h1:(1:Int)≤n
 ·by_cases h2:n≤536870911
  ·by_cases h3:n<19000
   ·have HT:Hid (R=true):=by
     refine(?_:_=_)
     rw[←HR.out];unfold fnOK;simp;omega
    go_enter Tryz.func73,Tryz.ntmps73
    go_wp2_with fail
    go_ret
    exact⟨by rw[HT.out];rfl,rfl⟩
   ·by_cases h4:19999<n
    ·have HT:Hid (R=true):=by
      refine(?_:_=_)
      rw[←HR.out];unfold fnOK;simp;omega
     go_enter Tryz.func73,Tryz.ntmps73
     go_wp2_with fail
     go_ret
     exact⟨by rw[HT.out];rfl,rfl⟩
    ·have HT:Hid (R=false):=by
      refine(?_:_=_)
      rw[←HR.out];unfold fnOK;simp;omega
     go_enter Tryz.func73,Tryz.ntmps73
     go_wp2_with fail
     go_ret
     exact⟨by rw[HT.out];rfl,rfl⟩
  ·have HT:Hid (R=false):=by
    refine(?_:_=_)
    rw[←HR.out];unfold fnOK;simp;omega
   go_enter Tryz.func73,Tryz.ntmps73
   go_wp2_with fail
   go_ret
   exact⟨by rw[HT.out];rfl,rfl⟩
 ·have HT:Hid (R=false):=by
   refine(?_:_=_)
   rw[←HR.out];unfold fnOK;simp;omega
  go_enter Tryz.func73,Tryz.ntmps73
  go_wp2_with fail
  go_ret
  exact⟨by rw[HT.out];rfl,rfl⟩
theorem num_wf {n:Int} (h:numOK n=true):(Lit.int .i64 n).wf=true:=by
 unfold numOK at h
 rw[decide_eq_true_iff]at h
 exact WalkArith.wf_i64 (by omega)
set_option maxHeartbeats 2000000 in
theorem nameS_any (l:List UInt8) (w:World) (hl:l.length≤200000000) :
  Calls Tryz.prog 48 #[.string (mkB l)] w fun e w'=>e=.returned (.bool (plainL l))∧Below w.heap.size w w':=by
 have hN:=fun W=>name_any (mkB l) W (by rw[mkB_size];omega)
 have hR:=fun W=>reservedD_any (mkB l) W
 rw[mkB_list]at hR
 have HP:Hid (plainL l=(nameOf (runes (mkB l))&&!resOf l)):=rfl
 generalize plainL l=P at *
 generalize nameOf (runes (mkB l))=a at *
 generalize resOf l=c at *
 go_enter Tryz.func48,Tryz.ntmps48
 cases a with
 | false=>
  go_wp2_with fail
  refine(hN _).mono ?_
  rintro e w1 ⟨rfl,hb⟩
  clear hN hR
  go_wp2_with fail
  go_ret
  exact⟨retB (by rw[HP.out];rfl),hb⟩
 | true=>
  go_wp2_with fail
  refine(hN _).mono ?_
  rintro e w1 ⟨rfl,hb⟩
  go_wp2_with fail
  refine(hR _).mono ?_
  rintro e w2 ⟨rfl,rfl⟩
  clear hN hR
  go_wp2_with fail
  go_ret
  exact⟨retB (by rw[HP.out];cases c <;> rfl),hb⟩
set_option maxHeartbeats 1000000 in
theorem pathS0_any (s:ByteArray) (w:World) (hs:s.size≤200000000) :
  Calls Tryz.prog 44 #[.string s] w fun e w'=>e=.returned (.bool (pathOK s.data.toList))∧Below w.heap.size w w':=by
 have hP:=path_any s w hs
 have hq:=pathOK_pieces s
 obtain⟨R,hR⟩:∃ R,pathOK s.data.toList=R:=⟨_,rfl⟩
 rw[hR]at hq ⊢
 have HQ:Hid (∀ e w',PathAns s e w'→∃ ad n c,e=.returned (.tuple #[.slice ad n c,.bool R])):=by
  intro e w' h
  unfold PathAns at h
  split at h
  ·rename_i hc
   obtain⟨g,c,he,_⟩:=h
   have:R=true:=by rw[hq,hc.2,decide_eq_true hc.1];rfl
   rw[this]
   exact⟨_,_,_,he⟩
  ·rename_i hc
   have:R=false:=by
    rw[hq]
    by_cases h8:(pieces s).length≤8
    ·have:allPlain s=false:=by
      cases hz:allPlain s with
      | false=>rfl
      | true=>exact absurd ⟨h8,hz⟩ hc
     rw[this];simp
    ·rw[decide_eq_false h8];rfl
   rw[this]
   exact⟨_,_,_,h⟩
 clear hq hR
 go_enter Tryz.func44,Tryz.ntmps44
 go_wp2_with fail
 refine hP.mono ?_
 rintro e w1 ⟨hA,hb⟩
 obtain⟨ad,n,c,rfl⟩:=HQ.out e w1 hA
 clear hP hA HQ
 go_wp2_with fail
 go_ret
 exact⟨rfl,hb⟩
theorem pathS_any (l:List UInt8) (w:World) (hl:l.length≤200000000) :
  Calls Tryz.prog 44 #[.string (mkB l)] w fun e w'=>e=.returned (.bool (pathOK l))∧Below w.heap.size w w':=by
 have:=pathS0_any (mkB l) w (by rw[mkB_size];exact hl)
 rw[show (mkB l).data.toList=l from rfl]at this
 exact this
set_option maxHeartbeats 4000000 in
theorem msgNumP_any (ma ea ta:Option Addr) (nm ne nt mc ec tc:Nat) (n:Int) (w:World) :
  Calls Tryz.prog 50 #[.agg #[.slice ma nm mc,.slice ea ne ec,.slice ta nt tc],.int .i64 n] w fun e w'=>e=.returned (.bool (inB nm n))∧Below w.heap.size w w':=by
 obtain⟨R,hR⟩:∃ r,inB nm n=r:=⟨_,rfl⟩
 have HR:=hQz hR
 rw[hR]
 obtain⟨Y,hY,hC,hb,-⟩:=box_new w #[.slice ma nm mc,.slice ea ne ec,.slice ta nt tc] 26
 have HY:=hQz hY
 have HB:=hQz hb
 have l0:=cell_at hC 0 rfl
 clear hY hb hC hR
 go_enter Tryz.func50,Tryz.ntmps50
 go_upto_region 1 with fail
 rw[HY.out]
 by_cases h0:0≤n
 ·by_cases h1:n<(nm:Int)
  ·go_wp2_with fail
   go_ret
   exact⟨retB (by rw[←HR.out];unfold inB;exact(decide_eq_true (by omega)).symm),HB.out⟩
  ·go_wp2_with fail
   go_ret
   exact⟨retB (by rw[←HR.out];unfold inB;exact(decide_eq_false (by omega)).symm),HB.out⟩
 ·go_wp2_with fail
  go_ret
  exact⟨retB (by rw[←HR.out];unfold inB;exact(decide_eq_false (by omega)).symm),HB.out⟩
set_option maxHeartbeats 8000000 in
theorem typeP_any (ma ea ta:Option Addr) (nm ne nt mc ec tc:Nat) (y:FD) (w:World) :
  Calls Tryz.prog 74 #[.agg #[.slice ma nm mc,.slice ea ne ec,.slice ta nt tc],.agg #[.int .i64 y.num,.string (mkB y.name),.int .i64 y.kind,.bool y.rep,.int .i64 y.type]] w fun e w'=>e=.returned (.bool (typB ne nm y))∧Below w.heap.size w w':=by
 obtain⟨R,hR⟩:∃ r,typB ne nm y=r:=⟨_,rfl⟩
 unfold typB at hR
 have HR:=hQz hR
 obtain⟨Y,hY,hC,hb,hYs⟩:=box_new w #[.slice ma nm mc,.slice ea ne ec,.slice ta nt tc] 26
 obtain⟨V,hV,hD,hVb,hVs⟩:=box_new Y #[.int .i64 y.num,.string (mkB y.name),.int .i64 y.kind,.bool y.rep,.int .i64 y.type] 51
 rw[show typB ne nm y=R from hR]
 have HY:=hQz hY
 have HV:=hQz hV
 have HB:=hQz (hb.trans (hVb.mono hb.size))
 rw[hYs]at hD hVb hVs
 have hC2:=(hVb.block _ (by omega)).trans hC
 have s0:=cell_at hC2 0 rfl
 have s1:=cell_at hC2 1 rfl
 have s2:=cell_at hC2 2 rfl
 have l2:=cell_at hD 2 rfl
 have l4:=cell_at hD 4 rfl
 have hM:=msgNumP_any ma ea ta nm ne nt mc ec tc y.type V
 clear hY hV hC hC2 hD hb hVb hYs hR hVs
 go_enter Tryz.func74,Tryz.ntmps74
 go_upto_region 1 with fail
 rw[HY.out,HV.out]
 generalize y.kind=kd at *
 generalize y.type=ty at *
 by_cases h9:kd=9
 ·subst h9
  rw[if_pos rfl]at HR
  by_cases h0:0≤ty
  ·by_cases h1:ty<(ne:Int)
   ·go_wp2_with fail
    go_ret
    exact⟨retB (by rw[←HR.out];exact(decide_eq_true (by omega)).symm),HB.out⟩
   ·go_wp2_with fail
    go_ret
    exact⟨retB (by rw[←HR.out];exact(decide_eq_false (by omega)).symm),HB.out⟩
  ·go_wp2_with fail
   go_ret
   exact⟨retB (by rw[←HR.out];exact(decide_eq_false (by omega)).symm),HB.out⟩
 ·rw[if_neg h9]at HR
  by_cases h10:kd=10
  ·subst h10
   rw[if_pos rfl]at HR
   clear h9
   go_wp2_with fail
   refine hM.mono ?_
   rintro e W ⟨rfl,hbw⟩
   go_wp2_with fail
   go_ret
   exact⟨retB (by rw[←HR.out];rfl),HB.out.trans (hbw.mono HB.out.size)⟩
  ·rw[if_neg h10]at HR
   by_cases h1:1≤kd
   ·by_cases h8:kd≤8
    ·by_cases ht:ty=0
     ·subst ht
      go_wp2_with fail
      go_ret
      exact⟨retB (by rw[←HR.out];exact(decide_eq_true ⟨by omega,by omega,trivial⟩).symm),HB.out⟩
     ·go_wp2_with fail
      go_ret
      exact⟨retB (by rw[←HR.out,decide_eq_false (show ¬(1≤kd∧kd≤8∧ty=0)by omega)];exact beq_eq_false_iff_ne.2 ht),HB.out⟩
    ·go_wp2_with fail
     go_ret
     exact⟨retB (by rw[←HR.out];exact(decide_eq_false (by omega)).symm),HB.out⟩
   ·go_wp2_with fail
    go_ret
    exact⟨retB (by rw[←HR.out];exact(decide_eq_false (by omega)).symm),HB.out⟩
def FitF (fs:List FD):Prop:=fs.length≤100000∧∀ f∈fs,f.name.length≤100000
set_option maxHeartbeats 16000000 in
set_option maxRecDepth 20000 in
theorem fieldsP_any (ma ea ta:Option Addr) (nm ne nt mc ec tc:Nat) (fs:List FD) (v:Value) (w:World) (hf:FitF fs) (hH:RowsIn w (fun b=>b<w.heap.size) 5 fdrow v fs) :
  Calls Tryz.prog 46 #[.agg #[.slice ma nm mc,.slice ea ne ec,.slice ta nt tc],v] w fun e w'=>e=.returned (.bool (formF ne nm fs))∧Below w.heap.size w w':=by
 have HH:=hQz hH
 obtain⟨ad,cc,rfl⟩:=hH.isSl
 have HF:=hQz hf
 have hn0:=hf.1
 obtain⟨R,hR⟩:∃ r,formF ne nm fs=r:=⟨_,rfl⟩
 have hRT:allB (atB fs (goodF ne nm fs)) fs.length=R:=hR
 obtain⟨n,hn⟩:∃ n,fs.length=n:=⟨_,rfl⟩
 have HN:=hQz hn
 rw[hR]
 rw[hn]at hn0 hRT ⊢
 have HRT:=hQz hRT
 obtain⟨Y,hY,hC,hb,hYs⟩:=box_new w #[.slice ma nm mc,.slice ea ne ec,.slice ta nt tc] 26
 obtain⟨V,hV,hM,hVb,hVs⟩:=map_new Y
 have HY:=hQz hY
 have HV:=hQz hV
 have HVB:=hQz (hb.trans (hVb.mono hb.size))
 rw[hYs]at hM hVb hVs
 have HSC:=hQz ((hVb.block _ (by omega)).trans hC)
 have HSET:Hid (IsSet 9 litS V (w.heap.size+1) ([]:List (List UInt8))):=isSet_made _ _ hM
 have hmm:=@run_makeMap Tryz.prog
 clear hH hf hn hR hRT hY hV hC hb hM hVb hYs hVs
 go_enter Tryz.func46,Tryz.ntmps46
 go_upto_region 2 with fail
 rw[HY.out,HV.out]
 clear hmm
 go_wp2_with fail
 go_loopw [6,12] (fun u i wr=>∃ k:Nat,i=.int .i64 (k:Int)∧u=.int .i64 (prevN fs k)∧k≤n∧allB (atB fs (goodF ne nm fs)) k=true∧Below w.heap.size w wr∧wr.heap[w.heap.size]? = some (.cells #[.slice ma nm mc,.slice ea ne ec,.slice ta nt tc] 26 (0,0))∧IsSet 9 litS wr (w.heap.size+1) (namesF fs k)) (fun _ i _=>n - (intOf i).toNat)
 case atStart=>exact⟨0,rfl,rfl,Nat.zero_le _,rfl,HVB.out,HSC.out,HSET.out⟩
 case round=>
  generalize wr=w1 at *
  obtain⟨k,rfl,rfl,hk,hall,hbel,hsc,hset⟩:=hrel
  have HALL:=hQz hall
  have HB:=hQz hbel
  have HS:=hQz hsc
  have HT:=hQz hset
  have hsw:=hbel.size
  have hl2:=hset.lt
  clear hall hbel hsc hset HVB HSC HSET
  obtain⟨p,hp⟩:∃ p,prevN fs k=p:=⟨_,rfl⟩
  rw[hp]
  by_cases hkn:k<n
  ·obtain⟨y,hy⟩:∃ y,fs[k]? = some y:=⟨_,List.getElem?_eq_getElem (by have:=HN.out;omega)⟩
   obtain⟨g,o,c0,hsl,hg,e0,e1,e2,e3,e4⟩:=fd_at HH.out (W:=w1) (fun b hb=>HB.out.block b hb) hy
   rw[HN.out]at hsl
   obtain⟨rfl,rfl⟩:=slice_two hsl
   have hnl:=HF.out.2 y (List.mem_of_getElem? hy)
   have HNX:=hQz (namesF_step hy)
   have HPX:=hQz (prevN_step hy)
   have hkl:=namesF_len fs k
   have HG:Hid (atB fs (goodF ne nm fs) k=(decide (p<y.num)&&(fnOK y.num&&(plainL y.name&&(!decide (y.name∈namesF fs k)&&typB ne nm y))))):=by
    refine(?_:_=_)
    rw[atB_some hy,←hp];rfl
   have HNO:Hid (atB fs (goodF ne nm fs) k=false→R=false):=fun h=>by rw[←HRT.out];exact allB_no h (by omega)
   have hk0:(0:Int)≤(k:Int):=by omega
   have hk1:(k:Int)<(n:Int):=by omega
   have hwk:=wQz k (by omega)
   obtain⟨KS,hKS⟩:∃ K,namesF fs k=K:=⟨_,rfl⟩
   rw[hKS]at HT HNX hkl HG
   clear hsl hy hKS hp
   obtain⟨U,hU,hC,hCb,hUs⟩:=box_new w1 #[.int .i64 y.num,.string (mkB y.name),.int .i64 y.kind,.bool y.rep,.int .i64 y.type] 51
   have HU:=hQz hU
   clear hU
   go_upto_region 6 with fail
   rw[HU.out]
   have l0:=cell_at hC 0 rfl
   have l1:=cell_at hC 1 rfl
   have HBU:=hQz (HB.out.trans (hCb.mono hsw))
   have HUS:=hQz ((hCb.block _ (by omega)).trans HS.out)
   have HUC:=hQz hC
   have hus:=HT.out.old (hCb.block _ hl2)
   have hfc:=fnP_any y.num U
   have hpl:=nameS_any y.name U (by omega)
   clear hC hCb e0 e1 e2 e3 e4
   by_cases h1:p<y.num
   case neg=>
    go_wp2_with fail
    go_ret
    exact⟨retB (HNO.out (by rw[HG.out,decide_eq_false (by omega)];rfl)).symm,HBU.out⟩
   generalize fnOK y.num=B1 at *
   cases B1
   case false=>
    go_wp2_with fail
    refine hfc.mono ?_
    rintro e u1 ⟨rfl,hu1⟩
    have hu1:=hu1.symm
    subst hu1
    go_wp2_with fail
    go_ret
    exact⟨retB (HNO.out (by rw[HG.out];simp)).symm,HBU.out⟩
   go_wp2_with fail
   refine hfc.mono ?_
   rintro e u1 ⟨rfl,hu1⟩
   have hu1:=hu1.symm
   subst hu1
   clear hfc
   generalize plainL y.name=B2 at *
   go_wp2_with fail
   refine hpl.mono ?_
   rintro e U1 ⟨rfl,hb1⟩
   clear hpl
   have HB1:=hQz (HBU.out.trans (hb1.mono HBU.out.size))
   cases B2
   case false=>
    go_wp2_with fail
    go_ret
    exact⟨retB (HNO.out (by rw[HG.out];simp)).symm,HB1.out⟩
   have q1:U1.cell? ⟨w1.heap.size,1,none⟩=some (.string (mkB y.name)):=(hb1.cell (by simp;omega)).trans l1
   have HUC1:=hQz ((hb1.block _ (by omega)).trans HUC.out)
   have HUS1:=hQz ((hb1.block _ (by omega)).trans HUS.out)
   have hadd:=addS_any (w.heap.size+1) KS y.name U1 (hus.old (hb1.block _ (by omega))) (by omega) (by omega)
   have hs1:=hb1.size
   obtain⟨B3,hB3⟩:∃ b,(!decide (y.name∈KS))=b:=⟨_,rfl⟩
   rw[hB3]at hadd HG
   clear hB3 hb1 hus l0 l1
   go_wp2_with fail
   refine hadd.mono ?_
   rintro e U2 ⟨rfl,hset,hgr⟩
   have HB2:=hQz (HB1.out.grown hgr HB1.out.size (fun b hb=>by cases hb;omega))
   have h2s:=(hgr.block _ (by omega) (by simp)).trans HUS1.out
   have h2c:=(hgr.block _ (by omega) (by simp;omega)).trans HUC1.out
   have HSET:=hQz hset
   have hs2:=hgr.size
   have hl3:=hset.lt
   clear hadd hset hgr q1
   cases B3
   case false=>
    go_wp2_with fail
    go_ret
    exact⟨retB (HNO.out (by rw[HG.out];simp)).symm,HB2.out⟩
   have s0:=cell_at h2s 0 rfl
   have s1:=cell_at h2s 1 rfl
   have s2:=cell_at h2s 2 rfl
   have l0:=cell_at h2c 0 rfl
   have l1:=cell_at h2c 1 rfl
   have l2:=cell_at h2c 2 rfl
   have l3:=cell_at h2c 3 rfl
   have l4:=cell_at h2c 4 rfl
   have H2S:=hQz h2s
   have hty:=typeP_any ma ea ta nm ne nt mc ec tc y U2
   generalize typB ne nm y=B4 at *
   clear h2s h2c
   go_wp2_with fail
   refine hty.mono ?_
   rintro e U3 ⟨rfl,hb3⟩
   have HB3:=hQz (HB2.out.trans (hb3.mono HB2.out.size))
   clear hty
   cases B4
   case false=>
    go_wp2_with fail
    go_ret
    exact⟨retB (HNO.out (by rw[HG.out];simp)).symm,HB3.out⟩
   have m0:U3.cell? ⟨w1.heap.size,0,none⟩=some (.int .i64 y.num):=(hb3.cell (by simp;omega)).trans l0
   have HS3:=hQz ((hb3.block _ (by omega)).trans H2S.out)
   have HT3:=hQz (HSET.out.old (hb3.block _ hl3))
   clear l0 l1 l2 l3 l4 s0 s1 s2 hb3
   go_wp2_with fail
   go_roundw
   case rel=>exact⟨k+1,by go_num,by rw[HPX.out],by omega,allB_step HALL.out (by rw[HG.out,decide_eq_true (by omega)];rfl),HB3.out,HS3.out,by rw[HNX.out];exact HT3.out⟩
   case measure=>simp[intOf];omega
  ·have hkn':¬(k:Int)<(n:Int):=by omega
   have hke:k=n:=by omega
   have HRR:Hid (R=true):=by
    refine(?_:_=_)
    rw[←HRT.out,←hke];exact HALL.out
   clear hke
   go_wp2_with fail
   go_ret
   exact⟨retB HRR.out.symm,HB.out⟩
def lenV:Value→Nat
 | .slice _ n _=>n
 | _=>0
def vFalse:Value→Bool
 | .bool b=>!b
 | _=>false
def natV (x:Nat):Value:=.int .i64 (x:Int)
def unsM (w:World) (B:Nat):Nat:=match w.heap[B]? with
 | some (.cells cs _ _)=>(cs.toList.filter vFalse).length
 | _=>0
theorem unsM_eq {w:World} {B:Nat} {s:List Bool} {T:TypeId} {fr:Nat × Nat} (h:w.heap[B]? = some (.cells (s.map Value.bool).toArray T fr)):unsM w B=uns s:=by
 unfold unsM uns
 rw[h]
 show (((s.map Value.bool).toArray.toList).filter vFalse).length=_
 rw[List.toList_toArray,List.filter_map,List.length_map]
 rfl
def ringM (B:Nat) (v:Value) (w:World):Nat:=2*unsM w B+lenV v
def RingAns (ms:List MD) (t:Nat) (w:World) (e:Ending) (w':World):Prop:=∃ b,e=.returned (.bool b)∧(b=true↔Ring ms t)∧Below w.heap.size w w'
theorem cut_ints (g n c q:Nat) (h:q≤c) (W:World):(Instr.slice 136 (.slice (some ⟨g,0,none⟩) n c) none (some (.int .i64 (q:Int))) none).run Tryz.prog W=.ok (.slice (some ⟨g,0,none⟩) q c) W:=by
 have hsz:(sizeOf (Tryz.prog.elem 136)).run Tryz.prog W=.ok 1 W:=by
  have:(Tryz.prog.info? (Tryz.prog.elem 136)).map (fun i=>i.size)=some 1:=by kernel_rfl
  obtain⟨i,hi,hs⟩:=Option.map_eq_some_iff.1 this
  simp[sizeOf,typeInfo,hi,hs]
 rw[run_slice_h (P:=Tryz.prog) W 136 _ _ _ (by kernel_rfl) .i64 (q:Int) (by omega) (by omega),hsz]
 have ea:(⟨g,0,none⟩:Addr).add 0=⟨g,0,none⟩:=by unfold Addr.add;split <;> simp_all
 simp[Result.andThen,sliced,ea]
theorem info3I:(Tryz.prog.info? 3).map (fun i=>(i.zero,i.size,i.bytes))=some (some (.int .i64 0),1,8):=by kernel_rfl
theorem info4B:(Tryz.prog.info? 4).map (fun i=>(i.zero,i.size,i.bytes))=some (some (.bool false),1,1):=by kernel_rfl
theorem made_false (n:Nat):madeCells #[.bool false] n=((List.replicate n false).map Value.bool).toArray:=by
 apply Array.ext
 ·simp[size_madeCells]
 ·intro i h1 h2
  simp[madeCells,Nat.mod_one]
def RingFit (ms:List MD):Prop:=ms.length≤100000∧∀ m∈ms,m.fields.length≤100000∧∀ f∈m.fields,f.kind=10→f.rep=false→0≤f.type∧f.type<(ms.length:Int)
theorem set_bools {s:List Bool} {y:Nat} (hy:y<s.length):((s.map Value.bool).toArray).setIfInBounds y (.bool true)=((s.set y true).map Value.bool).toArray:=by
 apply Array.ext
 ·simp
 ·intro i h1 h2
  simp[List.getElem_set]
set_option maxHeartbeats 16000000 in
set_option maxRecDepth 20000 in
theorem ringP_any (ms:List MD) (v:Value) (t:Nat) (w:World) (hf:RingFit ms) (ht:t<ms.length) (hH:HeldM w (fun b=>b<w.heap.size) v ms) :
  Calls Tryz.prog 51 #[v,.int .i64 (t:Int)] w fun e w'=>RingAns ms t w e w':=by
 have HF:=hQz hf
 have HH:=hQz hH
 obtain⟨ad,cc,rfl⟩:=HeldN.isSl hH
 have hn0:=hf.1
 have hst:=rinv_start ms t ht
 obtain⟨n,hn⟩:∃ n,ms.length=n:=⟨_,rfl⟩
 have HN:=hQz hn
 rw[hn]at hn0 ht hst ⊢
 have HST:=hQz hst
 have hmk:=run_make_row' (P:=Tryz.prog) 150 4 (.bool false) 1 Tryz.underlying150 info4B rfl .i64 .i64 n (by omega) (by omega)
 rw[made_false]at hmk
 clear hf hH hn hst
 obtain⟨s0,hs0⟩:∃ s,List.replicate n false=s:=⟨_,rfl⟩
 rw[hs0]at hmk HST
 clear hs0
 have hM:(w.alloc (.cells (s0.map Value.bool).toArray 4)).heap[w.heap.size]? = some (.cells (s0.map Value.bool).toArray 4 (0,0)):=alloc_heap_new _ _
 have hMb:Below w.heap.size w (w.alloc (.cells (s0.map Value.bool).toArray 4)):=(Below.refl _ w).alloc (Nat.le_refl _) _
 go_enter Tryz.func51,Tryz.ntmps51
 go_upto_region 2 with fail
 generalize (w.alloc (.cells (s0.map Value.bool).toArray 4))=V at *
 have hlV:=blk_lt hM
 have HVB:=hQz hMb
 have HVM:=hQz hM
 have hVs:=hMb.size
 clear hM hMb hmk
 go_wp2_with fail
 go_loopw [6] (fun u wr=>∃ (s:List Bool) (wt:List Nat),RInv ms t s wt∧wr.ownsRow V.heap.size 3 1 u wt.length (wt.map natV)∧wr.heap[w.heap.size]? = some (.cells (s.map Value.bool).toArray 4 (0,0))∧Below w.heap.size w wr∧V.heap.size≤wr.heap.size∧wt.length+uns s≤n+1) (fun u wr=>ringM w.heap.size u wr)
 case atStart=>
  refine⟨s0,[t],HST.out,?_,(alloc_heap_old _ _ _ hlV).trans HVM.out,HVB.out.alloc hVs _,by simp,?_⟩
  ·exact⟨rfl,.inr ⟨V.heap.size,1,#[.int .i64 (t:Int)],rfl,Nat.le_refl _,alloc_heap_new _ _,Nat.le_refl _,by unfold maxLen;omega,rfl,rfl⟩⟩
  ·have h1:uns s0≤s0.length:=List.length_filter_le _ _
   have:=HST.out.len
   rw[HN.out]at this
   simp;omega
 case round=>
  generalize wr=w1 at *
  obtain⟨s,wt,hinv,hown,hseen,hbel,hsz,hcnt⟩:=hrel
  obtain⟨ua,uc,huv⟩:=own_slice hown
  subst huv
  have HI:=hQz hinv
  have HO:=hQz hown
  have HS:=hQz hseen
  have HB:=hQz hbel
  have hsw:=hbel.size
  have hls:=blk_lt hseen
  clear hinv hown hseen hbel
  rcases List.eq_nil_or_concat wt with hnil | ⟨wt',c,hcat⟩
  ·subst hnil
   have hnr:=HI.out.stop
   go_wp2_with fail
   go_ret
   exact⟨false,rfl,by simp[hnr],HB.out⟩
  ·rw[List.concat_eq_append]at hcat
   subst hcat
   obtain⟨q,hq⟩:∃ q,wt'.length=q:=⟨_,rfl⟩
   have hcl:(wt'++[c]).length=q+1:=by simp[hq]
   have hmap:(wt'++[c]).map natV=wt'.map natV++[natV c]:=by simp
   rw[hcl,hmap]at HO
   rw[hcl]at hcnt ⊢
   obtain⟨g,huad⟩:∃ g,ua=some ⟨g,0,none⟩:=by
    obtain⟨_,⟨hv,h0⟩ | ⟨g,cap,cur,hv,_⟩⟩:=HO.out
    ·cases h0
    ·injection hv with h1 _ _
     exact⟨g,h1⟩
   subst huad
   obtain⟨hlast0,hcap⟩:=own_last HO.out
   have hlast:w1.cell? ⟨g,q,none⟩=some (.int .i64 (c:Int)):=hlast0
   clear hlast0
   have hgb:=own_block HO.out g rfl
   have hcw:=HI.out.wait c (by simp)
   rw[HN.out]at hcw
   obtain⟨m,hm⟩:∃ m,ms[c]? = some m:=⟨_,List.getElem?_eq_getElem (by have:=HN.out;omega)⟩
   obtain⟨gm,om,cm,ka,kc,hsl,hgm,e0,e1,hrows⟩:=HeldN.at HH.out (W:=w1) (fun b hb=>HB.out.block b hb) hm
   rw[HN.out]at hsl
   obtain⟨rfl,rfl⟩:ad=some ⟨gm,om,none⟩∧cc=cm:=by
    injection hsl with h1 _ h3
    exact⟨h1,h3⟩
   obtain⟨hfl,hft⟩:=HF.out.2 m (List.mem_of_getElem? hm)
   have HFT:=hQz hft
   have HRIN:=hQz (HI.out.pop hm)
   have HROW:=hQz hrows
   have hun:=unsM_eq HS.out
   have HMEA:Hid (ringM w.heap.size (.slice (some ⟨g,0,none⟩) (q+1) uc) w1=2*uns s+(q+1)):=by
    refine(?_:_=_)
    unfold ringM;rw[hun];rfl
   obtain⟨M0,hM0⟩:∃ M,2*uns s+(q+1)=M:=⟨_,rfl⟩
   rw[hM0]at HMEA
   have HM0:=hQz hM0
   have HOC:=hQz (own_cut HO.out)
   have hw1:IntKind.i64.wrap (((q+1:Nat):Int) - 1)=(q:Int):=by rw[IntKind.wrap_i64];omega
   have hw1':IntKind.i64.wrap ((q:Int)+1 - 1)=(q:Int):=by rw[IntKind.wrap_i64];omega
   have hq0:(0:Int)≤(q:Int):=by omega
   have hq1:(q:Int)<(q:Int)+1:=by omega
   have hqp:(0:Int)<(q:Int)+1:=by omega
   have hc0:(0:Int)≤(c:Int):=by omega
   have hc1:(c:Int)<(n:Int):=by omega
   have hcut:=cut_ints g (q+1) uc q (by omega)
   obtain⟨nf,hnf⟩:∃ n,m.fields.length=n:=⟨_,rfl⟩
   rw[hnf]at e1 HROW hfl
   have HNF:=hQz hnf
   have HQ:=hQz hq
   have hcq:c<n:=hcw.1
   clear hcl hmap hsl hrows hun hM0 hnf hq hcw hft HI HO
   have hC:(w1.alloc (.cells #[.string (mkB m.name),.slice ka nf kc] 54)).heap[w1.heap.size]? = some (.cells #[.string (mkB m.name),.slice ka nf kc] 54 (0,0)):=alloc_heap_new _ _
   have hCb:Below w1.heap.size w1 (w1.alloc (.cells #[.string (mkB m.name),.slice ka nf kc] 54)):=(Below.refl _ w1).alloc (Nat.le_refl _) _
   go_upto_region 5 with fail
   generalize (w1.alloc (.cells #[.string (mkB m.name),.slice ka nf kc] 54))=Y at *
   have HBY:=hQz (HB.out.trans (hCb.mono hsw))
   have HSY:Hid (Y.heap[w.heap.size]? = some (.cells (s.map Value.bool).toArray 4 (0,0))):=(hCb.block _ hls).trans HS.out
   have HOY:Hid (Y.ownsRow V.heap.size 3 1 (.slice (some ⟨g,0,none⟩) q uc) wt'.length (wt'.map natV)):=by
    refine(?_:World.ownsRow _ _ _ _ _ _ _)
    rw[HQ.out]
    exact own_keep HOC.out fun b hb=>hCb.block b (own_block HOC.out b hb).2
   have l1:=cell_at hC 1 rfl
   have hYs:=hCb.size
   have HRY:Hid (RowsIn Y (fun b=>b<w.heap.size) 5 fdrow (.slice ka nf kc) m.fields):=HROW.out.old fun b hb=>hCb.block b (by have hb':b<w.heap.size:=hb;omega)
   clear hC hCb e0 e1 hlast HOC HROW
   go_wp2_with fail
   clear l1 hcut hw1 hw1'
   go_loopw [6,35] (fun u i wr=>∃ (k:Nat) (s:List Bool) (wt:List Nat),i=.int .i64 (k:Int)∧k≤nf∧RIn ms t s wt c m.fields k∧wr.ownsRow V.heap.size 3 1 u wt.length (wt.map natV)∧wr.heap[w.heap.size]? = some (.cells (s.map Value.bool).toArray 4 (0,0))∧Below w.heap.size w wr∧V.heap.size≤wr.heap.size∧2*uns s+wt.length<M0∧wt.length+uns s≤n+1) (fun _ i _=>nf - (intOf i).toNat)
   case atStart=>exact⟨0,s,wt',rfl,Nat.zero_le _,HRIN.out,HOY.out,HSY.out,HBY.out,by omega,by have:=HM0.out;have:=HQ.out;omega,by have:=HQ.out;omega⟩
   case round=>
    generalize wr=w2 at *
    clear HSY HOY HRIN HS hls hgb hcap hcnt
    obtain⟨k,s2,wt2,rfl,hk,hin,hown,hseen,hbel,hsz2,hmea,hcnt⟩:=hrel
    obtain⟨va,vc,huv⟩:=own_slice hown
    subst huv
    have HI:=hQz hin
    have HO:=hQz hown
    have HS:=hQz hseen
    have HB2:=hQz hbel
    have hsw2:=hbel.size
    have hls:=blk_lt hseen
    have hlen:=hin.len
    rw[HN.out]at hlen
    clear hin hown hseen hbel
    by_cases hkn:k<nf
    ·obtain⟨y,hy⟩:∃ y,m.fields[k]? = some y:=⟨_,List.getElem?_eq_getElem (by have:=HNF.out;omega)⟩
     obtain⟨g2,o2,c2,hsl,hg2,e0,e1,e2,e3,e4⟩:=fd_at HRY.out (W:=w2) (fun b hb=>(HB2.out.block b hb).trans (HBY.out.block b hb).symm) hy
     rw[HNF.out]at hsl
     obtain⟨rfl,rfl⟩:ka=some ⟨g2,o2,none⟩∧kc=c2:=by
      injection hsl with h1 _ h3
      exact⟨h1,h3⟩
     have hk0:(0:Int)≤(k:Int):=by omega
     have hk1:(k:Int)<(nf:Int):=by omega
     have hwk:=wQz k (by omega)
     have HTY:Hid (y.kind=10→y.rep=false→0≤y.type∧y.type<(n:Int)):=by
      refine(?_:_→_)
      have:=HFT.out y (List.mem_of_getElem? hy)
      rw[HN.out]at this
      exact this
     have HY:=hQz hy
     clear hsl hy
     have hC:(w2.alloc (.cells #[.int .i64 y.num,.string (mkB y.name),.int .i64 y.kind,.bool y.rep,.int .i64 y.type] 51)).heap[w2.heap.size]? = some (.cells #[.int .i64 y.num,.string (mkB y.name),.int .i64 y.kind,.bool y.rep,.int .i64 y.type] 51 (0,0)):=alloc_heap_new _ _
     have hCb:Below w2.heap.size w2 (w2.alloc (.cells #[.int .i64 y.num,.string (mkB y.name),.int .i64 y.kind,.bool y.rep,.int .i64 y.type] 51)):=(Below.refl _ w2).alloc (Nat.le_refl _) _
     go_upto_region 9 with fail
     generalize (w2.alloc (.cells #[.int .i64 y.num,.string (mkB y.name),.int .i64 y.kind,.bool y.rep,.int .i64 y.type] 51))=U at *
     have l0:=cell_at hC 0 rfl
     have l1:=cell_at hC 1 rfl
     have l2:=cell_at hC 2 rfl
     have l3:=cell_at hC 3 rfl
     have l4:=cell_at hC 4 rfl
     have HBU:=hQz (HB2.out.trans (hCb.mono hsw2))
     have HSU:Hid (U.heap[w.heap.size]? = some (.cells (s2.map Value.bool).toArray 4 (0,0))):=(hCb.block _ hls).trans HS.out
     have HOU:Hid (U.ownsRow V.heap.size 3 1 (.slice va wt2.length vc) wt2.length (wt2.map natV)):=own_keep HO.out fun b hb=>hCb.block b (own_block HO.out b hb).2
     have hUs:=hCb.size
     have hUl:=blk_lt hC
     have HCU:=hQz hC
     have HOB:Hid (∀ b,(Value.slice va wt2.length vc).ownBlock=some b→V.heap.size≤b∧b<w2.heap.size):=fun b hb=>own_block HO.out b hb
     clear hC hCb e0 e1 e2 e3 e4 HO HS
     have hskip:∀ (hs:y.kind=10→y.rep=false→∀ z:Nat,y.type=(z:Int)→Seen s2 z),RIn ms t s2 wt2 c m.fields (k+1):=fun hs=>HI.out.skip HY.out hs
     by_cases hkd:y.kind=10
     ·rw[hkd]at l2
      cases hrp:y.rep
      case true=>
       rw[hrp]at l3
       have HN1:=hQz (hskip (fun _ h=>by rw[hrp]at h;cases h))
       clear hskip hrp hkd
       go_wp2_with fail
       go_roundw
       case rel=>exact⟨k+1,s2,wt2,by go_num,by omega,HN1.out,HOU.out,HSU.out,HBU.out,by omega,by omega,by omega⟩
       case measure=>simp[intOf];omega
      case false=>
       rw[hrp]at l3
       obtain⟨ht0,ht1⟩:=HTY.out hkd hrp
       obtain⟨z,hz⟩:∃ z:Nat,y.type=(z:Int):=⟨y.type.toNat,by omega⟩
       have hzn:z<n:=by omega
       rw[hz]at l4
       have HZ:=hQz hz
       have HKD:=hQz hkd
       have HRP:=hQz hrp
       have hz0:(0:Int)≤(z:Int):=by omega
       have hz1:(z:Int)<(n:Int):=by omega
       obtain⟨b,hb⟩:∃ b,s2[z]? = some b:=⟨_,List.getElem?_eq_getElem (by omega)⟩
       have q0:U.cell? ⟨w.heap.size,z,none⟩=some (.bool b):=by simp[World.cell?,HSU.out,hb]
       have qf:U.frozen? ⟨w.heap.size,z,none⟩=false:=by simp[World.frozen?,HSU.out]
       have HBZ:=hQz hb
       clear hz hkd hrp hb ht0 ht1
       cases b
       case true=>
        have HN1:=hQz (hskip (fun _ _ z' hz'=>by have:z'=z:=(by have:=HZ.out;omega);subst this;exact HBZ.out))
        clear hskip
        go_wp2_with fail
        go_roundw
        case rel=>exact⟨k+1,s2,wt2,by go_num,by omega,HN1.out,HOU.out,HSU.out,HBU.out,by omega,by omega,by omega⟩
        case measure=>simp[intOf];omega
       case false=>
        clear hskip
        by_cases hzt:z=t
        ·have hr:Ring ms t:=HI.out.found HY.out HKD.out HRP.out (by rw[HZ.out,hzt])
         have hzt':(z:Int)=(t:Int):=by omega
         rw[hzt]at l4 q0 qf
         have ht0:(0:Int)≤(t:Int):=by omega
         have ht1:(t:Int)<(n:Int):=by omega
         clear hzt hzt' hz0 hz1
         go_wp2_with fail
         go_ret
         exact⟨true,rfl,by simp[hr],HBU.out⟩
        ·have hzt':((z:Int) == (t:Int))=false:=by simp;omega
         have hzt2:¬(z:Int)=(t:Int):=by omega
         have HN1:=hQz (HI.out.mark HY.out HKD.out HRP.out HZ.out (by rw[HN.out];exact hzn) hzt)
         have hu:=uns_set s2 z HBZ.out
         have hQs:(U.setCell ⟨w.heap.size,z,none⟩ (.bool true)).heap[w.heap.size]? = some (.cells ((s2.set z true).map Value.bool).toArray 4 (0,0)):=by rw[setCell_heap HSU.out,set_bools (by omega)]
         have hQb:Below w.heap.size w (U.setCell ⟨w.heap.size,z,none⟩ (.bool true)):=HBU.out.setCell (p:=⟨w.heap.size,z,none⟩) (Nat.le_refl _) _
         have hQo:∀ b,b≠w.heap.size→(U.setCell ⟨w.heap.size,z,none⟩ (.bool true)).heap[b]? = U.heap[b]?:=fun b hb=>Below.heap_setCell _ _ _ _ hb
         have hQz:(U.setCell ⟨w.heap.size,z,none⟩ (.bool true)).heap.size=U.heap.size:=by simp
         go_upto_region 13 with fail
         generalize (U.setCell ⟨w.heap.size,z,none⟩ (.bool true))=R at *
         have hQ1:R.heap.size≤U.heap.size:=by omega
         have hQ2:U.heap.size≤R.heap.size:=by omega
         clear hQz
         have HRC:Hid (R.heap[w2.heap.size]? = _):=(hQo _ (by omega)).trans HCU.out
         have r4:R.cell? ⟨w2.heap.size,4,none⟩=some (.int .i64 (z:Int)):=by have:=HZ.out;simp[World.cell?,HRC.out,this]
         have HOR:Hid (R.ownsRow V.heap.size 3 1 (.slice va wt2.length vc) wt2.length (wt2.map natV)):=own_keep HOU.out fun b hb=>hQo b (by have:=HOB.out b hb;omega)
         have HSR:=hQz hQs
         have HBR:=hQz hQb
         clear l0 l1 l2 l3 l4 q0 qf hQs hQb hQo hzt hzt' hzt2 HOU HSU HBU HRC
         go_wp2_with (at_builtin;refine row_pushL (T:=3) Tryz.underlying136 info3I rfl (by decide) (HOR.out.alloc _) (by simp;omega) [.int .i64 (z:Int)] rfl (by intro u hu;have:u=.int .i64 (z:Int):=(by simpa using hu);subst this;rfl) R.heap.size (alloc_heap_new _ _) rfl _ _ rfl rfl rfl (by unfold maxLen;omega) (by omega) ?_)
         intro g3 cap3 W3 hown3 hgr3 hat3 hlt3
         have hgR:R.grownBy W3 (Value.slice va wt2.length vc).ownBlock:=(World.grownBy_alloc _ _ _).trans hgr3
         have hne:∀ b,b<V.heap.size→(some b≠(Value.slice va wt2.length vc).ownBlock):=fun b hb e=>by have:=HOB.out b e.symm;omega
         have HS3:Hid (W3.heap[w.heap.size]? = _):=(hgR.block _ (by omega) (hne _ hlV)).trans HSR.out
         have HB3:Hid (Below w.heap.size w W3):=HBR.out.grown hgR (by omega) (fun b hb=>by have:=HOB.out b hb;omega)
         have HO3:Hid (W3.ownsRow V.heap.size 3 1 (.slice (some ⟨g3,0,none⟩) (wt2.length+1) cap3) (wt2++[z]).length ((wt2++[z]).map natV)):=by
          refine(?_:World.ownsRow _ _ _ _ _ _ _)
          rw[List.length_append,List.map_append]
          exact hown3
         have hs3:=hgR.size
         clear hown3 hgr3 hat3 hgR hne r4
         go_wp2_with fail
         go_roundw
         case rel=>exact⟨k+1,s2.set z true,wt2++[z],by go_num,by omega,HN1.out,HO3.out,HS3.out,HB3.out,by omega,by simp;omega,by simp;omega⟩
         case measure=>simp[intOf];omega
     ·have hkd':(y.kind != 10)=true:=by simp[hkd]
      have HN1:=hQz (hskip (fun h=>absurd h hkd))
      clear hskip
      go_wp2_with fail
      go_roundw
      case rel=>exact⟨k+1,s2,wt2,by go_num,by omega,HN1.out,HOU.out,HSU.out,HBU.out,by omega,by omega,by omega⟩
      case measure=>simp[intOf];omega
    ·have hkn':¬(k:Int)<(nf:Int):=by omega
     have HIV:=hQz (HI.out.fin (by rw[HNF.out];omega))
     have hun:=unsM_eq HS.out
     have HME:Hid (ringM w.heap.size (.slice va wt2.length vc) w2<M0):=by
      refine(?_:(_:Nat) < _)
      unfold ringM;rw[hun];exact hmea
     clear hun hkn
     go_wp2_with fail
     go_roundw
     case rel=>exact⟨s2,wt2,HIV.out,HO.out,HS.out,HB2.out,hsz2,by omega⟩
     case measure=>first | exact HME.out | (rw[HMEA.out];exact HME.out) | (have h1:=HMEA.out;have h2:=HME.out;omega)
end Go.Proofs.YteajlfgbmefncaaGreatDoor
