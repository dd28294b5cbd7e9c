/-
  Walks and plain words (FoT).
-/
import Derived.Test.YteajlfgbmefncaaGreatDoorN26
namespace Go.Proofs.YteajlfgbmefncaaGreatDoor
set_option linter.unusedVariables false
open Go.ChangeShapes Go.WideShapes Go.ChangeAt Go.RowKit Go.Maps Go.WideMaps

theorem rowPair:(119:TypeId)<Tryz.prog.types.size:=of_decide_eq_true (by kernel_rfl)
theorem laidOutS:laidOutB Tryz.prog=true:=by kernel_rfl
theorem keyAtPair:Tryz.prog.keyTypeAt 2 119=true:=by kernel_rfl
theorem lawPair:KeyLaw Tryz.prog 119:=deep_law_laid laidOutS (m:=2) (by decide) rowPair keyAtPair (by kernel_rfl)
theorem keyedP:Keyed Tryz.prog 119:=Keyed.of_law lawPair
def litP (x:List UInt8 × List UInt8):Lit:=.string (keyBytes [.string x.1,.string x.2])
def okP (x:List UInt8 × List UInt8):Prop:=x.1.length≤100000∧x.2.length≤100000
theorem typesNot:Tryz.prog.types.size≠0:=of_decide_eq_true (by kernel_rfl)
theorem typesPair:∃ m,Tryz.prog.types.size=m+1:=Nat.exists_eq_succ_of_ne_zero typesNot
theorem keyPair (x:List UInt8 × List UInt8) (h:okP x):keyOf Tryz.prog 119 (.agg #[.string (mkB x.1),.string (mkB x.2)])=some (litP x):=by
 obtain⟨m,hm⟩:=typesPair
 have h1:(mkB x.1).size≤maxLen:=by rw[mkB_size];have:=h.1;unfold maxLen;omega
 have h2:(mkB x.2).size≤maxLen:=by rw[mkB_size];have:=h.2;unfold maxLen;omega
 have hk:Tryz.prog.keyType 119=true:=by kernel_rfl
 have hc:Tryz.prog.cellsOf 119=2:=by kernel_rfl
 have hc9:Tryz.prog.cellsOf 9=1:=by kernel_rfl
 unfold keyOf
 simp only[Tryz.underlying119]
 rw[hk,hm]
 simp[Value.formed,Tryz.underlying119,hc,hc9,Program.keyLits,Value.cells,Tryz.underlying9,h1,h2,litP]
 rfl
theorem litP_one {x y:List UInt8 × List UInt8} (hx:okP x) (hy:okP y) (h:litP x=litP y):x=y:=by
 have e:=lawPair.inj (keyPair x hx) (by rw[h];exact keyPair y hy)
 obtain⟨x1,x2⟩:=x
 obtain⟨y1,y2⟩:=y
 simp[mkB]at e
 rw[e.1,e.2]
def IsSetP (w:World) (b:Nat) (ks:List (List UInt8 × List UInt8)):Prop:=(∀ y∈ks,okP y)∧IsSet 119 litP w b ks
theorem pair_size (ks:List (List UInt8 × List UInt8)) (hks:∀ y∈ks,okP y) (x:List UInt8 × List UInt8) (hx:okP x) :
  Maps.size ((setOf (H:=Unit) (.agg []) (ks.map litP)).put (litP x) (.agg []))=Maps.size (setOf (H:=Unit) (.agg []) (ks.map litP))+(if x∈ks then 0 else 1):=by
 have hkk:∀ y∈ks.map litP,WideAt.IsKeyLit y:=by
  intro y hy
  obtain⟨z,_,rfl⟩:=List.mem_map.1 hy
  trivial
 have hm:(ks.map litP).any (fun y=>y.sameKey (litP x))=decide (x∈ks):=by
  rw[Bool.eq_iff_iff]
  simp only[List.any_map,List.any_eq_true,decide_eq_true_iff,Function.comp]
  constructor
  ·rintro⟨y,hy,h⟩
   have:=litP_one (hks y hy) hx ((WideAt.sameKey_iff (b:=litP x) trivial).1 h)
   subst this;exact hy
  ·intro h
   exact⟨x,h,(WideAt.sameKey_iff (b:=litP x) trivial).2 rfl⟩
 rw[size_put (tidy_setOf _ _ hkk),has_setOf _ _ _ hkk,hm]
 by_cases h:x∈ks <;> simp[h]
set_option maxHeartbeats 4000000 in
theorem addP_any (b:Nat) (ks:List (List UInt8 × List UInt8)) (x:List UInt8 × List UInt8) (w:World) (h:IsSetP w b ks) (hx:okP x) (hl:ks.length≤1000000) :
  Calls Tryz.prog 49 #[.map (some b),.agg #[.string (mkB x.1),.string (mkB x.2)]] w fun e w'=>e=.returned (.bool (!decide (x∈ks)))∧IsSetP w' b (ks++[x])∧w.grownBy w' (some b):=by
 obtain⟨hks,hset⟩:=h
 obtain⟨Y,hY,hC,hYb,hYs⟩:=box_new w #[.string (mkB x.1),.string (mkB x.2)] 119
 have hg0:w.grownBy Y (some b):=by rw[←hY];exact World.grownBy_alloc _ _ _
 obtain⟨n,hn,hown⟩:=hset.old (hYb.block _ hset.lt)
 have HY:=hQz hY
 have HG0:=hQz hg0
 have HKS:Hid (∀ y∈ks++[x],okP y):=by
  refine(?_:∀ y,_→_)
  intro y hy
  rcases List.mem_append.1 hy with h | h
  ·exact hks y h
  ·rw[List.mem_singleton.1 h];exact hx
 have l0:=cell_at hC 0 rfl
 have l1:=cell_at hC 1 rfl
 have HOWN:=hQz hown
 have hkey:=keyPair x hx
 have hsz:=pair_size ks hks x hx
 obtain⟨D,hD⟩:∃ D,setOf (H:=Unit) (.agg []) (ks.map litP)=D:=⟨_,rfl⟩
 have hsl:=hown.size_le
 rw[hD]at hown hsz HOWN hsl
 obtain⟨B,hB⟩:∃ B,(!decide (x∈ks))=B:=⟨_,rfl⟩
 obtain⟨s1,hs1⟩:∃ s1,Maps.size D=s1:=⟨_,rfl⟩
 obtain⟨s2,hs2⟩:∃ s2,Maps.size (D.put (litP x) (.agg []))=s2:=⟨_,rfl⟩
 have HRES:Hid (((s1:Nat):Int)<((s2:Nat):Int)↔B=true):=by
  refine(?_:_↔_)
  rw[←hB,←hs1,←hs2,hsz]
  by_cases hm:x∈ks <;> simp[hm] <;> omega
 have HD:=hQz hD
 have HS1:=hQz hs1
 have HS2:=hQz hs2
 rw[hB]
 clear hD hsz hB hs1 hs2 hks hset hx hC hYb hY hg0
 go_enter Tryz.func49,Tryz.ntmps49
 go_upto_region 1 with fail
 rw[HY.out]
 go_wp2_with (first
  | (at_len;refine wpList_len_own _ rfl _ 116 rfl 119 146 Tryz.underlying116 _ b n D rfl HOWN.out ?_;rw[HS1.out])
  | (at_mapUpdate;refine wpList_mapUpdate_own _ rfl _ _ _ 116 rfl 119 146 keyedP Tryz.underlying116 _ b n D rfl HOWN.out (by unfold maxLen;omega) _ _ _ rfl rfl hkey _ [] unitElem_mk ?_;intro w1 hown1 hgr1;have HOWN1:=hQz hown1;have HGR:=hQz hgr1;clear hown1 hgr1 HOWN HS1)
  | (at_len;refine wpList_len_own _ rfl _ 116 rfl 119 146 Tryz.underlying116 _ b (n+1) (D.put (litP x) (.agg [])) rfl HOWN1.out ?_;rw[HS2.out]))
 have hBv:decide (s1<s2)=B:=by
  have:=HRES.out
  cases B
  ·simp at this ⊢;omega
  ·simp at this ⊢;omega
 rw[hBv]
 go_ret
 refine⟨rfl,⟨HKS.out,n+1,by simp;omega,?_⟩,HG0.out.trans HGR.out⟩
 rw[List.map_append,List.map_cons,List.map_nil,setOf_snoc,HD.out]
 exact HOWN1.out
def FitT (ts:List TD):Prop:=ts.length≤100000∧∀ t∈ts,t.service.length≤100000∧t.name.length≤100000
set_option maxHeartbeats 16000000 in
set_option maxRecDepth 20000 in
theorem methsP_any (ma ea ta:Option Addr) (nm ne nt mc ec tc:Nat) (ts:List TD) (w:World) (hnt:ts.length=nt) (hf:FitT ts) (hH:HeldT w (fun b=>b<w.heap.size) (.slice ta nt tc) ts) :
  Calls Tryz.prog 24 #[.agg #[.slice ma nm mc,.slice ea ne ec,.slice ta nt tc]] w fun e w'=>e=.returned (.bool (formT nm ts))∧Below w.heap.size w w':=by
 have HH:=hQz hH
 have HF:=hQz hf.2
 have hn0:=hf.1
 obtain⟨R,hR⟩:∃ r,formT nm ts=r:=⟨_,rfl⟩
 have HRT:Hid (allB (atB ts (goodT nm ts)) nt=R):=by
  refine(?_:_=_)
  rw[←hR,←hnt];rfl
 have HN:=hQz hnt
 rw[hR]
 rw[hnt]at hn0
 obtain⟨Y,hY,hC,hb,hYs⟩:=box_new w #[.slice ma nm mc,.slice ea ne ec,.slice ta nt tc] 26
 obtain⟨V,hV,hM,hVb,hVs⟩:=map_new Y
 have HY:=hQz hY
 have HV:=hQz hV
 have HVB:=hQz (hb.trans (hVb.mono hb.size))
 rw[hYs]at hM hVb hVs
 have hC2:=(hVb.block _ (by omega)).trans hC
 have HSC:=hQz hC2
 have s2:=cell_at hC2 2 rfl
 have HSET:Hid (IsSetP V (w.heap.size+1) []):=⟨(fun y hy=>by cases hy),isSet_made _ _ hM⟩
 have hmm:=@run_makeMap Tryz.prog
 clear hH hf hnt hR hY hV hC hC2 hb hM hVb hYs hVs
 go_enter Tryz.func24,Tryz.ntmps24
 go_upto_region 2 with fail
 rw[HY.out,HV.out]
 clear hmm
 go_wp2_with fail
 clear s2
 go_loopw [10] (fun i wr=>∃ k:Nat,i=.int .i64 (k:Int)∧k≤nt∧allB (atB ts (goodT nm ts)) k=true∧Below w.heap.size w wr∧wr.heap[w.heap.size]? = some (.cells #[.slice ma nm mc,.slice ea ne ec,.slice ta nt tc] 26 (0,0))∧IsSetP wr (w.heap.size+1) (pairsT ts k)) (fun i _=>nt - (intOf i).toNat)
 case atStart=>exact⟨0,rfl,Nat.zero_le _,rfl,HVB.out,HSC.out,HSET.out⟩
 case round=>
  generalize wr=w1 at *
  obtain⟨k,rfl,hk,hall,hbel,hsc,hset⟩:=hrel
  have hsw:=hbel.size
  have hl2:=hset.2.lt
  clear HVB HSC HSET
  have HALL:=hQz hall
  have HB:=hQz hbel
  have HS:=hQz hsc
  have HT:=hQz hset
  clear hall hbel hsc hset
  by_cases hkn:k<nt
  ·obtain⟨y,hy⟩:∃ y,ts[k]? = some y:=⟨_,List.getElem?_eq_getElem (by have:=HN.out;omega)⟩
   obtain⟨g,o,c0,hsl,hg,e0,e1,e2,e3,e4⟩:=td_at HH.out (W:=w1) (fun b hb=>HB.out.block b hb) hy
   rw[HN.out]at hsl
   obtain⟨rfl,rfl⟩:=slice_two hsl
   have hnl:=HF.out y (List.mem_of_getElem? hy)
   have HNX:=hQz (pairsT_step hy)
   have hkl:=pairsT_len ts k
   have HG:Hid (atB ts (goodT nm ts) k=(decide (y.id=(k:Int)+1)&&(plainL y.service&&(plainL y.name&&(!decide ((y.service,y.name)∈pairsT ts k)&&(inB nm y.inp&&inB nm y.out)))))):=atB_some hy
   have HNO:Hid (atB ts (goodT nm ts) k=false→R=false):=fun h=>by rw[←HRT.out];exact allB_no h (by omega)
   have hk0:(0:Int)≤(k:Int):=by omega
   have hk1:(k:Int)<(nt:Int):=by omega
   have hwk:=wQz k (by omega)
   obtain⟨KS,hKS⟩:∃ K,pairsT ts k=K:=⟨_,rfl⟩
   rw[hKS]at HT HNX hkl HG
   obtain⟨U,hU,hC,hCb,hUs⟩:=box_new w1 #[.int .i64 y.id,.string (mkB y.service),.string (mkB y.name),.int .i64 y.inp,.int .i64 y.out] 64
   have HU:=hQz hU
   clear hsl hy hKS hU
   go_upto_region 5 with fail
   rw[HU.out]
   have l0:=cell_at hC 0 rfl
   have l1:=cell_at hC 1 rfl
   have HBU:=hQz (HB.out.trans (hCb.mono hsw))
   have HUS:=hQz ((hCb.block _ (by omega)).trans HS.out)
   have HUC:=hQz hC
   have HTU:Hid (IsSetP U (w.heap.size+1) KS):=⟨HT.out.1,HT.out.2.old (hCb.block _ hl2)⟩
   have hp1:=nameS_any y.service U (by omega)
   clear hC hCb e0 e1 e2 e3 e4 HT
   by_cases hid:y.id=(k:Int)+1
   case neg=>
    go_wp2_with fail
    go_ret
    exact⟨retB (HNO.out (by rw[HG.out];rw[decide_eq_false (by omega)];rfl)).symm,HBU.out⟩
   rw[hid]at l0 HUC
   have HID:=hQz hid
   clear hid
   generalize plainL y.service=B1 at *
   go_wp2_with fail
   refine hp1.mono ?_
   rintro e U1 ⟨rfl,hb1⟩
   have HB1:=hQz (HBU.out.trans (hb1.mono HBU.out.size))
   clear hp1
   cases B1
   case false=>
    go_wp2_with fail
    go_ret
    exact⟨retB (HNO.out (by rw[HG.out];simp)).symm,HB1.out⟩
   have h1c:=(hb1.block _ (by omega)).trans HUC.out
   have h1s:=(hb1.block _ (by omega)).trans HUS.out
   have q2:=cell_at h1c 2 rfl
   have HT1:Hid (IsSetP U1 (w.heap.size+1) KS):=⟨HTU.out.1,HTU.out.2.old (hb1.block _ (by omega))⟩
   have HUC1:=hQz h1c
   have HUS1:=hQz h1s
   have hs1:=hb1.size
   have hp2:=nameS_any y.name U1 (by omega)
   generalize plainL y.name=B2 at *
   clear h1c h1s hb1 l0 l1 HTU
   go_wp2_with fail
   refine hp2.mono ?_
   rintro e U2 ⟨rfl,hb2⟩
   have HB2:=hQz (HB1.out.trans (hb2.mono HB1.out.size))
   clear hp2
   cases B2
   case false=>
    go_wp2_with fail
    go_ret
    exact⟨retB (HNO.out (by rw[HG.out];simp)).symm,HB2.out⟩
   have h2c:=(hb2.block _ (by omega)).trans HUC1.out
   have h2s:=(hb2.block _ (by omega)).trans HUS1.out
   have r1:=cell_at h2c 1 rfl
   have r2:=cell_at h2c 2 rfl
   have HUC2:=hQz h2c
   have HUS2:=hQz h2s
   have hs2:=hb2.size
   have hadd:=addP_any (w.heap.size+1) KS (y.service,y.name) U2 ⟨HT1.out.1,HT1.out.2.old (hb2.block _ (by omega))⟩ hnl (by omega)
   obtain⟨B3,hB3⟩:∃ b,(!decide ((y.service,y.name)∈KS))=b:=⟨_,rfl⟩
   rw[hB3]at hadd HG
   dsimp only at hadd
   clear hB3 hb2 h2c h2s q2 HT1
   go_wp2_with fail
   refine hadd.mono ?_
   rintro e U3 ⟨rfl,hset,hgr⟩
   have HB3:=hQz (HB2.out.grown hgr HB2.out.size (fun b hb=>by cases hb;omega))
   have h3c:=(hgr.block _ (by omega) (by simp;omega)).trans HUC2.out
   have h3s:=(hgr.block _ (by omega) (by simp)).trans HUS2.out
   have HSET:=hQz hset
   have hs3:=hgr.size
   clear hadd hset hgr r1 r2
   cases B3
   case false=>
    go_wp2_with fail
    go_ret
    exact⟨retB (HNO.out (by rw[HG.out];simp)).symm,HB3.out⟩
   have s0:=cell_at h3s 0 rfl
   have s1:=cell_at h3s 1 rfl
   have s2:=cell_at h3s 2 rfl
   have l3:=cell_at h3c 3 rfl
   have HUC3:=hQz h3c
   have HUS3:=hQz h3s
   have hm1:=msgNumP_any ma ea (some ⟨g,o,none⟩) nm ne nt mc ec tc y.inp U3
   generalize inB nm y.inp=B4 at *
   clear h3c h3s
   go_wp2_with fail
   refine hm1.mono ?_
   rintro e U4 ⟨rfl,hb4⟩
   have HB4:=hQz (HB3.out.trans (hb4.mono HB3.out.size))
   clear hm1 s0 s1 s2 l3
   cases B4
   case false=>
    go_wp2_with fail
    go_ret
    exact⟨retB (HNO.out (by rw[HG.out];simp)).symm,HB4.out⟩
   have h4c:=(hb4.block _ (by omega)).trans HUC3.out
   have h4s:=(hb4.block _ (by omega)).trans HUS3.out
   have s0:=cell_at h4s 0 rfl
   have s1:=cell_at h4s 1 rfl
   have s2:=cell_at h4s 2 rfl
   have l4:=cell_at h4c 4 rfl
   have HUS4:=hQz h4s
   have hs4:=hb4.size
   have HT4:Hid (IsSetP U4 (w.heap.size+1) (KS++[(y.service,y.name)])):=⟨HSET.out.1,HSET.out.2.old (hb4.block _ HSET.out.2.lt)⟩
   have hm2:=msgNumP_any ma ea (some ⟨g,o,none⟩) nm ne nt mc ec tc y.out U4
   generalize inB nm y.out=B5 at *
   clear h4c h4s hb4
   go_wp2_with fail
   refine hm2.mono ?_
   rintro e U5 ⟨rfl,hb5⟩
   have HB5:=hQz (HB4.out.trans (hb5.mono HB4.out.size))
   clear hm2 s0 s1 s2 l4
   cases B5
   case false=>
    go_wp2_with fail
    go_ret
    exact⟨retB (HNO.out (by rw[HG.out];simp)).symm,HB5.out⟩
   have HS5:=hQz ((hb5.block _ (by omega)).trans HUS4.out)
   have HT5:Hid (IsSetP U5 (w.heap.size+1) (KS++[(y.service,y.name)])):=⟨HT4.out.1,HT4.out.2.old (hb5.block _ HT4.out.2.lt)⟩
   clear hb5
   go_wp2_with fail
   go_roundw
   case rel=>exact⟨k+1,by go_num,by omega,allB_step HALL.out (by rw[HG.out,decide_eq_true HID.out];rfl),HB5.out,HS5.out,by rw[HNX.out];exact HT5.out⟩
   case measure=>simp[intOf];omega
  ·have hkn':¬(k:Int)<(nt:Int):=by omega
   have hke:k=nt:=by omega
   have HRR:Hid (R=true):=by
    refine(?_:_=_)
    have h:=HALL.out
    rw[hke]at h
    rw[←HRT.out];exact h
   clear hke
   go_wp2_with fail
   go_ret
   exact⟨retB HRR.out.symm,HB.out⟩
theorem namesS_at1 {s:SC} {k:Nat} {y:MD} (h:s.ms[k]? = some y):(namesS s)[k]? = some y.name:=by
 unfold namesS
 have hk:=(List.getElem?_eq_some_iff.1 h).1
 rw[List.getElem?_append_left (by simpa using hk),List.getElem?_map,h];rfl
theorem namesS_at2 {s:SC} {k:Nat} {y:ED} (h:s.es[k]? = some y):(namesS s)[s.ms.length+k]? = some y.name:=by
 unfold namesS
 rw[List.getElem?_append_right (by simp),List.getElem?_map]
 simp[h]
theorem namesS_len (s:SC):(namesS s).length=s.ms.length+s.es.length:=by unfold namesS;simp
set_option maxHeartbeats 16000000 in
set_option maxRecDepth 20000 in
theorem namesP_any (ma ea ta:Option Addr) (nm ne nt mc ec tc:Nat) (s:SC) (w:World) (hnm:s.ms.length=nm) (hne:s.es.length=ne) (hf:(nm≤100000∧ne≤100000)∧(∀ m∈s.ms,m.name.length≤100000)∧∀ m∈s.es,m.name.length≤100000) (hH:HeldM w (fun b=>b<w.heap.size) (.slice ma nm mc) s.ms) (hE:HeldE w (fun b=>b<w.heap.size) (.slice ea ne ec) s.es) :
  Calls Tryz.prog 21 #[.agg #[.slice ma nm mc,.slice ea ne ec,.slice ta nt tc]] w fun e w'=>e=.returned (.bool (formN (namesS s)))∧Below w.heap.size w w':=by
 have HH:=hQz hH
 have HE:=hQz hE
 have HF:=hQz hf.2
 obtain⟨hn1,hn2⟩:=hf.1
 obtain⟨R,hR⟩:∃ r,formN (namesS s)=r:=⟨_,rfl⟩
 have HRT:Hid (allB (atB (namesS s) (goodN (namesS s))) (nm+ne)=R):=by
  refine(?_:_=_)
  rw[←hR,←hnm,←hne,←namesS_len];rfl
 have HN:=hQz hnm
 have HNE:=hQz hne
 rw[hR]
 obtain⟨Y,hY,hC,hb,hYs⟩:=box_new w #[.slice ma nm mc,.slice ea ne ec,.slice ta nt tc] 26
 obtain⟨V,hV,hM,hVb,hVs⟩:=map_new Y
 have HY:=hQz hY
 have HV:=hQz hV
 have HVB:=hQz (hb.trans (hVb.mono hb.size))
 rw[hYs]at hM hVb hVs
 have hC2:=(hVb.block _ (by omega)).trans hC
 have HSC:=hQz hC2
 have s0:=cell_at hC2 0 rfl
 have HSET:Hid (IsSet 9 litS V (w.heap.size+1) ((namesS s).take 0)):=isSet_made _ _ hM
 have hmm:=@run_makeMap Tryz.prog
 clear hH hE hf hnm hne hR hY hV hC hC2 hb hM hVb hYs hVs
 go_enter Tryz.func21,Tryz.ntmps21
 go_upto_region 2 with fail
 rw[HY.out,HV.out]
 clear hmm
 go_wp2_with fail
 clear s0
 go_loopw [12] (fun i wr=>∃ k:Nat,i=.int .i64 (k:Int)∧k≤nm∧allB (atB (namesS s) (goodN (namesS s))) (k)=true∧Below w.heap.size w wr∧wr.heap[w.heap.size]? = some (.cells #[.slice ma nm mc,.slice ea ne ec,.slice ta nt tc] 26 (0,0))∧IsSet 9 litS wr (w.heap.size+1) ((namesS s).take (k))) (fun i _=>nm - (intOf i).toNat)
 case atStart=>exact⟨0,rfl,Nat.zero_le _,rfl,HVB.out,HSC.out,HSET.out⟩
 case round=>
  generalize wr=w1 at *
  obtain⟨k,rfl,hk,hall,hbel,hsc,hset⟩:=hrel
  have hsw:=hbel.size
  have hl2:=hset.lt
  clear HVB HSC HSET
  have HALL:=hQz hall
  have HB:=hQz hbel
  have HS:=hQz hsc
  have HT:=hQz hset
  clear hall hbel hsc hset
  by_cases hkn:k<nm
  ·obtain⟨y,hy⟩:∃ y,s.ms[k]? = some y:=⟨_,List.getElem?_eq_getElem (by have:=HN.out;omega)⟩
   obtain⟨g,o,c0,ka,kc,hsl,hg,e0,e1,-⟩:=HeldN.at HH.out (W:=w1) (fun b hb=>HB.out.block b hb) hy
   obtain⟨rfl,rfl⟩:=slice_two hsl
   have hnl:=HF.out.1 y (List.mem_of_getElem? hy)
   have hna:=namesS_at1 hy
  
   have HNX:=hQz (take_snoc hna)
   have hkl:((namesS s).take (k)).length≤k:=by rw[List.length_take];omega
   have HG:Hid (atB (namesS s) (goodN (namesS s)) (k)=(pathOK y.name&&!decide (y.name∈(namesS s).take (k)))):=atB_some hna
   have HNO:Hid (atB (namesS s) (goodN (namesS s)) (k)=false→R=false):=fun h=>by rw[←HRT.out];exact allB_no h (by omega)
   have hk0:(0:Int)≤(k:Int):=by omega
   have hk1:(k:Int)<(nm:Int):=by omega
   have hwk:=wQz k (by omega)
   obtain⟨KS,hKS⟩:∃ K,(namesS s).take (k)=K:=⟨_,rfl⟩
   rw[hKS]at HT HNX hkl HG
   have hba:∃ b,b=y.fields:=⟨_,rfl⟩
   obtain⟨U,hU,hC,hCb,hUs⟩:=box_new w1 #[.string (mkB y.name),.slice ka y.fields.length kc] 54
   have HU:=hQz hU
   clear hsl hy hKS hU hna hba
   go_upto_region 5 with fail
   rw[HU.out]
   have l0:=cell_at hC 0 rfl
   have HBU:=hQz (HB.out.trans (hCb.mono hsw))
   have HUS:=hQz ((hCb.block _ (by omega)).trans HS.out)
   have hus:=HT.out.old (hCb.block _ hl2)
   have hp:=pathS_any y.name U (by omega)
   generalize pathOK y.name=B1 at *
   clear hC hCb e0 e1 HT
   go_wp2_with fail
   refine hp.mono ?_
   rintro e U1 ⟨rfl,hb1⟩
   have HB1:=hQz (HBU.out.trans (hb1.mono HBU.out.size))
   clear hp
   cases B1
   case false=>
    go_wp2_with fail
    go_ret
    exact⟨retB (HNO.out (by rw[HG.out];simp)).symm,HB1.out⟩
   have q0:U1.cell? ⟨w1.heap.size,0,none⟩=some (.string (mkB y.name)):=(hb1.cell (by simp;omega)).trans l0
   have HUS1:=hQz ((hb1.block _ (by omega)).trans HUS.out)
   have hs1:=hb1.size
   have hadd:=addS_any (w.heap.size+1) KS y.name U1 (hus.old (hb1.block _ (by omega))) (by omega) (by omega)
   obtain⟨B2,hB2⟩:∃ b,(!decide (y.name∈KS))=b:=⟨_,rfl⟩
   rw[hB2]at hadd HG
   clear hB2 hb1 l0 hus
   go_wp2_with fail
   refine hadd.mono ?_
   rintro e U2 ⟨rfl,hset,hgr⟩
   have HB2:=hQz (HB1.out.grown hgr HB1.out.size (fun b hb=>by cases hb;omega))
   have HS2:=hQz ((hgr.block _ (by omega) (by simp)).trans HUS1.out)
   have HT2:=hQz hset
   clear hadd hset hgr q0
   cases B2
   case false=>
    go_wp2_with fail
    go_ret
    exact⟨retB (HNO.out (by rw[HG.out];simp)).symm,HB2.out⟩
   go_wp2_with fail
   go_roundw
   case rel=>exact⟨k+1,by go_num,by omega,allB_step HALL.out (HG.out.trans rfl),HB2.out,HS2.out,by rw[HNX.out];exact HT2.out⟩
   case measure=>simp[intOf];omega
  ·have hkn':¬(k:Int)<(nm:Int):=by omega
   have hke:k=nm:=by omega
   have s1:=cell_at HS.out 1 rfl
   have HALL0:Hid (allB (atB (namesS s) (goodN (namesS s))) (nm+0)=true):=by
    refine(?_:_=_)
    rw[Nat.add_zero,←hke];exact HALL.out
   have HT0:Hid (IsSet 9 litS w1 (w.heap.size+1) ((namesS s).take (nm+0))):=by
    refine(?_:IsSet _ _ _ _ _)
    rw[Nat.add_zero,←hke];exact HT.out
   have HVB:=HB
   have HSC:=HS
   have HSET:=HT0
   clear hke HB HS HT HALL
   go_wp2_with fail
   clear s1
   go_loopw [31] (fun i wr=>∃ k:Nat,i=.int .i64 (k:Int)∧k≤ne∧allB (atB (namesS s) (goodN (namesS s))) (nm+k)=true∧Below w.heap.size w wr∧wr.heap[w.heap.size]? = some (.cells #[.slice ma nm mc,.slice ea ne ec,.slice ta nt tc] 26 (0,0))∧IsSet 9 litS wr (w.heap.size+1) ((namesS s).take (nm+k))) (fun i _=>ne - (intOf i).toNat)
   case atStart=>exact⟨0,rfl,Nat.zero_le _,HALL0.out,HVB.out,HSC.out,HSET.out⟩
   case round=>
    generalize wr=w2 at *
    obtain⟨k,rfl,hk,hall,hbel,hsc,hset⟩:=hrel
    have hsw:=hbel.size
    clear HALL0 HT0
    have hl2:=hset.lt
    clear HVB HSC HSET
    have HALL:=hQz hall
    have HB:=hQz hbel
    have HS:=hQz hsc
    have HT:=hQz hset
    clear hall hbel hsc hset
    by_cases hkn:k<ne
    ·obtain⟨y,hy⟩:∃ y,s.es[k]? = some y:=⟨_,List.getElem?_eq_getElem (by have:=HNE.out;omega)⟩
     obtain⟨g,o,c0,ka,kc,hsl,hg,e0,e1,-⟩:=HeldN.at HE.out (W:=w2) (fun b hb=>HB.out.block b hb) hy
     obtain⟨rfl,rfl⟩:=slice_two hsl
     have hnl:=HF.out.2 y (List.mem_of_getElem? hy)
     have hna:=namesS_at2 hy
     rw[HN.out]at hna
     have HNX:=hQz (take_snoc hna)
     have hkl:((namesS s).take (nm+k)).length≤nm+k:=by rw[List.length_take];omega
     have HG:Hid (atB (namesS s) (goodN (namesS s)) (nm+k)=(pathOK y.name&&!decide (y.name∈(namesS s).take (nm+k)))):=atB_some hna
     have HNO:Hid (atB (namesS s) (goodN (namesS s)) (nm+k)=false→R=false):=fun h=>by rw[←HRT.out];exact allB_no h (by omega)
     have hk0:(0:Int)≤(k:Int):=by omega
     have hk1:(k:Int)<(ne:Int):=by omega
     have hwk:=wQz k (by omega)
     obtain⟨KS,hKS⟩:∃ K,(namesS s).take (nm+k)=K:=⟨_,rfl⟩
     rw[hKS]at HT HNX hkl HG
     have hba:∃ b,b=y.values:=⟨_,rfl⟩
     obtain⟨U,hU,hC,hCb,hUs⟩:=box_new w2 #[.string (mkB y.name),.slice ka y.values.length kc] 60
     have HU:=hQz hU
     clear hsl hy hKS hU hna hba
     go_upto_region 11 with fail
     rw[HU.out]
     have l0:=cell_at hC 0 rfl
     have HBU:=hQz (HB.out.trans (hCb.mono hsw))
     have HUS:=hQz ((hCb.block _ (by omega)).trans HS.out)
     have hus:=HT.out.old (hCb.block _ hl2)
     have hp:=pathS_any y.name U (by omega)
     generalize pathOK y.name=B1 at *
     clear hC hCb e0 e1 HT
     go_wp2_with fail
     refine hp.mono ?_
     rintro e U1 ⟨rfl,hb1⟩
     have HB1:=hQz (HBU.out.trans (hb1.mono HBU.out.size))
     clear hp
     cases B1
     case false=>
      go_wp2_with fail
      go_ret
      exact⟨retB (HNO.out (by rw[HG.out];simp)).symm,HB1.out⟩
     have q0:U1.cell? ⟨w2.heap.size,0,none⟩=some (.string (mkB y.name)):=(hb1.cell (by simp;omega)).trans l0
     have HUS1:=hQz ((hb1.block _ (by omega)).trans HUS.out)
     have hs1:=hb1.size
     have hadd:=addS_any (w.heap.size+1) KS y.name U1 (hus.old (hb1.block _ (by omega))) (by omega) (by omega)
     obtain⟨B2,hB2⟩:∃ b,(!decide (y.name∈KS))=b:=⟨_,rfl⟩
     rw[hB2]at hadd HG
     clear hB2 hb1 l0 hus
     go_wp2_with fail
     refine hadd.mono ?_
     rintro e U2 ⟨rfl,hset,hgr⟩
     have HB2:=hQz (HB1.out.grown hgr HB1.out.size (fun b hb=>by cases hb;omega))
     have HS2:=hQz ((hgr.block _ (by omega) (by simp)).trans HUS1.out)
     have HT2:=hQz hset
     clear hadd hset hgr q0
     cases B2
     case false=>
      go_wp2_with fail
      go_ret
      exact⟨retB (HNO.out (by rw[HG.out];simp)).symm,HB2.out⟩
     go_wp2_with fail
     go_roundw
     case rel=>exact⟨k+1,by go_num,by omega,allB_step HALL.out (HG.out.trans rfl),HB2.out,HS2.out,by rw[←Nat.add_assoc,HNX.out];exact HT2.out⟩
     case measure=>simp[intOf];omega
    ·have hkn':¬(k:Int)<(ne:Int):=by omega
     have hke:k=ne:=by omega
     have HRR:Hid (R=true):=by
      refine(?_:_=_)
      rw[←HRT.out,←hke];exact HALL.out
     clear hke
     go_wp2_with fail
     go_ret
     exact⟨retB HRR.out.symm,HB.out⟩
def FitS (s:SC):Prop:=(s.ms.length≤100000∧s.es.length≤100000)∧(∀ m∈s.ms,m.name.length≤100000∧FitF m.fields)∧(∀ m∈s.es,m.name.length≤100000∧FitV m.values)∧FitT s.ts
def FormAns (s:SC) (w:World) (e:Ending) (w':World):Prop:=∃ b,e=.returned (.bool b)∧(b=true↔FormS s)∧Below w.heap.size w w'
theorem ringFit_of {s:SC} (hf:FitS s) (h:formM s.es.length s.ms.length s.ms=true):RingFit s.ms:=by
 refine⟨hf.1.1,fun m hm=>⟨(hf.2.1 m hm).2.1,fun f hfm hk hr=>?_⟩⟩
 obtain⟨i,hi⟩:=List.getElem?_of_mem hm
 have h1:=allA_iff.1 h i m hi
 unfold goodM at h1
 rw[Bool.and_eq_true]at h1
 obtain⟨j,hj⟩:=List.getElem?_of_mem hfm
 have h2:=allA_iff.1 h1.2 j f hj
 unfold goodF at h2
 simp only[Bool.and_eq_true]at h2
 have h3:=h2.2.2.2.2
 unfold typB at h3
 rw[hk,if_neg (by decide),if_pos rfl]at h3
 exact of_decide_eq_true h3
set_option maxHeartbeats 16000000 in
set_option maxRecDepth 20000 in
theorem formP_any (ma ea ta:Option Addr) (nm ne nt mc ec tc:Nat) (s:SC) (w:World) (hnm:s.ms.length=nm) (hne:s.es.length=ne) (hnt:s.ts.length=nt) (hf:FitS s) (hH:HeldSc w (fun b=>b<w.heap.size) (.slice ma nm mc) (.slice ea ne ec) (.slice ta nt tc) s) :
  Calls Tryz.prog 14 #[.agg #[.slice ma nm mc,.slice ea ne ec,.slice ta nt tc]] w fun e w'=>FormAns s w e w':=by
 obtain⟨Y,hY,hC,hb,hYs⟩:=box_new w #[.slice ma nm mc,.slice ea ne ec,.slice ta nt tc] 26
 have HHY:Hid (∀ W,Below Y.heap.size Y W→HeldM W (fun b=>b<W.heap.size) (.slice ma nm mc) s.ms∧HeldE W (fun b=>b<W.heap.size) (.slice ea ne ec) s.es∧HeldT W (fun b=>b<W.heap.size) (.slice ta nt tc) s.ts∧Below w.heap.size w W∧W.cell? ⟨w.heap.size,0,none⟩=some (.slice ma nm mc)∧W.cell? ⟨w.heap.size,1,none⟩=some (.slice ea ne ec)∧W.cell? ⟨w.heap.size,2,none⟩=some (.slice ta nt tc)):=by
  refine(?_:∀ W,_→_)
  intro W hW
  have hw:=hb.trans (hW.mono hb.size)
  have e1:=(hW.block _ (by omega)).trans hC
  have old:∀ b,b<w.heap.size→W.heap[b]? = w.heap[b]?:=fun b h=>hw.block b h
  have more:∀ b,b<w.heap.size→b<W.heap.size:=fun b h=>by have:=hw.size;omega
  exact⟨(HeldN.old hH.1 old).more more,(HeldN.old hH.2.1 old).more more,(RowsIn.old hH.2.2 old).more more,hw,cell_at e1 0 rfl,cell_at e1 1 rfl,cell_at e1 2 rfl⟩
 have HY:=hQz hY
 have HF:=hQz hf
 have HL:Hid (lenB s=decide (nm≤64∧ne≤64∧nt≤64)):=by
  refine(?_:_=_)
  unfold lenB;rw[hnm,hne,hnt]
 have h1:=namesP_any ma ea ta nm ne nt mc ec tc s Y hnm hne ⟨⟨by rw[←hnm];exact hf.1.1,by rw[←hne];exact hf.1.2⟩,fun m hm=>(hf.2.1 m hm).1,fun m hm=>(hf.2.2.1 m hm).1⟩ (HHY.out Y (Below.refl _ _)).1 (HHY.out Y (Below.refl _ _)).2.1
 have H2:Hid (∀ W,Below Y.heap.size Y W→Calls Tryz.prog 22 #[.agg #[.slice ma nm mc,.slice ea ne ec,.slice ta nt tc]] W fun e w'=>e=.returned (.bool (formM s.es.length s.ms.length s.ms))∧Below W.heap.size W w'):=by
  refine(?_:∀ W,_→_)
  intro W hW
  rw[hne,hnm]
  exact msgsP_any ma ea ta nm ne nt mc ec tc s.ms W hnm ⟨by rw[←hnm];exact hf.1.1,fun m hm=>(hf.2.1 m hm).2⟩ (HHY.out W hW).1
 have H3:Hid (∀ W,Below Y.heap.size Y W→Calls Tryz.prog 23 #[.slice ea ne ec] W fun e w'=>e=.returned (.bool (formE s.es))∧Below W.heap.size W w'):=by
  refine(?_:∀ W,_→_)
  intro W hW
  exact enumsP_any s.es _ W ⟨hf.1.2,fun m hm=>(hf.2.2.1 m hm).2⟩ (HHY.out W hW).2.1
 have H4:Hid (∀ W,Below Y.heap.size Y W→Calls Tryz.prog 24 #[.agg #[.slice ma nm mc,.slice ea ne ec,.slice ta nt tc]] W fun e w'=>e=.returned (.bool (formT s.ms.length s.ts))∧Below W.heap.size W w'):=by
  refine(?_:∀ W,_→_)
  intro W hW
  rw[hnm]
  exact methsP_any ma ea ta nm ne nt mc ec tc s.ts W hnt hf.2.2.2 (HHY.out W hW).2.2.1
 have H5:Hid (formM s.es.length s.ms.length s.ms=true→∀ W,Below Y.heap.size Y W→Calls Tryz.prog 25 #[.slice ma nm mc] W fun e w'=>AnyAns s.ms W e w'):=by
  refine(?_:_→∀ W,_→_)
  intro h W hW
  exact anyP_any s.ms _ W (ringFit_of hf h) (HHY.out W hW).1
 have HFM:Hid (formS s=(lenB s&&(formN (namesS s)&&(formM s.es.length s.ms.length s.ms&&(formE s.es&&formT s.ms.length s.ts))))):=rfl
 obtain⟨_,_,_,hby,s0,s1,s2⟩:=HHY.out Y (Below.refl _ _)
 have HBY:=hQz hby
 have HNO:Hid (∀ W,Below w.heap.size w W→formS s=false→FormAns s w (.returned (.bool false)) W):=fun W hW h=>⟨false,rfl,⟨(fun h=>by cases h),fun h'=>by rw[h'.1]at h;cases h⟩,hW⟩
 have HMS:=hQz hnm
 clear hH hf hnm hne hnt hY hb hC hby
 go_enter Tryz.func14,Tryz.ntmps14
 go_upto_region 1 with fail
 rw[HY.out]
 by_cases c1:nm≤64
 case neg=>
  have c1':¬(nm:Int)≤64:=by omega
  go_wp2_with fail
  go_ret
  exact HNO.out _ HBY.out (by rw[HFM.out,HL.out,decide_eq_false (by omega)];rfl)
 have c1':(nm:Int)≤64:=by omega
 by_cases c2:ne≤64
 case neg=>
  have c2':¬(ne:Int)≤64:=by omega
  go_wp2_with fail
  go_ret
  exact HNO.out _ HBY.out (by rw[HFM.out,HL.out,decide_eq_false (by omega)];rfl)
 have c2':(ne:Int)≤64:=by omega
 by_cases c3:nt≤64
 case neg=>
  have c3':¬(nt:Int)≤64:=by omega
  go_wp2_with fail
  go_ret
  exact HNO.out _ HBY.out (by rw[HFM.out,HL.out,decide_eq_false (by omega)];rfl)
 have c3':(nt:Int)≤64:=by omega
 have hlb:lenB s=true:=by rw[HL.out];exact decide_eq_true (by omega)
 rw[hlb]at HFM
 clear hlb HL
 generalize formN (namesS s)=B1 at *
 generalize hB2:formM s.es.length s.ms.length s.ms=B2 at *
 generalize formE s.es=B3 at *
 generalize formT s.ms.length s.ts=B4 at *
 clear hB2
 go_wp2_with fail
 refine h1.mono ?_
 rintro e U1 ⟨rfl,hb1⟩
 have HB1:=hQz hb1
 obtain⟨_,_,_,hy1,s0',s1',s2'⟩:=HHY.out U1 hb1
 have h2:=H2.out U1 hb1
 clear h1 hb1 s0 s1 s2
 cases B1
 case false=>
  go_wp2_with fail
  go_ret
  exact HNO.out _ hy1 (by rw[HFM.out];simp)
 have s0:=s0'
 have s1:=s1'
 have s2:=s2'
 clear s0' s1' s2' hy1
 go_wp2_with fail
 refine h2.mono ?_
 rintro e U2 ⟨rfl,hb2⟩
 have HB2:=hQz (HB1.out.trans (hb2.mono HB1.out.size))
 obtain⟨_,_,_,hy2,s0',s1',s2'⟩:=HHY.out U2 HB2.out
 have h3:=H3.out U2 HB2.out
 clear h2 hb2 s0 s1 s2
 cases B2
 case false=>
  go_wp2_with fail
  go_ret
  exact HNO.out _ hy2 (by rw[HFM.out];simp)
 clear s0' s2' hy2
 go_wp2_with fail
 refine h3.mono ?_
 rintro e U3 ⟨rfl,hb3⟩
 have HB3:=hQz (HB2.out.trans (hb3.mono HB2.out.size))
 obtain⟨_,_,_,hy3,s0,s1,s2⟩:=HHY.out U3 HB3.out
 have h4:=H4.out U3 HB3.out
 clear h3 hb3 s1'
 cases B3
 case false=>
  go_wp2_with fail
  go_ret
  exact HNO.out _ hy3 (by rw[HFM.out];simp)
 clear hy3
 go_wp2_with fail
 refine h4.mono ?_
 rintro e U4 ⟨rfl,hb4⟩
 have HB4:=hQz (HB3.out.trans (hb4.mono HB3.out.size))
 obtain⟨_,_,_,hy4,s0',s1',s2'⟩:=HHY.out U4 HB4.out
 have h5:=H5.out (by simp) U4 HB4.out
 have HY4:=hQz hy4
 clear h4 hb4 s0 s1 s2 s1' s2' hy4
 cases B4
 case false=>
  go_wp2_with fail
  go_ret
  exact HNO.out _ HY4.out (by rw[HFM.out];simp)
 go_wp2_with fail
 refine h5.mono ?_
 rintro e U5 ⟨b,rfl,hbi,hb5⟩
 have HB5:=hQz (HY4.out.trans (hb5.mono HY4.out.size))
 have HBI:=hQz hbi
 clear h5 hbi hb5 s0'
 cases b
 case true=>
  go_wp2_with fail
  go_ret
  exact⟨false,rfl,⟨(fun h=>by cases h),fun h=>by obtain⟨i,hi,hr⟩:=HBI.out.1 (by simp);exact absurd hr (h.2 i hi)⟩,HB5.out⟩
 go_wp2_with fail
 go_ret
 exact⟨true,rfl,⟨fun _=>⟨HFM.out,fun i hi hr=>absurd (HBI.out.2 ⟨i,hi,hr⟩) (by simp)⟩,fun _=>rfl⟩,HB5.out⟩
end Go.Proofs.YteajlfgbmefncaaGreatDoor
