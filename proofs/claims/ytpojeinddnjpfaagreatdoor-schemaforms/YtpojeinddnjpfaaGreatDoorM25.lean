/-
  Walks and plain words (FoT).
-/
import Derived.Test.YtpojeinddnjpfaaGreatDoorM24
namespace Go.Proofs.YtpojeinddnjpfaaGreatDoor
set_option linter.unusedVariables false
open Go.ChangeShapes Go.WideShapes Go.ChangeAt Go.RowKit Go.Maps Go.WideMaps

theorem aAm:(164:TypeId)<Tryz.prog.types.size:=of_decide_eq_true (by kernel_rfl)
theorem Vo:laidOutB Tryz.prog=true:=by kernel_rfl
theorem Pu:Tryz.prog.keyTypeAt 2 164=true:=by kernel_rfl
theorem Nb:KeyLaw Tryz.prog 164:=deep_law_laid Vo (m:=2) (by decide) aAm Pu (by kernel_rfl)
theorem aEz:Keyed Tryz.prog 164:=Keyed.of_law Nb
def pI (x:List UInt8 × List UInt8):Lit:=.string (keyBytes [.string x.1,.string x.2])
def okP (x:List UInt8 × List UInt8):Prop:=x.1.length≤100000∧x.2.length≤100000
theorem Vp:Tryz.prog.types.size≠0:=of_decide_eq_true (by kernel_rfl)
theorem Pv:∃ m,Tryz.prog.types.size=m+1:=Nat.exists_eq_succ_of_ne_zero Vp
theorem Bo (x:List UInt8 × List UInt8) (h:okP x):keyOf Tryz.prog 164 (.agg #[.string (aC x.1),.string (aC x.2)])=some (pI x):=by
 obtain⟨m,hm⟩:=Pv
 have h1:(aC x.1).size≤maxLen:=by rw[aV];have:=h.1;unfold maxLen;omega
 have h2:(aC x.2).size≤maxLen:=by rw[aV];have:=h.2;unfold maxLen;omega
 have hk:Tryz.prog.keyType 164=true:=by kernel_rfl
 have hc:Tryz.prog.cellsOf 164=2:=by kernel_rfl
 have hc9:Tryz.prog.cellsOf 9=1:=by kernel_rfl
 unfold keyOf
 simp only[Tryz.underlying164]
 rw[hk,hm]
 simp[Value.formed,Tryz.underlying164,hc,hc9,Program.keyLits,Value.cells,Tryz.underlying9,h1,h2,pI]
 rfl
theorem Vq {x y:List UInt8 × List UInt8} (hx:okP x) (hy:okP y) (h:pI x=pI y):x=y:=by
 have e:=Nb.inj (Bo x hx) (by rw[h];exact Bo y hy)
 obtain⟨x1,x2⟩:=x
 obtain⟨y1,y2⟩:=y
 simp[aC]at e
 rw[e.1,e.2]
def oA (w:World) (b:Nat) (ks:List (List UInt8 × List UInt8)):Prop:=(∀ y∈ks,okP y)∧cC 164 pI w b ks
theorem Pw (ks:List (List UInt8 × List UInt8)) (hks:∀ y∈ks,okP y) (x:List UInt8 × List UInt8) (hx:okP x) :
  Maps.size ((setOf (H:=Unit) (.agg []) (ks.map pI)).put (pI x) (.agg []))=Maps.size (setOf (H:=Unit) (.agg []) (ks.map pI))+(if x∈ks then 0 else 1):=by
 have hkk:∀ y∈ks.map pI,WideAt.IsKeyLit y:=by
  intro y hy
  obtain⟨z,_,rfl⟩:=List.mem_map.1 hy
  trivial
 have hm:(ks.map pI).any (fun y=>y.sameKey (pI x))=decide (x∈ks):=by
  rw[Bool.eq_iff_iff]
  simp only[List.any_map,List.any_eq_true,decide_eq_true_iff,Function.comp]
  constructor
  ·rintro⟨y,hy,h⟩
   have:=Vq (hks y hy) hx ((WideAt.sameKey_iff (b:=pI x) trivial).1 h)
   subst this;exact hy
  ·intro h
   exact⟨x,h,(WideAt.sameKey_iff (b:=pI x) trivial).2 rfl⟩
 rw[size_put (tidy_setOf _ _ hkk),has_setOf _ _ _ hkk,hm]
 by_cases h:x∈ks <;> simp[h]
set_option maxHeartbeats 4000000 in
theorem Vr (b:Nat) (ks:List (List UInt8 × List UInt8)) (x:List UInt8 × List UInt8) (w:World) (h:oA w b ks) (hx:okP x) (hl:ks.length≤1000000) :
  Calls Tryz.prog 88 #[.map (some b),.agg #[.string (aC x.1),.string (aC x.2)]] w fun e w'=>e=.returned (.bool (!decide (x∈ks)))∧oA w' b (ks++[x])∧w.grownBy w' (some b):=by
 obtain⟨hks,hset⟩:=h
 obtain⟨Y,hY,hC,hYb,hYs⟩:=bY w #[.string (aC x.1),.string (aC x.2)] 164
 have hg0:w.grownBy Y (some b):=by rw[←hY];exact World.grownBy_alloc _ _ _
 obtain⟨n,hn,hown⟩:=hset.old (hYb.block _ hset.lt)
 have HY:=aB hY
 have sB:=aB hg0
 have lB:Hid (∀ y∈ks++[x],okP y):=by
  refine(?_:∀ y,_→_)
  intro y hy
  rcases List.mem_append.1 hy with h | h
  ·exact hks y h
  ·rw[List.mem_singleton.1 h];exact hx
 have l0:=aA hC 0 rfl
 have l1:=aA hC 1 rfl
 have HOWN:=aB hown
 have hkey:=Bo x hx
 have hsz:=Pw ks hks x hx
 obtain⟨D,hD⟩:∃ D,setOf (H:=Unit) (.agg []) (ks.map pI)=D:=⟨_,rfl⟩
 have hsl:=hown.size_le
 rw[hD]at hown hsz HOWN hsl
 obtain⟨B,hB⟩:∃ B,(!decide (x∈ks))=B:=⟨_,rfl⟩
 obtain⟨s1,hs1⟩:∃ s1,Maps.size D=s1:=⟨_,rfl⟩
 obtain⟨s2,hs2⟩:∃ s2,Maps.size (D.put (pI x) (.agg []))=s2:=⟨_,rfl⟩
 have qF:Hid (((s1:Nat):Int)<((s2:Nat):Int)↔B=true):=by
  refine(?_:_↔_)
  rw[←hB,←hs1,←hs2,hsz]
  by_cases hm:x∈ks <;> simp[hm] <;> omega
 have HD:=aB hD
 have pE:=aB hs1
 have HS2:=aB hs2
 rw[hB]
 clear hD hsz hB hs1 hs2 hks hset hx hC hYb hY hg0
 go_enter Tryz.func88,Tryz.ntmps88
 go_upto_region 1 with fail
 rw[HY.out]
 go_wp2_with (first
  | (at_len;refine wpList_len_own _ rfl _ 161 rfl 164 174 Tryz.underlying161 _ b n D rfl HOWN.out ?_;rw[pE.out])
  | (at_mapUpdate;refine wpList_mapUpdate_own _ rfl _ _ _ 161 rfl 164 174 aEz Tryz.underlying161 _ b n D rfl HOWN.out (by unfold maxLen;omega) _ _ _ rfl rfl hkey _ [] unitElem_mk ?_;intro w1 hown1 Fg;have tQ:=aB hown1;have Pc:=aB Fg;clear hown1 Fg HOWN pE)
  | (at_len;refine wpList_len_own _ rfl _ 161 rfl 164 174 Tryz.underlying161 _ b (n+1) (D.put (pI x) (.agg [])) rfl tQ.out ?_;rw[HS2.out]))
 have hBv:decide (s1<s2)=B:=by
  have:=qF.out
  cases B
  ·simp at this ⊢;omega
  ·simp at this ⊢;omega
 rw[hBv]
 go_ret
 refine⟨rfl,⟨lB.out,n+1,by simp;omega,?_⟩,sB.out.trans Pc.out⟩
 rw[List.map_append,List.map_cons,List.map_nil,setOf_snoc,HD.out]
 exact tQ.out
def aLp (ts:List TD):Prop:=ts.length≤100000∧∀ t∈ts,t.service.length≤100000∧t.name.length≤100000
set_option maxHeartbeats 16000000 in
set_option maxRecDepth 20000 in
theorem Ka (ma ea ta:Option Addr) (nm ne nt mc ec tc:Nat) (ts:List TD) (w:World) (hnt:ts.length=nt) (hf:aLp ts) (hH:zL w (fun b=>b<w.heap.size) (.slice ta nt tc) ts) :
  Calls Tryz.prog 43 #[.agg #[.slice ma nm mc,.slice ea ne ec,.slice ta nt tc]] w fun e w'=>e=.returned (.bool (pT nm ts))∧Below w.heap.size w w':=by
 have HH:=aB hH
 have HF:=aB hf.2
 have hn0:=hf.1
 obtain⟨R,hR⟩:∃ r,pT nm ts=r:=⟨_,rfl⟩
 have qS:Hid (eX (fF ts (iO nm ts)) nt=R):=by
  refine(?_:_=_)
  rw[←hR,←hnt];rfl
 have HN:=aB hnt
 rw[hR]
 rw[hnt]at hn0
 obtain⟨Y,hY,hC,hb,hYs⟩:=bY w #[.slice ma nm mc,.slice ea ne ec,.slice ta nt tc] 29
 obtain⟨V,hV,hM,dO,iH⟩:=rP Y
 have HY:=aB hY
 have HV:=aB hV
 have iA:=aB (hb.trans (dO.mono hb.size))
 rw[hYs]at hM dO iH
 have hC2:=(dO.block _ (by omega)).trans hC
 have yH:=aB hC2
 have s2:=aA hC2 2 rfl
 have nZ:Hid (oA V (w.heap.size+1) []):=⟨(fun y hy=>by cases hy),dZ _ _ hM⟩
 have hmm:=@run_makeMap Tryz.prog
 clear hH hf hnt hR hY hV hC hC2 hb hM dO hYs iH
 go_enter Tryz.func43,Tryz.ntmps43
 go_upto_region 2 with fail
 rw[HY.out,HV.out]
 clear hmm
 go_wp2_with fail
 clear s2
 go_loopw [10] (fun i wr=>∃ k:Nat,i=.int .i64 (k:Int)∧k≤nt∧eX (fF ts (iO nm ts)) k=true∧Below w.heap.size w wr∧wr.heap[w.heap.size]? = some (.cells #[.slice ma nm mc,.slice ea ne ec,.slice ta nt tc] 29 (0,0))∧oA wr (w.heap.size+1) (iY ts k)) (fun i _=>nt - (intOf i).toNat)
 case atStart=>exact⟨0,rfl,Nat.zero_le _,rfl,iA.out,yH.out,nZ.out⟩
 case round=>
  generalize wr=w1 at *
  obtain⟨k,rfl,hk,hall,hbel,hsc,hset⟩:=hrel
  have hsw:=hbel.size
  have hl2:=hset.2.lt
  clear iA yH nZ
  have cW:=aB hall
  have HB:=aB hbel
  have HS:=aB hsc
  have HT:=aB hset
  clear hall hbel hsc hset
  by_cases hkn:k<nt
  ·obtain⟨y,hy⟩:∃ y,ts[k]? = some y:=⟨_,List.getElem?_eq_getElem (by have:=HN.out;omega)⟩
   obtain⟨g,o,c0,hsl,hg,e0,e1,e2,e3,e4⟩:=tR HH.out (W:=w1) (fun b hb=>HB.out.block b hb) hy
   rw[HN.out]at hsl
   obtain⟨rfl,rfl⟩:=aJ hsl
   have hnl:=HF.out y (List.mem_of_getElem? hy)
   have fS:=aB (Ex hy)
   have hkl:=Ji ts k
   have HG:Hid (fF ts (iO nm ts) k=(decide (y.id=(k:Int)+1)&&(aZ y.service&&(aZ y.name&&(!decide ((y.service,y.name)∈iY ts k)&&(Bb nm y.inp&&Bb nm y.out)))))):=dB hy
   have dR:Hid (fF ts (iO nm ts) k=false→R=false):=fun h=>by rw[←qS.out];exact cQ h (by omega)
   have hk0:(0:Int)≤(k:Int):=by omega
   have hk1:(k:Int)<(nt:Int):=by omega
   have hwk:=eE k (by omega)
   obtain⟨KS,lT⟩:∃ K,iY ts k=K:=⟨_,rfl⟩
   rw[lT]at HT fS hkl HG
   obtain⟨U,hU,hC,bG,Mu⟩:=bY w1 #[.int .i64 y.id,.string (aC y.service),.string (aC y.name),.int .i64 y.inp,.int .i64 y.out] 45
   have HU:=aB hU
   clear hsl hy lT hU
   go_upto_region 5 with fail
   rw[HU.out]
   have l0:=aA hC 0 rfl
   have l1:=aA hC 1 rfl
   have eY:=aB (HB.out.trans (bG.mono hsw))
   have Rv:=aB ((bG.block _ (by omega)).trans HS.out)
   have vF:=aB hC
   have HTU:Hid (oA U (w.heap.size+1) KS):=⟨HT.out.1,HT.out.2.old (bG.block _ hl2)⟩
   have hp1:=pA y.service U (by omega)
   clear hC bG e0 e1 e2 e3 e4 HT
   by_cases hid:y.id=(k:Int)+1
   case neg=>
    go_wp2_with fail
    go_ret
    exact⟨aU (dR.out (by rw[HG.out];rw[decide_eq_false (by omega)];rfl)).symm,eY.out⟩
   rw[hid]at l0 vF
   have HID:=aB hid
   clear hid
   generalize aZ y.service=B1 at *
   go_wp2_with fail
   refine hp1.mono ?_
   rintro e U1 ⟨rfl,hb1⟩
   have HB1:=aB (eY.out.trans (hb1.mono eY.out.size))
   clear hp1
   cases B1
   case false=>
    go_wp2_with fail
    go_ret
    exact⟨aU (dR.out (by rw[HG.out];simp)).symm,HB1.out⟩
   have h1c:=(hb1.block _ (by omega)).trans vF.out
   have Uf:=(hb1.block _ (by omega)).trans Rv.out
   have q2:=aA h1c 2 rfl
   have HT1:Hid (oA U1 (w.heap.size+1) KS):=⟨HTU.out.1,HTU.out.2.old (hb1.block _ (by omega))⟩
   have Vj:=aB h1c
   have Jy:=aB Uf
   have hs1:=hb1.size
   have hp2:=pA y.name U1 (by omega)
   generalize aZ y.name=B2 at *
   clear h1c Uf hb1 l0 l1 HTU
   go_wp2_with fail
   refine hp2.mono ?_
   rintro e U2 ⟨rfl,hb2⟩
   have HB2:=aB (HB1.out.trans (hb2.mono HB1.out.size))
   clear hp2
   cases B2
   case false=>
    go_wp2_with fail
    go_ret
    exact⟨aU (dR.out (by rw[HG.out];simp)).symm,HB2.out⟩
   have gH:=(hb2.block _ (by omega)).trans Vj.out
   have Cq:=(hb2.block _ (by omega)).trans Jy.out
   have r1:=aA gH 1 rfl
   have r2:=aA gH 2 rfl
   have aFa:=aB gH
   have aTf:=aB Cq
   have hs2:=hb2.size
   have hadd:=Vr (w.heap.size+1) KS (y.service,y.name) U2 ⟨HT1.out.1,HT1.out.2.old (hb2.block _ (by omega))⟩ hnl (by omega)
   obtain⟨B3,hB3⟩:∃ b,(!decide ((y.service,y.name)∈KS))=b:=⟨_,rfl⟩
   rw[hB3]at hadd HG
   dsimp only at hadd
   clear hB3 hb2 gH Cq q2 HT1
   go_wp2_with fail
   refine hadd.mono ?_
   rintro e U3 ⟨rfl,hset,hgr⟩
   have HB3:=aB (HB2.out.grown hgr HB2.out.size (fun b hb=>by cases hb;omega))
   have h3c:=(hgr.block _ (by omega) (by simp;omega)).trans aFa.out
   have Ho:=(hgr.block _ (by omega) (by simp)).trans aTf.out
   have nZ:=aB hset
   have hs3:=hgr.size
   clear hadd hset hgr r1 r2
   cases B3
   case false=>
    go_wp2_with fail
    go_ret
    exact⟨aU (dR.out (by rw[HG.out];simp)).symm,HB3.out⟩
   have s0:=aA Ho 0 rfl
   have s1:=aA Ho 1 rfl
   have s2:=aA Ho 2 rfl
   have l3:=aA h3c 3 rfl
   have aTh:=aB h3c
   have aTi:=aB Ho
   have hm1:=nY ma ea (some ⟨g,o,none⟩) nm ne nt mc ec tc y.inp U3
   generalize Bb nm y.inp=B4 at *
   clear h3c Ho
   go_wp2_with fail
   refine hm1.mono ?_
   rintro e U4 ⟨rfl,hb4⟩
   have HB4:=aB (HB3.out.trans (hb4.mono HB3.out.size))
   clear hm1 s0 s1 s2 l3
   cases B4
   case false=>
    go_wp2_with fail
    go_ret
    exact⟨aU (dR.out (by rw[HG.out];simp)).symm,HB4.out⟩
   have h4c:=(hb4.block _ (by omega)).trans aTh.out
   have h4s:=(hb4.block _ (by omega)).trans aTi.out
   have s0:=aA h4s 0 rfl
   have s1:=aA h4s 1 rfl
   have s2:=aA h4s 2 rfl
   have l4:=aA h4c 4 rfl
   have aTj:=aB h4s
   have hs4:=hb4.size
   have HT4:Hid (oA U4 (w.heap.size+1) (KS++[(y.service,y.name)])):=⟨nZ.out.1,nZ.out.2.old (hb4.block _ nZ.out.2.lt)⟩
   have hm2:=nY ma ea (some ⟨g,o,none⟩) nm ne nt mc ec tc y.out U4
   generalize Bb nm y.out=B5 at *
   clear h4c h4s hb4
   go_wp2_with fail
   refine hm2.mono ?_
   rintro e U5 ⟨rfl,hb5⟩
   have Px:=aB (HB4.out.trans (hb5.mono HB4.out.size))
   clear hm2 s0 s1 s2 l4
   cases B5
   case false=>
    go_wp2_with fail
    go_ret
    exact⟨aU (dR.out (by rw[HG.out];simp)).symm,Px.out⟩
   have HS5:=aB ((hb5.block _ (by omega)).trans aTj.out)
   have HT5:Hid (oA U5 (w.heap.size+1) (KS++[(y.service,y.name)])):=⟨HT4.out.1,HT4.out.2.old (hb5.block _ HT4.out.2.lt)⟩
   clear hb5
   go_wp2_with fail
   go_roundw
   case rel=>exact⟨k+1,by go_num,by omega,cP cW.out (by rw[HG.out,decide_eq_true HID.out];rfl),Px.out,HS5.out,by rw[fS.out];exact HT5.out⟩
   case measure=>simp[intOf];omega
  ·have hkn':¬(k:Int)<(nt:Int):=by omega
   have hke:k=nt:=by omega
   have HRR:Hid (R=true):=by
    refine(?_:_=_)
    have h:=cW.out
    rw[hke]at h
    rw[←qS.out];exact h
   clear hke
   go_wp2_with fail
   go_ret
   exact⟨aU HRR.out.symm,HB.out⟩
theorem wY {s:SC} {k:Nat} {y:MD} (h:s.ms[k]? = some y):(aS s)[k]? = some y.name:=by
 unfold aS
 have hk:=(List.getElem?_eq_some_iff.1 h).1
 rw[List.getElem?_append_left (by simpa using hk),List.getElem?_map,h];rfl
theorem wZ {s:SC} {k:Nat} {y:ED} (h:s.es[k]? = some y):(aS s)[s.ms.length+k]? = some y.name:=by
 unfold aS
 rw[List.getElem?_append_right (by simp),List.getElem?_map]
 simp[h]
theorem qN (s:SC):(aS s).length=s.ms.length+s.es.length:=by unfold aS;simp
set_option maxHeartbeats 16000000 in
set_option maxRecDepth 20000 in
theorem Kb (ma ea ta:Option Addr) (nm ne nt mc ec tc:Nat) (s:SC) (w:World) (hnm:s.ms.length=nm) (hne:s.es.length=ne) (hf:(nm≤100000∧ne≤100000)∧(∀ m∈s.ms,m.name.length≤100000)∧∀ m∈s.es,m.name.length≤100000) (hH:kQ w (fun b=>b<w.heap.size) (.slice ma nm mc) s.ms) (hE:rO w (fun b=>b<w.heap.size) (.slice ea ne ec) s.es) :
  Calls Tryz.prog 40 #[.agg #[.slice ma nm mc,.slice ea ne ec,.slice ta nt tc]] w fun e w'=>e=.returned (.bool (rI (aS s)))∧Below w.heap.size w w':=by
 have HH:=aB hH
 have HE:=aB hE
 have HF:=aB hf.2
 obtain⟨hn1,hn2⟩:=hf.1
 obtain⟨R,hR⟩:∃ r,rI (aS s)=r:=⟨_,rfl⟩
 have qS:Hid (eX (fF (aS s) (jT (aS s))) (nm+ne)=R):=by
  refine(?_:_=_)
  rw[←hR,←hnm,←hne,←qN];rfl
 have HN:=aB hnm
 have Ry:=aB hne
 rw[hR]
 obtain⟨Y,hY,hC,hb,hYs⟩:=bY w #[.slice ma nm mc,.slice ea ne ec,.slice ta nt tc] 29
 obtain⟨V,hV,hM,dO,iH⟩:=rP Y
 have HY:=aB hY
 have HV:=aB hV
 have iA:=aB (hb.trans (dO.mono hb.size))
 rw[hYs]at hM dO iH
 have hC2:=(dO.block _ (by omega)).trans hC
 have yH:=aB hC2
 have s0:=aA hC2 0 rfl
 have nZ:Hid (cC 9 eQ V (w.heap.size+1) ((aS s).take 0)):=dZ _ _ hM
 have hmm:=@run_makeMap Tryz.prog
 clear hH hE hf hnm hne hR hY hV hC hC2 hb hM dO hYs iH
 go_enter Tryz.func40,Tryz.ntmps40
 go_upto_region 2 with fail
 rw[HY.out,HV.out]
 clear hmm
 go_wp2_with fail
 clear s0
 go_loopw [12] (fun i wr=>∃ k:Nat,i=.int .i64 (k:Int)∧k≤nm∧eX (fF (aS s) (jT (aS s))) (k)=true∧Below w.heap.size w wr∧wr.heap[w.heap.size]? = some (.cells #[.slice ma nm mc,.slice ea ne ec,.slice ta nt tc] 29 (0,0))∧cC 9 eQ wr (w.heap.size+1) ((aS s).take (k))) (fun i _=>nm - (intOf i).toNat)
 case atStart=>exact⟨0,rfl,Nat.zero_le _,rfl,iA.out,yH.out,nZ.out⟩
 case round=>
  generalize wr=w1 at *
  obtain⟨k,rfl,hk,hall,hbel,hsc,hset⟩:=hrel
  have hsw:=hbel.size
  have hl2:=hset.lt
  clear iA yH nZ
  have cW:=aB hall
  have HB:=aB hbel
  have HS:=aB hsc
  have HT:=aB hset
  clear hall hbel hsc hset
  by_cases hkn:k<nm
  ·obtain⟨y,hy⟩:∃ y,s.ms[k]? = some y:=⟨_,List.getElem?_eq_getElem (by have:=HN.out;omega)⟩
   obtain⟨g,o,c0,ka,kc,hsl,hg,e0,e1,-⟩:=aW.at HH.out (W:=w1) (fun b hb=>HB.out.block b hb) hy
   obtain⟨rfl,rfl⟩:=aJ hsl
   have hnl:=HF.out.1 y (List.mem_of_getElem? hy)
   have hna:=wY hy
  
   have fS:=aB (aY hna)
   have hkl:((aS s).take (k)).length≤k:=by rw[List.length_take];omega
   have HG:Hid (fF (aS s) (jT (aS s)) (k)=(cF y.name&&!decide (y.name∈(aS s).take (k)))):=dB hna
   have dR:Hid (fF (aS s) (jT (aS s)) (k)=false→R=false):=fun h=>by rw[←qS.out];exact cQ h (by omega)
   have hk0:(0:Int)≤(k:Int):=by omega
   have hk1:(k:Int)<(nm:Int):=by omega
   have hwk:=eE k (by omega)
   obtain⟨KS,lT⟩:∃ K,(aS s).take (k)=K:=⟨_,rfl⟩
   rw[lT]at HT fS hkl HG
   have hba:∃ b,b=y.fields:=⟨_,rfl⟩
   obtain⟨U,hU,hC,bG,Mu⟩:=bY w1 #[.string (aC y.name),.slice ka y.fields.length kc] 48
   have HU:=aB hU
   clear hsl hy lT hU hna hba
   go_upto_region 5 with fail
   rw[HU.out]
   have l0:=aA hC 0 rfl
   have eY:=aB (HB.out.trans (bG.mono hsw))
   have Rv:=aB ((bG.block _ (by omega)).trans HS.out)
   have hus:=HT.out.old (bG.block _ hl2)
   have hp:=zS y.name U (by omega)
   generalize cF y.name=B1 at *
   clear hC bG e0 e1 HT
   go_wp2_with fail
   refine hp.mono ?_
   rintro e U1 ⟨rfl,hb1⟩
   have HB1:=aB (eY.out.trans (hb1.mono eY.out.size))
   clear hp
   cases B1
   case false=>
    go_wp2_with fail
    go_ret
    exact⟨aU (dR.out (by rw[HG.out];simp)).symm,HB1.out⟩
   have q0:U1.cell? ⟨w1.heap.size,0,none⟩=some (.string (aC y.name)):=(hb1.cell (by simp;omega)).trans l0
   have Jy:=aB ((hb1.block _ (by omega)).trans Rv.out)
   have hs1:=hb1.size
   have hadd:=gQ (w.heap.size+1) KS y.name U1 (hus.old (hb1.block _ (by omega))) (by omega) (by omega)
   obtain⟨B2,hB2⟩:∃ b,(!decide (y.name∈KS))=b:=⟨_,rfl⟩
   rw[hB2]at hadd HG
   clear hB2 hb1 l0 hus
   go_wp2_with fail
   refine hadd.mono ?_
   rintro e U2 ⟨rfl,hset,hgr⟩
   have HB2:=aB (HB1.out.grown hgr HB1.out.size (fun b hb=>by cases hb;omega))
   have HS2:=aB ((hgr.block _ (by omega) (by simp)).trans Jy.out)
   have HT2:=aB hset
   clear hadd hset hgr q0
   cases B2
   case false=>
    go_wp2_with fail
    go_ret
    exact⟨aU (dR.out (by rw[HG.out];simp)).symm,HB2.out⟩
   go_wp2_with fail
   go_roundw
   case rel=>exact⟨k+1,by go_num,by omega,cP cW.out (HG.out.trans rfl),HB2.out,HS2.out,by rw[fS.out];exact HT2.out⟩
   case measure=>simp[intOf];omega
  ·have hkn':¬(k:Int)<(nm:Int):=by omega
   have hke:k=nm:=by omega
   have s1:=aA HS.out 1 rfl
   have aCx:Hid (eX (fF (aS s) (jT (aS s))) (nm+0)=true):=by
    refine(?_:_=_)
    rw[Nat.add_zero,←hke];exact cW.out
   have HT0:Hid (cC 9 eQ w1 (w.heap.size+1) ((aS s).take (nm+0))):=by
    refine(?_:cC _ _ _ _ _)
    rw[Nat.add_zero,←hke];exact HT.out
   have iA:=HB
   have yH:=HS
   have nZ:=HT0
   clear hke HB HS HT cW
   go_wp2_with fail
   clear s1
   go_loopw [31] (fun i wr=>∃ k:Nat,i=.int .i64 (k:Int)∧k≤ne∧eX (fF (aS s) (jT (aS s))) (nm+k)=true∧Below w.heap.size w wr∧wr.heap[w.heap.size]? = some (.cells #[.slice ma nm mc,.slice ea ne ec,.slice ta nt tc] 29 (0,0))∧cC 9 eQ wr (w.heap.size+1) ((aS s).take (nm+k))) (fun i _=>ne - (intOf i).toNat)
   case atStart=>exact⟨0,rfl,Nat.zero_le _,aCx.out,iA.out,yH.out,nZ.out⟩
   case round=>
    generalize wr=w2 at *
    obtain⟨k,rfl,hk,hall,hbel,hsc,hset⟩:=hrel
    have hsw:=hbel.size
    clear aCx HT0
    have hl2:=hset.lt
    clear iA yH nZ
    have cW:=aB hall
    have HB:=aB hbel
    have HS:=aB hsc
    have HT:=aB hset
    clear hall hbel hsc hset
    by_cases hkn:k<ne
    ·obtain⟨y,hy⟩:∃ y,s.es[k]? = some y:=⟨_,List.getElem?_eq_getElem (by have:=Ry.out;omega)⟩
     obtain⟨g,o,c0,ka,kc,hsl,hg,e0,e1,-⟩:=aW.at HE.out (W:=w2) (fun b hb=>HB.out.block b hb) hy
     obtain⟨rfl,rfl⟩:=aJ hsl
     have hnl:=HF.out.2 y (List.mem_of_getElem? hy)
     have hna:=wZ hy
     rw[HN.out]at hna
     have fS:=aB (aY hna)
     have hkl:((aS s).take (nm+k)).length≤nm+k:=by rw[List.length_take];omega
     have HG:Hid (fF (aS s) (jT (aS s)) (nm+k)=(cF y.name&&!decide (y.name∈(aS s).take (nm+k)))):=dB hna
     have dR:Hid (fF (aS s) (jT (aS s)) (nm+k)=false→R=false):=fun h=>by rw[←qS.out];exact cQ h (by omega)
     have hk0:(0:Int)≤(k:Int):=by omega
     have hk1:(k:Int)<(ne:Int):=by omega
     have hwk:=eE k (by omega)
     obtain⟨KS,lT⟩:∃ K,(aS s).take (nm+k)=K:=⟨_,rfl⟩
     rw[lT]at HT fS hkl HG
     have hba:∃ b,b=y.values:=⟨_,rfl⟩
     obtain⟨U,hU,hC,bG,Mu⟩:=bY w2 #[.string (aC y.name),.slice ka y.values.length kc] 91
     have HU:=aB hU
     clear hsl hy lT hU hna hba
     go_upto_region 11 with fail
     rw[HU.out]
     have l0:=aA hC 0 rfl
     have eY:=aB (HB.out.trans (bG.mono hsw))
     have Rv:=aB ((bG.block _ (by omega)).trans HS.out)
     have hus:=HT.out.old (bG.block _ hl2)
     have hp:=zS y.name U (by omega)
     generalize cF y.name=B1 at *
     clear hC bG e0 e1 HT
     go_wp2_with fail
     refine hp.mono ?_
     rintro e U1 ⟨rfl,hb1⟩
     have HB1:=aB (eY.out.trans (hb1.mono eY.out.size))
     clear hp
     cases B1
     case false=>
      go_wp2_with fail
      go_ret
      exact⟨aU (dR.out (by rw[HG.out];simp)).symm,HB1.out⟩
     have q0:U1.cell? ⟨w2.heap.size,0,none⟩=some (.string (aC y.name)):=(hb1.cell (by simp;omega)).trans l0
     have Jy:=aB ((hb1.block _ (by omega)).trans Rv.out)
     have hs1:=hb1.size
     have hadd:=gQ (w.heap.size+1) KS y.name U1 (hus.old (hb1.block _ (by omega))) (by omega) (by omega)
     obtain⟨B2,hB2⟩:∃ b,(!decide (y.name∈KS))=b:=⟨_,rfl⟩
     rw[hB2]at hadd HG
     clear hB2 hb1 l0 hus
     go_wp2_with fail
     refine hadd.mono ?_
     rintro e U2 ⟨rfl,hset,hgr⟩
     have HB2:=aB (HB1.out.grown hgr HB1.out.size (fun b hb=>by cases hb;omega))
     have HS2:=aB ((hgr.block _ (by omega) (by simp)).trans Jy.out)
     have HT2:=aB hset
     clear hadd hset hgr q0
     cases B2
     case false=>
      go_wp2_with fail
      go_ret
      exact⟨aU (dR.out (by rw[HG.out];simp)).symm,HB2.out⟩
     go_wp2_with fail
     go_roundw
     case rel=>exact⟨k+1,by go_num,by omega,cP cW.out (HG.out.trans rfl),HB2.out,HS2.out,by rw[←Nat.add_assoc,fS.out];exact HT2.out⟩
     case measure=>simp[intOf];omega
    ·have hkn':¬(k:Int)<(ne:Int):=by omega
     have hke:k=ne:=by omega
     have HRR:Hid (R=true):=by
      refine(?_:_=_)
      rw[←qS.out,←hke];exact cW.out
     clear hke
     go_wp2_with fail
     go_ret
     exact⟨aU HRR.out.symm,HB.out⟩
def aAn (s:SC):Prop:=(s.ms.length≤100000∧s.es.length≤100000)∧(∀ m∈s.ms,m.name.length≤100000∧aEx m.fields)∧(∀ m∈s.es,m.name.length≤100000∧aEy m.values)∧aLp s.ts
def pB (s:SC) (w:World) (e:Ending) (w':World):Prop:=∃ b,e=.returned (.bool b)∧(b=true↔aKo s)∧Below w.heap.size w w'
theorem xA {s:SC} (hf:aAn s) (h:lO s.es.length s.ms.length s.ms=true):oX s.ms:=by
 refine⟨hf.1.1,fun m hm=>⟨(hf.2.1 m hm).2.1,fun f hfm hk hr=>?_⟩⟩
 obtain⟨i,hi⟩:=List.getElem?_of_mem hm
 have h1:=Eu.1 h i m hi
 unfold rJ at h1
 rw[Bool.and_eq_true]at h1
 obtain⟨j,hj⟩:=List.getElem?_of_mem hfm
 have h2:=Eu.1 h1.2 j f hj
 unfold kP at h2
 simp only[Bool.and_eq_true]at h2
 have h3:=h2.2.2.2.2
 unfold sV at h3
 rw[hk,if_neg (by decide),if_pos rfl]at h3
 exact of_decide_eq_true h3
set_option maxHeartbeats 16000000 in
set_option maxRecDepth 20000 in
theorem Py (ma ea ta:Option Addr) (nm ne nt mc ec tc:Nat) (s:SC) (w:World) (hnm:s.ms.length=nm) (hne:s.es.length=ne) (hnt:s.ts.length=nt) (hf:aAn s) (hH:cH w (fun b=>b<w.heap.size) (.slice ma nm mc) (.slice ea ne ec) (.slice ta nt tc) s) :
  Calls Tryz.prog 16 #[.agg #[.slice ma nm mc,.slice ea ne ec,.slice ta nt tc]] w fun e w'=>pB s w e w':=by
 obtain⟨Y,hY,hC,hb,hYs⟩:=bY w #[.slice ma nm mc,.slice ea ne ec,.slice ta nt tc] 29
 have xU:Hid (∀ W,Below Y.heap.size Y W→kQ W (fun b=>b<W.heap.size) (.slice ma nm mc) s.ms∧rO W (fun b=>b<W.heap.size) (.slice ea ne ec) s.es∧zL W (fun b=>b<W.heap.size) (.slice ta nt tc) s.ts∧Below w.heap.size w W∧W.cell? ⟨w.heap.size,0,none⟩=some (.slice ma nm mc)∧W.cell? ⟨w.heap.size,1,none⟩=some (.slice ea ne ec)∧W.cell? ⟨w.heap.size,2,none⟩=some (.slice ta nt tc)):=by
  refine(?_:∀ W,_→_)
  intro W hW
  have hw:=hb.trans (hW.mono hb.size)
  have e1:=(hW.block _ (by omega)).trans hC
  have old:∀ b,b<w.heap.size→W.heap[b]? = w.heap[b]?:=fun b h=>hw.block b h
  have more:∀ b,b<w.heap.size→b<W.heap.size:=fun b h=>by have:=hw.size;omega
  exact⟨(aW.old hH.1 old).more more,(aW.old hH.2.1 old).more more,(RowsIn.old hH.2.2 old).more more,hw,aA e1 0 rfl,aA e1 1 rfl,aA e1 2 rfl⟩
 have HY:=aB hY
 have HF:=aB hf
 have HL:Hid (Bc s=decide (nm≤64∧ne≤64∧nt≤64)):=by
  refine(?_:_=_)
  unfold Bc;rw[hnm,hne,hnt]
 have h1:=Kb ma ea ta nm ne nt mc ec tc s Y hnm hne ⟨⟨by rw[←hnm];exact hf.1.1,by rw[←hne];exact hf.1.2⟩,fun m hm=>(hf.2.1 m hm).1,fun m hm=>(hf.2.2.1 m hm).1⟩ (xU.out Y (Below.refl _ _)).1 (xU.out Y (Below.refl _ _)).2.1
 have H2:Hid (∀ W,Below Y.heap.size Y W→Calls Tryz.prog 41 #[.agg #[.slice ma nm mc,.slice ea ne ec,.slice ta nt tc]] W fun e w'=>e=.returned (.bool (lO s.es.length s.ms.length s.ms))∧Below W.heap.size W w'):=by
  refine(?_:∀ W,_→_)
  intro W hW
  rw[hne,hnm]
  exact Pt ma ea ta nm ne nt mc ec tc s.ms W hnm ⟨by rw[←hnm];exact hf.1.1,fun m hm=>(hf.2.1 m hm).2⟩ (xU.out W hW).1
 have H3:Hid (∀ W,Below Y.heap.size Y W→Calls Tryz.prog 42 #[.slice ea ne ec] W fun e w'=>e=.returned (.bool (pU s.es))∧Below W.heap.size W w'):=by
  refine(?_:∀ W,_→_)
  intro W hW
  exact Jz s.es _ W ⟨hf.1.2,fun m hm=>(hf.2.2.1 m hm).2⟩ (xU.out W hW).2.1
 have H4:Hid (∀ W,Below Y.heap.size Y W→Calls Tryz.prog 43 #[.agg #[.slice ma nm mc,.slice ea ne ec,.slice ta nt tc]] W fun e w'=>e=.returned (.bool (pT s.ms.length s.ts))∧Below W.heap.size W w'):=by
  refine(?_:∀ W,_→_)
  intro W hW
  rw[hnm]
  exact Ka ma ea ta nm ne nt mc ec tc s.ts W hnt hf.2.2.2 (xU.out W hW).2.2.1
 have H5:Hid (lO s.es.length s.ms.length s.ms=true→∀ W,Below Y.heap.size Y W→Calls Tryz.prog 44 #[.slice ma nm mc] W fun e w'=>Vm s.ms W e w'):=by
  refine(?_:_→∀ W,_→_)
  intro h W hW
  exact Vn s.ms _ W (xA hf h) (xU.out W hW).1
 have rU:Hid (rK s=(Bc s&&(rI (aS s)&&(lO s.es.length s.ms.length s.ms&&(pU s.es&&pT s.ms.length s.ts))))):=rfl
 obtain⟨_,_,_,hby,s0,s1,s2⟩:=xU.out Y (Below.refl _ _)
 have cE:=aB hby
 have dR:Hid (∀ W,Below w.heap.size w W→rK s=false→pB s w (.returned (.bool false)) W):=fun W hW h=>⟨false,rfl,⟨(fun h=>by cases h),fun h'=>by rw[h'.1]at h;cases h⟩,hW⟩
 have HMS:=aB hnm
 clear hH hf hnm hne hnt hY hb hC hby
 go_enter Tryz.func16,Tryz.ntmps16
 go_upto_region 1 with fail
 rw[HY.out]
 by_cases c1:nm≤64
 case neg=>
  have c1':¬(nm:Int)≤64:=by omega
  go_wp2_with fail
  go_ret
  exact dR.out _ cE.out (by rw[rU.out,HL.out,decide_eq_false (by omega)];rfl)
 have c1':(nm:Int)≤64:=by omega
 by_cases c2:ne≤64
 case neg=>
  have c2':¬(ne:Int)≤64:=by omega
  go_wp2_with fail
  go_ret
  exact dR.out _ cE.out (by rw[rU.out,HL.out,decide_eq_false (by omega)];rfl)
 have c2':(ne:Int)≤64:=by omega
 by_cases c3:nt≤64
 case neg=>
  have c3':¬(nt:Int)≤64:=by omega
  go_wp2_with fail
  go_ret
  exact dR.out _ cE.out (by rw[rU.out,HL.out,decide_eq_false (by omega)];rfl)
 have c3':(nt:Int)≤64:=by omega
 have hlb:Bc s=true:=by rw[HL.out];exact decide_eq_true (by omega)
 rw[hlb]at rU
 clear hlb HL
 generalize rI (aS s)=B1 at *
 generalize hB2:lO s.es.length s.ms.length s.ms=B2 at *
 generalize pU s.es=B3 at *
 generalize pT s.ms.length s.ts=B4 at *
 clear hB2
 go_wp2_with fail
 refine h1.mono ?_
 rintro e U1 ⟨rfl,hb1⟩
 have HB1:=aB hb1
 obtain⟨_,_,_,hy1,s0',s1',s2'⟩:=xU.out U1 hb1
 have h2:=H2.out U1 hb1
 clear h1 hb1 s0 s1 s2
 cases B1
 case false=>
  go_wp2_with fail
  go_ret
  exact dR.out _ hy1 (by rw[rU.out];simp)
 have s0:=s0'
 have s1:=s1'
 have s2:=s2'
 clear s0' s1' s2' hy1
 go_wp2_with fail
 refine h2.mono ?_
 rintro e U2 ⟨rfl,hb2⟩
 have HB2:=aB (HB1.out.trans (hb2.mono HB1.out.size))
 obtain⟨_,_,_,hy2,s0',s1',s2'⟩:=xU.out U2 HB2.out
 have h3:=H3.out U2 HB2.out
 clear h2 hb2 s0 s1 s2
 cases B2
 case false=>
  go_wp2_with fail
  go_ret
  exact dR.out _ hy2 (by rw[rU.out];simp)
 clear s0' s2' hy2
 go_wp2_with fail
 refine h3.mono ?_
 rintro e U3 ⟨rfl,hb3⟩
 have HB3:=aB (HB2.out.trans (hb3.mono HB2.out.size))
 obtain⟨_,_,_,hy3,s0,s1,s2⟩:=xU.out U3 HB3.out
 have h4:=H4.out U3 HB3.out
 clear h3 hb3 s1'
 cases B3
 case false=>
  go_wp2_with fail
  go_ret
  exact dR.out _ hy3 (by rw[rU.out];simp)
 clear hy3
 go_wp2_with fail
 refine h4.mono ?_
 rintro e U4 ⟨rfl,hb4⟩
 have HB4:=aB (HB3.out.trans (hb4.mono HB3.out.size))
 obtain⟨_,_,_,hy4,s0',s1',s2'⟩:=xU.out U4 HB4.out
 have h5:=H5.out (by simp) U4 HB4.out
 have HY4:=aB hy4
 clear h4 hb4 s0 s1 s2 s1' s2' hy4
 cases B4
 case false=>
  go_wp2_with fail
  go_ret
  exact dR.out _ HY4.out (by rw[rU.out];simp)
 go_wp2_with fail
 refine h5.mono ?_
 rintro e U5 ⟨b,rfl,hbi,hb5⟩
 have Px:=aB (HY4.out.trans (hb5.mono HY4.out.size))
 have wX:=aB hbi
 clear h5 hbi hb5 s0'
 cases b
 case true=>
  go_wp2_with fail
  go_ret
  exact⟨false,rfl,⟨(fun h=>by cases h),fun h=>by obtain⟨i,hi,hr⟩:=wX.out.1 (by simp);exact absurd hr (h.2 i hi)⟩,Px.out⟩
 go_wp2_with fail
 go_ret
 exact⟨true,rfl,⟨fun _=>⟨rU.out,fun i hi hr=>absurd (wX.out.2 ⟨i,hi,hr⟩) (by simp)⟩,fun _=>rfl⟩,Px.out⟩
end Go.Proofs.YtpojeinddnjpfaaGreatDoor
