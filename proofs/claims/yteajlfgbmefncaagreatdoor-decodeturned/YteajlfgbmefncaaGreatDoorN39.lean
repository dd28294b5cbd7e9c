/-
  Walks and plain words (DtW).
-/
import Derived.Test.YteajlfgbmefncaaGreatDoorN38
import Derived.Test.YteajlfgbmefncaaGreatDoorN20
import Derived.Test.YteajlfgbmefncaaGreatDoorN15
import Derived.Deep.Cut
import Derived.Deep.DeepCutAuto
import Derived.Deep.RegionHeldLaw
namespace Go.Proofs.YteajlfgbmefncaaGreatDoor
set_option linter.unusedVariables false
open Go.ChangeShapes Go.WideShapes Go.ChangeAt Go.RowKit

theorem rc_err {f:Nat} {R:Except Int Nd} {w W:World} {x:Int} (hR:R=.error x) (hx:x≠0) (hb:Below w.heap.size w W):RcAns f R w (.returned (.tuple #[.agg #[.int .i64 0,.int .i64 0,.int .u64 0,.bool false,.string ⟨#[]⟩,.int .i64 0,.slice none 0 0],.int .i64 x])) W:=by
 subst hR
 exact⟨_,_,_,_,_,_,_,_,_,_,rfl,⟨hx,rfl⟩,hb⟩
set_option maxHeartbeats 128000000 in
set_option maxRecDepth 20000 in
theorem decodeR9_any (ma ea ta:Option Addr) (nm ne nt mc ec tc:Nat) (ms:List MD) (hnm:ms.length=nm) (hK:KindOK ms) (hfm:∀ m∈ms,∃ a b,formF a b m.fields=true) (hml:∀ m∈ms,m.fields.length≤10000):∀ (f:Nat) (t dep:Int) (a:Option Addr) (len cap:Nat) (zs:List Int) (w:World),dep+(f:Int)=17→0≤dep→(TextIn ms→ValC w)→0≤t→t<(nm:Int)→HeldM w (fun b=>b<w.heap.size) (.slice ma nm mc) ms→SlS w a len cap zs→cap≤9223372036854775807→len≤100000→
  Calls Tryz.prog 18 #[.agg #[.slice ma nm mc,.slice ea ne ec,.slice ta nt tc],.int .i64 t,.slice a len cap,.int .i64 dep] w fun e w'=>RcAns f (decR ms f t zs) w e w':=by
 intro f
 induction f with
 | zero=>
  intro t dep a len cap zs w hd hd0 hval ht0 ht1 hHM hB hcm hlm
  obtain⟨Y,hY,hC,hb,hYs⟩:=box_new w #[.slice ma nm mc,.slice ea ne ec,.slice ta nt tc] 26
  obtain⟨V,hV,hD,hVb,hVs⟩:=box_new Y #[.int .i64 0,.int .i64 0,.int .u64 0,.bool false,.string ⟨#[]⟩,.int .i64 0,.slice none 0 0] 38
  have HY:=hQz hY
  have HV:=hQz hV
  rw[hYs]at hD
  have HBV:=hQz (hb.trans (hVb.mono hb.size))
  have hd16:(16:Int)<dep:=by omega
  clear hY hC hb hV hVb hB hHM hval hVs
  go_enter Tryz.func18,Tryz.ntmps18
  go_upto_region 1 with fail
  rw[HY.out,HV.out]
  clear hYs
  have z0:=cell_at hD 0 rfl
  have zf0:V.frozen? ⟨w.heap.size+1,0,none⟩=false:=frz_at hD 0
  have z1:=cell_at hD 1 rfl
  have zf1:V.frozen? ⟨w.heap.size+1,1,none⟩=false:=frz_at hD 1
  have z2:=cell_at hD 2 rfl
  have zf2:V.frozen? ⟨w.heap.size+1,2,none⟩=false:=frz_at hD 2
  have z3:=cell_at hD 3 rfl
  have zf3:V.frozen? ⟨w.heap.size+1,3,none⟩=false:=frz_at hD 3
  have z4:=cell_at hD 4 rfl
  have zf4:V.frozen? ⟨w.heap.size+1,4,none⟩=false:=frz_at hD 4
  have z5:=cell_at hD 5 rfl
  have zf5:V.frozen? ⟨w.heap.size+1,5,none⟩=false:=frz_at hD 5
  have z6:=cell_at hD 6 rfl
  have zf6:V.frozen? ⟨w.heap.size+1,6,none⟩=false:=frz_at hD 6
  obtain⟨Qz,hqz1,hQzc,hQzo,hQzs,hQzb⟩:=set7_all hD (.int .i64 0) (.int .i64 0) (.int .u64 0) (.bool false) (.string ⟨#[]⟩) (.int .i64 0) (.slice none 0 0)
  have HQZ:=hQz hqz1
  have HQZC:=hQz hQzc
  have HQZB:=hQz hQzb
  have HQZS:=hQz hQzs
  have HQZO:=hQz hQzo
  clear hqz1 hQzc hQzb hQzs hQzo
  go_wp2_with fail
  rw[HQZ.out]
  have q0:=cell_at HQZC.out 0 rfl
  have q1:=cell_at HQZC.out 1 rfl
  have q2:=cell_at HQZC.out 2 rfl
  have q3:=cell_at HQZC.out 3 rfl
  have q4:=cell_at HQZC.out 4 rfl
  have q5:=cell_at HQZC.out 5 rfl
  have q6:=cell_at HQZC.out 6 rfl
  refine bodyPost_ret (v:=.tuple #[.agg #[.int .i64 0,.int .i64 0,.int .u64 0,.bool false,.string ⟨#[]⟩,.int .i64 0,.slice none 0 0],.int .i64 8]) (by simp[results,Tryz.results18,go_sem,q0,q1,q2,q3,q4,q5,q6]) rfl ?_
  exact rc_err rfl (by decide) (HBV.out.trans (HQZB.out.mono (by omega)))
 | succ f ih=>
  intro t dep a len cap zs w hd hd0 hval ht0 ht1 hHM hB hcm hlm
  obtain⟨q,hq⟩:∃ q:Nat,t=(q:Int):=⟨t.toNat,by omega⟩
  subst hq
  have hd16:¬(16:Int)<dep:=by omega
  have HIH:Hid (∀ t W,0≤t→t<(nm:Int)→(TextIn ms→ValC W)→HeldM W (fun b=>b<W.heap.size) (.slice ma nm mc) ms→RecC ma ea ta nm ne nt mc ec tc f t dep (decR ms f) W):=fun t W h0 h1 h2 h3 W2 a len cap zs hb hs hc hl=>ih t (dep+1) a len cap zs W2 (by omega) (by omega) (fun h=>(h2 h).mv hb) h0 h1 (HeldN.more (HeldN.old h3 fun b h=>hb.block b h) fun b h=>by have h':b<W.heap.size:=h;have:=hb.size;omega) hs hc hl
  have hqn:q<nm:=by omega
  obtain⟨m,hm⟩:∃ m,ms[q]? = some m:=⟨_,List.getElem?_eq_getElem (by omega)⟩
  have hmm:=List.mem_of_getElem? hm
  have HFO:Hid (fieldsOf ms (q:Int)=m.fields):=by
   refine(?_:_=_)
   unfold fieldsOf
   rw[Int.toNat_natCast,hm]
  obtain⟨hri,hnu,hkd⟩:=hK m hmm
  obtain⟨fa,fb,hform⟩:=hfm m hmm
  have hmlen:=hml m hmm
  have HTX:Hid (∀ fd∈m.fields,fd.kind=5→∀ W,Below w.heap.size w W→ValC W):=fun fd hfd h5 W hW=>(hval ⟨m,hmm,fd,hfd,h5⟩).mv hW
  have HTW:Hid (∀ W,Below w.heap.size w W→TextIn ms→ValC W):=fun W hW h=>(hval h).mv hW
  obtain⟨mname,mfs⟩:=m
  dsimp only at HFO hri hnu hkd hform hmlen HTX
  have HRI:=hQz hri
  have HKD:=hQz hkd
  have HFM:=hQz hform
  clear hri hnu hkd hform ih hfm hml hval
  obtain⟨Y,hY,hC,hb,hYs⟩:=box_new w #[.slice ma nm mc,.slice ea ne ec,.slice ta nt tc] 26
  obtain⟨Z,hZ,hE,hZb,hZs⟩:=box_new Y #[.int .i64 0,.int .i64 0,.int .u64 0,.bool false,.string ⟨#[]⟩,.int .i64 0,.slice none 0 0] 38
  have HY:=hQz hY
  have HZ:=hQz hZ
  rw[hYs]at hE
  have hC2:=(hZb.block _ (by omega)).trans hC
  have hBZ:=hb.trans (hZb.mono hb.size)
  have hZl:w.heap.size+2=Z.heap.size:=by omega
  have HHM:=hQz hHM
  have HZBS:Hid (IsBs zs):=isB_bytes hB.1
  have HZLN:Hid (zs.length=len):=hB.1.1
  have hsp:=splitR_any a len cap zs Z (slS_old hB hBZ).1 hB.2.1 hcm (by omega)
  have HCZ:=hQz hC2
  have HEZ:=hQz hE
  have HBZ:=hQz hBZ
  clear hY hC hb hZ hE hZb hYs hZs hC2 hBZ hB hHM
  go_enter Tryz.func18,Tryz.ntmps18
  go_upto_region 1 with fail
  rw[HY.out,HZ.out]
  go_wp2_with fail
  refine hsp.mono ?_
  intro e W1 hans
  clear hsp
  cases hS:split zs with
  | none=>
   rw[hS]at hans
   obtain⟨rfl,hb1⟩:=hans
   have HRES:Hid (decR ms (f+1) (q:Int) zs=.error 2):=by
    refine(?_:_=_)
    unfold decR
    rw[hS]
   have hE1:=(hb1.block (w.heap.size+1) (by omega)).trans HEZ.out
   have HB1:=hQz (HBZ.out.trans (hb1.mono (by omega)))
   clear hb1 hS
   have z0:=cell_at hE1 0 rfl
   have zf0:W1.frozen? ⟨w.heap.size+1,0,none⟩=false:=frz_at hE1 0
   have z1:=cell_at hE1 1 rfl
   have zf1:W1.frozen? ⟨w.heap.size+1,1,none⟩=false:=frz_at hE1 1
   have z2:=cell_at hE1 2 rfl
   have zf2:W1.frozen? ⟨w.heap.size+1,2,none⟩=false:=frz_at hE1 2
   have z3:=cell_at hE1 3 rfl
   have zf3:W1.frozen? ⟨w.heap.size+1,3,none⟩=false:=frz_at hE1 3
   have z4:=cell_at hE1 4 rfl
   have zf4:W1.frozen? ⟨w.heap.size+1,4,none⟩=false:=frz_at hE1 4
   have z5:=cell_at hE1 5 rfl
   have zf5:W1.frozen? ⟨w.heap.size+1,5,none⟩=false:=frz_at hE1 5
   have z6:=cell_at hE1 6 rfl
   have zf6:W1.frozen? ⟨w.heap.size+1,6,none⟩=false:=frz_at hE1 6
   obtain⟨Qz,hqz1,hQzc,hQzo,hQzs,hQzb⟩:=set7_all hE1 (.int .i64 0) (.int .i64 0) (.int .u64 0) (.bool false) (.string ⟨#[]⟩) (.int .i64 0) (.slice none 0 0)
   have HQZ:=hQz hqz1
   have HQZC:=hQz hQzc
   have HQZB:=hQz hQzb
   have HQZS:=hQz hQzs
   have HQZO:=hQz hQzo
   clear hqz1 hQzc hQzb hQzs hQzo
   go_wp2_with fail
   rw[HQZ.out]
   have q0:=cell_at HQZC.out 0 rfl
   have q1:=cell_at HQZC.out 1 rfl
   have q2:=cell_at HQZC.out 2 rfl
   have q3:=cell_at HQZC.out 3 rfl
   have q4:=cell_at HQZC.out 4 rfl
   have q5:=cell_at HQZC.out 5 rfl
   have q6:=cell_at HQZC.out 6 rfl
   refine bodyPost_ret (v:=.tuple #[.agg #[.int .i64 0,.int .i64 0,.int .u64 0,.bool false,.string ⟨#[]⟩,.int .i64 0,.slice none 0 0],.int .i64 2]) (by simp[results,Tryz.results18,go_sem,q0,q1,q2,q3,q4,q5,q6]) rfl ?_
   exact rc_err HRES.out (by decide) (HB1.out.trans (HQZB.out.mono (by omega)))
  | some D=>
   rw[hS]at hans
   obtain⟨vF,vR,xs,ps,rfl,hst,hFF,hFR,hb1⟩:=hans
   have HPO:=hQz (split_ok _ (Nat.le_refl _) HZBS.out hS)
   have HFL:Hid ((D.flatMap fun p=>p.2)=zs):=split_flat zs D hS
   have hmb:D.length≤100000:=by
    have h1:=spl_len _ _ D HZBS.out hS
    have:=HZLN.out
    omega
   have hdl:∀ p∈D,p.1.data.length≤1000000:=fun p hp=>by
    have h1:=(HPO.out p hp).dl
    have h2:=piece_le hp
    rw[HFL.out,HZLN.out]at h2
    omega
   obtain⟨aF,cF,rfl,hWF⟩:=wf_split hst hFF hdl
   obtain⟨aR,cR,rfl,hcR,hRW⟩:=raw_split hst hFR
   have HDR:Hid (∀ R,exL (decRF (decR ms f) (knownL mfs D)) mfs=R→decR ms (f+1) (q:Int) zs=match R with
     | .error e=>.error e
     | .ok fl=>.ok ⟨7,0,0,false,u8s (unknL mfs D),(q:Int),fl⟩):=by
    refine(?_:∀ R,_→_)
    intro R hR
    unfold decR
    rw[hS]
    dsimp only
    rw[HFO.out,hR]
    rfl
   obtain⟨l,hl⟩:∃ l,D.map wfOf=l:=⟨_,rfl⟩
   have HL:=hQz hl
   rw[hl]at hWF
   obtain⟨m,hm2⟩:∃ m,D.length=m:=⟨_,rfl⟩
   have HLM:Hid (l.length=m):=by
    refine(?_:_=_)
    rw[←hl,List.length_map,hm2]
   rw[hm2]at hWF hcR hmb ⊢
   have HM:=hQz hm2
   have HWF:=hQz hWF
   have HRW:=hQz hRW
   have HE1:Hid (W1.heap[w.heap.size+1]? = some (.cells #[.int .i64 0,.int .i64 0,.int .u64 0,.bool false,.string ⟨#[]⟩,.int .i64 0,.slice none 0 0] 38 (0,0))):=(hb1.block (w.heap.size+1) (by omega)).trans HEZ.out
   have HC1:Hid (W1.heap[w.heap.size]? = some (.cells #[.slice ma nm mc,.slice ea ne ec,.slice ta nt tc] 26 (0,0))):=(hb1.block _ (by omega)).trans HCZ.out
   have hB1:=HBZ.out.trans (hb1.mono (by omega))
   have HB1:=hQz hB1
   have hW1l:w.heap.size+2≤W1.heap.size:=by have:=hb1.size;omega
   obtain⟨g,oo,c0,ka,kc,hsl,hg,e0,e1,hrow⟩:=HeldN.at HHM.out (W:=W1) (fun b hb=>hB1.block b hb) hm
   rw[hnm]at hsl
   obtain⟨rfl,rfl⟩:=slice_two hsl
   dsimp only at hrow e0 e1
   obtain⟨nf,hnf⟩:∃ n,mfs.length=n:=⟨_,rfl⟩
   have HNF:=hQz hnf
   rw[hnf]at hrow e1 hmlen
   have hgN:g<w.heap.size:=hg
   have HROW:Hid (∀ W,Below w.heap.size w W→RowsIn W (fun b=>b<W.heap.size) 5 fdrow (.slice ka nf kc) mfs):=fun W hW=>RowsIn.more (RowsIn.old hrow fun b hb=>(hW.block b hb).trans (hB1.block b hb).symm) fun b hb=>by have hb':b<w.heap.size:=hb;have:=hW.size;omega
   have HKN:Hid (∀ (num ty:Int) (W:World),Below w.heap.size w W→Calls Tryz.prog 39 #[.agg #[.string (mkB mname),.slice ka nf kc],.int .i64 num,.int .i64 ty] W fun e w'=>e=.returned (.bool (knownP mfs num ty))∧Below W.heap.size W w'):=by
    refine(?_:∀ (num ty:Int) (W:World),_→_)
    intro num ty W hW
    rw[known_eq HFM.out]
    exact knownR_any mname ka nf kc mfs num ty W HNF.out (by omega) (HROW.out W hW)
   obtain⟨P,hP,hPC,hPb,hPs⟩:=box_new W1 #[.string (mkB mname),.slice ka nf kc] 54
   obtain⟨V,hV,hVC,hVb,hVs⟩:=box_new P #[.int .i64 7,.int .i64 0,.int .u64 0,.bool false,.string ⟨#[]⟩,.int .i64 (q:Int),.slice none 0 0] 38
   rw[hPs]at hVC
   have HP:=hQz hP
   have HV:=hQz hV
   have hVl:W1.heap.size+2=V.heap.size:=by omega
   have h1V:=hPb.trans (hVb.mono (by omega))
   have HWV:=hQz h1V
   have HPV:Hid (V.heap[W1.heap.size]? = some (.cells #[.string (mkB mname),.slice ka nf kc] 54 (0,0))):=(hVb.block _ (by omega)).trans hPC
   have HOV:=hQz hVC
   have hq0:(0:Int)≤(q:Int):=by omega
   have hq1:(q:Int)<(nm:Int):=by omega
   have b0:=cell_at HC1.out 0 rfl
   clear hP hPC hPb hPs hV hVC hVb hVs h1V hst hFF hFR hdl hWF hRW hsl hrow hnf hg hl hm2 hm hS hb1 HEZ HCZ HBZ hB1 hZl
   go_upto_region 8 with fail
   rw[HP.out,HV.out]
   clear e0 e1 b0
   go_wp2_with fail
   go_loopw [47] (fun i wr=>∃ (k:Nat),i=.int .i64 (k:Int)∧k≤m∧Below (W1.heap.size+1) V wr∧W1.heap.size+2≤wr.heap.size∧wr.heap[W1.heap.size+1]? = some (.cells #[.int .i64 7,.int .i64 0,.int .u64 0,.bool false,.string (mkB (u8s (unknL mfs (D.take k)))),.int .i64 (q:Int),.slice none 0 0] 38 (0,0))) (fun i _=>m - (intOf i).toNat)
   case atStart=>exact⟨0,rfl,Nat.zero_le _,Below.refl _ _,by omega,HOV.out⟩
   case round=>
    generalize wr=w1 at *
    obtain⟨k,rfl,hk,hbel,hws,hob⟩:=hrel
    by_cases hkm:k<m
    ·obtain⟨p,hp⟩:∃ p,D[k]? = some p:=⟨_,List.getElem?_eq_getElem (by have:=HM.out;omega)⟩
     have hlx:l[k]? = some (wfOf p):=by rw[←HL.out,List.getElem?_map,hp];rfl
     obtain⟨gF,oF,gc,hsl,hgF,da,dc,hcl,hbi⟩:=SlIn.at HWF.out hlx
     rw[HLM.out]at hsl
     obtain⟨rfl,rfl⟩:=slice_two hsl
     obtain⟨gR,ra,rl,rc,haR,hgR,hcr,hrI⟩:=HRW.out k p hp
     subst haR
     have hgN2:gF<W1.heap.size:=hgF
     have hw1B:Below W1.heap.size W1 w1:=HWV.out.trans (hbel.mono (by omega))
     have HW1B:=hQz hw1B
     have s0:∀ W,Below w1.heap.size w1 W→W.cell? ⟨gF,oF+k*4,none⟩=some (.int .i64 p.1.num):=fun W hW=>by have h:=(hcl.old ((hw1B.trans (hW.mono hw1B.size)).block gF hgN2)) 0 _ rfl;simpa [wfOf]using h
     have s1:∀ W,Below w1.heap.size w1 W→W.cell? ⟨gF,oF+k*4+1,none⟩=some (.int .i64 p.1.ty):=fun W hW=>by have h:=(hcl.old ((hw1B.trans (hW.mono hw1B.size)).block gF hgN2)) 1 _ rfl;simpa [wfOf]using h
     have hPw:=(hbel.block W1.heap.size (by omega)).trans HPV.out
     have d0:∀ W,Below w1.heap.size w1 W→W.cell? ⟨W1.heap.size,0,none⟩=some (.string (mkB mname)):=fun W hW=>(hW.cell (by simp;omega)).trans (cell_at hPw 0 rfl)
     have d1:∀ W,Below w1.heap.size w1 W→W.cell? ⟨W1.heap.size,1,none⟩=some (.slice ka nf kc):=fun W hW=>(hW.cell (by simp;omega)).trans (cell_at hPw 1 rfl)
     have HPR:Hid (∀ W,Below W1.heap.size W1 W→W.cell? ⟨gR,k,none⟩=some (.slice ra rl rc)):=fun W hW=>(hW.cell hgR).trans hcr
     have HCV:Hid (∀ W,Below W1.heap.size W1 W→(convert 27 9 (.slice ra rl rc)).run Tryz.prog W=.ok (.string (mkB (u8s p.2))) W):=fun W hW=>run_strT 9 Tryz.underlying9 W ra rl rc p.2 (isB_old hrI hW)
     have HKP:=hQz (HKN.out p.1.num p.1.ty)
     obtain⟨b,hbk⟩:∃ b,isKn mfs p=b:=⟨_,rfl⟩
     have HBK:Hid (knownP mfs p.1.num p.1.ty=b):=hbk
     have HST:Hid (mkB (u8s (unknL mfs (D.take (k+1))))=if b=true then mkB (u8s (unknL mfs (D.take k))) else mkB (u8s (unknL mfs (D.take k)))++mkB (u8s p.2)):=by
      refine(?_:_=_)
      cases b with
      | true=>rw[unkn_same hp hbk,if_pos rfl]
      | false=>rw[unkn_str hp hbk,if_neg (by simp)]
     have HUL:Hid ((mkB (u8s (unknL mfs (D.take k)))).size+(mkB (u8s p.2)).size≤1000000):=by
      refine(?_:(_:Nat)≤_)
      have h1:=unkn_len mfs D k
      have h2:=piece_le (List.mem_of_getElem? hp)
      rw[HFL.out,HZLN.out]at h1 h2
      rw[mkB_szR,mkB_szR,u8s_len,u8s_len]
      omega
     have HBE:=hQz hbel
     have HOB:=hQz hob
     have hBw:Below w.heap.size w w1:=HB1.out.trans (hw1B.mono HB1.out.size)
     have HBw:=hQz hBw
     have hk0:(0:Int)≤(k:Int):=by omega
     have hk1:(k:Int)<(m:Int):=by omega
     have hwk:=wQz k (by omega)
     rw[HBK.out]at HKP
     generalize mkB (u8s (unknL mfs (D.take k)))=T at *
     generalize mkB (u8s p.2)=T2 at *
     generalize p.1.num=pn at *
     generalize p.1.ty=pt at *
     clear hlx hp hsl hgF hcl hbi hcr hrI hw1B hPw hob hbel hbk hBw
     go_upto_region 11 with fail
     have hS0:Below w1.heap.size w1 w1.drew:=(Below.refl _ _).drew
     refine wp_region_held_drew (S:=fun W=>Below w1.heap.size w1 W) (by kernel_rfl) hS0 (fun _=>?_)
     refine T_on 0 (.agg #[.string (mkB mname),.slice ka nf kc]) rfl (by kernel_rfl) (fun _ _ _ h=>h) hS0 (fun W hW=>by have c0:=d0 W hW;have c1:=d1 W hW;go_simp) ?_
     refine T_on 1 (.slice (some ⟨gF,oF,none⟩) m cF) rfl (by kernel_rfl) (fun _ _ _ h=>h) hS0 (fun W hW=>by go_simp) ?_
     refine T_on 2 (.int .i64 (k:Int)) rfl (by kernel_rfl) (fun _ _ _ h=>h) hS0 (fun W hW=>by go_simp) ?_
     refine T_on 3 (.pointer (some ⟨gF,oF+k*4,none⟩)) rfl (by kernel_rfl) (fun _ _ _ h=>h) hS0 (fun W hW=>by go_simp) ?_
     refine T_on 4 (.pointer (some ⟨gF,oF+k*4,none⟩)) rfl (by kernel_rfl) (fun _ _ _ h=>h) hS0 (fun W hW=>by go_simp) ?_
     refine T_on 5 (.int .i64 pn) rfl (by kernel_rfl) (fun _ _ _ h=>h) hS0 (fun W hW=>by have c0:=s0 W hW;go_simp) ?_
     refine T_on 6 (.slice (some ⟨gF,oF,none⟩) m cF) rfl (by kernel_rfl) (fun _ _ _ h=>h) hS0 (fun W hW=>by go_simp) ?_
     refine T_on 7 (.int .i64 (k:Int)) rfl (by kernel_rfl) (fun _ _ _ h=>h) hS0 (fun W hW=>by go_simp) ?_
     refine T_on 8 (.pointer (some ⟨gF,oF+k*4,none⟩)) rfl (by kernel_rfl) (fun _ _ _ h=>h) hS0 (fun W hW=>by go_simp) ?_
     refine T_on 9 (.pointer (some ⟨gF,oF+k*4+1,none⟩)) rfl (by kernel_rfl) (fun _ _ _ h=>h) hS0 (fun W hW=>by go_simp) ?_
     refine T_on 10 (.int .i64 pt) rfl (by kernel_rfl) (fun _ _ _ h=>h) hS0 (fun W hW=>by have c0:=s1 W hW;go_simp) ?_
     refine T_call 11 (by kernel_rfl) rfl (fun K' hK'=>?_)
     go_simp
     refine(HKP.out _ (HBw.out.trans (hS0.mono HBw.out.size))).mono ?_
     rintro e W2 ⟨rfl,hb2⟩
     have hS1:Below w1.heap.size w1 W2:=hS0.trans hb2
     clear hb2 hS0
     dsimp only
     refine hK'.out _ _ hS1 (fun _=>?_)
     clear hK' K'
     refine T_on 12 (.bool (!b)) rfl (by kernel_rfl) (fun _ _ _ h=>h) hS1 (fun W hW=>by go_simp) ?_
     refine wpAnyH_done (by kernel_rfl) ?_ _
     go_simp
     have HS1:=hQz hS1
     have hOB2:W2.heap[W1.heap.size+1]? = some (.cells #[.int .i64 7,.int .i64 0,.int .u64 0,.bool false,.string T,.int .i64 (q:Int),.slice none 0 0] 38 (0,0)):=(hS1.block _ (by omega)).trans HOB.out
     have hW2s:w1.heap.size≤W2.heap.size:=hS1.size
     clear s0 s1 d0 d1
     cases b with
     | true=>
      rw[if_pos rfl]at HST
      go_wp2_with fail
      go_roundw
      case rel=>exact⟨k+1,by go_num,by omega,HBE.out.trans (HS1.out.mono (by omega)),by omega,by rw[HST.out];exact hOB2⟩
      case measure=>simp[intOf];omega
     | false=>
      rw[if_neg (by simp)]at HST
      have HOB2:=hQz hOB2
      clear hOB2
      go_upto_region 12 with fail
      refine region_G 9 (fun W=>Below W1.heap.size W1 W) (fun W=>W.heap[W1.heap.size+1]? = some (.cells #[.int .i64 7,.int .i64 0,.int .u64 0,.bool false,.string T,.int .i64 (q:Int),.slice none 0 0] 38 (0,0))) (by kernel_rfl) ?_
      have hy0:Below W1.heap.size W1 W2.drew:=(HW1B.out.trans (HS1.out.mono HW1B.out.size)).drew
      have hsp0:W2.drew.heap[W1.heap.size+1]? = some (.cells #[.int .i64 7,.int .i64 0,.int .u64 0,.bool false,.string T,.int .i64 (q:Int),.slice none 0 0] 38 (0,0)):=HOB2.out
      refine G_take (i:=0) (v:=.pointer (some ⟨W1.heap.size+1,4,none⟩)) [7,1,0] rfl (by kernel_rfl) (fun _ _ _ h=>h) (.inl ⟨by kernel_rfl,fun W hW=>by go_simp⟩) ⟨hy0,fun _=>hsp0⟩ ?_
      refine G_take (i:=1) (v:=.string T) [7,1] rfl (by kernel_rfl) (fun _ _ _ h=>h) (.inl ⟨by kernel_rfl,fun W hW=>by have c0:=cell_at hW.2 4 rfl;go_simp⟩) ⟨hy0,fun _=>hsp0⟩ ?_
      refine G_take (i:=2) (v:=.slice (some ⟨gR,0,none⟩) m cR) [7,6,5,4,2] rfl (by kernel_rfl) (fun _ _ _ h=>h) (.inl ⟨by kernel_rfl,fun W hW=>by go_simp⟩) ⟨hy0,fun _=>hsp0⟩ ?_
      refine G_take (i:=3) (v:=.int .i64 (k:Int)) [7,6,5,4,3] rfl (by kernel_rfl) (fun _ _ _ h=>h) (.inl ⟨by kernel_rfl,fun W hW=>by go_simp⟩) ⟨hy0,fun _=>hsp0⟩ ?_
      refine G_take (i:=4) (v:=.pointer (some ⟨gR,k,none⟩)) [7,6,5,4] rfl (by kernel_rfl) (fun _ _ _ h=>h) (.inl ⟨by kernel_rfl,fun W hW=>by go_simp⟩) ⟨hy0,fun _=>hsp0⟩ ?_
      refine G_take (i:=5) (v:=.slice ra rl rc) [7,6,5] rfl (by kernel_rfl) (fun _ _ _ h=>h) (.inl ⟨by kernel_rfl,fun W hW=>by have c0:=HPR.out W hW.1;go_simp⟩) ⟨hy0,fun _=>hsp0⟩ ?_
      refine G_take (i:=6) (v:=.string T2) [7,6] rfl (by kernel_rfl) (fun _ _ _ h=>h) (.inl ⟨by kernel_rfl,fun W hW=>by have c0:=HCV.out W hW.1;go_simp⟩) ⟨hy0,fun _=>hsp0⟩ ?_
      refine G_take (i:=7) (v:=.string (T++T2)) [7] rfl (by kernel_rfl) (fun _ _ _ h=>h) (.inl ⟨by kernel_rfl,fun W hW=>by go_simp;have:=HUL.out;omega⟩) ⟨hy0,fun _=>hsp0⟩ ?_
      refine G_take (i:=8) (v:=.pointer (some ⟨W1.heap.size+1,4,none⟩)) [8] rfl (by kernel_rfl) (fun _ _ _ h=>h) (.inl ⟨by kernel_rfl,fun W hW=>by go_simp⟩) ⟨hy0,fun _=>hsp0⟩ ?_
      refine G_one (i:=9) (by kernel_rfl) rfl (fun K' hK'=>?_)
      have c61:=cell_at hsp0 4 rfl
      have f61:W2.drew.frozen? ⟨W1.heap.size+1,4,none⟩=false:=frz_at hsp0 4
      go_simp
      obtain⟨Q,hQ⟩:∃ Q,(W2.setCell ⟨W1.heap.size+1,4,none⟩ (.string (T++T2))).drew=Q:=⟨_,rfl⟩
      have hQp:Q.heap[W1.heap.size+1]? = some (.cells #[.int .i64 7,.int .i64 0,.int .u64 0,.bool false,.string (T++T2),.int .i64 (q:Int),.slice none 0 0] 38 (0,0)):=by rw[←hQ];show (W2.setCell _ _).heap[_]? = _;rw[setCell_heap HOB2.out];rfl
      have hQs:Q.heap.size=W2.heap.size:=by rw[←hQ];simp
      have hQb:Below (W1.heap.size+1) V Q:=by rw[←hQ];exact((HBE.out.trans (HS1.out.mono (by omega))).setCell (p:=⟨W1.heap.size+1,4,none⟩) (Nat.le_refl _) _).drew
      rw[hQ]
      refine hK'.out _ _ ⟨by rw[←hQ];exact((HW1B.out.trans (HS1.out.mono HW1B.out.size)).setCell (p:=⟨W1.heap.size+1,4,none⟩) (by simp) _).drew,fun h=>(by cases h)⟩ ?_
      clear hK' K' hsp0
      have HQB:=hQz hQb
      have HQP:=hQz hQp
      clear hQ hQp hQb c61 f61 hy0
      refine G_done (by kernel_rfl) ?_ _
      go_wp2_with fail
      go_roundw
      case rel=>exact⟨k+1,by go_num,by omega,HQB.out,by omega,by rw[HST.out];exact HQP.out⟩
      case measure=>simp[intOf];omega
    ·have hkm':¬(k:Int)<(m:Int):=by omega
     have hte:D.take k=D:=List.take_of_length_le (by have:=HM.out;omega)
     rw[hte]at hob
     obtain⟨S0,hS0⟩:∃ S,mkB (u8s (unknL mfs D))=S:=⟨_,rfl⟩
     rw[hS0]at hob
     have HS0:=hQz hS0
     clear hS0
     have HOB:=hQz hob
     have HB1V:=hQz hbel
     have hPw:=(hbel.block W1.heap.size (by omega)).trans HPV.out
     have d1:=cell_at hPw 1 rfl
     clear hob hbel hPw hte hkm' hk HOV
     go_wp2_with fail
     clear d1
     go_loopw [76] (fun i wr=>∃ (k2:Nat) (fv:Value) (fl:List (Int × List Nd)) (rs:List (List Value)),i=.int .i64 (k2:Int)∧k2≤nf∧Below (W1.heap.size+1) V wr∧W1.heap.size+2≤wr.heap.size∧wr.heap[W1.heap.size+1]? = some (.cells #[.int .i64 7,.int .i64 0,.int .u64 0,.bool false,.string S0,.int .i64 (q:Int),fv] 38 (0,0))∧Gr (FRs clS f) wr (W1.heap.size+2) 57 2 fv fl rs∧exL (decRF (decR ms f) (knownL mfs D)) (mfs.take k2)=.ok fl) (fun i _=>nf - (intOf i).toNat)
     case atStart=>exact⟨0,_,[],[],rfl,Nat.zero_le _,HB1V.out,hws,HOB.out,Gr.nil _ _ _ _ _,rfl⟩
     case round=>
      clear hws HOB HB1V
      generalize wr=w2 at *
      obtain⟨k2,fv,fl,rs,rfl,hk2,hbel,hws,hob,hgr,hex⟩:=hrel
      have HEX:=hQz hex
      have HGR:=hQz hgr
      have HOB:=hQz hob
      have HBE:=hQz hbel
      have hW1B:Below W1.heap.size W1 w2:=HWV.out.trans (hbel.mono (by omega))
      have HW1B:=hQz hW1B
      have HBw:Hid (Below w.heap.size w w2):=HB1.out.trans (hW1B.mono HB1.out.size)
      have hPw:=(hbel.block W1.heap.size (by omega)).trans HPV.out
      have HPw:=hQz hPw
      clear hex hgr hob
      by_cases hkn:k2<nf
      ·obtain⟨fd,hfd⟩:∃ fd,mfs[k2]? = some fd:=⟨_,List.getElem?_eq_getElem (by have:=HNF.out;omega)⟩
       obtain⟨gf,of,cf,hslf,hgf,z0,z1,z2,z3,z4⟩:=fd_at (HROW.out w2 HBw.out) (W:=w2) (fun b hb=>rfl) hfd
       rw[HNF.out]at hslf
       obtain⟨rfl,rfl⟩:=slice_two hslf
       have HFD:=hQz hfd
       have HFDM:=hQz (List.mem_of_getElem? hfd)
       have hkn0:(0:Int)≤(k2:Int):=by omega
       have hkn1:(k2:Int)<(nf:Int):=by omega
       have hwkn:=wQz k2 (by omega)
       have d1:=cell_at hPw 1 rfl
       obtain⟨U,hU,hUC,hUb,hUs⟩:=box_new w2 #[.int .i64 fd.num,.string (mkB fd.name),.int .i64 fd.kind,.bool fd.rep,.int .i64 fd.type] 51
       have HU:=hQz hU
       have HUC:=hQz hUC
       have HUB:=hQz hUb
       have hUl:w2.heap.size+1=U.heap.size:=by omega
       have H1U:Hid (Below W1.heap.size W1 U):=hW1B.trans (hUb.mono hW1B.size)
       clear hslf hgf hfd hU hUC hUb hUs hPw hbel hW1B
       go_upto_region 18 with fail
       rw[HU.out]
       clear z0 z1 z2 z3 z4 d1
       go_wp2_with fail
       go_loopw [18,86] (fun ov i wr=>∃ (j:Nat) (o':Value) (rs2:List (List Value)),o'=ov∧i=.int .i64 (j:Int)∧j≤m∧Below U.heap.size U wr∧Gr (WRo W1) wr U.heap.size 106 4 o' (ownK mfs fd (l.take j)) rs2) (fun _ i _=>m - (intOf i).toNat)
       case atStart=>exact⟨0,_,[],rfl,rfl,Nat.zero_le _,Below.refl _ _,Gr.nil _ _ _ _ _⟩
       case round=>
        generalize wr=w3 at *
        obtain⟨j,o',rs2,rfl,rfl,hj,hbel,hgr⟩:=hrel
        obtain⟨oa,oc,hov⟩:=own_slice hgr.own
        obtain⟨on,hon⟩:∃ n,(ownK mfs fd (l.take j)).length=n:=⟨_,rfl⟩
        rw[hon]at hov
        subst hov
        have honj:on≤100000:=by
         have h1:(ownK mfs fd (l.take j)).length≤(l.take j).length:=List.length_filter_le _ _
         rw[List.length_take]at h1
         omega
        have HON:=hQz hon
        have HG3:=hQz hgr
        have HB3:=hQz hbel
        have HFB:Hid (∀ b,(Value.slice oa on oc).ownBlock=some b→U.heap.size≤b∧b<w3.heap.size):=hgr.blk
        have hw3:=hbel.size
        have h13:Below W1.heap.size W1 w3:=H1U.out.trans (hbel.mono H1U.out.size)
        have H13:=hQz h13
        have HBw3:Hid (Below w.heap.size w w3):=HB1.out.trans (h13.mono HB1.out.size)
        have hE3:=(hbel.block w2.heap.size (by omega)).trans HUC.out
        have HE3:=hQz hE3
        have hP3:=(hbel.block W1.heap.size (by omega)).trans ((HUB.out.block W1.heap.size (by omega)).trans HPw.out)
        have HP3:=hQz hP3
        clear hgr hon
        by_cases hjm:j<m
        ·obtain⟨x,hx⟩:∃ x,l[j]? = some x:=⟨_,List.getElem?_eq_getElem (by have:=HLM.out;omega)⟩
         obtain⟨gF,oF,gc,hsl,hgF,da,dc,hcl,hbi⟩:=SlIn.at HWF.out hx
         rw[HLM.out]at hsl
         obtain⟨rfl,rfl⟩:=slice_two hsl
         have hgN2:gF<W1.heap.size:=hgF
         have HBI:=hQz hbi
         have HCL:Hid (∀ W,Below W1.heap.size W1 W→W.cell? ⟨gF,oF+j*4,none⟩=some (.int .i64 x.num)∧W.cell? ⟨gF,oF+j*4+1,none⟩=some (.int .i64 x.ty)∧W.cell? ⟨gF,oF+j*4+2,none⟩=some (.int .u64 x.n)∧W.cell? ⟨gF,oF+j*4+3,none⟩=some (.slice da x.d.length dc)):=by
          refine(?_:∀ W,_→_)
          intro W hW
          have h4:=hcl.old (hW.block gF hgN2)
          have c0:=h4 0 _ rfl
          have c1:=h4 1 _ rfl
          have c2:=h4 2 _ rfl
          have c3:=h4 3 _ rfl
          exact⟨by simpa using c0,by simpa [Nat.add_assoc]using c1,by simpa [Nat.add_assoc]using c2,by simpa [Nat.add_assoc]using c3⟩
         have HTK:=hQz (ownK_step (fs:=mfs) (fd:=fd) hx)
         have H3W:Hid (∀ W,Below w3.heap.size w3 W→Below W1.heap.size W1 W):=fun W hW=>h13.trans (hW.mono h13.size)
         have x0:∀ W,Below w3.heap.size w3 W→W.cell? ⟨gF,oF+j*4,none⟩=some (.int .i64 x.num):=fun W hW=>(HCL.out W (H3W.out W hW)).1
         have x1:∀ W,Below w3.heap.size w3 W→W.cell? ⟨gF,oF+j*4+1,none⟩=some (.int .i64 x.ty):=fun W hW=>(HCL.out W (H3W.out W hW)).2.1
         have t0:∀ W,Below w3.heap.size w3 W→W.cell? ⟨w2.heap.size,0,none⟩=some (.int .i64 fd.num):=fun W hW=>(hW.cell (by simp;omega)).trans (cell_at hE3 0 rfl)
         have d0:∀ W,Below w3.heap.size w3 W→W.cell? ⟨W1.heap.size,0,none⟩=some (.string (mkB mname)):=fun W hW=>(hW.cell (by simp;omega)).trans (cell_at hP3 0 rfl)
         have d1:∀ W,Below w3.heap.size w3 W→W.cell? ⟨W1.heap.size,1,none⟩=some (.slice (some ⟨gf,of,none⟩) nf kc):=fun W hW=>(hW.cell (by simp;omega)).trans (cell_at hP3 1 rfl)
         have HKP:=hQz (HKN.out fd.num x.ty)
         have hk0:(0:Int)≤(j:Int):=by omega
         have hk1:(j:Int)<(m:Int):=by omega
         have hwk:=wQz j (by omega)
         obtain⟨b,hb⟩:∃ b,knownP mfs fd.num x.ty=b:=⟨_,rfl⟩
         rw[hb]at HTK HKP
         clear hx hsl hgF hcl hbi hb h13 hE3 hP3 hbel
         go_upto_region 22 with fail
         go_cut [107] (fun v wx=>v=.bool (decide (x.num=fd.num)&&b)∧Below w3.heap.size w3 wx)
         case first=>
          have hS0:Below w3.heap.size w3 w3.drew:=(Below.refl _ _).drew
          refine wp_region_held_drew (S:=fun W=>Below w3.heap.size w3 W) (by kernel_rfl) hS0 (fun _=>?_)
          refine T_on 0 (.slice (some ⟨gF,oF,none⟩) m cF) rfl (by kernel_rfl) (fun _ _ _ h=>h) hS0 (fun W hW=>by go_simp) ?_
          refine T_on 1 (.int .i64 (j:Int)) rfl (by kernel_rfl) (fun _ _ _ h=>h) hS0 (fun W hW=>by go_simp) ?_
          refine T_on 2 (.pointer (some ⟨gF,oF+j*4,none⟩)) rfl (by kernel_rfl) (fun _ _ _ h=>h) hS0 (fun W hW=>by go_simp) ?_
          refine T_on 3 (.pointer (some ⟨gF,oF+j*4,none⟩)) rfl (by kernel_rfl) (fun _ _ _ h=>h) hS0 (fun W hW=>by go_simp) ?_
          refine T_on 4 (.int .i64 x.num) rfl (by kernel_rfl) (fun _ _ _ h=>h) hS0 (fun W hW=>by have c0:=x0 W hW;go_simp) ?_
          refine T_on 5 (.pointer (some ⟨w2.heap.size,0,none⟩)) rfl (by kernel_rfl) (fun _ _ _ h=>h) hS0 (fun W hW=>by go_simp) ?_
          refine T_on 6 (.int .i64 fd.num) rfl (by kernel_rfl) (fun _ _ _ h=>h) hS0 (fun W hW=>by have c0:=t0 W hW;go_simp) ?_
          by_cases hnum:x.num=fd.num
          ·have hnb:(x.num == fd.num)=true:=by simp[hnum]
           refine T_on 7 (.bool true) rfl (by kernel_rfl) (fun _ _ _ h=>h) hS0 (fun W hW=>by go_simp) ?_
           refine T_on 8 (.bool true) rfl (by kernel_rfl) (fun _ _ _ h=>h) hS0 (fun W hW=>by go_simp) ?_
           refine T_on 9 (.agg #[.string (mkB mname),.slice (some ⟨gf,of,none⟩) nf kc]) rfl (by kernel_rfl) (fun _ _ _ h=>h) hS0 (fun W hW=>by have c0:=d0 W hW;have c1:=d1 W hW;go_simp) ?_
           refine T_on 10 (.pointer (some ⟨w2.heap.size,0,none⟩)) rfl (by kernel_rfl) (fun _ _ _ h=>h) hS0 (fun W hW=>by go_simp) ?_
           refine T_on 11 (.int .i64 fd.num) rfl (by kernel_rfl) (fun _ _ _ h=>h) hS0 (fun W hW=>by have c0:=t0 W hW;go_simp) ?_
           refine T_on 12 (.slice (some ⟨gF,oF,none⟩) m cF) rfl (by kernel_rfl) (fun _ _ _ h=>h) hS0 (fun W hW=>by go_simp) ?_
           refine T_on 13 (.int .i64 (j:Int)) rfl (by kernel_rfl) (fun _ _ _ h=>h) hS0 (fun W hW=>by go_simp) ?_
           refine T_on 14 (.pointer (some ⟨gF,oF+j*4,none⟩)) rfl (by kernel_rfl) (fun _ _ _ h=>h) hS0 (fun W hW=>by go_simp) ?_
           refine T_on 15 (.pointer (some ⟨gF,oF+j*4+1,none⟩)) rfl (by kernel_rfl) (fun _ _ _ h=>h) hS0 (fun W hW=>by go_simp) ?_
           refine T_on 16 (.int .i64 x.ty) rfl (by kernel_rfl) (fun _ _ _ h=>h) hS0 (fun W hW=>by have c0:=x1 W hW;go_simp) ?_
           refine T_call 17 (by kernel_rfl) rfl (fun K' hK'=>?_)
           go_simp
           refine(HKP.out _ (HBw3.out.trans (hS0.mono HBw3.out.size))).mono ?_
           rintro e W4 ⟨rfl,hb4⟩
           have hS1:Below w3.heap.size w3 W4:=hS0.trans hb4
           clear hb4 hS0
           dsimp only
           refine hK'.out _ _ hS1 (fun _=>?_)
           clear hK' K'
           refine T_on 18 (.bool b) rfl (by kernel_rfl) (fun _ _ _ h=>h) hS1 (fun W hW=>by go_simp) ?_
           refine wpAnyH_done (by kernel_rfl) ?_ _
           go_simp
           go_wp2_with fail
           go_meet
           exact⟨by rw[decide_eq_true hnum];rfl,hS1⟩
          ·have hnb:(x.num == fd.num)=false:=by simp[hnum]
           refine T_on 7 (.bool false) rfl (by kernel_rfl) (fun _ _ _ h=>h) hS0 (fun W hW=>by go_simp) ?_
           refine T_on 8 (.bool false) rfl (by kernel_rfl) (fun _ _ _ h=>h) hS0 (fun W hW=>by go_simp) ?_
           refine T_off 9 rfl (by kernel_rfl) (fun _ _ _ h=>h) hS0 ?_
           refine T_off 10 rfl (by kernel_rfl) (fun _ _ _ h=>h) hS0 ?_
           refine T_off 11 rfl (by kernel_rfl) (fun _ _ _ h=>h) hS0 ?_
           refine T_off 12 rfl (by kernel_rfl) (fun _ _ _ h=>h) hS0 ?_
           refine T_off 13 rfl (by kernel_rfl) (fun _ _ _ h=>h) hS0 ?_
           refine T_off 14 rfl (by kernel_rfl) (fun _ _ _ h=>h) hS0 ?_
           refine T_off 15 rfl (by kernel_rfl) (fun _ _ _ h=>h) hS0 ?_
           refine T_off 16 rfl (by kernel_rfl) (fun _ _ _ h=>h) hS0 ?_
           refine T_off 17 rfl (by kernel_rfl) (fun _ _ _ h=>h) hS0 ?_
           refine T_on 18 (.bool false) rfl (by kernel_rfl) (fun _ _ _ h=>h) hS0 (fun W hW=>by go_simp) ?_
           refine wpAnyH_done (by kernel_rfl) ?_ _
           go_simp
           go_wp2_with fail
           go_meet
           exact⟨by rw[decide_eq_false hnum];rfl,hS0⟩
         case rest=>
         obtain⟨rfl,hS1⟩:=hcut
         generalize wc=W4 at *
         have HS1:=hQz hS1
         have hw4:=hS1.size
         have hB4:=HB3.out.trans (hS1.mono hw3)
         have HB4:=hQz hB4
         have HG4:Hid (Gr (WRo W1) W4 U.heap.size 106 4 (.slice oa on oc) (ownK mfs fd (l.take j)) rs2):=HG3.out.keep (mvsO W1) (fun b _ hb=>hS1.block b hb) hw4
         obtain⟨e0,e1,e2,e3⟩:=HCL.out W4 (H3W.out W4 hS1)
         clear x0 x1 t0 d0 d1 hS1 hB4
         cases hdd:(decide (x.num=fd.num)&&b)with
         | false=>
          rw[hdd,if_neg (by simp),List.append_nil]at HTK
          go_wp2_with fail
          go_roundw
          case rel=>exact⟨j+1,_,rs2,rfl,by go_num,by omega,HB4.out,by rw[HTK.out];exact HG4.out⟩
          case measure=>simp[intOf];omega
         | true=>
          rw[hdd,if_pos rfl]at HTK
          obtain⟨A,hA,hAC,hAb,hAs⟩:=box_new W4 #[.int .i64 x.num,.int .i64 x.ty,.int .u64 x.n,.slice da x.d.length dc] 106
          have HA:=hQz hA
          have HAC:=hQz hAC
          have HBA:=hQz (HB4.out.trans (hAb.mono HB4.out.size))
          have hAl:U.heap.size≤A.heap.size:=by omega
          have HGA:Hid (Gr (WRo W1) A U.heap.size 106 4 (.slice oa on oc) (ownK mfs fd (l.take j)) rs2):=HG4.out.keep (mvsO W1) (fun b _ hb=>hAb.block b hb) hAb.size
          have HOW:Hid (A.ownsRow U.heap.size 106 4 (.slice oa on oc) on (rs2.flatMap id)):=by
           refine(?_:World.ownsRow _ _ _ _ _ _ _)
           have:=HGA.out.own
           rw[HON.out]at this
           exact this
          clear hA hAC hAb hAs
          go_wp2_with (at_builtin;rw[HA.out];refine row_pushL (T:=106) (t:=100) Tryz.underlying100 infoFR rfl (by decide) HOW.out hAl [.int .i64 x.num,.int .i64 x.ty,.int .u64 x.n,.slice da x.d.length dc] rfl (by simp[Value.oneCell']) W4.heap.size HAC.out rfl _ _ rfl rfl rfl (by unfold maxLen;omega) (by omega) ?_;intro g6 cap6 W6 hown6 hgr6 hat6 hlt6)
          have HG6:Hid (Gr (WRo W1) W6 U.heap.size 106 4 (.slice (some ⟨g6,0,none⟩) (on+1) cap6) (ownK mfs fd (l.take (j+1))) (rs2++[[.int .i64 x.num,.int .i64 x.ty,.int .u64 x.n,.slice da x.d.length dc]])):=by
           refine(?_:Gr _ _ _ _ _ _ _ _)
           rw[HTK.out]
           exact HGA.out.push (mvsO W1) (x:=x) (r:=[.int .i64 x.num,.int .i64 x.ty,.int .u64 x.n,.slice da x.d.length dc]) rfl ⟨da,dc,rfl,HBI.out⟩ HON.out hown6 hgr6 hat6
          have HB6:Hid (Below U.heap.size U W6):=HBA.out.grown hgr6 (by omega) (fun b hb=>(HFB.out b hb).1)
          clear hown6 hgr6 hat6 hlt6 e0 e1 e2 e3
          go_wp2_with fail
          go_roundw
          case rel=>exact⟨j+1,_,_,rfl,by go_num,by omega,HB6.out,HG6.out⟩
          case measure=>simp[intOf];omega
        ·have hjm':¬(j:Int)<(m:Int):=by omega
         have hte:l.take j=l:=List.take_of_length_le (by have:=HLM.out;omega)
         rw[hte]at HG3 HON
         obtain⟨ol,hol⟩:∃ o,ownL fd (knownL mfs D)=o:=⟨_,rfl⟩
         have hok:ownK mfs fd l=ol:=by
          rw[←HL.out,ownK_eq mfs fd D];exact hol
         rw[hok]at HG3 HON
         have HOL:=hQz hol
         have hb23:Below w2.heap.size w2 w3:=HUB.out.trans (hbel.mono (by omega))
         have H23:=hQz hb23
         have HRB:Hid (∀ W,Below w2.heap.size w2 W→Below (W1.heap.size+1) V W):=fun W hW=>HBE.out.trans (hW.mono (by omega))
         have HRG:Hid (∀ W,Below w2.heap.size w2 W→Gr (FRs clS f) W (W1.heap.size+2) 57 2 fv fl rs):=fun W hW=>HGR.out.keep (mvsF clS f) (fun b _ hb=>hW.block b hb) hW.size
         have HRO:Hid (∀ W,Below w2.heap.size w2 W→W.heap[W1.heap.size+1]? = some (.cells #[.int .i64 7,.int .i64 0,.int .u64 0,.bool false,.string S0,.int .i64 (q:Int),fv] 38 (0,0))):=fun W hW=>(hW.block _ (by omega)).trans HOB.out
         clear hol hok hte hbel hb23
         by_cases hon0:on=0
         ·subst hon0
          have HSK:Hid (decRF (decR ms f) (knownL mfs D) fd=.ok []):=decRF_none (by rw[HOL.out];exact List.eq_nil_of_length_eq_zero HON.out)
          go_wp2_with fail
          go_roundw
          case rel=>exact⟨k2+1,fv,fl,rs,by go_num,by omega,HRB.out w3 H23.out,by have:=H23.out.size;omega,HRO.out w3 H23.out,HRG.out w3 H23.out,by have:=exL_step HFD.out HEX.out HSK.out;rwa [List.append_nil]at this⟩
          case measure=>simp[intOf];omega
         ·have hone:((on:Int) == 0)=false:=beq_eq_false_iff_ne.2 (by omega)
          have HWO:Hid (WfIn w3 (fun b=>b<w3.heap.size) (.slice oa on oc) ol):=HG3.out.olds H13.out
          have t0:=cell_at HE3.out 0 rfl
          have t2:=cell_at HE3.out 2 rfl
          have t3:=cell_at HE3.out 3 rfl
          go_upto_if 121 with fail
          go_cut [18] (fun v wx=>∃ (ra:Option Addr) (rc:Nat),v=.slice ra (toRead fd (knownL mfs D)).length rc∧Below w3.heap.size w3 wx∧WfIn wx (fun b=>b<wx.heap.size) (.slice ra (toRead fd (knownL mfs D)).length rc) (toRead fd (knownL mfs D)))
          case first=>
           cases hrep:fd.rep with
           | true=>
            simp only[Bool.not_true]
            rw[hrep]at t3
            go_wp2_with fail
            go_meet
            rw[toRead_rep hrep,HOL.out,HON.out]
            exact⟨oa,oc,rfl,Below.refl _ _,HWO.out⟩
           | false=>
            rw[hrep]at t3
            obtain⟨n,hn⟩:∃ n,n+1=on:=⟨on - 1,by omega⟩
            obtain⟨x,hx⟩:∃ x,ol[n]? = some x:=⟨_,List.getElem?_eq_getElem (by have:=HON.out;omega)⟩
            obtain⟨gO,oO,gc,hsl,hgO,da,dc,hcl,hbi⟩:=SlIn.at HWO.out hx
            rw[HON.out]at hsl
            obtain⟨rfl,rfl⟩:=slice_two hsl
            have HRD:=hQz (toRead_one (x:=x) (n:=n) hrep HOL.out (by have:=HON.out;omega) hx)
            have hgO2:gO<w3.heap.size:=hgO
            have HBI:=hQz hbi
            have x0:w3.cell? ⟨gO,oO+n*4,none⟩=some (.int .i64 x.num):=by have h:=hcl 0 _ rfl;simpa using h
            have x1:w3.cell? ⟨gO,oO+n*4+1,none⟩=some (.int .i64 x.ty):=by have h:=hcl 1 _ rfl;simpa [Nat.add_assoc]using h
            have x2:w3.cell? ⟨gO,oO+n*4+2,none⟩=some (.int .u64 x.n):=by have h:=hcl 2 _ rfl;simpa [Nat.add_assoc]using h
            have x3:w3.cell? ⟨gO,oO+n*4+3,none⟩=some (.slice da x.d.length dc):=by have h:=hcl 3 _ rfl;simpa [Nat.add_assoc]using h
            have hwn:IntKind.i64.wrap ((on:Int) - 1)=(n:Int):=by rw[IntKind.wrap_i64];omega
            have hn0:(0:Int)≤(n:Int):=by omega
            have hn1:(n:Int)<(on:Int):=by omega
            obtain⟨A,hA,hAC,hAb,hAs⟩:=box_new w3 #[.int .i64 x.num,.int .i64 x.ty,.int .u64 x.n,.slice da x.d.length dc] 106
            have HA:=hQz hA
            have HAC:=hQz hAC
            have HAB:=hQz hAb
            have HAS:Hid (w3.heap.size+1=A.heap.size):=hAs.symm
            have t2A:A.cell? ⟨w2.heap.size,2,none⟩=some (.int .i64 fd.kind):=cell_at ((hAb.block _ (by omega)).trans HE3.out) 2 rfl
            clear hx hsl hgO hcl hbi hA hAC hAb hAs
            go_upto_region 28 with fail
            rw[HA.out]
            clear x0 x1 x2 x3 t0 t2 t3
            by_cases h10:fd.kind=10
            ·rw[h10]at t2A
             rw[if_pos h10]at HRD
             obtain⟨Z,hZ⟩:∃ Z,A.setCell ⟨w3.heap.size,3,none⟩ (.slice none 0 0)=Z:=⟨_,rfl⟩
             have hZp:Z.heap[w3.heap.size]? = some (.cells #[.int .i64 x.num,.int .i64 x.ty,.int .u64 x.n,.slice none 0 0] 106 (0,0)):=by rw[←hZ,setCell_heap HAC.out];rfl
             have hZs:Z.heap.size=A.heap.size:=by rw[←hZ];simp
             have hZb:Below w3.heap.size w3 Z:=by rw[←hZ];exact HAB.out.setCell (p:=⟨w3.heap.size,3,none⟩) (Nat.le_refl _) _
             have a3:=cell_at HAC.out 3 rfl
             have af3:A.frozen? ⟨w3.heap.size,3,none⟩=false:=frz_at HAC.out 3
             have HZ:=hQz hZ
             have HZP:=hQz hZp
             have HZB:=hQz hZb
             have HZS:Hid (w3.heap.size+1=Z.heap.size):=by
              refine(?_:_=_)
              rw[hZs];exact HAS.out
             clear hZ hZp hZs hZb
             go_upto_region 30 with fail
             rw[HZ.out]
             clear a3 af3 t2A
             go_wp2_with fail
             go_loopw [134] (fun i wr=>∃ (jj:Nat) (vv:Value),i=.int .i64 (jj:Int)∧jj≤on∧Below w3.heap.size w3 wr∧w3.heap.size+1≤wr.heap.size∧wr.heap[w3.heap.size]? = some (.cells #[.int .i64 x.num,.int .i64 x.ty,.int .u64 x.n,vv] 106 (0,0))∧OwnE wr (w3.heap.size+1) vv ((ol.take jj).flatMap WF.d)) (fun i _=>on - (intOf i).toNat)
             case atStart=>exact⟨0,_,rfl,Nat.zero_le _,HZB.out,by have:=HZS.out;omega,HZP.out,.inl (own_nil _ _)⟩
             case round=>
              generalize wr=w4 at *
              obtain⟨jj,vv,rfl,hjj,hb4,hs4,hp4,ho4⟩:=hrel
              have HB4:=hQz hb4
              have HP4:=hQz hp4
              have HO4:=hQz ho4
              have hfl4:((ol.take jj).flatMap WF.d).length≤100000:=by
               have h1:=own_flat (fs:=mfs) (fd:=fd) HPO.out HFL.out jj
               rw[HOL.out,HZLN.out]at h1
               omega
              clear hb4 hp4 ho4
              by_cases hjo:jj<on
              ·obtain⟨y,hy⟩:∃ y,ol[jj]? = some y:=⟨_,List.getElem?_eq_getElem (by have:=HON.out;omega)⟩
               obtain⟨gO',oO',gc',hsl,hgO',ya,yc,hcl,hbi⟩:=SlIn.at HWO.out hy
               rw[HON.out]at hsl
               obtain⟨hs1,rfl⟩:=slice_two hsl
               obtain⟨rfl,rfl⟩:gO=gO'∧oO=oO':=by
                injection hs1 with hs1
                injection hs1 with h1 h2
                exact⟨h1,h2⟩
               have HYC:Hid (∀ W,Below w3.heap.size w3 W→W.cell? ⟨gO,oO+jj*4+3,none⟩=some (.slice ya y.d.length yc)):=by
                refine(?_:∀ W,_→_)
                intro W hW
                have h:=(hcl.old (hW.block gO hgO2)) 3 _ rfl
                simpa [Nat.add_assoc]using h
               have HYI:Hid (∀ W,Below w3.heap.size w3 W→IsB W ya y.d.length y.d):=fun W hW=>isB_old hbi.isB hW
               have HYN:=hQz hbi.2.1
               have HFS:=hQz (flat_snocB WF.d hy)
               have hyl:y.d.length≤100000:=by
                have h1:=own_flat (fs:=mfs) (fd:=fd) HPO.out HFL.out (jj+1)
                rw[HOL.out,HFS.out,HZLN.out,List.length_append]at h1
                omega
               have hj0:(0:Int)≤(jj:Int):=by omega
               have hj1:(jj:Int)<(on:Int):=by omega
               have hwj:=wQz jj (by omega)
               clear hy hsl hs1 hgO' hcl hbi
               go_upto_region 33 with fail
               have hy0:Below w3.heap.size w3 w4.drew:=HB4.out.drew
               have hsp0:w4.drew.heap[w3.heap.size]? = some (.cells #[.int .i64 x.num,.int .i64 x.ty,.int .u64 x.n,vv] 106 (0,0)):=HP4.out
               have hd4:w4.drew.heap.size=w4.heap.size:=rfl
               have hO4d:OwnE w4.drew (w3.heap.size+1) vv ((ol.take jj).flatMap WF.d):=ownE_keepR HO4.out fun b _=>rfl
               have HO4d:=hQz hO4d
               clear hO4d
               refine region_G 9 (fun W=>Below w3.heap.size w3 W) (fun W=>W.heap[w3.heap.size]? = some (.cells #[.int .i64 x.num,.int .i64 x.ty,.int .u64 x.n,vv] 106 (0,0))) (by kernel_rfl) ?_
               refine G_take (i:=0) (v:=.pointer (some ⟨w3.heap.size,3,none⟩)) [7,1,0] rfl (by kernel_rfl) (fun _ _ _ h=>h) (.inl ⟨by kernel_rfl,fun W hW=>by go_simp⟩) ⟨hy0,fun _=>hsp0⟩ ?_
               refine G_take (i:=1) (v:=vv) [7,1] rfl (by kernel_rfl) (fun _ _ _ h=>h) (.inl ⟨by kernel_rfl,fun W hW=>by have c0:=cell_at hW.2 3 rfl;go_simp⟩) ⟨hy0,fun _=>hsp0⟩ ?_
               refine G_take (i:=2) (v:=.slice (some ⟨gO,oO,none⟩) on oc) [7,6,5,4,2] rfl (by kernel_rfl) (fun _ _ _ h=>h) (.inl ⟨by kernel_rfl,fun W hW=>by go_simp⟩) ⟨hy0,fun _=>hsp0⟩ ?_
               refine G_take (i:=3) (v:=.int .i64 (jj:Int)) [7,6,5,4,3] rfl (by kernel_rfl) (fun _ _ _ h=>h) (.inl ⟨by kernel_rfl,fun W hW=>by go_simp⟩) ⟨hy0,fun _=>hsp0⟩ ?_
               refine G_take (i:=4) (v:=.pointer (some ⟨gO,oO+jj*4,none⟩)) [7,6,5,4] rfl (by kernel_rfl) (fun _ _ _ h=>h) (.inl ⟨by kernel_rfl,fun W hW=>by go_simp⟩) ⟨hy0,fun _=>hsp0⟩ ?_
               refine G_take (i:=5) (v:=.pointer (some ⟨gO,oO+jj*4+3,none⟩)) [7,6,5] rfl (by kernel_rfl) (fun _ _ _ h=>h) (.inl ⟨by kernel_rfl,fun W hW=>by go_simp⟩) ⟨hy0,fun _=>hsp0⟩ ?_
               refine G_take (i:=6) (v:=.slice ya y.d.length yc) [7,6] rfl (by kernel_rfl) (fun _ _ _ h=>h) (.inl ⟨by kernel_rfl,fun W hW=>by have c0:=HYC.out W hW.1;go_simp⟩) ⟨hy0,fun _=>hsp0⟩ ?_
               refine G_one (i:=7) (by kernel_rfl) rfl (fun K' hK'=>?_)
               refine stepE_append rfl (.tmp 138) (.tmp 143) rfl (w3.heap.size+1) vv ((ol.take jj).flatMap WF.d) (by go_simp) HO4d.out ya y.d.length yc y.d (by go_simp) (HYI.out _ hy0) HYN.out (by omega) (by omega) ?_
               intro v6 W6 hown6 hb6
               obtain⟨a6,n6,c6,rfl⟩:=ownE_sl hown6
               have hp6:W6.heap[w3.heap.size]? = some (.cells #[.int .i64 x.num,.int .i64 x.ty,.int .u64 x.n,vv] 106 (0,0)):=(hb6.block _ (by omega)).trans hsp0
               have hy6:Below w3.heap.size w3 W6:=hy0.trans (hb6.mono (by omega))
               refine hK'.out _ _ ⟨hy6,fun _=>hp6⟩ ?_
               clear hK' K'
               refine G_take (i:=8) (v:=.pointer (some ⟨w3.heap.size,3,none⟩)) [8] rfl (by kernel_rfl) (fun _ _ _ h=>h) (.inl ⟨by kernel_rfl,fun W hW=>by go_simp⟩) ⟨hy6,fun _=>hp6⟩ ?_
               refine G_one (i:=9) (by kernel_rfl) rfl (fun K' hK'=>?_)
               have c61:=cell_at hp6 3 rfl
               have f61:W6.frozen? ⟨w3.heap.size,3,none⟩=false:=frz_at hp6 3
               go_simp
               obtain⟨Q,hQ⟩:∃ Q,W6.setCell ⟨w3.heap.size,3,none⟩ (.slice a6 n6 c6)=Q:=⟨_,rfl⟩
               have hQp:Q.heap[w3.heap.size]? = some (.cells #[.int .i64 x.num,.int .i64 x.ty,.int .u64 x.n,.slice a6 n6 c6] 106 (0,0)):=by rw[←hQ,setCell_heap hp6];rfl
               have hQs:Q.heap.size=W6.heap.size:=by rw[←hQ];simp
               have hQb:Below w3.heap.size w3 Q:=by rw[←hQ];exact hy6.setCell (p:=⟨w3.heap.size,3,none⟩) (Nat.le_refl _) _
               have hQo:OwnE Q (w3.heap.size+1) (.slice a6 n6 c6) ((ol.take (jj+1)).flatMap WF.d):=by
                rw[HFS.out]
                exact ownE_keepR hown6 fun b hb=>by rw[←hQ];exact Below.heap_setCell _ _ _ _ (by show b≠w3.heap.size;omega)
               have h6s:=hb6.size
               have HQB:=hQz hQb
               have HQP:=hQz hQp
               have HQO:=hQz hQo
               rw[hQ]
               refine hK'.out _ _ ⟨hQb,fun h=>(by cases h)⟩ ?_
               clear hK' K' hsp0 hQ hQp hQb hQo c61 f61 hy0 hy6 hp6 hown6 hb6
               refine G_done (by kernel_rfl) ?_ _
               go_wp2_with fail
               go_roundw
               case rel=>exact⟨jj+1,_,by go_num,by omega,HQB.out,by omega,HQP.out,HQO.out⟩
               case measure=>simp[intOf];omega
              ·have hjo':¬(jj:Int)<(on:Int):=by omega
               have hte:ol.take jj=ol:=List.take_of_length_le (by have:=HON.out;omega)
               rw[hte]at HO4 hfl4
               obtain⟨J,hJ⟩:∃ J,ol.flatMap WF.d=J:=⟨_,rfl⟩
               have hbs:IsBs J:=fun z hz=>by
                rw[←hJ]at hz
                obtain⟨y,hy,hz⟩:=List.mem_flatMap.1 hz
                obtain⟨i,hi⟩:=List.getElem?_of_mem hy
                obtain⟨_,_,_,_,_,_,_,_,hbi⟩:=SlIn.at HWO.out hi
                exact isB_bytes hbi.isB z hz
               rw[hJ]at HO4 hfl4 HRD
               obtain⟨va,vc,hv,hbi⟩:=ownE_BIn HO4.out hbs (by omega)
               subst hv
               have HBI4:=hQz hbi
               have pp0:=cell_at HP4.out 0 rfl
               have pp1:=cell_at HP4.out 1 rfl
               have pp2:=cell_at HP4.out 2 rfl
               have pp3:=cell_at HP4.out 3 rfl
               clear hte hJ hbs hbi
               go_wp2_with fail
               go_meet
               rw[HRD.out]
               exact⟨_,1,rfl,HB4.out.alloc HB4.out.size _,wfIn_oneR (x:=⟨x.num,x.ty,x.n,J⟩) (alloc_heap_new w4 _) (by show w4.heap.size < _;simp) (HBI4.out.mv (fun b hb=>alloc_heap_old _ _ _ hb.2) (fun b hb=>by have:=hb.2;show b < _;simp;omega))⟩
            ·have h10':(fd.kind == 10)=false:=by simp[h10]
             rw[if_neg h10]at HRD
             have pp0:=cell_at HAC.out 0 rfl
             have pp1:=cell_at HAC.out 1 rfl
             have pp2:=cell_at HAC.out 2 rfl
             have pp3:=cell_at HAC.out 3 rfl
             go_wp2_with fail
             go_meet
             rw[HRD.out]
             exact⟨_,1,rfl,HAB.out.alloc HAB.out.size _,wfIn_oneR (x:=⟨x.num,x.ty,x.n,x.d⟩) (alloc_heap_new A _) (by show A.heap.size < _;simp) (HBI.out.mv (fun b hb=>(alloc_heap_old _ _ _ (by have h1:b<w3.heap.size:=hb;have:=HAS.out;omega)).trans (HAB.out.block b hb)) (fun b hb=>by have h1:b<w3.heap.size:=hb;have:=HAS.out;show b < _;simp;omega))⟩
          case rest=>
          obtain⟨ra,rc,rfl,hcb,hcw⟩:=hcut
          generalize wc=wd at *
          obtain⟨rd,hrd⟩:∃ r,toRead fd (knownL mfs D)=r:=⟨_,rfl⟩
          rw[hrd]at hcw ⊢
          have hrok:∀ x∈rd,ReadOK fd x:=by rw[←hrd];exact read_ok HRI.out HFDM.out HPO.out
          have hrle:rd.length≤zs.length∧∀ x∈rd,x.d.length≤zs.length:=by rw[←hrd];exact read_le HPO.out HFL.out
          obtain⟨rn,hrn⟩:∃ n,rd.length=n:=⟨_,rfl⟩
          rw[hrn]at hcw ⊢
          have hrn1:rn≤100000:=by
           have h1:=hrle.1
           rw[HZLN.out,hrn]at h1
           omega
          have HRD:=hQz hrd
          have HRN:=hQz hrn
          have HCW:=hQz hcw
          have HROK:=hQz hrok
          have HRLE:=hQz hrle
          have H2C:=hQz (H23.out.trans (hcb.mono H23.out.size))
          have H1C:=hQz (H13.out.trans (hcb.mono H13.out.size))
          have hwc:w3.heap.size≤wd.heap.size:=hcb.size
          have hEc:=(hcb.block w2.heap.size (by omega)).trans HE3.out
          have HEC:=hQz hEc
          have y0:=cell_at hEc 0 rfl
          obtain⟨T,hT,hTC,hTb,hTs⟩:=box_new wd #[.int .i64 fd.num,.slice none 0 0] 57
          have HT:=hQz hT
          have HTC:=hQz hTC
          have HTB:=hQz hTb
          have HTS:Hid (wd.heap.size+1=T.heap.size):=hTs.symm
          have HRF:Hid (∀ (fv':Value),True):=fun _=>trivial
          clear hrd hrn hcw hrok hrle hcb hEc hT hTC hTb hTs t0 t2 t3 HRF HWO HG3 HOL
          go_upto_region 37 with fail
          rw[HT.out]
          clear y0
          go_wp2_with fail
          go_loopw [154] (fun i wr=>∃ (jj:Nat) (vv:Value) (vs:List Nd) (rs3:List (List Value)),i=.int .i64 (jj:Int)∧jj≤rn∧Below wd.heap.size wd wr∧wd.heap.size+1≤wr.heap.size∧wr.heap[wd.heap.size]? = some (.cells #[.int .i64 fd.num,vv] 57 (0,0))∧Gr (VRs clS f) wr (wd.heap.size+1) 38 7 vv vs rs3∧vs.length≤jj*100001∧exL (decV (decR ms f) fd) (rd.take jj)=.ok vs) (fun i _=>rn - (intOf i).toNat)
          case atStart=>exact⟨0,_,[],[],rfl,Nat.zero_le _,HTB.out,by have:=HTS.out;omega,HTC.out,Gr.nil _ _ _ _ _,by simp,rfl⟩
          case round=>
           generalize wr=w5 at *
           obtain⟨jj,vv,vs,rs3,rfl,hjj,hb5,hs5,hx5,hg5,hvl,hex5⟩:=hrel
           obtain⟨va,vc,hvv⟩:=own_slice hg5.own
           obtain⟨vn,hvn⟩:∃ n,vs.length=n:=⟨_,rfl⟩
           rw[hvn]at hvv hvl
           subst hvv
           have HVN:=hQz hvn
           have HX5:=hQz hx5
           have HG5:=hQz hg5
           have HB5:=hQz hb5
           have HEX5:=hQz hex5
           have HVB:Hid (∀ b,(Value.slice va vn vc).ownBlock=some b→wd.heap.size+1≤b∧b<w5.heap.size):=hg5.blk
           have h15:Below W1.heap.size W1 w5:=H1C.out.trans (hb5.mono H1C.out.size)
           have H15:=hQz h15
           have H25:=hQz (H2C.out.trans (hb5.mono H2C.out.size))
           have HW5:Hid (Below w.heap.size w w5):=HB1.out.trans (h15.mono HB1.out.size)
           have hE5:=(hb5.block w2.heap.size (by omega)).trans HEC.out
           have HE5:=hQz hE5
           have hw5:wd.heap.size≤w5.heap.size:=hb5.size
           clear hvn hx5 hg5 hb5 hex5 h15
           by_cases hjn:jj<rn
           ·obtain⟨y,hy⟩:∃ y,rd[jj]? = some y:=⟨_,List.getElem?_eq_getElem (by have:=HRN.out;omega)⟩
            obtain⟨gY,oY,gc,hsl,hgY,ya,yc,hcl,hbi⟩:=SlIn.at HCW.out hy
            rw[HRN.out]at hsl
            obtain⟨rfl,rfl⟩:=slice_two hsl
            have hgY2:gY<wd.heap.size:=hgY
            have hym:=List.mem_of_getElem? hy
            have hRO:=HROK.out y hym
            have hyl:y.d.length≤100000:=by
             have h1:=HRLE.out.2 y hym
             rw[HZLN.out]at h1
             omega
            have HYY:=hQz hy
            have HDB:Hid (IsBs y.d):=hRO.db
            have HYC:Hid (∀ W,Below w5.heap.size w5 W→W.cell? ⟨gY,oY+jj*4,none⟩=some (.int .i64 y.num)∧W.cell? ⟨gY,oY+jj*4+1,none⟩=some (.int .i64 y.ty)∧W.cell? ⟨gY,oY+jj*4+2,none⟩=some (.int .u64 y.n)∧W.cell? ⟨gY,oY+jj*4+3,none⟩=some (.slice ya y.d.length yc)):=by
             refine(?_:∀ W,_→_)
             intro W hW
             have h4:=hcl.old ((HB5.out.trans (hW.mono hw5)).block gY hgY2)
             have c0:=h4 0 _ rfl
             have c1:=h4 1 _ rfl
             have c2:=h4 2 _ rfl
             have c3:=h4 3 _ rfl
             exact⟨by simpa using c0,by simpa [Nat.add_assoc]using c1,by simpa [Nat.add_assoc]using c2,by simpa [Nat.add_assoc]using c3⟩
            have HSC:Hid (∀ W,Below w5.heap.size w5 W→W.cell? ⟨w.heap.size,0,none⟩=some (.slice (some ⟨g,oo,none⟩) nm mc)∧W.cell? ⟨w.heap.size,1,none⟩=some (.slice ea ne ec)∧W.cell? ⟨w.heap.size,2,none⟩=some (.slice ta nt tc)):=by
             refine(?_:∀ W,_→_)
             intro W hW
             have h4:=((H15.out.trans (hW.mono H15.out.size)).block w.heap.size (by omega)).trans HC1.out
             exact⟨cell_at h4 0 rfl,cell_at h4 1 rfl,cell_at h4 2 rfl⟩
            have HFC:Hid (∀ W,Below w5.heap.size w5 W→W.cell? ⟨w2.heap.size,0,none⟩=some (.int .i64 fd.num)∧W.cell? ⟨w2.heap.size,1,none⟩=some (.string (mkB fd.name))∧W.cell? ⟨w2.heap.size,2,none⟩=some (.int .i64 fd.kind)∧W.cell? ⟨w2.heap.size,3,none⟩=some (.bool fd.rep)∧W.cell? ⟨w2.heap.size,4,none⟩=some (.int .i64 fd.type)):=by
             refine(?_:∀ W,_→_)
             intro W hW
             have h4:=(hW.block w2.heap.size (by omega)).trans hE5
             exact⟨cell_at h4 0 rfl,cell_at h4 1 rfl,cell_at h4 2 rfl,cell_at h4 3 rfl,cell_at h4 4 rfl⟩
            have HCALL:Hid (∀ W,Below w5.heap.size w5 W→Calls Tryz.prog 40 #[.agg #[.slice (some ⟨g,oo,none⟩) nm mc,.slice ea ne ec,.slice ta nt tc],.agg #[.int .i64 fd.num,.string (mkB fd.name),.int .i64 fd.kind,.bool fd.rep,.int .i64 fd.type],.agg #[.int .i64 y.num,.int .i64 y.ty,.int .u64 y.n,.slice ya y.d.length yc],.int .i64 dep] W fun e w'=>RvAns f (decV (decR ms f) fd y) W e w'):=by
             refine(?_:∀ W,_→_)
             intro W hW
             have hcW:=HB5.out.trans (hW.mono hw5)
             have hwW:Below w.heap.size w W:=HW5.out.trans (hW.mono HW5.out.size)
             exact readR9_any (some ⟨g,oo,none⟩) ea ta nm ne nt mc ec tc fd dep f (decR ms f) y ya y.d.length yc W (HKD.out fd HFDM.out).1 ⟨hd0,by omega⟩ (slS_old (bin_slS hbi) hcW) hbi.2.2.2.2 hyl hRO.n (fun h5=>HTX.out fd HFDM.out h5 W hwW) (fun h10=>HIH.out fd.type W ((HKD.out fd HFDM.out).2 h10).1 (by have:=((HKD.out fd HFDM.out).2 h10).2;rw[hnm]at this;exact this) (HTW.out W hwW) (HeldN.more (HeldN.old HHM.out fun b h=>hwW.block b h) fun b h=>by have h':b<w.heap.size:=h;have:=hwW.size;omega))
            have hk0:(0:Int)≤(jj:Int):=by omega
            have hk1:(jj:Int)<(rn:Int):=by omega
            have hwj:=wQz jj (by omega)
            clear hy hsl hgY hcl hbi hym hRO hE5
            go_upto_region 40 with fail
            have hS0:Below w5.heap.size w5 w5.drew:=(Below.refl _ _).drew
            refine wp_region_held_drew (S:=fun W=>Below w5.heap.size w5 W) (by kernel_rfl) hS0 (fun _=>?_)
            refine T_on 0 (.agg #[.slice (some ⟨g,oo,none⟩) nm mc,.slice ea ne ec,.slice ta nt tc]) rfl (by kernel_rfl) (fun _ _ _ h=>h) hS0 (fun W hW=>by obtain⟨c0,c1,c2⟩:=HSC.out W hW;go_simp) ?_
            refine T_on 1 (.agg #[.int .i64 fd.num,.string (mkB fd.name),.int .i64 fd.kind,.bool fd.rep,.int .i64 fd.type]) rfl (by kernel_rfl) (fun _ _ _ h=>h) hS0 (fun W hW=>by obtain⟨c0,c1,c2,c3,c4⟩:=HFC.out W hW;go_simp) ?_
            refine T_on 2 (.slice (some ⟨gY,oY,none⟩) rn rc) rfl (by kernel_rfl) (fun _ _ _ h=>h) hS0 (fun W hW=>by go_simp) ?_
            refine T_on 3 (.int .i64 (jj:Int)) rfl (by kernel_rfl) (fun _ _ _ h=>h) hS0 (fun W hW=>by go_simp) ?_
            refine T_on 4 (.pointer (some ⟨gY,oY+jj*4,none⟩)) rfl (by kernel_rfl) (fun _ _ _ h=>h) hS0 (fun W hW=>by go_simp) ?_
            refine T_on 5 (.agg #[.int .i64 y.num,.int .i64 y.ty,.int .u64 y.n,.slice ya y.d.length yc]) rfl (by kernel_rfl) (fun _ _ _ h=>h) hS0 (fun W hW=>by obtain⟨c0,c1,c2,c3⟩:=HYC.out W hW;go_simp) ?_
            refine T_on 6 (.int .i64 dep) rfl (by kernel_rfl) (fun _ _ _ h=>h) hS0 (fun W hW=>by go_simp) ?_
            refine T_call 7 (by kernel_rfl) rfl (fun K' hK'=>?_)
            go_simp
            refine(HCALL.out _ hS0).mono ?_
            rintro e W6 ⟨sa,sl,sc,er,rfl,hans,hb6⟩
            have HANS:=hQz hans
            have hS1:Below w5.heap.size w5 W6:=hS0.trans hb6
            have HB6:Hid (Below w5.heap.size w5.drew W6):=hb6
            clear hb6 hS0 hans HCALL HSC HFC HYC
            dsimp only
            refine hK'.out _ _ hS1 (fun _=>?_)
            clear hK' K'
            refine T_on 8 (.tuple #[.slice sa sl sc,.int .i64 er]) rfl (by kernel_rfl) (fun _ _ _ h=>h) hS1 (fun W hW=>by go_simp) ?_
            refine T_on 9 (.slice sa sl sc) rfl (by kernel_rfl) (fun _ _ _ h=>h) hS1 (fun W hW=>by go_simp) ?_
            refine T_on 10 (.int .i64 er) rfl (by kernel_rfl) (fun _ _ _ h=>h) hS1 (fun W hW=>by go_simp) ?_
            refine T_on 11 (.slice sa sl sc) rfl (by kernel_rfl) (fun _ _ _ h=>h) hS1 (fun W hW=>by go_simp) ?_
            refine T_on 12 (.int .i64 er) rfl (by kernel_rfl) (fun _ _ _ h=>h) hS1 (fun W hW=>by go_simp) ?_
            refine wpAnyH_done (by kernel_rfl) ?_ _
            go_simp
            have HS1:=hQz hS1
            have hw6:w5.heap.size≤W6.heap.size:=hS1.size
            clear hS1
            cases hR:decV (decR ms f) fd y with
            | error xr=>
             have h9:=HANS.out
             rw[hR]at h9
             obtain⟨hx0,rfl⟩:=h9
             have HRES:Hid (decR ms (f+1) (q:Int) zs=.error er):=by
              refine(?_:_=_)
              have h1:decVs (decR ms f) fd (toRead fd (knownL mfs D))=.error er:=by rw[HRD.out];exact exL_err HYY.out HEX5.out hR
              exact HDR.out _ (exL_err HFD.out HEX.out (decRF_err h1))
             have hE2:(er == 0)=false:=by simp[hx0]
             have hE3:(er != 0)=true:=by simp[hx0]
             have H16:Hid (Below W1.heap.size W1 W6):=H15.out.trans (HS1.out.mono H15.out.size)
             have hEz:=(H16.out.block (w.heap.size+1) (by omega)).trans HE1.out
             have HX0:=hQz hx0
             clear hR hx0 HANS
             have z0:=cell_at hEz 0 rfl
             have zf0:W6.frozen? ⟨w.heap.size+1,0,none⟩=false:=frz_at hEz 0
             have z1:=cell_at hEz 1 rfl
             have zf1:W6.frozen? ⟨w.heap.size+1,1,none⟩=false:=frz_at hEz 1
             have z2:=cell_at hEz 2 rfl
             have zf2:W6.frozen? ⟨w.heap.size+1,2,none⟩=false:=frz_at hEz 2
             have z3:=cell_at hEz 3 rfl
             have zf3:W6.frozen? ⟨w.heap.size+1,3,none⟩=false:=frz_at hEz 3
             have z4:=cell_at hEz 4 rfl
             have zf4:W6.frozen? ⟨w.heap.size+1,4,none⟩=false:=frz_at hEz 4
             have z5:=cell_at hEz 5 rfl
             have zf5:W6.frozen? ⟨w.heap.size+1,5,none⟩=false:=frz_at hEz 5
             have z6:=cell_at hEz 6 rfl
             have zf6:W6.frozen? ⟨w.heap.size+1,6,none⟩=false:=frz_at hEz 6
             obtain⟨Qz,hqz1,hQzc,hQzo,hQzs,hQzb⟩:=set7_all hEz (.int .i64 0) (.int .i64 0) (.int .u64 0) (.bool false) (.string ⟨#[]⟩) (.int .i64 0) (.slice none 0 0)
             have HQZ:=hQz hqz1
             have HQZC:=hQz hQzc
             have HQZB:=hQz hQzb
             have HQZS:=hQz hQzs
             have HQZO:=hQz hQzo
             clear hqz1 hQzc hQzb hQzs hQzo
             go_upto_region 42 with fail
             iterate 6 (go_step;go_simp)
             rw[HQZ.out]
             iterate 5 (go_step;go_simp)
             go_step
             go_simp
             have q0:=cell_at HQZC.out 0 rfl
             have q1:=cell_at HQZC.out 1 rfl
             have q2:=cell_at HQZC.out 2 rfl
             have q3:=cell_at HQZC.out 3 rfl
             have q4:=cell_at HQZC.out 4 rfl
             have q5:=cell_at HQZC.out 5 rfl
             have q6:=cell_at HQZC.out 6 rfl
             refine bodyPost_ret (v:=.tuple #[.agg #[.int .i64 0,.int .i64 0,.int .u64 0,.bool false,.string ⟨#[]⟩,.int .i64 0,.slice none 0 0],.int .i64 er]) (by simp[results,Tryz.results18,go_sem,q0,q1,q2,q3,q4,q5,q6]) rfl ?_
             exact rc_err HRES.out HX0.out ((HB1.out.trans (H16.out.mono HB1.out.size)).trans (HQZB.out.mono (by omega)))
            | ok lv=>
             have h9:=HANS.out
             rw[hR]at h9
             obtain⟨rfl,hsl9,hnl,hvs⟩:=h9
             have HSTP:=hQz (exL_step HYY.out HEX5.out hR)
             have hll:=decV_len HDB.out hR
             have HX6:Hid (W6.heap[wd.heap.size]? = some (.cells #[.int .i64 fd.num,.slice va vn vc] 57 (0,0))):=(HS1.out.block _ (by omega)).trans HX5.out
             have c1:=cell_at HX6.out 1 rfl
             have cf1:W6.frozen? ⟨wd.heap.size,1,none⟩=false:=frz_at HX6.out 1
             have HG6:Hid (Gr (VRs clS f) W6 (wd.heap.size+1) 38 7 (.slice va vn vc) vs rs3):=HG5.out.keep (mvsV clS f) (fun b _ hb=>HS1.out.block b hb) hw6
             have HOW:Hid (W6.ownsRow (wd.heap.size+1) 38 7 (.slice va vn vc) vn (rs3.flatMap id)):=by
              refine(?_:World.ownsRow _ _ _ _ _ _ _)
              have:=HG6.out.own
              rw[HVN.out]at this
              exact this
             have HC6:Hid (Below wd.heap.size wd W6):=HB5.out.trans (HS1.out.mono hw5)
             have hb0:wd.heap.size+1≤W6.heap.size:=by omega
             clear hR HANS
             by_cases hl0:lv=[]
             ·subst hl0
              obtain⟨rfl,rfl⟩:=hnl rfl
              have hsl0:0=sl:=by simpa using hsl9
              subst hsl0
              clear hnl hvs hsl9 hll
              have hm2:vn≤(jj+1)*100001:=Nat.le_trans hvl (Nat.mul_le_mul_right _ (by omega))
              obtain⟨i0,hi0,hz0,hz1,hz2⟩:=info_parts infoNN
              obtain⟨Q,hQ⟩:∃ Q,W6.setCell ⟨wd.heap.size,1,none⟩ (.slice va vn vc)=Q:=⟨_,rfl⟩
              have hQp:Q.heap[wd.heap.size]? = some (.cells #[.int .i64 fd.num,.slice va vn vc] 57 (0,0)):=by rw[←hQ,setCell_heap HX6.out];rfl
              have hQs:Q.heap.size=W6.heap.size:=by rw[←hQ];simp
              have HQG:Hid (Gr (VRs clS f) Q (wd.heap.size+1) 38 7 (.slice va vn vc) vs rs3):=HG6.out.keep (mvsV clS f) (fun b hb _=>by rw[←hQ];exact Below.heap_setCell _ _ _ _ (by show b≠wd.heap.size;omega)) (by omega)
              have HQB:Hid (Below wd.heap.size wd Q):=by
               refine(?_:Below _ _ _)
               rw[←hQ];exact HC6.out.setCell (p:=⟨wd.heap.size,1,none⟩) (Nat.le_refl _) _
              have HQ:=hQz hQ
              have HQP:=hQz hQp
              clear hQ hQp
              go_wp2_with (at_builtin;refine wpList_append_own_none rfl _ _ _ rfl (wd.heap.size+1) 38 i0 7 Tryz.underlying55 hi0 (.slice va vn vc) vn (rs3.flatMap id) rfl HOW.out rfl ?_)
              try go_wp2_with fail
              try rw[HQ.out]
              clear c1 cf1
              try go_wp2_with fail
              go_roundw
              case rel=>
               first
               | exact⟨jj+1,_,vs,rs3,by go_num,by omega,HQB.out,by omega,HQP.out,HQG.out,by rw[HVN.out];exact hm2,by have:=HSTP.out;rwa [List.append_nil]at this⟩
               | (repeat apply Exists.intro);exact⟨⟨jj+1,_,vs,rs3,by go_num,by omega,HQB.out,by omega,HQP.out,HQG.out,by rw[HVN.out];exact hm2,by have:=HSTP.out;rwa [List.append_nil]at this⟩,rfl⟩
              case measure=>simp[intOf];omega
             ·obtain⟨ad5,c5,hsl5,hlc5,h0 | ⟨g5,o5,rfl,hg5,hc5⟩⟩:=hvs
              ·exact absurd h0 hl0
              have hsl6:sl=lv.length:=hsl9.symm
              have hq0:0<sl:=by rw[hsl6];exact List.length_pos_iff.2 hl0
              rw[←hsl6]at hsl5 hll
              obtain⟨rfl,rfl⟩:=slice_two hsl5
              obtain⟨qs,g1,g2,g3,g4,gg5,g6⟩:=nds_rows (w:=W6) (S:=fun b=>w5.heap.size≤b∧b<W6.heap.size) (f:=f) (g:=g5) (ys:=lv) (o:=o5) fun j y hj=>by
               obtain⟨fs,h1,h2⟩:=hc5 j y hj
               exact⟨fs,h1,fun hk=>h2 (by simp[clS,hk])⟩
              have G1:=hQz g1
              have G2:=hQz g2
              have G3:=hQz g3
              have G4:=hQz g4
              have G5:=hQz gg5
              have G6:Hid ((qs.flatMap id).length=sl*7):=by
               refine(?_:_=_)
               rw[g6,hsl6]
              have HSL:Hid (lv.length=sl):=hsl9
              have hm3:vn+sl≤(jj+1)*100001:=by rw[Nat.add_mul];omega
              have hmb2:vn+sl≤20000000000:=by
               have:(jj+1)*100001≤100001*100001:=Nat.mul_le_mul_right _ (by omega)
               omega
              clear g1 g2 g3 g4 gg5 g6 hc5 hsl5 hnl hsl9 hsl6 hll
              go_wp2_with (at_builtin;refine wpushL (T:=38) (base:=wd.heap.size+1) (n:=vn) (v:=.slice va vn vc) (xs:=rs3.flatMap id) Tryz.underlying55 infoNN rfl (by decide) HOW.out hb0 ⟨g5,o5,none⟩ sl _ (qs.flatMap id) G6.out G5.out (fun j u hu=>by rw[add_zero];exact G4.out j u hu) hq0 rfl _ _ rfl rfl rfl (by unfold maxLen;omega) (by omega) ?_)
              intro g7 cap7 W7 hown7 hgr7 hat7 hlt7
              have HG7:Hid (Gr (VRs clS f) W7 (wd.heap.size+1) 38 7 (.slice (some ⟨g7,0,none⟩) (vn+sl) cap7) (vs++lv) (rs3++qs)):=HG6.out.pushN (mvsV clS f) G1.out G2.out (fun j y r h1 h2=>mvsV clS f _ _ _ _ _ _ (G3.out j y r h1 h2) (fun _ _=>rfl) (fun b hb=>⟨by have:=hb.1;omega,hb.2,fun e=>by have:=(HVB.out b e).2;have:=hb.1;omega⟩)) HVN.out HSL.out (by rw[List.flatMap_id,List.flatMap_id];exact hown7) hgr7 (by first | exact hat7 | simpa using hat7)
              have HC7:Hid (Below wd.heap.size wd W7):=HC6.out.grown hgr7 (by omega) (fun b hb=>by have:=(HVB.out b hb).1;omega)
              have hx7:W7.heap[wd.heap.size]? = some (.cells #[.int .i64 fd.num,.slice va vn vc] 57 (0,0)):=(hgr7.block _ (by omega) (fun e=>by have:=(HVB.out _ e.symm).1;omega)).trans HX6.out
              have k1:=cell_at hx7 1 rfl
              have kf1:W7.frozen? ⟨wd.heap.size,1,none⟩=false:=frz_at hx7 1
              have h7s:W6.heap.size≤W7.heap.size:=hgr7.size
              obtain⟨Q,hQ⟩:∃ Q,W7.setCell ⟨wd.heap.size,1,none⟩ (.slice (some ⟨g7,0,none⟩) (vn+sl) cap7)=Q:=⟨_,rfl⟩
              have hQp:Q.heap[wd.heap.size]? = some (.cells #[.int .i64 fd.num,.slice (some ⟨g7,0,none⟩) (vn+sl) cap7] 57 (0,0)):=by rw[←hQ,setCell_heap hx7];rfl
              have hQs:Q.heap.size=W7.heap.size:=by rw[←hQ];simp
              have HQG:Hid (Gr (VRs clS f) Q (wd.heap.size+1) 38 7 (.slice (some ⟨g7,0,none⟩) (vn+sl) cap7) (vs++lv) (rs3++qs)):=HG7.out.keep (mvsV clS f) (fun b hb _=>by rw[←hQ];exact Below.heap_setCell _ _ _ _ (by show b≠wd.heap.size;omega)) (by omega)
              have HQB:Hid (Below wd.heap.size wd Q):=by
               refine(?_:Below _ _ _)
               rw[←hQ];exact HC7.out.setCell (p:=⟨wd.heap.size,1,none⟩) (Nat.le_refl _) _
              have HQ:=hQz hQ
              have HQP:=hQz hQp
              clear hQ hQp hown7 hgr7 hat7 hlt7 hx7
              try go_wp2_with fail
              try rw[HQ.out]
              clear c1 cf1 k1 kf1
              try go_wp2_with fail
              go_roundw
              case rel=>
               first
               | exact⟨jj+1,_,vs++lv,_,by go_num,by omega,HQB.out,by omega,HQP.out,HQG.out,(by rw[List.length_append,HVN.out,HSL.out];exact hm3),HSTP.out⟩
               | (repeat apply Exists.intro);exact⟨⟨jj+1,_,vs++lv,_,by go_num,by omega,HQB.out,by omega,HQP.out,HQG.out,(by rw[List.length_append,HVN.out,HSL.out];exact hm3),HSTP.out⟩,rfl⟩
              case measure=>simp[intOf];omega
           ·have hjn':¬(jj:Int)<(rn:Int):=by omega
            have hte:rd.take jj=rd:=List.take_of_length_le (by have:=HRN.out;omega)
            rw[hte]at HEX5
            have HVS:Hid (decVs (decR ms f) fd (toRead fd (knownL mfs D))=.ok vs):=by
             refine(?_:_=_)
             rw[HRD.out];exact HEX5.out
            have hkinds:∀ y∈vs,1≤y.kind∧y.kind≤7:=fun y hy=>by
             obtain⟨x,b,hx,hb,hyb⟩:=exL_mem HEX5.out hy
             exact decV_kinds (HROK.out x hx).db (fun z hz=>decR_kind hz) hb y hyb
            have HKS:=hQz hkinds
            have HVV:=hQz (HG5.out.vals (s:=clS) (fun b=>wd.heap.size+1≤b∧b<w5.heap.size) (fun b h1 h2=>⟨h1,h2⟩))
            have c0:=cell_at HX5.out 0 rfl
            have c1:=cell_at HX5.out 1 rfl
            have r3:=cell_at hE5 3 rfl
            clear hte hkinds hE5
            go_upto_region 45 with fail
            go_cut [193] (fun v wx=>v=.bool (keepD fd vs)∧Below w5.heap.size w5 wx)
            case first=>
             by_cases hv0:vn=0
             ·subst hv0
              have hkd:keepD fd vs=false:=by
               have:vs=[]:=List.eq_nil_of_length_eq_zero HVN.out
               rw[this];rfl
              go_wp2_with fail
              go_meet
              rw[hkd]
              exact⟨rfl,Below.refl _ _⟩
             ·have hv1:(0:Int)<(vn:Int):=by omega
              have hv2:decide ((0:Int)<(vn:Int))=true:=decide_eq_true hv1
              obtain⟨y,hy⟩:∃ y,vs[0]? = some y:=⟨_,List.getElem?_eq_getElem (by have:=HVN.out;omega)⟩
              have hkd:keepD fd vs=(fd.rep || !defP y):=by unfold keepD;rw[hy]
              cases hrep:fd.rep with
              | true=>
               rw[hrep]at r3 hkd
               go_wp2_with fail
               go_meet
               rw[hkd]
               exact⟨rfl,Below.refl _ _⟩
              | false=>
               rw[hrep]at r3 hkd
               obtain⟨gV,oV,gc,fs,hsl,hgV,hcl,hdp⟩:=ValsG.at HVV.out hy
               rw[HVN.out]at hsl
               obtain⟨rfl,rfl⟩:=slice_two hsl
               have hk7:=HKS.out y (List.mem_of_getElem? hy)
               obtain⟨la,ln,lc,hrow⟩:∃ la ln lc,clS.row y fs=[.int .i64 (cn y).kind,.int .i64 (cn y).n,.int .u64 (cn y).u,.bool (cn y).b,.string (mkB (cn y).s),.int .i64 (cn y).type,.slice la ln lc]:=by
                by_cases h7:y.kind=7
                ·obtain⟨a,c,he⟩:=HeldG.isSl (hdp (by simp[clS,h7]))
                 exact⟨a,y.fields.length,c,by simp[clS,crow,nrow,h7,he]⟩
                ·exact⟨none,0,0,by simp[clS,crow,nrow,h7]⟩
               rw[hrow]at hcl
               have hz:=zeroR_any (cn y).kind (cn y).n (cn y).u (cn y).b (cn y).s (cn y).type (cn y).fields la ln lc w5
               have hze:zeroR ⟨(cn y).kind,(cn y).n,(cn y).u,(cn y).b,(cn y).s,(cn y).type,(cn y).fields⟩=defP y:=zero_eq hk7.1 hk7.2
               rw[hze]at hz
               have n0:=hcl 0 _ rfl
               have n1:=hcl 1 _ rfl
               have n2:=hcl 2 _ rfl
               have n3:=hcl 3 _ rfl
               have n4:=hcl 4 _ rfl
               have n5:=hcl 5 _ rfl
               have n6:=hcl 6 _ rfl
               simp only[Nat.zero_mul,Nat.add_zero]at n0 n1 n2 n3 n4 n5 n6
               generalize cn y=z at *
               clear hsl hgV hcl hdp hrow hze hy
               go_wp2_with fail
               refine hz.mono ?_
               rintro e W6 ⟨rfl,hb6⟩
               clear hz
               go_wp2_with fail
               go_meet
               rw[hkd]
               exact⟨rfl,hb6⟩
            case rest=>
            obtain⟨rfl,hcb⟩:=hcut
            clear c0 c1 r3
            generalize wc=W6 at *
            have HC6:=hQz hcb
            have hw6:w5.heap.size≤W6.heap.size:=hcb.size
            have H26:=hQz (H25.out.trans (hcb.mono H25.out.size))
            have hx6:=(hcb.block wd.heap.size (by omega)).trans HX5.out
            have c0:=cell_at hx6 0 rfl
            have c1:=cell_at hx6 1 rfl
            have HGR6:=hQz (HRG.out W6 H26.out)
            have HO6:=hQz (HRO.out W6 H26.out)
            have HB26:=hQz (HRB.out W6 H26.out)
            obtain⟨fva,fvc,hfv⟩:=own_slice HGR6.out.own
            obtain⟨fn,hfn⟩:∃ n,fl.length=n:=⟨_,rfl⟩
            rw[hfn]at hfv
            subst hfv
            have hfnl:fn≤10000:=by
             have h1:=decRF_len HEX.out
             rw[List.length_take]at h1
             have:=HNF.out
             omega
            have HFN:=hQz hfn
            have HFVB:Hid (∀ b,(Value.slice fva fn fvc).ownBlock=some b→W1.heap.size+2≤b∧b<w2.heap.size):=HGR.out.blk
            clear hfn hcb hx6
            cases hkp:keepD fd vs with
            | false=>
             have HST:Hid (decRF (decR ms f) (knownL mfs D) fd=.ok []):=by
              refine(?_:_=_)
              rw[decRF_ok HVS.out,hkp,if_neg (by simp)]
             go_wp2_with fail
             go_roundw
             case rel=>
              first
              | exact⟨k2+1,_,fl,rs,by go_num,by omega,HB26.out,by have:=H26.out.size;omega,HO6.out,HGR6.out,by have:=exL_step HFD.out HEX.out HST.out;rwa [List.append_nil]at this⟩
              | (repeat apply Exists.intro);exact⟨⟨k2+1,_,fl,rs,by go_num,by omega,HB26.out,by have:=H26.out.size;omega,HO6.out,HGR6.out,by have:=exL_step HFD.out HEX.out HST.out;rwa [List.append_nil]at this⟩,rfl⟩
             case measure=>simp[intOf];omega
            | true=>
             have HST:Hid (decRF (decR ms f) (knownL mfs D) fd=.ok [(fd.num,vs)]):=by
              refine(?_:_=_)
              rw[decRF_ok HVS.out,hkp,if_pos rfl]
             have HSTP:=hQz (exL_step HFD.out HEX.out HST.out)
             have p6:=cell_at HO6.out 6 rfl
             obtain⟨A,hA,hAC,hAb,hAs⟩:=box_new W6 #[.int .i64 fd.num,.slice va vn vc] 57
             have HA:=hQz hA
             have HAC:=hQz hAC
             have hAl:W1.heap.size+2≤A.heap.size:=by have:=H26.out.size;omega
             have hGA:Gr (FRs clS f) A (W1.heap.size+2) 57 2 (.slice fva fn fvc) fl rs:=HGR6.out.keep (mvsF clS f) (fun b _ hb=>hAb.block b hb) (by omega)
             have HGA:=hQz hGA
             have HOW:Hid (A.ownsRow (W1.heap.size+2) 57 2 (.slice fva fn fvc) fn (rs.flatMap id)):=by
              refine(?_:World.ownsRow _ _ _ _ _ _ _)
              have:=hGA.own
              rw[HFN.out]at this
              exact this
             have h26s:=H26.out.size
             have hwc2:w2.heap.size≤wd.heap.size:=H2C.out.size
             have hxr:FRs clS f A (FarV A (W1.heap.size+2) (.slice fva fn fvc)) (fd.num,vs) [.int .i64 fd.num,.slice va vn vc]:=⟨_,rfl,ValsG.mv (fun b hb=>(hAb.block b (by have:=hb.2;omega)).trans (HC6.out.block b hb.2)) (fun b hb=>⟨by have:=hb.1;omega,by have:=hb.2;omega,fun e=>by have:=HFVB.out _ e;have:=hb.1;omega⟩) HVV.out⟩
             have HXR:=hQz hxr
             have HAB:=hQz hAb
             clear hA hAC hGA hxr hAs hAb
             go_wp2_with (at_builtin;rw[HA.out];refine row_pushL (T:=57) (t:=36) Tryz.underlying36 infoNF rfl (by decide) HOW.out hAl [.int .i64 fd.num,.slice va vn vc] rfl (by simp[Value.oneCell']) W6.heap.size HAC.out rfl _ _ rfl rfl rfl (by unfold maxLen;omega) (by omega) ?_)
             intro g7 cap7 W7 hown7 hgr7 hat7 hlt7
             have hgrA:W6.grownBy W7 (Value.slice fva fn fvc).ownBlock:=by
              have h1:=World.grownBy_alloc W6 (.cells #[.int .i64 fd.num,.slice va vn vc] 57) (Value.slice fva fn fvc).ownBlock
              rw[HA.out]at h1
              exact h1.trans hgr7
             have hp7:W7.heap[W1.heap.size+1]? = some (.cells #[.int .i64 7,.int .i64 0,.int .u64 0,.bool false,.string S0,.int .i64 (q:Int),.slice fva fn fvc] 38 (0,0)):=(hgrA.block _ (by omega) (fun e=>by have:=HFVB.out _ e.symm;omega)).trans HO6.out
             have c71:=cell_at hp7 6 rfl
             have f71:W7.frozen? ⟨W1.heap.size+1,6,none⟩=false:=frz_at hp7 6
             have HGP:=hQz (HGA.out.push (mvsF clS f) (x:=(fd.num,vs)) (r:=[.int .i64 fd.num,.slice va vn vc]) rfl HXR.out HFN.out (by rw[List.flatMap_id,hVl];exact hown7) hgr7 (by first | exact hat7 | simpa using hat7))
             have h7s:W6.heap.size≤W7.heap.size:=hgrA.size
             have hg7:W1.heap.size+2≤g7:=by
              rcases hat7 with h | h
              ·exact(HFVB.out _ h).1
              ·omega
             obtain⟨Q,hQ⟩:∃ Q,W7.setCell ⟨W1.heap.size+1,6,none⟩ (.slice (some ⟨g7,0,none⟩) (fn+1) cap7)=Q:=⟨_,rfl⟩
             have hQp:Q.heap[W1.heap.size+1]? = some (.cells #[.int .i64 7,.int .i64 0,.int .u64 0,.bool false,.string S0,.int .i64 (q:Int),.slice (some ⟨g7,0,none⟩) (fn+1) cap7] 38 (0,0)):=by rw[←hQ,setCell_heap hp7];rfl
             have hQo:∀ b,b≠W1.heap.size+1→Q.heap[b]? = W7.heap[b]?:=fun b hb=>by rw[←hQ];exact Below.heap_setCell _ _ _ _ hb
             have hQs:Q.heap.size=W7.heap.size:=by rw[←hQ];simp
             have hB7:Below (W1.heap.size+1) V W7:=HB26.out.grown hgrA (by omega) (fun b hb=>by have:=(HFVB.out b hb).1;omega)
             have hQb:Below (W1.heap.size+1) V Q:=by rw[←hQ];exact hB7.setCell (p:=⟨W1.heap.size+1,6,none⟩) (Nat.le_refl _) _
             have HQ:=hQz hQ
             have HQP:=hQz hQp
             have HQB:=hQz hQb
             have h4s:W1.heap.size+2≤Q.heap.size:=by omega
             have HGQ:Hid (Gr (FRs clS f) Q (W1.heap.size+2) 57 2 (.slice (some ⟨g7,0,none⟩) (fn+1) cap7) (fl++[(fd.num,vs)]) (rs++[[.int .i64 fd.num,.slice va vn vc]])):=HGP.out.keep (mvsF clS f) (fun b hb _=>hQo b (by omega)) (by omega)
             clear hQ hQp hQo hQs hQb hB7 hown7 hgr7 hgrA hat7 hp7 hg7 hlt7
             try go_wp2_with fail
             try rw[HQ.out]
             clear c71 f71 c0 c1 p6
             try go_wp2_with fail
             go_roundw
             case rel=>
              first
              | exact⟨k2+1,_,_,_,by go_num,by omega,HQB.out,h4s,HQP.out,HGQ.out,HSTP.out⟩
              | (repeat apply Exists.intro);exact⟨⟨k2+1,_,_,_,by go_num,by omega,HQB.out,h4s,HQP.out,HGQ.out,HSTP.out⟩,rfl⟩
             case measure=>simp[intOf];omega
      ·have hkn':¬(k2:Int)<(nf:Int):=by omega
       have hte:mfs.take k2=mfs:=List.take_of_length_le (by have:=HNF.out;omega)
       rw[hte]at HEX
       have HRES:Hid (decR ms (f+1) (q:Int) zs=.ok ⟨7,0,0,false,u8s (unknL mfs D),(q:Int),fl⟩):=HDR.out _ HEX.out
       obtain⟨fva,fvc,hfv⟩:=own_slice HGR.out.own
       subst hfv
       have hEz:=(HW1B.out.block (w.heap.size+1) (by omega)).trans HE1.out
       have o0:=cell_at HOB.out 0 rfl
       have o1:=cell_at HOB.out 1 rfl
       have o2:=cell_at HOB.out 2 rfl
       have o3:=cell_at HOB.out 3 rfl
       have o4:=cell_at HOB.out 4 rfl
       have o5:=cell_at HOB.out 5 rfl
       have o6:=cell_at HOB.out 6 rfl
       have hbel2:=HW1B.out.size
       clear hte hbel
       have z0:=cell_at hEz 0 rfl
       have zf0:w2.frozen? ⟨w.heap.size+1,0,none⟩=false:=frz_at hEz 0
       have z1:=cell_at hEz 1 rfl
       have zf1:w2.frozen? ⟨w.heap.size+1,1,none⟩=false:=frz_at hEz 1
       have z2:=cell_at hEz 2 rfl
       have zf2:w2.frozen? ⟨w.heap.size+1,2,none⟩=false:=frz_at hEz 2
       have z3:=cell_at hEz 3 rfl
       have zf3:w2.frozen? ⟨w.heap.size+1,3,none⟩=false:=frz_at hEz 3
       have z4:=cell_at hEz 4 rfl
       have zf4:w2.frozen? ⟨w.heap.size+1,4,none⟩=false:=frz_at hEz 4
       have z5:=cell_at hEz 5 rfl
       have zf5:w2.frozen? ⟨w.heap.size+1,5,none⟩=false:=frz_at hEz 5
       have z6:=cell_at hEz 6 rfl
       have zf6:w2.frozen? ⟨w.heap.size+1,6,none⟩=false:=frz_at hEz 6
       obtain⟨Qz,hqz1,hQzc,hQzo,hQzs,hQzb⟩:=set7_all hEz (.int .i64 7) (.int .i64 0) (.int .u64 0) (.bool false) (.string S0) (.int .i64 (q:Int)) (.slice fva fl.length fvc)
       have HQZ:=hQz hqz1
       have HQZC:=hQz hQzc
       have HQZB:=hQz hQzb
       have HQZS:=hQz hQzs
       have HQZO:=hQz hQzo
       clear hqz1 hQzc hQzb hQzs hQzo
       go_wp2_with fail
       rw[HQZ.out]
       have q0:=cell_at HQZC.out 0 rfl
       have q1:=cell_at HQZC.out 1 rfl
       have q2:=cell_at HQZC.out 2 rfl
       have q3:=cell_at HQZC.out 3 rfl
       have q4:=cell_at HQZC.out 4 rfl
       have q5:=cell_at HQZC.out 5 rfl
       have q6:=cell_at HQZC.out 6 rfl
       refine bodyPost_ret (v:=.tuple #[.agg #[.int .i64 7,.int .i64 0,.int .u64 0,.bool false,.string S0,.int .i64 (q:Int),.slice fva fl.length fvc],.int .i64 0]) (by simp[results,Tryz.results18,go_sem,q0,q1,q2,q3,q4,q5,q6]) rfl ?_
       rw[HRES.out]
       refine⟨7,0,0,false,S0,(q:Int),fva,fl.length,fvc,0,rfl,⟨rfl,rfl,.slice fva fl.length fvc,?_,?_⟩,HBw.out.trans (HQZB.out.mono (by omega))⟩
       ·rw[←HS0.out]
        simp[clS,crow,nrow,cn]
       ·have h9:=HGR.out.fields (f:=f+1) (fun h0=>absurd h0 (by omega)) (fun b=>W1.heap.size+2≤b∧b<w2.heap.size) (fun b h1 h2=>⟨h1,h2⟩)
        exact HeldG.mv (fun b hb=>HQZO.out b (by have:=hb.1;omega)) (fun b hb=>⟨by have:=hb.1;omega,by rw[HQZS.out];exact hb.2⟩) h9
end Go.Proofs.YteajlfgbmefncaaGreatDoor
