/-
  Walks and plain words (DcW DcQ).
-/
import Derived.Test.YteajlfgbmefncaaGreatDoorN36
import Derived.Test.YteajlfgbmefncaaGreatDoorN30
import Derived.Test.YteajlfgbmefncaaGreatDoorN31
namespace Go.Proofs.YteajlfgbmefncaaGreatDoor
set_option linter.unusedVariables false
open Go.ChangeShapes Go.WideShapes Go.ChangeAt Go.RowKit

def TextIn (ms:List MD):Prop:=∃ m∈ms,∃ x∈m.fields,x.kind=5
theorem own_len (fd:FD) (l:List WF):(ownL fd l).length≤l.length:=List.length_filter_le _ _
theorem read_len (fd:FD) (l:List WF):(toRead fd l).length≤l.length:=by
 unfold toRead
 split
 ·exact own_len fd l
 ·rename_i h
  split
  ·simp
  ·have:¬(ownL fd l).length<2:=fun h'=>h (.inr h')
   have:=own_len fd l
   simp;omega
theorem sumL_own (g:WF→Nat) (fd:FD) (l:List WF):sumL g (ownL fd l)≤sumL g l:=sumL_filter g _ l
theorem flat_d {fs:List FD} {D:List (TF × List Int)} {zs:List Int} (hP:∀ p∈D,PieceOK p) (hf:(D.flatMap fun p=>p.2)=zs):sumL (fun x:WF=>x.d.length) (knownL fs D)≤zs.length:=by
 unfold knownL
 rw[sumL_map]
 have h1:=sumL_filter (fun p:TF × List Int=>(wfOf p).d.length) (isKn fs) D
 have h2:sumL (fun p:TF × List Int=>(wfOf p).d.length) D≤sumL (fun p=>p.2.length) D:=sumL_le fun p hp=>by have:=(hP p hp).dl;show (wfOf p).d.length≤p.2.length;unfold wfOf;dsimp only;omega
 have h3:(D.flatMap fun p=>p.2).length=sumL (fun p=>p.2.length) D:=flatLen _ _
 rw[hf]at h3
 omega
theorem known_len (fs:List FD) (D:List (TF × List Int)):(knownL fs D).length≤D.length:=by
 unfold knownL;rw[List.length_map];exact List.length_filter_le _ _
theorem read_d {fd:FD} {l:List WF} {n:Nat} (h:sumL (fun x:WF=>x.d.length) l≤n):∀ x∈toRead fd l,x.d.length≤n:=by
 intro x hx
 have h1:=sumL_own (fun x:WF=>x.d.length) fd l
 unfold toRead at hx
 split at hx
 ·have:=sumL_mem (g:=fun x:WF=>x.d.length) hx
  omega
 ·split at hx
  ·cases hx
  ·rename_i y hy
   have hx:x=_:=List.mem_singleton.1 hx
   have h2:=sumL_mem (g:=fun x:WF=>x.d.length) (List.mem_of_getLast? hy)
   rw[hx]
   dsimp only
   split
   ·rw[flatLen];omega
   ·omega
theorem wfIn_mv {w W:World} {v:Value} {l:List WF} (h:WfIn w (fun b=>b<w.heap.size) v l) (hW:Below w.heap.size w W):WfIn W (fun b=>b<W.heap.size) v l:=
 SlIn.imp h (fun b hb=>by have hb':b<w.heap.size:=hb;have:=hW.size;omega) (fun y g o hg hy=>by
  obtain⟨a,c,h1,h2⟩:=hy
  exact⟨a,c,h1.old (hW.block g hg),h2.mv (fun b hb=>hW.block b hb) (fun b hb=>by have hb':b<w.heap.size:=hb;have:=hW.size;omega)⟩)
set_option maxHeartbeats 64000000 in
set_option maxRecDepth 20000 in
theorem message_any (ma ea ta:Option Addr) (nm ne nt mc ec tc:Nat) (ms:List MD) (hnm:ms.length=nm) (hK:KindOK ms) (hml:∀ m∈ms,m.fields.length≤100000):∀ (f:Nat) (t dep:Int) (a:Option Addr) (len cap:Nat) (zs:List Int) (w:World),dep+(f:Int)=17→0≤dep→0≤t→t<(nm:Int)→HeldM w (fun b=>b<w.heap.size) (.slice ma nm mc) ms→IsB w a len zs→len≤cap→cap≤9223372036854775807→len≤100000→(TextIn ms→ValC w)→
  Calls Tryz.prog 15 #[.agg #[.slice ma nm mc,.slice ea ne ec,.slice ta nt tc],.int .i64 t,.slice a len cap,.int .i64 dep] w fun e w'=>MAns f (decM ms f t zs) w e w':=by
 intro f
 induction f with
 | zero=>
  intro t dep a len cap zs w hdf hd0 ht0 ht1 hHM hB hlc hcm hlm hval
  have hd:dep=17:=by omega
  subst hd
  obtain⟨Y,hY,hC,hb,hYs⟩:=box_new w #[.slice ma nm mc,.slice ea ne ec,.slice ta nt tc] 26
  have HY:=hQz hY
  have HB:=hQz hb
  clear hY hC hb hYs hHM hB hval hdf
  go_enter Tryz.func15,Tryz.ntmps15
  go_upto_region 1 with fail
  rw[HY.out]
  go_wp2_with fail
  go_ret2
  exact⟨by decide,rfl,HB.out⟩
 | succ f ih=>
 intro t dep a len cap zs w hdf hd0 ht0 ht1 hHM hB hlc hcm hlm hval
 obtain⟨q,hq⟩:∃ q:Nat,t=(q:Int):=⟨t.toNat,by omega⟩
 subst hq
 have hqn:q<nm:=by omega
 obtain⟨Y,hY,hC,hb,hYs⟩:=box_new w #[.slice ma nm mc,.slice ea ne ec,.slice ta nt tc] 26
 have HY:=hQz hY
 have HBY:=hQz hb
 have HCY:=hQz hC
 have hYl:w.heap.size+1=Y.heap.size:=by omega
 obtain⟨m,hm⟩:∃ m,ms[q]? = some m:=⟨_,List.getElem?_eq_getElem (by omega)⟩
 have hmm:=List.mem_of_getElem? hm
 obtain⟨hKr,hKn,hKk⟩:=hK m hmm
 have hmlen:=hml m hmm
 have HFO:Hid (fieldsOf ms (q:Int)=m.fields):=by
  refine(?_:_=_)
  unfold fieldsOf;rw[Int.toNat_natCast,hm]
 obtain⟨g,oo,c0,ka,kc,hsl,hg,e0,e1,hrow⟩:=HeldN.at hHM (W:=Y) (fun b hb'=>hb.block b hb') hm
 have HTX:Hid (∀ x∈m.fields,x.kind=5→ValC w):=fun x hx h5=>hval ⟨m,hmm,x,hx,h5⟩
 rw[hnm]at hsl
 obtain⟨rfl,rfl⟩:=slice_two hsl
 obtain⟨mname,mfs⟩:=m
 dsimp only at hrow e0 e1 hmlen hKr hKn hKk HFO HTX
 obtain⟨nf,hnf⟩:∃ n,mfs.length=n:=⟨_,rfl⟩
 have HNF:=hQz hnf
 rw[hnf]at hrow e1 hmlen
 have hgN:g<w.heap.size:=hg
 have E0:=hQz e0
 have E1:=hQz e1
 have HROW:=hQz hrow
 have HKR:=hQz hKr
 have HKK:=hQz hKk
 have HHM:=hQz hHM
 have HIH:=hQz ih
 have HVAL:=hQz hval
 have HZB:Hid (IsBs zs):=fun z hz=>isB_bytes hB z hz
 have HZL:Hid (zs.length=len):=hB.1
 have HDM:Hid (decM ms (f+1) (q:Int) zs=match split zs with
  | none=>.error 2
  | some D=>match exL (decF (decM ms f) (knownL mfs D)) mfs with
   | .error e=>.error e
   | .ok fl=>.ok ⟨7,0,0,false,u8s (unknL mfs D),(q:Int),fl⟩):=by
  refine(?_:_=_)
  rw[decM,HFO.out]
  rfl
 have hpt:=parted_any mname ka nf kc mfs a len cap zs Y hnf hmlen (RowsIn.more hrow fun b hb'=>by have hb2:b<w.heap.size:=hb';omega) (isB_old hB hb) hlc hcm hlm
 have s0:=cell_at hC 0 rfl
 have hq0:(0:Int)≤(q:Int):=by omega
 have hq1:(q:Int)<(nm:Int):=by omega
 have hd17:¬(16:Int)<dep:=by omega
 clear hsl hrow hnf hm hmm hKr hKn hKk hHM ih hval hB hY hC hb hYs HFO hg
 go_enter Tryz.func15,Tryz.ntmps15
 go_upto_region 1 with fail
 rw[HY.out]
 go_wp2_with fail
 refine hpt.mono ?_
 intro e W1 hans
 clear hpt s0 e0 e1
 unfold PtAns at hans
 cases hsp:split zs with
 | none=>
  rw[hsp]at hans
  obtain⟨rfl,hb1⟩:=hans
  have HRES:Hid (decM ms (f+1) (q:Int) zs=.error 2):=by
   refine(?_:_=_)
   rw[HDM.out,hsp]
  have HB1:=hQz (HBY.out.trans (hb1.mono HBY.out.size))
  clear hsp hb1 HDM HIH
  go_wp2_with fail
  go_ret2
  rw[HRES.out]
  exact⟨by decide,rfl,HB1.out⟩
 | some D=>
 rw[hsp]at hans
 obtain⟨kad,kcc,rfl,hkw,hb1⟩:=hans
 have HPO:=hQz (split_ok _ (Nat.le_refl _) HZB.out hsp)
 have HFL:Hid ((D.flatMap fun p=>p.2)=zs):=split_flat zs D hsp
 have HKL:Hid ((knownL mfs D).length≤100000):=by
  refine(?_:(knownL mfs D).length≤100000)
  have h1:=spl_len _ _ D HZB.out hsp
  have h2:=known_len mfs D
  have:=HZL.out
  omega
 have HSD:Hid (sumL (fun x:WF=>x.d.length) (knownL mfs D)≤100000):=by
  refine(?_:sumL (fun x:WF=>x.d.length) (knownL mfs D)≤100000)
  have h1:=flat_d (fs:=mfs) HPO.out HFL.out
  have:=HZL.out
  omega
 have HRK:Hid (∀ fd∈mfs,∀ x∈toRead fd (knownL mfs D),ReadOK fd x):=fun fd hfd=>read_ok HKR.out hfd HPO.out
 have HDN:Hid (decM ms (f+1) (q:Int) zs=match exL (decF (decM ms f) (knownL mfs D)) mfs with
   | .error e=>.error e
   | .ok fl=>.ok ⟨7,0,0,false,u8s (unknL mfs D),(q:Int),fl⟩):=by
  refine(?_:_=_)
  rw[HDM.out,hsp]
 obtain⟨us,hus⟩:∃ us,u8s (unknL mfs D)=us:=⟨_,rfl⟩
 rw[hus]at HDN ⊢
 clear hsp hus HDM HPO HFL HZB HZL
 generalize knownL mfs D=kl at *
 obtain⟨kn,hkn⟩:∃ n,kl.length=n:=⟨_,rfl⟩
 have HKN:=hQz hkn
 rw[hkn]at hkw HKL ⊢
 have hkl1:=HKL.out
 obtain⟨Z,hZ,hZC,hZb,hZs⟩:=box_new W1 #[.int .i64 (q:Int),.slice none 0 0,.string (mkB us)] 76
 have HZ:=hQz hZ
 have HZC:=hQz hZC
 have HZB:=hQz hZb
 have h1s:=hb1.size
 have hBW1:=HBY.out.trans (hb1.mono HBY.out.size)
 have HBW1:=hQz hBW1
 have HKW:=hQz hkw
 have HCZ:Hid (∀ W,Below W1.heap.size W1 W→W.heap[w.heap.size]? = some (.cells #[.slice (some ⟨g,oo,none⟩) nm mc,.slice ea ne ec,.slice ta nt tc] 26 (0,0))):=fun W hW=>(hW.block _ (by omega)).trans ((hb1.block _ (by omega)).trans HCY.out)
 have HRW:Hid (∀ W,Below W1.heap.size W1 W→RowsIn W (fun b=>b<w.heap.size) 5 fdrow (.slice ka nf kc) mfs):=fun W hW=>RowsIn.old HROW.out fun b hb'=>(hW.block b (by have hb2:b<w.heap.size:=hb';omega)).trans (hb1.block b (by have hb2:b<w.heap.size:=hb';omega))
 have s0:Z.cell? ⟨w.heap.size,0,none⟩=some (.slice (some ⟨g,oo,none⟩) nm mc):=cell_at (HCZ.out Z hZb) 0 rfl
 have z0:Z.cell? ⟨g,oo+q*2,none⟩=some (.string (mkB mname)):=(hZb.cell (by simp;omega)).trans ((hb1.cell (by simp;omega)).trans E0.out)
 have z1:Z.cell? ⟨g,oo+q*2+1,none⟩=some (.slice ka nf kc):=(hZb.cell (by simp;omega)).trans ((hb1.cell (by simp;omega)).trans E1.out)
 have hZl:W1.heap.size+1=Z.heap.size:=by omega
 clear hZ hZC hZb hZs hb1 hBW1 hkw hkn HCY HROW E0 E1 HBY HKL
 go_upto_region 7 with fail
 rw[HZ.out]
 go_wp2_with fail
 clear s0 z0 z1
 go_loopw [44] (fun i wr=>∃ (k:Nat) (fv:Value) (fl:List (Int × List Nd)) (rs:List (List Value)),i=.int .i64 (k:Int)∧k≤nf∧Below W1.heap.size W1 wr∧Z.heap.size≤wr.heap.size∧wr.heap[W1.heap.size]? = some (.cells #[.int .i64 (q:Int),fv,.string (mkB us)] 76 (0,0))∧exL (decF (decM ms f) kl) (mfs.take k)=.ok fl∧fl.length≤k∧Gr (FRs valS f) wr Z.heap.size 79 2 fv fl rs) (fun i _=>nf - (intOf i).toNat)
 case atStart=>exact⟨0,_,[],[],rfl,Nat.zero_le _,HZB.out,Nat.le_refl _,HZC.out,rfl,Nat.le_refl _,Gr.nil _ _ _ _ _⟩
 case round=>
  generalize wr=w1 at *
  obtain⟨k,fv,fl,rs,rfl,hk,hbel,hws,hbx,hex,hfll,hgr⟩:=hrel
  obtain⟨fva,fvc,hfv⟩:=own_slice hgr.own
  obtain⟨j,hj⟩:∃ j,fl.length=j:=⟨_,rfl⟩
  rw[hj]at hfv hfll
  subst hfv
  have HJ:=hQz hj
  have HBE:=hQz hbel
  have HBX:=hQz hbx
  have HGR:=hQz hgr
  have HEX:=hQz hex
  have hBw:=HBW1.out.trans (hbel.mono HBW1.out.size)
  have HBW:=hQz hBw
  have HFB:Hid (∀ b,(Value.slice fva j fvc).ownBlock=some b→Z.heap.size≤b∧b<w1.heap.size):=hgr.blk
  have hrow:=HRW.out w1 hbel
  have hcz:=HCZ.out w1 hbel
  clear hgr hex hj hbx
  by_cases hkn:k<nf
  ·obtain⟨fd,hfd⟩:∃ fd,mfs[k]? = some fd:=⟨_,List.getElem?_eq_getElem (by have:=HNF.out;omega)⟩
   have HFD:=hQz hfd
   obtain⟨g3,o3,c3,hsl3,hg3,e0,e1,e2,e3,e4⟩:=fd_at hrow (W:=w1) (fun _ _=>rfl) hfd
   rw[HNF.out]at hsl3
   obtain⟨rfl,rfl⟩:=slice_two hsl3
   have hmem:=List.mem_of_getElem? hfd
   have hkd:=HKK.out fd hmem
   have hk0:(0:Int)≤(k:Int):=by omega
   have hk1:(k:Int)<(nf:Int):=by omega
   have hwk:=wQz k (by omega)
   obtain⟨X,hX,hXC,hXb,hXs⟩:=box_new w1 #[.int .i64 fd.num,.string (mkB fd.name),.int .i64 fd.kind,.bool fd.rep,.int .i64 fd.type] 51
   have HX:=hQz hX
   have HXC:=hQz hXC
   have HXB:=hQz hXb
   have hBX:=hBw.trans (hXb.mono hBw.size)
   have HBX2:=hQz hBX
   have hWX:=hbel.trans (hXb.mono (by omega))
   have HWX:=hQz hWX
   have hXl:w1.heap.size+1=X.heap.size:=by omega
   have S0:Hid (∀ W,Below X.heap.size X W→W.cell? ⟨w.heap.size,0,none⟩=some (.slice (some ⟨g,oo,none⟩) nm mc)∧W.cell? ⟨w.heap.size,1,none⟩=some (.slice ea ne ec)∧W.cell? ⟨w.heap.size,2,none⟩=some (.slice ta nt tc)):=by
    refine(?_:∀ W,_→_)
    intro W hW
    have hc:=HCZ.out W (hWX.trans (hW.mono hWX.size))
    exact⟨cell_at hc 0 rfl,cell_at hc 1 rfl,cell_at hc 2 rfl⟩
   have Q0:Hid (∀ W,Below X.heap.size X W→W.cell? ⟨w1.heap.size,0,none⟩=some (.int .i64 fd.num)∧W.cell? ⟨w1.heap.size,1,none⟩=some (.string (mkB fd.name))∧W.cell? ⟨w1.heap.size,2,none⟩=some (.int .i64 fd.kind)∧W.cell? ⟨w1.heap.size,3,none⟩=some (.bool fd.rep)∧W.cell? ⟨w1.heap.size,4,none⟩=some (.int .i64 fd.type)):=by
    refine(?_:∀ W,_→_)
    intro W hW
    have hc:=(hW.block w1.heap.size (by omega)).trans HXC.out
    exact⟨cell_at hc 0 rfl,cell_at hc 1 rfl,cell_at hc 2 rfl,cell_at hc 3 rfl,cell_at hc 4 rfl⟩
   have hto:∀ W,Below X.heap.size X W→Calls Tryz.prog 28 #[.agg #[.int .i64 fd.num,.string (mkB fd.name),.int .i64 fd.kind,.bool fd.rep,.int .i64 fd.type],.slice kad kn kcc] W fun e w'=>RdAns (toRead fd kl) W e w':=fun W hW=>toRead_any fd kad kn kcc kl W HKN.out hkl1 (wfIn_mv HKW.out (hWX.trans (hW.mono hWX.size))) (fun x hx=>by
    have h1:=sumL_mem (g:=fun x:WF=>x.d.length) hx
    have:=HSD.out
    omega)
   have HRL:Hid ((toRead fd kl).length≤100000):=by
    refine(?_:(toRead fd kl).length≤100000)
    have h1:=read_len fd kl
    have:=HKN.out
    omega
   have HOK:Hid (∀ x∈toRead fd kl,(0≤x.n∧x.n≤18446744073709551615)∧x.d.length≤100000):=fun x hx=>⟨(HRK.out fd hmem x hx).n,read_d HSD.out x hx⟩
   obtain⟨rl,hrl⟩:∃ rl,toRead fd kl=rl:=⟨_,rfl⟩
   have HRR:=hQz hrl
   rw[hrl]at HRL HOK
   simp only[hrl]at hto
   obtain⟨rn,hrn⟩:∃ n,rl.length=n:=⟨_,rfl⟩
   have HRN:=hQz hrn
   have hrn1:rn≤100000:=by rw[←hrn];exact HRL.out
   have hfv:∀ (W:World) (ra:Option Addr) (rc:Nat),Below X.heap.size X W→WfIn W (fun b=>b<W.heap.size) (.slice ra rn rc) rl→Calls Tryz.prog 27 #[.agg #[.slice (some ⟨g,oo,none⟩) nm mc,.slice ea ne ec,.slice ta nt tc],.agg #[.int .i64 fd.num,.string (mkB fd.name),.int .i64 fd.kind,.bool fd.rep,.int .i64 fd.type],.slice ra rn rc,.int .i64 dep] W fun e w'=>VsAns f (decVs (decM ms f) fd rl) W e w':=fun W ra rc hW hwf=>by
    have hww:=hBX.trans (hW.mono hBX.size)
    exact fieldValues_any (some ⟨g,oo,none⟩) ea ta nm ne nt mc ec tc fd dep f (decM ms f) ra rn rc rl W ⟨hd0,by omega⟩ HRN.out hrn1 hwf HOK.out (fun h5=>(HTX.out fd hmem h5).mv hww) (fun h10 W2 a2 len2 cap2 zs2 hb2 hI2 hl2 hc2 hm2=>by
     have hw2:=hww.trans (hb2.mono hww.size)
     obtain⟨ht0',ht1'⟩:=hkd.2 h10
     exact HIH.out fd.type (dep+1) a2 len2 cap2 zs2 W2 (by omega) (by omega) ht0' (by rw[hnm]at ht1';exact ht1') ((HeldN.old HHM.out fun b hb=>hw2.block b hb).more fun b hb=>by have hb':b<w.heap.size:=hb;have:=hw2.size;omega) hI2 hl2 hc2 hm2 (fun h=>(HVAL.out h).mv hw2))
   clear hrl hrn hfd hg3 hsl3 hcz hrow hBX hWX hbel hBw hX hXC hXb hXs hkd hmem
   go_upto_region 10 with fail
   rw[HX.out]
   clear e0 e1 e2 e3 e4
   cases hR:decVs (decM ms f) fd rl with
   | error er=>
    have HRES:Hid (decM ms (f+1) (q:Int) zs=.error er):=by
     refine(?_:_=_)
     have h1:decF (decM ms f) kl fd=.error er:=by unfold decF;rw[HRR.out,hR]
     rw[HDN.out,exL_err HFD.out HEX.out h1]
    have hS0:Below X.heap.size X X.drew:=(Below.refl _ _).drew
    refine wp_region_held_drew (S:=fun W=>Below X.heap.size X W) (by kernel_rfl) hS0 (fun _=>?_)
    refine T_on 0 (.agg #[.slice (some ⟨g,oo,none⟩) nm mc,.slice ea ne ec,.slice ta nt tc]) rfl (by kernel_rfl) (fun _ _ _ h=>h) hS0 (fun W hW=>by obtain⟨x0,x1,x2⟩:=S0.out W hW;go_simp) ?_
    refine T_on 1 (.agg #[.int .i64 fd.num,.string (mkB fd.name),.int .i64 fd.kind,.bool fd.rep,.int .i64 fd.type]) rfl (by kernel_rfl) (fun _ _ _ h=>h) hS0 (fun W hW=>by obtain⟨x0,x1,x2,x3,x4⟩:=Q0.out W hW;go_simp) ?_
    refine T_on 2 (.agg #[.int .i64 fd.num,.string (mkB fd.name),.int .i64 fd.kind,.bool fd.rep,.int .i64 fd.type]) rfl (by kernel_rfl) (fun _ _ _ h=>h) hS0 (fun W hW=>by obtain⟨x0,x1,x2,x3,x4⟩:=Q0.out W hW;go_simp) ?_
    refine T_on 3 (.slice kad kn kcc) rfl (by kernel_rfl) (fun _ _ _ h=>h) hS0 (fun W hW=>by go_simp) ?_
    refine T_on 5 (.int .i64 dep) rfl (by kernel_rfl) (fun _ _ _ h=>h) hS0 (fun W hW=>by go_simp) ?_
    refine T_call 4 (by kernel_rfl) rfl (fun K hK=>?_)
    go_simp
    refine(hto _ hS0).mono ?_
    rintro e5 W3 ⟨ra,rc,rfl,hwf,hb3⟩
    rw[HRN.out]at hwf ⊢
    have hS3:=hS0.trans (hb3.mono hS0.size)
    dsimp only
    refine hK.out _ _ hS3 (fun _=>?_)
    clear hK K
    refine T_call 6 (by kernel_rfl) rfl (fun K hK=>?_)
    go_simp
    refine(hfv _ ra rc hS3 hwf).mono ?_
    intro e6 W5 hans
    rw[hR]at hans
    obtain⟨h0,⟨vv,rfl⟩,hb5⟩:=hans
    have hS5:=hS3.trans (hb5.mono hS3.size)
    have hE2:(er == 0)=false:=by simp[h0]
    have hE3:(er != 0)=true:=by simp[h0]
    dsimp only
    refine hK.out _ _ hS5 (fun _=>?_)
    clear hK K hto hfv hwf hb3 hb5 hR
    refine T_on 7 (.tuple #[vv,.int .i64 er]) rfl (by kernel_rfl) (fun _ _ _ h=>h) hS5 (fun W hW=>by go_simp) ?_
    refine T_on 8 vv rfl (by kernel_rfl) (fun _ _ _ h=>h) hS5 (fun W hW=>by go_simp) ?_
    refine T_on 9 (.int .i64 er) rfl (by kernel_rfl) (fun _ _ _ h=>h) hS5 (fun W hW=>by go_simp) ?_
    refine T_on 10 vv rfl (by kernel_rfl) (fun _ _ _ h=>h) hS5 (fun W hW=>by go_simp) ?_
    refine T_on 11 (.int .i64 er) rfl (by kernel_rfl) (fun _ _ _ h=>h) hS5 (fun W hW=>by go_simp) ?_
    refine wpAnyH_done (by kernel_rfl) ?_ _
    have HBA:=hQz (HBX2.out.trans (hS5.mono HBX2.out.size))
    clear hS0 hS3 hS5 S0 Q0
    go_simp
    go_wp2_with fail
    go_ret2
    rw[HRES.out]
    exact⟨h0,rfl,HBA.out⟩
   | ok l=>
    have HSTP:Hid (exL (decF (decM ms f) kl) (mfs.take (k+1))=.ok (fl++(if l.length=0 then [] else [(fd.num,l)]))):=by
     refine(?_:_=_)
     have h1:decF (decM ms f) kl fd=.ok (if l.length=0 then [] else [(fd.num,l)]):=by unfold decF;rw[HRR.out,hR]
     exact exL_step HFD.out HEX.out h1
    have hS0:Below X.heap.size X X.drew:=(Below.refl _ _).drew
    refine wp_region_held_drew (S:=fun W=>Below X.heap.size X W) (by kernel_rfl) hS0 (fun _=>?_)
    refine T_on 0 (.agg #[.slice (some ⟨g,oo,none⟩) nm mc,.slice ea ne ec,.slice ta nt tc]) rfl (by kernel_rfl) (fun _ _ _ h=>h) hS0 (fun W hW=>by obtain⟨x0,x1,x2⟩:=S0.out W hW;go_simp) ?_
    refine T_on 1 (.agg #[.int .i64 fd.num,.string (mkB fd.name),.int .i64 fd.kind,.bool fd.rep,.int .i64 fd.type]) rfl (by kernel_rfl) (fun _ _ _ h=>h) hS0 (fun W hW=>by obtain⟨x0,x1,x2,x3,x4⟩:=Q0.out W hW;go_simp) ?_
    refine T_on 2 (.agg #[.int .i64 fd.num,.string (mkB fd.name),.int .i64 fd.kind,.bool fd.rep,.int .i64 fd.type]) rfl (by kernel_rfl) (fun _ _ _ h=>h) hS0 (fun W hW=>by obtain⟨x0,x1,x2,x3,x4⟩:=Q0.out W hW;go_simp) ?_
    refine T_on 3 (.slice kad kn kcc) rfl (by kernel_rfl) (fun _ _ _ h=>h) hS0 (fun W hW=>by go_simp) ?_
    refine T_on 5 (.int .i64 dep) rfl (by kernel_rfl) (fun _ _ _ h=>h) hS0 (fun W hW=>by go_simp) ?_
    refine T_call 4 (by kernel_rfl) rfl (fun K hK=>?_)
    go_simp
    refine(hto _ hS0).mono ?_
    rintro e5 W3 ⟨ra,rc,rfl,hwf,hb3⟩
    rw[HRN.out]at hwf ⊢
    have hS3:=hS0.trans (hb3.mono hS0.size)
    dsimp only
    refine hK.out _ _ hS3 (fun _=>?_)
    clear hK K
    refine T_call 6 (by kernel_rfl) rfl (fun K hK=>?_)
    go_simp
    refine(hfv _ ra rc hS3 hwf).mono ?_
    intro e6 W5 hans
    rw[hR]at hans
    obtain⟨va,vc,rfl,hnl,hv,hb5⟩:=hans
    have hS5:=hS3.trans (hb5.mono hS3.size)
    have h35:=hb3.size
    have h55:=hb5.size
    have hxd:X.drew.heap.size=X.heap.size:=rfl
    obtain⟨lq,hlq⟩:∃ n,l.length=n:=⟨_,rfl⟩
    have HLQ:=hQz hlq
    rw[hlq]at hv HSTP ⊢
    have HVL:=hQz hv
    dsimp only
    refine hK.out _ _ hS5 (fun _=>?_)
    clear hK K hto hfv hwf hb3 hb5 hR hv hlq hnl
    refine T_on 7 (.tuple #[.slice va lq vc,.int .i64 0]) rfl (by kernel_rfl) (fun _ _ _ h=>h) hS5 (fun W hW=>by go_simp) ?_
    refine T_on 8 (.slice va lq vc) rfl (by kernel_rfl) (fun _ _ _ h=>h) hS5 (fun W hW=>by go_simp) ?_
    refine T_on 9 (.int .i64 0) rfl (by kernel_rfl) (fun _ _ _ h=>h) hS5 (fun W hW=>by go_simp) ?_
    refine T_on 10 (.slice va lq vc) rfl (by kernel_rfl) (fun _ _ _ h=>h) hS5 (fun W hW=>by go_simp) ?_
    refine T_on 11 (.int .i64 0) rfl (by kernel_rfl) (fun _ _ _ h=>h) hS5 (fun W hW=>by go_simp) ?_
    refine wpAnyH_done (by kernel_rfl) ?_ _
    have HS5:=hQz hS5
    have H15:=hQz (HXB.out.trans (hS5.mono HXB.out.size))
    have HW5:=hQz (HWX.out.trans (hS5.mono HWX.out.size))
    obtain⟨n0,n1,n2,n3,n4⟩:=Q0.out W5 hS5
    have HB5:Hid (W5.heap[W1.heap.size]? = some (.cells #[.int .i64 (q:Int),.slice fva j fvc,.string (mkB us)] 76 (0,0))):=(H15.out.block _ (by omega)).trans HBX.out
    have HG5:Hid (Gr (FRs valS f) W5 Z.heap.size 79 2 (.slice fva j fvc) fl rs):=HGR.out.keep (mvsF valS f) (fun b _ hb=>H15.out.block b hb) H15.out.size
    have h15s:=H15.out.size
    clear hS0 hS3 hS5 S0 Q0 n1 n2 n3 n4
    by_cases hl0:lq=0
    ·subst hl0
     rw[if_pos rfl,List.append_nil]at HSTP
     have h55z:Z.heap.size≤W5.heap.size:=by omega
     clear n0
     go_simp
     go_wp2_with fail
     go_roundw
     case rel=>exact⟨k+1,_,fl,rs,by go_num,by omega,HW5.out,h55z,HB5.out,HSTP.out,by rw[HJ.out];omega,HG5.out⟩
     case measure=>simp[intOf];omega
    ·have hl1:(0:Int)<(lq:Int):=by omega
     rw[if_neg hl0]at HSTP
     have b1:=cell_at HB5.out 1 rfl
     obtain⟨A,hA,hAC,hAb,hAs⟩:=box_new W5 #[.int .i64 fd.num,.slice va lq vc] 79
     have HA:=hQz hA
     have HAC:=hQz hAC
     have HAB:=hQz hAb
     have HGA:Hid (Gr (FRs valS f) A Z.heap.size 79 2 (.slice fva j fvc) fl rs):=HG5.out.keep (mvsF valS f) (fun b _ hb=>hAb.block b hb) hAb.size
     have HOW:Hid (A.ownsRow Z.heap.size 79 2 (.slice fva j fvc) j (rs.flatMap id)):=by
      refine(?_:World.ownsRow _ _ _ _ _ _ _)
      have:=HGA.out.own
      rw[HJ.out]at this
      exact this
     have HXR:Hid (FRs valS f A (FarV A Z.heap.size (.slice fva j fvc)) (fd.num,l) [.int .i64 fd.num,.slice va lq vc]):=⟨_,rfl,ValsG.mv (fun b hb=>hAb.block b hb.2) (fun b hb=>⟨by have:=hb.1;omega,by have:=hb.2;omega,fun e=>by have:=(HFB.out b e).2;have:=hb.1;omega⟩) HVL.out⟩
     have hAl:Z.heap.size≤A.heap.size:=by omega
     have hj1:j≤100000:=by omega
     clear hA hAC hAb
     go_simp
     go_wp2_with (at_builtin;rw[HA.out];refine row_pushL (T:=79) (t:=74) Tryz.underlying74 infoVF rfl (by decide) HOW.out hAl [.int .i64 fd.num,.slice va lq vc] rfl (by simp[Value.oneCell']) W5.heap.size HAC.out rfl _ _ rfl rfl rfl (by unfold maxLen;omega) (by omega) ?_)
     intro g6 cap6 W6 hown6 hgr6 hat6 hlt6
     have hp6:W6.heap[W1.heap.size]? = some (.cells #[.int .i64 (q:Int),.slice fva j fvc,.string (mkB us)] 76 (0,0)):=(hgr6.block _ (by omega) (fun e=>by have:=HFB.out _ e.symm;omega)).trans ((HAB.out.block _ (by omega)).trans HB5.out)
     have c61:=cell_at hp6 1 rfl
     have f61:W6.frozen? ⟨W1.heap.size,1,none⟩=false:=frz_at hp6 1
     have hGP:=HGA.out.push (mvsF valS f) (x:=(fd.num,l)) (r:=[.int .i64 fd.num,.slice va lq vc]) rfl HXR.out HJ.out (by rw[List.flatMap_id];exact hown6) hgr6 (by rw[hAs];exact hat6)
     obtain⟨Q,hQ⟩:∃ Q,W6.setCell ⟨W1.heap.size,1,none⟩ (.slice (some ⟨g6,0,none⟩) (j+1) cap6)=Q:=⟨_,rfl⟩
     have HQP:Hid (Q.heap[W1.heap.size]? = some (.cells #[.int .i64 (q:Int),.slice (some ⟨g6,0,none⟩) (j+1) cap6,.string (mkB us)] 76 (0,0))):=by
      refine(?_:_=_)
      rw[←hQ,setCell_heap hp6];rfl
     have hQo:∀ b,b≠W1.heap.size→Q.heap[b]? = W6.heap[b]?:=fun b hb=>by rw[←hQ];exact Below.heap_setCell _ _ _ _ hb
     have hQs:Q.heap.size=W6.heap.size:=by rw[←hQ];simp
     have hB6:Below W1.heap.size W1 W6:=(HW5.out.trans (HAB.out.mono (by omega))).grown hgr6 (by omega) (fun b hb=>by have:=(HFB.out b hb).1;omega)
     have HQB:Hid (Below W1.heap.size W1 Q):=by
      refine(?_:Below _ _ _)
      rw[←hQ];exact hB6.setCell (p:=⟨W1.heap.size,1,none⟩) (Nat.le_refl _) _
     have HQ:=hQz hQ
     have h6s:=hgr6.size
     have h3s:Z.heap.size≤Q.heap.size:=by omega
     have HGQ:Hid (Gr (FRs valS f) Q Z.heap.size 79 2 (.slice (some ⟨g6,0,none⟩) (j+1) cap6) (fl++[(fd.num,l)]) (rs++[[.int .i64 fd.num,.slice va lq vc]])):=hGP.keep (mvsF valS f) (fun b hb _=>hQo b (by omega)) (by omega)
     clear hQ hQo hB6 hGP hp6 hown6 hgr6 hat6 hlt6 n0 b1
     go_upto_region 15 with fail
     rw[HQ.out]
     clear c61 f61
     try go_wp2_with fail
     go_roundw
     case rel=>exact⟨k+1,_,_,_,by go_num,by omega,HQB.out,h3s,HQP.out,HSTP.out,by rw[List.length_append,HJ.out];simp;omega,HGQ.out⟩
     case measure=>simp[intOf];omega
  ·have hkn':¬(k:Int)<(nf:Int):=by omega
   have hre:decM ms (f+1) (q:Int) zs=.ok ⟨7,0,0,false,us,(q:Int),fl⟩:=by
    have h1:=HEX.out
    rw[List.take_of_length_le (by have:=HNF.out;omega)]at h1
    rw[HDN.out,h1]
   have HRE:=hQz hre
   have r0:=cell_at HBX.out 0 rfl
   have r1:=cell_at HBX.out 1 rfl
   have r2:=cell_at HBX.out 2 rfl
   have HHV:Hid (HeldV w1 (fun b=>w.heap.size≤b∧b<w1.heap.size) (f+1) (.iface 76 (.agg #[.int .i64 (q:Int),.slice fva j fvc,.string (mkB us)])) ⟨7,0,0,false,us,(q:Int),fl⟩):=⟨.slice fva j fvc,rfl,fun _=>Gr.fields (f:=f+1) HGR.out (fun h=>by cases h) _ (fun b h1 h2=>⟨by have:=HBW1.out.size;omega,h2⟩)⟩
   clear hre hBw hrow hcz hbel
   go_wp2_with fail
   go_ret2
   rw[HRE.out]
   exact⟨_,rfl,HHV.out,HBW.out⟩
theorem kindOK_of {s:SC} (hf:FitS s) (h:FormS s):KindOK s.ms:=by
 have h0:formM s.es.length s.ms.length s.ms=true:=by
  have h1:=h.1
  unfold formS at h1
  simp only[Bool.and_eq_true]at h1
  exact h1.2.2.1
 intro m hm
 obtain⟨i,hi⟩:=List.getElem?_of_mem hm
 have h1:=allA_iff.1 h0 i m hi
 unfold goodM at h1
 rw[Bool.and_eq_true]at h1
 refine⟨riseD_of h1.2,fun x hx=>((numOK_of hf h) m hm x hx).1.1,fun x hx=>⟨?_,((numOK_of hf h) m hm x hx).2⟩⟩
 obtain⟨j,hj⟩:=List.getElem?_of_mem hx
 have h2:=allA_iff.1 h1.2 j x hj
 unfold goodF at h2
 simp only[Bool.and_eq_true]at h2
 have h3:=h2.2.2.2.2
 unfold typB at h3
 split at h3
 ·omega
 ·split at h3
  ·omega
  ·have:=of_decide_eq_true h3;omega
theorem fieldsLen_of {s:SC} (h:FormS s):∀ m∈s.ms,m.fields.length≤32:=by
 have h0:formM s.es.length s.ms.length s.ms=true:=by
  have h1:=h.1
  unfold formS at h1
  simp only[Bool.and_eq_true]at h1
  exact h1.2.2.1
 intro m hm
 obtain⟨i,hi⟩:=List.getElem?_of_mem hm
 have h1:=allA_iff.1 h0 i m hi
 unfold goodM at h1
 rw[Bool.and_eq_true]at h1
 exact of_decide_eq_true h1.1
theorem fitG_leaf {bs bf f:Nat} {y:Nd} (h1:y.fields=[]) (h2:y.s.length≤bs):FitG bs bf f y:=by
 cases f with
 | zero=>exact h2
 | succ f=>exact⟨h2,by rw[h1];exact Nat.zero_le _,fun p hp=>by rw[h1]at hp;cases hp⟩
theorem rngG_leaf {f:Nat} {y:Nd} (h1:y.fields=[]) (h2:Rg1 y):RngG f y:=by
 cases f with
 | zero=>exact h2
 | succ f=>exact⟨h2,fun p hp=>by rw[h1]at hp;cases hp⟩
theorem numD_leaf (k n:Int):(numD k n).fields=[]∧(numD k n).s=[]:=by
 unfold numD
 repeat' split
 all_goals exact⟨rfl,rfl⟩
theorem numD_rg {k n:Int} (h:0≤n∧n≤18446744073709551615):Rg1 (numD k n):=by
 unfold numD Rg1 zagI
 repeat' split
 all_goals simp only[IntKind.wrap_i64,IntKind.wrap_i32]
 all_goals omega
theorem exL_len {α β:Type} {g:α→Except Int (List β)} {c:α→Nat}:∀ {l:List α} {a:List β},(∀ x∈l,∀ b,g x=.ok b→b.length≤c x)→exL g l=.ok a→a.length≤sumL c l
 | [],a,h,e=>by
  have:a=[]:=by injection e with e;exact e.symm
  rw[this];exact Nat.zero_le _
 | x :: t,a,h,e=>by
  rw[exL_cons]at e
  cases hg:g x with
  | error er=>rw[hg]at e;cases e
  | ok b=>
   cases ht:exL g t with
   | error er=>rw[hg,ht]at e;cases e
   | ok m=>
    rw[hg,ht]at e
    have ha:a=b++m:=by injection e with e;exact e.symm
    have h1:=h x List.mem_cons_self b hg
    have h2:=exL_len (c:=c) (fun y hy=>h y (List.mem_cons_of_mem _ hy)) ht
    rw[ha,List.length_append]
    show _≤c x+sumL c t
    omega
theorem sumL_const {α:Type} (l:List α):sumL (fun _=>1) l=l.length:=by
 induction l with
 | nil=>rfl
 | cons a t ih=>show 1+sumL _ t=_;rw[ih,List.length_cons];omega
theorem known_sum {fs:List FD} {D:List (TF × List Int)} {zs:List Int} (hP:∀ p∈D,PieceOK p) (hf:(D.flatMap fun p=>p.2)=zs):sumL (fun x:WF=>x.d.length+1) (knownL fs D)≤zs.length:=by
 unfold knownL
 rw[sumL_map]
 have h1:=sumL_filter (fun p:TF × List Int=>(wfOf p).d.length+1) (isKn fs) D
 have h2:sumL (fun p:TF × List Int=>(wfOf p).d.length+1) D≤sumL (fun p=>p.2.length) D:=sumL_le fun p hp=>(hP p hp).dl
 have h3:(D.flatMap fun p=>p.2).length=sumL (fun p=>p.2.length) D:=flatLen _ _
 rw[hf]at h3
 omega
theorem read_sum {fd:FD} {l:List WF}:sumL (fun x:WF=>x.d.length+1) (toRead fd l)≤sumL (fun x:WF=>x.d.length+1) l:=by
 have h1:=sumL_own (fun x:WF=>x.d.length+1) fd l
 unfold toRead
 split
 ·exact h1
 ·rename_i h
  split
  ·exact Nat.zero_le _
  ·rename_i y hy
   have hy':=List.mem_of_getLast? hy
   have h2:=sumL_mem (g:=fun x:WF=>x.d.length+1) hy'
   show ((if fd.kind=10 then (ownL fd l).flatMap WF.d else y.d).length+1)+0≤_
   split
   ·have h3:((ownL fd l).flatMap WF.d).length+1≤sumL (fun x:WF=>x.d.length+1) (ownL fd l):=by
     rw[flatLen]
     have:∀ (m:List WF),y∈m→sumL (fun x:WF=>x.d.length) m+1≤sumL (fun x:WF=>x.d.length+1) m:=by
      intro m
      induction m with
      | nil=>intro hm;cases hm
      | cons a t ih=>
       intro hm
       have h4:sumL (fun x:WF=>x.d.length) t≤sumL (fun x:WF=>x.d.length+1) t:=sumL_le fun x _=>by omega
       show a.d.length+sumL _ t+1≤a.d.length+1+sumL _ t
       omega
     exact this _ hy'
    omega
   ·omega
theorem decM_small {ms:List MD} (hK:KindOK ms) (hml:∀ m∈ms,m.fields.length≤10000):∀ (f:Nat) (t:Int) (zs:List Int) (x:Nd),0≤t→t<(ms.length:Int)→IsBs zs→zs.length≤10000→decM ms f t zs=.ok x→FitG 100000 10000 f x∧RngG f x
 | 0,t,zs,x,h0,h1,hb,hl,h=>by cases h
 | f+1,t,zs,x,h0,h1,hb,hl,h=>by
  obtain⟨md,hmd⟩:∃ md,ms[t.toNat]? = some md:=⟨_,List.getElem?_eq_getElem (by omega)⟩
  have hmm:=List.mem_of_getElem? hmd
  obtain⟨hr,hn1,hk⟩:=hK md hmm
  have hfs:fieldsOf ms t=md.fields:=by unfold fieldsOf;rw[hmd]
  unfold decM at h
  rw[hfs]at h
  cases hs:split zs with
  | none=>rw[hs]at h;cases h
  | some D=>
   rw[hs]at h
   dsimp only at h
   cases hL:exL (decF (decM ms f) (knownL md.fields D)) md.fields with
   | error e=>rw[hL]at h;cases h
   | ok fl=>
    rw[hL]at h
    have hx:x=⟨7,0,0,false,u8s (unknL md.fields D),t,fl⟩:=by injection h with h;exact h.symm
    have hP:=split_ok _ (Nat.le_refl _) hb hs
    have hF:=split_flat zs D hs
    have hul:(unknL md.fields D).length≤zs.length:=by
     have:=unkn_len md.fields D D.length
     rw[List.take_length,hF]at this
     exact this
    have hfl:fl.length≤10000:=by
     have:=exL_len (c:=fun _=>1) (fun fd _ b hb=>by
      obtain⟨l,_,rfl⟩:=decF_one hb
      split <;> simp) hL
     rw[sumL_const]at this
     have:=hml md hmm
     omega
    have hin:∀ p∈fl,p.2.length≤10000∧∀ y∈p.2,FitG 100000 10000 f y∧RngG f y:=by
     intro p hp
     obtain⟨fd,b,hfd,hg,hpb⟩:=exL_mem hL hp
     obtain⟨l,hv,rfl⟩:=decF_one hg
     split at hpb
     ·cases hpb
     ·have hpe:p=(fd.num,l):=List.mem_singleton.1 hpb
      subst hpe
      have hok:=read_ok hr hfd hP
      have hsum:=Nat.le_trans (read_sum (fd:=fd)) (known_sum (fs:=md.fields) hP hF)
      refine⟨?_,fun y hy=>?_⟩
      ·have:=exL_len (c:=fun x:WF=>x.d.length+1) (fun x hx b hb=>decV_len (hok x hx).db hb) hv
       dsimp only
       omega
      ·obtain⟨w,b,hw,hdv,hyb⟩:=exL_mem hv hy
       have hdl:w.d.length≤10000:=by
        have:=sumL_mem (g:=fun x:WF=>x.d.length+1) hw
        omega
       have hO:=hok w hw
       cases hnum:isNum fd.kind with
       | true=>
        unfold decV at hdv
        rw[if_pos hnum]at hdv
        have hN:NumOf fd.kind y∨∃ n,y=numD fd.kind n∧0≤n∧n≤18446744073709551615:=by
         split at hdv
         ·cases hu:unpack fd.kind w.d with
          | none=>rw[hu]at hdv;cases hdv
          | some l'=>
           rw[hu]at hdv
           have:b=l':=by injection hdv with hdv;exact hdv.symm
           subst this
           exact .inl (unpack_of _ (Nat.le_refl _) hO.db hu y hyb)
         ·have:b=[numD fd.kind w.n]:=by injection hdv with hdv;exact hdv.symm
          subst this
          exact .inr ⟨w.n,List.mem_singleton.1 hyb,hO.n⟩
        obtain⟨n,rfl,hn⟩:∃ n,y=numD fd.kind n∧0≤n∧n≤18446744073709551615:=by
         rcases hN with ⟨n,e,hn,_⟩ | h
         ·exact⟨n,e,hn⟩
         ·exact h
        have hlf:=numD_leaf fd.kind n
        exact⟨fitG_leaf hlf.1 (by rw[hlf.2];simp),rngG_leaf hlf.1 (numD_rg hn)⟩
       | false=>
        rw[decV_bytes hnum]at hdv
        cases hd:decB (decM ms f) fd w.d with
        | error e=>rw[hd]at hdv;cases hdv
        | ok z=>
         rw[hd]at hdv
         have:b=[z]:=by injection hdv with hdv;exact hdv.symm
         subst this
         have hyz:y=z:=List.mem_singleton.1 hyb
         subst hyz
         have hsd:∀ k,FitG 100000 10000 f (strD k w.d)∧RngG f (strD k w.d):=fun k=>⟨fitG_leaf rfl (by show (u8s w.d).length≤_;rw[u8s_len];omega),rngG_leaf rfl (by unfold strD Rg1;dsimp only;omega)⟩
         unfold decB at hd
         split at hd
         ·rename_i h10
          have hty:=(hk fd hfd).2 h10
          exact decM_small hK hml f fd.type w.d y hty.1 hty.2 hO.db hdl hd
         ·split at hd
          ·split at hd
           ·have:y=strD 4 w.d:=by injection hd with hd;exact hd.symm
            rw[this];exact hsd 4
           ·cases hd
          ·have:y=strD 5 w.d:=by injection hd with hd;exact hd.symm
           rw[this];exact hsd 5
    rw[hx]
    exact⟨⟨by show (u8s (unknL md.fields D)).length≤_;rw[u8s_len];omega,hfl,fun p hp=>⟨(hin p hp).1,fun y hy=>((hin p hp).2 y hy).1⟩⟩,⟨by unfold Rg1;dsimp only;omega,fun p hp y hy=>((hin p hp).2 y hy).2⟩⟩
end Go.Proofs.YteajlfgbmefncaaGreatDoor
