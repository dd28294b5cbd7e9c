/-
  Walks and plain words (LDB).
-/
import Derived.Test.YteajlfgbmefncaaGreatDoorN40
import Derived.Test.YteajlfgbmefncaaGreatDoorN42
import Derived.Test.YteajlfgbmefncaaGreatDoorN41
import Derived.Test.YteajlfgbmefncaaGreatDoorN43
namespace Go.Proofs.YteajlfgbmefncaaGreatDoor
set_option linter.unusedVariables false
open Go.ChangeShapes Go.WideShapes Go.ChangeAt Go.RowKit

def DkR (s:SC) (t:Int) (zs:List Int) (w':World) (v:Value) (ee:Int):Prop:=
 (¬GoodM s t∧v=.nilIface∧ee=1)∨(GoodM s t∧4096<zs.length∧v=.nilIface∧ee=4)∨
  (GoodM s t∧zs.length≤4096∧((∃ er,er≠0∧decM s.ms 16 t zs=.error er∧v=.nilIface∧ee=er)∨∃ x,decM s.ms 16 t zs=.ok x∧ee=0∧HeldV w' (fun b=>b<w'.heap.size) 16 v (normN s.ms 16 x)))
theorem dk_of {s:SC} {t:Int} {zs:List Int} {w:World} {e:Ending} {w':World} (h:DcAns s t zs w e w'):∃ v ee,e=.returned (.tuple #[v,.int .i64 ee])∧DkR s t zs w' v ee∧Below w.heap.size w w':=by
 obtain⟨⟨hg,h1⟩ | ⟨hg,hl,h1⟩ | ⟨hg,hl,⟨er,h0,hm,h1⟩ | ⟨x,v,hx,he,hv⟩⟩,h3⟩:=h
 ·exact⟨_,_,h1,.inl ⟨hg,rfl,rfl⟩,h3⟩
 ·exact⟨_,_,h1,.inr (.inl ⟨hg,hl,rfl,rfl⟩),h3⟩
 ·exact⟨_,_,h1,.inr (.inr ⟨hg,hl,.inl ⟨er,h0,hm,rfl,rfl⟩⟩),h3⟩
 ·exact⟨v,0,he,.inr (.inr ⟨hg,hl,.inr ⟨x,hx,rfl,hv.mv (fun _ _=>rfl) (fun b hb=>hb.2)⟩⟩),h3⟩
def DbR (W:World) (v:Value) (ee:Int) (row:List Value) (er:Int):Prop:=
 (er≠0∧v=.nilIface∧ee=er)∨(er=0∧ee=0∧∃ y fsr,HeldV W (fun b=>b<W.heap.size) 16 v y∧y.kind=7∧FitG 100000 10000 16 y∧row=clS.row y fsr∧HeldG clS W (fun b=>b<W.heap.size) 16 fsr y.fields)
theorem db_both {s:SC} {t:Int} {zs:List Int} {W1 W2:World} {v:Value} {ee:Int} {e:Ending} (hf:FitS s) (hb:IsBs zs) (h1:DkR s t zs W1 v ee) (h2:DrAns s t zs W1 e W2) :
  ∃ (a0 a1 a2:Int) (a3:Bool) (a4:ByteArray) (a5:Int) (sa:Option Addr) (sl sc:Nat) (er:Int),e=.returned (.tuple #[.agg #[.int .i64 a0,.int .i64 a1,.int .u64 a2,.bool a3,.string a4,.int .i64 a5,.slice sa sl sc],.int .i64 er])∧
   DbR W2 v ee [.int .i64 a0,.int .i64 a1,.int .u64 a2,.bool a3,.string a4,.int .i64 a5,.slice sa sl sc] er∧Below W1.heap.size W1 W2:=by
 rcases h2 with ⟨hg2,h2⟩ | ⟨hg2,hl2,h2⟩ | ⟨hg2,hl2,h2⟩
 ·obtain⟨a0,a1,a2,a3,a4,a5,sa,sl,sc,er,he,⟨hx,rfl⟩,hbe⟩:=h2
  refine⟨a0,a1,a2,a3,a4,a5,sa,sl,sc,1,he,.inl ?_,hbe⟩
  rcases h1 with ⟨_,hv,hee⟩ | ⟨hg,_⟩ | ⟨hg,_⟩
  ·exact⟨by decide,hv,hee⟩
  ·exact absurd hg hg2
  ·exact absurd hg hg2
 ·obtain⟨a0,a1,a2,a3,a4,a5,sa,sl,sc,er,he,⟨hx,rfl⟩,hbe⟩:=h2
  refine⟨a0,a1,a2,a3,a4,a5,sa,sl,sc,4,he,.inl ?_,hbe⟩
  rcases h1 with ⟨hg,_⟩ | ⟨_,_,hv,hee⟩ | ⟨_,hl,_⟩
  ·exact absurd hg2 hg
  ·exact⟨by decide,hv,hee⟩
  ·omega
 ·have hK:=kindOK_of hf hg2.1
  have hsm:=fun x=>decM_small hK (fun m hm=>by have:=fieldsLen_of hg2.1 m hm;omega) 16 t zs x hg2.2.1 hg2.2.2 hb (by omega)
  rw[decR_eq hK 16 t zs hg2.2.1 hg2.2.2 hb]at h2
  rcases h1 with ⟨hg,_⟩ | ⟨_,hl,_⟩ | ⟨_,_,⟨er0,h0,hm,hv,hee⟩ | ⟨x,hx,hee,hv⟩⟩
  ·exact absurd hg2 hg
  ·omega
  ·rw[hm]at h2
   obtain⟨a0,a1,a2,a3,a4,a5,sa,sl,sc,er,he,⟨hx,rfl⟩,hbe⟩:=h2
   exact⟨a0,a1,a2,a3,a4,a5,sa,sl,sc,_,he,.inl ⟨h0,hv,hee⟩,hbe⟩
  ·rw[hx]at h2
   obtain⟨a0,a1,a2,a3,a4,a5,sa,sl,sc,er,he,⟨rfl,h7,fsr,hrow,hh⟩,hbe⟩:=h2
   exact⟨a0,a1,a2,a3,a4,a5,sa,sl,sc,0,he,.inr ⟨rfl,hee,_,fsr,hv.mv (fun b hb=>hbe.block b hb) (fun b hb=>by have hb':b<W1.heap.size:=hb;have:=hbe.size;omega),h7,norm_fitG _ 16 x (hsm x hx).1,hrow,HeldG.mv (fun _ _=>rfl) (fun b hb=>hb.2) hh⟩,hbe⟩
set_option maxHeartbeats 32000000 in
set_option maxRecDepth 20000 in
theorem decodeBytes_any (ma ea ta:Option Addr) (nm ne nt mc ec tc:Nat) (s:SC) (t:Int) (a:Option Addr) (c:Nat) (zs:List Int) (w:World) (hT:Tabs w) (hnm:s.ms.length=nm) (hne:s.es.length=ne) (hnt:s.ts.length=nt) (hbig:BigS s) (hH:HeldSc w (fun b=>b<w.heap.size) (.slice ma nm mc) (.slice ea ne ec) (.slice ta nt tc) s) (hB:BIn w (fun b=>b<w.heap.size) a c zs) :
  Calls Tryz.prog 3 #[.agg #[.slice ma nm mc,.slice ea ne ec,.slice ta nt tc],.int .i64 t,.slice a zs.length c] w fun e w'=>e=.returned (.bool true)∧Below w.heap.size w w':=by
 obtain⟨V,hV,hC,hb,hVs⟩:=box_new w #[.slice ma nm mc,.slice ea ne ec,.slice ta nt tc] 26
 have HV:=hQz hV
 have HWB:Hid (∀ W,Below V.heap.size V W→Below w.heap.size w W):=fun W hW=>hb.trans (hW.mono hb.size)
 have HA:Hid (∀ W,Below V.heap.size V W→Calls Tryz.prog 5 #[] W fun e w'=>e=.returned (.bool true)∧Below V.heap.size V w'):=fun W hW=>(awake11_any W (tabs_below hT (HWB.out W hW))).mono fun e w' ⟨h1,h2⟩=>⟨h1,hW.trans (h2.mono hW.size)⟩
 have HSM:Hid (∀ W,Below V.heap.size V W→Calls Tryz.prog 6 #[.agg #[.slice ma nm mc,.slice ea ne ec,.slice ta nt tc]] W fun e w'=>SmAns s W e w'):=fun W hW=>smallS_any ma ea ta nm ne nt mc ec tc s W hnm hne hnt hbig (heldSc_mv hH (HWB.out W hW))
 have HZB:Hid (IsBs zs):=fun z hz=>isB_bytes hB.isB z hz
 have HD1:Hid (SmS s→∀ W,Below V.heap.size V W→Calls Tryz.prog 7 #[.agg #[.slice ma nm mc,.slice ea ne ec,.slice ta nt tc],.int .i64 t,.slice a zs.length c] W fun e w'=>∃ v ee,e=.returned (.tuple #[v,.int .i64 ee])∧DkR s t zs w' v ee∧Below W.heap.size W w'):=by
  refine(?_:_→∀ W,_→_)
  intro hs W hW
  have hw:=HWB.out W hW
  have hB2:BIn W (fun b=>b<W.heap.size) a c zs:=hB.mv (fun b hb=>hw.block b hb) (fun b hb=>by have hb':b<w.heap.size:=hb;have:=hw.size;omega)
  exact(decodeP_any ma ea ta nm ne nt mc ec tc s t a zs.length c zs W (tabs_below hT hw) hnm hne hnt (fitS_ofC hs) (heldSc_mv hH hw) hB2.isB hB2.2.2.2.1 hB2.2.2.2.2 (fun _=>valC_of (tabs_below hT hw))).mono fun e w' h=>dk_of h
 have HD2:Hid (SmS s→∀ W,Below V.heap.size V W→Calls Tryz.prog 8 #[.agg #[.slice ma nm mc,.slice ea ne ec,.slice ta nt tc],.int .i64 t,.slice a zs.length c] W fun e w'=>DrAns s t zs W e w'):=by
  refine(?_:_→∀ W,_→_)
  intro hs W hW
  have hw:=HWB.out W hW
  have hB2:BIn W (fun b=>b<W.heap.size) a c zs:=hB.mv (fun b hb=>hw.block b hb) (fun b hb=>by have hb':b<w.heap.size:=hb;have:=hw.size;omega)
  exact decodeD_any ma ea ta nm ne nt mc ec tc s t a zs.length c zs W (tabs_below hT hw) hnm hne hnt (fitS_ofC hs) (heldSc_mv hH hw) (bin_slS hB2) hB2.2.2.2.2 (fun _=>valC_of (tabs_below hT hw))
 have s0:∀ W,Below V.heap.size V W→W.cell? ⟨w.heap.size,0,none⟩=some (.slice ma nm mc):=fun W hW=>(hW.cell (by simp;omega)).trans (cell_at hC 0 rfl)
 have s1:∀ W,Below V.heap.size V W→W.cell? ⟨w.heap.size,1,none⟩=some (.slice ea ne ec):=fun W hW=>(hW.cell (by simp;omega)).trans (cell_at hC 1 rfl)
 have s2:∀ W,Below V.heap.size V W→W.cell? ⟨w.heap.size,2,none⟩=some (.slice ta nt tc):=fun W hW=>(hW.cell (by simp;omega)).trans (cell_at hC 2 rfl)
 have hS0:Below V.heap.size V V:=Below.refl _ _
 clear hV hC hb hVs hH hB hbig hnm hne hnt hT
 go_enter Tryz.func3,Tryz.ntmps3
 go_upto_region 1 with fail
 rw[HV.out]
 go_wp2_with fail
 refine(HA.out _ hS0).mono ?_
 rintro e W1 ⟨rfl,hS1⟩
 clear hS0
 have b0:=s0 W1 hS1
 have b1:=s1 W1 hS1
 have b2:=s2 W1 hS1
 have hsm:=HSM.out W1 hS1
 go_wp2_with fail
 refine hsm.mono ?_
 rintro e W2 ⟨b,rfl,hsb,hb2⟩
 have hS0:=hS1.trans (hb2.mono hS1.size)
 have HSB:=hQz hsb
 clear hS1 hsm hsb hb2 b0 b1 b2
 cases b
 case false=>
  go_wp2_with fail
  refine(HA.out _ hS0).mono ?_
  rintro e W3 ⟨rfl,hS1⟩
  have HE:=hQz (HWB.out _ hS1)
  go_wp2_with fail
  go_ret
  exact⟨rfl,HE.out⟩
 have hss:=HSB.out rfl
 by_cases hl5:zs.length≤5000
 case neg=>
  have hl6:(5000:Int)<(zs.length:Int):=by omega
  go_wp2_with fail
  refine(HA.out _ hS0).mono ?_
  rintro e W3 ⟨rfl,hS1⟩
  have HE:=hQz (HWB.out _ hS1)
  go_wp2_with fail
  go_ret
  exact⟨rfl,HE.out⟩
 have hl6:¬(5000:Int)<(zs.length:Int):=by omega
 have HDD:=hQz (HD2.out hss)
 have HSS:=hQz hss
 have hd1:=HD1.out hss W2 hS0
 have b0:=s0 W2 hS0
 have b1:=s1 W2 hS0
 have b2:=s2 W2 hS0
 clear HA HSM HD1 HD2 hss HSB hl5
 go_wp2_with fail
 refine hd1.mono ?_
 rintro e U1 ⟨v,ee,rfl,hk,hb1⟩
 have hS1:=hS0.trans (hb1.mono hS0.size)
 have HK:=hQz hk
 have hd2:=HDD.out U1 hS1
 clear hd1 hb1 hS0 b0 b1 b2 hl6 hk HDD
 have b0:=s0 U1 hS1
 have b1:=s1 U1 hS1
 have b2:=s2 U1 hS1
 go_wp2_with fail
 refine hd2.mono ?_
 intro e U2 hans
 obtain⟨a0,a1,a2,a3,a4,a5,sa,sl,sc,er,rfl,hor,hb2⟩:=db_both (fitS_ofC HSS.out) HZB.out HK.out hans
 have hS0:=hS1.trans (hb2.mono hS1.size)
 have HOR:=hQz hor
 clear hd2 hans hor hb2 hS1 b0 b1 b2 HK
 obtain⟨Q,hQ,hQC,hQb,hQs⟩:=box_new U2 #[.int .i64 a0,.int .i64 a1,.int .u64 a2,.bool a3,.string a4,.int .i64 a5,.slice sa sl sc] 38
 have HQ:=hQz hQ
 have HQC:=hQz hQC
 have HQB:=hQz hQb
 have HSQ:=hQz (hS0.trans (hQb.mono hS0.size))
 have HQS:Hid (U2.heap.size+1=Q.heap.size):=hQs.symm
 clear hQ hQC hQb hQs
 go_upto_region 5 with fail
 rw[HQ.out]
 rcases HOR.out with ⟨hx,rfl,rfl⟩ | ⟨rfl,rfl,y,fsr,hv,h7,hfit,hrow,hh⟩
 ·have hE2:(ee == 0)=false:=by simp[hx]
  have hE3:(ee != 0)=true:=by simp[hx]
  have HE:=hQz (HWB.out _ HSQ.out)
  clear hx hS0
  go_wp2_with fail
  go_ret
  exact⟨by simp,HE.out⟩
 ·have HVV:=hQz hv
  have HFIT:=hQz hfit
  have HROW:=hQz hrow
  have HHH:=hQz hh
  have H7:=hQz h7
  have hvq:∀ W,Below Q.heap.size Q W→HeldV W (fun b=>b<W.heap.size) 16 v y:=fun W hW=>HVV.out.mv (fun b hb=>(hW.block b (by have hb':b<U2.heap.size:=hb;have:=HQS.out;omega)).trans (HQB.out.block b hb)) (fun b hb=>by have hb':b<U2.heap.size:=hb;have:=HQS.out;have:=hW.size;omega)
  have HOU:Hid (∀ W,Below Q.heap.size Q W→Calls Tryz.prog 10 #[v] W fun e w'=>OurAns 16 W y e w'):=fun W hW=>oursN_any 16 y v W HFIT.out (hvq W hW)
  have HGQ:Hid (∀ W,Below Q.heap.size Q W→HeldG clS W (fun b=>b<W.heap.size) 16 fsr y.fields):=fun W hW=>HeldG.mv (fun b hb=>(hW.block b (by have hb':b<U2.heap.size:=hb;have:=HQS.out;omega)).trans (HQB.out.block b hb)) (fun b hb=>by have hb':b<U2.heap.size:=hb;have:=HQS.out;have:=hW.size;omega) HHH.out
  have HCL:Hid (∀ W,Below Q.heap.size Q W→W.cell? ⟨U2.heap.size,0,none⟩=some (.int .i64 a0)∧W.cell? ⟨U2.heap.size,1,none⟩=some (.int .i64 a1)∧W.cell? ⟨U2.heap.size,2,none⟩=some (.int .u64 a2)∧W.cell? ⟨U2.heap.size,3,none⟩=some (.bool a3)∧W.cell? ⟨U2.heap.size,4,none⟩=some (.string a4)∧W.cell? ⟨U2.heap.size,5,none⟩=some (.int .i64 a5)∧W.cell? ⟨U2.heap.size,6,none⟩=some (.slice sa sl sc)):=by
   refine(?_:∀ W,_→_)
   intro W hW
   have h4:=(hW.block U2.heap.size (by have:=HQS.out;omega)).trans HQC.out
   exact⟨cell_at h4 0 rfl,cell_at h4 1 rfl,cell_at h4 2 rfl,cell_at h4 3 rfl,cell_at h4 4 rfl,cell_at h4 5 rfl,cell_at h4 6 rfl⟩
  clear hv h7 hfit hrow hh hvq hS0 HOR
  go_upto_region 7 with fail
  have hS0:Below Q.heap.size Q Q.drew:=(Below.refl _ _).drew
  refine wp_region_held_drew (S:=fun W=>Below Q.heap.size Q W) (by kernel_rfl) hS0 (fun _=>?_)
  refine T_on 0 (.int .i64 0) rfl (by kernel_rfl) (fun _ _ _ h=>h) hS0 (fun W hW=>by go_simp) ?_
  refine T_on 1 (.int .i64 0) rfl (by kernel_rfl) (fun _ _ _ h=>h) hS0 (fun W hW=>by go_simp) ?_
  refine T_on 2 (.bool true) rfl (by kernel_rfl) (fun _ _ _ h=>h) hS0 (fun W hW=>by go_simp) ?_
  refine T_on 3 (.bool true) rfl (by kernel_rfl) (fun _ _ _ h=>h) hS0 (fun W hW=>by go_simp) ?_
  refine T_on 4 v rfl (by kernel_rfl) (fun _ _ _ h=>h) hS0 (fun W hW=>by go_simp) ?_
  refine T_on 6 (.agg #[.int .i64 a0,.int .i64 a1,.int .u64 a2,.bool a3,.string a4,.int .i64 a5,.slice sa sl sc]) rfl (by kernel_rfl) (fun _ _ _ h=>h) hS0 (fun W hW=>by obtain⟨c0,c1,c2,c3,c4,c5,c6⟩:=HCL.out W hW;go_simp) ?_
  refine T_call 5 (by kernel_rfl) rfl (fun K' hK'=>?_)
  go_simp
  refine(HOU.out _ hS0).mono ?_
  rintro e U3 ⟨o0,o1,o2,o3,o4,o5,oa,ol,oc,of,rfl,orow,ohg,hb3⟩
  have hS1:Below Q.heap.size Q U3:=hS0.trans (hb3.mono hS0.size)
  have hsame:=sameO_any 16 y U3 o0 o1 o2 o3 o4 o5 oa ol oc of a0 a1 a2 a3 a4 a5 sa sl sc fsr H7.out HFIT.out orow (HeldG.mv (fun _ _=>rfl) (fun b hb=>hb.2) (ohg H7.out)) HROW.out (HGQ.out U3 hS1)
  clear orow ohg hb3 hS0 HOU HVV
  dsimp only
  refine hK'.out _ _ hS1 (fun _=>?_)
  clear hK' K'
  refine T_call 7 (by kernel_rfl) rfl (fun K' hK'=>?_)
  go_simp
  refine hsame.mono ?_
  rintro e U4 ⟨rfl,hb4⟩
  have hS0:Below Q.heap.size Q U4:=hS1.trans (hb4.mono hS1.size)
  clear hb4 hS1 hsame
  dsimp only
  refine hK'.out _ _ hS0 (fun _=>?_)
  clear hK' K'
  refine T_on 8 (.bool true) rfl (by kernel_rfl) (fun _ _ _ h=>h) hS0 (fun W hW=>by go_simp) ?_
  refine T_on 9 (.bool true) rfl (by kernel_rfl) (fun _ _ _ h=>h) hS0 (fun W hW=>by go_simp) ?_
  refine wpAnyH_done (by kernel_rfl) ?_ _
  go_simp
  have HE:=hQz (HWB.out _ (HSQ.out.trans (hS0.mono HSQ.out.size)))
  go_wp2_with fail
  go_ret
  exact⟨rfl,HE.out⟩
end Go.Proofs.YteajlfgbmefncaaGreatDoor
