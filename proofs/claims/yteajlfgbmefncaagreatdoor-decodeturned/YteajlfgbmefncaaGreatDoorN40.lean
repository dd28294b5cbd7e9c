/-
  Walks and plain words (DcD DtZ EnA).
-/
import Derived.Test.YteajlfgbmefncaaGreatDoorN37
import Derived.Test.YteajlfgbmefncaaGreatDoorN39
import Derived.Test.YteajlfgbmefncaaGreatDoorN29
import Derived.Test.YteajlfgbmefncaaGreatDoorN30
import Derived.Test.YteajlfgbmefncaaGreatDoorN2
import Derived.Laws.BytesArg
import Derived.Laws.BytesString
import Derived.Laws.Concat
import Derived.Laws.Strings
namespace Go.Proofs.YteajlfgbmefncaaGreatDoor
set_option linter.unusedVariables false
open Go.ChangeShapes Go.WideShapes Go.ChangeAt Go.RowKit

def GoodM (s:SC) (t:Int):Prop:=FormS s∧0≤t∧t<(s.ms.length:Int)
def DcAns (s:SC) (t:Int) (zs:List Int) (w:World) (e:Ending) (w':World):Prop:=
 ((¬GoodM s t∧e=.returned (.tuple #[.nilIface,.int .i64 1]))∨(GoodM s t∧4096<zs.length∧e=.returned (.tuple #[.nilIface,.int .i64 4]))∨
  (GoodM s t∧zs.length≤4096∧((∃ er,er≠0∧decM s.ms 16 t zs=.error er∧e=.returned (.tuple #[.nilIface,.int .i64 er]))∨∃ x v,decM s.ms 16 t zs=.ok x∧e=.returned (.tuple #[v,.int .i64 0])∧HeldV w' (fun b=>w.heap.size≤b∧b<w'.heap.size) 16 v (normN s.ms 16 x))))∧Below w.heap.size w w'
set_option maxHeartbeats 16000000 in
set_option maxRecDepth 20000 in
theorem decodeP_any (ma ea ta:Option Addr) (nm ne nt mc ec tc:Nat) (s:SC) (t:Int) (a:Option Addr) (len cap:Nat) (zs:List Int) (w:World) (hT:Tabs w) (hnm:s.ms.length=nm) (hne:s.es.length=ne) (hnt:s.ts.length=nt) (hf:FitS s) (hH:HeldSc w (fun b=>b<w.heap.size) (.slice ma nm mc) (.slice ea ne ec) (.slice ta nt tc) s) (hB:IsB w a len zs) (hlc:len≤cap) (hcm:cap≤9223372036854775807) (hval:TextIn s.ms→ValC w) :
  Calls Tryz.prog 7 #[.agg #[.slice ma nm mc,.slice ea ne ec,.slice ta nt tc],.int .i64 t,.slice a len cap] w fun e w'=>DcAns s t zs w e w':=by
 obtain⟨Y,hY,hC,hb,hYs⟩:=box_new w #[.slice ma nm mc,.slice ea ne ec,.slice ta nt tc] 26
 have HY:=hQz hY
 have HBY:=hQz hb
 have hYl:w.heap.size+1=Y.heap.size:=by omega
 have hfo:=formP_any ma ea ta nm ne nt mc ec tc s Y hnm hne hnt hf (heldSc_mv hH hb)
 have S0:Hid (∀ W,Below Y.heap.size Y W→W.cell? ⟨w.heap.size,0,none⟩=some (.slice ma nm mc)∧W.cell? ⟨w.heap.size,1,none⟩=some (.slice ea ne ec)∧W.cell? ⟨w.heap.size,2,none⟩=some (.slice ta nt tc)):=fun W hW=>⟨(hW.cell (by simp;omega)).trans (cell_at hC 0 rfl),(hW.cell (by simp;omega)).trans (cell_at hC 1 rfl),(hW.cell (by simp;omega)).trans (cell_at hC 2 rfl)⟩
 have HMS:Hid (GoodM s t→len≤4096→∀ W,Below Y.heap.size Y W→Calls Tryz.prog 15 #[.agg #[.slice ma nm mc,.slice ea ne ec,.slice ta nt tc],.int .i64 t,.slice a len cap,.int .i64 1] W fun e w'=>MAns 16 (decM s.ms 16 t zs) W e w'):=by
  refine(?_:_→_→∀ W,_→_)
  intro hg hl W hW
  have hw:=hb.trans (hW.mono hb.size)
  exact message_any ma ea ta nm ne nt mc ec tc s.ms hnm (kindOK_of hf hg.1) (fun m hm=>by have:=fieldsLen_of hg.1 m hm;omega) 16 t 1 a len cap zs W (by decide) (by decide) hg.2.1 (by rw[←hnm];exact hg.2.2) (heldSc_mv hH hw).1 (isB_old hB hw) hlc hcm (by omega) (fun h=>(hval h).mv hw)
 have HNR:Hid (GoodM s t→len≤4096→∀ x,decM s.ms 16 t zs=.ok x→∀ W v,Below Y.heap.size Y W→HeldV W (fun b=>b<W.heap.size) 16 v x→Calls Tryz.prog 16 #[.agg #[.slice ma nm mc,.slice ea ne ec,.slice ta nt tc],.int .i64 t,v] W fun e w'=>NmAns s 16 t x W e w'):=by
  refine(?_:_→_→∀ x,_→∀ W v,_→_→_)
  intro hg hl x hx W v hW hv
  have hw:=hb.trans (hW.mono hb.size)
  have hsm:=decM_small (kindOK_of hf hg.1) (fun m hm=>by have:=fieldsLen_of hg.1 m hm;omega) 16 t zs x hg.2.1 hg.2.2 (fun z hz=>isB_bytes hB z hz) (by have:=hB.1;omega) hx
  exact normalP_any ma ea ta nm ne nt mc ec tc s 16 t W (tabs_below hT hw) hnm hne hnt hf (heldSc_mv hH hw) v x hv hsm.1
 have HFX:Hid (GoodM s t→∀ x,decM s.ms 16 t zs=.ok x→FitX s 16 t x):=fun hg x hx=>⟨hg.1,hg.2.1,hg.2.2,decM_fit (kindOK_of hf hg.1) 16 1 t zs x (by decide) hg.2.1 hg.2.2 (fun z hz=>isB_bytes hB z hz) hx⟩
 have HZL:Hid (zs.length=len):=hB.1
 have HNM:=hQz hnm
 obtain⟨b0,b1,b2⟩:=S0.out Y (Below.refl _ _)
 clear hY hC hb hYs hT hnm hne hnt hf hH hB hval
 go_enter Tryz.func7,Tryz.ntmps7
 go_upto_region 1 with fail
 rw[HY.out]
 go_cut [23] (fun v wx=>∃ B:Bool,v=.bool B∧(B=false↔GoodM s t)∧Below Y.heap.size Y wx)
 case first=>
  go_wp2_with fail
  refine hfo.mono ?_
  rintro e W1 ⟨b,rfl,hbi,hb1⟩
  have HBI:=hQz hbi
  have HB1:=hQz hb1
  obtain⟨c0,c1,c2⟩:=S0.out W1 hb1
  clear hfo hbi hb1 b0 b1 b2
  cases b
  case false=>
   have HNF:Hid (¬FormS s):=fun h=>by have:=HBI.out.2 h;cases this
   clear HBI
   go_wp2_with fail
   go_meet
   refine⟨true,rfl,?_,HB1.out⟩
   exact⟨(fun h=>by cases h),fun h=>absurd h.1 HNF.out⟩
  case true=>
   have HF:Hid (FormS s):=HBI.out.1 rfl
   clear HBI
   by_cases ht0:t<0
   ·go_wp2_with fail
    go_meet
    refine⟨true,?_,⟨(fun h=>by cases h),fun h=>absurd h.2.1 (by omega)⟩,HB1.out⟩
    simp
   ·by_cases ht1:t<(nm:Int)
    ·have ht2:¬(nm:Int)≤t:=by omega
     have hgm:GoodM s t:=⟨HF.out,by omega,by rw[HNM.out];exact ht1⟩
     go_wp2_with fail
     go_meet
     refine⟨false,?_,⟨fun _=>hgm,fun _=>rfl⟩,HB1.out⟩
     simp[ht0,ht2]
    ·have ht2:(nm:Int)≤t:=by omega
     have hgm:¬GoodM s t:=fun h=>by have:=h.2.2;rw[HNM.out]at this;omega
     go_wp2_with fail
     go_meet
     refine⟨true,?_,⟨(fun h=>by cases h),fun h=>absurd h hgm⟩,HB1.out⟩
     simp
 case rest=>
 obtain⟨B,rfl,hBi,hbc⟩:=hcut
 generalize wc=W1 at *
 have HBC:=hQz hbc
 have HWC:=hQz (HBY.out.trans (hbc.mono HBY.out.size))
 have HGI:=hQz hBi
 clear hfo hBi b0 b1 b2
 cases B
 case true=>
  have HRES:Hid (DcAns s t zs w (.returned (.tuple #[.nilIface,.int .i64 1])) W1):=⟨.inl ⟨(fun h=>by have:=HGI.out.2 h;cases this),rfl⟩,HWC.out⟩
  clear hbc
  go_wp2_with fail
  go_ret2
  exact HRES.out
 case false=>
 have hg:GoodM s t:=HGI.out.1 rfl
 have HG:=hQz hg
 by_cases hl:len≤4096
 case neg=>
  have hl1:(4096:Int)<(len:Int):=by omega
  have HRES:Hid (DcAns s t zs w (.returned (.tuple #[.nilIface,.int .i64 4])) W1):=⟨.inr (.inl ⟨hg,by rw[HZL.out];omega,rfl⟩),HWC.out⟩
  clear hbc hg
  go_wp2_with fail
  go_ret2
  exact HRES.out
 have hl1:¬(4096:Int)<(len:Int):=by omega
 have HZ4:Hid (zs.length≤4096):=by
  refine(?_:zs.length≤4096)
  rw[HZL.out];exact hl
 have hms:=HMS.out hg hl W1 hbc
 obtain⟨b0,b1,b2⟩:=S0.out W1 hbc
 clear hbc hg
 go_wp2_with fail
 refine hms.mono ?_
 intro e W2 hans
 clear hms b0 b1 b2
 cases hR:decM s.ms 16 t zs with
 | error er=>
  rw[hR]at hans
  obtain⟨h0,rfl,hb2⟩:=hans
  have hE2:(er == 0)=false:=by simp[h0]
  have hE3:(er != 0)=true:=by simp[h0]
  have HRES:Hid (DcAns s t zs w (.returned (.tuple #[.nilIface,.int .i64 er])) W2):=⟨.inr (.inr ⟨HG.out,HZ4.out,.inl ⟨er,h0,hR,rfl⟩⟩),HWC.out.trans (hb2.mono HWC.out.size)⟩
  clear hb2 hR
  go_wp2_with fail
  go_ret2
  exact HRES.out
 | ok x=>
  rw[hR]at hans
  obtain⟨v,rfl,hv,hb2⟩:=hans
  have HR:=hQz hR
  have h12:=hb2.size
  have hbY2:=HBC.out.trans (hb2.mono HBC.out.size)
  have hnr:=HNR.out HG.out hl x hR W2 v hbY2 (hv.mv (fun _ _=>rfl) (fun b hb=>hb.2))
  have HW2:=hQz (HWC.out.trans (hb2.mono HWC.out.size))
  obtain⟨b0,b1,b2⟩:=S0.out W2 hbY2
  have HFT:=hQz (HFX.out HG.out x hR)
  clear hb2 hbY2 hv hR
  go_wp2_with fail
  refine hnr.mono ?_
  rintro e W3 ⟨hc | ⟨_,v',rfl,hv'⟩,hb3⟩
  ·exact absurd HFT.out hc.1
  have h2s:=HW2.out.size
  have HRES:Hid (DcAns s t zs w (.returned (.tuple #[v',.int .i64 0])) W3):=⟨.inr (.inr ⟨HG.out,HZ4.out,.inr ⟨x,v',HR.out,rfl,hv'.mv (fun _ _=>rfl) (fun b hb=>⟨by have:=hb.1;omega,hb.2⟩)⟩⟩),HW2.out.trans (hb3.mono HW2.out.size)⟩
  clear hnr hb3 hv' b0 b1 b2
  go_wp2_with fail
  go_ret2
  exact HRES.out
def DrAns (s:SC) (t:Int) (zs:List Int) (w:World) (e:Ending) (w':World):Prop:=(¬GoodM s t∧RcAns 16 (.error 1) w e w')∨(GoodM s t∧4096<zs.length∧RcAns 16 (.error 4) w e w')∨(GoodM s t∧zs.length≤4096∧RcAns 16 (decR s.ms 16 t zs) w e w')
theorem formF_of {s:SC} (h:FormS s):∀ m∈s.ms,∃ a b,formF a b m.fields=true:=by
 have h0:formM s.es.length s.ms.length s.ms=true:=by
  have h1:=h.1
  unfold formS at h1
  simp only[Bool.and_eq_true]at h1
  exact h1.2.2.1
 intro m hm
 obtain⟨i,hi⟩:=List.getElem?_of_mem hm
 have h1:=allA_iff.1 h0 i m hi
 unfold goodM at h1
 rw[Bool.and_eq_true]at h1
 exact⟨_,_,h1.2⟩
set_option maxHeartbeats 32000000 in
set_option maxRecDepth 20000 in
theorem decodeD_any (ma ea ta:Option Addr) (nm ne nt mc ec tc:Nat) (s:SC) (t:Int) (a:Option Addr) (len cap:Nat) (zs:List Int) (w:World) (hT:Tabs w) (hnm:s.ms.length=nm) (hne:s.es.length=ne) (hnt:s.ts.length=nt) (hf:FitS s) (hH:HeldSc w (fun b=>b<w.heap.size) (.slice ma nm mc) (.slice ea ne ec) (.slice ta nt tc) s) (hB:SlS w a len cap zs) (hcm:cap≤9223372036854775807) (hval:TextIn s.ms→ValC w) :
  Calls Tryz.prog 8 #[.agg #[.slice ma nm mc,.slice ea ne ec,.slice ta nt tc],.int .i64 t,.slice a len cap] w fun e w'=>DrAns s t zs w e w':=by
 obtain⟨Y,hY,hC,hb,hYs⟩:=box_new w #[.slice ma nm mc,.slice ea ne ec,.slice ta nt tc] 26
 obtain⟨Z,hZ,hE,hZb,hZs⟩:=box_new Y #[.int .i64 0,.int .i64 0,.int .u64 0,.bool false,.string ⟨#[]⟩,.int .i64 0,.slice none 0 0] 38
 have HY:=hQz hY
 have HZ:=hQz hZ
 rw[hYs]at hE
 have hBZ:=hb.trans (hZb.mono hb.size)
 have HBZ:=hQz hBZ
 have hZl:w.heap.size+2=Z.heap.size:=by omega
 have hC2:=(hZb.block _ (by omega)).trans hC
 have HE:=hQz hE
 have hfo:=formR_any ma ea ta nm ne nt mc ec tc s Z (tabs_below hT hBZ) hnm hne hnt hf (heldSc_mv hH hBZ)
 have S0:Hid (∀ W,Below Z.heap.size Z W→W.cell? ⟨w.heap.size,0,none⟩=some (.slice ma nm mc)∧W.cell? ⟨w.heap.size,1,none⟩=some (.slice ea ne ec)∧W.cell? ⟨w.heap.size,2,none⟩=some (.slice ta nt tc)):=fun W hW=>⟨(hW.cell (by simp;omega)).trans (cell_at hC2 0 rfl),(hW.cell (by simp;omega)).trans (cell_at hC2 1 rfl),(hW.cell (by simp;omega)).trans (cell_at hC2 2 rfl)⟩
 have HMS:Hid (GoodM s t→len≤4096→∀ W,Below Z.heap.size Z W→Calls Tryz.prog 18 #[.agg #[.slice ma nm mc,.slice ea ne ec,.slice ta nt tc],.int .i64 t,.slice a len cap,.int .i64 1] W fun e w'=>RcAns 16 (decR s.ms 16 t zs) W e w'):=by
  refine(?_:_→_→∀ W,_→_)
  intro hg hl W hW
  have hw:=hBZ.trans (hW.mono hBZ.size)
  exact decodeR9_any ma ea ta nm ne nt mc ec tc s.ms hnm (kindOK_of hf hg.1) (formF_of hg.1) (fun m hm=>by have:=fieldsLen_of hg.1 m hm;omega) 16 t 1 a len cap zs W (by decide) (by decide) (fun h=>(hval h).mv hw) hg.2.1 (by rw[←hnm];exact hg.2.2) (heldSc_mv hH hw).1 (slS_old hB hw) hcm (by omega)
 have HZL:Hid (zs.length=len):=hB.1.1
 have HNM:=hQz hnm
 obtain⟨b0,b1,b2⟩:=S0.out Z (Below.refl _ _)
 clear hY hC hb hYs hT hnm hne hnt hf hH hB hval hZ hE hZb hZs hC2 hBZ
 go_enter Tryz.func8,Tryz.ntmps8
 go_upto_region 1 with fail
 rw[HY.out,HZ.out]
 go_cut [21] (fun v wx=>∃ B:Bool,v=.bool B∧(B=false↔GoodM s t)∧Below Z.heap.size Z wx)
 case first=>
  go_wp2_with fail
  refine hfo.mono ?_
  rintro e W1 ⟨b,rfl,hbi,hb1⟩
  have HBI:=hQz hbi
  have HB1:=hQz hb1
  obtain⟨c0,c1,c2⟩:=S0.out W1 hb1
  clear hfo hbi hb1 b0 b1 b2
  cases b
  case false=>
   have HNF:Hid (¬FormS s):=fun h=>by have:=HBI.out.2 h;cases this
   clear HBI
   go_wp2_with fail
   go_meet
   refine⟨true,rfl,?_,HB1.out⟩
   exact⟨(fun h=>by cases h),fun h=>absurd h.1 HNF.out⟩
  case true=>
   have HF:Hid (FormS s):=HBI.out.1 rfl
   clear HBI
   by_cases ht0:t<0
   ·go_wp2_with fail
    go_meet
    refine⟨true,?_,⟨(fun h=>by cases h),fun h=>absurd h.2.1 (by omega)⟩,HB1.out⟩
    simp
   ·by_cases ht1:t<(nm:Int)
    ·have ht2:¬(nm:Int)≤t:=by omega
     have hgm:GoodM s t:=⟨HF.out,by omega,by rw[HNM.out];exact ht1⟩
     go_wp2_with fail
     go_meet
     refine⟨false,?_,⟨fun _=>hgm,fun _=>rfl⟩,HB1.out⟩
     simp[ht0,ht2]
    ·have ht2:(nm:Int)≤t:=by omega
     have hgm:¬GoodM s t:=fun h=>by have:=h.2.2;rw[HNM.out]at this;omega
     go_wp2_with fail
     go_meet
     refine⟨true,?_,⟨(fun h=>by cases h),fun h=>absurd h hgm⟩,HB1.out⟩
     simp
 case rest=>
 obtain⟨B,rfl,hBi,hbc⟩:=hcut
 generalize wc=W1 at *
 have HBC:=hQz hbc
 have HWC:=hQz (HBZ.out.trans (hbc.mono HBZ.out.size))
 have HGI:=hQz hBi
 have hE1:=(hbc.block (w.heap.size+1) (by omega)).trans HE.out
 have hw1:=hbc.size
 clear hfo hBi b0 b1 b2
 cases B
 case true=>
  have HNG:Hid (¬GoodM s t):=fun h=>by have:=HGI.out.2 h;cases this
  clear hbc
  have z0:=cell_at hE1 0 rfl
  have zf0:W1.frozen? ⟨w.heap.size+1,0,none⟩=false:=frz_at hE1 0
  have z1:=cell_at hE1 1 rfl
  have zf1:W1.frozen? ⟨w.heap.size+1,1,none⟩=false:=frz_at hE1 1
  have z2:=cell_at hE1 2 rfl
  have zf2:W1.frozen? ⟨w.heap.size+1,2,none⟩=false:=frz_at hE1 2
  have z3:=cell_at hE1 3 rfl
  have zf3:W1.frozen? ⟨w.heap.size+1,3,none⟩=false:=frz_at hE1 3
  have z4:=cell_at hE1 4 rfl
  have zf4:W1.frozen? ⟨w.heap.size+1,4,none⟩=false:=frz_at hE1 4
  have z5:=cell_at hE1 5 rfl
  have zf5:W1.frozen? ⟨w.heap.size+1,5,none⟩=false:=frz_at hE1 5
  have z6:=cell_at hE1 6 rfl
  have zf6:W1.frozen? ⟨w.heap.size+1,6,none⟩=false:=frz_at hE1 6
  obtain⟨Qz,hqz1,hQzc,hQzo,hQzs,hQzb⟩:=set7_all hE1 (.int .i64 0) (.int .i64 0) (.int .u64 0) (.bool false) (.string ⟨#[]⟩) (.int .i64 0) (.slice none 0 0)
  have HQZ:=hQz hqz1
  have HQZC:=hQz hQzc
  have HQZB:=hQz hQzb
  have HQZS:=hQz hQzs
  have HQZO:=hQz hQzo
  clear hqz1 hQzc hQzb hQzs hQzo
  go_wp2_with fail
  rw[HQZ.out]
  have q0:=cell_at HQZC.out 0 rfl
  have q1:=cell_at HQZC.out 1 rfl
  have q2:=cell_at HQZC.out 2 rfl
  have q3:=cell_at HQZC.out 3 rfl
  have q4:=cell_at HQZC.out 4 rfl
  have q5:=cell_at HQZC.out 5 rfl
  have q6:=cell_at HQZC.out 6 rfl
  refine bodyPost_ret (v:=.tuple #[.agg #[.int .i64 0,.int .i64 0,.int .u64 0,.bool false,.string ⟨#[]⟩,.int .i64 0,.slice none 0 0],.int .i64 1]) (by simp[results,Tryz.results8,go_sem,q0,q1,q2,q3,q4,q5,q6]) rfl ?_
  exact .inl ⟨HNG.out,rc_err rfl (by decide) (HWC.out.trans (HQZB.out.mono (by omega)))⟩
 case false=>
 have hg:GoodM s t:=HGI.out.1 rfl
 have HG:=hQz hg
 by_cases hl:len≤4096
 case neg=>
  have hl1:(4096:Int)<(len:Int):=by omega
  have HZ4:Hid (4096<zs.length):=by
   refine(?_:4096<zs.length)
   rw[HZL.out];omega
  clear hbc hg
  have z0:=cell_at hE1 0 rfl
  have zf0:W1.frozen? ⟨w.heap.size+1,0,none⟩=false:=frz_at hE1 0
  have z1:=cell_at hE1 1 rfl
  have zf1:W1.frozen? ⟨w.heap.size+1,1,none⟩=false:=frz_at hE1 1
  have z2:=cell_at hE1 2 rfl
  have zf2:W1.frozen? ⟨w.heap.size+1,2,none⟩=false:=frz_at hE1 2
  have z3:=cell_at hE1 3 rfl
  have zf3:W1.frozen? ⟨w.heap.size+1,3,none⟩=false:=frz_at hE1 3
  have z4:=cell_at hE1 4 rfl
  have zf4:W1.frozen? ⟨w.heap.size+1,4,none⟩=false:=frz_at hE1 4
  have z5:=cell_at hE1 5 rfl
  have zf5:W1.frozen? ⟨w.heap.size+1,5,none⟩=false:=frz_at hE1 5
  have z6:=cell_at hE1 6 rfl
  have zf6:W1.frozen? ⟨w.heap.size+1,6,none⟩=false:=frz_at hE1 6
  obtain⟨Qz,hqz1,hQzc,hQzo,hQzs,hQzb⟩:=set7_all hE1 (.int .i64 0) (.int .i64 0) (.int .u64 0) (.bool false) (.string ⟨#[]⟩) (.int .i64 0) (.slice none 0 0)
  have HQZ:=hQz hqz1
  have HQZC:=hQz hQzc
  have HQZB:=hQz hQzb
  have HQZS:=hQz hQzs
  have HQZO:=hQz hQzo
  clear hqz1 hQzc hQzb hQzs hQzo
  go_wp2_with fail
  rw[HQZ.out]
  have q0:=cell_at HQZC.out 0 rfl
  have q1:=cell_at HQZC.out 1 rfl
  have q2:=cell_at HQZC.out 2 rfl
  have q3:=cell_at HQZC.out 3 rfl
  have q4:=cell_at HQZC.out 4 rfl
  have q5:=cell_at HQZC.out 5 rfl
  have q6:=cell_at HQZC.out 6 rfl
  refine bodyPost_ret (v:=.tuple #[.agg #[.int .i64 0,.int .i64 0,.int .u64 0,.bool false,.string ⟨#[]⟩,.int .i64 0,.slice none 0 0],.int .i64 4]) (by simp[results,Tryz.results8,go_sem,q0,q1,q2,q3,q4,q5,q6]) rfl ?_
  exact .inr (.inl ⟨HG.out,HZ4.out,rc_err rfl (by decide) (HWC.out.trans (HQZB.out.mono (by omega)))⟩)
 have hl1:¬(4096:Int)<(len:Int):=by omega
 have HZ4:Hid (zs.length≤4096):=by
  refine(?_:zs.length≤4096)
  rw[HZL.out];exact hl
 have hms:=HMS.out hg hl W1 hbc
 obtain⟨b0,b1,b2⟩:=S0.out W1 hbc
 clear hbc hg
 go_wp2_with fail
 refine hms.mono ?_
 rintro e W2 ⟨a0,a1,a2,a3,a4,a5,sa,sl,sc,er,rfl,hans,hb2⟩
 have HANS:=hQz hans
 have hE2:=(hb2.block (w.heap.size+1) (by omega)).trans hE1
 have HW2:=hQz (HWC.out.trans (hb2.mono HWC.out.size))
 have hw2:=hb2.size
 have HB2:=hQz hb2
 clear hms b0 b1 b2 hans hb2 hE1
 have z0:=cell_at hE2 0 rfl
 have zf0:W2.frozen? ⟨w.heap.size+1,0,none⟩=false:=frz_at hE2 0
 have z1:=cell_at hE2 1 rfl
 have zf1:W2.frozen? ⟨w.heap.size+1,1,none⟩=false:=frz_at hE2 1
 have z2:=cell_at hE2 2 rfl
 have zf2:W2.frozen? ⟨w.heap.size+1,2,none⟩=false:=frz_at hE2 2
 have z3:=cell_at hE2 3 rfl
 have zf3:W2.frozen? ⟨w.heap.size+1,3,none⟩=false:=frz_at hE2 3
 have z4:=cell_at hE2 4 rfl
 have zf4:W2.frozen? ⟨w.heap.size+1,4,none⟩=false:=frz_at hE2 4
 have z5:=cell_at hE2 5 rfl
 have zf5:W2.frozen? ⟨w.heap.size+1,5,none⟩=false:=frz_at hE2 5
 have z6:=cell_at hE2 6 rfl
 have zf6:W2.frozen? ⟨w.heap.size+1,6,none⟩=false:=frz_at hE2 6
 obtain⟨Qz,hqz1,hQzc,hQzo,hQzs,hQzb⟩:=set7_all hE2 (.int .i64 a0) (.int .i64 a1) (.int .u64 a2) (.bool a3) (.string a4) (.int .i64 a5) (.slice sa sl sc)
 have HQZ:=hQz hqz1
 have HQZC:=hQz hQzc
 have HQZB:=hQz hQzb
 have HQZS:=hQz hQzs
 have HQZO:=hQz hQzo
 clear hqz1 hQzc hQzb hQzs hQzo
 go_wp2_with fail
 rw[HQZ.out]
 have q0:=cell_at HQZC.out 0 rfl
 have q1:=cell_at HQZC.out 1 rfl
 have q2:=cell_at HQZC.out 2 rfl
 have q3:=cell_at HQZC.out 3 rfl
 have q4:=cell_at HQZC.out 4 rfl
 have q5:=cell_at HQZC.out 5 rfl
 have q6:=cell_at HQZC.out 6 rfl
 refine bodyPost_ret (v:=.tuple #[.agg #[.int .i64 a0,.int .i64 a1,.int .u64 a2,.bool a3,.string a4,.int .i64 a5,.slice sa sl sc],.int .i64 er]) (by simp[results,Tryz.results8,go_sem,q0,q1,q2,q3,q4,q5,q6]) rfl ?_
 refine .inr (.inr ⟨HG.out,HZ4.out,a0,a1,a2,a3,a4,a5,sa,sl,sc,er,rfl,?_,HW2.out.trans (HQZB.out.mono (by omega))⟩)
 have h9:=HANS.out
 cases hR:decR s.ms 16 t zs with
 | error x=>
  rw[hR]at h9
  exact h9
 | ok y=>
  rw[hR]at h9
  obtain⟨h0,h7,fsr,hrow,hh⟩:=h9
  exact⟨h0,h7,fsr,hrow,HeldG.mv (fun b hb=>HQZO.out b (by have:=hb.1;omega)) (fun b hb=>⟨by have:=hb.1;omega,by rw[HQZS.out];exact hb.2⟩) hh⟩
def fdB:FD:=⟨1,[120],1,false,0⟩
def scB:SC:=⟨[⟨[65],[fdB]⟩],[],[]⟩
theorem formB:FormS scB:=by
 refine⟨by decide +kernel,fun i hi hr=>?_⟩
 have hno:∀ x y,¬Goes scB.ms x y:=by
  intro x y h
  unfold Goes at h
  obtain⟨m,hm,f,hf,hk,_⟩:=h
  have hx:x=0:=by
   have:=(List.getElem?_eq_some_iff.1 hm).1
   simp[scB]at this;omega
  subst hx
  have e:m=⟨[65],[fdB]⟩:=by simpa [scB]using hm.symm
  subst e
  have e2:f=fdB:=by simpa using hf
  subst e2
  exact absurd hk (by decide)
 unfold Ring at hr
 cases hr with
 | single h=>exact hno _ _ h
 | tail _ h=>exact hno _ _ h
theorem lst1 {α:Type} {a x:α} {j:Nat} (h:[a][j]? = some x):j=0∧a=x:=by
 have hj:j=0:=by
  have:=(List.getElem?_eq_some_iff.1 h).1
  simp at this;exact this
 subst hj
 exact⟨rfl,by simpa using h⟩
def EnU (s:SC) (f:Nat) (t:Int) (x:Nd) (w0 w:World) (e:Ending) (w':World):Prop:=
 ∃ a zs c ee,e=.returned (.tuple #[.slice a zs.length c,.int .i64 ee])∧BIn w' (fun b=>b<w'.heap.size) a c zs∧((¬FitX s f t x∧zs=[]∧ee=1)∨(FitX s f t x∧zs=encLz s f x∧ee=encE s f x))∧Below w0.heap.size w0 w'∧Below w.heap.size w w'
theorem enU_of {s:SC} {f:Nat} {t:Int} {x:Nd} {w0 w:World} {e:Ending} {w':World} (h:EncAns s f t x w e w') (hb:Below w0.heap.size w0 w):EnU s f t x w0 w e w':=by
 obtain⟨⟨h1,rfl⟩ | ⟨h1,a,c,rfl,h2⟩,h3⟩:=h
 ·exact⟨none,[],0,1,rfl,BIn.nil _ _,.inl ⟨h1,rfl,rfl⟩,hb.trans (h3.mono hb.size),h3⟩
 ·exact⟨a,_,c,_,rfl,h2.mv (fun _ _=>rfl) (fun b hb=>hb.2),.inr ⟨h1,rfl,rfl⟩,hb.trans (h3.mono hb.size),h3⟩
end Go.Proofs.YteajlfgbmefncaaGreatDoor
