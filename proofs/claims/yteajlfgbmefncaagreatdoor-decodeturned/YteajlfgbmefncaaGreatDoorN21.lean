/-
  Walks and plain words (EnS).
-/
import Derived.Test.YteajlfgbmefncaaGreatDoorN15
import Derived.Test.YteajlfgbmefncaaGreatDoorN18
import Derived.Test.YteajlfgbmefncaaGreatDoorN20
namespace Go.Proofs.YteajlfgbmefncaaGreatDoor
set_option linter.unusedVariables false
open Go.ChangeShapes Go.WideShapes Go.ChangeAt Go.RowKit

def BAns (zs:List Int) (w:World) (e:Ending) (w':World):Prop:=∃ a c,e=.returned (.slice a zs.length c)∧BIn w' (fun b=>w.heap.size≤b∧b<w'.heap.size) a c zs∧Below w.heap.size w w'
theorem conv_bytesG (T:TypeId) (hT:Tryz.prog.underlying T=some .string) (w:World) (l:List UInt8) (hl:l.length≤100000):∃ W c,(convert T 27 (.string (mkB l))).run Tryz.prog w=.ok (.slice (some ⟨w.heap.size,0,none⟩) l.length c) W∧(l.length≤c∧c≤9223372036854775807)∧IsB W (some ⟨w.heap.size,0,none⟩) l.length (ints l)∧Below w.heap.size w W∧W.heap.size=w.heap.size+1:=by
 have hr:=Lib.run_convert_string_bytes (P:=Tryz.prog) w T 27 5 (mkB l) (u:=.string) hT Tryz.underlying27 Tryz.underlying5
 have hs:(mkB l).size=l.length:=mkB_size l
 have hd:(mkB l).data.toList=l:=by simp[mkB]
 refine⟨_,_,by rw[hs]at hr;exact hr,⟨by have:=grownCap_ge w l.length 0 5;exact this,by have:=grownCap_le_maxLen w l.length 0 5 (by unfold maxLen;omega);unfold maxLen at this;omega⟩,⟨ints_len l,by omega,?_⟩,?_,Lib.bytesWorld_size _ _ _⟩
 ·by_cases h0:l=[]
  ·left;subst h0;rfl
  ·right
   refine⟨_,_,rfl,fun j z hj=>?_,ints_ok l⟩
   have hjl:j<l.length:=by have:=(List.getElem?_eq_some_iff.1 hj).1;rw[ints_len]at this;exact this
   have:=Lib.bytesWorld_cell w 5 (mkB l) j (by omega)
   rw[Nat.zero_add,this,hd]
   unfold ints at hj
   rw[List.getElem?_map,List.getElem?_eq_getElem hjl]at hj
   simp only[Option.map_some,Option.some.injEq]at hj
   rw[←hj,List.getD_eq_getElem?_getD,List.getElem?_eq_getElem hjl];rfl
 ·exact Lib.bytesWorld_below _ _ _
theorem conv_BIn {W:World} {B:Nat} {l:List UInt8} {c:Nat} (h:IsB W (some ⟨B,0,none⟩) l.length (ints l)) (hB:B<W.heap.size) (hl:l.length≤100000) (hc:l.length≤c∧c≤9223372036854775807) (S:Nat→Prop) (hS:S B):BIn W S (some ⟨B,0,none⟩) c (ints l):=by
 refine⟨by rw[ints_len];omega,(fun h=>by cases h),?_,by rw[ints_len];exact hc.1,hc.2⟩
 obtain⟨_,_,h3⟩:=h
 rcases h3 with h3 | ⟨b,off,hab,hh⟩
 ·exact .inl h3
 ·cases hab
  exact .inr ⟨B,0,rfl,hS,hh⟩
set_option maxHeartbeats 8000000 in
set_option maxRecDepth 20000 in
theorem contents_any (ma ea ta:Option Addr) (nm ne nt mc ec tc:Nat) (y:Nd) (fs:Value) (M:List Int) (w:World) (hs:y.s.length≤100000) (hfs:y.kind=7→∃ a n c,fs=.slice a n c) (hmsg:y.kind=7→∀ W,Below w.heap.size w W→Calls Tryz.prog 71 #[.agg #[.slice ma nm mc,.slice ea ne ec,.slice ta nt tc],.agg #[.int .i64 y.type,fs,.string (mkB y.s)]] W fun e w'=>BAns M W e w') :
  Calls Tryz.prog 43 #[.agg #[.slice ma nm mc,.slice ea ne ec,.slice ta nt tc],ival y fs] w fun e w'=>BAns (contB (fun _=>M) y) w e w':=by
 have t4:=fun W=>taText y fs W
 have t5:=fun W=>taBytes y fs W
 have t7:=fun W=>taMessage y fs W
 obtain⟨v,hv⟩:∃ v,ival y fs=v:=⟨_,rfl⟩
 rw[hv]at t4 t5 t7 ⊢
 clear hv
 obtain⟨Y,hY,hC,hb,hYs⟩:=box_new w #[.slice ma nm mc,.slice ea ne ec,.slice ta nt tc] 26
 have HY:=hQz hY
 have HBY:=hQz hb
 have HCY:=hQz hC
 have hYl:w.heap.size+1=Y.heap.size:=by omega
 clear hY hb hYs hC
 by_cases h4:y.kind=4
 ·rw[if_pos h4,decide_eq_true h4]at t4
  have hr:contB (fun _=>M) y=ints y.s:=by unfold contB;rw[if_pos (by omega)]
  obtain⟨V,c,hconv,hcc,hI,hVb,hVs⟩:=conv_bytesG 71 Tryz.underlying71 Y y.s hs
  have HRES:Hid (BAns (contB (fun _=>M) y) w (.returned (.slice (some ⟨Y.heap.size,0,none⟩) y.s.length c)) V):=by
   refine(?_:BAns _ _ _ _)
   rw[hr]
   exact⟨_,c,by rw[ints_len],conv_BIn hI (by omega) hs hcc _ ⟨by omega,by omega⟩,HBY.out.trans (hVb.mono HBY.out.size)⟩
  clear hI hVb hVs hr hcc t5 t7 hmsg hfs
  go_enter Tryz.func43,Tryz.ntmps43
  go_upto_region 1 with fail
  rw[HY.out]
  go_wp2_with fail
  go_ret
  exact HRES.out
 rw[if_neg h4,decide_eq_false h4]at t4
 by_cases h5:y.kind=5
 ·rw[if_pos h5,decide_eq_true h5]at t5
  have hr:contB (fun _=>M) y=ints y.s:=by unfold contB;rw[if_pos (by omega)]
  obtain⟨V,c,hconv,hcc,hI,hVb,hVs⟩:=conv_bytesG 72 Tryz.underlying72 Y y.s hs
  have HRES:Hid (BAns (contB (fun _=>M) y) w (.returned (.slice (some ⟨Y.heap.size,0,none⟩) y.s.length c)) V):=by
   refine(?_:BAns _ _ _ _)
   rw[hr]
   exact⟨_,c,by rw[ints_len],conv_BIn hI (by omega) hs hcc _ ⟨by omega,by omega⟩,HBY.out.trans (hVb.mono HBY.out.size)⟩
  clear hI hVb hVs hr hcc t7 hmsg hfs
  go_enter Tryz.func43,Tryz.ntmps43
  go_upto_region 1 with fail
  rw[HY.out]
  go_wp2_with fail
  go_ret
  exact HRES.out
 rw[if_neg h5,decide_eq_false h5]at t5
 by_cases h7:y.kind=7
 case neg=>
  rw[if_neg h7,decide_eq_false h7]at t7
  have hr:contB (fun _=>M) y=[]:=by unfold contB;rw[if_neg (by omega),if_neg h7]
  have HRES:Hid (BAns (contB (fun _=>M) y) w (.returned (.slice none 0 0)) Y):=by
   refine(?_:BAns _ _ _ _)
   rw[hr]
   exact⟨none,0,rfl,BIn.nil _ _,HBY.out⟩
  clear hr hmsg hfs
  go_enter Tryz.func43,Tryz.ntmps43
  go_upto_region 1 with fail
  rw[HY.out]
  go_wp2_with fail
  go_ret
  exact HRES.out
 rw[if_pos h7,decide_eq_true h7]at t7
 obtain⟨xa,xn,xc,rfl⟩:=hfs h7
 have hr:contB (fun _=>M) y=M:=by unfold contB;rw[if_neg (by omega),if_pos h7]
 rw[hr]
 obtain⟨V,hV',hD,hVb,hVs⟩:=box_new Y #[.int .i64 y.type,.slice xa xn xc,.string (mkB y.s)] 76
 have HV:=hQz hV'
 have hBV:=HBY.out.trans (hVb.mono HBY.out.size)
 have HBV:=hQz hBV
 have hcall:=hmsg h7 V hBV
 have hCV:=(hVb.block w.heap.size (by omega)).trans HCY.out
 have a0:=cell_at hCV 0 rfl
 have a1:=cell_at hCV 1 rfl
 have a2:=cell_at hCV 2 rfl
 have b0:=cell_at hD 0 rfl
 have b1:=cell_at hD 1 rfl
 have b2:=cell_at hD 2 rfl
 clear hV' hD hVb hVs hBV hCV hr hmsg hfs
 go_enter Tryz.func43,Tryz.ntmps43
 go_upto_region 1 with fail
 rw[HY.out]
 go_upto_region 10 with fail
 rw[HV.out]
 go_wp2_with fail
 refine hcall.mono ?_
 rintro e W ⟨a,c,rfl,hbi,hbW⟩
 have HRES:Hid (BAns M w (.returned (.slice a M.length c)) W):=⟨a,c,rfl,hbi.mv (fun _ _=>rfl) (fun b hb=>⟨by have:=hb.1;have:=HBV.out.size;omega,hb.2⟩),HBV.out.trans (hbW.mono HBV.out.size)⟩
 clear hcall hbi hbW a0 a1 a2 b0 b1 b2
 go_wp2_with fail
 go_ret
 exact HRES.out
set_option maxHeartbeats 16000000 in
set_option maxRecDepth 20000 in
theorem single_any (ma ea ta:Option Addr) (nm ne nt mc ec tc:Nat) (fd:FD) (y:Nd) (fs:Value) (rec:Nd→List Int) (w:World) (hy:Rg1 y) (hc:isNum fd.kind=false→∀ W,Below w.heap.size w W→Calls Tryz.prog 43 #[.agg #[.slice ma nm mc,.slice ea ne ec,.slice ta nt tc],ival y fs] W fun e w'=>BAns (rec y) W e w') :
  Calls Tryz.prog 111 #[.agg #[.slice ma nm mc,.slice ea ne ec,.slice ta nt tc],.agg #[.int .i64 fd.num,.string (mkB fd.name),.int .i64 fd.kind,.bool fd.rep,.int .i64 fd.type],ival y fs] w fun e w'=>WfAns (singW rec fd y) w e w':=by
 have hnum:=fun W=>numberP_any fd.kind y fs W hy
 obtain⟨v,hv⟩:∃ v,ival y fs=v:=⟨_,rfl⟩
 rw[hv]at hnum hc ⊢
 clear hv
 have hin:=fun W=>isNum_any fd.kind W
 obtain⟨Y,hY,hC,hb,hYs⟩:=box_new w #[.slice ma nm mc,.slice ea ne ec,.slice ta nt tc] 26
 obtain⟨U,hU,hE,hUb,hUs⟩:=box_new Y #[.int .i64 fd.num,.string (mkB fd.name),.int .i64 fd.kind,.bool fd.rep,.int .i64 fd.type] 51
 obtain⟨V,hV',hD,hVb,hVs⟩:=box_new U #[.int .i64 0,.int .i64 0,.int .u64 0,.slice none 0 0] 123
 have HY:=hQz hY
 have HU:=hQz hU
 have HV:=hQz hV'
 rw[hUs,hYs]at hD
 rw[hYs]at hE
 have hE2:=(hVb.block _ (by omega)).trans hE
 have hC2:=(hVb.block _ (by omega)).trans ((hUb.block _ (by omega)).trans hC)
 have hBV:=hb.trans ((hUb.trans (hVb.mono hUb.size)).mono hb.size)
 have HBV:=hQz hBV
 have HDV:=hQz hD
 have HEV:=hQz hE2
 have hVl:w.heap.size+3=V.heap.size:=by omega
 have s0:∀ W,Below V.heap.size V W→W.cell? ⟨w.heap.size,0,none⟩=some (.slice ma nm mc):=fun W hW=>(hW.cell (by simp;omega)).trans (cell_at hC2 0 rfl)
 have s1:∀ W,Below V.heap.size V W→W.cell? ⟨w.heap.size,1,none⟩=some (.slice ea ne ec):=fun W hW=>(hW.cell (by simp;omega)).trans (cell_at hC2 1 rfl)
 have s2:∀ W,Below V.heap.size V W→W.cell? ⟨w.heap.size,2,none⟩=some (.slice ta nt tc):=fun W hW=>(hW.cell (by simp;omega)).trans (cell_at hC2 2 rfl)
 have q0:∀ W,Below V.heap.size V W→W.cell? ⟨w.heap.size+1,0,none⟩=some (.int .i64 fd.num):=fun W hW=>(hW.cell (by simp;omega)).trans (cell_at hE2 0 rfl)
 have q2:∀ W,Below V.heap.size V W→W.cell? ⟨w.heap.size+1,2,none⟩=some (.int .i64 fd.kind):=fun W hW=>(hW.cell (by simp;omega)).trans (cell_at hE2 2 rfl)
 have c2:=q2 V (Below.refl _ _)
 obtain⟨R,hR⟩:∃ R,isNum fd.kind=R:=⟨_,rfl⟩
 have HR:=hQz hR
 rw[hR]at hc
 replace hin:∀ W,Calls Tryz.prog 109 #[.int .i64 fd.kind] W fun e w'=>e=.returned (.bool R)∧w'=W:=fun W=>by rw[←hR];exact hin W
 clear hC hY hb hYs hU hUb hUs hE hV' hVb hVs hD hE2 hC2 hBV hR
 cases R
 case false=>
  have hW:singW rec fd y=⟨fd.num,2,0,rec y⟩:=by unfold singW;rw[HR.out];rfl
  rw[hW]
  have HCO:=hQz (hc rfl)
  clear hW hc hnum
  go_enter Tryz.func111,Tryz.ntmps111
  go_upto_region 1 with fail
  rw[HY.out,HU.out,HV.out]
  go_upto_region 2 with (refine(hin _).mono ?_;rintro e W9 ⟨rfl,hW9⟩;have hW9:=hW9.symm;subst hW9)
  clear c2
  have z0:=s0 V (Below.refl _ _)
  have z1:=s1 V (Below.refl _ _)
  have z2:=s2 V (Below.refl _ _)
  have z3:=q0 V (Below.refl _ _)
  have p0:∀ W:World,(∀ b,b<V.heap.size→b≠w.heap.size+2→W.heap[b]? = V.heap[b]?)→W.cell? ⟨w.heap.size,0,none⟩=some (.slice ma nm mc)∧W.cell? ⟨w.heap.size,1,none⟩=some (.slice ea ne ec)∧W.cell? ⟨w.heap.size,2,none⟩=some (.slice ta nt tc)∧W.cell? ⟨w.heap.size+1,0,none⟩=some (.int .i64 fd.num):=fun W hW=>⟨(World.cell?_of_block (hW w.heap.size (by omega) (by omega))).trans z0,(World.cell?_of_block (hW w.heap.size (by omega) (by omega))).trans z1,(World.cell?_of_block (hW w.heap.size (by omega) (by omega))).trans z2,(World.cell?_of_block (hW (w.heap.size+1) (by omega) (by omega))).trans z3⟩
  have hS0:∀ b,b<V.heap.size→b≠w.heap.size+2→V.drew.heap[b]? = V.heap[b]?:=fun _ _ _=>rfl
  have hB0:Below V.heap.size V V.drew:=(Below.refl _ _).drew
  clear z0 z1 z2 z3 s0 s1 s2 q0 q2
  refine wp_region_held_drew (S:=fun W=>∀ b,b<V.heap.size→b≠w.heap.size+2→W.heap[b]? = V.heap[b]?) (by kernel_rfl) hS0 (fun _=>?_)
  refine T_on 0 (.pointer (some ⟨w.heap.size+1,0,none⟩)) rfl (by kernel_rfl) (fun _ _ _ h=>h) hS0 (fun W hW=>by go_simp) ?_
  refine T_on 1 (.int .i64 fd.num) rfl (by kernel_rfl) (fun _ _ _ h=>h) hS0 (fun W hW=>by have c:=(p0 W hW).2.2.2;go_simp) ?_
  refine T_on 2 (.agg #[.slice ma nm mc,.slice ea ne ec,.slice ta nt tc]) rfl (by kernel_rfl) (fun _ _ _ h=>h) hS0 (fun W hW=>by obtain⟨c,c1,c2,_⟩:=p0 W hW;go_simp) ?_
  refine T_on 3 v rfl (by kernel_rfl) (fun _ _ _ h=>h) hS0 (fun W hW=>by go_simp) ?_
  refine T_call 4 (by kernel_rfl) rfl (fun K hK=>?_)
  go_simp
  refine(HCO.out _ (HBV.out.trans (hB0.mono HBV.out.size))).mono ?_
  rintro e W ⟨a,c,rfl,hbi,hbW⟩
  have hS1:=hB0.trans (hbW.mono hB0.size)
  have HBI:Hid (BIn W (fun b=>V.heap.size≤b∧b<W.heap.size) a c (rec y)):=hbi
  have hF1:∀ b,b<V.heap.size→b≠w.heap.size+2→W.heap[b]? = V.heap[b]?:=fun b h1 _=>hS1.block b h1
  clear hS0 hbW hbi hB0
  dsimp only
  refine hK.out _ _ hF1 (fun _=>?_)
  clear hK K
  refine T_on 5 (.agg #[.int .i64 fd.num,.int .i64 2,.int .u64 0,.slice a (rec y).length c]) rfl (by kernel_rfl) (fun _ _ _ h=>h) hF1 (fun W hW=>by go_simp) ?_
  have hDX:=(hS1.block (w.heap.size+2) (by omega)).trans HDV.out
  have k0:=cell_at hDX 0 rfl
  have kf0:W.frozen? ⟨w.heap.size+2,0,none⟩=false:=frz_at hDX 0
  have k1:=cell_at hDX 1 rfl
  have kf1:W.frozen? ⟨w.heap.size+2,1,none⟩=false:=frz_at hDX 1
  have k2:=cell_at hDX 2 rfl
  have kf2:W.frozen? ⟨w.heap.size+2,2,none⟩=false:=frz_at hDX 2
  have k3:=cell_at hDX 3 rfl
  have kf3:W.frozen? ⟨w.heap.size+2,3,none⟩=false:=frz_at hDX 3
  obtain⟨Q,hQ,hQc,hQo,hQs,hQb⟩:=set4V hDX (.int .i64 fd.num) (.int .i64 2) (.int .u64 0) (.slice a (rec y).length c)
  have HQ:=hQz hQ
  have HQC:=hQz hQc
  have hS2:Below w.heap.size w Q:=(HBV.out.trans (hS1.mono HBV.out.size)).trans (hQb.mono (by omega))
  have HBI2:Hid (BIn Q (fun b=>w.heap.size≤b∧b<Q.heap.size) a c (rec y)):=HBI.out.mv (fun b hb=>hQo b (by have:=hb.1;omega)) (fun b hb=>⟨by have:=hb.1;omega,by rw[hQs];exact hb.2⟩)
  have hS3:∀ b,b<V.heap.size→b≠w.heap.size+2→Q.heap[b]? = V.heap[b]?:=fun b h1 h2=>(hQo b h2).trans (hS1.block b h1)
  clear hQ hQc hQo hQs hQb hDX
  refine T_call 6 (by kernel_rfl) rfl (fun K hK=>?_)
  go_simp
  rw[HQ.out]
  refine hK.out _ _ hS3 (fun _=>?_)
  clear hK K
  refine wpAnyH_done (by kernel_rfl) ?_ _
  have HS2:=hQz hS2
  clear hS1 hS2 hS3 hF1 p0
  go_simp
  go_wp2_with fail
  have r0:=cell_at HQC.out 0 rfl
  have r1:=cell_at HQC.out 1 rfl
  have r2:=cell_at HQC.out 2 rfl
  have r3:=cell_at HQC.out 3 rfl
  refine bodyPost_ret (v:=.agg #[.int .i64 fd.num,.int .i64 2,.int .u64 0,.slice a (rec y).length c]) (by simp[results,Tryz.results111,go_sem,r0,r1,r2,r3]) rfl ?_
  exact⟨a,c,rfl,HBI2.out,HS2.out⟩
 case true=>
  have HW:Hid (singW rec fd y=⟨fd.num,if fd.kind=7 then 5 else if fd.kind=8 then 1 else 0,numP fd.kind y,[]⟩):=by
   refine(?_:_=_)
   unfold singW;rw[HR.out];rfl
  obtain⟨N,hN⟩:∃ n,numP fd.kind y=n:=⟨_,rfl⟩
  rw[hN]at hnum HW
  clear hc hN
  go_enter Tryz.func111,Tryz.ntmps111
  go_upto_region 1 with fail
  rw[HY.out,HU.out,HV.out]
  go_upto_region 3 with (refine(hin _).mono ?_;rintro e W9 ⟨rfl,hW9⟩;have hW9:=hW9.symm;subst hW9)
  clear c2
  go_cut [7] (fun v wx=>v=.pointer (some ⟨V.heap.size,0,none⟩)∧wx.heap[V.heap.size]? = some (.cells #[.int .i64 fd.num,.int .i64 0,.int .u64 N,.slice none 0 0] 123 (0,0))∧Below V.heap.size V wx)
  case first=>
   have hS0:Below V.heap.size V V.drew:=(Below.refl _ _).drew
   refine wp_region_held_drew (S:=fun W=>Below V.heap.size V W) (by kernel_rfl) hS0 (fun _=>?_)
   refine T_on 0 (.pointer (some ⟨w.heap.size+1,0,none⟩)) rfl (by kernel_rfl) (fun _ _ _ h=>h) hS0 (fun W hW=>by go_simp) ?_
   refine T_on 1 (.int .i64 fd.num) rfl (by kernel_rfl) (fun _ _ _ h=>h) hS0 (fun W hW=>by have c:=q0 W hW;go_simp) ?_
   refine T_on 2 (.pointer (some ⟨w.heap.size+1,2,none⟩)) rfl (by kernel_rfl) (fun _ _ _ h=>h) hS0 (fun W hW=>by go_simp) ?_
   refine T_on 3 (.int .i64 fd.kind) rfl (by kernel_rfl) (fun _ _ _ h=>h) hS0 (fun W hW=>by have c:=q2 W hW;go_simp) ?_
   refine T_on 4 v rfl (by kernel_rfl) (fun _ _ _ h=>h) hS0 (fun W hW=>by go_simp) ?_
   have hA:(V.drew.alloc (.cells #[.int .i64 0,.int .i64 0,.int .u64 0,.slice none 0 0] 123)).heap[V.heap.size]? = some (.cells #[.int .i64 0,.int .i64 0,.int .u64 0,.slice none 0 0] 123 (0,0)):=alloc_heap_new V.drew (.cells #[.int .i64 0,.int .i64 0,.int .u64 0,.slice none 0 0] 123)
   have hS1:Below V.heap.size V (V.drew.alloc (.cells #[.int .i64 0,.int .i64 0,.int .u64 0,.slice none 0 0] 123)):=hS0.alloc (Nat.le_refl _) _
   have hA':((V.alloc (.cells #[.int .i64 0,.int .i64 0,.int .u64 0,.slice none 0 0] 123)).drew).heap[V.heap.size]? = some (.cells #[.int .i64 0,.int .i64 0,.int .u64 0,.slice none 0 0] 123 (0,0)):=alloc_heap_new V (.cells #[.int .i64 0,.int .i64 0,.int .u64 0,.slice none 0 0] 123)
   have hS1':Below V.heap.size V ((V.alloc (.cells #[.int .i64 0,.int .i64 0,.int .u64 0,.slice none 0 0] 123)).drew):=((Below.refl _ V).alloc (Nat.le_refl _) _).drew
   refine T_two 5 7 (by kernel_rfl) rfl rfl (fun K hK=>?_) (fun K hK=>?_)
   ·clear hA hS1
    have hA:=hA'
    have hS1:=hS1'
    clear hA' hS1'
    go_simp
    refine(hnum _).mono ?_
    rintro e W9 ⟨rfl,hW9⟩
    have hW9:=hW9.symm
    subst hW9
    dsimp only
    refine hK.out _ _ hS0 (fun _=>?_)
    clear hK K
    refine T_on 6 (.agg #[.int .i64 fd.num,.int .i64 0,.int .u64 N,.slice none 0 0]) rfl (by kernel_rfl) (fun _ _ _ h=>h) hS0 (fun W hW=>by go_simp) ?_
    refine T_call 7 (by kernel_rfl) rfl (fun K hK=>?_)
    go_simp
    refine hK.out _ _ hS1 (fun _=>?_)
    clear hK K
    generalize (V.alloc (.cells #[.int .i64 0,.int .i64 0,.int .u64 0,.slice none 0 0] 123)).drew=WA at *
    have k0:=cell_at hA 0 rfl
    have kf0:WA.frozen? ⟨V.heap.size,0,none⟩=false:=frz_at hA 0
    have k1:=cell_at hA 1 rfl
    have kf1:WA.frozen? ⟨V.heap.size,1,none⟩=false:=frz_at hA 1
    have k2:=cell_at hA 2 rfl
    have kf2:WA.frozen? ⟨V.heap.size,2,none⟩=false:=frz_at hA 2
    have k3:=cell_at hA 3 rfl
    have kf3:WA.frozen? ⟨V.heap.size,3,none⟩=false:=frz_at hA 3
    obtain⟨Qw,hQ,hQc,_,_,hQb⟩:=set4V hA (.int .i64 fd.num) (.int .i64 0) (.int .u64 N) (.slice none 0 0)
    have hS3:Below V.heap.size V Qw:=hS1.trans hQb
    have HQ:=hQz hQ
    clear hQ hA
    refine T_call 8 (by kernel_rfl) rfl (fun K hK=>?_)
    go_simp
    rw[HQ.out]
    refine hK.out _ _ hS3 (fun _=>?_)
    clear hK K
    refine wpAnyH_done (by kernel_rfl) ?_ _
    go_simp
    go_wp2_with fail
    go_meet
    exact⟨rfl,hQc,hS3⟩
   ·clear hA hS1
    have hA:=hA'
    have hS1:=hS1'
    clear hA' hS1'
    go_simp
    refine hK.out _ _ hS1 (fun _=>?_)
    clear hK K
    generalize (V.alloc (.cells #[.int .i64 0,.int .i64 0,.int .u64 0,.slice none 0 0] 123)).drew=WA at *
    refine T_call 5 (by kernel_rfl) rfl (fun K hK=>?_)
    go_simp
    refine(hnum _).mono ?_
    rintro e W9 ⟨rfl,hW9⟩
    have hW9:=hW9.symm
    subst hW9
    dsimp only
    refine hK.out _ _ hS1 (fun _=>?_)
    clear hK K
    refine T_on 6 (.agg #[.int .i64 fd.num,.int .i64 0,.int .u64 N,.slice none 0 0]) rfl (by kernel_rfl) (fun _ _ _ h=>h) hS1 (fun W hW=>by go_simp) ?_
    have k0:=cell_at hA 0 rfl
    have kf0:WA.frozen? ⟨V.heap.size,0,none⟩=false:=frz_at hA 0
    have k1:=cell_at hA 1 rfl
    have kf1:WA.frozen? ⟨V.heap.size,1,none⟩=false:=frz_at hA 1
    have k2:=cell_at hA 2 rfl
    have kf2:WA.frozen? ⟨V.heap.size,2,none⟩=false:=frz_at hA 2
    have k3:=cell_at hA 3 rfl
    have kf3:WA.frozen? ⟨V.heap.size,3,none⟩=false:=frz_at hA 3
    obtain⟨Qw,hQ,hQc,_,_,hQb⟩:=set4V hA (.int .i64 fd.num) (.int .i64 0) (.int .u64 N) (.slice none 0 0)
    have hS3:Below V.heap.size V Qw:=hS1.trans hQb
    have HQ:=hQz hQ
    clear hQ hA
    refine T_call 8 (by kernel_rfl) rfl (fun K hK=>?_)
    go_simp
    rw[HQ.out]
    refine hK.out _ _ hS3 (fun _=>?_)
    clear hK K
    refine wpAnyH_done (by kernel_rfl) ?_ _
    go_simp
    go_wp2_with fail
    go_meet
    exact⟨rfl,hQc,hS3⟩
  case rest=>
  obtain⟨rfl,hDq,hS1⟩:=hcut
  generalize wc=Z at *
  have hZs:=(Array.getElem?_eq_some_iff.1 hDq).1
  have c2:=q2 Z hS1
  have hRX:=(hS1.block (w.heap.size+2) (by omega)).trans HDV.out
  have HS1:=hQz hS1
  clear s0 s1 s2 q0 q2 hS1
  by_cases h7:fd.kind=7
  ·rw[h7]at c2
   have kt:=cell_at hDq 1 rfl
   have kft:Z.frozen? ⟨V.heap.size,1,none⟩=false:=frz_at hDq 1
   obtain⟨T,hT⟩:∃ T,Z.setCell ⟨V.heap.size,1,none⟩ (.int .i64 5)=T:=⟨_,rfl⟩
   have hTp:T.heap[V.heap.size]? = some (.cells #[.int .i64 fd.num,.int .i64 5,.int .u64 N,.slice none 0 0] 123 (0,0)):=by rw[←hT,setCell_heap hDq];rfl
   have hTR:T.heap[w.heap.size+2]? = some (.cells #[.int .i64 0,.int .i64 0,.int .u64 0,.slice none 0 0] 123 (0,0)):=by rw[←hT];exact(Below.heap_setCell _ _ _ _ (by show w.heap.size+2≠V.heap.size;omega)).trans hRX
   have hTb:Below V.heap.size V T:=by rw[←hT];exact HS1.out.setCell (p:=⟨V.heap.size,1,none⟩) (Nat.le_refl _) _
   have HT:=hQz hT
   clear hT
   have m0:=cell_at hTp 0 rfl
   have m1:=cell_at hTp 1 rfl
   have m2:=cell_at hTp 2 rfl
   have m3:=cell_at hTp 3 rfl
   have k0:=cell_at hTR 0 rfl
   have kf0:T.frozen? ⟨w.heap.size+2,0,none⟩=false:=frz_at hTR 0
   have k1:=cell_at hTR 1 rfl
   have kf1:T.frozen? ⟨w.heap.size+2,1,none⟩=false:=frz_at hTR 1
   have k2:=cell_at hTR 2 rfl
   have kf2:T.frozen? ⟨w.heap.size+2,2,none⟩=false:=frz_at hTR 2
   have k3:=cell_at hTR 3 rfl
   have kf3:T.frozen? ⟨w.heap.size+2,3,none⟩=false:=frz_at hTR 3
   obtain⟨Q,hQ,hQc,hQo,hQs,hQb⟩:=set4V hTR (.int .i64 fd.num) (.int .i64 5) (.int .u64 N) (.slice none 0 0)
   have HQ:=hQz hQ
   have HQC:=hQz hQc
   have HS2:Hid (Below w.heap.size w Q):=(HBV.out.trans (hTb.mono HBV.out.size)).trans (hQb.mono (by omega))
   have HRES:Hid (WfAns (singW rec fd y) w (.returned (.agg #[.int .i64 fd.num,.int .i64 5,.int .u64 N,.slice none 0 0])) Q):=by
    refine(?_:WfAns _ _ _ _)
    rw[HW.out]
    rw[if_pos h7]
    exact⟨none,0,rfl,BIn.nil _ _,HS2.out⟩
   clear hQ hQc hQo hQs hQb hTp hTR hTb hDq hRX
   go_upto_region 9 with fail
   rw[HT.out]
   clear kt kft
   go_wp2_with fail
   rw[HQ.out]
   have r0:=cell_at HQC.out 0 rfl
   have r1:=cell_at HQC.out 1 rfl
   have r2:=cell_at HQC.out 2 rfl
   have r3:=cell_at HQC.out 3 rfl
   refine bodyPost_ret (v:=.agg #[.int .i64 fd.num,.int .i64 5,.int .u64 N,.slice none 0 0]) (by simp[results,Tryz.results111,go_sem,r0,r1,r2,r3]) rfl ?_
   exact HRES.out
  have k7:(fd.kind == 7)=false:=by simp[h7]
  by_cases h8:fd.kind=8
  ·rw[h8]at c2
   have kt:=cell_at hDq 1 rfl
   have kft:Z.frozen? ⟨V.heap.size,1,none⟩=false:=frz_at hDq 1
   obtain⟨T,hT⟩:∃ T,Z.setCell ⟨V.heap.size,1,none⟩ (.int .i64 1)=T:=⟨_,rfl⟩
   have hTp:T.heap[V.heap.size]? = some (.cells #[.int .i64 fd.num,.int .i64 1,.int .u64 N,.slice none 0 0] 123 (0,0)):=by rw[←hT,setCell_heap hDq];rfl
   have hTR:T.heap[w.heap.size+2]? = some (.cells #[.int .i64 0,.int .i64 0,.int .u64 0,.slice none 0 0] 123 (0,0)):=by rw[←hT];exact(Below.heap_setCell _ _ _ _ (by show w.heap.size+2≠V.heap.size;omega)).trans hRX
   have hTb:Below V.heap.size V T:=by rw[←hT];exact HS1.out.setCell (p:=⟨V.heap.size,1,none⟩) (Nat.le_refl _) _
   have HT:=hQz hT
   clear hT
   have m0:=cell_at hTp 0 rfl
   have m1:=cell_at hTp 1 rfl
   have m2:=cell_at hTp 2 rfl
   have m3:=cell_at hTp 3 rfl
   have k0:=cell_at hTR 0 rfl
   have kf0:T.frozen? ⟨w.heap.size+2,0,none⟩=false:=frz_at hTR 0
   have k1:=cell_at hTR 1 rfl
   have kf1:T.frozen? ⟨w.heap.size+2,1,none⟩=false:=frz_at hTR 1
   have k2:=cell_at hTR 2 rfl
   have kf2:T.frozen? ⟨w.heap.size+2,2,none⟩=false:=frz_at hTR 2
   have k3:=cell_at hTR 3 rfl
   have kf3:T.frozen? ⟨w.heap.size+2,3,none⟩=false:=frz_at hTR 3
   obtain⟨Q,hQ,hQc,hQo,hQs,hQb⟩:=set4V hTR (.int .i64 fd.num) (.int .i64 1) (.int .u64 N) (.slice none 0 0)
   have HQ:=hQz hQ
   have HQC:=hQz hQc
   have HS2:Hid (Below w.heap.size w Q):=(HBV.out.trans (hTb.mono HBV.out.size)).trans (hQb.mono (by omega))
   have HRES:Hid (WfAns (singW rec fd y) w (.returned (.agg #[.int .i64 fd.num,.int .i64 1,.int .u64 N,.slice none 0 0])) Q):=by
    refine(?_:WfAns _ _ _ _)
    rw[HW.out]
    rw[if_neg h7,if_pos h8]
    exact⟨none,0,rfl,BIn.nil _ _,HS2.out⟩
   clear hQ hQc hQo hQs hQb hTp hTR hTb hDq hRX
   go_upto_region 9 with fail
   rw[HT.out]
   clear kt kft
   go_wp2_with fail
   rw[HQ.out]
   have r0:=cell_at HQC.out 0 rfl
   have r1:=cell_at HQC.out 1 rfl
   have r2:=cell_at HQC.out 2 rfl
   have r3:=cell_at HQC.out 3 rfl
   refine bodyPost_ret (v:=.agg #[.int .i64 fd.num,.int .i64 1,.int .u64 N,.slice none 0 0]) (by simp[results,Tryz.results111,go_sem,r0,r1,r2,r3]) rfl ?_
   exact HRES.out
  have k8:(fd.kind == 8)=false:=by simp[h8]
  have m0:=cell_at hDq 0 rfl
  have m1:=cell_at hDq 1 rfl
  have m2:=cell_at hDq 2 rfl
  have m3:=cell_at hDq 3 rfl
  have k0:=cell_at hRX 0 rfl
  have kf0:Z.frozen? ⟨w.heap.size+2,0,none⟩=false:=frz_at hRX 0
  have k1:=cell_at hRX 1 rfl
  have kf1:Z.frozen? ⟨w.heap.size+2,1,none⟩=false:=frz_at hRX 1
  have k2:=cell_at hRX 2 rfl
  have kf2:Z.frozen? ⟨w.heap.size+2,2,none⟩=false:=frz_at hRX 2
  have k3:=cell_at hRX 3 rfl
  have kf3:Z.frozen? ⟨w.heap.size+2,3,none⟩=false:=frz_at hRX 3
  obtain⟨Q,hQ,hQc,hQo,hQs,hQb⟩:=set4V hRX (.int .i64 fd.num) (.int .i64 0) (.int .u64 N) (.slice none 0 0)
  have HQ:=hQz hQ
  have HQC:=hQz hQc
  have HS2:Hid (Below w.heap.size w Q):=(HBV.out.trans (HS1.out.mono HBV.out.size)).trans (hQb.mono (by omega))
  have HRES:Hid (WfAns (singW rec fd y) w (.returned (.agg #[.int .i64 fd.num,.int .i64 0,.int .u64 N,.slice none 0 0])) Q):=by
   refine(?_:WfAns _ _ _ _)
   rw[HW.out]
   rw[if_neg h7,if_neg h8]
   exact⟨none,0,rfl,BIn.nil _ _,HS2.out⟩
  clear hQ hQc hQo hQs hQb hDq hRX
  go_wp2_with fail
  rw[HQ.out]
  have r0:=cell_at HQC.out 0 rfl
  have r1:=cell_at HQC.out 1 rfl
  have r2:=cell_at HQC.out 2 rfl
  have r3:=cell_at HQC.out 3 rfl
  refine bodyPost_ret (v:=.agg #[.int .i64 fd.num,.int .i64 0,.int .u64 N,.slice none 0 0]) (by simp[results,Tryz.results111,go_sem,r0,r1,r2,r3]) rfl ?_
  exact HRES.out
end Go.Proofs.YteajlfgbmefncaaGreatDoor
