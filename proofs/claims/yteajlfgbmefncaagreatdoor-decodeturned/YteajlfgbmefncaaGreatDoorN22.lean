/-
  Walks and plain words (EnL).
-/
import Derived.Test.YteajlfgbmefncaaGreatDoorN21
namespace Go.Proofs.YteajlfgbmefncaaGreatDoor
set_option linter.unusedVariables false
open Go.ChangeShapes Go.WideShapes Go.ChangeAt Go.RowKit

def WfIn (w:World) (S:Nat→Prop) (v:Value) (l:List WF):Prop:=SlIn S 4 (fun x g o=>∃ a c,Cells w g o [.int .i64 x.num,.int .i64 x.ty,.int .u64 x.n,.slice a x.d.length c]∧BIn w S a c x.d) v l
def WlAns (l:List WF) (w:World) (e:Ending) (w':World):Prop:=∃ ad c,e=.returned (.slice ad l.length c)∧WfIn w' (fun b=>w.heap.size≤b∧b<w'.heap.size) (.slice ad l.length c) l∧Below w.heap.size w w'
def WRs (w:World) (S:Nat→Prop) (x:WF) (r:List Value):Prop:=∃ a c,r=[.int .i64 x.num,.int .i64 x.ty,.int .u64 x.n,.slice a x.d.length c]∧BIn w S a c x.d
theorem mvsW:Mvs WRs:=fun w w' S S' x r ⟨a,c,h1,h2⟩ hb hS=>⟨a,c,h1,h2.mv hb hS⟩
theorem Gr.wfs {w:World} {base:Nat} {T:TypeId} {v:Value} {l:List WF} {rs:List (List Value)} (h:Gr WRs w base T 4 v l rs) (S:Nat→Prop) (hS:∀ b,base≤b→b<w.heap.size→S b):WfIn w S v l:=by
 refine SlIn.imp (h.held S fun b hb=>hS b (h.blk b hb).1 (h.blk b hb).2) (fun _ h=>h) fun x g o hg hx=>?_
 obtain⟨r,hc,a,c,rfl,hd⟩:=hx
 exact⟨a,c,hc,hd.mv (fun _ _=>rfl) (fun b hF=>hS b hF.1 hF.2.1)⟩
theorem infoWF:(Tryz.prog.info? 123).map (fun i=>(i.zero,i.size,i.bytes))=some (some (.agg #[.int .i64 0,.int .i64 0,.int .u64 0,.slice none 0 0]),4,48):=by kernel_rfl
theorem map_take_snoc {α β:Type} (g:α→β) {l:List α} {k:Nat} {y:α} (h:l[k]? = some y):(l.take (k+1)).map g=(l.take k).map g++[g y]:=by
 rw[show l.take (k+1)=l.take k++[y] from take_snoc h,List.map_append];rfl
set_option maxHeartbeats 16000000 in
set_option maxRecDepth 20000 in
theorem wireF_any (ma ea ta:Option Addr) (nm ne nt mc ec tc:Nat) (fd:FD) (va:Option Addr) (m vc:Nat) (ys:List Nd) (f:Nat) (rec:Nd→List Int) (w:World) (hm:ys.length=m) (hml:m≤100000) (hV:ValsG valS w (fun b=>b<w.heap.size) f (.slice va m vc) ys) (hr:∀ y∈ys,Rg1 y)
  (hs:∀ (y:Nd) (fs:Value) (W:World),y∈ys→Below w.heap.size w W→(y.kind=7→HeldG valS W (fun b=>b<W.heap.size) f fs y.fields)→Calls Tryz.prog 111 #[.agg #[.slice ma nm mc,.slice ea ne ec,.slice ta nt tc],.agg #[.int .i64 fd.num,.string (mkB fd.name),.int .i64 fd.kind,.bool fd.rep,.int .i64 fd.type],ival y fs] W fun e w'=>WfAns (singW rec fd y) W e w') :
  Calls Tryz.prog 97 #[.agg #[.slice ma nm mc,.slice ea ne ec,.slice ta nt tc],.agg #[.int .i64 fd.num,.string (mkB fd.name),.int .i64 fd.kind,.bool fd.rep,.int .i64 fd.type],.slice va m vc] w fun e w'=>WlAns (wireL rec fd ys) w e w':=by
 obtain⟨Y,hY,hC,hb,hYs⟩:=box_new w #[.slice ma nm mc,.slice ea ne ec,.slice ta nt tc] 26
 obtain⟨V,hV',hD,hVb,hVs⟩:=box_new Y #[.int .i64 fd.num,.string (mkB fd.name),.int .i64 fd.kind,.bool fd.rep,.int .i64 fd.type] 51
 have HY:=hQz hY
 have HV:=hQz hV'
 rw[hYs]at hD
 have hC2:=(hVb.block _ (by omega)).trans hC
 have hBV:=hb.trans (hVb.mono hb.size)
 have HBV:=hQz hBV
 have hVl:w.heap.size+2=V.heap.size:=by omega
 have s0:∀ W,Below V.heap.size V W→W.cell? ⟨w.heap.size,0,none⟩=some (.slice ma nm mc):=fun W hW=>(hW.cell (by simp;omega)).trans (cell_at hC2 0 rfl)
 have s1:∀ W,Below V.heap.size V W→W.cell? ⟨w.heap.size,1,none⟩=some (.slice ea ne ec):=fun W hW=>(hW.cell (by simp;omega)).trans (cell_at hC2 1 rfl)
 have s2:∀ W,Below V.heap.size V W→W.cell? ⟨w.heap.size,2,none⟩=some (.slice ta nt tc):=fun W hW=>(hW.cell (by simp;omega)).trans (cell_at hC2 2 rfl)
 have q0:∀ W,Below V.heap.size V W→W.cell? ⟨w.heap.size+1,0,none⟩=some (.int .i64 fd.num):=fun W hW=>(hW.cell (by simp;omega)).trans (cell_at hD 0 rfl)
 have q1:∀ W,Below V.heap.size V W→W.cell? ⟨w.heap.size+1,1,none⟩=some (.string (mkB fd.name)):=fun W hW=>(hW.cell (by simp;omega)).trans (cell_at hD 1 rfl)
 have q2:∀ W,Below V.heap.size V W→W.cell? ⟨w.heap.size+1,2,none⟩=some (.int .i64 fd.kind):=fun W hW=>(hW.cell (by simp;omega)).trans (cell_at hD 2 rfl)
 have q3:∀ W,Below V.heap.size V W→W.cell? ⟨w.heap.size+1,3,none⟩=some (.bool fd.rep):=fun W hW=>(hW.cell (by simp;omega)).trans (cell_at hD 3 rfl)
 have q4:∀ W,Below V.heap.size V W→W.cell? ⟨w.heap.size+1,4,none⟩=some (.int .i64 fd.type):=fun W hW=>(hW.cell (by simp;omega)).trans (cell_at hD 4 rfl)
 have hin:=fun W=>isNum_any fd.kind W
 obtain⟨R,hR⟩:∃ R,isNum fd.kind=R:=⟨_,rfl⟩
 obtain⟨B,hB⟩:∃ B,fd.rep=B:=⟨_,rfl⟩
 have HW:Hid (wireL rec fd ys=if B&&R then [⟨fd.num,2,0,packL fd.kind ys⟩] else ys.map (singW rec fd)):=by
  refine(?_:_=_)
  unfold wireL;rw[hR,hB]
 replace hin:∀ W,Calls Tryz.prog 109 #[.int .i64 fd.kind] W fun e w'=>e=.returned (.bool R)∧w'=W:=fun W=>by rw[←hR];exact hin W
 have c3:=q3 V (Below.refl _ _)
 have c2:=q2 V (Below.refl _ _)
 rw[hB]at c3
 have hpk:=packedP_any fd va m vc ys f V hm hml (ValsG.mv (fun b hb=>hBV.block b hb) (fun b hb=>by have hb':b<w.heap.size:=hb;have:=hBV.size;omega) hV) hr
 have HVA:=hQz hV
 have HM:=hQz hm
 have HS:=hQz hs
 clear hY hC hb hYs hV' hVb hVs hD hC2 hBV hm hV hr hs hR hB
 by_cases hBR:(B&&R)=true
 ·obtain⟨rfl,rfl⟩:B=true∧R=true:=by simpa using hBR
  rw[HW.out,if_pos hBR]
  have c0:=q0 V (Below.refl _ _)
  have c1:=q1 V (Below.refl _ _)
  have c3':=q3 V (Below.refl _ _)
  have c4:=q4 V (Below.refl _ _)
  have hrep:fd.rep=true:=by rw[c3]at c3';simpa using c3'.symm
  rw[hrep]at hpk
  clear hBR HW HVA HS s0 s1 s2 q0 q1 q2 q3 q4 c3' hrep
  go_enter Tryz.func97,Tryz.ntmps97
  go_upto_region 1 with fail
  rw[HY.out,HV.out]
  go_wp2_with fail
  refine(hin _).mono ?_
  rintro e W9 ⟨rfl,hW9⟩
  have hW9:=hW9.symm
  subst hW9
  go_wp2_with fail
  refine hpk.mono ?_
  rintro e W ⟨a,c,rfl,hbi,hbW⟩
  have hB2:=HBV.out.trans (hbW.mono HBV.out.size)
  obtain⟨A,hA,hAC,hAb,hAs⟩:=box_new W #[.int .i64 fd.num,.int .i64 2,.int .u64 0,.slice a (packL fd.kind ys).length c] 123
  have HA:=hQz hA
  have HRES:Hid (WlAns [⟨fd.num,2,0,packL fd.kind ys⟩] w (.returned (.slice (some ⟨W.heap.size,0,none⟩) 1 1)) A):=by
   refine⟨some ⟨W.heap.size,0,none⟩,1,rfl,⟨_,_,rfl,Nat.le_refl _,.inr ⟨W.heap.size,0,rfl,⟨hB2.size,by omega⟩,fun j x hj=>?_⟩⟩,hB2.trans (hAb.mono hB2.size)⟩
   have hj0:j=0:=by
    have:=(List.getElem?_eq_some_iff.1 hj).1
    simp at this;omega
   subst hj0
   have e:(⟨fd.num,2,0,packL fd.kind ys⟩:WF)=x:=by simpa using hj
   subst e
   refine⟨a,c,fun i u hu=>?_,hbi.mv (fun b hb=>hAb.block b hb.2) (fun b hb=>⟨by have:=hb.1;omega,by have:=hb.2;omega⟩)⟩
   simp only[World.cell?,hAC]
   simpa using hu
  clear hA hAC hAb hAs hB2 hbi hbW hpk c0 c1 c2 c3 c4
  go_wp2_with fail
  rw[HA.out]
  try go_wp2_with fail
  go_ret
  exact HRES.out
 rw[HW.out,if_neg hBR]
 have HGO:Hid (B=true→R=false):=by
  refine(?_:_→_)
  intro h
  cases R
  ·rfl
  ·rw[h]at hBR;exact absurd rfl hBR
 clear hpk HW hBR
 go_enter Tryz.func97,Tryz.ntmps97
 go_upto_region 1 with fail
 rw[HY.out,HV.out]
 go_cut [16] (fun v wx=>v=.bool false∧wx=V)
 case first=>
  cases B
  case false=>
   go_wp2_with fail
   go_meet
   exact⟨rfl,rfl⟩
  case true=>
   have hRf:=HGO.out rfl
   subst hRf
   go_wp2_with fail
   refine(hin _).mono ?_
   rintro e W9 ⟨rfl,hW9⟩
   have hW9:=hW9.symm
   subst hW9
   go_wp2_with fail
   go_meet
   exact⟨rfl,rfl⟩
 case rest=>
 obtain⟨rfl,hwc⟩:=hcut
 subst hwc
 clear c2 c3 hin HGO
 go_wp2_with fail
 go_loopw [7,23] (fun ov i wr=>∃ (k:Nat) (o':Value) (rs:List (List Value)),o'=ov∧i=.int .i64 (k:Int)∧k≤m∧Below wc.heap.size wc wr∧Gr WRs wr wc.heap.size 123 4 o' ((ys.take k).map (singW rec fd)) rs) (fun _ i _=>m - (intOf i).toNat)
 case atStart=>exact⟨0,_,[],rfl,rfl,Nat.zero_le _,Below.refl _ _,Gr.nil _ _ _ _ _⟩
 case round=>
  generalize wr=w1 at *
  obtain⟨k,o',rs,rfl,rfl,hk,hbel,hgr⟩:=hrel
  obtain⟨oa,oc,hov⟩:=own_slice hgr.own
  have hol:((ys.take k).map (singW rec fd)).length=k:=by rw[List.length_map,List.length_take,HM.out];omega
  rw[hol]at hov
  subst hov
  have HBE:=hQz hbel
  have HGR:=hQz hgr
  have HOL:=hQz hol
  have hBw:=HBV.out.trans (hbel.mono HBV.out.size)
  have HBW:=hQz hBw
  have hws:=hbel.size
  have HFB:Hid (∀ b,(Value.slice oa k oc).ownBlock=some b→wc.heap.size≤b∧b<w1.heap.size):=hgr.blk
  clear hgr hol
  by_cases hkn:k<m
  ·obtain⟨y,hy⟩:∃ y,ys[k]? = some y:=⟨_,List.getElem?_eq_getElem (by have:=HM.out;omega)⟩
   obtain⟨g2,o2,c2,fs2,hsl2,hg2,hcl,hheld⟩:=ValsG.at HVA.out hy
   rw[HM.out]at hsl2
   obtain⟨rfl,rfl⟩:=slice_two hsl2
   have hg2N:g2<w.heap.size:=hg2
   have hcl2:=hcl.old (hBw.block g2 hg2N)
   have y0:w1.cell? ⟨g2,o2+k,none⟩=some (ival y fs2):=by have:=hcl2 0 _ rfl;simpa [valS]using this
   have hcall:=HS.out y fs2 w1 (List.mem_of_getElem? hy) hBw (fun hk=>HeldG.mv (fun b hb=>hBw.block b hb) (fun b hb=>by have hb':b<w.heap.size:=hb;have:=hBw.size;omega) (hheld (by simp[valS,hk])))
   have HTK:=hQz (map_take_snoc (singW rec fd) hy)
   obtain⟨X,hX⟩:∃ x,singW rec fd y=x:=⟨_,rfl⟩
   rw[hX]at hcall HTK
   obtain⟨v2,hv2⟩:∃ v,ival y fs2=v:=⟨_,rfl⟩
   rw[hv2]at y0 hcall
   have hk0:(0:Int)≤(k:Int):=by omega
   have hk1:(k:Int)<(m:Int):=by omega
   have hwk:=wQz k (by omega)
   have d0:=s0 w1 hbel
   have d1:=s1 w1 hbel
   have d2:=s2 w1 hbel
   have e0:=q0 w1 hbel
   have e1:=q1 w1 hbel
   have e2:=q2 w1 hbel
   have e3:=q3 w1 hbel
   have e4:=q4 w1 hbel
   clear hsl2 hy hg2 hcl hheld hcl2 hX hv2 hBw hbel
   go_wp2_with fail
   refine hcall.mono ?_
   rintro e W5 ⟨a,c,rfl,hbi,hb5⟩
   have hW5:=hb5.size
   have HB5:=hQz hb5
   clear hcall y0 d0 d1 d2 e0 e1 e2 e3 e4
   obtain⟨xnum,xty,xn,xd⟩:=X
   dsimp only at hbi HTK ⊢
   have hGW:Gr WRs (W5.alloc (.cells #[.int .i64 xnum,.int .i64 xty,.int .u64 xn,.slice a xd.length c] 123)) wc.heap.size 123 4 (.slice oa k oc) ((ys.take k).map (singW rec fd)) rs:=Gr.keep mvsW HGR.out (fun b _ hb=>(alloc_heap_old _ _ _ (by omega)).trans (hb5.block b hb)) (by simp;omega)
   have hxr:WRs (W5.alloc (.cells #[.int .i64 xnum,.int .i64 xty,.int .u64 xn,.slice a xd.length c] 123)) (FarV (W5.alloc (.cells #[.int .i64 xnum,.int .i64 xty,.int .u64 xn,.slice a xd.length c] 123)) wc.heap.size (.slice oa k oc)) (⟨xnum,xty,xn,xd⟩:WF) [.int .i64 xnum,.int .i64 xty,.int .u64 xn,.slice a xd.length c]:=⟨a,c,rfl,hbi.mv (fun b hb=>alloc_heap_old _ _ _ hb.2) (fun b hb=>⟨by have:=hb.1;omega,by simp;have:=hb.2;omega,fun e=>by have:=HFB.out _ e;have:=hb.1;omega⟩)⟩
   have HGW:=hQz hGW
   have HXR:=hQz hxr
   have hAs:(W5.alloc (.cells #[.int .i64 xnum,.int .i64 xty,.int .u64 xn,.slice a xd.length c] 123)).heap.size=W5.heap.size+1:=by simp
   have HAN:Hid ((W5.alloc (.cells #[.int .i64 xnum,.int .i64 xty,.int .u64 xn,.slice a xd.length c] 123)).heap[W5.heap.size]? = some (.cells #[.int .i64 xnum,.int .i64 xty,.int .u64 xn,.slice a xd.length c] 123 (0,0))):=alloc_heap_new _ _
   have HOW:Hid ((W5.alloc (.cells #[.int .i64 xnum,.int .i64 xty,.int .u64 xn,.slice a xd.length c] 123)).ownsRow wc.heap.size 123 4 (.slice oa k oc) k (rs.flatMap id)):=by
    refine(?_:World.ownsRow _ _ _ _ _ _ _)
    have:=hGW.own
    rw[HOL.out]at this
    exact this
   clear hGW hxr hbi hb5
   go_wp2_with (at_builtin;refine row_pushL (T:=123) (t:=83) Tryz.underlying83 infoWF rfl (by decide) HOW.out (by rw[hAs];omega) [.int .i64 xnum,.int .i64 xty,.int .u64 xn,.slice a xd.length c] rfl (by simp[Value.oneCell']) W5.heap.size HAN.out rfl _ _ rfl rfl rfl (by unfold maxLen;omega) (by omega) ?_)
   intro g6 cap6 W6 hown6 hgr6 hat6 hlt6
   have HB6:Hid (Below wc.heap.size wc W6):=(HBE.out.trans (HB5.out.mono (by omega))).grown ((World.grownBy_alloc _ _ _).trans hgr6) (by omega) (fun b hb=>(HFB.out b hb).1)
   have HGP:Hid (Gr WRs W6 wc.heap.size 123 4 (.slice (some ⟨g6,0,none⟩) (k+1) cap6) ((ys.take (k+1)).map (singW rec fd)) (rs++[[.int .i64 xnum,.int .i64 xty,.int .u64 xn,.slice a xd.length c]])):=by
    refine(?_:Gr _ _ _ _ _ _ _ _)
    rw[HTK.out]
    exact HGW.out.push mvsW (x:=(⟨xnum,xty,xn,xd⟩:WF)) (r:=[.int .i64 xnum,.int .i64 xty,.int .u64 xn,.slice a xd.length c]) rfl HXR.out HOL.out (by rw[List.flatMap_id];exact hown6) hgr6 (by rw[hAs];exact hat6)
   clear hown6 hgr6 hat6 hlt6
   try go_wp2_with fail
   go_roundw
   case rel=>exact⟨k+1,_,_,rfl,by go_num,by omega,HB6.out,HGP.out⟩
   case measure=>simp[intOf];omega
  ·have hkn':¬(k:Int)<(m:Int):=by omega
   have hte:ys.take k=ys:=List.take_of_length_le (by have:=HM.out;omega)
   rw[hte]at HGR
   have hke:k=(ys.map (singW rec fd)).length:=by rw[List.length_map,HM.out];omega
   have HRES:Hid (WlAns (ys.map (singW rec fd)) w (.returned (.slice oa k oc)) w1):=by
    have hw:=HGR.out.wfs (fun b=>w.heap.size≤b∧b<w1.heap.size) (fun b h1 h2=>⟨by omega,h2⟩)
    rw[hke]at hw ⊢
    exact⟨oa,oc,rfl,hw,HBW.out⟩
   clear hte hke hBw hbel s0 s1 s2 q0 q1 q2 q3 q4
   go_wp2_with fail
   go_ret
   exact HRES.out
end Go.Proofs.YteajlfgbmefncaaGreatDoor
