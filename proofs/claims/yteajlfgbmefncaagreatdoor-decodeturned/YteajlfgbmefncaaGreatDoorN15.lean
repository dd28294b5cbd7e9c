/-
  Walks and plain words (EnP VkZ).
-/
import Derived.Test.YteajlfgbmefncaaGreatDoorN9
import Derived.Test.YteajlfgbmefncaaGreatDoorN11
import Derived.Test.YteajlfgbmefncaaGreatDoorN14
import Derived.Test.YteajlfgbmefncaaGreatDoorN7
import Derived.Test.YteajlfgbmefncaaGreatDoorN8
namespace Go.Proofs.YteajlfgbmefncaaGreatDoor
set_option linter.unusedVariables false
open Go.ChangeShapes Go.WideShapes Go.ChangeAt Go.RowKit

def BIn (w:World) (S:Nat→Prop) (a:Option Addr) (c:Nat) (zs:List Int):Prop:=
 zs.length≤140737488355328∧(a=none→zs.length=0∧c=0)∧(zs=[]∨∃ b off,a=some ⟨b,off,none⟩∧S b∧Held w b off zs)∧zs.length≤c∧c≤9223372036854775807
theorem BIn.isB {w:World} {S:Nat→Prop} {a:Option Addr} {c:Nat} {zs:List Int} (h:BIn w S a c zs):IsB w a zs.length zs:=
 ⟨rfl,by have:=h.1;omega,h.2.2.1.imp id fun ⟨b,off,h1,_,h2⟩=>⟨b,off,h1,h2⟩⟩
theorem BIn.mv {w w':World} {S S':Nat→Prop} {a:Option Addr} {c:Nat} {zs:List Int} (h:BIn w S a c zs) (hb:∀ b,S b→w'.heap[b]? = w.heap[b]?) (hS:∀ b,S b→S' b):BIn w' S' a c zs:=
 ⟨h.1,h.2.1,h.2.2.1.imp id fun ⟨b,off,h1,h2,h3⟩=>⟨b,off,h1,hS b h2,fun j z hj=>by rw[World.cell?_of_block (hb b h2)];exact h3.1 j z hj,h3.2⟩,h.2.2.2⟩
theorem BIn.nil (w:World) (S:Nat→Prop):BIn w S none 0 []:=⟨by simp,fun _=>⟨rfl,rfl⟩,.inl rfl,by simp,by omega⟩
theorem own_BIn {w:World} {base:Nat} {v:Value} {xs:List Int} (h:OwnB w base v xs) (hb:∀ z∈xs,0≤z∧z≤255) (hm:xs.length≤140737488355328) :
  ∃ a c,v=.slice a xs.length c∧BIn w (fun b=>base≤b∧b<w.heap.size) a c xs:=by
 obtain⟨a,c,rfl,h1,h2,h3⟩:=own_isB h hb (by omega)
 have hcm:c≤9223372036854775807:=by
  obtain⟨_,⟨h5,_⟩ | ⟨g,cap,cur,h5,_,_,_,h4,_⟩⟩:=h
  ·have:=(Value.slice.inj h5).2.2;omega
  ·have:=(Value.slice.inj h5).2.2;unfold maxLen at h4;omega
 refine⟨a,c,rfl,hm,h3,?_,h2,hcm⟩
 obtain⟨_,_,h4⟩:=h1
 rcases h4 with h4 | ⟨b,off,rfl,hh⟩
 ·exact .inl h4
 ·cases xs with
  | nil=>exact .inl rfl
  | cons z xs=>
   refine .inr ⟨b,off,rfl,⟨own_blockB h b rfl,?_⟩,hh⟩
   exact cell_ltB (hh.1 0 z rfl)
theorem ownE_BIn {w:World} {base:Nat} {v:Value} {xs:List Int} (h:OwnE w base v xs) (hb:∀ z∈xs,0≤z∧z≤255) (hm:xs.length≤140737488355328) :
  ∃ a c,v=.slice a xs.length c∧BIn w (fun b=>base≤b∧b<w.heap.size) a c xs:=by
 rcases h with h | ⟨rfl,g,rfl⟩
 ·exact own_BIn h hb hm
 ·exact⟨_,_,rfl,by simp,(fun h=>by cases h),Or.inl rfl,Nat.le_refl _,by omega⟩
theorem ownE_old {w w':World} {base:Nat} {v:Value} {xs:List Int} (h:OwnE w base v xs) (hb:Below w.heap.size w w'):OwnE w' base v xs:=h.imp (fun h=>own_old h hb) id
def WfAns (x:WF) (w:World) (e:Ending) (w':World):Prop:=∃ a c,e=.returned (.agg #[.int .i64 x.num,.int .i64 x.ty,.int .u64 x.n,.slice a x.d.length c])∧BIn w' (fun b=>w.heap.size≤b∧b<w'.heap.size) a c x.d∧Below w.heap.size w w'
theorem set4V {w:World} {B:Nat} {T:TypeId} {z0 z1 z2 z3:Value} (h:w.heap[B]? = some (.cells #[z0,z1,z2,z3] T (0,0))) (x0 x1 x2 x3:Value) :
  ∃ Y,(((w.setCell ⟨B,0,none⟩ x0).setCell ⟨B,1,none⟩ x1).setCell ⟨B,2,none⟩ x2).setCell ⟨B,3,none⟩ x3=Y∧Y.heap[B]? = some (.cells #[x0,x1,x2,x3] T (0,0))∧(∀ b,b≠B→Y.heap[b]? = w.heap[b]?)∧Y.heap.size=w.heap.size∧Below B w Y:=by
 have h1:(w.setCell ⟨B,0,none⟩ x0).heap[B]? = some (.cells #[x0,z1,z2,z3] T (0,0)):=setCell_heap h _
 have h2:((w.setCell ⟨B,0,none⟩ x0).setCell ⟨B,1,none⟩ x1).heap[B]? = some (.cells #[x0,x1,z2,z3] T (0,0)):=setCell_heap h1 _
 have h3:(((w.setCell ⟨B,0,none⟩ x0).setCell ⟨B,1,none⟩ x1).setCell ⟨B,2,none⟩ x2).heap[B]? = some (.cells #[x0,x1,x2,z3] T (0,0)):=setCell_heap h2 _
 have h4:((((w.setCell ⟨B,0,none⟩ x0).setCell ⟨B,1,none⟩ x1).setCell ⟨B,2,none⟩ x2).setCell ⟨B,3,none⟩ x3).heap[B]? = some (.cells #[x0,x1,x2,x3] T (0,0)):=setCell_heap h3 _
 refine⟨_,rfl,h4,fun b hb=>?_,by simp,(((((Below.refl B w).setCell (p:=⟨B,0,none⟩) (Nat.le_refl _) x0).setCell (p:=⟨B,1,none⟩) (Nat.le_refl _) x1).setCell (p:=⟨B,2,none⟩) (Nat.le_refl _) x2).setCell (p:=⟨B,3,none⟩) (Nat.le_refl _) x3)⟩
 rw[Below.heap_setCell _ _ _ _ hb,Below.heap_setCell _ _ _ _ hb,Below.heap_setCell _ _ _ _ hb,Below.heap_setCell _ _ _ _ hb]
theorem nbytes_ok (k n:Int):∀ z∈nbytes k n,0≤z∧z≤255:=by
 unfold nbytes
 repeat' split
 ·exact lob_bytes _ _
 ·exact lob_bytes _ _
 ·exact vint_bytes _
theorem pack_ok (k:Int) (vs:List Nd):∀ z∈packL k vs,0≤z∧z≤255:=by
 intro z hz
 unfold packL at hz
 obtain⟨y,_,h⟩:=List.mem_flatMap.1 hz
 exact nbytes_ok _ _ z h
theorem pack_step {k:Int} {ys:List Nd} {j:Nat} {y:Nd} (h:ys[j]? = some y):packL k (ys.take (j+1))=packL k (ys.take j)++nbytes k (numP k y):=by
 rw[show ys.take (j+1)=ys.take j++[y] from take_snoc h]
 unfold packL
 simp
theorem pack_take {k:Int} {ys:List Nd} {j:Nat} (h:∀ y∈ys,Rg1 y) (hl:ys.length≤100000):(packL k (ys.take j)).length≤1000000:=by
 have h1:=pack_len k (ys.take j) (fun y hy=>h y (List.mem_of_mem_take hy))
 have h2:∀ l:List Nd,sumL (fun _=>10) l=10*l.length:=by
  intro l
  induction l with
  | nil=>rfl
  | cons a l ih=>rw[sumL,ih,List.length_cons];omega
 rw[h2,List.length_take]at h1
 omega
set_option maxHeartbeats 16000000 in
set_option maxRecDepth 20000 in
theorem packedP_any (fd:FD) (va:Option Addr) (m vc:Nat) (ys:List Nd) (f:Nat) (w:World) (hm:ys.length=m) (hml:m≤100000) (hV:ValsG valS w (fun b=>b<w.heap.size) f (.slice va m vc) ys) (hr:∀ y∈ys,Rg1 y) :
  Calls Tryz.prog 110 #[.agg #[.int .i64 fd.num,.string (mkB fd.name),.int .i64 fd.kind,.bool fd.rep,.int .i64 fd.type],.slice va m vc] w fun e w'=>WfAns ⟨fd.num,2,0,packL fd.kind ys⟩ w e w':=by
 obtain⟨Y,hY,hC,hb,hYs⟩:=box_new w #[.int .i64 fd.num,.string (mkB fd.name),.int .i64 fd.kind,.bool fd.rep,.int .i64 fd.type] 51
 obtain⟨V,hV',hD,hVb,hVs⟩:=box_new Y #[.int .i64 0,.int .i64 0,.int .u64 0,.slice none 0 0] 123
 have HY:=hQz hY
 have HV:=hQz hV'
 rw[hYs]at hD
 have hC2:=(hVb.block _ (by omega)).trans hC
 have hBV:=hb.trans (hVb.mono hb.size)
 have HBV:=hQz hBV
 have HDV:=hQz hD
 have hVl:w.heap.size+2=V.heap.size:=by omega
 have HM:=hQz hm
 have HVA:=hQz hV
 have HRG:=hQz hr
 have s2:∀ W,Below V.heap.size V W→W.cell? ⟨w.heap.size,2,none⟩=some (.int .i64 fd.kind):=fun W hW=>(hW.cell (by simp;omega)).trans (cell_at hC2 2 rfl)
 have s0:∀ W,Below V.heap.size V W→W.cell? ⟨w.heap.size,0,none⟩=some (.int .i64 fd.num):=fun W hW=>(hW.cell (by simp;omega)).trans (cell_at hC2 0 rfl)
 clear hY hC hb hYs hV' hVb hVs hD hC2 hBV hm hV hr
 go_enter Tryz.func110,Tryz.ntmps110
 go_upto_region 1 with fail
 rw[HY.out,HV.out]
 go_wp2_with fail
 go_loopw [5,10] (fun d i wr=>∃ (k:Nat) (dv:Value),dv=d∧i=.int .i64 (k:Int)∧k≤m∧OwnE wr V.heap.size d (packL fd.kind (ys.take k))∧Below V.heap.size V wr) (fun _ i _=>m - (intOf i).toNat)
 case atStart=>exact⟨0,_,rfl,rfl,Nat.zero_le _,.inl (own_nil _ _),Below.refl _ _⟩
 case round=>
  generalize wr=w1 at *
  obtain⟨k,dv,rfl,rfl,hk,hown,hbel⟩:=hrel
  have HOW:=hQz hown
  have HBE:=hQz hbel
  have hws:=hbel.size
  have hBw:=HBV.out.trans (hbel.mono (by omega))
  have HBW:=hQz hBw
  have HLN:Hid ((packL fd.kind (ys.take k)).length≤1000000):=pack_take HRG.out (by have:=HM.out;omega)
  clear hown
  by_cases hkn:k<m
  ·obtain⟨y,hy⟩:∃ y,ys[k]? = some y:=⟨_,List.getElem?_eq_getElem (by have:=HM.out;omega)⟩
   obtain⟨g2,o2,c2,fs2,hsl2,hg2,hcl,_⟩:=ValsG.at HVA.out hy
   rw[HM.out]at hsl2
   obtain⟨rfl,rfl⟩:=slice_two hsl2
   have hg2N:g2<w.heap.size:=hg2
   have hcl2:=hcl.old (hBw.block g2 hg2N)
   have y0:w1.cell? ⟨g2,o2+k,none⟩=some (ival y fs2):=by have:=hcl2 0 _ rfl;simpa [valS]using this
   have hyr:=HRG.out y (List.mem_of_getElem? hy)
   have hnr:=num_rg fd.kind hyr
   have hnum:=fun W=>numberP_any fd.kind y fs2 W hyr
   have HST:=hQz (pack_step (k:=fd.kind) hy)
   obtain⟨v2,hv2⟩:∃ v,ival y fs2=v:=⟨_,rfl⟩
   rw[hv2]at y0 hnum
   obtain⟨N,hN⟩:∃ n,numP fd.kind y=n:=⟨_,rfl⟩
   rw[hN]at hnum hnr HST
   have hk0:(0:Int)≤(k:Int):=by omega
   have hk1:(k:Int)<(m:Int):=by omega
   have hwk:=wQz k (by omega)
   have hnb:=fun W=>nbytes_any fd.kind N W hnr.1 hnr.2
   have HNO:=hQz (nbytes_ok fd.kind N)
   have HNL:Hid ((nbytes fd.kind N).length≤10):=nby_len _ _ hnr.2
   clear hsl2 hy hg2 hcl hcl2 hyr hv2 hN hBw
   go_upto_region 5 with fail
   have hS0:Below V.heap.size V w1.drew:=hbel.drew
   have HOD:Hid (OwnE w1.drew V.heap.size dv (packL fd.kind (ys.take k))):=ownE_old HOW.out (Below.refl _ _).drew
   clear hbel
   refine wp_region_held_drew (S:=fun W=>Below V.heap.size V W) (by kernel_rfl) hS0 (fun _=>?_)
   refine T_on 0 dv rfl (by kernel_rfl) (fun _ _ _ h=>h) hS0 (fun W hW=>by go_simp) ?_
   refine T_on 1 (.pointer (some ⟨w.heap.size,2,none⟩)) rfl (by kernel_rfl) (fun _ _ _ h=>h) hS0 (fun W hW=>by go_simp) ?_
   refine T_on 2 (.int .i64 fd.kind) rfl (by kernel_rfl) (fun _ _ _ h=>h) hS0 (fun W hW=>by have c:=s2 W hW;go_simp) ?_
   refine T_on 3 (.pointer (some ⟨w.heap.size,2,none⟩)) rfl (by kernel_rfl) (fun _ _ _ h=>h) hS0 (fun W hW=>by go_simp) ?_
   refine T_on 4 (.int .i64 fd.kind) rfl (by kernel_rfl) (fun _ _ _ h=>h) hS0 (fun W hW=>by have c:=s2 W hW;go_simp) ?_
   refine T_on 5 v2 rfl (by kernel_rfl) (fun _ _ _ h=>h) hS0 (fun W hW=>by go_simp) ?_
   refine T_call 6 (by kernel_rfl) rfl (fun K hK=>?_)
   go_simp
   refine(hnum _).mono ?_
   rintro e W9 ⟨rfl,hW9⟩
   have hW9:=hW9.symm
   subst hW9
   dsimp only
   refine hK.out _ _ hS0 (fun _=>?_)
   clear hK K
   refine T_call 7 (by kernel_rfl) rfl (fun K hK=>?_)
   go_simp
   refine(hnb _).mono ?_
   rintro e W9 ⟨rfl,hW9⟩
   have hBk:Below w1.drew.heap.size w1.drew W9:=by rw[hW9];exact blk_below _ _ _
   have hS1:=hS0.trans (hBk.mono hS0.size)
   have hO9:OwnB W9 w1.drew.heap.size (.slice (some ⟨w1.drew.heap.size,0,none⟩) (nbytes fd.kind N).length (nbytes fd.kind N).length) (nbytes fd.kind N):=by rw[hW9];exact own_blk _ _ (by have:=HNL.out;unfold maxLen;omega)
   have HO9:Hid (OwnE W9 V.heap.size dv (packL fd.kind (ys.take k))):=ownE_old HOD.out hBk
   obtain⟨ab,cb,hab,hI9,_,hno9⟩:=own_isB hO9 HNO.out (by have:=HNL.out;omega)
   have HI9:=hQz hI9
   have HN9:=hQz hno9
   rw[hab]
   clear hW9 hBk hS0 hO9 hab hI9 hno9 HOD
   dsimp only
   refine hK.out _ _ hS1 (fun _=>?_)
   clear hK K
   refine T_call 8 (by kernel_rfl) rfl (fun K hK=>?_)
   refine stepE_append rfl (.tmp 14) (.tmp 21) rfl V.heap.size dv (packL fd.kind (ys.take k)) rfl HO9.out ab (nbytes fd.kind N).length cb (nbytes fd.kind N) rfl HI9.out HN9.out (by have:=HLN.out;have:=HNL.out;omega) hS1.size ?_
   intro v3 w3 hown3 hb3
   have hS2:Below V.heap.size V w3:=hS1.trans hb3
   rw[←HST.out]at hown3
   have HO3:=hQz hown3
   clear hS1 hb3 hown3
   refine hK.out _ _ hS2 (fun _=>?_)
   clear hK K
   refine T_on 9 v3 rfl (by kernel_rfl) (fun _ _ _ h=>h) hS2 (fun W hW=>by go_simp) ?_
   refine wpAnyH_done (by kernel_rfl) ?_ _
   have HS2:=hQz hS2
   clear hS2
   go_simp
   go_wp2_with fail
   go_roundw
   case rel=>exact⟨k+1,_,rfl,by go_num,by omega,HO3.out,HS2.out⟩
   case measure=>simp[intOf];omega
  ·have hkn':¬(k:Int)<(m:Int):=by omega
   have hte:ys.take k=ys:=List.take_of_length_le (by have:=HM.out;omega)
   rw[hte]at HOW HLN
   obtain⟨ab,cb,rfl,hbi⟩:=ownE_BIn HOW.out (pack_ok _ _) (by have:=HLN.out;omega)
   have HBI:=hQz hbi
   have hDX:=(hbel.block (w.heap.size+1) (by omega)).trans HDV.out
   have c0:=s0 w1 hbel
   have k0:=cell_at hDX 0 rfl
   have kf0:w1.frozen? ⟨w.heap.size+1,0,none⟩=false:=frz_at hDX 0
   have k1:=cell_at hDX 1 rfl
   have kf1:w1.frozen? ⟨w.heap.size+1,1,none⟩=false:=frz_at hDX 1
   have k2:=cell_at hDX 2 rfl
   have kf2:w1.frozen? ⟨w.heap.size+1,2,none⟩=false:=frz_at hDX 2
   have k3:=cell_at hDX 3 rfl
   have kf3:w1.frozen? ⟨w.heap.size+1,3,none⟩=false:=frz_at hDX 3
   obtain⟨Q,hQ,hQc,hQo,hQs,hQb⟩:=set4V hDX (.int .i64 fd.num) (.int .i64 2) (.int .u64 0) (.slice ab (packL fd.kind ys).length cb)
   have HQ:=hQz hQ
   have HBQ:=hQz (HBW.out.trans (hQb.mono (show w.heap.size≤w.heap.size+1 by omega)))
   have HQC:=hQz hQc
   have HBI2:Hid (BIn Q (fun b=>w.heap.size≤b∧b<Q.heap.size) ab cb (packL fd.kind ys)):=hbi.mv (fun b hb=>hQo b (by have:=hb.1;omega)) (fun b hb=>⟨by have:=hb.1;omega,by rw[hQs];exact hb.2⟩)
   clear hQ hQc hQb hQo hQs hDX hbi hte hBw hbel s0 s2
   go_wp2_with fail
   rw[HQ.out]
   have r0:=cell_at HQC.out 0 rfl
   have r1:=cell_at HQC.out 1 rfl
   have r2:=cell_at HQC.out 2 rfl
   have r3:=cell_at HQC.out 3 rfl
   refine bodyPost_ret (v:=.agg #[.int .i64 fd.num,.int .i64 2,.int .u64 0,.slice ab (packL fd.kind ys).length cb]) (by simp[results,Tryz.results110,go_sem,r0,r1,r2,r3]) rfl ?_
   exact⟨ab,cb,rfl,HBI2.out,HBQ.out⟩
set_option maxHeartbeats 4000000 in
set_option maxRecDepth 20000 in
theorem defn1_any (fd:FD) (cp:Nat) (num:Int) (w:World) (hc:w.cell? ⟨cp,0,none⟩=some (.int .i64 num)) :
  Calls Tryz.prog 113 #[.agg #[.int .i64 fd.num,.string (mkB fd.name),.int .i64 fd.kind,.bool fd.rep,.int .i64 fd.type],.pointer (some ⟨cp,0,none⟩)] w fun e w'=>e=.returned (.bool (decide (fd.num=num)))∧Below w.heap.size w w':=by
 have hlc:=cell_ltB hc
 obtain⟨Y,hY,hC,hb,hYs⟩:=box_new w #[.int .i64 fd.num,.string (mkB fd.name),.int .i64 fd.kind,.bool fd.rep,.int .i64 fd.type] 51
 have HY:=hQz hY
 have HB:=hQz hb
 have c0:=cell_at hC 0 rfl
 have c1:Y.cell? ⟨cp,0,none⟩=some (.int .i64 num):=(hb.cell (by simpa using hlc)).trans hc
 obtain⟨R,hR⟩:∃ R,decide (fd.num=num)=R:=⟨_,rfl⟩
 rw[hR]
 have hR2:(fd.num == num)=R:=by rw[←hR];rfl
 clear hY hC hb hYs hc hR
 go_enter Tryz.func113,Tryz.ntmps113
 go_upto_region 1 with fail
 rw[HY.out]
 go_wp2_with fail
 go_ret
 exact⟨rfl,HB.out⟩
set_option maxHeartbeats 8000000 in
set_option maxRecDepth 20000 in
theorem indexD_any (fa:Option Addr) (n fc:Nat) (fs:List FD) (cp:Nat) (num:Int) (at':Nat) (fd:FD) (w:World) (hc:w.cell? ⟨cp,0,none⟩=some (.int .i64 num)) (hn:fs.length=n) (hl:n≤100000) (hH:RowsIn w (fun b=>b<w.heap.size) 5 fdrow (.slice fa n fc) fs) (hf:isFirst fs num at' fd) :
  Calls Tryz.prog 112 #[.slice fa n fc,.func (.func 113) #[] #[.pointer (some ⟨cp,0,none⟩)]] w fun e w'=>e=.returned (.int .i64 (at':Int))∧Below w.heap.size w w':=by
 have hlc:=cell_ltB hc
 have HC:=hQz hc
 have HN:=hQz hn
 have HH:=hQz hH
 have HF:=hQz hf
 have hat:at'<n:=by have:=(List.getElem?_eq_some_iff.1 hf.1).1;omega
 clear hc hn hH hf
 go_enter Tryz.func112,Tryz.ntmps112
 go_wp2_with fail
 go_loopw [8] (fun i wr=>∃ j:Nat,i=.int .i64 (j:Int)∧j≤at'∧Below w.heap.size w wr) (fun i _=>n - (intOf i).toNat)
 case atStart=>exact⟨0,rfl,by omega,Below.refl _ _⟩
 case round=>
  generalize wr=w1 at *
  obtain⟨j,rfl,hj,hbq⟩:=hrel
  have HBQ:=hQz hbq
  have hsw:=hbq.size
  obtain⟨y,hy⟩:∃ y,fs[j]? = some y:=⟨_,List.getElem?_eq_getElem (by have:=HN.out;omega)⟩
  obtain⟨g,oo,c0,hsl,hg,e0,e1,e2,e3,e4⟩:=fd_at HH.out (W:=w1) (fun b hb=>HBQ.out.block b hb) hy
  rw[HN.out]at hsl
  obtain⟨rfl,rfl⟩:=slice_two hsl
  have hk0:(0:Int)≤(j:Int):=by omega
  have hk1:(j:Int)<(n:Int):=by omega
  have hwq:=wQz j (by omega)
  have hCall:=defn1_any y cp num w1 ((hbq.cell (by simpa using hlc)).trans HC.out)
  obtain⟨b,hb⟩:∃ b,decide (y.num=num)=b:=⟨_,rfl⟩
  rw[hb]at hCall
  have HBT:Hid (b=true→j=at'):=by
   refine(?_:_→_)
   intro h
   rw[h]at hb
   rcases Nat.lt_or_ge j at' with h1 | h1
   ·exact absurd (of_decide_eq_true hb) (HF.out.2.2 j y h1 hy)
   ·omega
  have HBF:Hid (b=false→j≠at'):=by
   refine(?_:_→_)
   intro h e
   rw[h]at hb
   subst e
   have e2:y=fd:=by have:=HF.out.1;rw[hy]at this;exact Option.some.inj this
   subst e2
   exact absurd HF.out.2.1 (of_decide_eq_false hb)
  clear hsl hy hb hbq
  go_wp2_with fail
  refine hCall.mono ?_
  rintro e Z ⟨rfl,hbZ⟩
  have HBZ:=hQz (HBQ.out.trans (hbZ.mono hsw))
  clear hCall hbZ e0 e1 e2 e3 e4
  cases b with
  | true=>
   have hje:=HBT.out rfl
   go_wp2_with fail
   go_ret
   exact⟨rfl,HBZ.out⟩
  | false=>
   have hjn:=HBF.out rfl
   go_wp2_with fail
   go_roundw
   case rel=>exact⟨j+1,by go_num,by omega,HBZ.out⟩
   case measure=>simp[intOf];omega
set_option maxHeartbeats 8000000 in
set_option maxRecDepth 20000 in
theorem defn_any (nm:List UInt8) (fa:Option Addr) (n fc:Nat) (fs:List FD) (num:Int) (fd:FD) (w:World) (hn:fs.length=n) (hl:n≤100000) (hH:RowsIn w (fun b=>b<w.heap.size) 5 fdrow (.slice fa n fc) fs) (hf:firstF fs num=some fd) :
  Calls Tryz.prog 98 #[.agg #[.string (mkB nm),.slice fa n fc],.int .i64 num] w fun e w'=>e=.returned (.agg #[.int .i64 fd.num,.string (mkB fd.name),.int .i64 fd.kind,.bool fd.rep,.int .i64 fd.type])∧Below w.heap.size w w':=by
 obtain⟨at',hfi⟩:=isFirst_of hf
 have hat:at'<n:=by have:=(List.getElem?_eq_some_iff.1 hfi.1).1;omega
 obtain⟨Y,hY,hC,hb,hYs⟩:=box_new w #[.string (mkB nm),.slice fa n fc] 54
 obtain⟨U,hU,hE,hUb,hUs⟩:=box_new Y #[.int .i64 num] 3
 obtain⟨V,hV',hD,hVb,hVs⟩:=box_new U #[.int .i64 0,.string ⟨#[]⟩,.int .i64 0,.bool false,.int .i64 0] 51
 have HY:=hQz hY
 have HU:=hQz hU
 have HV:=hQz hV'
 rw[hUs,hYs]at hD
 rw[hYs]at hE
 have hE2:=(hVb.block _ (by omega)).trans hE
 have hC2:=(hVb.block _ (by omega)).trans ((hUb.block _ (by omega)).trans hC)
 have hBV:=hb.trans ((hUb.trans (hVb.mono hUb.size)).mono hb.size)
 have HBV:=hQz hBV
 have HDV:=hQz hD
 have HCV:=hQz hC2
 have d1:=cell_at hC2 1 rfl
 have hix:=indexD_any fa n fc fs (w.heap.size+1) num at' fd V (cell_at hE2 0 rfl) hn hl ((RowsIn.old hH fun b h=>hBV.block b h).more fun b h=>by have:=hBV.size;omega) hfi
 obtain⟨g,oo,c0,hsl,hg,e0,e1,e2,e3,e4⟩:=fd_at hH (W:=w) (fun b hb=>rfl) hfi.1
 rw[hn]at hsl
 obtain⟨rfl,rfl⟩:=slice_two hsl
 have hgN:g<w.heap.size:=hg
 have hVl:w.heap.size+3=V.heap.size:=by omega
 have hk0:(0:Int)≤(at':Int):=by omega
 have hk1:(at':Int)<(n:Int):=by omega
 clear hC hY hb hYs hU hUb hUs hE hV' hVb hVs hD hE2 hC2 hBV hH hsl hg hf hfi hn
 go_enter Tryz.func98,Tryz.ntmps98
 go_upto_region 1 with fail
 rw[HY.out,HU.out,HV.out]
 go_wp2_with fail
 refine hix.mono ?_
 rintro e W ⟨rfl,hbW⟩
 have hW:=HBV.out.trans (hbW.mono HBV.out.size)
 have HBW:=hQz hW
 have hDX:=(hbW.block (w.heap.size+2) (by omega)).trans HDV.out
 have q1:W.cell? ⟨w.heap.size,1,none⟩=some (.slice (some ⟨g,oo,none⟩) n fc):=cell_at ((hbW.block _ (by omega)).trans HCV.out) 1 rfl
 have g0:W.cell? ⟨g,oo+at'*5,none⟩=some (.int .i64 fd.num):=(hW.cell (by simpa using hgN)).trans e0
 have g1:W.cell? ⟨g,oo+at'*5+1,none⟩=some (.string (mkB fd.name)):=(hW.cell (by simpa using hgN)).trans e1
 have g2:W.cell? ⟨g,oo+at'*5+2,none⟩=some (.int .i64 fd.kind):=(hW.cell (by simpa using hgN)).trans e2
 have g3:W.cell? ⟨g,oo+at'*5+3,none⟩=some (.bool fd.rep):=(hW.cell (by simpa using hgN)).trans e3
 have g4:W.cell? ⟨g,oo+at'*5+4,none⟩=some (.int .i64 fd.type):=(hW.cell (by simpa using hgN)).trans e4
 have k0:=cell_at hDX 0 rfl
 have kf0:W.frozen? ⟨w.heap.size+2,0,none⟩=false:=frz_at hDX 0
 have k1:=cell_at hDX 1 rfl
 have kf1:W.frozen? ⟨w.heap.size+2,1,none⟩=false:=frz_at hDX 1
 have k2:=cell_at hDX 2 rfl
 have kf2:W.frozen? ⟨w.heap.size+2,2,none⟩=false:=frz_at hDX 2
 have k3:=cell_at hDX 3 rfl
 have kf3:W.frozen? ⟨w.heap.size+2,3,none⟩=false:=frz_at hDX 3
 have k4:=cell_at hDX 4 rfl
 have kf4:W.frozen? ⟨w.heap.size+2,4,none⟩=false:=frz_at hDX 4
 obtain⟨Q,hQ,hQc,hQo,hQs,hQb⟩:=set5_all hDX (.int .i64 fd.num) (.string (mkB fd.name)) (.int .i64 fd.kind) (.bool fd.rep) (.int .i64 fd.type)
 have HQ:=hQz hQ
 have HBQ:=hQz (HBW.out.trans (hQb.mono (show w.heap.size≤w.heap.size+2 by omega)))
 have HQC:=hQz hQc
 clear hQ hQc hQb hQo hQs hDX hbW hW hix d1 e0 e1 e2 e3 e4
 go_wp2_with fail
 rw[HQ.out]
 have r0:=cell_at HQC.out 0 rfl
 have r1:=cell_at HQC.out 1 rfl
 have r2:=cell_at HQC.out 2 rfl
 have r3:=cell_at HQC.out 3 rfl
 have r4:=cell_at HQC.out 4 rfl
 refine bodyPost_ret (v:=.agg #[.int .i64 fd.num,.string (mkB fd.name),.int .i64 fd.kind,.bool fd.rep,.int .i64 fd.type]) (by simp[results,Tryz.results98,go_sem,r0,r1,r2,r3,r4]) rfl ?_
 exact⟨rfl,HBQ.out⟩
theorem notEmpty {s:List UInt8} (h:¬s=[]):(mkB s).toList.isEmpty=false:=by
 rw[mkB_list]
 cases s with
 | nil=>exact absurd rfl h
 | cons a t=>rfl
theorem isEmptyN:(mkB []).toList.isEmpty=true:=by rw[mkB_list];rfl
set_option maxHeartbeats 8000000 in
set_option maxRecDepth 20000 in
theorem zeroR_any (zk zn zu:Int) (zb:Bool) (zs:List UInt8) (zt:Int) (zf:List (Int × List Nd)) (la:Option Addr) (ln lc:Nat) (w:World):Calls Tryz.prog 41 #[.agg #[.int .i64 zk,.int .i64 zn,.int .u64 zu,.bool zb,.string (mkB zs),.int .i64 zt,.slice la ln lc]] w fun e w'=>e=.returned (.bool (zeroR ⟨zk,zn,zu,zb,zs,zt,zf⟩))∧Below w.heap.size w w':=by
 obtain⟨R,hR⟩:∃ R,zeroR ⟨zk,zn,zu,zb,zs,zt,zf⟩=R:=⟨_,rfl⟩
 have HR:Hid ((decide (zk≠7)&&(decide (zn=0)&&(decide (zu=0)&&(!zb&&decide (zs=[])))))=R):=hR
 rw[hR]
 clear hR
 obtain⟨Y,hY,hC,hb,hYs⟩:=box_new w #[.int .i64 zk,.int .i64 zn,.int .u64 zu,.bool zb,.string (mkB zs),.int .i64 zt,.slice la ln lc] 38
 have HY:=hQz hY
 have HB:=hQz hb
 have c0:=cell_at hC 0 rfl
 have c1:=cell_at hC 1 rfl
 have c2:=cell_at hC 2 rfl
 have c3:=cell_at hC 3 rfl
 have c4:=cell_at hC 4 rfl
 clear hY hC hb hYs
 by_cases h0:zk=7
 ·subst h0
  have e:R=false:=by rw[←HR.out];simp
  subst e
  go_enter Tryz.func41,Tryz.ntmps41
  go_upto_region 1 with fail
  rw[HY.out]
  go_wp2_with fail
  go_ret
  exact⟨rfl,HB.out⟩
 have h0':(zk != 7)=true:=by simp[h0]
 by_cases h1:zn=0
 case neg=>
  have e:R=false:=by rw[←HR.out];simp[h1]
  subst e
  have h1':(zn == 0)=false:=by simp[h1]
  clear h0
  go_enter Tryz.func41,Tryz.ntmps41
  go_upto_region 1 with fail
  rw[HY.out]
  go_wp2_with fail
  go_ret
  exact⟨rfl,HB.out⟩
 subst h1
 by_cases h2:zu=0
 case neg=>
  have e:R=false:=by rw[←HR.out];simp[h2]
  subst e
  have h2':(zu == 0)=false:=by simp[h2]
  clear h0
  go_enter Tryz.func41,Tryz.ntmps41
  go_upto_region 1 with fail
  rw[HY.out]
  go_wp2_with fail
  go_ret
  exact⟨rfl,HB.out⟩
 subst h2
 cases zb
 case true=>
  have e:R=false:=by rw[←HR.out];simp
  subst e
  clear h0
  go_enter Tryz.func41,Tryz.ntmps41
  go_upto_region 1 with fail
  rw[HY.out]
  go_wp2_with fail
  go_ret
  exact⟨rfl,HB.out⟩
 by_cases h4:zs=[]
 ·subst h4
  have e:R=true:=by rw[←HR.out];simp[h0]
  subst e
  have h4':=isEmptyN
  clear h0
  go_enter Tryz.func41,Tryz.ntmps41
  go_upto_region 1 with fail
  rw[HY.out]
  go_wp2_with fail
  go_ret
  exact⟨rfl,HB.out⟩
 have e:R=false:=by rw[←HR.out];simp[h4]
 subst e
 have h4':=notEmpty h4
 clear h0
 go_enter Tryz.func41,Tryz.ntmps41
 go_upto_region 1 with fail
 rw[HY.out]
 go_wp2_with fail
 go_ret
 exact⟨rfl,HB.out⟩
set_option maxHeartbeats 8000000 in
set_option maxRecDepth 20000 in
theorem byDef_any (y:Nd) (fs:Value) (w:World):Calls Tryz.prog 59 #[ival y fs] w fun e w'=>e=.returned (.bool (defP y))∧w'=w:=by
 have t1:=fun W=>taInt y fs W
 have t2:=fun W=>taUint y fs W
 have t3:=fun W=>taBool y fs W
 have t4:=fun W=>taText y fs W
 have t5:=fun W=>taBytes y fs W
 have t6:=fun W=>taEnum y fs W
 obtain⟨v,hv⟩:∃ v,ival y fs=v:=⟨_,rfl⟩
 rw[hv]at t1 t2 t3 t4 t5 t6 ⊢
 clear hv
 obtain⟨kind,n,u,b,s,type,fields⟩:=y
 dsimp only at t1 t2 t3 t4 t5 t6
 obtain⟨R,hR⟩:∃ R,defP ⟨kind,n,u,b,s,type,fields⟩=R:=⟨_,rfl⟩
 have HR:Hid ((if kind=1 then decide (n=0) else if kind=2 then decide (u=0) else if kind=3 then !b else if kind=4∨kind=5 then decide (s=[]) else if kind=6 then decide (IntKind.i32.wrap n=0) else false)=R):=hR
 rw[hR]
 clear hR
 by_cases h1:kind=1
 ·subst h1
  rw[if_pos rfl,decide_eq_true rfl]at t1
  clear t2 t3 t4 t5 t6
  by_cases hz:n=0
  ·subst hz
   have e:R=true:=by rw[←HR.out];simp
   subst e
   go_enter Tryz.func59,Tryz.ntmps59
   go_wp2_with fail
   go_ret
   exact⟨rfl,rfl⟩
  ·have e:R=false:=by rw[←HR.out];simp[hz]
   subst e
   have hz':(n == 0)=false:=by simp[hz]
   go_enter Tryz.func59,Tryz.ntmps59
   go_wp2_with fail
   go_ret
   exact⟨rfl,rfl⟩
 by_cases h2:kind=2
 ·subst h2
  rw[if_neg (by decide),decide_eq_false (by decide)]at t1
  rw[if_pos rfl,decide_eq_true rfl]at t2
  clear t3 t4 t5 t6
  by_cases hz:u=0
  ·subst hz
   have e:R=true:=by rw[←HR.out];simp
   subst e
   go_enter Tryz.func59,Tryz.ntmps59
   go_wp2_with fail
   go_ret
   exact⟨rfl,rfl⟩
  ·have e:R=false:=by rw[←HR.out];simp[hz]
   subst e
   have hz':(u == 0)=false:=by simp[hz]
   go_enter Tryz.func59,Tryz.ntmps59
   go_wp2_with fail
   go_ret
   exact⟨rfl,rfl⟩
 by_cases h3:kind=3
 ·subst h3
  rw[if_neg (by decide),decide_eq_false (by decide)]at t1
  rw[if_neg (by decide),decide_eq_false (by decide)]at t2
  rw[if_pos rfl,decide_eq_true rfl]at t3
  clear t4 t5 t6
  have e:R=!b:=by rw[←HR.out];simp
  subst e
  go_enter Tryz.func59,Tryz.ntmps59
  go_wp2_with fail
  go_ret
  exact⟨rfl,rfl⟩
 by_cases h4:kind=4
 ·subst h4
  rw[if_neg (by decide),decide_eq_false (by decide)]at t1
  rw[if_neg (by decide),decide_eq_false (by decide)]at t2
  rw[if_neg (by decide),decide_eq_false (by decide)]at t3
  rw[if_pos rfl,decide_eq_true rfl]at t4
  clear t5 t6
  by_cases hz:s=[]
  ·subst hz
   have e:R=true:=by rw[←HR.out];simp
   subst e
   have hz':=isEmptyN
   go_enter Tryz.func59,Tryz.ntmps59
   go_wp2_with fail
   go_ret
   exact⟨rfl,rfl⟩
  ·have e:R=false:=by rw[←HR.out];simp[hz]
   subst e
   have hz':=notEmpty hz
   go_enter Tryz.func59,Tryz.ntmps59
   go_wp2_with fail
   go_ret
   exact⟨rfl,rfl⟩
 by_cases h5:kind=5
 ·subst h5
  rw[if_neg (by decide),decide_eq_false (by decide)]at t1
  rw[if_neg (by decide),decide_eq_false (by decide)]at t2
  rw[if_neg (by decide),decide_eq_false (by decide)]at t3
  rw[if_neg (by decide),decide_eq_false (by decide)]at t4
  rw[if_pos rfl,decide_eq_true rfl]at t5
  clear t6
  by_cases hz:s=[]
  ·subst hz
   have e:R=true:=by rw[←HR.out];simp
   subst e
   have hz':=isEmptyN
   go_enter Tryz.func59,Tryz.ntmps59
   go_wp2_with fail
   go_ret
   exact⟨rfl,rfl⟩
  ·have e:R=false:=by rw[←HR.out];simp[hz]
   subst e
   have hz':=notEmpty hz
   go_enter Tryz.func59,Tryz.ntmps59
   go_wp2_with fail
   go_ret
   exact⟨rfl,rfl⟩
 by_cases h6:kind=6
 ·subst h6
  rw[if_neg (by decide),decide_eq_false (by decide)]at t1
  rw[if_neg (by decide),decide_eq_false (by decide)]at t2
  rw[if_neg (by decide),decide_eq_false (by decide)]at t3
  rw[if_neg (by decide),decide_eq_false (by decide)]at t4
  rw[if_neg (by decide),decide_eq_false (by decide)]at t5
  rw[if_pos rfl,decide_eq_true rfl]at t6
  obtain⟨E,hE⟩:∃ E,IntKind.i32.wrap n=E:=⟨_,rfl⟩
  rw[hE]at t6 HR
  clear hE
  by_cases hz:E=0
  ·subst hz
   have e:R=true:=by rw[←HR.out];simp
   subst e
   go_enter Tryz.func59,Tryz.ntmps59
   go_wp2_with fail
   go_ret
   exact⟨rfl,rfl⟩
  ·have e:R=false:=by rw[←HR.out];simp[hz]
   subst e
   have hz':(E == 0)=false:=by simp[hz]
   go_enter Tryz.func59,Tryz.ntmps59
   go_wp2_with fail
   go_ret
   exact⟨rfl,rfl⟩
 have e:R=false:=by rw[←HR.out];simp[h1,h2,h3,h4,h5,h6]
 subst e
 rw[if_neg h1,show decide (kind=1)=false from decide_eq_false h1]at t1
 rw[if_neg h2,show decide (kind=2)=false from decide_eq_false h2]at t2
 rw[if_neg h3,show decide (kind=3)=false from decide_eq_false h3]at t3
 rw[if_neg h4,show decide (kind=4)=false from decide_eq_false h4]at t4
 rw[if_neg h5,show decide (kind=5)=false from decide_eq_false h5]at t5
 rw[if_neg h6,show decide (kind=6)=false from decide_eq_false h6]at t6
 go_enter Tryz.func59,Tryz.ntmps59
 go_wp2_with fail
 go_ret
 exact⟨rfl,rfl⟩
end Go.Proofs.YteajlfgbmefncaaGreatDoor
