/-
  Walks and plain words (VhT).
-/
import Derived.Test.YteajlfgbmefncaaGreatDoorN16
import Derived.Deep.RegionHeldLaw
namespace Go.Proofs.YteajlfgbmefncaaGreatDoor
set_option linter.unusedVariables false
open Go.ChangeShapes Go.WideShapes Go.ChangeAt Go.RowKit

def TheirAns (f:Nat) (w:World) (x:Nd) (e:Ending) (w':World):Prop:=∃ v,e=.returned v∧HeldV w' (fun b=>w.heap.size≤b∧b<w'.heap.size) f v x∧Below w.heap.size w w'
set_option maxHeartbeats 64000000 in
set_option maxRecDepth 20000 in
theorem theirsN_any:∀ (f:Nat) (x:Nd) (fs:Value) (w:World),FitG 100000 10000 f x→HeldG rawS w (fun b=>b<w.heap.size) f fs x.fields→
  Calls Tryz.prog 13 #[.agg #[.int .i64 x.kind,.int .i64 x.n,.int .u64 x.u,.bool x.b,.string (mkB x.s),.int .i64 x.type,fs]] w fun e w'=>TheirAns f w x e w':=by
 intro f
 induction f using Nat.strongRecOn with
 | _ f ih=>
 intro x fs w hfit hHG
 obtain⟨xa,xc,rfl⟩:=HeldG.isSl hHG
 obtain⟨xkind,xn,xu,xb,xs,xt,fl⟩:=x
 dsimp only at hHG ⊢
 obtain⟨n,hn⟩:∃ n,fl.length=n:=⟨_,rfl⟩
 have HN:=hQz hn
 rw[hn]at hHG ⊢
 have HHG:=hQz hHG
 have HFIT:=hQz hfit
 have HIH:=hQz ih
 obtain⟨Y,hY,hC,hb,hYs⟩:=box_new w #[.int .i64 xkind,.int .i64 xn,.int .u64 xu,.bool xb,.string (mkB xs),.int .i64 xt,.slice xa n xc] 38
 have HY:=hQz hY
 have HBY:=hQz hb
 have c0:=cell_at hC 0 rfl
 have c1:=cell_at hC 1 rfl
 have c2:=cell_at hC 2 rfl
 have c3:=cell_at hC 3 rfl
 have c4:=cell_at hC 4 rfl
 have c5:=cell_at hC 5 rfl
 have c6:=cell_at hC 6 rfl
 have HEND:Hid (∀ v,xkind≠7→v=ival ⟨xkind,xn,xu,xb,xs,xt,fl⟩ .nilFunc→TheirAns f w ⟨xkind,xn,xu,xb,xs,xt,fl⟩ (.returned v) Y):=fun v h7 hv=>⟨v,rfl,⟨.nilFunc,hv,fun h=>absurd h h7⟩,HBY.out⟩
 clear hn hHG hfit ih hY hb
 by_cases h1:xkind=1
 ·subst h1
  clear hC hYs HIH
  go_enter Tryz.func13,Tryz.ntmps13
  go_upto_region 1 with fail
  rw[HY.out]
  go_wp2_with fail
  go_ret
  exact HEND.out _ (by decide) rfl
 by_cases h2:xkind=2
 ·subst h2
  clear hC hYs HIH
  go_enter Tryz.func13,Tryz.ntmps13
  go_upto_region 1 with fail
  rw[HY.out]
  go_wp2_with fail
  go_ret
  exact HEND.out _ (by decide) rfl
 by_cases h3:xkind=3
 ·subst h3
  clear hC hYs HIH
  go_enter Tryz.func13,Tryz.ntmps13
  go_upto_region 1 with fail
  rw[HY.out]
  go_wp2_with fail
  go_ret
  exact HEND.out _ (by decide) rfl
 by_cases h4:xkind=4
 ·subst h4
  clear hC hYs HIH
  go_enter Tryz.func13,Tryz.ntmps13
  go_upto_region 1 with fail
  rw[HY.out]
  go_wp2_with fail
  go_ret
  exact HEND.out _ (by decide) rfl
 by_cases h5:xkind=5
 ·subst h5
  clear hC hYs HIH
  go_enter Tryz.func13,Tryz.ntmps13
  go_upto_region 1 with fail
  rw[HY.out]
  go_wp2_with fail
  go_ret
  exact HEND.out _ (by decide) rfl
 by_cases h6:xkind=6
 ·subst h6
  clear hC hYs HIH
  go_enter Tryz.func13,Tryz.ntmps13
  go_upto_region 1 with fail
  rw[HY.out]
  go_wp2_with fail
  go_ret
  exact HEND.out _ (by decide) (by show Value.iface _ (.int .i32 (wrap32 xn))=Value.iface _ (.int .i32 (IntKind.i32.wrap xn));rw[IntKind.wrap_i32];simp only[wrap32])
 by_cases h7:xkind=7
 case neg=>
  clear hC hYs HIH
  go_enter Tryz.func13,Tryz.ntmps13
  go_upto_region 1 with fail
  rw[HY.out]
  go_wp2_with fail
  go_ret
  refine HEND.out _ h7 ?_
  unfold ival
  simp[h1,h2,h3,h4,h5,h6,h7]
 subst h7
 clear h1 h2 h3 h4 h5 h6 HEND
 obtain⟨V,hV,hD,hVb,hVs⟩:=box_new Y #[.int .i64 xt,.slice none 0 0,.string (mkB xs)] 76
 have HV:=hQz hV
 rw[hYs]at hD
 have HBV:=hQz (HBY.out.trans (hVb.mono HBY.out.size))
 have HCV:Hid (V.heap[w.heap.size]? = some (.cells #[.int .i64 7,.int .i64 xn,.int .u64 xu,.bool xb,.string (mkB xs),.int .i64 xt,.slice xa n xc] 38 (0,0))):=(hVb.block _ (by omega)).trans hC
 have HDV:Hid (V.heap[w.heap.size+1]? = some (.cells #[.int .i64 xt,.slice none 0 0,.string (mkB xs)] 76 (0,0))):=hD
 have hVl:w.heap.size+2≤V.heap.size:=by omega
 have v6:=cell_at HCV.out 6 rfl
 have HYS:=hQz hYs
 clear hC hYs hV hD hVb hVs
 go_enter Tryz.func13,Tryz.ntmps13
 go_upto_region 1 with fail
 rw[HY.out]
 go_upto_region 16 with fail
 rw[HV.out,HYS.out]
 clear c0 c1 c2 c3 c4 c5 c6
 go_wp2_with fail
 clear v6
 go_loopw [50] (fun i wr=>∃ (j:Nat) (fv:Value) (rs:List (List Value)),i=.int .i64 (j:Int)∧j≤n∧Below (w.heap.size+1) V wr∧w.heap.size+2≤wr.heap.size∧wr.heap[w.heap.size+1]? = some (.cells #[.int .i64 xt,fv,.string (mkB xs)] 76 (0,0))∧Gr (FRs valS (f - 1)) wr (w.heap.size+2) 79 2 fv (fl.take j) rs) (fun i _=>n - (intOf i).toNat)
 case atStart=>exact⟨0,_,[],rfl,Nat.zero_le _,Below.refl _ _,hVl,HDV.out,Gr.nil _ _ _ _ _⟩
 case round=>
  generalize wr=w1 at *
  obtain⟨j,fv,rs,rfl,hj,hbel,hws,hbx,hgr⟩:=hrel
  obtain⟨fva,fvc,hfv⟩:=own_slice hgr.own
  have hfvl:(fl.take j).length=j:=by rw[List.length_take,HN.out];omega
  rw[hfvl]at hfv
  subst hfv
  have HBE:=hQz hbel
  have HBX:=hQz hbx
  have HGR:=hQz hgr
  have hBw:=HBV.out.trans (hbel.mono (by omega))
  have HBW:=hQz hBw
  have hA1:=(hbel.block _ (by omega)).trans HCV.out
  have HA1:=hQz hA1
  have HFVL:=hQz hfvl
  have HFB:Hid (∀ b,(Value.slice fva j fvc).ownBlock=some b→w.heap.size+2≤b∧b<w1.heap.size):=hgr.blk
  clear hbel hbx hgr hfvl HDV
  by_cases hjn:j<n
  ·obtain⟨y,hy⟩:∃ y,fl[j]? = some y:=⟨_,List.getElem?_eq_getElem (by have:=HN.out;omega)⟩
   obtain⟨f',g,go,gc,va,vc,hf',hsl,hg,e0,e1,hvals⟩:=HeldG.at HHG.out (W:=w1) (fun b hb=>hBw.block b hb) hy
   subst hf'
   rw[HN.out]at hsl
   obtain⟨rfl,rfl⟩:=slice_two hsl
   have HTK:Hid (fl.take (j+1)=fl.take j++[y]):=take_snoc hy
   obtain⟨hfl1,hfl2⟩:=HFIT.out.2.2 y (List.mem_of_getElem? hy)
   have hn1:n≤10000:=by have h1:=HFIT.out.2.1;have h2:=HN.out;dsimp only at h1;omega
   obtain⟨ynum,ys⟩:=y
   dsimp only at hvals e0 e1 hfl1 hfl2
   obtain⟨mv,hmv⟩:∃ n,ys.length=n:=⟨_,rfl⟩
   have HMV:=hQz hmv
   rw[hmv]at e1 hvals hfl1
   have HFL2:=hQz hfl2
   have HVA:=hQz hvals
   have hj0:(0:Int)≤(j:Int):=by omega
   have hj1:(j:Int)<(n:Int):=by omega
   have hwq:=wQz j (by omega)
   have a6:=cell_at hA1 6 rfl
   have hgN:g<w.heap.size:=hg
   clear hsl hy hvals hmv hfl2 hBw hA1 hg
   have hC:(w1.alloc (.cells #[.int .i64 ynum,.slice none 0 0] 79)).heap[w1.heap.size]? = some (.cells #[.int .i64 ynum,.slice none 0 0] 79 (0,0)):=alloc_heap_new _ _
   have hCb:Below w1.heap.size w1 (w1.alloc (.cells #[.int .i64 ynum,.slice none 0 0] 79)):=(Below.refl _ w1).alloc (Nat.le_refl _) _
   go_upto_region 20 with fail
   generalize (w1.alloc (.cells #[.int .i64 ynum,.slice none 0 0] 79))=X at *
   have HBX1:=hQz hCb
   have HCX:=hQz hC
   have hXs:w1.heap.size+1≤X.heap.size:=by have:=(Array.getElem?_eq_some_iff.1 hC).1;omega
   have x6:X.cell? ⟨w.heap.size,6,none⟩=some (.slice (some ⟨g,go,none⟩) n xc):=(hCb.cell (by simp;omega)).trans a6
   have x1:X.cell? ⟨g,go+j*2+1,none⟩=some (.slice va mv vc):=(hCb.cell (by simp;omega)).trans e1
   have HE1:=hQz e1
   have HA6:=hQz a6
   clear hC hCb a6 e0 e1
   go_wp2_with fail
   clear x6 x1
   go_loopw [67] (fun i wr=>∃ (q:Nat) (vv:Value) (rs2:List (List Value)),i=.int .i64 (q:Int)∧q≤mv∧Below w1.heap.size w1 wr∧w1.heap.size+1≤wr.heap.size∧wr.heap[w1.heap.size]? = some (.cells #[.int .i64 ynum,vv] 79 (0,0))∧Gr (VRs valS f') wr (w1.heap.size+1) 31 1 vv (ys.take q) rs2) (fun i _=>mv - (intOf i).toNat)
   case atStart=>exact⟨0,_,[],rfl,Nat.zero_le _,HBX1.out,hXs,HCX.out,Gr.nil _ _ _ _ _⟩
   case round=>
    generalize wr=w2 at *
    obtain⟨q,vv,rs2,rfl,hq,hbel,hws2,hbx,hgr⟩:=hrel
    obtain⟨vva,vvc,hvv⟩:=own_slice hgr.own
    have hql:(ys.take q).length=q:=by rw[List.length_take,HMV.out];omega
    rw[hql]at hvv
    subst hvv
    have HB2:=hQz hbel
    have HX2:=hQz hbx
    have HG2:=hQz hgr
    have hBw2:=HBW.out.trans (hbel.mono HBW.out.size)
    have HQL:=hQz hql
    have HVB:Hid (∀ b,(Value.slice vva q vvc).ownBlock=some b→w1.heap.size+1≤b∧b<w2.heap.size):=hgr.blk
    have z6:w2.cell? ⟨w.heap.size,6,none⟩=some (.slice (some ⟨g,go,none⟩) n xc):=(hbel.cell (by simp;omega)).trans HA6.out
    have z1:w2.cell? ⟨g,go+j*2+1,none⟩=some (.slice va mv vc):=(hbel.cell (by simp;omega)).trans HE1.out
    have zf:=cell_at hbx 1 rfl
    clear hbel hbx hgr hql HCX HBX1
    by_cases hqn:q<mv
    ·obtain⟨c,hc⟩:∃ c,ys[q]? = some c:=⟨_,List.getElem?_eq_getElem (by have:=HMV.out;omega)⟩
     obtain⟨g2,o2,c2,fs2,hsl2,hg2,hcl,hheld⟩:=ValsG.at HVA.out hc
     rw[HMV.out]at hsl2
     obtain⟨rfl,rfl⟩:=slice_two hsl2
     have hg2N:g2<w.heap.size:=hg2
     have HTK2:Hid (ys.take (q+1)=ys.take q++[c]):=take_snoc hc
     have hcl2:=hcl.old (hBw2.block g2 hg2N)
     have hfitc:=HFL2.out c (List.mem_of_getElem? hc)
     obtain⟨sa,sc,rfl⟩:∃ sa sc,fs2=.slice sa c.fields.length sc:=HeldG.isSl (hheld rfl)
     have y0:w2.cell? ⟨g2,o2+q*7,none⟩=some (.int .i64 c.kind):=by have:=hcl2 0 _ rfl;simpa [rawS]using this
     have y1:w2.cell? ⟨g2,o2+q*7+1,none⟩=some (.int .i64 c.n):=by have:=hcl2 1 _ rfl;simpa [rawS]using this
     have y2:w2.cell? ⟨g2,o2+q*7+2,none⟩=some (.int .u64 c.u):=by have:=hcl2 2 _ rfl;simpa [rawS]using this
     have y3:w2.cell? ⟨g2,o2+q*7+3,none⟩=some (.bool c.b):=by have:=hcl2 3 _ rfl;simpa [rawS]using this
     have y4:w2.cell? ⟨g2,o2+q*7+4,none⟩=some (.string (mkB c.s)):=by have:=hcl2 4 _ rfl;simpa [rawS]using this
     have y5:w2.cell? ⟨g2,o2+q*7+5,none⟩=some (.int .i64 c.type):=by have:=hcl2 5 _ rfl;simpa [rawS]using this
     have y6:w2.cell? ⟨g2,o2+q*7+6,none⟩=some (.slice sa c.fields.length sc):=by have:=hcl2 6 _ rfl;simpa [rawS]using this
     have hcall:∀ W,Below w2.heap.size w2 W→Calls Tryz.prog 13 #[.agg #[.int .i64 c.kind,.int .i64 c.n,.int .u64 c.u,.bool c.b,.string (mkB c.s),.int .i64 c.type,.slice sa c.fields.length sc]] W fun e w'=>TheirAns f' W c e w':=fun W hW=>HIH.out f' (by omega) c (.slice sa c.fields.length sc) W hfitc (HeldG.mv (fun b hb=>(hBw2.trans (hW.mono hBw2.size)).block b hb) (fun b hb=>by have hb':b<w.heap.size:=hb;have:=(hBw2.trans (hW.mono hBw2.size)).size;omega) (hheld rfl))
     have hq0:(0:Int)≤(q:Int):=by omega
     have hq1:(q:Int)<(mv:Int):=by omega
     have hwq2:=wQz q (by omega)
     have HFC:Hid (∀ W:World,Below w2.heap.size w2 W→W.cell? ⟨w.heap.size,6,none⟩=some (.slice (some ⟨g,go,none⟩) n xc)∧W.cell? ⟨g,go+j*2+1,none⟩=some (.slice (some ⟨g2,o2,none⟩) mv vc)∧W.cell? ⟨w1.heap.size,1,none⟩=some (.slice vva q vvc)∧W.cell? ⟨g2,o2+q*7,none⟩=some (.int .i64 c.kind)∧W.cell? ⟨g2,o2+q*7+1,none⟩=some (.int .i64 c.n)∧W.cell? ⟨g2,o2+q*7+2,none⟩=some (.int .u64 c.u)∧W.cell? ⟨g2,o2+q*7+3,none⟩=some (.bool c.b)∧W.cell? ⟨g2,o2+q*7+4,none⟩=some (.string (mkB c.s))∧W.cell? ⟨g2,o2+q*7+5,none⟩=some (.int .i64 c.type)∧W.cell? ⟨g2,o2+q*7+6,none⟩=some (.slice sa c.fields.length sc)):=by
      refine(?_:∀ W,_→_)
      intro W hW
      exact⟨(hW.cell (by simp;omega)).trans z6,(hW.cell (by simp;omega)).trans z1,(hW.cell (by simp;omega)).trans zf,(hW.cell (by simp;omega)).trans y0,(hW.cell (by simp;omega)).trans y1,(hW.cell (by simp;omega)).trans y2,(hW.cell (by simp;omega)).trans y3,(hW.cell (by simp;omega)).trans y4,(hW.cell (by simp;omega)).trans y5,(hW.cell (by simp;omega)).trans y6⟩
     clear hsl2 hc hg2 hcl hheld hcl2 hfitc hBw2 y0 y1 y2 y3 y4 y5 y6 zf z6 z1
     go_upto_region 23 with fail
     have hsp0:w2.drew.heap[w1.heap.size]? = some (.cells #[.int .i64 ynum,.slice vva q vvc] 79 (0,0)):=HX2.out
     have hsy0:Below w2.heap.size w2 w2.drew:=(Below.refl _ _).drew
     have HFS:Hid (∀ W:World,(∀ b,b<w1.heap.size→W.heap[b]? = w2.heap[b]?)∧W.heap[w1.heap.size]? = some (.cells #[.int .i64 ynum,.slice vva q vvc] 79 (0,0))→W.cell? ⟨w.heap.size,6,none⟩=some (.slice (some ⟨g,go,none⟩) n xc)∧W.cell? ⟨g,go+j*2+1,none⟩=some (.slice (some ⟨g2,o2,none⟩) mv vc)∧W.cell? ⟨w1.heap.size,1,none⟩=some (.slice vva q vvc)∧W.cell? ⟨g2,o2+q*7,none⟩=some (.int .i64 c.kind)∧W.cell? ⟨g2,o2+q*7+1,none⟩=some (.int .i64 c.n)∧W.cell? ⟨g2,o2+q*7+2,none⟩=some (.int .u64 c.u)∧W.cell? ⟨g2,o2+q*7+3,none⟩=some (.bool c.b)∧W.cell? ⟨g2,o2+q*7+4,none⟩=some (.string (mkB c.s))∧W.cell? ⟨g2,o2+q*7+5,none⟩=some (.int .i64 c.type)∧W.cell? ⟨g2,o2+q*7+6,none⟩=some (.slice sa c.fields.length sc)):=by
      refine(?_:∀ W,_→_)
      rintro W ⟨hW,hF⟩
      obtain⟨t0,t1,t2,t3,t4,t5,t6,t7,t8,t9⟩:=HFC.out w2 (Below.refl _ _)
      exact⟨(World.cell?_of_block (hW _ (by show w.heap.size < _;omega))).trans t0,(World.cell?_of_block (hW _ (by show g < _;omega))).trans t1,cell_at hF 1 rfl,(World.cell?_of_block (hW _ (by show g2 < _;omega))).trans t3,(World.cell?_of_block (hW _ (by show g2 < _;omega))).trans t4,(World.cell?_of_block (hW _ (by show g2 < _;omega))).trans t5,(World.cell?_of_block (hW _ (by show g2 < _;omega))).trans t6,(World.cell?_of_block (hW _ (by show g2 < _;omega))).trans t7,(World.cell?_of_block (hW _ (by show g2 < _;omega))).trans t8,(World.cell?_of_block (hW _ (by show g2 < _;omega))).trans t9⟩
     have hy0:∀ b,b<w1.heap.size→w2.drew.heap[b]? = w2.heap[b]?:=fun b hb=>rfl
     refine region_G 15 (fun W=>∀ b,b<w1.heap.size→W.heap[b]? = w2.heap[b]?) (fun W=>W.heap[w1.heap.size]? = some (.cells #[.int .i64 ynum,.slice vva q vvc] 79 (0,0))) (by kernel_rfl) ?_
     refine G_take (i:=0) (v:=.pointer (some ⟨w1.heap.size,1,none⟩)) [13,1,0] rfl (by kernel_rfl) (fun _ _ _ h=>h) (.inl ⟨by kernel_rfl,fun W hW=>by go_simp⟩) ⟨hy0,fun _=>hsp0⟩ ?_
     refine G_take (i:=1) (v:=.slice vva q vvc) [13,1] rfl (by kernel_rfl) (fun _ _ _ h=>h) (.inl ⟨by kernel_rfl,fun W hW=>by obtain⟨t0,t1,t2,t3,t4,t5,t6,t7,t8,t9⟩:=HFS.out W hW;go_simp⟩) ⟨hy0,fun _=>hsp0⟩ ?_
     refine G_take (i:=2) (v:=.pointer (some ⟨w.heap.size,6,none⟩)) [13,12,11,10,9,7,6,5,3,2] rfl (by kernel_rfl) (fun _ _ _ h=>h) (.inl ⟨by kernel_rfl,fun W hW=>by go_simp⟩) ⟨hy0,fun _=>hsp0⟩ ?_
     refine G_take (i:=3) (v:=.slice (some ⟨g,go,none⟩) n xc) [13,12,11,10,9,7,6,5,3] rfl (by kernel_rfl) (fun _ _ _ h=>h) (.inl ⟨by kernel_rfl,fun W hW=>by obtain⟨t0,t1,t2,t3,t4,t5,t6,t7,t8,t9⟩:=HFS.out W hW;go_simp⟩) ⟨hy0,fun _=>hsp0⟩ ?_
     refine G_take (i:=4) (v:=.int .i64 (j:Int)) [13,12,11,10,9,7,6,5,4] rfl (by kernel_rfl) (fun _ _ _ h=>h) (.inl ⟨by kernel_rfl,fun W hW=>by go_simp⟩) ⟨hy0,fun _=>hsp0⟩ ?_
     refine G_take (i:=5) (v:=.pointer (some ⟨g,go+j*2,none⟩)) [13,12,11,10,9,7,6,5] rfl (by kernel_rfl) (fun _ _ _ h=>h) (.inl ⟨by kernel_rfl,fun W hW=>by go_simp⟩) ⟨hy0,fun _=>hsp0⟩ ?_
     refine G_take (i:=6) (v:=.pointer (some ⟨g,go+j*2+1,none⟩)) [13,12,11,10,9,7,6] rfl (by kernel_rfl) (fun _ _ _ h=>h) (.inl ⟨by kernel_rfl,fun W hW=>by go_simp⟩) ⟨hy0,fun _=>hsp0⟩ ?_
     refine G_take (i:=7) (v:=.slice (some ⟨g2,o2,none⟩) mv vc) [13,12,11,10,9,7] rfl (by kernel_rfl) (fun _ _ _ h=>h) (.inl ⟨by kernel_rfl,fun W hW=>by obtain⟨t0,t1,t2,t3,t4,t5,t6,t7,t8,t9⟩:=HFS.out W hW;go_simp⟩) ⟨hy0,fun _=>hsp0⟩ ?_
     refine G_take (i:=8) (v:=.int .i64 (q:Int)) [13,12,11,10,9,8] rfl (by kernel_rfl) (fun _ _ _ h=>h) (.inl ⟨by kernel_rfl,fun W hW=>by go_simp⟩) ⟨hy0,fun _=>hsp0⟩ ?_
     refine G_take (i:=9) (v:=.pointer (some ⟨g2,o2+q*7,none⟩)) [13,12,11,10,9] rfl (by kernel_rfl) (fun _ _ _ h=>h) (.inl ⟨by kernel_rfl,fun W hW=>by go_simp⟩) ⟨hy0,fun _=>hsp0⟩ ?_
     refine G_take (i:=10) (v:=.agg #[.int .i64 c.kind,.int .i64 c.n,.int .u64 c.u,.bool c.b,.string (mkB c.s),.int .i64 c.type,.slice sa c.fields.length sc]) [13,12,11,10] rfl (by kernel_rfl) (fun _ _ _ h=>h) (.inl ⟨by kernel_rfl,fun W hW=>by obtain⟨t0,t1,t2,t3,t4,t5,t6,t7,t8,t9⟩:=HFS.out W hW;go_simp⟩) ⟨hy0,fun _=>hsp0⟩ ?_
     refine G_one (i:=11) (by kernel_rfl) rfl (fun K hK=>?_)
     go_simp
     refine(hcall _ hsy0).mono ?_
     rintro e5 W5 ⟨v5,rfl,hv5,hb5⟩
     have hb5':Below w2.heap.size w2 W5:=hsy0.trans hb5
     have hy5:∀ b,b<w1.heap.size→W5.heap[b]? = w2.heap[b]?:=fun b hb=>hb5'.block b (by omega)
     have hp5:W5.heap[w1.heap.size]? = some (.cells #[.int .i64 ynum,.slice vva q vvc] 79 (0,0)):=(hb5'.block _ (by omega)).trans HX2.out
     have h5s:=hb5'.size
     have HG5:=hQz (HG2.out.keep (mvsV valS f') (w':=W5) (fun b _ hb=>hb5'.block b hb) h5s)
     dsimp only
     refine hK.out _ _ ⟨hy5,fun _=>hp5⟩ ?_
     clear hK K
     rcases(val_form hv5)with rfl | ⟨U5,u5,rfl⟩
     ·refine G_one (i:=12) (by kernel_rfl) rfl (fun K hK=>?_)
      go_simp
      refine hK.out _ _ ⟨fun b hb=>(alloc_heap_old _ _ _ (by omega)).trans (hy5 b hb),fun _=>(alloc_heap_old _ _ _ (by omega)).trans hp5⟩ ?_
      clear hK K
      refine G_one (i:=13) (by kernel_rfl) rfl (fun K hK=>?_)
      refine vpushS (T:=31) Tryz.underlying77 infoVV rfl (by decide) ((by have:=HG5.out.own;rw[HQL.out]at this;exact this:W5.ownsRow (w1.heap.size+1) 31 1 (.slice vva q vvc) q (rs2.flatMap id)).alloc _) (by simp;omega) [Value.nilIface] rfl (by intro u hu;have e:u=Value.nilIface:=(by simpa using hu);subst e;obtain⟨fsx,hvx,_⟩:=hv5;rw[hvx];exact ival_one _ _) W5.heap.size (alloc_heap_new _ _) rfl _ _ rfl rfl rfl (by unfold maxLen;omega) (by omega) ?_
      intro g6 cap6 W6 hown6 hgr6 hat6 hlt6
      have hgrA:W5.grownBy W6 (Value.slice vva q vvc).ownBlock:=((World.grownBy_alloc _ _ _).trans hgr6)
      have hp6:W6.heap[w1.heap.size]? = some (.cells #[.int .i64 ynum,.slice vva q vvc] 79 (0,0)):=((hgrA.block _ (by omega) (fun e=>by have:=HVB.out _ e.symm;omega)).trans hp5)
      have hy6:∀ b,b<w1.heap.size→W6.heap[b]? = w2.heap[b]?:=fun b hb=>((hgrA.block _ (by omega) (fun e=>by have:=HVB.out _ e.symm;omega)).trans (hy5 b hb))
      have c61:=cell_at hp6 1 rfl
      have f61:W6.frozen? ⟨w1.heap.size,1,none⟩=false:=frz_at hp6 1
      refine hK.out _ _ ⟨hy6,fun _=>hp6⟩ ?_
      clear hK K
      refine G_take (i:=14) (v:=.pointer (some ⟨w1.heap.size,1,none⟩)) [14] rfl (by kernel_rfl) (fun _ _ _ h=>h) (.inl ⟨by kernel_rfl,fun W hW=>by go_simp⟩) ⟨hy6,fun _=>hp6⟩ ?_
      refine G_one (i:=15) (by kernel_rfl) rfl (fun K hK=>?_)
      go_simp
      refine hK.out _ _ ⟨fun b hb=>(Below.heap_setCell _ _ _ _ (by show b≠w1.heap.size;omega)).trans (hy6 b hb),fun h=>(by cases h)⟩ ?_
      clear hK K
      refine G_done (by kernel_rfl) ?_ _
      all_goals
       have hGA:Gr (VRs valS f') (W5.alloc (.cells #[Value.nilIface] 31)) (w1.heap.size+1) 31 1 (.slice vva q vvc) (ys.take q) rs2:=HG5.out.keep (mvsV valS f') (fun b _ hb=>alloc_heap_old _ _ _ hb) (by simp)
       have hxr:VRs valS f' (W5.alloc (.cells #[Value.nilIface] 31)) (FarV (W5.alloc (.cells #[Value.nilIface] 31)) (w1.heap.size+1) (.slice vva q vvc)) c [Value.nilIface]:=by
        obtain⟨fsx,hvx,hhx⟩:=(hv5.mv (fun b hb=>alloc_heap_old _ _ _ hb.2) (fun b hb=>(⟨by have h1:w2.heap.size≤b:=hb.1;omega,by simp;have:=hb.2;omega,fun e=>by have:=HVB.out _ e;have h1:w2.heap.size≤b:=hb.1;omega⟩:FarV (W5.alloc (.cells #[Value.nilIface] 31)) (w1.heap.size+1) (.slice vva q vvc) b)))
        exact⟨fsx,by rw[hvx];rfl,fun hk=>hhx (by simpa [valS]using hk)⟩
       have HGP:=hQz (hGA.push (mvsV valS f') (x:=c) (r:=[Value.nilIface]) rfl hxr HQL.out hown6 hgr6 hat6)
       have hgb:g6=(W5.alloc (.cells #[Value.nilIface] 31)).heap.size∨w1.heap.size+1≤g6:=by
        rcases hat6 with h | h
        ·exact .inr (HVB.out _ h).1
        ·exact .inl h
       have hg6:w1.heap.size+1≤g6:=by
        rcases hgb with h | h
        ·rw[h];simp;omega
        ·exact h
       obtain⟨Q,hQ⟩:∃ Q,W6.setCell ⟨w1.heap.size,1,none⟩ (.slice (some ⟨g6,0,none⟩) (q+1) cap6)=Q:=⟨_,rfl⟩
       have hQp:Q.heap[w1.heap.size]? = some (.cells #[.int .i64 ynum,.slice (some ⟨g6,0,none⟩) (q+1) cap6] 79 (0,0)):=by rw[←hQ,setCell_heap hp6];rfl
       have hQo:∀ b,b≠w1.heap.size→Q.heap[b]? = W6.heap[b]?:=fun b hb=>by rw[←hQ];exact Below.heap_setCell _ _ _ _ hb
       have hQs:Q.heap.size=W6.heap.size:=by rw[←hQ];simp
       have hB6:Below w1.heap.size w2 W6:=(hb5'.mono (by omega)).grown hgrA (by omega) (fun b hb=>by have:=(HVB.out b hb).1;omega)
       have hQb:Below w1.heap.size w2 Q:=by rw[←hQ];exact hB6.setCell (p:=⟨w1.heap.size,1,none⟩) (Nat.le_refl _) _
       have HQ:=hQz hQ
       have HQP:=hQz hQp
       have HQB:=hQz (HB2.out.trans hQb)
       have h3s:w1.heap.size+1≤Q.heap.size:=by have:=hgrA.size;omega
       have HGQ:Hid (Gr (VRs valS f') Q (w1.heap.size+1) 31 1 (.slice (some ⟨g6,0,none⟩) (q+1) cap6) (ys.take q++[c]) (rs2++[[Value.nilIface]])):=HGP.out.keep (mvsV valS f') (fun b hb _=>hQo b (by omega)) (by omega)
       clear hQ hQp hQo hQs hQb hB6 hown6 hgr6 hgrA hat6 hb5 hb5' hy5 hp5 hp6 hy6 hsy0 hsp0 hy0 hGA hxr hgb hv5
       try go_wp2_with fail
       rw[HQ.out]
       clear c61 f61
       try go_wp2_with fail
       go_roundw
       case rel=>exact⟨q+1,_,_,by go_num,by omega,HQB.out,h3s,HQP.out,by rw[HTK2.out];exact HGQ.out⟩
       case measure=>simp[intOf];omega
     ·refine G_one (i:=12) (by kernel_rfl) rfl (fun K hK=>?_)
      go_simp
      refine hK.out _ _ ⟨fun b hb=>(alloc_heap_old _ _ _ (by omega)).trans (hy5 b hb),fun _=>(alloc_heap_old _ _ _ (by omega)).trans hp5⟩ ?_
      clear hK K
      refine G_one (i:=13) (by kernel_rfl) rfl (fun K hK=>?_)
      refine vpushS (T:=31) Tryz.underlying77 infoVV rfl (by decide) ((by have:=HG5.out.own;rw[HQL.out]at this;exact this:W5.ownsRow (w1.heap.size+1) 31 1 (.slice vva q vvc) q (rs2.flatMap id)).alloc _) (by simp;omega) [(Value.iface U5 u5)] rfl (by intro u hu;have e:u=(Value.iface U5 u5):=(by simpa using hu);subst e;obtain⟨fsx,hvx,_⟩:=hv5;rw[hvx];exact ival_one _ _) W5.heap.size (alloc_heap_new _ _) rfl _ _ rfl rfl rfl (by unfold maxLen;omega) (by omega) ?_
      intro g6 cap6 W6 hown6 hgr6 hat6 hlt6
      have hgrA:W5.grownBy W6 (Value.slice vva q vvc).ownBlock:=((World.grownBy_alloc _ _ _).trans hgr6)
      have hp6:W6.heap[w1.heap.size]? = some (.cells #[.int .i64 ynum,.slice vva q vvc] 79 (0,0)):=((hgrA.block _ (by omega) (fun e=>by have:=HVB.out _ e.symm;omega)).trans hp5)
      have hy6:∀ b,b<w1.heap.size→W6.heap[b]? = w2.heap[b]?:=fun b hb=>((hgrA.block _ (by omega) (fun e=>by have:=HVB.out _ e.symm;omega)).trans (hy5 b hb))
      have c61:=cell_at hp6 1 rfl
      have f61:W6.frozen? ⟨w1.heap.size,1,none⟩=false:=frz_at hp6 1
      refine hK.out _ _ ⟨hy6,fun _=>hp6⟩ ?_
      clear hK K
      refine G_take (i:=14) (v:=.pointer (some ⟨w1.heap.size,1,none⟩)) [14] rfl (by kernel_rfl) (fun _ _ _ h=>h) (.inl ⟨by kernel_rfl,fun W hW=>by go_simp⟩) ⟨hy6,fun _=>hp6⟩ ?_
      refine G_one (i:=15) (by kernel_rfl) rfl (fun K hK=>?_)
      go_simp
      refine hK.out _ _ ⟨fun b hb=>(Below.heap_setCell _ _ _ _ (by show b≠w1.heap.size;omega)).trans (hy6 b hb),fun h=>(by cases h)⟩ ?_
      clear hK K
      refine G_done (by kernel_rfl) ?_ _
      all_goals
       have hGA:Gr (VRs valS f') (W5.alloc (.cells #[(Value.iface U5 u5)] 31)) (w1.heap.size+1) 31 1 (.slice vva q vvc) (ys.take q) rs2:=HG5.out.keep (mvsV valS f') (fun b _ hb=>alloc_heap_old _ _ _ hb) (by simp)
       have hxr:VRs valS f' (W5.alloc (.cells #[(Value.iface U5 u5)] 31)) (FarV (W5.alloc (.cells #[(Value.iface U5 u5)] 31)) (w1.heap.size+1) (.slice vva q vvc)) c [(Value.iface U5 u5)]:=by
        obtain⟨fsx,hvx,hhx⟩:=(hv5.mv (fun b hb=>alloc_heap_old _ _ _ hb.2) (fun b hb=>(⟨by have h1:w2.heap.size≤b:=hb.1;omega,by simp;have:=hb.2;omega,fun e=>by have:=HVB.out _ e;have h1:w2.heap.size≤b:=hb.1;omega⟩:FarV (W5.alloc (.cells #[(Value.iface U5 u5)] 31)) (w1.heap.size+1) (.slice vva q vvc) b)))
        exact⟨fsx,by rw[hvx];rfl,fun hk=>hhx (by simpa [valS]using hk)⟩
       have HGP:=hQz (hGA.push (mvsV valS f') (x:=c) (r:=[(Value.iface U5 u5)]) rfl hxr HQL.out hown6 hgr6 hat6)
       have hgb:g6=(W5.alloc (.cells #[(Value.iface U5 u5)] 31)).heap.size∨w1.heap.size+1≤g6:=by
        rcases hat6 with h | h
        ·exact .inr (HVB.out _ h).1
        ·exact .inl h
       have hg6:w1.heap.size+1≤g6:=by
        rcases hgb with h | h
        ·rw[h];simp;omega
        ·exact h
       obtain⟨Q,hQ⟩:∃ Q,W6.setCell ⟨w1.heap.size,1,none⟩ (.slice (some ⟨g6,0,none⟩) (q+1) cap6)=Q:=⟨_,rfl⟩
       have hQp:Q.heap[w1.heap.size]? = some (.cells #[.int .i64 ynum,.slice (some ⟨g6,0,none⟩) (q+1) cap6] 79 (0,0)):=by rw[←hQ,setCell_heap hp6];rfl
       have hQo:∀ b,b≠w1.heap.size→Q.heap[b]? = W6.heap[b]?:=fun b hb=>by rw[←hQ];exact Below.heap_setCell _ _ _ _ hb
       have hQs:Q.heap.size=W6.heap.size:=by rw[←hQ];simp
       have hB6:Below w1.heap.size w2 W6:=(hb5'.mono (by omega)).grown hgrA (by omega) (fun b hb=>by have:=(HVB.out b hb).1;omega)
       have hQb:Below w1.heap.size w2 Q:=by rw[←hQ];exact hB6.setCell (p:=⟨w1.heap.size,1,none⟩) (Nat.le_refl _) _
       have HQ:=hQz hQ
       have HQP:=hQz hQp
       have HQB:=hQz (HB2.out.trans hQb)
       have h3s:w1.heap.size+1≤Q.heap.size:=by have:=hgrA.size;omega
       have HGQ:Hid (Gr (VRs valS f') Q (w1.heap.size+1) 31 1 (.slice (some ⟨g6,0,none⟩) (q+1) cap6) (ys.take q++[c]) (rs2++[[(Value.iface U5 u5)]])):=HGP.out.keep (mvsV valS f') (fun b hb _=>hQo b (by omega)) (by omega)
       clear hQ hQp hQo hQs hQb hB6 hown6 hgr6 hgrA hat6 hb5 hb5' hy5 hp5 hp6 hy6 hsy0 hsp0 hy0 hGA hxr hgb hv5
       try go_wp2_with fail
       rw[HQ.out]
       clear c61 f61
       try go_wp2_with fail
       go_roundw
       case rel=>exact⟨q+1,_,_,by go_num,by omega,HQB.out,h3s,HQP.out,by rw[HTK2.out];exact HGQ.out⟩
       case measure=>simp[intOf];omega
    ·have hqn':¬(q:Int)<(mv:Int):=by omega
     have hqe:q=mv:=by omega
     have hte:ys.take q=ys:=List.take_of_length_le (by have:=HMV.out;omega)
     rw[hte]at HG2
     have hVF:=HG2.out.vals (fun b=>w1.heap.size+1≤b∧b<w2.heap.size) (fun b h1 h2=>⟨h1,h2⟩)
     have hbx2:w2.heap[w.heap.size+1]? = some (.cells #[.int .i64 xt,.slice fva j fvc,.string (mkB xs)] 76 (0,0)):=(HB2.out.block _ (by omega)).trans HBX.out
     have HBX2:=hQz hbx2
     have r0:=cell_at HX2.out 0 rfl
     have p1:=cell_at hbx2 1 rfl
     have hGW:Gr (FRs valS f') (w2.alloc (.cells #[.int .i64 ynum,.slice vva q vvc] 79)) (w.heap.size+2) 79 2 (.slice fva j fvc) (fl.take j) rs:=Gr.keep (mvsF valS f') HGR.out (fun b _ hb=>(alloc_heap_old _ _ _ (by have:=HB2.out.size;omega)).trans (HB2.out.block b hb)) (by simp;have:=HB2.out.size;omega)
     have hxr:FRs valS f' (w2.alloc (.cells #[.int .i64 ynum,.slice vva q vvc] 79)) (FarV (w2.alloc (.cells #[.int .i64 ynum,.slice vva q vvc] 79)) (w.heap.size+2) (.slice fva j fvc)) (ynum,ys) [.int .i64 ynum,.slice vva q vvc]:=⟨_,rfl,ValsG.mv (fun b hb=>alloc_heap_old _ _ _ hb.2) (fun b hb=>⟨by have:=hb.1;omega,by simp;have:=hb.2;omega,fun e=>by have:=HFB.out _ e;have:=hb.1;omega⟩) hVF⟩
     have HGW:=hQz hGW
     have HXR:=hQz hxr
     have hAs:(w2.alloc (.cells #[.int .i64 ynum,.slice vva q vvc] 79)).heap.size=w2.heap.size+1:=by simp
     have HAN:Hid ((w2.alloc (.cells #[.int .i64 ynum,.slice vva q vvc] 79)).heap[w2.heap.size]? = some (.cells #[.int .i64 ynum,.slice vva q vvc] 79 (0,0))):=alloc_heap_new _ _
     have HAB:Hid (Below w2.heap.size w2 (w2.alloc (.cells #[.int .i64 ynum,.slice vva q vvc] 79))):=(Below.refl _ _).alloc (Nat.le_refl _) _
     have HOW:Hid ((w2.alloc (.cells #[.int .i64 ynum,.slice vva q vvc] 79)).ownsRow (w.heap.size+2) 79 2 (.slice fva j fvc) j (rs.flatMap id)):=by
      refine(?_:World.ownsRow _ _ _ _ _ _ _)
      have:=hGW.own
      rw[HFVL.out]at this
      exact this
     have h12:=HB2.out.size
     clear hte hVF hbx2 hGW hxr hqe HIH HVA HFL2 HX2
     go_wp2_with (at_builtin;refine row_pushL (T:=79) (t:=74) Tryz.underlying74 infoVF rfl (by decide) HOW.out (by rw[hAs];omega) [.int .i64 ynum,.slice vva q vvc] rfl (by simp[Value.oneCell']) w2.heap.size HAN.out rfl _ _ rfl rfl rfl (by unfold maxLen;omega) (by omega) ?_)
     intro g6 cap6 W6 hown6 hgr6 hat6 hlt6
     have hgrA:w2.grownBy W6 (Value.slice fva j fvc).ownBlock:=((World.grownBy_alloc _ _ _).trans hgr6)
     have hp6:W6.heap[w.heap.size+1]? = some (.cells #[.int .i64 xt,.slice fva j fvc,.string (mkB xs)] 76 (0,0)):=((hgrA.block _ (by omega) (fun e=>by have:=HFB.out _ e.symm;omega)).trans HBX2.out)
     have c61:W6.cell? ⟨w.heap.size+1,1,none⟩=some (.slice fva j fvc):=(cell_at hp6 1 rfl)
     have f61:W6.frozen? ⟨w.heap.size+1,1,none⟩=false:=(frz_at hp6 1)
     have HOWN6:=hQz hown6
     have HGR6:=hQz hgr6
     have HGRA:=hQz hgrA
     have HP6:=hQz hp6
     have HAT6:=hQz hat6
     clear hown6 hgr6 hgrA hp6 hat6
     have HGP:=hQz (HGW.out.push (mvsF valS f') (x:=(ynum,ys)) (r:=[.int .i64 ynum,.slice vva q vvc]) rfl HXR.out HFVL.out (by rw[List.flatMap_id];exact HOWN6.out) HGR6.out (by rw[hAs];exact HAT6.out))
     have hg6:w.heap.size+2≤g6:=by
      rcases HAT6.out with h | h
      ·exact(HFB.out _ h).1
      ·omega
     obtain⟨Q,hQ⟩:∃ Q,W6.setCell ⟨w.heap.size+1,1,none⟩ (.slice (some ⟨g6,0,none⟩) (j+1) cap6)=Q:=⟨_,rfl⟩
     have hQp:Q.heap[w.heap.size+1]? = some (.cells #[.int .i64 xt,.slice (some ⟨g6,0,none⟩) (j+1) cap6,.string (mkB xs)] 76 (0,0)):=by rw[←hQ,setCell_heap HP6.out];rfl
     have hQo:∀ b,b≠w.heap.size+1→Q.heap[b]? = W6.heap[b]?:=fun b hb=>by rw[←hQ];exact Below.heap_setCell _ _ _ _ hb
     have hQs:Q.heap.size=W6.heap.size:=by rw[←hQ];simp
     have hB6:Below (w.heap.size+1) w2 W6:=(Below.refl _ w2).grown HGRA.out (by omega) (fun b hb=>by have:=(HFB.out b hb).1;omega)
     have hQb:Below (w.heap.size+1) w2 Q:=by rw[←hQ];exact hB6.setCell (p:=⟨w.heap.size+1,1,none⟩) (Nat.le_refl _) _
     have HQ:=hQz hQ
     have HQP:=hQz hQp
     have HQB:=hQz (HBE.out.trans ((HB2.out.mono (by omega)).trans hQb))
     have h3s:w.heap.size+2≤Q.heap.size:=by have:=HGRA.out.size;omega
     have HGQ:Hid (Gr (FRs valS f') Q (w.heap.size+2) 79 2 (.slice (some ⟨g6,0,none⟩) (j+1) cap6) (fl.take j++[(ynum,ys)]) (rs++[[.int .i64 ynum,.slice vva q vvc]])):=HGP.out.keep (mvsF valS f') (fun b hb _=>hQo b (by omega)) (by omega)
     clear hQ hQp hQo hQs hQb hB6 hg6
     try go_wp2_with fail
     rw[HQ.out]
     clear c61 f61
     try go_wp2_with fail
     go_roundw
     case rel=>exact⟨j+1,_,_,by go_num,by omega,HQB.out,h3s,HQP.out,by rw[HTK.out];exact HGQ.out⟩
     case measure=>simp[intOf];omega
  ·have hjn':¬(j:Int)<(n:Int):=by omega
   have hte:fl.take j=fl:=List.take_of_length_le (by have:=HN.out;omega)
   rw[hte]at HGR
   have r0:=cell_at HBX.out 0 rfl
   have r1:=cell_at HBX.out 1 rfl
   have r2:=cell_at HBX.out 2 rfl
   have HRES:Hid (TheirAns f w ⟨7,xn,xu,xb,xs,xt,fl⟩ (.returned (.iface 76 (.agg #[.int .i64 xt,.slice fva j fvc,.string (mkB xs)]))) w1):=by
    refine⟨_,rfl,⟨.slice fva j fvc,rfl,fun _=>HGR.out.fields (fun h0=>?_) _ (fun b h1 h2=>⟨by omega,h2⟩)⟩,HBW.out⟩
    subst h0
    exact HHG.out.1
   clear hte hBw hA1
   go_wp2_with fail
   go_ret
   exact HRES.out
end Go.Proofs.YteajlfgbmefncaaGreatDoor
