/-
  Walks and plain words (VhO).
-/
import Derived.Test.YteajlfgbmefncaaGreatDoorN16
import Derived.Test.YteajlfgbmefncaaGreatDoorN8
import Derived.Test.YteajlfgbmefncaaGreatDoorN11
import Derived.Deep.RegionHeldLaw
namespace Go.Proofs.YteajlfgbmefncaaGreatDoor
set_option linter.unusedVariables false
open Go.ChangeShapes Go.WideShapes Go.ChangeAt Go.RowKit

def OurAns (f:Nat) (w:World) (y:Nd) (e:Ending) (w':World):Prop:=∃ (a0 a1 a2:Int) (a3:Bool) (a4:ByteArray) (a5:Int) (sa:Option Addr) (sl sc:Nat) (fsr:Value),e=.returned (.agg #[.int .i64 a0,.int .i64 a1,.int .u64 a2,.bool a3,.string a4,.int .i64 a5,.slice sa sl sc])∧
 [.int .i64 a0,.int .i64 a1,.int .u64 a2,.bool a3,.string a4,.int .i64 a5,.slice sa sl sc]=clS.row y fsr∧(y.kind=7→HeldG clS w' (fun b=>w.heap.size≤b∧b<w'.heap.size) f fsr y.fields)∧Below w.heap.size w w'
set_option maxHeartbeats 64000000 in
set_option maxRecDepth 20000 in
theorem oursN_any:∀ (f:Nat) (x:Nd) (v:Value) (w:World),FitG 100000 10000 f x→HeldV w (fun b=>b<w.heap.size) f v x→
  Calls Tryz.prog 10 #[v] w fun e w'=>OurAns f w x e w':=by
 intro f
 induction f using Nat.strongRecOn with
 | _ f ih=>
 intro x v w hfit hHV
 obtain⟨fs,rfl,hHG⟩:=hHV
 have t1:=fun W=>taInt x fs W
 have t2:=fun W=>taUint x fs W
 have t3:=fun W=>taBool x fs W
 have t4:=fun W=>taText x fs W
 have t5:=fun W=>taBytes x fs W
 have t6:=fun W=>taEnum x fs W
 have t7:=fun W=>taMessage x fs W
 obtain⟨v,hv⟩:∃ v,ival x fs=v:=⟨_,rfl⟩
 rw[hv]at t1 t2 t3 t4 t5 t6 t7 ⊢
 clear hv
 obtain⟨Y,hY,hZ,hb,hYs⟩:=box_new w #[.int .i64 0,.int .i64 0,.int .u64 0,.bool false,.string ⟨#[]⟩,.int .i64 0,.slice none 0 0] 38
 have HY:=hQz hY
 have HBY:=hQz hb
 have HIH:=hQz ih
 have HFIT:=hQz hfit
 obtain⟨xkind,xn,xu,xb,xs,xt,fl⟩:=x
 dsimp only at t1 t2 t3 t4 t5 t6 t7 hHG
 clear ih hfit hY hb
 have k0:=cell_at hZ 0 rfl
 have kf0:Y.frozen? ⟨w.heap.size,0,none⟩=false:=frz_at hZ 0
 have k1:=cell_at hZ 1 rfl
 have kf1:Y.frozen? ⟨w.heap.size,1,none⟩=false:=frz_at hZ 1
 have k2:=cell_at hZ 2 rfl
 have kf2:Y.frozen? ⟨w.heap.size,2,none⟩=false:=frz_at hZ 2
 have k3:=cell_at hZ 3 rfl
 have kf3:Y.frozen? ⟨w.heap.size,3,none⟩=false:=frz_at hZ 3
 have k4:=cell_at hZ 4 rfl
 have kf4:Y.frozen? ⟨w.heap.size,4,none⟩=false:=frz_at hZ 4
 have k5:=cell_at hZ 5 rfl
 have kf5:Y.frozen? ⟨w.heap.size,5,none⟩=false:=frz_at hZ 5
 have k6:=cell_at hZ 6 rfl
 have kf6:Y.frozen? ⟨w.heap.size,6,none⟩=false:=frz_at hZ 6
 by_cases h1:xkind=1
 ·subst h1
  rw[if_pos rfl,decide_eq_true rfl]at t1
  clear t2 t3 t4 t5 t6 t7 HIH hHG
  obtain⟨Q,hQ,hQc,_,_,hQb⟩:=set7_all hZ (.int .i64 1) (.int .i64 xn) (.int .u64 0) (.bool false) (.string ⟨#[]⟩) (.int .i64 0) (.slice none 0 0)
  have HQ:=hQz hQ
  have HQC:=hQz hQc
  have HBQ:=hQz (HBY.out.trans hQb)
  clear hQ hQc hQb hZ
  go_enter Tryz.func10,Tryz.ntmps10
  go_upto_region 1 with fail
  rw[HY.out]
  go_wp2_with fail
  rw[HQ.out]
  have r0:=cell_at HQC.out 0 rfl
  have r1:=cell_at HQC.out 1 rfl
  have r2:=cell_at HQC.out 2 rfl
  have r3:=cell_at HQC.out 3 rfl
  have r4:=cell_at HQC.out 4 rfl
  have r5:=cell_at HQC.out 5 rfl
  have r6:=cell_at HQC.out 6 rfl
  refine bodyPost_ret (v:=.agg #[.int .i64 1,.int .i64 xn,.int .u64 0,.bool false,.string ⟨#[]⟩,.int .i64 0,.slice none 0 0]) (by simp[results,Tryz.results10,go_sem,r0,r1,r2,r3,r4,r5,r6]) rfl ?_
  exact⟨_,_,_,_,_,_,_,_,_,.nilFunc,rfl,rfl,fun h=>absurd h (show ¬((1:Int)=7)by decide),HBQ.out⟩
 by_cases h2:xkind=2
 ·subst h2
  rw[if_neg (by decide),decide_eq_false (by decide)]at t1
  rw[if_pos rfl,decide_eq_true rfl]at t2
  clear t3 t4 t5 t6 t7 HIH hHG
  obtain⟨Q,hQ,hQc,_,_,hQb⟩:=set7_all hZ (.int .i64 2) (.int .i64 0) (.int .u64 xu) (.bool false) (.string ⟨#[]⟩) (.int .i64 0) (.slice none 0 0)
  have HQ:=hQz hQ
  have HQC:=hQz hQc
  have HBQ:=hQz (HBY.out.trans hQb)
  clear hQ hQc hQb hZ
  go_enter Tryz.func10,Tryz.ntmps10
  go_upto_region 1 with fail
  rw[HY.out]
  go_wp2_with fail
  rw[HQ.out]
  have r0:=cell_at HQC.out 0 rfl
  have r1:=cell_at HQC.out 1 rfl
  have r2:=cell_at HQC.out 2 rfl
  have r3:=cell_at HQC.out 3 rfl
  have r4:=cell_at HQC.out 4 rfl
  have r5:=cell_at HQC.out 5 rfl
  have r6:=cell_at HQC.out 6 rfl
  refine bodyPost_ret (v:=.agg #[.int .i64 2,.int .i64 0,.int .u64 xu,.bool false,.string ⟨#[]⟩,.int .i64 0,.slice none 0 0]) (by simp[results,Tryz.results10,go_sem,r0,r1,r2,r3,r4,r5,r6]) rfl ?_
  exact⟨_,_,_,_,_,_,_,_,_,.nilFunc,rfl,rfl,fun h=>absurd h (show ¬((2:Int)=7)by decide),HBQ.out⟩
 by_cases h3:xkind=3
 ·subst h3
  rw[if_neg (by decide),decide_eq_false (by decide)]at t1
  rw[if_neg (by decide),decide_eq_false (by decide)]at t2
  rw[if_pos rfl,decide_eq_true rfl]at t3
  clear t4 t5 t6 t7 HIH hHG
  obtain⟨Q,hQ,hQc,_,_,hQb⟩:=set7_all hZ (.int .i64 3) (.int .i64 0) (.int .u64 0) (.bool xb) (.string ⟨#[]⟩) (.int .i64 0) (.slice none 0 0)
  have HQ:=hQz hQ
  have HQC:=hQz hQc
  have HBQ:=hQz (HBY.out.trans hQb)
  clear hQ hQc hQb hZ
  go_enter Tryz.func10,Tryz.ntmps10
  go_upto_region 1 with fail
  rw[HY.out]
  go_wp2_with fail
  rw[HQ.out]
  have r0:=cell_at HQC.out 0 rfl
  have r1:=cell_at HQC.out 1 rfl
  have r2:=cell_at HQC.out 2 rfl
  have r3:=cell_at HQC.out 3 rfl
  have r4:=cell_at HQC.out 4 rfl
  have r5:=cell_at HQC.out 5 rfl
  have r6:=cell_at HQC.out 6 rfl
  refine bodyPost_ret (v:=.agg #[.int .i64 3,.int .i64 0,.int .u64 0,.bool xb,.string ⟨#[]⟩,.int .i64 0,.slice none 0 0]) (by simp[results,Tryz.results10,go_sem,r0,r1,r2,r3,r4,r5,r6]) rfl ?_
  exact⟨_,_,_,_,_,_,_,_,_,.nilFunc,rfl,rfl,fun h=>absurd h (show ¬((3:Int)=7)by decide),HBQ.out⟩
 by_cases h4:xkind=4
 ·subst h4
  rw[if_neg (by decide),decide_eq_false (by decide)]at t1
  rw[if_neg (by decide),decide_eq_false (by decide)]at t2
  rw[if_neg (by decide),decide_eq_false (by decide)]at t3
  rw[if_pos rfl,decide_eq_true rfl]at t4
  clear t5 t6 t7 HIH hHG
  obtain⟨Q,hQ,hQc,_,_,hQb⟩:=set7_all hZ (.int .i64 4) (.int .i64 0) (.int .u64 0) (.bool false) (.string (mkB xs)) (.int .i64 0) (.slice none 0 0)
  have HQ:=hQz hQ
  have HQC:=hQz hQc
  have HBQ:=hQz (HBY.out.trans hQb)
  clear hQ hQc hQb hZ
  go_enter Tryz.func10,Tryz.ntmps10
  go_upto_region 1 with fail
  rw[HY.out]
  go_wp2_with fail
  rw[HQ.out]
  have r0:=cell_at HQC.out 0 rfl
  have r1:=cell_at HQC.out 1 rfl
  have r2:=cell_at HQC.out 2 rfl
  have r3:=cell_at HQC.out 3 rfl
  have r4:=cell_at HQC.out 4 rfl
  have r5:=cell_at HQC.out 5 rfl
  have r6:=cell_at HQC.out 6 rfl
  refine bodyPost_ret (v:=.agg #[.int .i64 4,.int .i64 0,.int .u64 0,.bool false,.string (mkB xs),.int .i64 0,.slice none 0 0]) (by simp[results,Tryz.results10,go_sem,r0,r1,r2,r3,r4,r5,r6]) rfl ?_
  exact⟨_,_,_,_,_,_,_,_,_,.nilFunc,rfl,rfl,fun h=>absurd h (show ¬((4:Int)=7)by decide),HBQ.out⟩
 by_cases h5:xkind=5
 ·subst h5
  rw[if_neg (by decide),decide_eq_false (by decide)]at t1
  rw[if_neg (by decide),decide_eq_false (by decide)]at t2
  rw[if_neg (by decide),decide_eq_false (by decide)]at t3
  rw[if_neg (by decide),decide_eq_false (by decide)]at t4
  rw[if_pos rfl,decide_eq_true rfl]at t5
  clear t6 t7 HIH hHG
  obtain⟨Q,hQ,hQc,_,_,hQb⟩:=set7_all hZ (.int .i64 5) (.int .i64 0) (.int .u64 0) (.bool false) (.string (mkB xs)) (.int .i64 0) (.slice none 0 0)
  have HQ:=hQz hQ
  have HQC:=hQz hQc
  have HBQ:=hQz (HBY.out.trans hQb)
  clear hQ hQc hQb hZ
  go_enter Tryz.func10,Tryz.ntmps10
  go_upto_region 1 with fail
  rw[HY.out]
  go_wp2_with fail
  rw[HQ.out]
  have r0:=cell_at HQC.out 0 rfl
  have r1:=cell_at HQC.out 1 rfl
  have r2:=cell_at HQC.out 2 rfl
  have r3:=cell_at HQC.out 3 rfl
  have r4:=cell_at HQC.out 4 rfl
  have r5:=cell_at HQC.out 5 rfl
  have r6:=cell_at HQC.out 6 rfl
  refine bodyPost_ret (v:=.agg #[.int .i64 5,.int .i64 0,.int .u64 0,.bool false,.string (mkB xs),.int .i64 0,.slice none 0 0]) (by simp[results,Tryz.results10,go_sem,r0,r1,r2,r3,r4,r5,r6]) rfl ?_
  exact⟨_,_,_,_,_,_,_,_,_,.nilFunc,rfl,rfl,fun h=>absurd h (show ¬((5:Int)=7)by decide),HBQ.out⟩
 by_cases h6:xkind=6
 ·subst h6
  rw[if_neg (by decide),decide_eq_false (by decide)]at t1
  rw[if_neg (by decide),decide_eq_false (by decide)]at t2
  rw[if_neg (by decide),decide_eq_false (by decide)]at t3
  rw[if_neg (by decide),decide_eq_false (by decide)]at t4
  rw[if_neg (by decide),decide_eq_false (by decide)]at t5
  rw[if_pos rfl,decide_eq_true rfl]at t6
  clear t7 HIH hHG
  obtain⟨E,hE⟩:∃ E,IntKind.i32.wrap xn=E:=⟨_,rfl⟩
  have hE1:-2147483648≤E∧E≤2147483647:=by rw[←hE,IntKind.wrap_i32];omega
  have hw6:IntKind.i64.wrap E=E:=by rw[IntKind.wrap_i64];omega
  rw[hE]at t6
  have HE:=hQz hE
  clear hE
  obtain⟨Q,hQ,hQc,_,_,hQb⟩:=set7_all hZ (.int .i64 6) (.int .i64 E) (.int .u64 0) (.bool false) (.string ⟨#[]⟩) (.int .i64 0) (.slice none 0 0)
  have HQ:=hQz hQ
  have HQC:=hQz hQc
  have HBQ:=hQz (HBY.out.trans hQb)
  clear hQ hQc hQb hZ
  go_enter Tryz.func10,Tryz.ntmps10
  go_upto_region 1 with fail
  rw[HY.out]
  go_wp2_with fail
  rw[HQ.out]
  have r0:=cell_at HQC.out 0 rfl
  have r1:=cell_at HQC.out 1 rfl
  have r2:=cell_at HQC.out 2 rfl
  have r3:=cell_at HQC.out 3 rfl
  have r4:=cell_at HQC.out 4 rfl
  have r5:=cell_at HQC.out 5 rfl
  have r6:=cell_at HQC.out 6 rfl
  refine bodyPost_ret (v:=.agg #[.int .i64 6,.int .i64 E,.int .u64 0,.bool false,.string ⟨#[]⟩,.int .i64 0,.slice none 0 0]) (by simp[results,Tryz.results10,go_sem,r0,r1,r2,r3,r4,r5,r6]) rfl ?_
  exact⟨_,_,_,_,_,_,_,_,_,.nilFunc,rfl,(by rw[←HE.out];rfl),fun h=>absurd h (show ¬((6:Int)=7)by decide),HBQ.out⟩
 have d1:decide (xkind=1)=false:=decide_eq_false h1
 have d2:decide (xkind=2)=false:=decide_eq_false h2
 have d3:decide (xkind=3)=false:=decide_eq_false h3
 have d4:decide (xkind=4)=false:=decide_eq_false h4
 have d5:decide (xkind=5)=false:=decide_eq_false h5
 have d6:decide (xkind=6)=false:=decide_eq_false h6
 rw[if_neg h1,d1]at t1
 rw[if_neg h2,d2]at t2
 rw[if_neg h3,d3]at t3
 rw[if_neg h4,d4]at t4
 rw[if_neg h5,d5]at t5
 rw[if_neg h6,d6]at t6
 clear d1 d2 d3 d4 d5 d6
 by_cases h7:xkind=7
 case neg=>
  have d7:decide (xkind=7)=false:=decide_eq_false h7
  rw[if_neg h7,d7]at t7
  clear HIH hHG d7
  obtain⟨V,hV,hD,hVb,hVs⟩:=box_new Y #[.int .i64 0,.slice none 0 0,.string ⟨#[]⟩] 76
  obtain⟨Q,hQ,hQc,_,_,hQb⟩:=set7_all hZ (.int .i64 0) (.int .i64 0) (.int .u64 0) (.bool false) (.string ⟨#[]⟩) (.int .i64 0) (.slice none 0 0)
  have HQ:=hQz hQ
  have HQC:=hQz hQc
  have HBQ:=hQz (HBY.out.trans hQb)
  have HRES:Hid (clS.row ⟨xkind,xn,xu,xb,xs,xt,fl⟩ .nilFunc=[.int .i64 0,.int .i64 0,.int .u64 0,.bool false,.string ⟨#[]⟩,.int .i64 0,.slice none 0 0]):=by
   refine(?_:_=_)
   simp only[clS,crow,nrow,cn]
   have hk:¬(1≤xkind∧xkind≤7):=by omega
   simp[h1,h2,h3,h4,h5,h6,h7,hk,mkB]
  clear hQ hQc hQb hZ
  go_enter Tryz.func10,Tryz.ntmps10
  go_upto_region 1 with fail
  rw[HY.out]
  go_wp2_with fail
  rw[HQ.out]
  have r0:=cell_at HQC.out 0 rfl
  have r1:=cell_at HQC.out 1 rfl
  have r2:=cell_at HQC.out 2 rfl
  have r3:=cell_at HQC.out 3 rfl
  have r4:=cell_at HQC.out 4 rfl
  have r5:=cell_at HQC.out 5 rfl
  have r6:=cell_at HQC.out 6 rfl
  refine bodyPost_ret (v:=.agg #[.int .i64 0,.int .i64 0,.int .u64 0,.bool false,.string ⟨#[]⟩,.int .i64 0,.slice none 0 0]) (by simp[results,Tryz.results10,go_sem,r0,r1,r2,r3,r4,r5,r6]) rfl ?_
  exact⟨_,_,_,_,_,_,_,_,_,.nilFunc,rfl,HRES.out.symm,fun h=>absurd h h7,HBQ.out⟩
 subst h7
 rw[if_pos rfl,decide_eq_true rfl]at t7
 have hHG:=hHG rfl
 obtain⟨xa,xc,rfl⟩:=HeldG.isSl hHG
 obtain⟨n,hn⟩:∃ n,fl.length=n:=⟨_,rfl⟩
 have HN:=hQz hn
 rw[hn]at hHG t7
 have HHG:=hQz hHG
 obtain⟨U,hU,hE,hUb,hUs⟩:=box_new Y #[.int .i64 xt,.slice xa n xc,.string (mkB xs)] 76
 obtain⟨V,hV,hD,hVb,hVs⟩:=box_new U #[.int .i64 7,.int .i64 0,.int .u64 0,.bool false,.string (mkB xs),.int .i64 xt,.slice none 0 0] 38
 have HU:=hQz hU
 have HV:=hQz hV
 have HYS:=hQz hYs
 have HUS:Hid (U.heap.size=w.heap.size+2):=by
  refine(?_:_=_)
  omega
 rw[hUs,hYs]at hD
 rw[hYs]at hE
 have HBV:=hQz (HBY.out.trans ((hUb.trans (hVb.mono hUb.size)).mono HBY.out.size))
 have HCV:Hid (V.heap[w.heap.size+1]? = some (.cells #[.int .i64 xt,.slice xa n xc,.string (mkB xs)] 76 (0,0))):=(hVb.block _ (by omega)).trans hE
 have HDV:Hid (V.heap[w.heap.size+2]? = some (.cells #[.int .i64 7,.int .i64 0,.int .u64 0,.bool false,.string (mkB xs),.int .i64 xt,.slice none 0 0] 38 (0,0))):=hD
 have HZV:Hid (V.heap[w.heap.size]? = some (.cells #[.int .i64 0,.int .i64 0,.int .u64 0,.bool false,.string ⟨#[]⟩,.int .i64 0,.slice none 0 0] 38 (0,0))):=(hVb.block _ (by omega)).trans ((hUb.block _ (by omega)).trans hZ)
 have hVl:w.heap.size+3≤V.heap.size:=by omega
 have u0:=cell_at hE 0 rfl
 have u2:=cell_at hE 2 rfl
 have v1:=cell_at HCV.out 1 rfl
 clear h1 h2 h3 h4 h5 h6 hn hHG hU hE hUb hUs hV hD hVb hVs hYs hZ k0 k1 k2 k3 k4 k5 k6 kf0 kf1 kf2 kf3 kf4 kf5 kf6
 go_enter Tryz.func10,Tryz.ntmps10
 go_upto_region 1 with fail
 rw[HY.out]
 go_upto_region 22 with fail
 rw[HU.out,HYS.out]
 go_upto_region 23 with fail
 rw[HV.out,HUS.out]
 clear u0 u2 t1 t2 t3 t4 t5 t6 t7
 go_wp2_with fail
 clear v1
 go_loopw [57] (fun i wr=>∃ (j:Nat) (fv:Value) (rs:List (List Value)),i=.int .i64 (j:Int)∧j≤n∧Below (w.heap.size+2) V wr∧w.heap.size+3≤wr.heap.size∧wr.heap[w.heap.size+2]? = some (.cells #[.int .i64 7,.int .i64 0,.int .u64 0,.bool false,.string (mkB xs),.int .i64 xt,fv] 38 (0,0))∧Gr (FRs clS (f - 1)) wr (w.heap.size+3) 57 2 fv (fl.take j) rs) (fun i _=>n - (intOf i).toNat)
 case atStart=>exact⟨0,_,[],rfl,Nat.zero_le _,Below.refl _ _,hVl,HDV.out,Gr.nil _ _ _ _ _⟩
 case round=>
  generalize wr=w1 at *
  obtain⟨j,fv,rs,rfl,hj,hbel,hws,hbx,hgr⟩:=hrel
  obtain⟨fva,fvc,hfv⟩:=own_slice hgr.own
  have hfvl:(fl.take j).length=j:=by rw[List.length_take,HN.out];omega
  rw[hfvl]at hfv
  subst hfv
  have HBE:=hQz hbel
  have HBX:=hQz hbx
  have HGR:=hQz hgr
  have hBw:=HBV.out.trans (hbel.mono (by omega))
  have HBW:=hQz hBw
  have hA1:=(hbel.block _ (by omega)).trans HCV.out
  have HA1:=hQz hA1
  have HFVL:=hQz hfvl
  have HFB:Hid (∀ b,(Value.slice fva j fvc).ownBlock=some b→w.heap.size+3≤b∧b<w1.heap.size):=hgr.blk
  clear hbel hbx hgr hfvl HDV
  by_cases hjn:j<n
  ·obtain⟨y,hy⟩:∃ y,fl[j]? = some y:=⟨_,List.getElem?_eq_getElem (by have:=HN.out;omega)⟩
   obtain⟨f',g,go,gc,va,vc,hf',hsl,hg,e0,e1,hvals⟩:=HeldG.at HHG.out (W:=w1) (fun b hb=>hBw.block b hb) hy
   subst hf'
   rw[HN.out]at hsl
   obtain⟨rfl,rfl⟩:=slice_two hsl
   have HTK:Hid (fl.take (j+1)=fl.take j++[y]):=take_snoc hy
   obtain⟨hfl1,hfl2⟩:=HFIT.out.2.2 y (List.mem_of_getElem? hy)
   have hn1:n≤10000:=by have h1:=HFIT.out.2.1;have h2:=HN.out;dsimp only at h1;omega
   obtain⟨ynum,ys⟩:=y
   dsimp only at hvals e0 e1 hfl1 hfl2
   obtain⟨mv,hmv⟩:∃ n,ys.length=n:=⟨_,rfl⟩
   have HMV:=hQz hmv
   rw[hmv]at e1 hvals hfl1
   have HFL2:=hQz hfl2
   have HVA:=hQz hvals
   have hj0:(0:Int)≤(j:Int):=by omega
   have hj1:(j:Int)<(n:Int):=by omega
   have hwq:=wQz j (by omega)
   have a6:=cell_at hA1 1 rfl
   have hgN:g<w.heap.size:=hg
   clear hsl hy hvals hmv hfl2 hBw hA1 hg
   have hC:(w1.alloc (.cells #[.int .i64 ynum,.slice none 0 0] 57)).heap[w1.heap.size]? = some (.cells #[.int .i64 ynum,.slice none 0 0] 57 (0,0)):=alloc_heap_new _ _
   have hCb:Below w1.heap.size w1 (w1.alloc (.cells #[.int .i64 ynum,.slice none 0 0] 57)):=(Below.refl _ w1).alloc (Nat.le_refl _) _
   go_upto_region 27 with fail
   generalize (w1.alloc (.cells #[.int .i64 ynum,.slice none 0 0] 57))=X at *
   have HBX1:=hQz hCb
   have HCX:=hQz hC
   have hXs:w1.heap.size+1≤X.heap.size:=by have:=(Array.getElem?_eq_some_iff.1 hC).1;omega
   have x6:X.cell? ⟨w.heap.size+1,1,none⟩=some (.slice (some ⟨g,go,none⟩) n xc):=(hCb.cell (by simp;omega)).trans a6
   have x1:X.cell? ⟨g,go+j*2+1,none⟩=some (.slice va mv vc):=(hCb.cell (by simp;omega)).trans e1
   have HE1:=hQz e1
   have HA6:=hQz a6
   clear hC hCb a6 e0 e1
   go_wp2_with fail
   clear x6 x1
   go_loopw [74] (fun i wr=>∃ (q:Nat) (vv:Value) (rs2:List (List Value)),i=.int .i64 (q:Int)∧q≤mv∧Below w1.heap.size w1 wr∧w1.heap.size+1≤wr.heap.size∧wr.heap[w1.heap.size]? = some (.cells #[.int .i64 ynum,vv] 57 (0,0))∧Gr (VRs clS f') wr (w1.heap.size+1) 38 7 vv (ys.take q) rs2) (fun i _=>mv - (intOf i).toNat)
   case atStart=>exact⟨0,_,[],rfl,Nat.zero_le _,HBX1.out,hXs,HCX.out,Gr.nil _ _ _ _ _⟩
   case round=>
    generalize wr=w2 at *
    obtain⟨q,vv,rs2,rfl,hq,hbel,hws2,hbx,hgr⟩:=hrel
    obtain⟨vva,vvc,hvv⟩:=own_slice hgr.own
    have hql:(ys.take q).length=q:=by rw[List.length_take,HMV.out];omega
    rw[hql]at hvv
    subst hvv
    have HB2:=hQz hbel
    have HX2:=hQz hbx
    have HG2:=hQz hgr
    have hBw2:=HBW.out.trans (hbel.mono HBW.out.size)
    have HQL:=hQz hql
    have HVB:Hid (∀ b,(Value.slice vva q vvc).ownBlock=some b→w1.heap.size+1≤b∧b<w2.heap.size):=hgr.blk
    have z6:w2.cell? ⟨w.heap.size+1,1,none⟩=some (.slice (some ⟨g,go,none⟩) n xc):=(hbel.cell (by simp;omega)).trans HA6.out
    have z1:w2.cell? ⟨g,go+j*2+1,none⟩=some (.slice va mv vc):=(hbel.cell (by simp;omega)).trans HE1.out
    have zf:=cell_at hbx 1 rfl
    clear hbel hbx hgr hql HCX HBX1
    by_cases hqn:q<mv
    ·obtain⟨c,hc⟩:∃ c,ys[q]? = some c:=⟨_,List.getElem?_eq_getElem (by have:=HMV.out;omega)⟩
     obtain⟨g2,o2,c2,fs2,hsl2,hg2,hcl,hheld⟩:=ValsG.at HVA.out hc
     rw[HMV.out]at hsl2
     obtain⟨rfl,rfl⟩:=slice_two hsl2
     have hg2N:g2<w.heap.size:=hg2
     have HTK2:Hid (ys.take (q+1)=ys.take q++[c]):=take_snoc hc
     have hcl2:=hcl.old (hBw2.block g2 hg2N)
     have hfitc:=HFL2.out c (List.mem_of_getElem? hc)
     have y0:w2.cell? ⟨g2,o2+q,none⟩=some (ival c fs2):=by have:=hcl2 0 _ rfl;simpa [valS]using this
     obtain⟨cv,hcv⟩:∃ v,ival c fs2=v:=⟨_,rfl⟩
     rw[hcv]at y0
     have hcall:∀ W,Below w2.heap.size w2 W→Calls Tryz.prog 10 #[cv] W fun e w'=>OurAns f' W c e w':=fun W hW=>by
      rw[←hcv]
      exact HIH.out f' (by omega) c _ W hfitc ⟨fs2,rfl,fun h7=>HeldG.mv (fun b hb=>(hBw2.trans (hW.mono hBw2.size)).block b hb) (fun b hb=>by have hb':b<w.heap.size:=hb;have:=(hBw2.trans (hW.mono hBw2.size)).size;omega) (hheld (by simpa [valS]using h7))⟩
     have hq0:(0:Int)≤(q:Int):=by omega
     have hq1:(q:Int)<(mv:Int):=by omega
     have hwq2:=wQz q (by omega)
     have HFC:Hid (∀ W:World,Below w2.heap.size w2 W→W.cell? ⟨w.heap.size+1,1,none⟩=some (.slice (some ⟨g,go,none⟩) n xc)∧W.cell? ⟨g,go+j*2+1,none⟩=some (.slice (some ⟨g2,o2,none⟩) mv vc)∧W.cell? ⟨w1.heap.size,1,none⟩=some (.slice vva q vvc)∧W.cell? ⟨g2,o2+q,none⟩=some cv):=by
      refine(?_:∀ W,_→_)
      intro W hW
      exact⟨(hW.cell (by simp;omega)).trans z6,(hW.cell (by simp;omega)).trans z1,(hW.cell (by simp;omega)).trans zf,(hW.cell (by simp;omega)).trans y0⟩
     clear hsl2 hc hg2 hcl hheld hcl2 hfitc hBw2 hcv y0 zf z6 z1
     go_upto_region 30 with fail
     have hsp0:w2.drew.heap[w1.heap.size]? = some (.cells #[.int .i64 ynum,.slice vva q vvc] 57 (0,0)):=HX2.out
     have hsy0:Below w2.heap.size w2 w2.drew:=(Below.refl _ _).drew
     have HFS:Hid (∀ W:World,(∀ b,b<w1.heap.size→W.heap[b]? = w2.heap[b]?)∧W.heap[w1.heap.size]? = some (.cells #[.int .i64 ynum,.slice vva q vvc] 57 (0,0))→W.cell? ⟨w.heap.size+1,1,none⟩=some (.slice (some ⟨g,go,none⟩) n xc)∧W.cell? ⟨g,go+j*2+1,none⟩=some (.slice (some ⟨g2,o2,none⟩) mv vc)∧W.cell? ⟨w1.heap.size,1,none⟩=some (.slice vva q vvc)∧W.cell? ⟨g2,o2+q,none⟩=some cv):=by
      refine(?_:∀ W,_→_)
      rintro W ⟨hW,hF⟩
      obtain⟨t0,t1,t2,t3⟩:=HFC.out w2 (Below.refl _ _)
      exact⟨(World.cell?_of_block (hW _ (by show w.heap.size+1 < _;omega))).trans t0,(World.cell?_of_block (hW _ (by show g < _;omega))).trans t1,cell_at hF 1 rfl,(World.cell?_of_block (hW _ (by show g2 < _;omega))).trans t3⟩
     have hy0:∀ b,b<w1.heap.size→w2.drew.heap[b]? = w2.heap[b]?:=fun b hb=>rfl
     refine region_G 15 (fun W=>∀ b,b<w1.heap.size→W.heap[b]? = w2.heap[b]?) (fun W=>W.heap[w1.heap.size]? = some (.cells #[.int .i64 ynum,.slice vva q vvc] 57 (0,0))) (by kernel_rfl) ?_
     refine G_take (i:=0) (v:=.pointer (some ⟨w1.heap.size,1,none⟩)) [13,1,0] rfl (by kernel_rfl) (fun _ _ _ h=>h) (.inl ⟨by kernel_rfl,fun W hW=>by go_simp⟩) ⟨hy0,fun _=>hsp0⟩ ?_
     refine G_take (i:=1) (v:=.slice vva q vvc) [13,1] rfl (by kernel_rfl) (fun _ _ _ h=>h) (.inl ⟨by kernel_rfl,fun W hW=>by obtain⟨t0,t1,t2,t3⟩:=HFS.out W hW;go_simp⟩) ⟨hy0,fun _=>hsp0⟩ ?_
     refine G_take (i:=2) (v:=.pointer (some ⟨w.heap.size+1,1,none⟩)) [13,12,11,10,9,7,6,5,3,2] rfl (by kernel_rfl) (fun _ _ _ h=>h) (.inl ⟨by kernel_rfl,fun W hW=>by go_simp⟩) ⟨hy0,fun _=>hsp0⟩ ?_
     refine G_take (i:=3) (v:=.slice (some ⟨g,go,none⟩) n xc) [13,12,11,10,9,7,6,5,3] rfl (by kernel_rfl) (fun _ _ _ h=>h) (.inl ⟨by kernel_rfl,fun W hW=>by obtain⟨t0,t1,t2,t3⟩:=HFS.out W hW;go_simp⟩) ⟨hy0,fun _=>hsp0⟩ ?_
     refine G_take (i:=4) (v:=.int .i64 (j:Int)) [13,12,11,10,9,7,6,5,4] rfl (by kernel_rfl) (fun _ _ _ h=>h) (.inl ⟨by kernel_rfl,fun W hW=>by go_simp⟩) ⟨hy0,fun _=>hsp0⟩ ?_
     refine G_take (i:=5) (v:=.pointer (some ⟨g,go+j*2,none⟩)) [13,12,11,10,9,7,6,5] rfl (by kernel_rfl) (fun _ _ _ h=>h) (.inl ⟨by kernel_rfl,fun W hW=>by go_simp⟩) ⟨hy0,fun _=>hsp0⟩ ?_
     refine G_take (i:=6) (v:=.pointer (some ⟨g,go+j*2+1,none⟩)) [13,12,11,10,9,7,6] rfl (by kernel_rfl) (fun _ _ _ h=>h) (.inl ⟨by kernel_rfl,fun W hW=>by go_simp⟩) ⟨hy0,fun _=>hsp0⟩ ?_
     refine G_take (i:=7) (v:=.slice (some ⟨g2,o2,none⟩) mv vc) [13,12,11,10,9,7] rfl (by kernel_rfl) (fun _ _ _ h=>h) (.inl ⟨by kernel_rfl,fun W hW=>by obtain⟨t0,t1,t2,t3⟩:=HFS.out W hW;go_simp⟩) ⟨hy0,fun _=>hsp0⟩ ?_
     refine G_take (i:=8) (v:=.int .i64 (q:Int)) [13,12,11,10,9,8] rfl (by kernel_rfl) (fun _ _ _ h=>h) (.inl ⟨by kernel_rfl,fun W hW=>by go_simp⟩) ⟨hy0,fun _=>hsp0⟩ ?_
     refine G_take (i:=9) (v:=.pointer (some ⟨g2,o2+q,none⟩)) [13,12,11,10,9] rfl (by kernel_rfl) (fun _ _ _ h=>h) (.inl ⟨by kernel_rfl,fun W hW=>by go_simp⟩) ⟨hy0,fun _=>hsp0⟩ ?_
     refine G_take (i:=10) (v:=cv) [13,12,11,10] rfl (by kernel_rfl) (fun _ _ _ h=>h) (.inl ⟨by kernel_rfl,fun W hW=>by obtain⟨t0,t1,t2,t3⟩:=HFS.out W hW;go_simp⟩) ⟨hy0,fun _=>hsp0⟩ ?_
     refine G_one (i:=11) (by kernel_rfl) rfl (fun K hK=>?_)
     go_simp
     refine(hcall _ hsy0).mono ?_
     rintro e5 W5 ⟨a0,a1,a2,a3,a4,a5,sa5,sl5,sc5,fsr,rfl,hrow5,hv5,hb5⟩
     have HR5:=hQz hrow5
     clear hrow5
     have hb5':Below w2.heap.size w2 W5:=hsy0.trans hb5
     have hy5:∀ b,b<w1.heap.size→W5.heap[b]? = w2.heap[b]?:=fun b hb=>hb5'.block b (by omega)
     have hp5:W5.heap[w1.heap.size]? = some (.cells #[.int .i64 ynum,.slice vva q vvc] 57 (0,0)):=(hb5'.block _ (by omega)).trans HX2.out
     have h5s:=hb5'.size
     have HG5:=hQz (HG2.out.keep (mvsV clS f') (w':=W5) (fun b _ hb=>hb5'.block b hb) h5s)
     dsimp only
     refine hK.out _ _ ⟨hy5,fun _=>hp5⟩ ?_
     clear hK K
     refine G_one (i:=12) (by kernel_rfl) rfl (fun K hK=>?_)
     go_simp
     refine hK.out _ _ ⟨fun b hb=>(alloc_heap_old _ _ _ (by omega)).trans (hy5 b hb),fun _=>(alloc_heap_old _ _ _ (by omega)).trans hp5⟩ ?_
     clear hK K
     refine G_one (i:=13) (by kernel_rfl) rfl (fun K hK=>?_)
     refine vpushS (T:=38) Tryz.underlying55 infoNN rfl (by decide) ((by have:=HG5.out.own;rw[HQL.out]at this;exact this:W5.ownsRow (w1.heap.size+1) 38 7 (.slice vva q vvc) q (rs2.flatMap id)).alloc _) (by simp;omega) [.int .i64 a0,.int .i64 a1,.int .u64 a2,.bool a3,.string a4,.int .i64 a5,.slice sa5 sl5 sc5] rfl (by simp[Value.oneCell']) W5.heap.size (alloc_heap_new _ _) rfl _ _ rfl rfl rfl (by unfold maxLen;omega) (by omega) ?_
     intro g6 cap6 W6 hown6 hgr6 hat6 hlt6
     have hgrA:W5.grownBy W6 (Value.slice vva q vvc).ownBlock:=((World.grownBy_alloc _ _ _).trans hgr6)
     have hp6:W6.heap[w1.heap.size]? = some (.cells #[.int .i64 ynum,.slice vva q vvc] 57 (0,0)):=((hgrA.block _ (by omega) (fun e=>by have:=HVB.out _ e.symm;omega)).trans hp5)
     have hy6:∀ b,b<w1.heap.size→W6.heap[b]? = w2.heap[b]?:=fun b hb=>((hgrA.block _ (by omega) (fun e=>by have:=HVB.out _ e.symm;omega)).trans (hy5 b hb))
     have c61:=cell_at hp6 1 rfl
     have f61:W6.frozen? ⟨w1.heap.size,1,none⟩=false:=frz_at hp6 1
     refine hK.out _ _ ⟨hy6,fun _=>hp6⟩ ?_
     clear hK K
     refine G_take (i:=14) (v:=.pointer (some ⟨w1.heap.size,1,none⟩)) [14] rfl (by kernel_rfl) (fun _ _ _ h=>h) (.inl ⟨by kernel_rfl,fun W hW=>by go_simp⟩) ⟨hy6,fun _=>hp6⟩ ?_
     refine G_one (i:=15) (by kernel_rfl) rfl (fun K hK=>?_)
     go_simp
     refine hK.out _ _ ⟨fun b hb=>(Below.heap_setCell _ _ _ _ (by show b≠w1.heap.size;omega)).trans (hy6 b hb),fun h=>(by cases h)⟩ ?_
     clear hK K
     refine G_done (by kernel_rfl) ?_ _
     all_goals
      have hGA:Gr (VRs clS f') (W5.alloc (.cells #[.int .i64 a0,.int .i64 a1,.int .u64 a2,.bool a3,.string a4,.int .i64 a5,.slice sa5 sl5 sc5] 38)) (w1.heap.size+1) 38 7 (.slice vva q vvc) (ys.take q) rs2:=HG5.out.keep (mvsV clS f') (fun b _ hb=>alloc_heap_old _ _ _ hb) (by simp)
      have hxr:VRs clS f' (W5.alloc (.cells #[.int .i64 a0,.int .i64 a1,.int .u64 a2,.bool a3,.string a4,.int .i64 a5,.slice sa5 sl5 sc5] 38)) (FarV (W5.alloc (.cells #[.int .i64 a0,.int .i64 a1,.int .u64 a2,.bool a3,.string a4,.int .i64 a5,.slice sa5 sl5 sc5] 38)) (w1.heap.size+1) (.slice vva q vvc)) c [.int .i64 a0,.int .i64 a1,.int .u64 a2,.bool a3,.string a4,.int .i64 a5,.slice sa5 sl5 sc5]:=by
       exact⟨fsr,HR5.out,fun hk=>HeldG.mv (fun b hb=>alloc_heap_old _ _ _ hb.2) (fun b hb=>⟨by have h1:w2.heap.size≤b:=hb.1;omega,by simp;have:=hb.2;omega,fun e=>by have:=HVB.out _ e;have h1:w2.heap.size≤b:=hb.1;omega⟩) (hv5 (by simpa [clS]using hk))⟩
      have HGP:=hQz (hGA.push (mvsV clS f') (x:=c) (r:=[.int .i64 a0,.int .i64 a1,.int .u64 a2,.bool a3,.string a4,.int .i64 a5,.slice sa5 sl5 sc5]) rfl hxr HQL.out hown6 hgr6 hat6)
      have hgb:g6=(W5.alloc (.cells #[.int .i64 a0,.int .i64 a1,.int .u64 a2,.bool a3,.string a4,.int .i64 a5,.slice sa5 sl5 sc5] 38)).heap.size∨w1.heap.size+1≤g6:=by
       rcases hat6 with h | h
       ·exact .inr (HVB.out _ h).1
       ·exact .inl h
      have hg6:w1.heap.size+1≤g6:=by
       rcases hgb with h | h
       ·rw[h];simp;omega
       ·exact h
      obtain⟨Q,hQ⟩:∃ Q,W6.setCell ⟨w1.heap.size,1,none⟩ (.slice (some ⟨g6,0,none⟩) (q+1) cap6)=Q:=⟨_,rfl⟩
      have hQp:Q.heap[w1.heap.size]? = some (.cells #[.int .i64 ynum,.slice (some ⟨g6,0,none⟩) (q+1) cap6] 57 (0,0)):=by rw[←hQ,setCell_heap hp6];rfl
      have hQo:∀ b,b≠w1.heap.size→Q.heap[b]? = W6.heap[b]?:=fun b hb=>by rw[←hQ];exact Below.heap_setCell _ _ _ _ hb
      have hQs:Q.heap.size=W6.heap.size:=by rw[←hQ];simp
      have hB6:Below w1.heap.size w2 W6:=(hb5'.mono (by omega)).grown hgrA (by omega) (fun b hb=>by have:=(HVB.out b hb).1;omega)
      have hQb:Below w1.heap.size w2 Q:=by rw[←hQ];exact hB6.setCell (p:=⟨w1.heap.size,1,none⟩) (Nat.le_refl _) _
      have HQ:=hQz hQ
      have HQP:=hQz hQp
      have HQB:=hQz (HB2.out.trans hQb)
      have h3s:w1.heap.size+1≤Q.heap.size:=by have:=hgrA.size;omega
      have HGQ:Hid (Gr (VRs clS f') Q (w1.heap.size+1) 38 7 (.slice (some ⟨g6,0,none⟩) (q+1) cap6) (ys.take q++[c]) (rs2++[[.int .i64 a0,.int .i64 a1,.int .u64 a2,.bool a3,.string a4,.int .i64 a5,.slice sa5 sl5 sc5]])):=HGP.out.keep (mvsV clS f') (fun b hb _=>hQo b (by omega)) (by omega)
      clear hQ hQp hQo hQs hQb hB6 hown6 hgr6 hgrA hat6 hb5 hb5' hy5 hp5 hp6 hy6 hsy0 hsp0 hy0 hGA hxr hgb hv5
      try go_wp2_with fail
      rw[HQ.out]
      clear c61 f61
      try go_wp2_with fail
      go_roundw
      case rel=>exact⟨q+1,_,_,by go_num,by omega,HQB.out,h3s,HQP.out,by rw[HTK2.out];exact HGQ.out⟩
      case measure=>simp[intOf];omega
    ·have hqn':¬(q:Int)<(mv:Int):=by omega
     have hqe:q=mv:=by omega
     have hte:ys.take q=ys:=List.take_of_length_le (by have:=HMV.out;omega)
     rw[hte]at HG2
     have hVF:=HG2.out.vals (fun b=>w1.heap.size+1≤b∧b<w2.heap.size) (fun b h1 h2=>⟨h1,h2⟩)
     have hbx2:w2.heap[w.heap.size+2]? = some (.cells #[.int .i64 7,.int .i64 0,.int .u64 0,.bool false,.string (mkB xs),.int .i64 xt,.slice fva j fvc] 38 (0,0)):=(HB2.out.block _ (by omega)).trans HBX.out
     have HBX2:=hQz hbx2
     have r0:=cell_at HX2.out 0 rfl
     have p1:=cell_at hbx2 6 rfl
     have hGW:Gr (FRs clS f') (w2.alloc (.cells #[.int .i64 ynum,.slice vva q vvc] 57)) (w.heap.size+3) 57 2 (.slice fva j fvc) (fl.take j) rs:=Gr.keep (mvsF clS f') HGR.out (fun b _ hb=>(alloc_heap_old _ _ _ (by have:=HB2.out.size;omega)).trans (HB2.out.block b hb)) (by simp;have:=HB2.out.size;omega)
     have hxr:FRs clS f' (w2.alloc (.cells #[.int .i64 ynum,.slice vva q vvc] 57)) (FarV (w2.alloc (.cells #[.int .i64 ynum,.slice vva q vvc] 57)) (w.heap.size+3) (.slice fva j fvc)) (ynum,ys) [.int .i64 ynum,.slice vva q vvc]:=⟨_,rfl,ValsG.mv (fun b hb=>alloc_heap_old _ _ _ hb.2) (fun b hb=>⟨by have:=hb.1;omega,by simp;have:=hb.2;omega,fun e=>by have:=HFB.out _ e;have:=hb.1;omega⟩) hVF⟩
     have HGW:=hQz hGW
     have HXR:=hQz hxr
     have hAs:(w2.alloc (.cells #[.int .i64 ynum,.slice vva q vvc] 57)).heap.size=w2.heap.size+1:=by simp
     have HAN:Hid ((w2.alloc (.cells #[.int .i64 ynum,.slice vva q vvc] 57)).heap[w2.heap.size]? = some (.cells #[.int .i64 ynum,.slice vva q vvc] 57 (0,0))):=alloc_heap_new _ _
     have HAB:Hid (Below w2.heap.size w2 (w2.alloc (.cells #[.int .i64 ynum,.slice vva q vvc] 57))):=(Below.refl _ _).alloc (Nat.le_refl _) _
     have HOW:Hid ((w2.alloc (.cells #[.int .i64 ynum,.slice vva q vvc] 57)).ownsRow (w.heap.size+3) 57 2 (.slice fva j fvc) j (rs.flatMap id)):=by
      refine(?_:World.ownsRow _ _ _ _ _ _ _)
      have:=hGW.own
      rw[HFVL.out]at this
      exact this
     have h12:=HB2.out.size
     clear hte hVF hbx2 hGW hxr hqe HIH HVA HFL2 HX2
     go_wp2_with (at_builtin;refine row_pushL (T:=57) (t:=36) Tryz.underlying36 infoNF rfl (by decide) HOW.out (by rw[hAs];omega) [.int .i64 ynum,.slice vva q vvc] rfl (by simp[Value.oneCell']) w2.heap.size HAN.out rfl _ _ rfl rfl rfl (by unfold maxLen;omega) (by omega) ?_)
     intro g6 cap6 W6 hown6 hgr6 hat6 hlt6
     have hgrA:w2.grownBy W6 (Value.slice fva j fvc).ownBlock:=((World.grownBy_alloc _ _ _).trans hgr6)
     have hp6:W6.heap[w.heap.size+2]? = some (.cells #[.int .i64 7,.int .i64 0,.int .u64 0,.bool false,.string (mkB xs),.int .i64 xt,.slice fva j fvc] 38 (0,0)):=((hgrA.block _ (by omega) (fun e=>by have:=HFB.out _ e.symm;omega)).trans HBX2.out)
     have c61:W6.cell? ⟨w.heap.size+2,6,none⟩=some (.slice fva j fvc):=(cell_at hp6 6 rfl)
     have f61:W6.frozen? ⟨w.heap.size+2,6,none⟩=false:=(frz_at hp6 6)
     have HOWN6:=hQz hown6
     have HGR6:=hQz hgr6
     have HGRA:=hQz hgrA
     have HP6:=hQz hp6
     have HAT6:=hQz hat6
     clear hown6 hgr6 hgrA hp6 hat6
     have HGP:=hQz (HGW.out.push (mvsF clS f') (x:=(ynum,ys)) (r:=[.int .i64 ynum,.slice vva q vvc]) rfl HXR.out HFVL.out (by rw[List.flatMap_id];exact HOWN6.out) HGR6.out (by rw[hAs];exact HAT6.out))
     have hg6:w.heap.size+3≤g6:=by
      rcases HAT6.out with h | h
      ·exact(HFB.out _ h).1
      ·omega
     obtain⟨Q,hQ⟩:∃ Q,W6.setCell ⟨w.heap.size+2,6,none⟩ (.slice (some ⟨g6,0,none⟩) (j+1) cap6)=Q:=⟨_,rfl⟩
     have hQp:Q.heap[w.heap.size+2]? = some (.cells #[.int .i64 7,.int .i64 0,.int .u64 0,.bool false,.string (mkB xs),.int .i64 xt,.slice (some ⟨g6,0,none⟩) (j+1) cap6] 38 (0,0)):=by rw[←hQ,setCell_heap HP6.out];rfl
     have hQo:∀ b,b≠w.heap.size+2→Q.heap[b]? = W6.heap[b]?:=fun b hb=>by rw[←hQ];exact Below.heap_setCell _ _ _ _ hb
     have hQs:Q.heap.size=W6.heap.size:=by rw[←hQ];simp
     have hB6:Below (w.heap.size+2) w2 W6:=(Below.refl _ w2).grown HGRA.out (by omega) (fun b hb=>by have:=(HFB.out b hb).1;omega)
     have hQb:Below (w.heap.size+2) w2 Q:=by rw[←hQ];exact hB6.setCell (p:=⟨w.heap.size+2,6,none⟩) (Nat.le_refl _) _
     have HQ:=hQz hQ
     have HQP:=hQz hQp
     have HQB:=hQz (HBE.out.trans ((HB2.out.mono (by omega)).trans hQb))
     have h3s:w.heap.size+3≤Q.heap.size:=by have:=HGRA.out.size;omega
     have HGQ:Hid (Gr (FRs clS f') Q (w.heap.size+3) 57 2 (.slice (some ⟨g6,0,none⟩) (j+1) cap6) (fl.take j++[(ynum,ys)]) (rs++[[.int .i64 ynum,.slice vva q vvc]])):=HGP.out.keep (mvsF clS f') (fun b hb _=>hQo b (by omega)) (by omega)
     clear hQ hQp hQo hQs hQb hB6 hg6
     try go_wp2_with fail
     rw[HQ.out]
     clear c61 f61
     try go_wp2_with fail
     go_roundw
     case rel=>exact⟨j+1,_,_,by go_num,by omega,HQB.out,h3s,HQP.out,by rw[HTK.out];exact HGQ.out⟩
     case measure=>simp[intOf];omega
  ·have hjn':¬(j:Int)<(n:Int):=by omega
   have hte:fl.take j=fl:=List.take_of_length_le (by have:=HN.out;omega)
   rw[hte]at HGR
   have hZ1:w1.heap[w.heap.size]? = some (.cells #[.int .i64 0,.int .i64 0,.int .u64 0,.bool false,.string ⟨#[]⟩,.int .i64 0,.slice none 0 0] 38 (0,0)):=(HBE.out.block _ (by omega)).trans HZV.out
   have q0:=cell_at HBX.out 0 rfl
   have q1:=cell_at HBX.out 1 rfl
   have q2:=cell_at HBX.out 2 rfl
   have q3:=cell_at HBX.out 3 rfl
   have q4:=cell_at HBX.out 4 rfl
   have q5:=cell_at HBX.out 5 rfl
   have q6:=cell_at HBX.out 6 rfl
   have k0:=cell_at hZ1 0 rfl
   have kf0:w1.frozen? ⟨w.heap.size,0,none⟩=false:=frz_at hZ1 0
   have k1:=cell_at hZ1 1 rfl
   have kf1:w1.frozen? ⟨w.heap.size,1,none⟩=false:=frz_at hZ1 1
   have k2:=cell_at hZ1 2 rfl
   have kf2:w1.frozen? ⟨w.heap.size,2,none⟩=false:=frz_at hZ1 2
   have k3:=cell_at hZ1 3 rfl
   have kf3:w1.frozen? ⟨w.heap.size,3,none⟩=false:=frz_at hZ1 3
   have k4:=cell_at hZ1 4 rfl
   have kf4:w1.frozen? ⟨w.heap.size,4,none⟩=false:=frz_at hZ1 4
   have k5:=cell_at hZ1 5 rfl
   have kf5:w1.frozen? ⟨w.heap.size,5,none⟩=false:=frz_at hZ1 5
   have k6:=cell_at hZ1 6 rfl
   have kf6:w1.frozen? ⟨w.heap.size,6,none⟩=false:=frz_at hZ1 6
   obtain⟨Q,hQ,hQc,hQo,hQs,hQb⟩:=set7_all hZ1 (.int .i64 7) (.int .i64 0) (.int .u64 0) (.bool false) (.string (mkB xs)) (.int .i64 xt) (.slice fva j fvc)
   have HQ:=hQz hQ
   have HQC:=hQz hQc
   have HBQ:=hQz (HBW.out.trans hQb)
   have HHQ:Hid (HeldG clS Q (fun b=>w.heap.size≤b∧b<Q.heap.size) f (.slice fva j fvc) fl):=by
    refine(?_:HeldG _ _ _ _ _ _)
    have hG:=HGR.out.fields (fun h0=>by subst h0;exact HHG.out.1) (fun b=>w.heap.size+3≤b∧b<w1.heap.size) (fun b h1 h2=>⟨h1,h2⟩)
    exact HeldG.mv (fun b hb=>hQo b (by have:=hb.1;omega)) (fun b hb=>⟨by have:=hb.1;omega,by rw[hQs];exact hb.2⟩) hG
   clear hte hBw hA1 hQ hQc hQo hQs hQb hZ1
   go_wp2_with fail
   rw[HQ.out]
   have r0:=cell_at HQC.out 0 rfl
   have r1:=cell_at HQC.out 1 rfl
   have r2:=cell_at HQC.out 2 rfl
   have r3:=cell_at HQC.out 3 rfl
   have r4:=cell_at HQC.out 4 rfl
   have r5:=cell_at HQC.out 5 rfl
   have r6:=cell_at HQC.out 6 rfl
   refine bodyPost_ret (v:=.agg #[.int .i64 7,.int .i64 0,.int .u64 0,.bool false,.string (mkB xs),.int .i64 xt,.slice fva j fvc]) (by simp[results,Tryz.results10,go_sem,r0,r1,r2,r3,r4,r5,r6]) rfl ?_
   exact⟨_,_,_,_,_,_,_,_,_,.slice fva j fvc,rfl,rfl,fun _=>HHQ.out,HBQ.out⟩
end Go.Proofs.YteajlfgbmefncaaGreatDoor
