/-
  Walks and plain words (LDt UpD).
-/
import Derived.Test.YteajlfgbmefncaaGreatDoorN44
import Derived.Test.YteajlfgbmefncaaGreatDoorN40
import Derived.Laws.BitsAllLaws
import Derived.Test.YteajlfgbmefncaaGreatDoorN0
import Derived.Test.YteajlfgbmefncaaGreatDoorN5
import Derived.Test.YteajlfgbmefncaaGreatDoorChecked
import Derived.OpenShut
import Derived.ProofKit
import Derived.Lib.SmallJoins
import Derived.Lib.ItoaMem
import Derived.Lib.SlicesS
import Derived.Deep.Cut
import Derived.Deep.DeepCutAuto
import Derived.BigQuiet
import Derived.Deep.QuietTactic
import Derived.Deep.RegionLaw
import Derived.Deep.RegionHeldLaw
import Derived.Deep.AppendLies
import Derived.Laws.AppendOwn
import Derived.OwnWalk
import Derived.Maps.AppendAt
import Derived.Lib.Hide
namespace Go.Proofs.YteajlfgbmefncaaGreatDoor
set_option linter.unusedVariables false
open Go.ChangeShapes Go.WideShapes Go.ChangeAt Go.RowKit

theorem bin_take {w:World} {S:Nat→Prop} {a:Option Addr} {c:Nat} {zs:List Int} (h:BIn w S a c zs) (k:Nat):BIn w S a c (zs.take k):=by
 obtain⟨h1,h2,h3,h4,h5⟩:=h
 have hl:(zs.take k).length≤zs.length:=by rw[List.length_take];omega
 refine⟨by omega,fun h=>by have:=h2 h;omega,?_,by omega,h5⟩
 rcases h3 with rfl | ⟨b,off,ha,hs,hh⟩
 ·left;simp
 ·right
  refine⟨b,off,ha,hs,fun j z hj=>hh.1 j z ?_,fun z hz=>hh.2 z (List.mem_of_mem_take hz)⟩
  rw[List.getElem?_take]at hj
  split at hj
  ·exact hj
  ·cases hj
theorem stepE_appendW {w:World} {ops:Array Oper} {o:Oper} {a:Act} {K:Act→World→Prop} {Q:Exit→Act→World→Prop} {E:Prop} (hw:Region.wanted o (yielded ops a.tmps)=true) (s x:Operand)
  (ho:o.op=.call { callee:=.builtin .append,args:=#[s,x],argTypes:=#[27,27] })
  (base:Nat) (v:Value) (xs:List Int) (hs:a.eval s=v) (hown:OwnE w base v xs)
  (ao:Option Addr) (m c:Nat) (zs:List Int) (hx:a.eval x=.slice ao m c) (hB:IsB w ao m zs) (hno:ao=none→m=0∧c=0)
  (hbd:xs.length+m≤140737488355328) (hbase:base≤w.heap.size)
  (h:∀ v' w',OwnE w' base v' (xs++zs)→Below base w w'→K (a.put o.dst v') w'):if Region.wanted o (yielded ops a.tmps)=true then Oper.wp Tryz.prog o a w K Q else E:=by
 rw[if_pos hw]
 obtain⟨v',w',hrun,h1,h2⟩:=runE_append w o.type base v xs hown ao m c zs hB hno hbd hbase
 unfold Oper.wp
 simp[execOp,ho,resolve,invoke,builtin,hs,hx,hrun,Result.andThen]
 exact h v' w' h1 h2
theorem own_setD {w:World} {base:Nat} {v:Value} {xs:List Int} (h:OwnB w base v xs) (hk:1≤xs.length) :
  ∃ g c,v=.slice (some ⟨g,0,none⟩) xs.length c∧base≤g∧g<w.heap.size∧(∀ k z,xs[k]? = some z→w.cell? ⟨g,k,none⟩=some (.int .u8 z))∧(∀ k,k<xs.length→w.frozen? ⟨g,k,none⟩=false)∧
   ∀ k y,k<xs.length→OwnB (w.setCell ⟨g,k,none⟩ (.int .u8 y)) base v (xs.set k y):=by
 obtain⟨_,⟨h1,h0⟩ | ⟨g,c,cur,rfl,hg,hh,h3,h4,h5,h6⟩⟩:=h
 ·omega
 ·rw[Nat.mul_one]at h6 h5
  refine⟨g,c,rfl,hg,(Array.getElem?_eq_some_iff.1 hh).1,fun k z hz=>?_,fun k hk=>by simp[World.frozen?,hh],fun k y hk2=>⟨by simp,.inr ⟨g,c,cur.setIfInBounds k (.int .u8 y),by simp,hg,?_,by simpa using h3,h4,by simpa using h5,?_⟩⟩⟩
  ·have hkl:k<xs.length:=(List.getElem?_eq_some_iff.1 hz).1
   have e:cur.toList[k]? = some (.int .u8 z):=by
    have:(cur.toList.take xs.length)[k]? = (xs.map (Value.int .u8))[k]?:=by rw[h6]
    rw[List.getElem?_take,if_pos hkl,List.getElem?_map,hz]at this
    simpa using this
   simp only[World.cell?,hh]
   simpa using e
  ·rw[setCell_eq_setRow _ _ _ _ _ _ _ hh,setRow_heap w g cur _ 5 _ hh]
  ·rw[Nat.mul_one,List.length_set,Array.toList_setIfInBounds,List.take_set,h6,List.map_set]
theorem xor_turnD (z y:Int) (h0:0≤z) (h1:z≤255) (g0:0≤y) (g1:y≤255):0≤bits .xor .u8 z y∧bits .xor .u8 z y≤255∧(bits .xor .u8 z y=z↔y=0):=by
 obtain⟨Z,rfl⟩:=Int.eq_ofNat_of_zero_le h0
 obtain⟨Y,rfl⟩:=Int.eq_ofNat_of_zero_le g0
 have hlt:Z ^^^ Y<2 ^ 8:=Nat.xor_lt_two_pow (by omega) (by omega)
 have e:bits .xor .u8 (Z:Int) (Y:Int)=((Z ^^^ Y:Nat):Int):=u8_xor_nat Z Y (by omega) (by omega)
 rw[e]
 refine⟨by omega,by omega,?_⟩
 constructor
 ·intro h
  have h2:Z ^^^ Y=Z ^^^ 0:=by rw[Nat.xor_zero];omega
  have h3:Y=0:=by
   have:=congrArg (fun q=>Z ^^^ q) h2
   simpa [←Nat.xor_assoc]using this
  omega
 ·intro h
  have:Y=0:=by omega
  subst this
  simp
set_option maxHeartbeats 32000000 in
set_option maxRecDepth 20000 in
theorem decodeTurned_any (ma ea ta:Option Addr) (nm ne nt mc ec tc:Nat) (s:SC) (t:Int) (f:Nat) (x:Nd) (xa:Option Addr) (xl xc:Nat) (w:World) (hT:Tabs w) (hnm:s.ms.length=nm) (hne:s.es.length=ne) (hnt:s.ts.length=nt) (hbig:BigS s) (hH:HeldSc w (fun b=>b<w.heap.size) (.slice ma nm mc) (.slice ea ne ec) (.slice ta nt tc) s) (hG:HeldG rawS w (fun b=>b<w.heap.size) f (.slice xa xl xc) x.fields) (hfit:FitG 140737488355328 140737488355328 f x) (hrng:RngG f x) (at2 by2:Int) (ha0:0≤at2) (ha1:at2≤18446744073709551615) (hy0:0≤by2) (hy1:by2≤255) (ga:Option Addr) (gc:Nat) (gs:List Int) (hB:BIn w (fun b=>b<w.heap.size) ga gc gs) :
  Calls Tryz.prog 4 #[.agg #[.slice ma nm mc,.slice ea ne ec,.slice ta nt tc],.int .i64 t,.agg #[.int .i64 x.kind,.int .i64 x.n,.int .u64 x.u,.bool x.b,.string (mkB x.s),.int .i64 x.type,.slice xa xl xc],.int .u64 at2,.int .u8 by2,.slice ga gs.length gc] w fun e w'=>e=.returned (.bool true)∧Below w.heap.size w w':=by
 obtain⟨Y,hY,hC,hb,hYs⟩:=box_new w #[.slice ma nm mc,.slice ea ne ec,.slice ta nt tc] 26
 obtain⟨V,hV,hD,hVb,hVs⟩:=box_new Y #[.int .i64 x.kind,.int .i64 x.n,.int .u64 x.u,.bool x.b,.string (mkB x.s),.int .i64 x.type,.slice xa xl xc] 38
 rw[hYs]at hD
 have HY:=hQz hY
 have HV:=hQz hV
 have hBV:=hb.trans (hVb.mono hb.size)
 have HBV:=hQz hBV
 have hCV:=(hVb.block _ (by omega)).trans hC
 have hVl:w.heap.size+2≤V.heap.size:=by omega
 have HWB:Hid (∀ W,Below V.heap.size V W→Below w.heap.size w W):=fun W hW=>hBV.trans (hW.mono hBV.size)
 have HG:Hid (∀ W,Below w.heap.size w W→HeldG rawS W (fun b=>b<W.heap.size) f (.slice xa xl xc) x.fields):=fun W hW=>HeldG.mv (fun b hb=>hW.block b hb) (fun b hb=>by have hb':b<w.heap.size:=hb;have:=hW.size;omega) hG
 have HA:Hid (∀ W,Below V.heap.size V W→Calls Tryz.prog 5 #[] W fun e w'=>e=.returned (.bool true)∧Below V.heap.size V w'):=fun W hW=>(awake11_any W (tabs_below hT (HWB.out W hW))).mono fun e w' ⟨h1,h2⟩=>⟨h1,hW.trans (h2.mono hW.size)⟩
 have HFW:Hid (∀ W,Below V.heap.size V W→Calls Tryz.prog 11 #[.agg #[.slice ma nm mc,.slice ea ne ec,.slice ta nt tc],.agg #[.int .i64 x.kind,.int .i64 x.n,.int .u64 x.u,.bool x.b,.string (mkB x.s),.int .i64 x.type,.slice xa xl xc]] W fun e w'=>FewAns s f x V e w'):=fun W hW=>(few9_any ma ea ta nm ne nt mc ec tc s f x xa xl xc W hnm hne hnt hbig (heldSc_mv hH (HWB.out W hW)) (HG.out W (HWB.out W hW)) hfit).mono fun e w' ⟨b,h1,h2,h3⟩=>⟨b,h1,h2,hW.trans (h3.mono hW.size)⟩
 have HTH:Hid (FitG 100000 10000 f x→∀ W,Below V.heap.size V W→Calls Tryz.prog 13 #[.agg #[.int .i64 x.kind,.int .i64 x.n,.int .u64 x.u,.bool x.b,.string (mkB x.s),.int .i64 x.type,.slice xa xl xc]] W fun e w'=>TheirAns f W x e w'):=fun hf W hW=>theirsN_any f x (.slice xa xl xc) W hf (HG.out W (HWB.out W hW))
 have HEN:Hid (SmS s→FitG 100000 10000 f x→wtN f x≤400→∀ (W:World) (v:Value),Below V.heap.size V W→HeldV W (fun b=>b<W.heap.size) f v x→Calls Tryz.prog 12 #[.agg #[.slice ma nm mc,.slice ea ne ec,.slice ta nt tc],.int .i64 t,v] W fun e w'=>EnU s f t x V W e w'):=by
  refine(?_:_→_→_→∀ (W:World) (v:Value),_→_→_)
  intro hs hf hwt W v hW hv
  have hbn:bndN f x≤1000000000:=by have:=bnd_wt f x;omega
  exact(encode_any ma ea ta nm ne nt mc ec tc s f t W (tabs_below hT (HWB.out W hW)) hnm hne hnt (fitS_of hs) (heldSc_mv hH (HWB.out W hW)) v x hv hf hrng hbn).mono fun e w' h=>enU_of h hW
 have HDB:Hid (∀ (zs:List Int) (a:Option Addr) (c:Nat) (W:World),Below V.heap.size V W→BIn W (fun b=>b<W.heap.size) a c zs→Calls Tryz.prog 3 #[.agg #[.slice ma nm mc,.slice ea ne ec,.slice ta nt tc],.int .i64 t,.slice a zs.length c] W fun e w'=>e=.returned (.bool true)∧Below W.heap.size W w'):=fun zs a c W hW hB=>decodeBytes_any ma ea ta nm ne nt mc ec tc s t a c zs W (tabs_below hT (HWB.out W hW)) hnm hne hnt hbig (heldSc_mv hH (HWB.out W hW)) hB
 have HGB:Hid (∀ W,Below V.heap.size V W→BIn W (fun b=>b<W.heap.size) ga gc gs):=fun W hW=>hB.mv (fun b hb=>(HWB.out W hW).block b hb) (fun b hb=>by have hb':b<w.heap.size:=hb;have:=(HWB.out W hW).size;omega)
 have s0:∀ W,Below V.heap.size V W→W.cell? ⟨w.heap.size,0,none⟩=some (.slice ma nm mc):=fun W hW=>(hW.cell (by simp;omega)).trans (cell_at hCV 0 rfl)
 have s1:∀ W,Below V.heap.size V W→W.cell? ⟨w.heap.size,1,none⟩=some (.slice ea ne ec):=fun W hW=>(hW.cell (by simp;omega)).trans (cell_at hCV 1 rfl)
 have s2:∀ W,Below V.heap.size V W→W.cell? ⟨w.heap.size,2,none⟩=some (.slice ta nt tc):=fun W hW=>(hW.cell (by simp;omega)).trans (cell_at hCV 2 rfl)
 have n0:∀ W,Below V.heap.size V W→W.cell? ⟨w.heap.size+1,0,none⟩=some (.int .i64 x.kind):=fun W hW=>(hW.cell (by simp;omega)).trans (cell_at hD 0 rfl)
 have n1:∀ W,Below V.heap.size V W→W.cell? ⟨w.heap.size+1,1,none⟩=some (.int .i64 x.n):=fun W hW=>(hW.cell (by simp;omega)).trans (cell_at hD 1 rfl)
 have n2:∀ W,Below V.heap.size V W→W.cell? ⟨w.heap.size+1,2,none⟩=some (.int .u64 x.u):=fun W hW=>(hW.cell (by simp;omega)).trans (cell_at hD 2 rfl)
 have n3:∀ W,Below V.heap.size V W→W.cell? ⟨w.heap.size+1,3,none⟩=some (.bool x.b):=fun W hW=>(hW.cell (by simp;omega)).trans (cell_at hD 3 rfl)
 have n4:∀ W,Below V.heap.size V W→W.cell? ⟨w.heap.size+1,4,none⟩=some (.string (mkB x.s)):=fun W hW=>(hW.cell (by simp;omega)).trans (cell_at hD 4 rfl)
 have n5:∀ W,Below V.heap.size V W→W.cell? ⟨w.heap.size+1,5,none⟩=some (.int .i64 x.type):=fun W hW=>(hW.cell (by simp;omega)).trans (cell_at hD 5 rfl)
 have n6:∀ W,Below V.heap.size V W→W.cell? ⟨w.heap.size+1,6,none⟩=some (.slice xa xl xc):=fun W hW=>(hW.cell (by simp;omega)).trans (cell_at hD 6 rfl)
 have hS0:Below V.heap.size V V:=Below.refl _ _
 clear hY hC hb hYs hV hD hVb hVs hBV hCV hH hG hfit hbig hnm hne hnt hT hrng hB
 go_enter Tryz.func4,Tryz.ntmps4
 go_upto_region 1 with fail
 rw[HY.out,HV.out]
 go_wp2_with fail
 refine(HA.out _ hS0).mono ?_
 rintro e W1 ⟨rfl,hS1⟩
 clear hS0
 have b0:=s0 W1 hS1
 have b1:=s1 W1 hS1
 have b2:=s2 W1 hS1
 have k0:=n0 W1 hS1
 have k1:=n1 W1 hS1
 have k2:=n2 W1 hS1
 have k3:=n3 W1 hS1
 have k4:=n4 W1 hS1
 have k5:=n5 W1 hS1
 have k6:=n6 W1 hS1
 go_wp2_with fail
 refine(HFW.out _ hS1).mono ?_
 rintro e W2 ⟨b,rfl,hsm,hS0⟩
 have HSM:=hQz hsm
 clear hS1 hsm b0 b1 b2 k0 k1 k2 k3 k4 k5 k6
 cases b
 case false=>
  go_wp2_with fail
  refine(HA.out _ hS0).mono ?_
  rintro e W3 ⟨rfl,hS1⟩
  have HE:=hQz (HWB.out _ hS1)
  go_wp2_with fail
  go_ret
  exact⟨rfl,HE.out⟩
 by_cases hl5:gs.length≤500
 case neg=>
  have hl6:(500:Int)<(gs.length:Int):=by omega
  go_wp2_with fail
  refine(HA.out _ hS0).mono ?_
  rintro e W3 ⟨rfl,hS1⟩
  have HE:=hQz (HWB.out _ hS1)
  go_wp2_with fail
  go_ret
  exact⟨rfl,HE.out⟩
 have hl6:¬(500:Int)<(gs.length:Int):=by omega
 clear HA
 obtain⟨hss,hff,hwt⟩:=HSM.out (by simp)
 have HTH2:=hQz (HTH.out hff)
 have HEN2:=hQz (HEN.out hss hff hwt)
 clear HTH HEN hss hff hwt HSM HFW
 go_upto_region 3 with fail
 have hS1:Below V.heap.size V W2.drew:=hS0.drew
 clear hS0
 have hS0:=hS1
 clear hS1
 refine wp_region_held_drew (S:=fun W=>Below V.heap.size V W) (by kernel_rfl) hS0 (fun _=>?_)
 refine T_on 0 (.agg #[.slice ma nm mc,.slice ea ne ec,.slice ta nt tc]) rfl (by kernel_rfl) (fun _ _ _ h=>h) hS0 (fun W hW=>by have c0:=s0 W hW;have c1:=s1 W hW;have c2:=s2 W hW;go_simp) ?_
 refine T_on 1 (.int .i64 t) rfl (by kernel_rfl) (fun _ _ _ h=>h) hS0 (fun W hW=>by go_simp) ?_
 refine T_on 2 (.agg #[.int .i64 x.kind,.int .i64 x.n,.int .u64 x.u,.bool x.b,.string (mkB x.s),.int .i64 x.type,.slice xa xl xc]) rfl (by kernel_rfl) (fun _ _ _ h=>h) hS0 (fun W hW=>by have c0:=n0 W hW;have c1:=n1 W hW;have c2:=n2 W hW;have c3:=n3 W hW;have c4:=n4 W hW;have c5:=n5 W hW;have c6:=n6 W hW;go_simp) ?_
 refine T_call 3 (by kernel_rfl) rfl (fun K hK=>?_)
 go_simp
 refine(HTH2.out _ hS0).mono ?_
 rintro e U1 ⟨v1,rfl,hv1,hb1⟩
 have hS1:=hS0.trans (hb1.mono hS0.size)
 clear hb1
 clear hS0
 have hS0:=hS1
 clear hS1
 have HV1:Hid (HeldV U1 (fun b=>b<U1.heap.size) f v1 x):=hv1.mv (fun _ _=>rfl) (fun b hb=>hb.2)
 clear hv1
 dsimp only
 refine hK.out _ _ hS0 (fun _=>?_)
 clear hK K
 refine T_call 4 (by kernel_rfl) rfl (fun K hK=>?_)
 go_simp
 refine(HEN2.out _ _ hS0 HV1.out).mono ?_
 rintro e U2 ⟨ab,zb,cb,eb,rfl,hbi,hsp,hS1,_⟩
 clear hS0
 have hS0:=hS1
 clear hS1
 have HBI:=hQz hbi
 have HSP:=hQz hsp
 clear hbi hsp
 dsimp only
 refine hK.out _ _ hS0 (fun _=>?_)
 clear hK K
 refine T_on 5 (.tuple #[.slice ab zb.length cb,.int .i64 eb]) rfl (by kernel_rfl) (fun _ _ _ h=>h) hS0 (fun W hW=>by go_simp) ?_
 refine T_on 6 (.slice ab zb.length cb) rfl (by kernel_rfl) (fun _ _ _ h=>h) hS0 (fun W hW=>by go_simp) ?_
 refine T_on 7 (.int .i64 eb) rfl (by kernel_rfl) (fun _ _ _ h=>h) hS0 (fun W hW=>by go_simp) ?_
 refine T_on 8 (.slice ab zb.length cb) rfl (by kernel_rfl) (fun _ _ _ h=>h) hS0 (fun W hW=>by go_simp) ?_
 refine T_on 9 (.int .i64 eb) rfl (by kernel_rfl) (fun _ _ _ h=>h) hS0 (fun W hW=>by go_simp) ?_
 refine wpAnyH_done (by kernel_rfl) ?_ _
 go_simp
 have hzl:zb.length≤4096:=by
  rcases HSP.out with ⟨_,h,_⟩ | ⟨_,h,_⟩
  ·rw[h];simp
  ·rw[h];unfold encLz
   split
   ·omega
   ·simp
 have HZB:Hid (IsBs zb):=fun z hz=>isB_bytes HBI.out.isB z hz
 clear HSP HV1 HEN2 HTH2
 by_cases he0:eb=0
 case neg=>
  have hne0:(eb == 0)=false:=by simp;exact he0
  have hne1:(eb != 0)=true:=by simp;exact he0
  have HE:=hQz (HWB.out _ hS0)
  clear he0
  go_wp2_with fail
  go_ret
  exact⟨rfl,HE.out⟩
 subst he0
 obtain⟨n3,hn3⟩:∃ n,zb.length=n:=⟨_,rfl⟩
 have HN3:=hQz hn3
 rw[hn3]at hzl ⊢
 by_cases hz0:n3=0
 case pos=>
  subst hz0
  have HE:=hQz (HWB.out _ hS0)
  go_wp2_with fail
  go_ret
  exact⟨rfl,HE.out⟩
 have hzp:((n3:Int) == 0)=false:=beq_eq_false_iff_ne.2 (by omega)
 obtain⟨k0,hk0⟩:=Int.eq_ofNat_of_zero_le (Int.emod_nonneg at2 (show (n3:Int)≠0 by omega))
 have hkL:k0<n3:=by
  have:=Int.emod_lt_of_pos at2 (show (0:Int)<n3 by omega)
  rw[hk0]at this;omega
 have hnz:¬(n3:Int)=0:=by omega
 have hkn:(k0:Int)<n3:=by omega
 have hk0i:(0:Int)≤(k0:Int):=by omega
 have HO5:=hQz (own_blk U2 [] (by simp))
 have HX5:Hid (IsB (blk U2 5 []) ab n3 zb):=by
  refine(?_:IsB _ _ _ _)
  have h1:=isB_old HBI.out.isB ((Below.refl _ U2).alloc (Nat.le_refl _) (.cells #[] 5))
  rw[hn3]at h1
  exact h1
 have HXN:Hid (ab=none→n3=0∧cb=0):=by
  refine(?_:_→_)
  rw[←hn3];exact HBI.out.2.1
 clear hn3 hz0
 go_upto_region 7 with fail
 go_upto_region 9 with (at_builtin;(refine wpB_append rfl (.tmp 52) (.tmp 53) rfl U2.heap.size (.slice (some ⟨U2.heap.size,0,none⟩) 0 0) [] rfl HO5.out ab n3 cb zb rfl HX5.out HXN.out (by simp;omega) (by simp) ?_;intro v7 w7 hown7 hg7;simp only[List.nil_append]at hown7;obtain⟨g,c7,rfl,hg,hgl,hcl,hfr,hst⟩:=own_setD hown7 (by rw[HN3.out];omega);rw[HN3.out]at hfr hst ⊢;obtain⟨z,hz⟩:∃ z,zb[k0]? = some z:=⟨_,List.getElem?_eq_getElem (by rw[HN3.out];exact hkL)⟩;have hzb:=HZB.out z (List.mem_of_getElem? hz);have hzc:=hcl k0 z hz;have hzf:=hfr k0 hkL;have HST:=hQz (hst k0);have hb7:Below U2.heap.size U2 w7:=((Below.refl U2.heap.size U2).alloc (Nat.le_refl _) _).grown hg7 (by simp) (by intro q hq;simp[Value.ownBlock]at hq;omega);have HB7:=hQz hb7;clear hown7 hg7 hcl hfr hst hz hb7))
 have hxt:=xor_turnD z by2 hzb.1 hzb.2 hy0 hy1
 obtain⟨y,hy⟩:∃ y,bits .xor .u8 z by2=y:=⟨_,rfl⟩
 rw[hy]at hxt ⊢
 have ho8:=HST.out y hkL
 have hb8:Below U2.heap.size U2 (w7.setCell ⟨g,k0,none⟩ (.int .u8 y)):=HB7.out.setCell (p:=⟨g,k0,none⟩) hg _
 obtain⟨W8,hW8⟩:∃ W8,w7.setCell ⟨g,k0,none⟩ (.int .u8 y)=W8:=⟨_,rfl⟩
 rw[hW8]at ho8 hb8 ⊢
 have hby8:∀ x∈zb.set k0 y,0≤x∧x≤255:=fun x hx=>by
  rcases List.mem_or_eq_of_mem_set hx with h | rfl
  ·exact HZB.out x h
  ·exact⟨hxt.1,hxt.2.1⟩
 obtain⟨a8,c8,hv8,hbi8⟩:=own_BIn ho8 hby8 (by rw[List.length_set,HN3.out];omega)
 obtain⟨rfl,hl8,rfl⟩:=Value.slice.inj hv8
 have HT8:Hid (BIn W8 (fun b=>b<W8.heap.size) (some ⟨g,0,none⟩) c7 (zb.set k0 y)):=hbi8.mv (fun _ _=>rfl) (fun b hb=>hb.2)
 have HL8:Hid ((zb.set k0 y).length=n3):=hl8.symm
 have hV8:Below V.heap.size V W8:=hS0.trans (hb8.mono hS0.size)
 have HV8:=hQz hV8
 have HB8:Hid (BIn W8 (fun b=>b<W8.heap.size) ab cb zb):=HBI.out.mv (fun b hb=>hb8.block b hb) (fun b hb=>by have hb':b<U2.heap.size:=hb;have:=hb8.size;omega)
 have HK8:Hid (BIn W8 (fun b=>b<W8.heap.size) ab cb (zb.take k0)):=bin_take HB8.out k0
 have HLK:Hid ((zb.take k0).length=k0):=by
  refine(?_:_=_)
  rw[List.length_take,HN3.out];omega
 have HMV:Hid (∀ (W:World) (a:Option Addr) (c:Nat) (zs:List Int),Below W8.heap.size W8 W→BIn W8 (fun b=>b<W8.heap.size) a c zs→BIn W (fun b=>b<W.heap.size) a c zs):=fun W a c zs hW h=>h.mv (fun b hb=>hW.block b hb) (fun b hb=>by have hb':b<W8.heap.size:=hb;have:=hW.size;omega)
 have HVW:Hid (∀ W,Below W8.heap.size W8 W→Below V.heap.size V W):=fun W hW=>hV8.trans (hW.mono hV8.size)
 have hct:=fun W=>cutS_to ab n3 cb k0 (by omega) (by have:=HB8.out.2.2.2.1;rw[HN3.out]at this;exact this) W
 clear hW8 HST hb8 hzc hzf hby8 HB7 HO5 HX5 hg hgl ho8 hv8 hl8 hbi8 hxt hS0 hV8 HBI
 have hS0:Below W8.heap.size W8 W8.drew:=(Below.refl _ _).drew
 refine wp_region_held_drew (S:=fun W=>Below W8.heap.size W8 W) (by kernel_rfl) hS0 (fun _=>?_)
 refine T_on 0 (.agg #[.slice ma nm mc,.slice ea ne ec,.slice ta nt tc]) rfl (by kernel_rfl) (fun _ _ _ h=>h) hS0 (fun W hW=>by have c0:=s0 W (HVW.out W hW);have c1:=s1 W (HVW.out W hW);have c2:=s2 W (HVW.out W hW);go_simp) ?_
 refine T_on 1 (.int .i64 t) rfl (by kernel_rfl) (fun _ _ _ h=>h) hS0 (fun W hW=>by go_simp) ?_
 refine T_on 2 (.slice ab n3 cb) rfl (by kernel_rfl) (fun _ _ _ h=>h) hS0 (fun W hW=>by go_simp) ?_
 refine T_on 3 (.int .i64 (k0:Int)) rfl (by kernel_rfl) (fun _ _ _ h=>h) hS0 (fun W hW=>by go_simp) ?_
 refine T_on 4 (.slice ab k0 cb) rfl (by kernel_rfl) (fun _ _ _ h=>h) hS0 (fun W hW=>by have c0:=hct W;go_simp) ?_
 have hd:=HDB.out _ ab cb _ (HVW.out _ hS0) (HMV.out _ _ _ _ hS0 HK8.out)
 rw[HLK.out]at hd
 refine T_call 5 (by kernel_rfl) rfl (fun K hK=>?_)
 go_simp
 refine hd.mono ?_
 rintro e U3 ⟨rfl,hb3⟩
 have hS1:Below W8.heap.size W8 U3:=hS0.trans (hb3.mono hS0.size)
 clear hb3 hS0 hd
 have hS0:=hS1
 clear hS1
 dsimp only
 refine hK.out _ _ hS0 (fun _=>?_)
 clear hK K
 refine T_on 6 (.bool true) rfl (by kernel_rfl) (fun _ _ _ h=>h) hS0 (fun W hW=>by go_simp) ?_
 refine T_on 7 (.agg #[.slice ma nm mc,.slice ea ne ec,.slice ta nt tc]) rfl (by kernel_rfl) (fun _ _ _ h=>h) hS0 (fun W hW=>by have c0:=s0 W (HVW.out W hW);have c1:=s1 W (HVW.out W hW);have c2:=s2 W (HVW.out W hW);go_simp) ?_
 refine T_on 8 (.int .i64 t) rfl (by kernel_rfl) (fun _ _ _ h=>h) hS0 (fun W hW=>by go_simp) ?_
 refine T_on 9 (.slice (some ⟨g,0,none⟩) n3 c7) rfl (by kernel_rfl) (fun _ _ _ h=>h) hS0 (fun W hW=>by go_simp) ?_
 have hd:=HDB.out _ (some ⟨g,0,none⟩) c7 _ (HVW.out _ hS0) (HMV.out _ _ _ _ hS0 HT8.out)
 rw[HL8.out]at hd
 refine T_call 10 (by kernel_rfl) rfl (fun K hK=>?_)
 go_simp
 refine hd.mono ?_
 rintro e U4 ⟨rfl,hb3⟩
 have hS1:Below W8.heap.size W8 U4:=hS0.trans (hb3.mono hS0.size)
 clear hb3 hS0 hd
 have hS0:=hS1
 clear hS1
 dsimp only
 refine hK.out _ _ hS0 (fun _=>?_)
 clear hK K
 refine T_on 11 (.bool true) rfl (by kernel_rfl) (fun _ _ _ h=>h) hS0 (fun W hW=>by go_simp) ?_
 refine T_on 12 (.bool true) rfl (by kernel_rfl) (fun _ _ _ h=>h) hS0 (fun W hW=>by go_simp) ?_
 refine T_on 13 (.agg #[.slice ma nm mc,.slice ea ne ec,.slice ta nt tc]) rfl (by kernel_rfl) (fun _ _ _ h=>h) hS0 (fun W hW=>by have c0:=s0 W (HVW.out W hW);have c1:=s1 W (HVW.out W hW);have c2:=s2 W (HVW.out W hW);go_simp) ?_
 refine T_on 14 (.int .i64 t) rfl (by kernel_rfl) (fun _ _ _ h=>h) hS0 (fun W hW=>by go_simp) ?_
 refine T_on 16 (.slice ab n3 cb) rfl (by kernel_rfl) (fun _ _ _ h=>h) hS0 (fun W hW=>by go_simp) ?_
 refine T_on 18 (.slice ga gs.length gc) rfl (by kernel_rfl) (fun _ _ _ h=>h) hS0 (fun W hW=>by go_simp) ?_
 refine T_call 15 (by kernel_rfl) rfl (fun K hK=>?_)
 go_simp
 have hS1:Below W8.heap.size W8 (U4.alloc (.cells #[] 5)):=hS0.alloc hS0.size _
 have h4a:(U4.alloc (.cells #[] 5)).heap.size=U4.heap.size+1:=by simp
 refine hK.out _ _ hS1 (fun _=>?_)
 clear hK K
 generalize U4.alloc (.cells #[] 5)=U5 at *
 have h5s:=hS0.size
 have hb5:IsB U5 ab n3 zb:=by
  have h1:=(HMV.out U5 _ _ _ hS1 HB8.out).isB
  rw[HN3.out]at h1
  exact h1
 refine T_call 17 (by kernel_rfl) rfl (fun K hK=>?_)
 refine stepE_appendW (by kernel_rfl) (.tmp 79) (.tmp 80) rfl W8.heap.size (.slice (some ⟨U4.heap.size,0,none⟩) 0 0) [] (by go_simp) (.inr ⟨rfl,_,rfl⟩) ab n3 cb zb (by go_simp) hb5 HXN.out (by simp;omega) (by omega) ?_
 intro v6 U6 hown6 hb6
 rw[List.nil_append]at hown6
 have hS2:Below W8.heap.size W8 U6:=hS1.trans hb6
 refine hK.out _ _ hS2 (fun _=>?_)
 clear hK K hb5 hb6
 have hgb:=HGB.out U6 (HVW.out U6 hS2)
 refine T_call 19 (by kernel_rfl) rfl (fun K hK=>?_)
 refine stepE_appendW (by kernel_rfl) (.tmp 81) (.tmp 82) rfl W8.heap.size v6 zb (by go_simp) hown6 ga gs.length gc gs (by go_simp) hgb.isB hgb.2.1 (by rw[HN3.out];omega) hS2.size ?_
 intro v7 U7 hown7 hb7
 have hS3:Below W8.heap.size W8 U7:=hS2.trans hb7
 have hby:∀ x∈zb++gs,0≤x∧x≤255:=fun x hx=>by
  rcases List.mem_append.1 hx with h | h
  ·exact HZB.out x h
  ·exact isB_bytes hgb.isB x h
 obtain⟨a7,c8,rfl,hbi7⟩:=ownE_BIn hown7 hby (by rw[List.length_append,HN3.out];omega)
 have hd:=HDB.out _ a7 c8 _ (HVW.out _ hS3) (hbi7.mv (fun _ _=>rfl) (fun b hb=>hb.2):BIn U7 (fun b=>b<U7.heap.size) a7 c8 (zb++gs))
 refine hK.out _ _ hS3 (fun _=>?_)
 clear hK K hown6 hown7 hb7 hgb hby hbi7 hS0 hS1 hS2
 refine T_call 20 (by kernel_rfl) rfl (fun K hK=>?_)
 go_simp
 try rw[List.length_append]at hd
 try simp only[Int.natCast_add]at *
 refine hd.mono ?_
 rintro e U8 ⟨rfl,hb8⟩
 have hS0:Below W8.heap.size W8 U8:=hS3.trans (hb8.mono hS3.size)
 clear hb8 hd hS3
 dsimp only
 refine hK.out _ _ hS0 (fun _=>?_)
 clear hK K
 refine T_on 21 (.bool true) rfl (by kernel_rfl) (fun _ _ _ h=>h) hS0 (fun W hW=>by go_simp) ?_
 refine T_on 22 (.bool true) rfl (by kernel_rfl) (fun _ _ _ h=>h) hS0 (fun W hW=>by go_simp) ?_
 refine wpAnyH_done (by kernel_rfl) ?_ _
 go_simp
 have HE:=hQz (HWB.out _ (HVW.out _ hS0))
 go_wp2_with fail
 go_ret
 exact⟨rfl,HE.out⟩
open Go.Joins
def Wok2 {H:Type} (d:DataW H) (t:TypeId):Prop:=∀ n∈DataW.weights Tryz.prog t d,n≤140737488351232
theorem wok_all {H:Type} {e:TypeId}:∀ {l:List (DataW H)} {d:DataW H},d∈l→(∀ n∈DataW.weightsAll Tryz.prog e l,n≤140737488351232)→Wok2 d e
 | x :: r,d,hd,h=>by
  rw[DataW.weightsAll]at h
  rcases List.mem_cons.1 hd with rfl | hd
  ·exact fun n hn=>h n (List.mem_append_left _ hn)
  ·exact wok_all hd (fun n hn=>h n (List.mem_append_right _ hn))
theorem wok_slice {H:Type} {t e:TypeId} {elems spare:List (DataW H)} (ht:Tryz.prog.underlying t=some (.slice e)) (h:Wok2 (.slice elems spare) t) :
  (elems.length+spare.length)*Tryz.prog.bytesOf e≤140737488351232∧∀ d∈elems,Wok2 d e:=by
 unfold Wok2 at h
 rw[DataW.weights,ht]at h
 simp only at h
 refine⟨h _ List.mem_cons_self,fun d hd=>wok_all hd fun n hn=>h n (List.mem_cons_of_mem _ (List.mem_append_left _ hn))⟩
theorem wok_string {H:Type} {t:TypeId} {l:List UInt8} (h:Wok2 (H:=H) (.lit (.string l)) t):l.length≤140737488351232:=h _ (by rw[DataW.weights];exact List.mem_singleton.2 rfl)
theorem wok_each {H:Type}:∀ {ts:List TypeId} {l:List (DataW H)},(∀ n∈DataW.weightsEach Tryz.prog ts l,n≤140737488351232)→∀ (i:Nat) (t:TypeId) (d:DataW H),ts[i]? = some t→l[i]? = some d→Wok2 d t
 | t0 :: ts,d0 :: l,h,0,t,d,h1,h2=>by
  have e1:t0=t:=by simpa using h1
  have e2:d0=d:=by simpa using h2
  subst e1 e2
  rw[DataW.weightsEach]at h
  exact fun n hn=>h n (List.mem_append_left _ hn)
 | t0 :: ts,d0 :: l,h,i+1,t,d,h1,h2=>by
  rw[DataW.weightsEach]at h
  exact wok_each (ts:=ts) (l:=l) (fun n hn=>h n (List.mem_append_right _ hn)) i t d (by simpa using h1) (by simpa using h2)
 | [],l,h,i,t,d,h1,h2=>by simp at h1
 | t0 :: ts,[],h,i,t,d,h1,h2=>by simp at h2
theorem wok_struct {H:Type} {t:TypeId} {fs:Array Field} {parts:List (DataW H)} (ht:Tryz.prog.underlying t=some (.struct fs)) (h:Wok2 (.agg parts) t) (i:Nat) (f:Field) (d:DataW H) (hf:fs[i]? = some f) (hd:parts[i]? = some d):Wok2 d f.type:=by
 unfold Wok2 at h
 rw[DataW.weights,ht]at h
 simp only at h
 refine wok_each h i f.type d ?_ hd
 rw[List.getElem?_map,Array.getElem?_toList,hf];rfl
theorem list_choiceD {α:Type} {P:Nat→α→Prop}:∀ n:Nat,(∀ k,k<n→∃ f,P k f)→∃ fs:List α,fs.length=n∧∀ k f,fs[k]? = some f→P k f
 | 0,_=>⟨[],rfl,fun k f h=>by simp at h⟩
 | n+1,h=>by
  obtain⟨fs,hl,hP⟩:=list_choiceD n (fun k hk=>h k (by omega))
  obtain⟨f,hf⟩:=h n (by omega)
  refine⟨fs++[f],by simp[hl],fun k g hg=>?_⟩
  by_cases hk:k<n
  ·rw[List.getElem?_append_left (by omega)]at hg
   exact hP k g hg
  ·have hlt:=(List.getElem?_eq_some_iff.1 hg).1
   rw[List.length_append,List.length_singleton]at hlt
   obtain rfl:k=n:=by omega
   rw[List.getElem?_append_right (by omega),hl,Nat.sub_self]at hg
   simp at hg
   subst hg
   exact hf
theorem cell_ltD {w:World} {g o:Nat} {v:Value} (h:w.cell? ⟨g,o,none⟩=some v):g<w.heap.size:=by
 by_cases hl:g<w.heap.size
 ·exact hl
 ·have:w.heap[g]? = none:=Array.getElem?_eq_none (by omega)
  simp[World.cell?,this]at h
theorem slice_rows {H:Type} {enc:TypeId × Value→H} {W:World} {α:Type} (T E:TypeId) (k:Nat) (row:α→List Value) (fit:α→Prop) (hT:Tryz.prog.underlying T=some (.slice E)) (hk:Tryz.prog.cellsOf E=k) (hk1:1≤k) (hrl:∀ x,(row x).length=k) (hby:1≤Tryz.prog.bytesOf E)
  {fuel:Nat} {cs:List Value} {y:DataW H × List MemPlace} (helem:∀ n,fuel=n+1→∀ cs y,DataW.trod enc Tryz.prog W 0 (fun _=>true) true n E cs=some y→Wok2 y.1 E→∃ x,cs=row x∧fit x)
  (h:DataW.trod enc Tryz.prog W 0 (fun _=>true) true fuel T cs=some y) (hw:Wok2 y.1 T) :
  ∃ v xs,cs=[v]∧RowsIn W (fun b=>b<W.heap.size) k row v xs∧xs.length≤140737488355328∧∀ x∈xs,fit x:=by
 rcases DataW.trod_slice hT h with ⟨hcs,hd⟩ | ⟨x,l,c,elems,rest,m,hm,hcs,hd,hb,hl,hmx,hlen,hel,hsp,_⟩
 ·exact⟨_,[],hcs,RowsIn.nil _ _ _ _ _ _,by simp,fun x hx=>by cases hx⟩
 ·subst hd
  obtain⟨hbytes,hparts⟩:=wok_slice hT hw
  have hcount:elems.length≤140737488355328:=by
   rw[List.length_map,List.length_map]at hbytes
   have h2:elems.length*1≤(elems.length+rest.length)*Tryz.prog.bytesOf E:=Nat.mul_le_mul (by omega) hby
   omega
  rw[hk]at hel
  have hP:∀ i,i<l→∃ a:α,fit a∧∃ cs,W.cells? 0 (x.add (i*k)) k=some cs∧cs=row a:=fun i hi=>by
   have h1:=hel i hi
   obtain⟨yy,hy⟩:∃ yy,elems[i]? = some yy:=⟨_,List.getElem?_eq_getElem (by omega)⟩
   rw[hy]at h1
   obtain⟨cs1,hcs1,htr⟩:=Option.bind_eq_some_iff.1 h1
   obtain⟨a,ha,hf⟩:=helem m hm cs1 yy htr (hparts yy.1 (List.mem_map.2 ⟨yy,List.mem_of_getElem? hy,rfl⟩))
   exact⟨a,hf,cs1,hcs1,ha⟩
  obtain⟨zs,hal,hap⟩:=list_choiceD (P:=fun i a=>fit a∧∃ cs,W.cells? 0 (x.add (i*k)) k=some cs∧cs=row a) l hP
  refine⟨_,zs,hcs,⟨some x,c,by rw[hal],by omega,?_⟩,by omega,fun a ha=>?_⟩
  ·by_cases hz:zs=[]
   ·exact .inl hz
   ·right
    have hpos:=List.length_pos_iff.2 hz
    obtain⟨g,off,spot⟩:=x
    obtain⟨a0,ha0⟩:∃ a,zs[0]? = some a:=⟨_,List.getElem?_eq_getElem (by omega)⟩
    obtain⟨_,cs0,hcs0,hr0⟩:=hap 0 a0 ha0
    have hc0:=(World.cells?_some hcs0).2.2 0 (by omega)
    have hr1:cs0[0]? = some (cs0[0]'(by rw[hr0,hrl];omega)):=List.getElem?_eq_getElem _
    rw[hr1]at hc0
    have hspot:spot=none:=by
     have h3:=World.cell?_spot hc0
     simpa [Addr.add]using h3
    subst hspot
    refine⟨g,off,rfl,?_,fun j a hj i u hu=>?_⟩
    ·have e:((Addr.mk g off none).add (0*k)).add 0=⟨g,off,none⟩:=by simp[Addr.add]
     rw[e]at hc0
     exact cell_ltD hc0
    ·obtain⟨_,cs1,hcs1,hr1⟩:=hap j a hj
     have hi:i<k:=by
      have:=(List.getElem?_eq_some_iff.1 hu).1
      rw[hrl]at this;exact this
     have h3:=(World.cells?_some hcs1).2.2 i hi
     rw[hr1,hu]at h3
     have e:((Addr.mk g off none).add (j*k)).add i=⟨g,off+(j*k+i),none⟩:=by rw[Lib.add_plain,Lib.add_plain,Nat.add_assoc]
     rw[e]at h3
     exact h3
  ·obtain⟨i,hi⟩:=List.getElem?_of_mem ha
   exact(hap i a hi).1
set_option maxRecDepth 100000 in
theorem trodS3 {H:Type} {enc:TypeId × Value→H} {W:World} {t:TypeId} {f0 f1 f2:Field} {fuel:Nat} {cs:List Value} {y:DataW H × List MemPlace} (ht:Tryz.prog.underlying t=some (.struct #[f0,f1,f2])) (h:DataW.trod enc Tryz.prog W 0 (fun _=>true) true fuel t cs=some y) (hw:Wok2 y.1 t) :
  ∃ (y0 y1 y2:DataW H × List MemPlace) (n:Nat),fuel=n+1∧cs.length=Tryz.prog.cellsOf t∧(DataW.trod enc Tryz.prog W 0 (fun _=>true) true n f0.type ((cs.drop f0.offset).take (Tryz.prog.cellsOf f0.type))=some y0∧Wok2 y0.1 f0.type)∧(DataW.trod enc Tryz.prog W 0 (fun _=>true) true n f1.type ((cs.drop f1.offset).take (Tryz.prog.cellsOf f1.type))=some y1∧Wok2 y1.1 f1.type)∧(DataW.trod enc Tryz.prog W 0 (fun _=>true) true n f2.type ((cs.drop f2.offset).take (Tryz.prog.cellsOf f2.type))=some y2∧Wok2 y2.1 f2.type):=by
 obtain⟨xs,n,hn,rfl,hl,hlen,hf⟩:=DataW.trod_struct ht h
 match xs,hlen with
 | [y0,y1,y2],_=>exact⟨y0,y1,y2,n,hn,hl,⟨by simpa using hf 0 f0 rfl,wok_struct ht hw 0 f0 y0.1 rfl rfl⟩,⟨by simpa using hf 1 f1 rfl,wok_struct ht hw 1 f1 y1.1 rfl rfl⟩,⟨by simpa using hf 2 f2 rfl,wok_struct ht hw 2 f2 y2.1 rfl rfl⟩⟩
set_option maxRecDepth 100000 in
theorem trodS5 {H:Type} {enc:TypeId × Value→H} {W:World} {t:TypeId} {f0 f1 f2 f3 f4:Field} {fuel:Nat} {cs:List Value} {y:DataW H × List MemPlace} (ht:Tryz.prog.underlying t=some (.struct #[f0,f1,f2,f3,f4])) (h:DataW.trod enc Tryz.prog W 0 (fun _=>true) true fuel t cs=some y) (hw:Wok2 y.1 t) :
  ∃ (y0 y1 y2 y3 y4:DataW H × List MemPlace) (n:Nat),fuel=n+1∧cs.length=Tryz.prog.cellsOf t∧(DataW.trod enc Tryz.prog W 0 (fun _=>true) true n f0.type ((cs.drop f0.offset).take (Tryz.prog.cellsOf f0.type))=some y0∧Wok2 y0.1 f0.type)∧(DataW.trod enc Tryz.prog W 0 (fun _=>true) true n f1.type ((cs.drop f1.offset).take (Tryz.prog.cellsOf f1.type))=some y1∧Wok2 y1.1 f1.type)∧(DataW.trod enc Tryz.prog W 0 (fun _=>true) true n f2.type ((cs.drop f2.offset).take (Tryz.prog.cellsOf f2.type))=some y2∧Wok2 y2.1 f2.type)∧(DataW.trod enc Tryz.prog W 0 (fun _=>true) true n f3.type ((cs.drop f3.offset).take (Tryz.prog.cellsOf f3.type))=some y3∧Wok2 y3.1 f3.type)∧(DataW.trod enc Tryz.prog W 0 (fun _=>true) true n f4.type ((cs.drop f4.offset).take (Tryz.prog.cellsOf f4.type))=some y4∧Wok2 y4.1 f4.type):=by
 obtain⟨xs,n,hn,rfl,hl,hlen,hf⟩:=DataW.trod_struct ht h
 match xs,hlen with
 | [y0,y1,y2,y3,y4],_=>exact⟨y0,y1,y2,y3,y4,n,hn,hl,⟨by simpa using hf 0 f0 rfl,wok_struct ht hw 0 f0 y0.1 rfl rfl⟩,⟨by simpa using hf 1 f1 rfl,wok_struct ht hw 1 f1 y1.1 rfl rfl⟩,⟨by simpa using hf 2 f2 rfl,wok_struct ht hw 2 f2 y2.1 rfl rfl⟩,⟨by simpa using hf 3 f3 rfl,wok_struct ht hw 3 f3 y3.1 rfl rfl⟩,⟨by simpa using hf 4 f4 rfl,wok_struct ht hw 4 f4 y4.1 rfl rfl⟩⟩
abbrev N47:Nat:=140737488355328
theorem str_of_trod {H:Type} {enc:TypeId × Value→H} {W:World} {fuel:Nat} {cs:List Value} {y:DataW H × List MemPlace} (h:DataW.trod enc Tryz.prog W 0 (fun _=>true) true fuel 9 cs=some y) (hw:Wok2 y.1 9):∃ l:List UInt8,cs=[.string (mkB l)]∧l.length≤N47:=by
 obtain⟨s,e,rfl,_⟩:=DataW.trod_string Tryz.underlying9 h
 exact⟨s.data.toList,by rw[e,mkB_data],by have:=wok_string hw;unfold N47;omega⟩
end Go.Proofs.YteajlfgbmefncaaGreatDoor
