/-
  Walks and plain words (DeU).
-/
import Derived.Test.YteajlfgbmefncaaGreatDoorN8
import Derived.Test.YteajlfgbmefncaaGreatDoorN32
import Derived.Test.YteajlfgbmefncaaGreatDoorN2
import Derived.Test.YteajlfgbmefncaaGreatDoorN1
import Derived.Test.YteajlfgbmefncaaGreatDoorN16
import Derived.Test.YteajlfgbmefncaaGreatDoorN14
import Derived.Deep.RegionHeldLaw
namespace Go.Proofs.YteajlfgbmefncaaGreatDoor
set_option linter.unusedVariables false
open Go.ChangeShapes Go.WideShapes Go.ChangeAt Go.RowKit

def slenU:Value→Nat
 | .slice _ n _=>n
 | _=>0
def NsAns (f:Nat) (r:Option (List Nd)) (w:World) (e:Ending) (w':World):Prop:=match r with
 | none=>e=.returned (.tuple #[.slice none 0 0,.bool false])∧Below w.heap.size w w'
 | some l=>∃ a c,e=.returned (.tuple #[.slice a l.length c,.bool true])∧(l=[]→a=none∧c=0)∧ValsG clS w' (fun b=>w.heap.size≤b∧b<w'.heap.size) f (.slice a l.length c) l∧Below w.heap.size w w'
theorem wrap_twoR (n:Int):IntKind.i32.wrap (IntKind.i32.wrap n)=IntKind.i32.wrap n:=by
 rw[IntKind.wrap_i32,IntKind.wrap_i32];omega
theorem num_row (K n:Int) (fs:Value):clS.row (numD K n) fs=[.int .i64 (numD K n).kind,.int .i64 (numD K n).n,.int .u64 (numD K n).u,.bool (numD K n).b,.string ⟨#[]⟩,.int .i64 0,.slice none 0 0]:=by
 have e0:mkB []=⟨#[]⟩:=rfl
 unfold numD
 repeat' split
 all_goals simp[clS,crow,nrow,cn,e0,wrap_twoR]
set_option maxHeartbeats 16000000 in
set_option maxRecDepth 20000 in
theorem unpackR_any (K:Int) (f:Nat) (a:Option Addr) (len cap:Nat) (zs:List Int) (w:World) (hK:NumK K) (hB:SlS w a len cap zs) (hcm:cap≤9223372036854775807) (hlm:len≤100000) :
  Calls Tryz.prog 69 #[.int .i64 K,.slice a len cap] w fun e w'=>NsAns f (unpack K zs) w e w':=by
 obtain⟨R,hR⟩:∃ R,unpack K zs=R:=⟨_,rfl⟩
 have HR:=hQz hR
 have HB:=hQz hB
 have HK:=hQz hK
 have hwt:=fun W=>wireT_any K W
 obtain⟨wt,hw⟩:∃ t,wireT K=t:=⟨_,rfl⟩
 have HW:Hid ((wt=0∧∀ ys,takeN K ys=dec 0 0 ys)∨(wt=5∧∀ ys,takeN K ys=if ys.length<4 then (0,4,5) else (low (ys.take 4),4,0))∨(wt=1∧∀ ys,takeN K ys=if ys.length<8 then (0,8,5) else (low (ys.take 8),8,0))):=by
  refine(?_:_∨_)
  rw[←hw]
  rcases hK with rfl | rfl | rfl | rfl | rfl | rfl | rfl
  all_goals first
   | exact .inl ⟨rfl,fun ys=>rfl⟩
   | exact .inr (.inl ⟨rfl,fun ys=>rfl⟩)
   | exact .inr (.inr ⟨rfl,fun ys=>rfl⟩)
 rw[hR]
 rw[hw]at hwt
 clear hB hR hK hw
 go_enter Tryz.func69,Tryz.ntmps69
 go_wp2_with fail
 go_loopw [1,6] (fun bv ov wr=>∃ (ax:Option Addr) (l c:Nat) (ys:List Int) (vs:List Nd) (rs:List (List Value)),bv=.slice ax l c∧SlS w ax l c ys∧c≤cap∧vs.length+l≤len∧IsBs ys∧R=(unpack K ys).map (vs++·)∧Below w.heap.size w wr∧Gr (VRs clS f) wr w.heap.size 38 7 ov vs rs∧(vs=[]→ov=.slice none 0 0)) (fun bv _ _=>slenU bv)
 case atStart=>exact⟨a,len,cap,zs,[],[],rfl,HB.out,Nat.le_refl _,by simp,isB_bytes HB.out.1,by rw[←HR.out];simp,Below.refl _ _,Gr.nil _ _ _ _ _,fun _=>rfl⟩
 case round=>
  generalize wr=w1 at *
  obtain⟨ax,l,c,ys,vs,rs,rfl,hI,hc1,hvl,hbs,hun,hbel,hgr,hnil⟩:=hrel
  obtain⟨oa,oc,hov⟩:=own_slice hgr.own
  obtain⟨n,hn⟩:∃ n,vs.length=n:=⟨_,rfl⟩
  rw[hn]at hov hvl
  subst hov
  have HNIL:=hQz hnil
  clear hnil
  have HBE:=hQz hbel
  have HGR:=hQz hgr
  have HN:=hQz hn
  have HUN:=hQz hun
  have HI:=hQz hI
  have hws:=hbel.size
  have HFB:Hid (∀ b,(Value.slice oa n oc).ownBlock=some b→w.heap.size≤b∧b<w1.heap.size):=hgr.blk
  have hlc:l≤c:=hI.2.1
  clear hgr hn hun hI hbel
  by_cases hl:0<l
  ·have hyl:=HI.out.1.1
   have hne:ys≠[]:=by
    intro h
    rw[h]at hyl;simp at hyl;omega
   have HKE:Hid ((takeN K ys).2.2=0→(1≤(takeN K ys).2.1∧(takeN K ys).2.1≤(l:Int))∧(0≤(takeN K ys).1∧(takeN K ys).1≤18446744073709551615)):=by
    refine(?_:_→_)
    intro h
    have h1:=takeN_k K ys hbs h
    rw[hyl]at h1
    exact⟨h1,(takeN_bd hbs h).1⟩
   have HON:Hid ((takeN K ys).2.2=0→R=(unpack K (ys.drop (takeN K ys).2.1.toNat)).map ((vs++[numD K (takeN K ys).1])++·)):=by
    refine(?_:_→_)
    intro h
    rw[HUN.out,unpack_on hbs hne h,Option.map_map]
    congr 1
    funext l
    simp
   have HER:Hid ((takeN K ys).2.2≠0→R=none):=by
    refine(?_:_→_)
    intro h
    rw[HUN.out,unpack_err hne h];rfl
   have HBS:=hQz hbs
   have hl0:(0:Int)<(l:Int):=by omega
   clear hne hbs HUN
   rcases HW.out with ⟨rfl,hT⟩ | ⟨rfl,hT⟩ | ⟨rfl,hT⟩
   ·have hT0:=takeRB_any ax l c ys w1 (slS_old HI.out HBE.out).1
    rw[←hT ys]at hT0
    clear hT
    generalize takeN K ys=r at *
    obtain⟨rn,rk,re⟩:=r
    dsimp only at hT0 HKE HON HER
    by_cases hE:re=0
    ·subst hE
     obtain⟨⟨hs1,hs2⟩,hr1,hr2⟩:=HKE.out rfl
     have hON:=HON.out rfl
     obtain⟨q,rfl⟩:=Int.eq_ofNat_of_zero_le (show 0≤rk by omega)
     rw[Int.toNat_natCast]at hON
     have HON2:=hQz hON
     have hq1:1≤q:=by omega
     have hq2:q≤l:=by omega
     have HVL:Hid (∀ W,Calls Tryz.prog 70 #[.int .i64 K,.int .u64 rn] W fun e w'=>e=.returned (numC (numD K rn))∧Below W.heap.size W w'):=fun W=>valueR_any K rn W HK.out hr1 hr2
     have HRW:=hQz (num_row K rn)
     have HY7:=hQz (numD_kind K rn)
     clear HKE HON HER hON hs1 hs2
     generalize numD K rn=Y at *
     unfold numC at HVL
     go_wp2_with fail
     refine(hwt _).mono ?_
     rintro e w9 ⟨rfl,h9⟩
     have h9:=h9.symm
     subst h9
     go_wp2_with fail
     refine hT0.mono ?_
     rintro e w9 ⟨rfl,h9⟩
     have h9:=h9.symm
     subst h9
     clear hT0
     go_upto_region 9 with fail
     have hS0:Below w.heap.size w w1.drew:=HBE.out.drew
     have h1s:w1.drew.heap.size=w1.heap.size:=rfl
     have hG0:Gr (VRs clS f) w1.drew w.heap.size 38 7 (.slice oa n oc) vs rs:=HGR.out.keep (mvsV clS f) (fun b _ hb=>rfl) (Nat.le_refl _)
     have HG0:=hQz hG0
     clear hG0
     refine wp_region_held_drew (S:=fun W=>Below w.heap.size w W) (by kernel_rfl) hS0 (fun _=>?_)
     refine T_on 0 (.slice oa n oc) rfl (by kernel_rfl) (fun _ _ _ h=>h) hS0 (fun W hW=>by go_simp) ?_
     refine T_on 1 (.int .i64 K) rfl (by kernel_rfl) (fun _ _ _ h=>h) hS0 (fun W hW=>by go_simp) ?_
     refine T_on 2 (.int .u64 rn) rfl (by kernel_rfl) (fun _ _ _ h=>h) hS0 (fun W hW=>by go_simp) ?_
     refine T_on 6 (.slice ax l c) rfl (by kernel_rfl) (fun _ _ _ h=>h) hS0 (fun W hW=>by go_simp) ?_
     refine T_on 7 (.int .i64 (q:Int)) rfl (by kernel_rfl) (fun _ _ _ h=>h) hS0 (fun W hW=>by go_simp) ?_
     refine T_on 8 (.slice (cutS ax c q) (l - q) (c - q)) rfl (by kernel_rfl) (fun _ _ _ h=>h) hS0 (fun W hW=>by have c0:=cutS_from ax l c q hq2 hlc W;go_simp) ?_
     refine T_call 3 (by kernel_rfl) rfl (fun K' hK'=>?_)
     go_simp
     refine(HVL.out _).mono ?_
     rintro e U3 ⟨rfl,hb3⟩
     have h3s:=hb3.size
     have hS1:Below w.heap.size w U3:=hS0.trans (hb3.mono (by omega))
     have hG3:Gr (VRs clS f) U3 w.heap.size 38 7 (.slice oa n oc) vs rs:=HG0.out.keep (mvsV clS f) (fun b _ hb=>hb3.block b hb) h3s
     clear hS0
     dsimp only
     refine hK'.out _ _ hS1 (fun _=>?_)
     clear hK' K'
     refine T_call 4 (by kernel_rfl) rfl (fun K' hK'=>?_)
     go_simp
     have hAN:=alloc_heap_new U3 (.cells #[.int .i64 Y.kind,.int .i64 Y.n,.int .u64 Y.u,.bool Y.b,.string ⟨#[]⟩,.int .i64 0,.slice none 0 0] 38)
     have hAb:Below U3.heap.size U3 (U3.alloc (.cells #[.int .i64 Y.kind,.int .i64 Y.n,.int .u64 Y.u,.bool Y.b,.string ⟨#[]⟩,.int .i64 0,.slice none 0 0] 38)):=(Below.refl _ _).alloc (Nat.le_refl _) _
     have hAs:(U3.alloc (.cells #[.int .i64 Y.kind,.int .i64 Y.n,.int .u64 Y.u,.bool Y.b,.string ⟨#[]⟩,.int .i64 0,.slice none 0 0] 38)).heap.size=U3.heap.size+1:=by simp
     have hS2:Below w.heap.size w (U3.alloc (.cells #[.int .i64 Y.kind,.int .i64 Y.n,.int .u64 Y.u,.bool Y.b,.string ⟨#[]⟩,.int .i64 0,.slice none 0 0] 38)):=hS1.trans (hAb.mono (by omega))
     refine hK'.out _ _ hS2 (fun _=>?_)
     clear hK' K'
     generalize U3.alloc (.cells #[.int .i64 Y.kind,.int .i64 Y.n,.int .u64 Y.u,.bool Y.b,.string ⟨#[]⟩,.int .i64 0,.slice none 0 0] 38)=WA at *
     have hGA:Gr (VRs clS f) WA w.heap.size 38 7 (.slice oa n oc) vs rs:=hG3.keep (mvsV clS f) (fun b _ hb=>hAb.block b hb) (by omega)
     refine T_call 5 (by kernel_rfl) rfl (fun K' hK'=>?_)
     refine vpushS (T:=38) Tryz.underlying55 infoNN rfl (by decide) ((by have:=hGA.own;rw[HN.out]at this;exact this:WA.ownsRow w.heap.size 38 7 (.slice oa n oc) n (rs.flatMap id))) (by omega) [.int .i64 Y.kind,.int .i64 Y.n,.int .u64 Y.u,.bool Y.b,.string ⟨#[]⟩,.int .i64 0,.slice none 0 0] rfl (by simp[Value.oneCell']) U3.heap.size hAN rfl _ _ rfl rfl rfl (by unfold maxLen;omega) (by omega) ?_
     intro g6 cap6 W6 hown6 hgr6 hat6 hlt6
     have hG6:Gr (VRs clS f) W6 w.heap.size 38 7 (.slice (some ⟨g6,0,none⟩) (n+1) cap6) (vs++[Y]) (rs++[[.int .i64 Y.kind,.int .i64 Y.n,.int .u64 Y.u,.bool Y.b,.string ⟨#[]⟩,.int .i64 0,.slice none 0 0]]):=hGA.push (mvsV clS f) (x:=Y) (r:=[.int .i64 Y.kind,.int .i64 Y.n,.int .u64 Y.u,.bool Y.b,.string ⟨#[]⟩,.int .i64 0,.slice none 0 0]) rfl ⟨.nilFunc,(HRW.out .nilFunc).symm,fun h=>absurd (by simpa [clS]using h) HY7.out⟩ HN.out hown6 hgr6 hat6
     have HG6:=hQz hG6
     have hS3:Below w.heap.size w W6:=hS2.grown hgr6 (by omega) (fun b hb=>(HFB.out b hb).1)
     refine hK'.out _ _ hS3 (fun _=>?_)
     clear hK' K' hG6 hown6 hgr6 hat6 hAN hAb hAs hS2 hGA hG3 hS1 hb3
     refine T_on 9 (.slice (some ⟨g6,0,none⟩) (n+1) cap6) rfl (by kernel_rfl) (fun _ _ _ h=>h) hS3 (fun W hW=>by go_simp) ?_
     refine T_on 10 (.slice (cutS ax c q) (l - q) (c - q)) rfl (by kernel_rfl) (fun _ _ _ h=>h) hS3 (fun W hW=>by go_simp) ?_
     refine wpAnyH_done (by kernel_rfl) ?_ _
     go_simp
     go_wp2_with fail
     go_roundw
     case rel=>exact⟨_,_,_,ys.drop q,vs++[Y],_,rfl,slS_drop HI.out q hq2,by omega,by rw[List.length_append,HN.out];simp;omega,fun z hz=>HBS.out z (List.mem_of_mem_drop hz),HON2.out,hS3,HG6.out,fun h=>absurd h (by simp)⟩
     case measure=>simp[slenU];omega
    ·have hER:=HER.out hE
     subst hER
     have hE2:(re == 0)=false:=by simp[hE]
     have hE3:(re != 0)=true:=by simp[hE]
     clear HKE HON HER
     go_wp2_with fail
     refine(hwt _).mono ?_
     rintro e w9 ⟨rfl,h9⟩
     have h9:=h9.symm
     subst h9
     go_wp2_with fail
     refine hT0.mono ?_
     rintro e w9 ⟨rfl,h9⟩
     have h9:=h9.symm
     subst h9
     go_wp2_with fail
     go_ret2
     exact⟨rfl,HBE.out⟩
   ·by_cases hlq:l<4
    ·have hER:R=none:=HER.out (by rw[hT ys,if_pos (by omega)];decide)
     subst hER
     have hcmp:(l:Int)<4:=by omega
     clear HKE HON HER hT
     go_wp2_with fail
     refine(hwt _).mono ?_
     rintro e w9 ⟨rfl,h9⟩
     have h9:=h9.symm
     subst h9
     go_wp2_with fail
     go_ret2
     exact⟨rfl,HBE.out⟩
    ·have hT:=hT ys
     rw[if_neg (by omega)]at hT
     rw[hT]at HKE HON HER
     dsimp only at HKE HON HER
     obtain⟨_,hr1,hr2⟩:=HKE.out rfl
     have hq2:4≤l:=by omega
     have hNU:=fun W (hW:Below w.heap.size w W)=>number_any ax 4 c (ys.take 4) W (slS_take (slS_old HI.out hW) 4 hq2) (by omega)
     have HON2:Hid (R=(unpack K (ys.drop 4)).map ((vs++[numD K (low (ys.take 4))])++·)):=HON.out rfl
     clear HKE HON HER hT
     generalize low (ys.take 4)=rn at *
     have hcmp:¬(l:Int)<4:=by omega
     have HVL:Hid (∀ W,Calls Tryz.prog 70 #[.int .i64 K,.int .u64 rn] W fun e w'=>e=.returned (numC (numD K rn))∧Below W.heap.size W w'):=fun W=>valueR_any K rn W HK.out hr1 hr2
     have HRW:=hQz (num_row K rn)
     have HY7:=hQz (numD_kind K rn)
     have HNU:=hQz hNU
     clear hNU
     generalize numD K rn=Y at *
     unfold numC at HVL
     go_wp2_with fail
     refine(hwt _).mono ?_
     rintro e w9 ⟨rfl,h9⟩
     have h9:=h9.symm
     subst h9
     go_upto_region 14 with fail
     have hS0:Below w.heap.size w w1.drew:=HBE.out.drew
     have h1s:w1.drew.heap.size=w1.heap.size:=rfl
     have hG0:Gr (VRs clS f) w1.drew w.heap.size 38 7 (.slice oa n oc) vs rs:=HGR.out.keep (mvsV clS f) (fun b _ hb=>rfl) (Nat.le_refl _)
     have HG0:=hQz hG0
     clear hG0
     refine wp_region_held_drew (S:=fun W=>Below w.heap.size w W) (by kernel_rfl) hS0 (fun _=>?_)
     refine T_on 0 (.slice oa n oc) rfl (by kernel_rfl) (fun _ _ _ h=>h) hS0 (fun W hW=>by go_simp) ?_
     refine T_on 1 (.int .i64 K) rfl (by kernel_rfl) (fun _ _ _ h=>h) hS0 (fun W hW=>by go_simp) ?_
     refine T_on 2 (.slice ax l c) rfl (by kernel_rfl) (fun _ _ _ h=>h) hS0 (fun W hW=>by go_simp) ?_
     refine T_on 3 (.int .i64 4) rfl (by kernel_rfl) (fun _ _ _ h=>h) hS0 (fun W hW=>by go_simp) ?_
     refine T_on 4 (.slice ax 4 c) rfl (by kernel_rfl) (fun _ _ _ h=>h) hS0 (fun W hW=>by have c0:(Instr.slice 27 (.slice ax l c) none (some (.int .i64 4)) none).run Tryz.prog W=.ok (.slice ax 4 c) W:=cutS_to ax l c 4 hq2 hlc W;go_simp) ?_
     refine T_on 9 (.slice ax l c) rfl (by kernel_rfl) (fun _ _ _ h=>h) hS0 (fun W hW=>by go_simp) ?_
     refine T_on 10 (.int .i64 4) rfl (by kernel_rfl) (fun _ _ _ h=>h) hS0 (fun W hW=>by go_simp) ?_
     refine T_on 11 (.slice (cutS ax c 4) (l - 4) (c - 4)) rfl (by kernel_rfl) (fun _ _ _ h=>h) hS0 (fun W hW=>by have c0:(Instr.slice 27 (.slice ax l c) (some (.int .i64 4)) none none).run Tryz.prog W=.ok (.slice (cutS ax c 4) (l - 4) (c - 4)) W:=cutS_from ax l c 4 hq2 hlc W;go_simp) ?_
     refine T_call 5 (by kernel_rfl) rfl (fun K' hK'=>?_)
     go_simp
     refine(HNU.out _ hS0).mono ?_
     rintro e w9 ⟨rfl,h9⟩
     have h9:=h9.symm
     subst h9
     dsimp only
     refine hK'.out _ _ hS0 (fun _=>?_)
     clear hK' K'
     refine T_call 6 (by kernel_rfl) rfl (fun K' hK'=>?_)
     go_simp
     refine(HVL.out _).mono ?_
     rintro e U3 ⟨rfl,hb3⟩
     have h3s:=hb3.size
     have hS1:Below w.heap.size w U3:=hS0.trans (hb3.mono (by omega))
     have hG3:Gr (VRs clS f) U3 w.heap.size 38 7 (.slice oa n oc) vs rs:=HG0.out.keep (mvsV clS f) (fun b _ hb=>hb3.block b hb) h3s
     clear hS0
     dsimp only
     refine hK'.out _ _ hS1 (fun _=>?_)
     clear hK' K'
     refine T_call 7 (by kernel_rfl) rfl (fun K' hK'=>?_)
     go_simp
     have hAN:=alloc_heap_new U3 (.cells #[.int .i64 Y.kind,.int .i64 Y.n,.int .u64 Y.u,.bool Y.b,.string ⟨#[]⟩,.int .i64 0,.slice none 0 0] 38)
     have hAb:Below U3.heap.size U3 (U3.alloc (.cells #[.int .i64 Y.kind,.int .i64 Y.n,.int .u64 Y.u,.bool Y.b,.string ⟨#[]⟩,.int .i64 0,.slice none 0 0] 38)):=(Below.refl _ _).alloc (Nat.le_refl _) _
     have hAs:(U3.alloc (.cells #[.int .i64 Y.kind,.int .i64 Y.n,.int .u64 Y.u,.bool Y.b,.string ⟨#[]⟩,.int .i64 0,.slice none 0 0] 38)).heap.size=U3.heap.size+1:=by simp
     have hS2:Below w.heap.size w (U3.alloc (.cells #[.int .i64 Y.kind,.int .i64 Y.n,.int .u64 Y.u,.bool Y.b,.string ⟨#[]⟩,.int .i64 0,.slice none 0 0] 38)):=hS1.trans (hAb.mono (by omega))
     refine hK'.out _ _ hS2 (fun _=>?_)
     clear hK' K'
     generalize U3.alloc (.cells #[.int .i64 Y.kind,.int .i64 Y.n,.int .u64 Y.u,.bool Y.b,.string ⟨#[]⟩,.int .i64 0,.slice none 0 0] 38)=WA at *
     have hGA:Gr (VRs clS f) WA w.heap.size 38 7 (.slice oa n oc) vs rs:=hG3.keep (mvsV clS f) (fun b _ hb=>hAb.block b hb) (by omega)
     refine T_call 8 (by kernel_rfl) rfl (fun K' hK'=>?_)
     refine vpushS (T:=38) Tryz.underlying55 infoNN rfl (by decide) ((by have:=hGA.own;rw[HN.out]at this;exact this:WA.ownsRow w.heap.size 38 7 (.slice oa n oc) n (rs.flatMap id))) (by omega) [.int .i64 Y.kind,.int .i64 Y.n,.int .u64 Y.u,.bool Y.b,.string ⟨#[]⟩,.int .i64 0,.slice none 0 0] rfl (by simp[Value.oneCell']) U3.heap.size hAN rfl _ _ rfl rfl rfl (by unfold maxLen;omega) (by omega) ?_
     intro g6 cap6 W6 hown6 hgr6 hat6 hlt6
     have hG6:Gr (VRs clS f) W6 w.heap.size 38 7 (.slice (some ⟨g6,0,none⟩) (n+1) cap6) (vs++[Y]) (rs++[[.int .i64 Y.kind,.int .i64 Y.n,.int .u64 Y.u,.bool Y.b,.string ⟨#[]⟩,.int .i64 0,.slice none 0 0]]):=hGA.push (mvsV clS f) (x:=Y) (r:=[.int .i64 Y.kind,.int .i64 Y.n,.int .u64 Y.u,.bool Y.b,.string ⟨#[]⟩,.int .i64 0,.slice none 0 0]) rfl ⟨.nilFunc,(HRW.out .nilFunc).symm,fun h=>absurd (by simpa [clS]using h) HY7.out⟩ HN.out hown6 hgr6 hat6
     have HG6:=hQz hG6
     have hS3:Below w.heap.size w W6:=hS2.grown hgr6 (by omega) (fun b hb=>(HFB.out b hb).1)
     refine hK'.out _ _ hS3 (fun _=>?_)
     clear hK' K' hG6 hown6 hgr6 hat6 hAN hAb hAs hS2 hGA hG3 hS1 hb3
     refine T_on 12 (.slice (some ⟨g6,0,none⟩) (n+1) cap6) rfl (by kernel_rfl) (fun _ _ _ h=>h) hS3 (fun W hW=>by go_simp) ?_
     refine T_on 13 (.slice (cutS ax c 4) (l - 4) (c - 4)) rfl (by kernel_rfl) (fun _ _ _ h=>h) hS3 (fun W hW=>by go_simp) ?_
     refine wpAnyH_done (by kernel_rfl) ?_ _
     go_simp
     go_wp2_with fail
     go_roundw
     case rel=>exact⟨_,_,_,ys.drop 4,vs++[Y],_,rfl,slS_drop HI.out 4 hq2,by omega,by rw[List.length_append,HN.out];simp;omega,fun z hz=>HBS.out z (List.mem_of_mem_drop hz),HON2.out,hS3,HG6.out,fun h=>absurd h (by simp)⟩
     case measure=>simp[slenU];omega
   ·by_cases hlq:l<8
    ·have hER:R=none:=HER.out (by rw[hT ys,if_pos (by omega)];decide)
     subst hER
     have hcmp:(l:Int)<8:=by omega
     clear HKE HON HER hT
     go_wp2_with fail
     refine(hwt _).mono ?_
     rintro e w9 ⟨rfl,h9⟩
     have h9:=h9.symm
     subst h9
     go_wp2_with fail
     go_ret2
     exact⟨rfl,HBE.out⟩
    ·have hT:=hT ys
     rw[if_neg (by omega)]at hT
     rw[hT]at HKE HON HER
     dsimp only at HKE HON HER
     obtain⟨_,hr1,hr2⟩:=HKE.out rfl
     have hq2:8≤l:=by omega
     have hNU:=fun W (hW:Below w.heap.size w W)=>number_any ax 8 c (ys.take 8) W (slS_take (slS_old HI.out hW) 8 hq2) (by omega)
     have HON2:Hid (R=(unpack K (ys.drop 8)).map ((vs++[numD K (low (ys.take 8))])++·)):=HON.out rfl
     clear HKE HON HER hT
     generalize low (ys.take 8)=rn at *
     have hcmp:¬(l:Int)<8:=by omega
     have HVL:Hid (∀ W,Calls Tryz.prog 70 #[.int .i64 K,.int .u64 rn] W fun e w'=>e=.returned (numC (numD K rn))∧Below W.heap.size W w'):=fun W=>valueR_any K rn W HK.out hr1 hr2
     have HRW:=hQz (num_row K rn)
     have HY7:=hQz (numD_kind K rn)
     have HNU:=hQz hNU
     clear hNU
     generalize numD K rn=Y at *
     unfold numC at HVL
     go_wp2_with fail
     refine(hwt _).mono ?_
     rintro e w9 ⟨rfl,h9⟩
     have h9:=h9.symm
     subst h9
     go_upto_region 14 with fail
     have hS0:Below w.heap.size w w1.drew:=HBE.out.drew
     have h1s:w1.drew.heap.size=w1.heap.size:=rfl
     have hG0:Gr (VRs clS f) w1.drew w.heap.size 38 7 (.slice oa n oc) vs rs:=HGR.out.keep (mvsV clS f) (fun b _ hb=>rfl) (Nat.le_refl _)
     have HG0:=hQz hG0
     clear hG0
     refine wp_region_held_drew (S:=fun W=>Below w.heap.size w W) (by kernel_rfl) hS0 (fun _=>?_)
     refine T_on 0 (.slice oa n oc) rfl (by kernel_rfl) (fun _ _ _ h=>h) hS0 (fun W hW=>by go_simp) ?_
     refine T_on 1 (.int .i64 K) rfl (by kernel_rfl) (fun _ _ _ h=>h) hS0 (fun W hW=>by go_simp) ?_
     refine T_on 2 (.slice ax l c) rfl (by kernel_rfl) (fun _ _ _ h=>h) hS0 (fun W hW=>by go_simp) ?_
     refine T_on 3 (.int .i64 8) rfl (by kernel_rfl) (fun _ _ _ h=>h) hS0 (fun W hW=>by go_simp) ?_
     refine T_on 4 (.slice ax 8 c) rfl (by kernel_rfl) (fun _ _ _ h=>h) hS0 (fun W hW=>by have c0:(Instr.slice 27 (.slice ax l c) none (some (.int .i64 8)) none).run Tryz.prog W=.ok (.slice ax 8 c) W:=cutS_to ax l c 8 hq2 hlc W;go_simp) ?_
     refine T_on 9 (.slice ax l c) rfl (by kernel_rfl) (fun _ _ _ h=>h) hS0 (fun W hW=>by go_simp) ?_
     refine T_on 10 (.int .i64 8) rfl (by kernel_rfl) (fun _ _ _ h=>h) hS0 (fun W hW=>by go_simp) ?_
     refine T_on 11 (.slice (cutS ax c 8) (l - 8) (c - 8)) rfl (by kernel_rfl) (fun _ _ _ h=>h) hS0 (fun W hW=>by have c0:(Instr.slice 27 (.slice ax l c) (some (.int .i64 8)) none none).run Tryz.prog W=.ok (.slice (cutS ax c 8) (l - 8) (c - 8)) W:=cutS_from ax l c 8 hq2 hlc W;go_simp) ?_
     refine T_call 5 (by kernel_rfl) rfl (fun K' hK'=>?_)
     go_simp
     refine(HNU.out _ hS0).mono ?_
     rintro e w9 ⟨rfl,h9⟩
     have h9:=h9.symm
     subst h9
     dsimp only
     refine hK'.out _ _ hS0 (fun _=>?_)
     clear hK' K'
     refine T_call 6 (by kernel_rfl) rfl (fun K' hK'=>?_)
     go_simp
     refine(HVL.out _).mono ?_
     rintro e U3 ⟨rfl,hb3⟩
     have h3s:=hb3.size
     have hS1:Below w.heap.size w U3:=hS0.trans (hb3.mono (by omega))
     have hG3:Gr (VRs clS f) U3 w.heap.size 38 7 (.slice oa n oc) vs rs:=HG0.out.keep (mvsV clS f) (fun b _ hb=>hb3.block b hb) h3s
     clear hS0
     dsimp only
     refine hK'.out _ _ hS1 (fun _=>?_)
     clear hK' K'
     refine T_call 7 (by kernel_rfl) rfl (fun K' hK'=>?_)
     go_simp
     have hAN:=alloc_heap_new U3 (.cells #[.int .i64 Y.kind,.int .i64 Y.n,.int .u64 Y.u,.bool Y.b,.string ⟨#[]⟩,.int .i64 0,.slice none 0 0] 38)
     have hAb:Below U3.heap.size U3 (U3.alloc (.cells #[.int .i64 Y.kind,.int .i64 Y.n,.int .u64 Y.u,.bool Y.b,.string ⟨#[]⟩,.int .i64 0,.slice none 0 0] 38)):=(Below.refl _ _).alloc (Nat.le_refl _) _
     have hAs:(U3.alloc (.cells #[.int .i64 Y.kind,.int .i64 Y.n,.int .u64 Y.u,.bool Y.b,.string ⟨#[]⟩,.int .i64 0,.slice none 0 0] 38)).heap.size=U3.heap.size+1:=by simp
     have hS2:Below w.heap.size w (U3.alloc (.cells #[.int .i64 Y.kind,.int .i64 Y.n,.int .u64 Y.u,.bool Y.b,.string ⟨#[]⟩,.int .i64 0,.slice none 0 0] 38)):=hS1.trans (hAb.mono (by omega))
     refine hK'.out _ _ hS2 (fun _=>?_)
     clear hK' K'
     generalize U3.alloc (.cells #[.int .i64 Y.kind,.int .i64 Y.n,.int .u64 Y.u,.bool Y.b,.string ⟨#[]⟩,.int .i64 0,.slice none 0 0] 38)=WA at *
     have hGA:Gr (VRs clS f) WA w.heap.size 38 7 (.slice oa n oc) vs rs:=hG3.keep (mvsV clS f) (fun b _ hb=>hAb.block b hb) (by omega)
     refine T_call 8 (by kernel_rfl) rfl (fun K' hK'=>?_)
     refine vpushS (T:=38) Tryz.underlying55 infoNN rfl (by decide) ((by have:=hGA.own;rw[HN.out]at this;exact this:WA.ownsRow w.heap.size 38 7 (.slice oa n oc) n (rs.flatMap id))) (by omega) [.int .i64 Y.kind,.int .i64 Y.n,.int .u64 Y.u,.bool Y.b,.string ⟨#[]⟩,.int .i64 0,.slice none 0 0] rfl (by simp[Value.oneCell']) U3.heap.size hAN rfl _ _ rfl rfl rfl (by unfold maxLen;omega) (by omega) ?_
     intro g6 cap6 W6 hown6 hgr6 hat6 hlt6
     have hG6:Gr (VRs clS f) W6 w.heap.size 38 7 (.slice (some ⟨g6,0,none⟩) (n+1) cap6) (vs++[Y]) (rs++[[.int .i64 Y.kind,.int .i64 Y.n,.int .u64 Y.u,.bool Y.b,.string ⟨#[]⟩,.int .i64 0,.slice none 0 0]]):=hGA.push (mvsV clS f) (x:=Y) (r:=[.int .i64 Y.kind,.int .i64 Y.n,.int .u64 Y.u,.bool Y.b,.string ⟨#[]⟩,.int .i64 0,.slice none 0 0]) rfl ⟨.nilFunc,(HRW.out .nilFunc).symm,fun h=>absurd (by simpa [clS]using h) HY7.out⟩ HN.out hown6 hgr6 hat6
     have HG6:=hQz hG6
     have hS3:Below w.heap.size w W6:=hS2.grown hgr6 (by omega) (fun b hb=>(HFB.out b hb).1)
     refine hK'.out _ _ hS3 (fun _=>?_)
     clear hK' K' hG6 hown6 hgr6 hat6 hAN hAb hAs hS2 hGA hG3 hS1 hb3
     refine T_on 12 (.slice (some ⟨g6,0,none⟩) (n+1) cap6) rfl (by kernel_rfl) (fun _ _ _ h=>h) hS3 (fun W hW=>by go_simp) ?_
     refine T_on 13 (.slice (cutS ax c 8) (l - 8) (c - 8)) rfl (by kernel_rfl) (fun _ _ _ h=>h) hS3 (fun W hW=>by go_simp) ?_
     refine wpAnyH_done (by kernel_rfl) ?_ _
     go_simp
     go_wp2_with fail
     go_roundw
     case rel=>exact⟨_,_,_,ys.drop 8,vs++[Y],_,rfl,slS_drop HI.out 8 hq2,by omega,by rw[List.length_append,HN.out];simp;omega,fun z hz=>HBS.out z (List.mem_of_mem_drop hz),HON2.out,hS3,HG6.out,fun h=>absurd h (by simp)⟩
     case measure=>simp[slenU];omega
  ·have hl0:¬(0:Int)<(l:Int):=by omega
   have hre:R=some vs:=by
    rw[HUN.out,List.eq_nil_of_length_eq_zero (by have:=HI.out.1.1;omega:ys.length=0),unpack_nil]
    simp
   subst hre
   have HVS:=hQz (HGR.out.vals (s:=clS) (fun b=>w.heap.size≤b∧b<w1.heap.size) (fun b h1 h2=>⟨h1,h2⟩))
   have HNL:Hid (vs=[]→oa=none∧oc=0):=by
    refine(?_:_→_)
    intro h
    have h0:=Value.slice.inj (HNIL.out h)
    exact⟨h0.1,h0.2.2⟩
   go_wp2_with fail
   go_ret2
   exact⟨oa,oc,by rw[HN.out];rfl,HNL.out,by rw[HN.out];exact HVS.out,HBE.out⟩
end Go.Proofs.YteajlfgbmefncaaGreatDoor
