/-
  Walks and plain words (DcN DcU DeR DeS).
-/
import Derived.Test.YteajlfgbmefncaaGreatDoorN8
import Derived.Test.YteajlfgbmefncaaGreatDoorN1
import Derived.Lib.Zigzag
import Derived.Test.YteajlfgbmefncaaGreatDoorN31
import Derived.Test.YteajlfgbmefncaaGreatDoorN3
namespace Go.Proofs.YteajlfgbmefncaaGreatDoor
set_option linter.unusedVariables false
open Go.ChangeShapes Go.WideShapes Go.ChangeAt Go.RowKit Go.Lib

theorem bits_xor_i64_neg (x:Int) (h0:0≤x) (h1:x≤9223372036854775807):bits .xor .i64 x (-1)=-x - 1:=by
 have:=i64_not x.toNat (by omega)
 rw[show ((x.toNat:Nat):Int)=x by omega]at this
 rw[←this]
 unfold bits
 simp only[BitVec.xor_comm]
theorem bits_xor_i64_zero (x:Int) (h0:0≤x) (h1:x≤9223372036854775807):bits .xor .i64 x 0=x:=by
 obtain⟨n,rfl⟩:=Int.eq_ofNat_of_zero_le h0
 unfold bits
 simp[IntKind.wrap_i64,show IntKind.i64.bits=64 from rfl]
 omega
theorem zag_bits (n:Int) (h1:0≤n) (h2:n≤18446744073709551615):bits .xor .i64 (n / 2) (-(n % 2))=zagI n:=by
 unfold zagI
 rcases(by omega:n % 2=0∨n % 2=1)with h | h
 ·rw[h,if_pos rfl,Int.neg_zero,bits_xor_i64_zero _ (by omega) (by omega)]
 ·rw[h,if_neg (by omega),bits_xor_i64_neg _ (by omega) (by omega)]
set_option maxHeartbeats 1000000 in
theorem zagP_any (n:Int) (w:World) (h1:0≤n) (h2:n≤18446744073709551615):Calls Tryz.prog 106 #[.int .u64 n] w fun e w'=>e=.returned (.int .i64 (zagI n))∧w'=w:=by
 have e1:bits .and .u64 n 1=n % 2:=u64_and1 n h1 (by omega)
 have e2:IntKind.i64.wrap (n / 2)=n / 2:=by rw[IntKind.wrap_i64];omega
 have e3:IntKind.i64.wrap (n % 2)=n % 2:=by rw[IntKind.wrap_i64];omega
 have e4:IntKind.i64.wrap (-(n % 2))=-(n % 2):=by rw[IntKind.wrap_i64];omega
 have e5:=zag_bits n h1 h2
 go_enter Tryz.func106,Tryz.ntmps106
 go_wp2
 go_ret
 exact⟨rfl,rfl⟩
theorem ret_val {a b:Value} (h:a=b):Ending.returned a=.returned b:=by rw[h]
set_option maxHeartbeats 4000000 in
theorem ofNumber_any (k n:Int) (w:World) (h1:0≤n) (h2:n≤18446744073709551615):Calls Tryz.prog 84 #[.int .i64 k,.int .u64 n] w fun e w'=>e=.returned (ival (numD k n) .nilFunc)∧w'=w:=by
 by_cases k1:k=1
 ·subst k1
  go_enter Tryz.func84,Tryz.ntmps84
  go_wp2_with fail
  go_ret
  refine⟨ret_val ?_,rfl⟩
  show Value.iface _ (.int .i64 (wrap64 n))=Value.iface _ (.int .i64 (IntKind.i64.wrap n))
  rw[IntKind.wrap_i64]
  simp only[wrap64]
 by_cases k3:k=3
 ·subst k3
  have hz:=zagP_any n w h1 h2
  go_enter Tryz.func84,Tryz.ntmps84
  go_wp2_with fail
  refine hz.mono ?_
  rintro e w9 ⟨rfl,h9⟩
  have h9:=h9.symm
  subst h9
  clear hz
  go_wp2_with fail
  go_ret
  exact⟨rfl,rfl⟩
 by_cases k4:k=4
 ·subst k4
  obtain⟨B,hB⟩:∃ B,(n != 0)=B:=⟨_,rfl⟩
  have e:ival (numD 4 n) .nilFunc=.iface 70 (.bool B):=by
   rw[←hB]
   by_cases hn:n=0
   ·subst hn;rfl
   ·have e1:(n != 0)=true:=by simp[hn]
    have e2:decide (n≠0)=true:=decide_eq_true hn
    rw[e1]
    show ival ⟨3,0,0,decide (n≠0),[],0,[]⟩ .nilFunc=_
    rw[e2]
    rfl
  rw[e]
  clear e
  go_enter Tryz.func84,Tryz.ntmps84
  go_wp2_with fail
  go_ret
  exact⟨rfl,rfl⟩
 by_cases k9:k=9
 ·subst k9
  have hw:=IntKind.wrap_i32 n
  go_enter Tryz.func84,Tryz.ntmps84
  go_wp2_with fail
  go_ret
  refine⟨ret_val ?_,rfl⟩
  simp[numD,ival,IntKind.wrap_i32]
 ·have e:ival (numD k n) .nilFunc=.iface 69 (.int .u64 n):=by
   unfold numD
   rw[if_neg k1,if_neg k3,if_neg k4,if_neg k9]
   rfl
  rw[e]
  have d1:(k == 1)=false:=by simp[k1]
  have d3:(k == 3)=false:=by simp[k3]
  have d4:(k == 4)=false:=by simp[k4]
  have d9:(k == 9)=false:=by simp[k9]
  clear e
  go_enter Tryz.func84,Tryz.ntmps84
  go_wp2_with fail
  go_ret
  exact⟨rfl,rfl⟩
set_option maxHeartbeats 4000000 in
theorem takeNumber_any (k:Int) (a:Option Addr) (len cap:Nat) (zs:List Int) (w:World) (hB:IsB w a len zs):Calls Tryz.prog 105 #[.int .i64 k,.slice a len cap] w fun e w'=>e=.returned (.tuple #[.int .u64 (takeN k zs).1,.int .i64 (takeN k zs).2.1,.int .i64 (takeN k zs).2.2])∧w'=w:=by
 have hl:=hB.1
 by_cases k7:k=7
 ·subst k7
  by_cases h4:4≤len
  ·have ht:=take32_any a len cap zs w hB h4
   have hbd:=low4_bd hB h4
   have e:takeN 7 zs=(low (zs.take 4),4,0):=by unfold takeN;rw[if_pos rfl,if_neg (by omega)]
   rw[e]
   have hw:IntKind.u64.wrap (low (zs.take 4))=low (zs.take 4):=by rw[IntKind.wrap_u64];omega
   generalize low (zs.take 4)=N at *
   clear e hB hl
   go_enter Tryz.func105,Tryz.ntmps105
   go_wp2_with fail
   refine ht.mono ?_
   rintro e w9 ⟨rfl,h9⟩
   have h9:=h9.symm
   subst h9
   clear ht
   go_wp2_with fail
   go_ret3
   exact⟨rfl,rfl⟩
  ·have ht:=take32_none a len cap w h4
   have e:takeN 7 zs=(0,4,5):=by unfold takeN;rw[if_pos rfl,if_pos (by omega)]
   rw[e]
   clear e hB hl
   go_enter Tryz.func105,Tryz.ntmps105
   go_wp2_with fail
   refine ht.mono ?_
   rintro e w9 ⟨rfl,h9⟩
   have h9:=h9.symm
   subst h9
   clear ht
   go_wp2_with fail
   go_ret3
   exact⟨rfl,rfl⟩
 by_cases k8:k=8
 ·subst k8
  by_cases h4:8≤len
  ·have ht:=take64_any a len cap zs w hB h4
   have e:takeN 8 zs=(low (zs.take 8),8,0):=by unfold takeN;rw[if_neg (by decide),if_pos rfl,if_neg (by omega)]
   rw[e]
   generalize low (zs.take 8)=N at *
   clear e hB hl
   go_enter Tryz.func105,Tryz.ntmps105
   go_wp2_with fail
   refine ht.mono ?_
   rintro e w9 ⟨rfl,h9⟩
   have h9:=h9.symm
   subst h9
   clear ht
   go_wp2_with fail
   go_ret3
   exact⟨rfl,rfl⟩
  ·have ht:=take64_none a len cap w h4
   have e:takeN 8 zs=(0,8,5):=by unfold takeN;rw[if_neg (by decide),if_pos rfl,if_pos (by omega)]
   rw[e]
   clear e hB hl
   go_enter Tryz.func105,Tryz.ntmps105
   go_wp2_with fail
   refine ht.mono ?_
   rintro e w9 ⟨rfl,h9⟩
   have h9:=h9.symm
   subst h9
   clear ht
   go_wp2_with fail
   go_ret3
   exact⟨rfl,rfl⟩
 ·have ht:=take_any a len cap zs w hB
  have e:takeN k zs=dec 0 0 zs:=by unfold takeN;rw[if_neg k7,if_neg k8]
  rw[e]
  generalize dec 0 0 zs=N at *
  have d7:(k == 7)=false:=by simp[k7]
  have d8:(k == 8)=false:=by simp[k8]
  clear e hB hl
  go_enter Tryz.func105,Tryz.ntmps105
  go_wp2_with fail
  refine ht.mono ?_
  rintro e w9 ⟨rfl,h9⟩
  have h9:=h9.symm
  subst h9
  clear ht
  go_wp2_with fail
  go_ret3
  exact⟨rfl,rfl⟩
set_option maxHeartbeats 1000000 in
theorem isNumD_any (k:Int) (w:World):Calls Tryz.prog 81 #[.int .i64 k] w fun e w'=>e=.returned (.bool (isNum k))∧w'=w:=by
 obtain⟨R,hR⟩:∃ R,isNum k=R:=⟨_,rfl⟩
 have HR:Hid (decide (k≠5∧k≠6∧k≠10)=R):=hR
 rw[hR]
 clear hR
 by_cases h5:k=5
 ·subst h5
  have e:R=false:=by rw[←HR.out];decide
  subst e
  go_enter Tryz.func81,Tryz.ntmps81
  go_wp2_with fail
  go_ret
  exact⟨rfl,rfl⟩
 by_cases h6:k=6
 ·subst h6
  have e:R=false:=by rw[←HR.out];decide
  subst e
  go_enter Tryz.func81,Tryz.ntmps81
  go_wp2_with fail
  go_ret
  exact⟨rfl,rfl⟩
 by_cases h10:k=10
 ·subst h10
  have e:R=false:=by rw[←HR.out];decide
  subst e
  go_enter Tryz.func81,Tryz.ntmps81
  go_wp2_with fail
  go_ret
  exact⟨rfl,rfl⟩
 ·have e:R=true:=by rw[←HR.out];simp[h5,h6,h10]
  subst e
  have k5:(k != 5)=true:=by simp[h5]
  have k6:(k != 6)=true:=by simp[h6]
  have k10:(k != 10)=true:=by simp[h10]
  go_enter Tryz.func81,Tryz.ntmps81
  go_wp2_with fail
  go_ret
  exact⟨rfl,rfl⟩
def exO:Option (List Nd)→Except Int (List Nd)
 | none=>.error 2
 | some l=>.ok l
def unpR (k:Int) (zs:List Int):Except Int (List Nd):=exO (unpack k zs)
theorem numD_kind (k n:Int):(numD k n).kind≠7:=by
 unfold numD
 repeat' split
 all_goals simp
theorem ival_num (k n:Int):∃ U u,ival (numD k n) .nilFunc=.iface U u:=by
 unfold numD
 repeat' split
 all_goals exact⟨_,_,rfl⟩
set_option maxHeartbeats 8000000 in
set_option maxRecDepth 20000 in
theorem unpacked_any (K:Int) (f:Nat) (a:Option Addr) (len cap:Nat) (zs:List Int) (w:World) (hB:IsB w a len zs) (hlc:len≤cap) (hcm:cap≤9223372036854775807) (hlm:len≤100000) :
  Calls Tryz.prog 83 #[.int .i64 K,.slice a len cap] w fun e w'=>VsAns f (unpR K zs) w e w':=by
 obtain⟨R,hR⟩:∃ R,unpack K zs=R:=⟨_,rfl⟩
 have HR:=hQz hR
 have HB:=hQz hB
 have HU:Hid (unpR K zs=exO R):=by
  refine(?_:_=_)
  unfold unpR;rw[hR]
 rw[HU.out]
 clear hB hR HU
 go_enter Tryz.func83,Tryz.ntmps83
 go_wp2_with fail
 go_loopw [6,7] (fun ov i wr=>∃ (k:Nat) (o':Value) (vs:List Nd) (rs:List (List Value)),o'=ov∧i=.int .i64 (k:Int)∧k≤len∧vs.length≤k∧R=(unpack K (zs.drop k)).map (vs++·)∧Below w.heap.size w wr∧Gr (VRs valS f) wr w.heap.size 31 1 o' vs rs∧(vs=[]→o'=.slice none 0 0)) (fun _ i _=>len - (Go.RowKit.intOf i).toNat)
 case atStart=>exact⟨0,_,[],[],rfl,rfl,Nat.zero_le _,Nat.le_refl _,by rw[←HR.out];simp,Below.refl _ _,Gr.nil _ _ _ _ _,fun _=>rfl⟩
 case round=>
  generalize wr=w1 at *
  obtain⟨k,o',vs,rs,rfl,rfl,hk,hvl,hun,hbel,hgr,hnil⟩:=hrel
  obtain⟨oa,oc,hov⟩:=own_slice hgr.own
  obtain⟨n,hn⟩:∃ n,vs.length=n:=⟨_,rfl⟩
  rw[hn]at hov hvl
  subst hov
  have HNIL:=hQz hnil
  clear hnil
  have HBE:=hQz hbel
  have HGR:=hQz hgr
  have HN:=hQz hn
  have HUN:=hQz hun
  have hws:=hbel.size
  have HFB:Hid (∀ b,(Value.slice oa n oc).ownBlock=some b→w.heap.size≤b∧b<w1.heap.size):=hgr.blk
  clear hgr hn hun
  by_cases hkn:k<len
  ·have hzl:=HB.out.1
   obtain⟨b,off,_,rfl,_⟩:=isB_at HB.out hkn
   have hck:¬cap=k:=by omega
   have hIk:IsB w1 (some ⟨b,off+k,none⟩) (len - k) (zs.drop k):=by
    have:=isB_cut (isB_old HB.out hbel) hlc k (by omega)
    rw[cutAt_in hck]at this
    exact this
   have hT:=takeNumber_any K (some ⟨b,off+k,none⟩) (len - k) (cap - k) (zs.drop k) w1 hIk
   have hne:zs.drop k≠[]:=by
    intro h
    have:=congrArg List.length h
    rw[List.length_drop]at this
    simp at this;omega
   have hbs:IsBs (zs.drop k):=fun z hz=>isB_bytes HB.out z (List.mem_of_mem_drop hz)
   have HKE:Hid ((takeN K (zs.drop k)).2.2=0→(1≤(takeN K (zs.drop k)).2.1∧(takeN K (zs.drop k)).2.1≤((len - k:Nat):Int))∧(0≤(takeN K (zs.drop k)).1∧(takeN K (zs.drop k)).1≤18446744073709551615)):=by
    refine(?_:_→_)
    intro h
    have h1:=takeN_k K (zs.drop k) hbs h
    rw[List.length_drop,hzl]at h1
    exact⟨h1,(takeN_bd hbs h).1⟩
   have HON:Hid ((takeN K (zs.drop k)).2.2=0→R=(unpack K ((zs.drop k).drop (takeN K (zs.drop k)).2.1.toNat)).map ((vs++[numD K (takeN K (zs.drop k)).1])++·)):=by
    refine(?_:_→_)
    intro h
    rw[HUN.out,unpack_on hbs hne h,Option.map_map]
    congr 1
    funext l
    simp
   have HER:Hid ((takeN K (zs.drop k)).2.2≠0→R=none):=by
    refine(?_:_→_)
    intro h
    rw[HUN.out,unpack_err hne h];rfl
   have hk0:(0:Int)≤(k:Int):=by omega
   have hk1:(k:Int)<(len:Int):=by omega
   clear hzl hne hbs hIk hbel HUN
   generalize takeN K (zs.drop k)=r at *
   obtain⟨rn,rs',re⟩:=r
   dsimp only at hT HKE HON HER
   by_cases hE:re=0
   ·subst hE
    obtain⟨⟨hs1,hs2⟩,hr1,hr2⟩:=HKE.out rfl
    have hON:=HON.out rfl
    obtain⟨q,rfl⟩:=Int.eq_ofNat_of_zero_le (show 0≤rs' by omega)
    rw[Int.toNat_natCast,List.drop_drop]at hON
    have HON2:=hQz hON
    have hq1:1≤q:=by omega
    have hof:=ofNumber_any K rn w1 hr1 hr2
    have hvk:(numD K rn).kind≠7:=numD_kind _ _
    obtain⟨U,u,hV⟩:=ival_num K rn
    generalize numD K rn=Y at *
    have hone:=ival_one Y .nilFunc
    rw[hV]at hof hone
    have HVY:=hQz hV
    have HY7:=hQz hvk
    obtain⟨X,hX,hXC,hXb,hXs⟩:=box_new w1 #[.iface U u] 31
    have HX:=hQz hX
    have hGX:Gr (VRs valS f) X w.heap.size 31 1 (.slice oa n oc) vs rs:=HGR.out.keep (mvsV valS f) (fun b _ hb=>hXb.block b hb) hXb.size
    have HGX:=hQz hGX
    have HXC:=hQz hXC
    have HXB:=hQz (HBE.out.trans (hXb.mono hws))
    have hwq:IntKind.i64.wrap ((k:Int)+(q:Int))=(k:Int)+(q:Int):=by rw[IntKind.wrap_i64];omega
    have hOW:X.ownsRow w.heap.size 31 1 (.slice oa n oc) n (rs.flatMap id):=by have:=hGX.own;rw[HN.out]at this;exact this
    have HOW:=hQz hOW
    have hn1:n≤100000:=by omega
    clear HKE HON HER hON hV hvk hX hXC hXb hGX hOW hs1
    go_wp2_with fail
    refine hT.mono ?_
    rintro e w9 ⟨rfl,h9⟩
    have h9:=h9.symm
    subst h9
    clear hT
    go_wp2_with fail
    refine hof.mono ?_
    rintro e w9 ⟨rfl,h9⟩
    have h9:=h9.symm
    subst h9
    clear hof
    go_wp2_with (at_builtin;rw[HX.out];refine wpushL (T:=31) (base:=w.heap.size) (n:=n) (v:=.slice oa n oc) (xs:=rs.flatMap id) Tryz.underlying77 infoVV rfl (by decide) HOW.out (by omega) ⟨w1.heap.size,0,none⟩ 1 1 [.iface U u] rfl (by intro q hu;have e:q=.iface U u:=(by simpa using hu);rw[e];exact hone) (fun j u hu=>World.news_of_block HXC.out j u hu) (by decide) rfl _ _ rfl rfl rfl (by unfold maxLen;omega) (by omega) ?_;intro g cap' W3 hown3 hg3 hat3 hlt3)
    have hG3:Gr (VRs valS f) W3 w.heap.size 31 1 (.slice (some ⟨g,0,none⟩) (n+1) cap') (vs++[Y]) (rs++[[.iface U u]]):=HGX.out.push (mvsV valS f) (x:=Y) (r:=[.iface U u]) rfl ⟨.nilFunc,by rw[←HVY.out];rfl,fun h=>absurd (by simpa [valS]using h) HY7.out⟩ HN.out hown3 hg3 hat3
    have HG3:=hQz hG3
    have HB3:Hid (Below w.heap.size w W3):=HXB.out.grown hg3 (by omega) (fun b hb=>(HFB.out b hb).1)
    clear hG3 hown3 hg3 hat3 hlt3
    go_wp2_with fail
    go_roundw
    case rel=>exact⟨k+q,_,vs++[Y],_,rfl,by go_num,by omega,by rw[List.length_append,HN.out];simp;omega,HON2.out,HB3.out,HG3.out,fun h=>absurd h (by simp)⟩
    case measure=>simp[Go.RowKit.intOf];omega
   ·have hER:=HER.out hE
    subst hER
    have hE2:(re == 0)=false:=by simp[hE]
    have hE3:(re != 0)=true:=by simp[hE]
    clear HKE HON HER
    go_wp2_with fail
    refine hT.mono ?_
    rintro e w9 ⟨rfl,h9⟩
    have h9:=h9.symm
    subst h9
    clear hT
    go_wp2_with fail
    go_ret2
    exact⟨by decide,⟨_,rfl⟩,HBE.out⟩
  ·have hkn':¬(k:Int)<(len:Int):=by omega
   have hre:R=some vs:=by
    rw[HUN.out,List.drop_eq_nil_of_le (by have:=HB.out.1;omega),unpack_nil]
    simp
   subst hre
   have HVS:=hQz (HGR.out.vals (s:=valS) (fun b=>w.heap.size≤b∧b<w1.heap.size) (fun b h1 h2=>⟨h1,h2⟩))
   have HNL:Hid (vs=[]→oa=none∧oc=0):=by
    refine(?_:_→_)
    intro h
    have h0:=Value.slice.inj (HNIL.out h)
    exact⟨h0.1,h0.2.2⟩
   go_wp2_with fail
   go_ret2
   refine⟨oa,oc,by rw[HN.out];rfl,HNL.out,by rw[HN.out];exact HVS.out,HBE.out⟩
def keepD (fd:FD) (l:List Nd):Bool:=match l[0]? with
 | none=>false
 | some y=>fd.rep || !defP y
def decRF (rec:Int→List Int→Except Int Nd) (known:List WF) (fd:FD):Except Int (List (Int × List Nd)):=match decVs rec fd (toRead fd known)with
 | .error e=>.error e
 | .ok l=>.ok (if keepD fd l=true then [(fd.num,l)] else [])
def decR (ms:List MD):Nat→Int→List Int→Except Int Nd
 | 0,t,zs=>.error 8
 | f+1,t,zs=>match split zs with
  | none=>.error 2
  | some D=>match exL (decRF (decR ms f) (knownL (fieldsOf ms t) D)) (fieldsOf ms t)with
   | .error e=>.error e
   | .ok fl=>.ok ⟨7,0,0,false,u8s (unknL (fieldsOf ms t) D),t,fl⟩
def exMap {α β:Type} (h:α→β):Except Int α→Except Int β
 | .error e=>.error e
 | .ok x=>.ok (h x)
theorem exL_map {α β γ:Type} {g:α→Except Int (List β)} {g':α→Except Int (List γ)} {F:List β→List γ} (h0:F []=[]) (hF:∀ a b,F (a++b)=F a++F b):∀ {l:List α},(∀ x∈l,g' x=exMap F (g x))→exL g' l=exMap F (exL g l)
 | [],_=>by show Except.ok []=Except.ok (F []);rw[h0]
 | x :: t,h=>by
  rw[exL_cons,exL_cons,h x List.mem_cons_self,exL_map h0 hF fun y hy=>h y (List.mem_cons_of_mem _ hy)]
  cases g x with
  | error e=>rfl
  | ok a=>cases exL g t with
   | error e=>rfl
   | ok b=>show Except.ok (F a++F b)=Except.ok (F (a++b));rw[hF]
theorem norm_defR (ms:List MD) (f:Nat) (y:Nd):defP (normN ms f y)=defP y:=by
 by_cases h:y.kind=7
 ·have h1:(normN ms f y).kind=7:=by rw[norm_kind];exact h
  unfold defP
  simp[h,h1]
 ·rw[norm_else ms f y h]
theorem kept_append (ms:List MD) (g:Nd→Nd) (t:Int) (a b:List (Int × List Nd)):keptL ms g t (a++b)=keptL ms g t a++keptL ms g t b:=by unfold keptL;rw[List.filter_append,List.map_append]
theorem num_norm (ms:List MD) (f:Nat) {k:Int}:∀ (m:Nat) {zs:List Int} {l:List Nd},zs.length≤m→IsBs zs→unpack k zs=some l→l.map (normN ms f)=l:=fun m zs l hm hb hu=>by
 have h1:∀ y∈l,normN ms f y=y:=fun y hy=>by
  obtain⟨n,rfl,_⟩:=unpack_of m hm hb hu y hy
  exact norm_else ms f _ (numD_kind _ _)
 rw[List.map_congr_left h1];simp
theorem decV_map {ms:List MD} {f:Nat} {r r':Int→List Int→Except Int Nd} {fd:FD} {x:WF} (hb:IsBs x.d) (hr:fd.kind=10→r' fd.type x.d=exMap (normN ms f) (r fd.type x.d)):decV r' fd x=exMap (List.map (normN ms f)) (decV r fd x):=by
 unfold decV
 by_cases h1:isNum fd.kind=true
 ·rw[if_pos h1,if_pos h1]
  by_cases h2:x.ty=2
  ·rw[if_pos h2]
   cases hu:unpack fd.kind x.d with
   | none=>rfl
   | some l=>show Except.ok l=Except.ok (l.map (normN ms f));rw[num_norm ms f x.d.length (Nat.le_refl _) hb hu]
  ·rw[if_neg h2]
   show Except.ok [numD fd.kind x.n]=Except.ok [normN ms f (numD fd.kind x.n)]
   rw[norm_else ms f _ (numD_kind _ _)]
 ·rw[if_neg h1,if_neg h1]
  by_cases h2:fd.kind=10
  ·rw[if_pos h2,if_pos h2,hr h2]
   cases r fd.type x.d <;> rfl
  ·rw[if_neg h2,if_neg h2]
   have hs:∀ k:Int,k≠7→normN ms f (strD k x.d)=strD k x.d:=fun k hk=>norm_else ms f _ hk
   by_cases h3:fd.kind=5
   ·rw[if_pos h3]
    by_cases h4:valB (u8s x.d)=true
    ·rw[if_pos h4]
     show Except.ok [strD 4 x.d]=Except.ok [normN ms f (strD 4 x.d)]
     rw[hs 4 (by decide)]
    ·rw[if_neg h4];rfl
   ·rw[if_neg h3]
    show Except.ok [strD 5 x.d]=Except.ok [normN ms f (strD 5 x.d)]
    rw[hs 5 (by decide)]
theorem decR_eq {ms:List MD} (hK:KindOK ms):∀ (f:Nat) (t:Int) (zs:List Int),0≤t→t<(ms.length:Int)→IsBs zs→decR ms f t zs=exMap (normN ms f) (decM ms f t zs)
 | 0,t,zs,h0,h1,hb=>rfl
 | f+1,t,zs,h0,h1,hb=>by
  unfold decR decM
  cases hs:split zs with
  | none=>rfl
  | some D=>
   have hP:=split_ok zs.length (Nat.le_refl _) hb hs
   obtain⟨m,hm⟩:∃ m,ms[t.toNat]? = some m:=⟨_,List.getElem?_eq_getElem (by omega)⟩
   have hmm:=List.mem_of_getElem? hm
   have hfo:fieldsOf ms t=m.fields:=by unfold fieldsOf;rw[hm]
   obtain⟨hri,hnu,hkd⟩:=hK m hmm
   have hstep:∀ fd∈fieldsOf ms t,decRF (decR ms f) (knownL (fieldsOf ms t) D) fd=exMap (keptL ms (normN ms f) t) (decF (decM ms f) (knownL (fieldsOf ms t) D) fd):=by
    intro fd hfd
    rw[hfo]at hfd ⊢
    have hro:=read_ok hri hfd hP
    have hv:decVs (decR ms f) fd (toRead fd (knownL m.fields D))=exMap (List.map (normN ms f)) (decVs (decM ms f) fd (toRead fd (knownL m.fields D))):=by
     unfold decVs
     refine exL_map rfl (fun a b=>List.map_append) fun x hx=>?_
     have hxb:IsBs x.d:=(hro x hx).db
     exact decV_map hxb fun h10=>decR_eq hK f _ _ ((hkd fd hfd).2 h10).1 ((hkd fd hfd).2 h10).2 hxb
    unfold decRF decF
    rw[hv]
    cases decVs (decM ms f) fd (toRead fd (knownL m.fields D))with
    | error e=>rfl
    | ok l=>
     show Except.ok (if keepD fd (l.map (normN ms f))=true then [(fd.num,l.map (normN ms f))] else [])=Except.ok (keptL ms (normN ms f) t (if l.length=0 then [] else [(fd.num,l)]))
     cases l with
     | nil=>rfl
     | cons y l=>
      have e1:keepD fd ((y :: l).map (normN ms f))=keepB (fieldsOf ms t) (fd.num,y :: l):=by
       unfold keepB
       rw[hfo]
       dsimp only
       rw[firstF_rise hri hfd]
       show (fd.rep || !defP (normN ms f y))=(fd.rep || !defP y)
       rw[norm_defR]
      rw[e1,show (if (y :: l).length=0 then ([]:List (Int × List Nd)) else [(fd.num,y :: l)])=[(fd.num,y :: l)] from if_neg (by simp)]
      unfold keptL
      cases hk:keepB (fieldsOf ms t) (fd.num,y :: l) <;> simp[hk]
   have hfl:=exL_map (F:=keptL ms (normN ms f) t) rfl (kept_append ms (normN ms f) t) hstep
   dsimp only
   rw[hfl]
   cases exL (decF (decM ms f) (knownL (fieldsOf ms t) D)) (fieldsOf ms t)with
   | error e=>rfl
   | ok fl=>
    show Except.ok _=Except.ok (normN ms (f+1) _)
    rw[norm_msg ms f _ rfl]
def cutS (a:Option Addr) (c k:Nat):Option Addr:=if c=k then a else a.map (·.add k)
def SlS (w:World) (a:Option Addr) (len cap:Nat) (zs:List Int):Prop:=IsB w a len zs∧len≤cap∧(a=none→len=0∧cap=0)
theorem cutS_from (a:Option Addr) (n c k:Nat) (hk:k≤n) (hn:n≤c) (W:World) :
  (Instr.slice 27 (.slice a n c) (some (.int .i64 (k:Int))) none none).run Tryz.prog W=.ok (.slice (cutS a c k) (n - k) (c - k)) W:=by
 have h0:(0:Int)≤(k:Int):=by omega
 unfold cutS
 by_cases h:c=k
 ·simp[go_sem,Instr.slice,Instr.sliceBounds,Instr.sliceBound,h,h0,hk]
 ·simp[go_sem,Instr.slice,Instr.sliceBounds,Instr.sliceBound,h,h0,hk]
theorem cutS_to (a:Option Addr) (n c m:Nat) (hm:m≤n) (hn:n≤c) (W:World) :
  (Instr.slice 27 (.slice a n c) none (some (.int .i64 (m:Int))) none).run Tryz.prog W=.ok (.slice a m c) W:=by
 have h2:(0:Int)≤(m:Int):=by omega
 have h4:m≤c:=by omega
 simp[go_sem,Instr.slice,Instr.sliceBounds,Instr.sliceBound,h2,h4]
theorem slS_cut {w:World} {a:Option Addr} {n c:Nat} {zs:List Int} (h:SlS w a n c zs) (k m:Nat) (hk:k≤m) (hm:m≤n):SlS w (cutS a c k) (m - k) (c - k) ((zs.drop k).take (m - k)):=by
 obtain⟨⟨h1,h2,h3⟩,h4,h6⟩:=h
 refine⟨⟨by rw[List.length_take,List.length_drop];omega,by omega,?_⟩,by omega,?_⟩
 ·rcases h3 with rfl | ⟨b,off,rfl,hh⟩
  ·left;simp
  ·by_cases hc:c=k
   ·left
    have:m - k=0:=by omega
    rw[this,List.take_zero]
   ·right
    refine⟨b,off+k,by unfold cutS;rw[if_neg hc];simp[add_off],fun j z hj=>?_,fun z hz=>hh.2 z (List.mem_of_mem_drop (List.mem_of_mem_take hz))⟩
    rw[List.getElem?_take]at hj
    split at hj
    ·rw[List.getElem?_drop]at hj
     have:=hh.1 (k+j) z hj
     rwa [Nat.add_assoc]
    ·cases hj
 ·intro e
  unfold cutS at e
  split at e
  ·have:=h6 e;omega
  ·cases a with
   | none=>have:=h6 rfl;omega
   | some x=>simp at e
theorem slS_drop {w:World} {a:Option Addr} {n c:Nat} {zs:List Int} (h:SlS w a n c zs) (k:Nat) (hk:k≤n):SlS w (cutS a c k) (n - k) (c - k) (zs.drop k):=by
 have h1:=slS_cut h k n hk (Nat.le_refl _)
 rwa [List.take_of_length_le (by rw[List.length_drop,h.1.1];omega)]at h1
theorem slS_take {w:World} {a:Option Addr} {n c:Nat} {zs:List Int} (h:SlS w a n c zs) (m:Nat) (hm:m≤n):IsB w a m (zs.take m):=by
 have h1:=(slS_cut h 0 m (Nat.zero_le _) hm).1
 have e:cutS a c 0=a:=by
  unfold cutS
  split
  ·rfl
  ·cases a with
   | none=>rfl
   | some x=>simp[Addr.add]
 rw[e]at h1
 simpa using h1
theorem slS_old {w w':World} {a:Option Addr} {n c:Nat} {zs:List Int} (h:SlS w a n c zs) (hb:Below w.heap.size w w'):SlS w' a n c zs:=⟨isB_old h.1 hb,h.2⟩
end Go.Proofs.YteajlfgbmefncaaGreatDoor
