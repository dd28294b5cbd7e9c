/-
  Walks and plain words (WSp RSp VkC).
-/
import Derived.Test.YteajlfgbmefncaaGreatDoorN5
import Derived.Test.YteajlfgbmefncaaGreatDoorN19
import Derived.Handy
import Derived.Deep.RegionLaw
import Derived.Test.YteajlfgbmefncaaGreatDoorN11
import Derived.Test.YteajlfgbmefncaaGreatDoorN8
import Derived.Lib.ConvBytes
import Derived.Lib.AtoiErrMem
import Derived.BigQuiet
import Derived.Deep.RegionHeldLaw
import Derived.Deep.Cut
import Derived.Deep.DeepCutAuto
namespace Go.Proofs.YteajlfgbmefncaaGreatDoor
set_option linter.unusedVariables false
open Go.ChangeShapes Go.WideShapes Go.ChangeAt Go.RowKit

theorem fieldWB:FieldType 83 123:=⟨Tryz.underlying83,by kernel_rfl⟩
theorem spAns_none {e:TypeId} {w w':World} (hb:Below w.heap.size w w'):SpAns e w w' (.returned (.tuple #[.slice none 0 0,.slice none 0 0,.int .i64 2])) none:=⟨rfl,hb⟩
theorem newB_own {w:World} {base:Nat} {v:Value} {xs:List Int} (h:OwnB w base v xs) (hb:∀ z∈xs,0≤z∧z≤255) (hm:xs.length≤281474976710656) :
  ∃ a c,v=.slice a xs.length c∧NewB w base a xs.length xs∧NoA a xs.length c:=by
 obtain⟨a,c,hv,hno,hst⟩:=ownE_isB (.inl h) hb hm
 exact⟨a,c,hv,stable_newB hst,hno⟩

set_option maxHeartbeats 4000000 in
theorem splitW_any (a:Option Addr) (len cap:Nat) (zs:List Int) (w:World) (hB:IsB w a len zs) (hlc:len≤cap) (hcm:cap≤9223372036854775807) (hlm:len≤2097152) :
  Calls Tryz.prog 52 #[.slice a len cap] w fun e w'=>SpAns 123 w w' e (split zs):=by
 have HB:Hid (IsB w a len zs):=hB
 clear hB
 go_enter Tryz.func52,Tryz.ntmps52
 go_wp2_with fail
 go_loopw [5,6,7] (fun v5 v6 i wr=>∃ (k:Nat) (fs:List FR) (rs:List Row3) (D:List (TF × List Int)),k≤len∧i=.int .i64 k∧SplSt wr w.heap.size 123 v5 v6 fs rs∧FitsF fs D∧FitsR rs D∧D.length≤k∧split zs=(split (zs.drop k)).map (D++·)∧Below w.heap.size w wr) (fun _ _ i _=>len - (intOf i).toNat)
 case atStart=>exact⟨0,[],[],[],by omega,rfl,SplSt.nil _ _ _,FitsF.nil,FitsR.nil,by simp,by simp,Below.refl _ _⟩
 case round=>
  obtain⟨k,fs,rs,D,hk,rfl,hst,hFF,hFR,hDk,hsp,hbel⟩:=hrel
  have HST:Hid (SplSt wr w.heap.size 123 u5 u6 fs rs):=hst
  have HFF:Hid (FitsF fs D):=hFF
  have HFR:Hid (FitsR rs D):=hFR
  have HSP:Hid (split zs=(split (zs.drop k)).map (D++·)):=hsp
  have HBL:Hid (Below w.heap.size w wr):=hbel
  have hszr:=hbel.size
  have hfl:fs.length≤k:=by have:=hFF.len;omega
  have hrl:rs.length≤k:=by have:=hFR.len;omega
  clear hst hFF hFR hsp hbel
  by_cases hlt:k<len
  ·have hzl:=HB.out.1
   obtain⟨b,off,_,rfl,_⟩:=isB_at HB.out hlt
   have hck:¬cap=k:=by omega
   have HIk:Hid (IsB wr (some ⟨b,off+k,none⟩) (len - k) (zs.drop k)):=by
    refine(?_:IsB wr (some ⟨b,off+k,none⟩) (len - k) (zs.drop k))
    have:=isB_cut (isB_old HB.out HBL.out) hlc k (by omega)
    rw[cutAt_in hck]at this
    exact this
   have hT:=takeW_any (some ⟨b,off+k,none⟩) (len - k) (cap - k) (zs.drop k) wr HIk.out (by omega) (by omega) (by omega)
   have hne:zs.drop k≠[]:=by
    intro h
    have:=congrArg List.length h
    rw[List.length_drop]at this
    simp at this;omega
   have hE:=tf_e (zs.drop k)
   have HKE:Hid ((tf (zs.drop k)).e=0→1≤(tf (zs.drop k)).k∧(tf (zs.drop k)).k≤((len - k:Nat):Int)):=by
    intro h
    have:=tf_k (zs.drop k) (fun z hz=>isB_bytes HB.out z (List.mem_of_mem_drop hz)) h
    rw[List.length_drop,hzl]at this
    exact this
   have HON:Hid ((tf (zs.drop k)).e=0→split zs=(split ((zs.drop k).drop (tf (zs.drop k)).k.toNat)).map ((D++[(tf (zs.drop k),(zs.drop k).take (tf (zs.drop k)).k.toNat)])++·)):=by
    intro h
    rw[HSP.out,split_on _ (fun z hz=>isB_bytes HB.out z (List.mem_of_mem_drop hz)) hne h]
    simp[Option.map_map,Function.comp_def]
   have HER:Hid ((tf (zs.drop k)).e≠0→split zs=none):=by
    intro h
    rw[HSP.out,split_err _ hne h];rfl
   clear hzl hne HSP
   generalize tf (zs.drop k)=r at *
   obtain⟨rnum,rty,rn,rd,rk,re⟩:=r
   have HT2:Hid (Calls Tryz.prog 78 #[.slice (some ⟨b,off+k,none⟩) (len - k) (cap - k)] wr fun e w'=>∃ a len cap,e=.returned (.tuple #[.agg #[.int .i64 rnum,.int .i64 rty,.int .u64 rn,.slice a len cap],.int .i64 rk,.int .i64 re])∧NewB w' wr.heap.size a len rd∧NoA a len cap∧Below wr.heap.size wr w'):=hT
   clear hT
   simp only[]at hE
   have hE0:re=0∨re=2∨re=5:=hE
   clear hE
   rcases hE0 with rfl | rfl | rfl
   ·obtain⟨hk1,hk2⟩:=HKE.out rfl
    have hON:=HON.out rfl
    simp only[]at hk1 hk2 hON
    obtain⟨q,rfl⟩:=Int.eq_ofNat_of_zero_le (show 0≤rk by omega)
    rw[Int.toNat_natCast,List.drop_drop]at hON
    have HON2:Hid (split zs=(split (zs.drop (k+q))).map ((D++[((⟨rnum,rty,rn,rd,(q:Int),0⟩:TF),(zs.drop k).take q)])++·)):=hON
    have HIq:Hid (∀ W,Below w.heap.size w W→IsB W (some ⟨b,off+k,none⟩) q ((zs.drop k).take q)):=by
     intro W hW
     have:=isB_mid (isB_old HB.out hW) hlc k q (by omega)
     rw[cutAt_in hck]at this
     exact this
    have HQB:Hid (∀ z∈(zs.drop k).take q,0≤z∧z≤255):=fun z hz=>isB_bytes HB.out z (List.mem_of_mem_drop (List.mem_of_mem_take hz))
    clear HON HER HKE hON
    have hq1:1≤q:=by omega
    have hq2:k+q≤len:=by omega
    clear hk1 hk2
    go_wp2_with fail
    refine HT2.out.mono ?_
    rintro e W1 ⟨a1,len1,cap1,rfl,hn1,hno1,hb1⟩
    have hoF:=owns_lt HST.out.ownF
    have hoR:=owns_lt HST.out.ownR
    have hfar:FarB W1 u5.ownBlock u6.ownBlock a1 len1 rd:=FarB.of_new hn1 (fun k hk=>(hoF k hk).1) (fun k hk=>(hoR k hk).1)
    have hst1:=HST.out.old hb1
    have hbW1:Below w.heap.size w W1:=HBL.out.trans (hb1.mono hszr)
    have hzW1:=hbW1.size
    have hab:Below W1.heap.size W1 ((W1.alloc (.cells #[.int .i64 rnum,.int .i64 rty,.int .u64 rn,.slice a1 len1 cap1] 123)).alloc (.cells #[.int .i64 rnum,.int .i64 rty,.int .u64 rn,.slice a1 len1 cap1] 123)):=((Below.refl _ _).alloc (Nat.le_refl _) _).alloc (by simp) _
    have HS2:Hid (SplSt ((W1.alloc (.cells #[.int .i64 rnum,.int .i64 rty,.int .u64 rn,.slice a1 len1 cap1] 123)).alloc (.cells #[.int .i64 rnum,.int .i64 rty,.int .u64 rn,.slice a1 len1 cap1] 123)) w.heap.size 123 u5 u6 fs rs):=hst1.old hab
    have HF2:Hid (FarB ((W1.alloc (.cells #[.int .i64 rnum,.int .i64 rty,.int .u64 rn,.slice a1 len1 cap1] 123)).alloc (.cells #[.int .i64 rnum,.int .i64 rty,.int .u64 rn,.slice a1 len1 cap1] 123)) u5.ownBlock u6.ownBlock a1 len1 rd):=hfar.old hab
    have HB2:Hid (Below w.heap.size w ((W1.alloc (.cells #[.int .i64 rnum,.int .i64 rty,.int .u64 rn,.slice a1 len1 cap1] 123)).alloc (.cells #[.int .i64 rnum,.int .i64 rty,.int .u64 rn,.slice a1 len1 cap1] 123))):=hbW1.trans (hab.mono hzW1)
    have HC2:Hid (∀ j u,(FR.cells ⟨rnum,rty,rn,a1,len1,cap1,rd⟩)[j]? = some u→((W1.alloc (.cells #[.int .i64 rnum,.int .i64 rty,.int .u64 rn,.slice a1 len1 cap1] 123)).alloc (.cells #[.int .i64 rnum,.int .i64 rty,.int .u64 rn,.slice a1 len1 cap1] 123)).cell? ((⟨W1.heap.size+1,0,none⟩:Addr).add j)=some u):=by
     intro j u hj
     rw[add_off]
     rcases j with _ | _ | _ | _ | j
     ·simp[FR.cells]at hj;subst hj;simp
     ·simp[FR.cells]at hj;subst hj;simp
     ·simp[FR.cells]at hj;subst hj;simp
     ·simp[FR.cells]at hj;subst hj;simp
     ·simp[FR.cells]at hj
    have HNO1:Hid (NoA a1 len1 cap1):=hno1
    clear hn1 hno1 hb1 hoF hoR hfar hst1 hbW1 hab HT2 HST HBL
    go_wp2_with (at_builtin;refine wpS_F rfl (.tmp 28) (.tmp 30) 83 123 rfl fieldWB w.heap.size u5 u6 fs rs rfl HS2.out ⟨rnum,rty,rn,a1,len1,cap1,rd⟩ HF2.out ⟨W1.heap.size+1,0,none⟩ 1 rfl HC2.out (by simp;omega) (by omega) ?_;intro v3 W3 hst3 hb3)
    have hbw3:Below w.heap.size w W3:=HB2.out.trans hb3
    have HST3:Hid (SplSt W3 w.heap.size 123 v3 u6 (fs++[⟨rnum,rty,rn,a1,len1,cap1,rd⟩]) rs):=hst3
    have HBW3:Hid (Below w.heap.size w W3):=hbw3
    have hz3:=hbw3.size
    clear hst3 hb3 hbw3 HS2 HF2 HB2 HC2
    refine(cloneW_any _ _ _ _ _ (HIq.out _ HBW3.out) (by omega)).mono ?_
    rintro e W4 ⟨v4,rfl,ho4,hb4⟩
    obtain⟨a4,c4,rfl,hn4,hno4⟩:=newB_own ho4 HQB.out (by rw[List.length_take,List.length_drop];omega)
    have hql:((zs.drop k).take q).length=q:=by rw[List.length_take,List.length_drop];have:=HB.out.1;omega
    rw[hql]at hn4 hno4 ⊢
    have HNO4:Hid (NoA a4 q c4):=hno4
    clear hno4
    have hoF:=owns_lt HST3.out.ownF
    have hoR:=owns_lt HST3.out.ownR
    have hfar:FarB W4 v3.ownBlock u6.ownBlock a4 q ((zs.drop k).take q):=FarB.of_new hn4 (fun k hk=>(hoF k hk).1) (fun k hk=>(hoR k hk).1)
    have hab:Below W4.heap.size W4 (W4.alloc (.cells #[.slice a4 q c4] 27)):=(Below.refl _ _).alloc (Nat.le_refl _) _
    have HS4:Hid (SplSt (W4.alloc (.cells #[.slice a4 q c4] 27)) w.heap.size 123 v3 u6 (fs++[⟨rnum,rty,rn,a1,len1,cap1,rd⟩]) rs):=(HST3.out.old hb4).old hab
    have HF4:Hid (FarB (W4.alloc (.cells #[.slice a4 q c4] 27)) v3.ownBlock u6.ownBlock a4 q ((zs.drop k).take q)):=hfar.old hab
    have hbw4:Below w.heap.size w W4:=HBW3.out.trans (hb4.mono hz3)
    have hz4:=hbw4.size
    have HBW4:Hid (Below w.heap.size w (W4.alloc (.cells #[.slice a4 q c4] 27))):=hbw4.alloc hz4 _
    have HC4:Hid ((W4.alloc (.cells #[.slice a4 q c4] 27)).cell? ((⟨W4.heap.size,0,none⟩:Addr).add 0)=some (Row3.val ⟨a4,q,c4,(zs.drop k).take q⟩)):=by
     refine(?_:(W4.alloc (.cells #[.slice a4 q c4] 27)).cell? ((⟨W4.heap.size,0,none⟩:Addr).add 0)=some (Row3.val ⟨a4,q,c4,(zs.drop k).take q⟩))
     rw[add_off];simp[Row3.val]
    clear ho4 hb4 hn4 hoF hoR hfar hab hbw4 HST3 hql
    go_wp2_with (at_builtin;refine wpS_R rfl (.tmp 32) (.tmp 40) 123 rfl w.heap.size v3 u6 _ rs rfl HS4.out ⟨a4,q,c4,(zs.drop k).take q⟩ HF4.out ⟨W4.heap.size,0,none⟩ 1 rfl HC4.out (by simp;omega) (by omega) ?_;intro v5 W5 hst5 hb5)
    go_roundw
    case rel=>
     obtain⟨hf1,hf2⟩:=fits_snoc HFF.out HFR.out ⟨rnum,rty,rn,a1,len1,cap1,rd⟩ ⟨a4,q,c4,(zs.drop k).take q⟩ ((⟨rnum,rty,rn,rd,(q:Int),0⟩:TF),(zs.drop k).take q) rfl rfl HNO1.out HNO4.out
     exact⟨k+q,_,_,_,by omega,by go_num,hst5,hf1,hf2,by simp;omega,HON2.out,HBW4.out.trans hb5⟩
    case measure=>simp[intOf];omega
   ·have hER:=HER.out (by simp)
    have HERR:Hid (split zs=none):=hER
    clear HER HON HKE hER
    go_wp2_with fail
    refine HT2.out.mono ?_
    rintro e W1 ⟨a1,len1,cap1,rfl,hn1,hno1,hb1⟩
    have HBW1:Hid (Below w.heap.size w W1):=HBL.out.trans (hb1.mono hszr)
    clear hb1 hn1 hno1
    go_wp2_with fail
    go_ret3
    rw[HERR.out]
    exact spAns_none (HBW1.out.alloc HBW1.out.size _)
   ·have hER:=HER.out (by simp)
    have HERR:Hid (split zs=none):=hER
    clear HER HON HKE hER
    go_wp2_with fail
    refine HT2.out.mono ?_
    rintro e W1 ⟨a1,len1,cap1,rfl,hn1,hno1,hb1⟩
    have HBW1:Hid (Below w.heap.size w W1):=HBL.out.trans (hb1.mono hszr)
    clear hb1 hn1 hno1
    go_wp2_with fail
    go_ret3
    rw[HERR.out]
    exact spAns_none (HBW1.out.alloc HBW1.out.size _)
  ·obtain rfl:k=len:=by omega
   have HE:Hid (split zs=some D):=by
    refine(?_:split zs=some D)
    rw[HSP.out,List.drop_eq_nil_of_le (by have:=HB.out.1;omega),split_nil]
    simp
   clear HSP
   go_wp2_with fail
   go_ret3
   rw[HE.out]
   exact⟨_,_,fs,rs,rfl,HST.out,HFF.out,HFR.out,HBL.out⟩
theorem fieldR:FieldType 100 106:=⟨Tryz.underlying100,by kernel_rfl⟩
def slen:Value→Nat
 | .slice _ n _=>n
 | _=>0
theorem spAnsR_none {e:TypeId} {w w':World} (hb:Below w.heap.size w w'):SpAns e w w' (.returned (.tuple #[.slice none 0 0,.slice none 0 0,.int .i64 2])) none:=⟨rfl,hb⟩

set_option maxHeartbeats 4000000 in
theorem splitR_any (a:Option Addr) (len cap:Nat) (zs:List Int) (w:World) (hB:IsB w a len zs) (hlc:len≤cap) (hcm:cap≤9223372036854775807) (hlm:len≤2097152) :
  Calls Tryz.prog 38 #[.slice a len cap] w fun e w'=>SpAns 106 w w' e (split zs):=by
 have HB:Hid (IsB w a len zs):=hB
 clear hB
 go_enter Tryz.func38,Tryz.ntmps38
 go_wp2_with fail
 go_loopw [0,5,6] (fun v0 v5 v6 wr=>∃ (ax:Option Addr) (l c:Nat) (ys:List Int) (fs:List FR) (rs:List Row3) (D:List (TF × List Int)),v0=.slice ax l c∧IsB w ax l ys∧l≤c∧c≤cap∧l≤len∧SplSt wr w.heap.size 106 v5 v6 fs rs∧FitsF fs D∧FitsR rs D∧D.length+l≤len∧split zs=(split ys).map (D++·)∧Below w.heap.size w wr) (fun v0 _ _ _=>slen v0)
 case atStart=>exact⟨a,len,cap,zs,[],[],[],rfl,HB.out,hlc,by omega,by omega,SplSt.nil _ _ _,FitsF.nil,FitsR.nil,by simp,by simp,Below.refl _ _⟩
 case round=>
  obtain⟨ax,l,c,ys,fs,rs,D,rfl,hI,hl1,hc1,hl2,hst,hFF,hFR,hDk,hsp,hbel⟩:=hrel
  have HI:Hid (IsB w ax l ys):=hI
  have HST:Hid (SplSt wr w.heap.size 106 u5 u6 fs rs):=hst
  have HFF:Hid (FitsF fs D):=hFF
  have HFR:Hid (FitsR rs D):=hFR
  have HSP:Hid (split zs=(split ys).map (D++·)):=hsp
  have HBL:Hid (Below w.heap.size w wr):=hbel
  have hszr:=hbel.size
  have hfl:fs.length≤len:=by have:=hFF.len;omega
  have hrl:rs.length≤len:=by have:=hFR.len;omega
  clear hI hst hFF hFR hsp hbel
  by_cases hlt:0<l
  ·have hzl:=HI.out.1
   obtain⟨b,off,_,rfl,_⟩:=isB_at HI.out hlt
   have hT:=takeFieldR_len (some ⟨b,off,none⟩) l c ys wr (isB_old HI.out HBL.out) hl1 (by omega) (by omega)
   have hne:ys≠[]:=by
    intro h
    rw[h]at hzl;simp at hzl;omega
   have hE:=tf_e ys
   have HKE:Hid ((tf ys).e=0→1≤(tf ys).k∧(tf ys).k≤(l:Int)):=by
    intro h
    have:=tf_k ys (fun z hz=>isB_bytes HI.out z hz) h
    rw[hzl]at this
    exact this
   have HON:Hid ((tf ys).e=0→split zs=(split (ys.drop (tf ys).k.toNat)).map ((D++[(tf ys,ys.take (tf ys).k.toNat)])++·)):=by
    intro h
    rw[HSP.out,split_on _ (fun z hz=>isB_bytes HI.out z hz) hne h]
    simp[Option.map_map,Function.comp_def]
   have HER:Hid ((tf ys).e≠0→split zs=none):=by
    intro h
    rw[HSP.out,split_err _ hne h];rfl
   clear hzl hne HSP
   generalize tf ys=r at *
   obtain⟨rnum,rty,rn,rd,rk,re⟩:=r
   have HT2:Hid (Calls Tryz.prog 64 #[.slice (some ⟨b,off,none⟩) l c] wr fun e w'=>∃ a len cap,e=.returned (.tuple #[.agg #[.int .i64 rnum,.int .i64 rty,.int .u64 rn,.slice a len cap],.int .i64 rk,.int .i64 re])∧NewB w' wr.heap.size a len rd∧NoA a len cap∧Below wr.heap.size wr w'):=hT
   clear hT
   have hE0:re=0∨re≠0:=by omega
   clear hE
   rcases hE0 with rfl | hre
   ·obtain⟨hk1,hk2⟩:=HKE.out rfl
    have hON:=HON.out rfl
    simp only[]at hk1 hk2 hON
    obtain⟨q,rfl⟩:=Int.eq_ofNat_of_zero_le (show 0≤rk by omega)
    rw[Int.toNat_natCast]at hON
    have HON2:Hid (split zs=(split (ys.drop q)).map ((D++[((⟨rnum,rty,rn,rd,(q:Int),0⟩:TF),ys.take q)])++·)):=hON
    have HIq:Hid (∀ W,Below w.heap.size w W→IsB W (some ⟨b,off,none⟩) q (ys.take q)):=by
     intro W hW
     exact isB_take (isB_old HI.out hW) q (by omega)
    have HQB:Hid (∀ z∈ys.take q,0≤z∧z≤255):=fun z hz=>isB_bytes HI.out z (List.mem_of_mem_take hz)
    have HQL:Hid ((ys.take q).length=q):=by
     refine(?_:(ys.take q).length=q)
     rw[List.length_take];have:=HI.out.1;omega
    clear HON HER HKE hON
    have hq1:1≤q:=by omega
    have hq2:q≤l:=by omega
    have hq3:(q:Int)≤(c:Int):=by omega
    have hq4:(0:Int)≤(q:Int):=by omega
    clear hk1 hk2
    go_wp2_with fail
    refine HT2.out.mono ?_
    rintro e W1 ⟨a1,len1,cap1,rfl,hn1,hno1,hb1⟩
    have hoF:=owns_lt HST.out.ownF
    have hoR:=owns_lt HST.out.ownR
    have hfar:FarB W1 u5.ownBlock u6.ownBlock a1 len1 rd:=FarB.of_new hn1 (fun k hk=>(hoF k hk).1) (fun k hk=>(hoR k hk).1)
    have hst1:=HST.out.old hb1
    have hbW1:Below w.heap.size w W1:=HBL.out.trans (hb1.mono hszr)
    have hzW1:=hbW1.size
    go_wp2_with fail
    generalize hV:W1.alloc (.cells #[.int .i64 rnum,.int .i64 rty,.int .u64 rn,.slice a1 len1 cap1] 106)=V
    have hab:Below W1.heap.size W1 V:=by rw[←hV];exact(Below.refl _ _).alloc (Nat.le_refl _) _
    have HSV:Hid (SplSt V w.heap.size 106 u5 u6 fs rs):=hst1.old hab
    have HFV:Hid (FarB V u5.ownBlock u6.ownBlock a1 len1 rd):=hfar.old hab
    have HBV:Hid (Below w.heap.size w V):=hbW1.trans (hab.mono hzW1)
    have hzV:=HBV.out.size
    have hV1:W1.heap.size<V.heap.size:=by rw[←hV];simp
    have f0:V.cell? ⟨W1.heap.size,0,none⟩=some (.int .i64 rnum):=by rw[←hV];simp
    have f1:V.cell? ⟨W1.heap.size,1,none⟩=some (.int .i64 rty):=by rw[←hV];simp
    have f2:V.cell? ⟨W1.heap.size,2,none⟩=some (.int .u64 rn):=by rw[←hV];simp
    have f3:V.cell? ⟨W1.heap.size,3,none⟩=some (.slice a1 len1 cap1):=by rw[←hV];simp
    have HNO1:Hid (NoA a1 len1 cap1):=hno1
    clear hV hab hn1 hno1 hb1 hoF hoR hfar hst1 hbW1 HT2 HST HBL
    go_region_law (first
     | (refine stepS_F rfl (.tmp 21) (.tmp 23) 100 106 rfl fieldR w.heap.size u5 u6 fs rs rfl (HSV.out.old (by go_grown)) ⟨rnum,rty,rn,a1,len1,cap1,rd⟩ (HFV.out.old (by go_grown)) _ 1 rfl (by intro j u hj;rw[add_off];(rcases j with _ | _ | _ | _ | j) <;> simp[FR.cells]at hj <;> (subst hj;simp)) (by simp;omega) (by omega) ?_;intro v3 W3 hst3 hb3 hg3;have hbW3:Below w.heap.size w W3:=HBV.out.trans (((show Below V.heap.size V _ from by go_grown).mono hzV).trans hb3);have hz3:=hbW3.size)
     | (refine stepE_append rfl (.tmp 26) (.tmp 29) rfl W3.heap.size (.slice (some ⟨_,0,none⟩) 0 0) [] rfl (.inr ⟨rfl,_,rfl⟩) (some ⟨b,off,none⟩) q c (ys.take q) rfl (by first | exact HIq.out _ hbW3 | exact HIq.out _ (hbW3.alloc hz3 _)) (by simp) (by simp;omega) (by simp) ?_;intro v4 W4 hown4 hb4;simp only[List.nil_append]at hown4;have hb34:Below W3.heap.size W3 W4:=(by first | exact hb4 | exact((Below.refl _ _).alloc (Nat.le_refl _) _).trans hb4);obtain⟨a4,c4,rfl,hno4,hstb⟩:=ownE_isB hown4 HQB.out (by rw[HQL.out];omega);rw[HQL.out]at hno4 hstb ⊢;have hn4:=stable_newB hstb;have hst4:=hst3.old hb34;have hoF:=owns_lt hst3.ownF;have hoR:=owns_lt hst3.ownR;have hfar4:FarB W4 v3.ownBlock u6.ownBlock a4 q (ys.take q):=FarB.of_new hn4 (fun k hk=>(hoF k hk).1) (fun k hk=>(hoR k hk).1);have hbW4:Below w.heap.size w W4:=hbW3.trans (hb34.mono hz3);have hz4:=hbW4.size)
     | (refine stepS_R rfl (.tmp 25) (.tmp 31) 106 rfl w.heap.size v3 u6 _ rs rfl (hst4.old (by go_grown)) ⟨a4,q,c4,ys.take q⟩ (hfar4.old (by go_grown)) _ 1 rfl (by rw[add_off];simp[Row3.val]) (by simp;omega) (by omega) ?_;intro v5 W5 hst5 hb5;have hbW5:Below w.heap.size w W5:=(hbW4.alloc hz4 _).trans hb5))
    all_goals
     have HST5:Hid (SplSt W5 w.heap.size 106 v3 v5 (fs++[⟨rnum,rty,rn,a1,len1,cap1,rd⟩]) (rs++[⟨a4,q,c4,ys.take q⟩])):=hst5
     have HBW5:Hid (Below w.heap.size w W5):=hbW5
     have HNO4:Hid (NoA a4 q c4):=hno4
     clear hst5 hbW5 hb5 hst4 hst3 hfar4 hoF hoR hn4 hstb hno4 hb34 hbW3 hbW4 hown4 hb4 hg3 hb3 HSV HFV HBV f0 f1 f2 f3
     go_wp2_with fail
     all_goals
      go_roundw
      case rel=>
       obtain⟨hf1,hf2⟩:=fits_snoc HFF.out HFR.out ⟨rnum,rty,rn,a1,len1,cap1,rd⟩ ⟨a4,q,c4,ys.take q⟩ ((⟨rnum,rty,rn,rd,(q:Int),0⟩:TF),ys.take q) rfl rfl HNO1.out HNO4.out
       refine⟨_,l - q,c - q,ys.drop q,_,_,_,rfl,?_,by omega,by omega,by omega,HST5.out,hf1,hf2,by simp;omega,HON2.out,HBW5.out⟩
       have hcut:=isB_cut HI.out hl1 q hq2
       by_cases hcq:c=q
       ·rw[if_pos hcq]
        rw[hcq,cutAt_end]at hcut
        exact hcut
       ·rw[if_neg hcq]
        rw[cutAt_in hcq]at hcut
        exact hcut
      case measure=>simp[slen];omega
   ·have hER:=HER.out (by simpa using hre)
    have HERR:Hid (split zs=none):=hER
    have hE2:(re == 0)=false:=by simpa using hre
    clear HER HON HKE hER
    go_wp2_with fail
    refine HT2.out.mono ?_
    rintro e W1 ⟨a1,len1,cap1,rfl,hn1,hno1,hb1⟩
    have HBW1:Hid (Below w.heap.size w W1):=HBL.out.trans (hb1.mono hszr)
    clear hb1 hn1 hno1
    go_wp2_with fail
    go_ret3
    rw[HERR.out]
    exact spAnsR_none (HBW1.out.alloc HBW1.out.size _)
  ·obtain rfl:l=0:=by omega
   have HE:Hid (split zs=some D):=by
    refine(?_:split zs=some D)
    rw[HSP.out,List.eq_nil_of_length_eq_zero HI.out.1,split_nil]
    simp
   clear HSP
   go_wp2_with fail
   go_ret3
   rw[HE.out]
   exact⟨_,_,fs,rs,rfl,HST.out,HFF.out,HFR.out,HBL.out⟩
theorem conv_bytes (w:World) (l:List UInt8) (hl:l.length≤100000):∃ W c,(convert 9 27 (.string (mkB l))).run Tryz.prog w=.ok (.slice (some ⟨w.heap.size,0,none⟩) l.length c) W∧l.length≤c∧c≤9223372036854775807∧IsB W (some ⟨w.heap.size,0,none⟩) l.length (ints l)∧Below w.heap.size w W∧W.heap.size=w.heap.size+1:=by
 have hr:=Lib.run_convert_string_bytes (P:=Tryz.prog) w 9 27 5 (mkB l) (u:=.string) Tryz.underlying9 Tryz.underlying27 Tryz.underlying5
 have hs:(mkB l).size=l.length:=mkB_size l
 have hd:(mkB l).data.toList=l:=by simp[mkB]
 refine⟨_,_,by rw[hs]at hr;exact hr,by have:=grownCap_ge w l.length 0 5;exact this,by have:=grownCap_le_maxLen w l.length 0 5 (by unfold maxLen;omega);unfold maxLen at this;omega,⟨ints_len l,by omega,?_⟩,?_,Lib.bytesWorld_size _ _ _⟩
 ·by_cases h0:l=[]
  ·left;subst h0;rfl
  ·right
   refine⟨_,_,rfl,fun j z hj=>?_,ints_ok l⟩
   have hjl:j<l.length:=by have:=(List.getElem?_eq_some_iff.1 hj).1;rw[ints_len]at this;exact this
   have:=Lib.bytesWorld_cell w 5 (mkB l) j (by omega)
   rw[Nat.zero_add,this,hd]
   unfold ints at hj
   rw[List.getElem?_map,List.getElem?_eq_getElem hjl]at hj
   simp only[Option.map_some,Option.some.injEq]at hj
   rw[←hj,List.getD_eq_getElem?_getD,List.getElem?_eq_getElem hjl];rfl
 ·exact Lib.bytesWorld_below _ _ _
set_option maxHeartbeats 16000000 in
set_option maxRecDepth 20000 in
theorem noneP_any (nm:List UInt8) (fa:Option Addr) (n fc:Nat) (fs:List FD) (s:List UInt8) (w:World) (hn:fs.length=n) (hl:n≤100000) (hs:s.length≤100000) (hH:RowsIn w (fun b=>b<w.heap.size) 5 fdrow (.slice fa n fc) fs) :
  Calls Tryz.prog 86 #[.agg #[.string (mkB nm),.slice fa n fc],.string (mkB s)] w fun e w'=>e=.returned (.bool (noneOf (knownP fs) s))∧Below w.heap.size w w':=by
 obtain⟨R,hR⟩:∃ R,noneOf (knownP fs) s=R:=⟨_,rfl⟩
 have HR:=hQz hR
 rw[hR]
 clear hR
 obtain⟨Y,hY,hC,hb,hYs⟩:=box_new w #[.string (mkB nm),.slice fa n fc] 54
 obtain⟨V,c,hconv,hlc,hcm,hI,hVb,hVs⟩:=conv_bytes Y s hs
 have HY:=hQz hY
 have HBV:=hQz (hb.trans (hVb.mono hb.size))
 have HCV:Hid (V.heap[w.heap.size]? = some (.cells #[.string (mkB nm),.slice fa n fc] 54 (0,0))):=(hVb.block _ (by omega)).trans hC
 have hVl:w.heap.size+1≤V.heap.size:=by omega
 have h:=splitW_any (some ⟨Y.heap.size,0,none⟩) s.length c (ints s) V hI hlc hcm (by omega)
 have HKN:Hid (∀ (num ty:Int) (W:World),Below w.heap.size w W→Calls Tryz.prog 53 #[.agg #[.string (mkB nm),.slice fa n fc],.int .i64 num,.int .i64 ty] W fun e w'=>e=.returned (.bool (knownP fs num ty))∧Below W.heap.size W w'):=by
  refine(?_:∀ (num ty:Int) (W:World),_→_)
  intro num ty W hW
  exact knownP_any nm fa n fc fs num ty W hn hl ((RowsIn.old hH fun b h=>hW.block b h).more fun b h=>by have:=hW.size;omega)
 clear hn hH hC hY hb hYs hI hVb hVs hlc hcm
 go_enter Tryz.func86,Tryz.ntmps86
 go_upto_region 1 with fail
 rw[HY.out]
 go_wp2_with fail
 refine h.mono ?_
 intro e W1 hans
 clear h hconv
 cases hsp:split (ints s)with
 | none=>
  rw[hsp]at hans
  obtain⟨rfl,hb1⟩:=hans
  have HB1:=hQz (HBV.out.trans (hb1.mono HBV.out.size))
  have e:R=false:=by rw[←HR.out];unfold noneOf;rw[hsp]
  subst e
  clear hsp hb1
  go_wp2_with fail
  go_ret
  exact⟨rfl,HB1.out⟩
 | some D=>
  rw[hsp]at hans
  obtain⟨vF,vR,xs,rs,rfl,hst,hFF,hFR,hb1⟩:=hans
  obtain⟨aF,cF,aR,cR,rfl,rfl,hlF,hlR,hcF,-⟩:=st_shapes hst
  have HB1:=hQz (HBV.out.trans (hb1.mono HBV.out.size))
  have HC1:Hid (W1.heap[w.heap.size]? = some (.cells #[.string (mkB nm),.slice fa n fc] 54 (0,0))):=(hb1.block _ (by omega)).trans HCV.out
  have HCF:=hQz hcF
  have HFF:=hQz hFF
  have HRR:Hid (allB (atB D fun _ p=>!knownP fs p.1.num p.1.ty) D.length=R):=by
   refine(?_:_=_)
   rw[←HR.out];unfold noneOf allA;rw[hsp]
  obtain⟨m,hm⟩:∃ m,xs.length=m:=⟨_,rfl⟩
  have HM:Hid (D.length=m):=by
   refine(?_:_=_)
   rw[←hm,hFF.len]
  have hmb:m≤100000:=by
   have h1:=spl_len _ _ D (ints_ok s) hsp
   rw[ints_len]at h1
   have:=HM.out
   omega
  rw[hm]at hlF ⊢
  have HMX:=hQz hm
  have h1s:w.heap.size+1≤W1.heap.size:=by have:=hb1.size;omega
  clear hst hFF hFR hb1 hcF hsp hm hlR HR HBV HCV hVl
  go_wp2_with fail
  go_loopw [21] (fun i wr=>∃ (k:Nat),i=.int .i64 (k:Int)∧k≤m∧allB (atB D fun _ p=>!knownP fs p.1.num p.1.ty) k=true∧Below W1.heap.size W1 wr) (fun i _=>m - (intOf i).toNat)
  case atStart=>exact⟨0,rfl,Nat.zero_le _,rfl,Below.refl _ _⟩
  case round=>
   generalize wr=w1 at *
   obtain⟨k,rfl,hk,hall,hbel⟩:=hrel
   have HBE:=hQz hbel
   have HA:=hQz hall
   have HBW:=hQz (HB1.out.trans (hbel.mono HB1.out.size))
   have hws:=hbel.size
   by_cases hkn:k<m
   ·obtain⟨f,p,hf,hp,hsay⟩:=fits_at HFF.out k (by have:=HM.out;omega)
    obtain⟨g,hag,e0,e1,e2,e3,-,hg⟩:=HCF.out k f hf
    subst hag
    have e0:w1.cell? ⟨g,k*4,none⟩=some (.int .i64 f.num):=by rw[hbel.cell hg];exact e0
    have e1:w1.cell? ⟨g,k*4+1,none⟩=some (.int .i64 f.ty):=by rw[hbel.cell hg];exact e1
    have e2:w1.cell? ⟨g,k*4+2,none⟩=some (.int .u64 f.n):=by rw[hbel.cell hg];exact e2
    have e3:w1.cell? ⟨g,k*4+3,none⟩=some (.slice f.a f.len f.cap):=by rw[hbel.cell hg];exact e3
    have HKB:Hid (atB D (fun _ p=>!knownP fs p.1.num p.1.ty) k=!knownP fs f.num f.ty):=by
     refine(?_:_=_)
     rw[atB_some hp]
     have h1:f.num=p.1.num:=congrArg (fun t=>t.1) hsay
     have h2:f.ty=p.1.ty:=congrArg (fun t=>t.2.1) hsay
     rw[h1,h2]
    have hk0:(0:Int)≤(k:Int):=by omega
    have hk1:(k:Int)<(m:Int):=by omega
    have hwq:=wQz k (by omega)
    have hc1:=(hbel.block _ (by omega)).trans HC1.out
    have hKn:=HKN.out f.num f.ty
    obtain⟨B,hB⟩:∃ B,knownP fs f.num f.ty=B:=⟨_,rfl⟩
    rw[hB]at HKB
    simp only[hB]at hKn
    clear hf hp hsay hbel hall hB
    obtain⟨fnum,fty,fn,fa',flen,fcap,fd⟩:=f
    dsimp only at e0 e1 e2 e3 hKn
    have hC:(w1.alloc (.cells #[.int .i64 fnum,.int .i64 fty,.int .u64 fn,.slice fa' flen fcap] 123)).heap[w1.heap.size]? = some (.cells #[.int .i64 fnum,.int .i64 fty,.int .u64 fn,.slice fa' flen fcap] 123 (0,0)):=alloc_heap_new _ _
    have hCb:Below w1.heap.size w1 (w1.alloc (.cells #[.int .i64 fnum,.int .i64 fty,.int .u64 fn,.slice fa' flen fcap] 123)):=(Below.refl _ w1).alloc (Nat.le_refl _) _
    go_upto_region 7 with fail
    generalize (w1.alloc (.cells #[.int .i64 fnum,.int .i64 fty,.int .u64 fn,.slice fa' flen fcap] 123))=X at *
    have hBX:=HBW.out.trans (hCb.mono (by omega))
    have HBX:=hQz hBX
    have HBX1:=hQz (HBE.out.trans (hCb.mono hws))
    have l0:=cell_at hC 0 rfl
    have l1:=cell_at hC 1 rfl
    have hcX:=(hCb.block _ (by omega)).trans hc1
    have d0:=cell_at hcX 0 rfl
    have d1:=cell_at hcX 1 rfl
    have h:=hKn X hBX
    clear hC hCb hcX hc1 hKn hBX e0 e1 e2 e3
    go_wp2_with fail
    refine h.mono ?_
    rintro e W2 ⟨rfl,hb2⟩
    have HB2:=hQz (HBX.out.trans (hb2.mono HBX.out.size))
    have HBR:=hQz (HBX1.out.trans (hb2.mono HBX1.out.size))
    clear hb2 h l0 l1 d0 d1
    cases B
    case true=>
     have e:R=false:=by rw[←HRR.out];exact allB_no HKB.out (by have:=HM.out;omega)
     subst e
     go_wp2_with fail
     go_ret
     exact⟨rfl,HB2.out⟩
    case false=>
     go_wp2_with fail
     go_roundw
     case rel=>exact⟨k+1,by go_num,by omega,allB_step HA.out HKB.out,HBR.out⟩
     case measure=>simp[intOf];omega
   ·have hkn':¬(k:Int)<(m:Int):=by omega
    have e:R=true:=by
     have hkk:k=D.length:=by have:=HM.out;omega
     rw[←HRR.out,←hkk];exact HA.out
    subst e
    go_wp2_with fail
    go_ret
    exact⟨rfl,HBW.out⟩
end Go.Proofs.YteajlfgbmefncaaGreatDoor
