/-
  Walks and plain words (App WApp EnZ).
-/
import Derived.Test.YteajlfgbmefncaaGreatDoorN2
import Derived.Test.YteajlfgbmefncaaGreatDoorN1
import Derived.Test.YteajlfgbmefncaaGreatDoorN8
import Derived.Test.YteajlfgbmefncaaGreatDoorN4
import Derived.Test.YteajlfgbmefncaaGreatDoorN7
import Derived.Lib.SlBytesConst
import Derived.Lib.Zigzag
namespace Go.Proofs.YteajlfgbmefncaaGreatDoor
set_option linter.unusedVariables false
open Go.ChangeShapes Go.WideShapes Go.ChangeAt Go.RowKit

set_option maxHeartbeats 1000000 in
theorem size_any (n:Nat) (w:World) (h:n≤18446744073709551615) :
  Calls Tryz.prog 129 #[.int .u64 n] w fun e w'=>e=.returned (.int .i64 ((vint n).length:Nat))∧w'=w:=by
 have hor:bits .or .u64 (n:Int) 1=((n ||| 1:Nat):Int):=bits_or_u64_nat n 1 (by omega) (by decide)
 have hb:(n ||| 1)≤18446744073709551615:=by rw[or_one];omega
 have HS:Hid ((Lib.bitLen (n ||| 1)+6) / 7=(vint n).length):=size_of n h
 have hle:=vint_ten h
 generalize (n ||| 1)=m at *
 generalize (vint n).length=L at *
 have hbl:Lib.bitLen m≤70:=by have:=HS.out;omega
 go_enter Tryz.func129,Tryz.ntmps129
 go_wp2_with fail
 refine(bits_Len64 _ _ (by omega) (by omega)).mono ?_
 rintro e w' ⟨rfl,rfl⟩
 rw[Int.toNat_natCast]
 go_wp2_with fail
 go_ret
 exact⟨ret_int (by have:=HS.out;omega),rfl⟩
theorem app_at (zs d:List Int) (k p len:Nat) (hk:1≤k) (hp:d.length=p) (hl:zs.length=len):(zs++(d++List.replicate k 0))[len+p]? = some 0:=by
 subst hl hp
 rw[List.getElem?_append_right (by omega),List.getElem?_append_right (by omega),show zs.length+d.length - zs.length - d.length=0 by omega]
 obtain⟨m,rfl⟩:∃ m,k=m+1:=⟨k - 1,by omega⟩
 simp[List.replicate_succ]
theorem app_set (w:World) (zs d:List Int) (k p len:Nat) (z:Int) (hp:d.length=p) (hl:zs.length=len) :
  (blk w 5 (zs++(d++List.replicate (k+1) 0))).setCell ⟨w.heap.size,len+p,none⟩ (.int .u8 z)=blk w 5 (zs++((d++[z])++List.replicate k 0)):=by
 subst hl hp
 rw[blk_set]
 congr 1
 rw[List.set_append_right _ _ (by omega),List.set_append_right _ _ (by omega)]
 simp[List.replicate_succ]
theorem or128 (m:Int) (h:0≤m):bits .or .u8 (m % 256) 128=m % 128+128:=by
 rw[Lib.u8_or128_any _ (by omega) (by omega)];omega

set_option maxHeartbeats 1000000 in
theorem append_any (a:Option Addr) (len cap:Nat) (zs:List Int) (n:Nat) (w:World) (hB:IsB w a len zs) (hn:n≤18446744073709551615) (hl:len≤140737488351232) :
  Calls Tryz.prog 115 #[.slice a len cap,.int .u64 n] w fun e w'=>
   e=.returned (.slice (some ⟨w.heap.size,0,none⟩) (len+(vint n).length) (len+(vint n).length))∧w'=blk w 5 (zs++vint n):=by
 have HB:Hid (IsB w a len zs):=hB
 have HL:Hid (zs.length=len):=hB.1
 have hle:=vint_ten hn
 have hsz:=fun w=>size_any n w hn
 obtain⟨L,hL⟩:∃ L,(vint n).length=L:=⟨_,rfl⟩
 rw[hL]at hle ⊢
 have HZ:Hid (∀ w:World,Calls Tryz.prog 129 #[.int .u64 n] w fun e w'=>e=.returned (.int .i64 (L:Nat))∧w'=w):=by
  rw[hL]at hsz;exact hsz
 have HLn:Hid ((vint n).length=L):=hL
 have HN:Hid (n≤18446744073709551615):=hn
 have hnI:(n:Int)≤18446744073709551615:=by omega
 clear hB hsz hL hn
 go_enter Tryz.func115,Tryz.ntmps115
 go_wp2_with fail
 refine(HZ.out _).mono ?_
 rintro e w' ⟨rfl,rfl⟩
 clear HZ
 go_wp2_with fail
 refine(grown_any _ _ _ zs L _ HB.out (by omega)).mono ?_
 rintro e w2 ⟨rfl,rfl⟩
 clear HB
 go_wp2_with fail
 go_loopw [1,6] (fun x i wr=>∃ (d:List Int) (m p k:Nat) (M:Int),M=(m:Int)∧(vint n=d++vint m)∧(vint m).length=k∧p+k=L∧1≤k∧m≤18446744073709551615∧d.length=p∧p≤10∧x=.int .u64 M∧i=.int .i64 (len+p:Nat)∧wr=blk w' 5 (zs++(d++List.replicate k 0))) (fun x _ _=>(intOf x).toNat)
 case atStart=>exact⟨[],n,0,L,n,rfl,rfl,HLn.out,by omega,by have:=vint_pos n;rw[HLn.out]at this;exact this,HN.out,rfl,by omega,rfl,by simp,rfl⟩
 case round=>
  obtain⟨d,m,p,k,M,hM,hv,hk,hpk,hvp,hm,hp,hp10,rfl,rfl,hwr⟩:=hrel
  have HW:Hid (wr=blk w' 5 (zs++(d++List.replicate k 0))):=hwr
  have HV:Hid (vint n=d++vint m):=hv
  have HP:Hid (d.length=p):=hp
  have HK:Hid ((vint m).length=k):=hk
  have hpl:p+k≤L:=by omega
  have hmI:0≤M∧M≤18446744073709551615:=by omega
  have HM:Hid (m≤18446744073709551615):=hm
  have HMM:Hid (M=(m:Int)):=hM
  have hor:bits .or .u8 (M % 256) 128=M % 128+128:=or128 M hmI.1
  clear hm hM
  have HPK:Hid (p+k=L):=hpk
  clear hwr hv hp hk hpk
  have hcell:wr.cell? ⟨w'.heap.size,len+p,none⟩=some (.int .u8 0):=by
   rw[HW.out];exact blk_cell w' 5 _ (app_at zs d _ p len hvp HP.out HL.out)
  have hfro:wr.frozen? ⟨w'.heap.size,len+p,none⟩=false:=by
   rw[HW.out];exact blk_frozen w' 5 _ _
  by_cases h:128≤M
  ·have HE:Hid (vint m=((m % 128+128:Nat):Int) :: vint (m / 128)):=vint_big (by have:=HMM.out;omega)
   have e2:Hid (((m % 128+128:Nat):Int)=M % 128+128):=by
    refine(?_:((m % 128+128:Nat):Int)=M % 128+128)
    rw[HMM.out];omega
   obtain⟨k',hk'⟩:∃ k',k=k'+1:=⟨k - 1,by omega⟩
   have HKK:Hid (k=k'+1):=hk'
   clear hk'
   go_wp2
   go_roundw
   case rel=>
    have hk':=HKK.out
    refine⟨d++[M % 128+128],m / 128,p+1,k',M / 128,?_,?_,?_,?_,?_,?_,?_,?_,rfl,?_,?_⟩
    ·have:=HMM.out;omega
    ·rw[HV.out,HE.out,List.append_assoc,List.singleton_append,e2.out]
    ·have:=HK.out
     rw[HE.out,List.length_cons]at this;omega
    ·have:=HPK.out;omega
    ·have:=HK.out
     rw[HE.out,List.length_cons]at this
     have:=vint_pos (m / 128);omega
    ·have:=HM.out;omega
    ·rw[List.length_append,HP.out];rfl
    ·omega
    ·go_num
    ·rw[HW.out,hk']
     exact app_set w' zs d k' p len _ HP.out HL.out
   case measure=>simp[intOf];omega
  ·have HE:Hid (vint m=[(m:Int)]):=vint_small (by have:=HMM.out;omega)
   go_wp2
   go_ret
   refine⟨rfl,?_⟩
   have hk1:k=0+1:=by have:=HK.out;rw[HE.out]at this;simpa using this.symm
   rw[HW.out,hk1,app_set w' zs d 0 p len _ HP.out HL.out,HV.out,HE.out,HMM.out]
   simp
theorem append_int (a:Option Addr) (len cap:Nat) (zs:List Int) (N:Int) (w:World) (hB:IsB w a len zs) (h0:0≤N) (h1:N≤18446744073709551615) (hl:len≤140737488351232) :
  Calls Tryz.prog 115 #[.slice a len cap,.int .u64 N] w fun e w'=>
   e=.returned (.slice (some ⟨w.heap.size,0,none⟩) (len+(vint N.toNat).length) (len+(vint N.toNat).length))∧w'=blk w 5 (zs++vint N.toNat):=by
 obtain⟨n,rfl⟩:=Int.eq_ofNat_of_zero_le h0
 have:=append_any a len cap zs n w hB (by omega) hl
 simpa using this
theorem isB_nil (w:World):IsB w none 0 []:=⟨rfl,by omega,.inl rfl⟩

set_option maxHeartbeats 4000000 in
theorem appendW_ok (a a':Option Addr) (len cap len' cap':Nat) (zs d:List Int) (num ty n:Int) (w:World) (hB:IsB w a len zs) (hno:a=none→len=0∧cap=0)
  (hB':IsB w a' len' d) (hno':a'=none→len'=0∧cap'=0) (hn0:0≤n) (hn1:n≤18446744073709551615) (hf:fmd num ty n len'=true) (ht:len+len'+30≤281474976710656) :
  Calls Tryz.prog 99 #[.slice a len cap,fv num ty n a' len' cap'] w fun e w'=>
   ∃ v',e=.returned (.tuple #[v',.int .i64 0])∧OwnB w' w.heap.size v' (zs++fbytes num ty n d)∧Below w.heap.size w w':=by
 have HF:Hid (∀ W,Calls Tryz.prog 114 #[.agg #[.int .i64 num,.int .i64 ty,.int .u64 n,.slice a' len' cap']] W fun e w'=>e=.returned (.bool true)∧Below W.heap.size W w'):=by
  intro W
  have:=formedW_any num ty n a' len' cap' W
  rw[hf]at this
  exact this
 have hf2:1≤num∧num≤536870911∧(((ty=0∨ty=1)∧len'=0)∨(ty=5∧len'=0∧n<4294967296)∨(ty=2∧n=0)):=by
  unfold fmd at hf;simpa using hf
 obtain⟨hm0,hm1,hty⟩:=hf2
 have HR:Hid (IsB w a len zs):=hB
 have HR':Hid (IsB w a' len' d):=hB'
 have HNO:Hid (a=none→len=0∧cap=0):=hno
 have HNO':Hid (a'=none→len'=0∧cap'=0):=hno'
 have hlm:len≤281474976710656:=by omega
 have hlm':len'≤281474976710656:=by omega
 have ht5:0≤ty∧ty≤5:=by omega
 clear hf hB hB' hno hno'
 unfold fv
 go_enter Tryz.func99,Tryz.ntmps99
 go_wp2_with fail
 refine(HF.out _).mono ?_
 rintro e w1 ⟨rfl,hb1⟩
 have hz1:=hb1.size
 simp only[World.size_alloc]at hz1
 have c0:w1.cell? ⟨w.heap.size,0,none⟩=some (.int .i64 num):=(hb1.cell (by simp)).trans (by simp)
 have c1:w1.cell? ⟨w.heap.size,1,none⟩=some (.int .i64 ty):=(hb1.cell (by simp)).trans (by simp)
 have c2:w1.cell? ⟨w.heap.size,2,none⟩=some (.int .u64 n):=(hb1.cell (by simp)).trans (by simp)
 have c3:w1.cell? ⟨w.heap.size,3,none⟩=some (.slice a' len' cap'):=(hb1.cell (by simp)).trans (by simp)
 have HB1:Hid (Below w.heap.size w w1):=((Below.refl _ _).alloc (Nat.le_refl _) _).trans (hb1.mono (by simp))
 clear hb1 HF
 go_wp2_with fail
 refine(append_int none 0 0 [] _ _ (isB_nil _) (by omega) (by omega) (by omega)).mono ?_
 rintro e W1 ⟨rfl,hW1⟩
 rw[Nat.zero_add]
 rw[List.nil_append]at hW1
 have hL:=vint_ten (n:=(8*num+ty).toNat) (by omega)
 have hLB:=vint_bytes (8*num+ty).toNat
 have HFB:Hid (fbytes num ty n d=vint (8*num+ty).toNat++(if ty=0 then vint n.toNat else if ty=1 then lob n 8 else if ty=5 then lob n 4 else vint d.length++d)):=rfl
 generalize vint (8*num+ty).toNat=ks at *
 have HI1:Hid (IsB W1 (some ⟨w1.heap.size,0,none⟩) ks.length ks):=by
  refine(?_:IsB W1 (some ⟨w1.heap.size,0,none⟩) ks.length ks)
  rw[hW1];exact isB_blk w1 5 ks hLB (by omega)
 have hb11:Below w1.heap.size w1 W1:=by rw[hW1];exact blk_below w1 5 ks
 have HB11:Hid (Below w.heap.size w W1):=HB1.out.trans (hb11.mono (by omega))
 have d1:W1.cell? ⟨w.heap.size,1,none⟩=some (.int .i64 ty):=(hb11.cell (show w.heap.size<w1.heap.size by omega)).trans c1
 have d2:W1.cell? ⟨w.heap.size,2,none⟩=some (.int .u64 n):=(hb11.cell (show w.heap.size<w1.heap.size by omega)).trans c2
 have d3:W1.cell? ⟨w.heap.size,3,none⟩=some (.slice a' len' cap'):=(hb11.cell (show w.heap.size<w1.heap.size by omega)).trans c3
 have hz11:=HB11.out.size
 have hz12:w.heap.size+1≤W1.heap.size:=by have:=hb11.size;omega
 have HKB:Hid (∀ z∈ks,0≤z∧z≤255):=hLB
 have HDL:Hid (d.length=len'):=HR'.out.1
 clear hb11 hW1 HB1 c0 c1 c2 c3 hLB
 obtain⟨L,hLe⟩:∃ L,ks.length=L:=⟨_,rfl⟩
 rw[hLe]at HI1 hL ⊢
 have HLE:Hid (ks.length=L):=hLe
 clear hLe
 rcases hty with ⟨rfl | rfl,rfl⟩ | ⟨rfl,rfl,hn32⟩ | ⟨rfl,rfl⟩
 ·have hX:=vint_ten (n:=n.toNat) (by omega)
  have hXB:=vint_bytes n.toNat
  go_wp2_with fail
  refine(append_int _ _ _ _ _ _ HI1.out hn0 hn1 (by omega)).mono ?_
  rintro e W2 ⟨rfl,hW2⟩
  generalize vint n.toNat=xs at *
  obtain⟨X,hXe⟩:∃ X,xs.length=X:=⟨_,rfl⟩
  rw[hXe]at hX ⊢
  have HI2:Hid (IsB W2 (some ⟨W1.heap.size,0,none⟩) (L+X) (ks++xs)):=by
   refine(?_:IsB W2 (some ⟨W1.heap.size,0,none⟩) (L+X) (ks++xs))
   rw[hW2,←hXe,←HLE.out,←List.length_append]
   exact isB_blk W1 5 _ (fun z hz=>(List.mem_append.1 hz).elim (HKB.out z) (hXB z)) (by rw[List.length_append,HLE.out];omega)
  have hb12:Below W1.heap.size W1 W2:=by rw[hW2];exact blk_below W1 5 _
  have HB2:Hid (Below w.heap.size w W2):=HB11.out.trans (hb12.mono (by omega))
  have e3:W2.cell? ⟨w.heap.size,3,none⟩=some (.slice a' 0 cap'):=(hb12.cell (show w.heap.size<W1.heap.size by omega)).trans d3
  clear hb12 hW2 hXe hXB HI1 HB11 d1 d2 d3
  go_wp2_with fail
  have hb3:Below w.heap.size w (W2.alloc (.cells #[.slice a len cap,.slice (some ⟨W1.heap.size,0,none⟩) (L+X) (L+X),.slice a' 0 cap'] 27)):=HB2.out.alloc HB2.out.size _
  have HJ:Hid (joined [⟨a,len,cap,zs⟩,⟨some ⟨W1.heap.size,0,none⟩,L+X,L+X,ks++xs⟩,⟨a',0,cap',d⟩]=zs++fbytes num 0 n d):=by
   refine(?_:joined _=_)
   rw[HFB.out]
   have hd0:d=[]:=List.eq_nil_of_length_eq_zero HDL.out
   subst hd0
   simp[joined]
  refine(concat_any [⟨a,len,cap,zs⟩,⟨some ⟨W1.heap.size,0,none⟩,L+X,L+X,ks++xs⟩,⟨a',0,cap',d⟩] _ 3 _ rfl (by omega) ?_ ?_ ?_).mono ?_
  ·intro k r hk
   rcases k with _ | _ | _ | k
   ·simp at hk;subst hk;simp
   ·simp at hk;subst hk;simp
   ·simp at hk;subst hk;simp
   ·simp at hk
  ·intro r hr
   simp only[List.mem_cons,List.not_mem_nil,or_false]at hr
   rcases hr with rfl | rfl | rfl
   ·exact⟨isB_old HR.out hb3,HNO.out⟩
   ·exact⟨isB_old HI2.out ((Below.refl _ _).alloc (Nat.le_refl _) _),fun h=>by simp at h⟩
   ·exact⟨isB_old HR'.out hb3,fun h=>by simpa using HNO'.out h⟩
  ·simp only[total,List.map_cons,List.map_nil,List.sum_cons,List.sum_nil];omega
  rintro e w4 ⟨v4,rfl,ho4,hb4⟩
  rw[HJ.out]at ho4
  have HO4:Hid (OwnB w4 w.heap.size v4 (zs++fbytes num 0 n d)):=own_mono ho4 (by have:=hb3.size;simpa using this)
  have HB4:Hid (Below w.heap.size w w4):=hb3.trans (hb4.mono (by have:=hb3.size;simpa using this))
  clear ho4 hb4 hb3 HJ HI2 e3
  go_wp2_with fail
  go_ret2
  exact⟨_,rfl,HO4.out,HB4.out⟩
 ·have hX:(lob n 8).length≤10:=by rw[lob_length];omega
  have hXB:=lob_bytes n 8
  go_wp2_with fail
  refine(append64_any _ _ _ _ _ _ HI1.out hn0 hn1 (by omega)).mono ?_
  rintro e W2 ⟨rfl,hW2⟩
  have hx8:8=(lob n 8).length:=by rw[lob_length]
  rw[hx8]
  clear hx8
  generalize lob n 8=xs at *
  obtain⟨X,hXe⟩:∃ X,xs.length=X:=⟨_,rfl⟩
  rw[hXe]at hX ⊢
  have HI2:Hid (IsB W2 (some ⟨W1.heap.size,0,none⟩) (L+X) (ks++xs)):=by
   refine(?_:IsB W2 (some ⟨W1.heap.size,0,none⟩) (L+X) (ks++xs))
   rw[hW2,←hXe,←HLE.out,←List.length_append]
   exact isB_blk W1 5 _ (fun z hz=>(List.mem_append.1 hz).elim (HKB.out z) (hXB z)) (by rw[List.length_append,HLE.out];omega)
  have hb12:Below W1.heap.size W1 W2:=by rw[hW2];exact blk_below W1 5 _
  have HB2:Hid (Below w.heap.size w W2):=HB11.out.trans (hb12.mono (by omega))
  have e3:W2.cell? ⟨w.heap.size,3,none⟩=some (.slice a' 0 cap'):=(hb12.cell (show w.heap.size<W1.heap.size by omega)).trans d3
  clear hb12 hW2 hXe hXB HI1 HB11 d1 d2 d3
  go_wp2_with fail
  have hb3:Below w.heap.size w (W2.alloc (.cells #[.slice a len cap,.slice (some ⟨W1.heap.size,0,none⟩) (L+X) (L+X),.slice a' 0 cap'] 27)):=HB2.out.alloc HB2.out.size _
  have HJ:Hid (joined [⟨a,len,cap,zs⟩,⟨some ⟨W1.heap.size,0,none⟩,L+X,L+X,ks++xs⟩,⟨a',0,cap',d⟩]=zs++fbytes num 1 n d):=by
   refine(?_:joined _=_)
   rw[HFB.out]
   have hd0:d=[]:=List.eq_nil_of_length_eq_zero HDL.out
   subst hd0
   simp[joined]
  refine(concat_any [⟨a,len,cap,zs⟩,⟨some ⟨W1.heap.size,0,none⟩,L+X,L+X,ks++xs⟩,⟨a',0,cap',d⟩] _ 3 _ rfl (by omega) ?_ ?_ ?_).mono ?_
  ·intro k r hk
   rcases k with _ | _ | _ | k
   ·simp at hk;subst hk;simp
   ·simp at hk;subst hk;simp
   ·simp at hk;subst hk;simp
   ·simp at hk
  ·intro r hr
   simp only[List.mem_cons,List.not_mem_nil,or_false]at hr
   rcases hr with rfl | rfl | rfl
   ·exact⟨isB_old HR.out hb3,HNO.out⟩
   ·exact⟨isB_old HI2.out ((Below.refl _ _).alloc (Nat.le_refl _) _),fun h=>by simp at h⟩
   ·exact⟨isB_old HR'.out hb3,fun h=>by simpa using HNO'.out h⟩
  ·simp only[total,List.map_cons,List.map_nil,List.sum_cons,List.sum_nil];omega
  rintro e w4 ⟨v4,rfl,ho4,hb4⟩
  rw[HJ.out]at ho4
  have HO4:Hid (OwnB w4 w.heap.size v4 (zs++fbytes num 1 n d)):=own_mono ho4 (by have:=hb3.size;simpa using this)
  have HB4:Hid (Below w.heap.size w w4):=hb3.trans (hb4.mono (by have:=hb3.size;simpa using this))
  clear ho4 hb4 hb3 HJ HI2 e3
  go_wp2_with fail
  go_ret2
  exact⟨_,rfl,HO4.out,HB4.out⟩
 ·have hX:(lob n 4).length≤10:=by rw[lob_length];omega
  have hXB:=lob_bytes n 4
  go_wp2_with fail
  refine(append32_any _ _ _ _ _ _ HI1.out hn0 (by omega) (by omega)).mono ?_
  rintro e W2 ⟨rfl,hW2⟩
  have hx4:4=(lob n 4).length:=by rw[lob_length]
  rw[hx4]
  clear hx4
  generalize lob n 4=xs at *
  obtain⟨X,hXe⟩:∃ X,xs.length=X:=⟨_,rfl⟩
  rw[hXe]at hX ⊢
  have HI2:Hid (IsB W2 (some ⟨W1.heap.size,0,none⟩) (L+X) (ks++xs)):=by
   refine(?_:IsB W2 (some ⟨W1.heap.size,0,none⟩) (L+X) (ks++xs))
   rw[hW2,←hXe,←HLE.out,←List.length_append]
   exact isB_blk W1 5 _ (fun z hz=>(List.mem_append.1 hz).elim (HKB.out z) (hXB z)) (by rw[List.length_append,HLE.out];omega)
  have hb12:Below W1.heap.size W1 W2:=by rw[hW2];exact blk_below W1 5 _
  have HB2:Hid (Below w.heap.size w W2):=HB11.out.trans (hb12.mono (by omega))
  have e3:W2.cell? ⟨w.heap.size,3,none⟩=some (.slice a' 0 cap'):=(hb12.cell (show w.heap.size<W1.heap.size by omega)).trans d3
  clear hb12 hW2 hXe hXB HI1 HB11 d1 d2 d3
  go_wp2_with fail
  have hb3:Below w.heap.size w (W2.alloc (.cells #[.slice a len cap,.slice (some ⟨W1.heap.size,0,none⟩) (L+X) (L+X),.slice a' 0 cap'] 27)):=HB2.out.alloc HB2.out.size _
  have HJ:Hid (joined [⟨a,len,cap,zs⟩,⟨some ⟨W1.heap.size,0,none⟩,L+X,L+X,ks++xs⟩,⟨a',0,cap',d⟩]=zs++fbytes num 5 n d):=by
   refine(?_:joined _=_)
   rw[HFB.out]
   have hd0:d=[]:=List.eq_nil_of_length_eq_zero HDL.out
   subst hd0
   simp[joined]
  refine(concat_any [⟨a,len,cap,zs⟩,⟨some ⟨W1.heap.size,0,none⟩,L+X,L+X,ks++xs⟩,⟨a',0,cap',d⟩] _ 3 _ rfl (by omega) ?_ ?_ ?_).mono ?_
  ·intro k r hk
   rcases k with _ | _ | _ | k
   ·simp at hk;subst hk;simp
   ·simp at hk;subst hk;simp
   ·simp at hk;subst hk;simp
   ·simp at hk
  ·intro r hr
   simp only[List.mem_cons,List.not_mem_nil,or_false]at hr
   rcases hr with rfl | rfl | rfl
   ·exact⟨isB_old HR.out hb3,HNO.out⟩
   ·exact⟨isB_old HI2.out ((Below.refl _ _).alloc (Nat.le_refl _) _),fun h=>by simp at h⟩
   ·exact⟨isB_old HR'.out hb3,fun h=>by simpa using HNO'.out h⟩
  ·simp only[total,List.map_cons,List.map_nil,List.sum_cons,List.sum_nil];omega
  rintro e w4 ⟨v4,rfl,ho4,hb4⟩
  rw[HJ.out]at ho4
  have HO4:Hid (OwnB w4 w.heap.size v4 (zs++fbytes num 5 n d)):=own_mono ho4 (by have:=hb3.size;simpa using this)
  have HB4:Hid (Below w.heap.size w w4):=hb3.trans (hb4.mono (by have:=hb3.size;simpa using this))
  clear ho4 hb4 hb3 HJ HI2 e3
  go_wp2_with fail
  go_ret2
  exact⟨_,rfl,HO4.out,HB4.out⟩
 ·have hX:=vint_ten (n:=(len':Int).toNat) (by omega)
  have hXB:=vint_bytes (len':Int).toNat
  have hdl:(vint d.length)=vint (len':Int).toNat:=by rw[HDL.out];rfl
  rw[hdl]at HFB
  go_wp2_with fail
  refine(append_int _ _ _ _ _ _ HI1.out (by omega) (by omega) (by omega)).mono ?_
  rintro e W2 ⟨rfl,hW2⟩
  clear hdl
  generalize vint (len':Int).toNat=xs at *
  obtain⟨X,hXe⟩:∃ X,xs.length=X:=⟨_,rfl⟩
  rw[hXe]at hX ⊢
  have HI2:Hid (IsB W2 (some ⟨W1.heap.size,0,none⟩) (L+X) (ks++xs)):=by
   refine(?_:IsB W2 (some ⟨W1.heap.size,0,none⟩) (L+X) (ks++xs))
   rw[hW2,←hXe,←HLE.out,←List.length_append]
   exact isB_blk W1 5 _ (fun z hz=>(List.mem_append.1 hz).elim (HKB.out z) (hXB z)) (by rw[List.length_append,HLE.out];omega)
  have hb12:Below W1.heap.size W1 W2:=by rw[hW2];exact blk_below W1 5 _
  have HB2:Hid (Below w.heap.size w W2):=HB11.out.trans (hb12.mono (by omega))
  have e3:W2.cell? ⟨w.heap.size,3,none⟩=some (.slice a' len' cap'):=(hb12.cell (show w.heap.size<W1.heap.size by omega)).trans d3
  clear hb12 hW2 hXe hXB HI1 HB11 d1 d2 d3
  go_wp2_with fail
  have hb3:Below w.heap.size w (W2.alloc (.cells #[.slice a len cap,.slice (some ⟨W1.heap.size,0,none⟩) (L+X) (L+X),.slice a' len' cap'] 27)):=HB2.out.alloc HB2.out.size _
  have HJ:Hid (joined [⟨a,len,cap,zs⟩,⟨some ⟨W1.heap.size,0,none⟩,L+X,L+X,ks++xs⟩,⟨a',len',cap',d⟩]=zs++fbytes num 2 0 d):=by
   refine(?_:joined _=_)
   rw[HFB.out]
   simp[joined]
  refine(concat_any [⟨a,len,cap,zs⟩,⟨some ⟨W1.heap.size,0,none⟩,L+X,L+X,ks++xs⟩,⟨a',len',cap',d⟩] _ 3 _ rfl (by omega) ?_ ?_ ?_).mono ?_
  ·intro k r hk
   rcases k with _ | _ | _ | k
   ·simp at hk;subst hk;simp
   ·simp at hk;subst hk;simp
   ·simp at hk;subst hk;simp
   ·simp at hk
  ·intro r hr
   simp only[List.mem_cons,List.not_mem_nil,or_false]at hr
   rcases hr with rfl | rfl | rfl
   ·exact⟨isB_old HR.out hb3,HNO.out⟩
   ·exact⟨isB_old HI2.out ((Below.refl _ _).alloc (Nat.le_refl _) _),fun h=>by simp at h⟩
   ·exact⟨isB_old HR'.out hb3,fun h=>by simpa using HNO'.out h⟩
  ·simp only[total,List.map_cons,List.map_nil,List.sum_cons,List.sum_nil];omega
  rintro e w4 ⟨v4,rfl,ho4,hb4⟩
  rw[HJ.out]at ho4
  have HO4:Hid (OwnB w4 w.heap.size v4 (zs++fbytes num 2 0 d)):=own_mono ho4 (by have:=hb3.size;simpa using this)
  have HB4:Hid (Below w.heap.size w w4):=hb3.trans (hb4.mono (by have:=hb3.size;simpa using this))
  clear ho4 hb4 hb3 HJ HI2 e3
  go_wp2_with fail
  go_ret2
  exact⟨_,rfl,HO4.out,HB4.out⟩
open Go.Lib
theorem zig_bits (a:Int) (h1:-9223372036854775808≤a) (h2:a≤9223372036854775807) :
  bits .xor .u64 (IntKind.u64.wrap (IntKind.u64.wrap a*2)) (IntKind.u64.wrap (a / 9223372036854775808))=zigI a:=by
 unfold zigI
 by_cases h:a<0
 ·have e1:IntKind.u64.wrap (IntKind.u64.wrap a*2)=(((2*a+18446744073709551616).toNat:Nat):Int):=by
   rw[IntKind.wrap_u64,IntKind.wrap_u64];omega
  have e2:IntKind.u64.wrap (a / 9223372036854775808)=((2 ^ 64 - 1:Nat):Int):=by
   rw[IntKind.wrap_u64];omega
  rw[e1,e2,bits_xor_u64_nat _ _ (by omega) (by decide),Nat.xor_comm,xor_ones64 _ (by omega),if_pos h]
  omega
 ·have e1:IntKind.u64.wrap (IntKind.u64.wrap a*2)=(((2*a).toNat:Nat):Int):=by
   rw[IntKind.wrap_u64,IntKind.wrap_u64];omega
  have e2:IntKind.u64.wrap (a / 9223372036854775808)=((0:Nat):Int):=by
   rw[IntKind.wrap_u64];omega
  rw[e1,e2,bits_xor_u64_nat _ _ (by omega) (by decide),Nat.xor_zero,if_neg h]
  omega
set_option maxHeartbeats 1000000 in
theorem zigP_any (a:Int) (w:World) (h1:-9223372036854775808≤a) (h2:a≤9223372036854775807):Calls Tryz.prog 138 #[.int .i64 a] w fun e w'=>e=.returned (.int .u64 (zigI a))∧w'=w:=by
 go_enter Tryz.func138,Tryz.ntmps138
 go_wp2
 go_ret
 exact⟨ret_int (zig_bits a h1 h2),rfl⟩
set_option maxHeartbeats 1000000 in
theorem isNum_any (k:Int) (w:World):Calls Tryz.prog 109 #[.int .i64 k] w fun e w'=>e=.returned (.bool (isNum k))∧w'=w:=by
 obtain⟨R,hR⟩:∃ R,isNum k=R:=⟨_,rfl⟩
 have HR:Hid (decide (k≠5∧k≠6∧k≠10)=R):=hR
 rw[hR]
 clear hR
 by_cases h5:k=5
 ·subst h5
  have e:R=false:=by rw[←HR.out];decide
  subst e
  go_enter Tryz.func109,Tryz.ntmps109
  go_wp2_with fail
  go_ret
  exact⟨rfl,rfl⟩
 by_cases h6:k=6
 ·subst h6
  have e:R=false:=by rw[←HR.out];decide
  subst e
  go_enter Tryz.func109,Tryz.ntmps109
  go_wp2_with fail
  go_ret
  exact⟨rfl,rfl⟩
 by_cases h10:k=10
 ·subst h10
  have e:R=false:=by rw[←HR.out];decide
  subst e
  go_enter Tryz.func109,Tryz.ntmps109
  go_wp2_with fail
  go_ret
  exact⟨rfl,rfl⟩
 have e:R=true:=by rw[←HR.out];simp[h5,h6,h10]
 subst e
 have k5:(k != 5)=true:=by simp[h5]
 have k6:(k != 6)=true:=by simp[h6]
 have k10:(k != 10)=true:=by simp[h10]
 go_enter Tryz.func109,Tryz.ntmps109
 go_wp2_with fail
 go_ret
 exact⟨rfl,rfl⟩
set_option maxHeartbeats 4000000 in
theorem nbytes_any (k n:Int) (w:World) (h0:0≤n) (h1:n≤18446744073709551615):Calls Tryz.prog 126 #[.int .i64 k,.int .u64 n] w fun e w'=>e=.returned (.slice (some ⟨w.heap.size,0,none⟩) (nbytes k n).length (nbytes k n).length)∧w'=blk w 5 (nbytes k n):=by
 by_cases h7:k=7
 ·subst h7
  have e:nbytes 7 n=lob (n % 4294967296) 4:=rfl
  have hw:IntKind.u32.wrap n=n % 4294967296:=by rw[IntKind.wrap_u32]
  have h:=append32_any none 0 0 [] (n % 4294967296) w (isB_nil w) (by omega) (by omega) (by omega)
  rw[e,lob_length]
  clear e
  go_enter Tryz.func126,Tryz.ntmps126
  go_wp2_with fail
  refine h.mono ?_
  rintro e W ⟨rfl,rfl⟩
  go_wp2_with fail
  go_ret
  exact⟨rfl,rfl⟩
 by_cases h8:k=8
 ·subst h8
  have e:nbytes 8 n=lob n 8:=rfl
  have h:=append64_any none 0 0 [] n w (isB_nil w) h0 h1 (by omega)
  rw[e,lob_length]
  clear e
  go_enter Tryz.func126,Tryz.ntmps126
  go_wp2_with fail
  refine h.mono ?_
  rintro e W ⟨rfl,rfl⟩
  go_wp2_with fail
  go_ret
  exact⟨rfl,rfl⟩
 have e:nbytes k n=vint n.toNat:=by unfold nbytes;rw[if_neg h7,if_neg h8]
 have h:=append_int none 0 0 [] n w (isB_nil w) h0 h1 (by omega)
 rw[Nat.zero_add]at h
 rw[e]
 have k7:(k == 7)=false:=by simp[h7]
 have k8:(k == 8)=false:=by simp[h8]
 clear e
 go_enter Tryz.func126,Tryz.ntmps126
 go_wp2_with fail
 refine h.mono ?_
 rintro e W ⟨rfl,rfl⟩
 go_wp2_with fail
 go_ret
 exact⟨rfl,rfl⟩
set_option maxHeartbeats 8000000 in
theorem numberP_any (k:Int) (y:Nd) (fs:Value) (w:World) (hy:Rg1 y):Calls Tryz.prog 127 #[.int .i64 k,ival y fs] w fun e w'=>e=.returned (.int .u64 (numP k y))∧w'=w:=by
 have t1:=fun W=>taInt y fs W
 have t2:=fun W=>taUint y fs W
 have t3:=fun W=>taBool y fs W
 have t6:=fun W=>taEnum y fs W
 obtain⟨v,hv⟩:∃ v,ival y fs=v:=⟨_,rfl⟩
 rw[hv]at t1 t2 t3 t6 ⊢
 clear hv
 obtain⟨kind,n,u,b,s,type,fields⟩:=y
 obtain⟨⟨hn1,hn2⟩,_,_⟩:=hy
 dsimp only at t1 t2 t3 t6 hn1 hn2
 obtain⟨R,hR⟩:∃ R,numP k ⟨kind,n,u,b,s,type,fields⟩=R:=⟨_,rfl⟩
 have HR:Hid ((if kind=1 then (if k=3 then zigI n else IntKind.u64.wrap n) else if kind=2 then u else if kind=6 then IntKind.u64.wrap (IntKind.i32.wrap n) else if kind=3 then (if b then 1 else 0) else 0)=R):=hR
 rw[hR]
 clear hR
 by_cases h1:kind=1
 ·subst h1
  rw[if_pos rfl,decide_eq_true rfl]at t1
  clear t2 t3 t6
  by_cases h3:k=3
  ·subst h3
   have e:R=zigI n:=by rw[←HR.out];simp
   subst e
   have h:=zigP_any n w hn1 hn2
   go_enter Tryz.func127,Tryz.ntmps127
   go_wp2_with fail
   refine h.mono ?_
   rintro e W ⟨rfl,hW⟩
   have hW:=hW.symm
   subst hW
   go_wp2_with fail
   go_ret
   exact⟨rfl,rfl⟩
  ·have e:R=IntKind.u64.wrap n:=by rw[←HR.out];simp[h3]
   subst e
   have k3:(k == 3)=false:=by simp[h3]
   go_enter Tryz.func127,Tryz.ntmps127
   go_wp2_with fail
   go_ret
   exact⟨rfl,rfl⟩
 rw[if_neg h1,decide_eq_false h1]at t1
 by_cases h2:kind=2
 ·subst h2
  rw[if_pos rfl,decide_eq_true rfl]at t2
  clear t3 t6
  have e:R=u:=by rw[←HR.out];simp
  subst e
  go_enter Tryz.func127,Tryz.ntmps127
  go_wp2_with fail
  go_ret
  exact⟨rfl,rfl⟩
 rw[if_neg h2,decide_eq_false h2]at t2
 by_cases h6:kind=6
 ·subst h6
  rw[if_pos rfl,decide_eq_true rfl]at t6
  clear t3
  have e:R=IntKind.u64.wrap (IntKind.i32.wrap n):=by rw[←HR.out];simp
  subst e
  go_enter Tryz.func127,Tryz.ntmps127
  go_wp2_with fail
  go_ret
  exact⟨ret_int (by simp only[wrap64,wrap32,IntKind.wrap_i32,IntKind.wrap_u64];omega),rfl⟩
 rw[if_neg h6,decide_eq_false h6]at t6
 by_cases h3:kind=3
 ·subst h3
  rw[if_pos rfl,decide_eq_true rfl]at t3
  cases b
  ·have e:R=0:=by rw[←HR.out];simp
   subst e
   go_enter Tryz.func127,Tryz.ntmps127
   go_wp2_with fail
   go_ret
   exact⟨rfl,rfl⟩
  ·have e:R=1:=by rw[←HR.out];simp
   subst e
   go_enter Tryz.func127,Tryz.ntmps127
   go_wp2_with fail
   go_ret
   exact⟨rfl,rfl⟩
 rw[if_neg h3,decide_eq_false h3]at t3
 have e:R=0:=by rw[←HR.out];simp[h1,h2,h3,h6]
 subst e
 go_enter Tryz.func127,Tryz.ntmps127
 go_wp2_with fail
 go_ret
 exact⟨rfl,rfl⟩
end Go.Proofs.YteajlfgbmefncaaGreatDoor
