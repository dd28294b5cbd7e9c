/-
  Walks and plain words (WTk WTa).
-/
import Derived.Test.YteajlfgbmefncaaGreatDoorN4
import Derived.Test.YteajlfgbmefncaaGreatDoorN8
import Derived.Lib.SliceRun
namespace Go.Proofs.YteajlfgbmefncaaGreatDoor
set_option linter.unusedVariables false
open Go.ChangeShapes Go.WideShapes Go.ChangeAt Go.RowKit

def badKey (N:Int):Prop:=N / 8<1∨536870911<N / 8∨¬(N % 8=0∨N % 8=1∨N % 8=2∨N % 8=5)
theorem fmd_key (N:Int) (h0:0≤N) (h:N / 8≤536870911):fmd (N / 8) (N % 8) 0 0=true↔¬badKey N:=by
 unfold fmd badKey
 simp
 omega

set_option maxHeartbeats 1000000 in
theorem takeKey_err (a:Option Addr) (len cap:Nat) (zs:List Int) (w:World) (hB:IsB w a len zs) (N K E:Int) (hd:dec 0 0 zs=(N,K,E)) (hE:E≠0) :
  Calls Tryz.prog 102 #[.slice a len cap] w fun e w'=>e=.returned (.tuple #[.int .i64 0,.int .i64 0,.int .i64 0,.int .i64 E])∧w'=w:=by
 have HT:=take_any a len cap zs w hB
 rw[hd]at HT
 simp only[]at HT
 have hE2:(E == 0)=false:=by simpa using hE
 clear hd hB
 go_enter Tryz.func102,Tryz.ntmps102
 go_wp2_with fail
 refine HT.mono ?_
 rintro e w1 ⟨rfl,rfl⟩
 go_wp2_with fail
 exact bodyPost_ret (v:=.tuple #[.int .i64 0,.int .i64 0,.int .i64 0,.int .i64 E]) (by simp[results,Tryz.results102,go_sem]) rfl ⟨rfl,rfl⟩
set_option maxHeartbeats 1000000 in
theorem takeKey_form (a:Option Addr) (len cap:Nat) (zs:List Int) (w:World) (hB:IsB w a len zs) (N K:Int) (hd:dec 0 0 zs=(N,K,0)) (hN0:0≤N) (hN1:N≤18446744073709551615) (hbad:badKey N) :
  Calls Tryz.prog 102 #[.slice a len cap] w fun e w'=>e=.returned (.tuple #[.int .i64 0,.int .i64 0,.int .i64 0,.int .i64 2])∧Below w.heap.size w w':=by
 have HT:=take_any a len cap zs w hB
 rw[hd]at HT
 simp only[]at HT
 clear hd hB
 by_cases hhi:536870911<N / 8
 ·go_enter Tryz.func102,Tryz.ntmps102
  go_wp2_with fail
  refine HT.mono ?_
  rintro e w1 ⟨rfl,rfl⟩
  go_wp2_with fail
  exact bodyPost_ret (v:=.tuple #[.int .i64 0,.int .i64 0,.int .i64 0,.int .i64 2]) (by simp[results,Tryz.results102,go_sem]) rfl ⟨rfl,Below.refl _ _⟩
 ·have hf:fmd (N / 8) (N % 8) 0 0=false:=by
   rw[←Bool.not_eq_true,fmd_key N hN0 (by omega)]
   exact fun h=>h hbad
  have HF:Hid (∀ W,Calls Tryz.prog 114 #[.agg #[.int .i64 (N / 8),.int .i64 (N % 8),.int .u64 0,.slice none 0 0]] W fun e w'=>e=.returned (.bool false)∧Below W.heap.size W w'):=by
   intro W
   have:=formedW_any (N / 8) (N % 8) 0 none 0 0 W
   rw[hf]at this
   exact this
  clear hf hbad
  go_enter Tryz.func102,Tryz.ntmps102
  go_wp2_with fail
  refine HT.mono ?_
  rintro e w1 ⟨rfl,rfl⟩
  go_wp2_with fail
  refine(HF.out _).mono ?_
  rintro e w2 ⟨rfl,hb2⟩
  go_wp2_with fail
  exact bodyPost_ret (v:=.tuple #[.int .i64 0,.int .i64 0,.int .i64 0,.int .i64 2]) (by simp[results,Tryz.results102,go_sem]) rfl ⟨rfl,hb2⟩
set_option maxHeartbeats 1000000 in
theorem takeKey_ok (a:Option Addr) (len cap:Nat) (zs:List Int) (w:World) (hB:IsB w a len zs) (N K:Int) (hd:dec 0 0 zs=(N,K,0)) (hN0:0≤N) (hN1:N≤18446744073709551615) (hok:¬badKey N) :
  Calls Tryz.prog 102 #[.slice a len cap] w fun e w'=>e=.returned (.tuple #[.int .i64 (N / 8),.int .i64 (N % 8),.int .i64 K,.int .i64 0])∧Below w.heap.size w w':=by
 have HT:=take_any a len cap zs w hB
 rw[hd]at HT
 simp only[]at HT
 clear hd hB
 have hhi:N / 8≤536870911:=by unfold badKey at hok;omega
 have hf:fmd (N / 8) (N % 8) 0 0=true:=(fmd_key N hN0 hhi).2 hok
 have HF:Hid (∀ W,Calls Tryz.prog 114 #[.agg #[.int .i64 (N / 8),.int .i64 (N % 8),.int .u64 0,.slice none 0 0]] W fun e w'=>e=.returned (.bool true)∧Below W.heap.size W w'):=by
  intro W
  have:=formedW_any (N / 8) (N % 8) 0 none 0 0 W
  rw[hf]at this
  exact this
 clear hf hok
 go_enter Tryz.func102,Tryz.ntmps102
 go_wp2_with fail
 refine HT.mono ?_
 rintro e w1 ⟨rfl,rfl⟩
 go_wp2_with fail
 refine(HF.out _).mono ?_
 rintro e w2 ⟨rfl,hb2⟩
 go_wp2_with fail
 exact bodyPost_ret (v:=.tuple #[.int .i64 (N / 8),.int .i64 (N % 8),.int .i64 K,.int .i64 0]) (by simp[results,Tryz.results102,go_sem]) rfl ⟨rfl,hb2⟩

theorem cloneW_any (ad:Addr) (n c:Nat) (xs:List Int) (w:World) (hB:IsB w (some ad) n xs) (hn:n≤140737488355328) :
  Calls Tryz.prog 79 #[.slice (some ad) n c] w fun e w'=>∃ v',e=.returned v'∧OwnB w' w.heap.size v' xs∧Below w.heap.size w w':=by
 refine(bytes_Clone_at ad n c xs w hB.1 hn ?_).mono ?_
 ·intro i hi
  refine isB_cells hB i _ ?_
  have hl:=hB.1
  rw[List.getElem?_map,List.getD_eq_getElem?_getD,List.getElem?_eq_getElem (by omega)]
  rfl
 ·rintro e w' ⟨v',rfl,h1,_,h3⟩
  refine⟨v',rfl,?_,h3⟩
  unfold OwnB
  rw[hB.1]
  exact h1

theorem isB_mid {w:World} {b off len cap:Nat} {zs:List Int} (hB:IsB w (some ⟨b,off,none⟩) len zs) (hc:len≤cap) (k x:Nat) (hk:k+x≤len):IsB w (some (cutAt b off cap k)) x ((zs.drop k).take x):=by
 have h:=isB_cut hB hc k (by omega)
 exact isB_take h x (by omega)

set_option maxHeartbeats 1000000 in
theorem takeData_err (a:Option Addr) (len cap:Nat) (w:World) (X Q F:Int) (hF:F≠0)
  (HT:Calls Tryz.prog 121 #[.slice a len cap] w fun e w'=>e=.returned (.tuple #[.int .u64 X,.int .i64 Q,.int .i64 F])∧w'=w) :
  Calls Tryz.prog 124 #[.slice a len cap] w fun e w'=>e=.returned (.tuple #[.slice none 0 0,.int .i64 0,.int .i64 F])∧w'=w:=by
 have hF2:(F == 0)=false:=by simpa using hF
 go_enter Tryz.func124,Tryz.ntmps124
 go_wp2_with fail
 refine HT.mono ?_
 rintro e w1 ⟨rfl,rfl⟩
 go_wp2_with fail
 go_ret3
 exact⟨rfl,rfl⟩
set_option maxHeartbeats 1000000 in
theorem takeData_short (a:Option Addr) (len cap:Nat) (w:World) (X:Int) (q:Nat) (hq:q≤len) (hlm:len≤281474976710656) (hX:(len:Int) - q<X) (hX1:X≤18446744073709551615)
  (HT:Calls Tryz.prog 121 #[.slice a len cap] w fun e w'=>e=.returned (.tuple #[.int .u64 X,.int .i64 q,.int .i64 0])∧w'=w) :
  Calls Tryz.prog 124 #[.slice a len cap] w fun e w'=>e=.returned (.tuple #[.slice none 0 0,.int .i64 0,.int .i64 5])∧w'=w:=by
 go_enter Tryz.func124,Tryz.ntmps124
 go_wp2_with fail
 refine HT.mono ?_
 rintro e w1 ⟨rfl,rfl⟩
 go_wp2_with fail
 go_ret3
 exact⟨rfl,rfl⟩
set_option maxHeartbeats 1000000 in
theorem takeData_ok (b off len cap:Nat) (zs:List Int) (w:World) (x q:Nat) (hq:q+x≤len) (hlc:len≤cap) (hlm:len≤140737488355328) (hcm:cap≤9223372036854775807) (hB:IsB w (some ⟨b,off,none⟩) len zs)
  (HT:Calls Tryz.prog 121 #[.slice (some ⟨b,off,none⟩) len cap] w fun e w'=>e=.returned (.tuple #[.int .u64 x,.int .i64 q,.int .i64 0])∧w'=w) :
  Calls Tryz.prog 124 #[.slice (some ⟨b,off,none⟩) len cap] w fun e w'=>∃ v',e=.returned (.tuple #[v',.int .i64 ((q:Int)+x),.int .i64 0])∧OwnB w' w.heap.size v' ((zs.drop q).take x)∧Below w.heap.size w w':=by
 have HI:Hid (IsB w (some (cutAt b off cap q)) x ((zs.drop q).take x)):=isB_mid hB hlc q x hq
 clear hB
 generalize (zs.drop q).take x=ds at *
 by_cases hcq:cap=q
 ·obtain rfl:x=0:=by omega
  obtain rfl:len=q:=by omega
  subst hcq
  rw[cutAt_end]at HI
  go_enter Tryz.func124,Tryz.ntmps124
  go_wp2_with fail
  refine HT.mono ?_
  rintro e w1 ⟨rfl,rfl⟩
  go_wp2_with fail
  refine(cloneW_any _ _ _ _ _ HI.out (by omega)).mono ?_
  rintro e w2 ⟨v2,rfl,ho2,hb2⟩
  go_wp2_with fail
  go_ret3
  exact⟨_,rfl,ho2,hb2⟩
 ·rw[cutAt_in hcq]at HI
  go_enter Tryz.func124,Tryz.ntmps124
  go_wp2_with fail
  refine HT.mono ?_
  rintro e w1 ⟨rfl,rfl⟩
  go_wp2_with fail
  refine(cloneW_any _ _ _ _ _ HI.out (by omega)).mono ?_
  rintro e w2 ⟨v2,rfl,ho2,hb2⟩
  go_wp2_with fail
  go_ret3
  exact⟨_,rfl,ho2,hb2⟩

structure TC where
 n:Int
 data:List Int
 k:Int
 e:Int
def TcAns (w w':World) (e:Ending) (r:TC):Prop:=
 ∃ a len cap,e=.returned (.tuple #[fv 0 0 r.n a len cap,.int .i64 r.k,.int .i64 r.e])∧NewB w' w.heap.size a len r.data∧NoA a len cap∧Below w.heap.size w w'
theorem tc_ans (w w':World) (n k e:Int) (hb:Below w.heap.size w w') :
  TcAns w w' (.returned (.tuple #[.agg #[.int .i64 0,.int .i64 0,.int .u64 n,.slice none 0 0],.int .i64 k,.int .i64 e])) ⟨n,[],k,e⟩:=
 ⟨none,0,0,rfl,⟨rfl,by simp,.inl rfl⟩,NoA.zero,hb⟩

set_option maxHeartbeats 1000000 in
theorem takeContent_0 (a:Option Addr) (len cap:Nat) (w:World) (X Q F:Int)
  (HT:∀ W,Below w.heap.size w W→Calls Tryz.prog 121 #[.slice a len cap] W fun e w'=>e=.returned (.tuple #[.int .u64 X,.int .i64 Q,.int .i64 F])∧w'=W) :
  Calls Tryz.prog 103 #[.slice a len cap,.int .i64 0] w fun e w'=>TcAns w w' e ⟨X,[],Q,F⟩:=by
 have HTT:Hid _:=HT
 clear HT
 go_enter Tryz.func103,Tryz.ntmps103
 go_wp2_with fail
 refine(HTT.out _ ((Below.refl _ _).alloc (Nat.le_refl _) _)).mono ?_
 rintro e w1 ⟨rfl,rfl⟩
 go_wp2_with fail
 exact bodyPost_ret (v:=.tuple #[.agg #[.int .i64 0,.int .i64 0,.int .u64 X,.slice none 0 0],.int .i64 Q,.int .i64 F]) (by simp[results,Tryz.results103,go_sem]) rfl (tc_ans _ _ _ _ _ (by go_grown))
set_option maxHeartbeats 1000000 in
theorem takeContent_1 (a:Option Addr) (len cap:Nat) (w:World) (X F:Int)
  (HT:∀ W,Below w.heap.size w W→Calls Tryz.prog 122 #[.slice a len cap] W fun e w'=>e=.returned (.tuple #[.int .u64 X,.int .i64 F])∧w'=W) :
  Calls Tryz.prog 103 #[.slice a len cap,.int .i64 1] w fun e w'=>TcAns w w' e ⟨X,[],8,F⟩:=by
 have HTT:Hid _:=HT
 clear HT
 go_enter Tryz.func103,Tryz.ntmps103
 go_wp2_with fail
 refine(HTT.out _ ((Below.refl _ _).alloc (Nat.le_refl _) _)).mono ?_
 rintro e w1 ⟨rfl,rfl⟩
 go_wp2_with fail
 exact bodyPost_ret (v:=.tuple #[.agg #[.int .i64 0,.int .i64 0,.int .u64 X,.slice none 0 0],.int .i64 8,.int .i64 F]) (by simp[results,Tryz.results103,go_sem]) rfl (tc_ans _ _ _ _ _ (by go_grown))
set_option maxHeartbeats 1000000 in
theorem takeContent_5 (a:Option Addr) (len cap:Nat) (w:World) (X F:Int) (hX0:0≤X) (hX1:X≤4294967295)
  (HT:∀ W,Below w.heap.size w W→Calls Tryz.prog 123 #[.slice a len cap] W fun e w'=>e=.returned (.tuple #[.int .u32 X,.int .i64 F])∧w'=W) :
  Calls Tryz.prog 103 #[.slice a len cap,.int .i64 5] w fun e w'=>TcAns w w' e ⟨X,[],4,F⟩:=by
 have HTT:Hid _:=HT
 clear HT
 go_enter Tryz.func103,Tryz.ntmps103
 go_wp2_with fail
 refine(HTT.out _ ((Below.refl _ _).alloc (Nat.le_refl _) _)).mono ?_
 rintro e w1 ⟨rfl,rfl⟩
 go_wp2_with fail
 exact bodyPost_ret (v:=.tuple #[.agg #[.int .i64 0,.int .i64 0,.int .u64 X,.slice none 0 0],.int .i64 4,.int .i64 F]) (by simp[results,Tryz.results103,go_sem]) rfl (tc_ans _ _ _ _ _ (by go_grown))
set_option maxHeartbeats 1000000 in
theorem takeContent_2none (a:Option Addr) (len cap:Nat) (w:World) (F:Int)
  (HT:∀ W,Below w.heap.size w W→Calls Tryz.prog 124 #[.slice a len cap] W fun e w'=>e=.returned (.tuple #[.slice none 0 0,.int .i64 0,.int .i64 F])∧w'=W) :
  Calls Tryz.prog 103 #[.slice a len cap,.int .i64 2] w fun e w'=>TcAns w w' e ⟨0,[],0,F⟩:=by
 have HTT:Hid _:=HT
 clear HT
 go_enter Tryz.func103,Tryz.ntmps103
 go_wp2_with fail
 refine(HTT.out _ ((Below.refl _ _).alloc (Nat.le_refl _) _)).mono ?_
 rintro e w1 ⟨rfl,rfl⟩
 go_wp2_with fail
 exact bodyPost_ret (v:=.tuple #[.agg #[.int .i64 0,.int .i64 0,.int .u64 0,.slice none 0 0],.int .i64 0,.int .i64 F]) (by simp[results,Tryz.results103,go_sem]) rfl (tc_ans _ _ _ _ _ (by go_grown))
set_option maxHeartbeats 1000000 in
theorem takeContent_2ok (a:Option Addr) (len cap:Nat) (w:World) (k:Int) (ds:List Int) (hds:∀ z∈ds,0≤z∧z≤255) (hdl:ds.length≤281474976710656)
  (HT:∀ W,Below w.heap.size w W→Calls Tryz.prog 124 #[.slice a len cap] W fun e w'=>∃ v',e=.returned (.tuple #[v',.int .i64 k,.int .i64 0])∧OwnB w' W.heap.size v' ds∧Below W.heap.size W w') :
  Calls Tryz.prog 103 #[.slice a len cap,.int .i64 2] w fun e w'=>TcAns w w' e ⟨0,ds,k,0⟩:=by
 have HTT:Hid _:=HT
 have HDS:Hid (∀ z∈ds,0≤z∧z≤255):=hds
 clear HT hds
 go_enter Tryz.func103,Tryz.ntmps103
 go_wp2_with fail
 refine(HTT.out _ ((Below.refl _ _).alloc (Nat.le_refl _) _)).mono ?_
 rintro e w1 ⟨v1,rfl,ho1,hb1⟩
 rw[World.size_alloc]at ho1
 obtain⟨a1,c1,rfl,hno1,hst1⟩:=ownE_isB (.inl ho1) HDS.out hdl
 have HST:Hid (∀ w',(∀ b o,w.heap.size+1≤b→w'.cell? ⟨b,o,none⟩=w1.cell? ⟨b,o,none⟩)→IsB w' a1 ds.length ds):=hst1
 have HN1:Hid (NoA a1 ds.length c1):=hno1
 have f0:w1.cell? ⟨w.heap.size,0,none⟩=some (.int .i64 0):=(hb1.cell (by simp)).trans (by simp)
 have f1:w1.cell? ⟨w.heap.size,1,none⟩=some (.int .i64 0):=(hb1.cell (by simp)).trans (by simp)
 have f2:w1.cell? ⟨w.heap.size,2,none⟩=some (.int .u64 0):=(hb1.cell (by simp)).trans (by simp)
 have f3:w1.cell? ⟨w.heap.size,3,none⟩=some (.slice none 0 0):=(hb1.cell (by simp)).trans (by simp)
 have g0:∀ o,w1.frozen? ⟨w.heap.size,o,none⟩=false:=fun o=>(hb1.frozen (p:=⟨w.heap.size,o,none⟩) (by simp)).trans (by simp)
 have HB1:Hid (Below w.heap.size w w1):=((Below.refl _ _).alloc (Nat.le_refl _) _).trans (hb1.mono (by simp))
 clear hb1 ho1 hst1 hno1 HTT HDS
 generalize ds.length=dl at *
 go_wp2_with fail
 refine bodyPost_ret (v:=.tuple #[.agg #[.int .i64 0,.int .i64 0,.int .u64 0,.slice a1 dl c1],.int .i64 k,.int .i64 0]) ?_ rfl ⟨a1,dl,c1,rfl,?_,HN1.out,?_⟩
 ·simp[results,Tryz.results103,go_sem,f0,f1,f2,f3]
 ·refine stable_newB ?_
  intro w2 h2
  refine HST.out _ (fun b o hb=>?_)
  rw[h2 b o (by omega),World.cell?_setCell_other _ _ _ _ (by simp <;> omega),World.cell?_setCell_other _ _ _ _ (by simp <;> omega),World.cell?_setCell_other _ _ _ _ (by simp <;> omega),World.cell?_setCell_other _ _ _ _ (by simp <;> omega)]
 ·exact(((HB1.out.setCell (by simp) _).setCell (by simp) _).setCell (by simp) _).setCell (by simp) _

def tc (ty:Int) (zs:List Int):TC:=
 if ty=0 then ⟨(dec 0 0 zs).1,[],(dec 0 0 zs).2.1,(dec 0 0 zs).2.2⟩
 else if ty=2 then
  if (dec 0 0 zs).2.2≠0 then ⟨0,[],0,(dec 0 0 zs).2.2⟩
  else if (zs.length:Int) - (dec 0 0 zs).2.1<(dec 0 0 zs).1 then ⟨0,[],0,5⟩
  else ⟨0,(zs.drop (dec 0 0 zs).2.1.toNat).take (dec 0 0 zs).1.toNat,(dec 0 0 zs).2.1+(dec 0 0 zs).1,0⟩
 else if ty=5 then
  if zs.length<4 then ⟨0,[],4,5⟩ else ⟨low (zs.take 4),[],4,0⟩
 else
  if zs.length<8 then ⟨0,[],8,5⟩ else ⟨low (zs.take 8),[],8,0⟩

theorem takeContent_any (b off len cap:Nat) (zs:List Int) (w:World) (ty:Int) (hty:ty=0∨ty=1∨ty=2∨ty=5) (hB:IsB w (some ⟨b,off,none⟩) len zs) (hlc:len≤cap) (hlm:len≤140737488355328) (hcm:cap≤9223372036854775807) :
  Calls Tryz.prog 103 #[.slice (some ⟨b,off,none⟩) len cap,.int .i64 ty] w fun e w'=>TcAns w w' e (tc ty zs):=by
 obtain⟨X,Q,F,hq⟩:=dec_triple zs
 have HT:∀ W,Below w.heap.size w W→Calls Tryz.prog 121 #[.slice (some ⟨b,off,none⟩) len cap] W fun e w'=>
   e=.returned (.tuple #[.int .u64 X,.int .i64 Q,.int .i64 F])∧w'=W:=by
  intro W hW
  have:=take_any _ len cap zs W (isB_old hB hW)
  rw[hq]at this;exact this
 have hzl:=hB.1
 unfold tc
 rw[hq]
 simp only[]
 rcases hty with rfl | rfl | rfl | rfl
 ·rw[if_pos rfl]
  exact takeContent_0 _ _ _ _ _ _ _ HT
 ·rw[if_neg (by omega),if_neg (by omega),if_neg (by omega)]
  by_cases h8:zs.length<8
  ·rw[if_pos h8]
   exact takeContent_1 _ _ _ _ _ _ (fun W hW=>take64_none _ len cap W (by omega))
  ·rw[if_neg h8]
   exact takeContent_1 _ _ _ _ _ _ (fun W hW=>take64_any _ len cap zs W (isB_old hB hW) (by omega))
 ·rw[if_neg (by omega),if_pos rfl]
  by_cases hF:F=0
  ·subst hF
   rw[if_neg (by simp)]
   obtain⟨hX0,hX1,hQ0,hQl,_⟩:=dec_ok zs 0 0 X Q (isB_bytes hB) (by simp) (by omega) (by simpa using hq)
   obtain⟨q,rfl⟩:=Int.eq_ofNat_of_zero_le (show 0≤Q by omega)
   by_cases hs:(zs.length:Int) - (q:Int)<X
   ·rw[if_pos hs]
    exact takeContent_2none _ _ _ _ _ (fun W hW=>takeData_short _ len cap W X q (by omega) (by omega) (by omega) hX1 (HT W hW))
   ·rw[if_neg hs]
    obtain⟨x,rfl⟩:=Int.eq_ofNat_of_zero_le hX0
    rw[Int.toNat_natCast,Int.toNat_natCast]
    refine takeContent_2ok _ _ _ _ _ _ (fun z hz=>isB_bytes hB z (List.mem_of_mem_drop (List.mem_of_mem_take hz))) (by simp;omega) (fun W hW=>?_)
    exact takeData_ok b off len cap zs W x q (by omega) hlc hlm hcm (isB_old hB hW) (HT W hW)
  ·rw[if_pos (by simpa using hF)]
   exact takeContent_2none _ _ _ _ _ (fun W hW=>takeData_err _ len cap W X Q F hF (HT W hW))
 ·rw[if_neg (by omega),if_neg (by omega),if_pos rfl]
  by_cases h4:zs.length<4
  ·rw[if_pos h4]
   exact takeContent_5 _ _ _ _ _ _ (by omega) (by omega) (fun W hW=>take32_none _ len cap W (by omega))
  ·rw[if_neg h4]
   have hb:=low4_bd hB (by omega)
   exact takeContent_5 _ _ _ _ _ _ hb.1 hb.2 (fun W hW=>take32_any _ len cap zs W (isB_old hB hW) (by omega))
set_option maxHeartbeats 1000000 in
theorem takeW_err (a:Option Addr) (len cap:Nat) (w:World) (E:Int) (hE:E≠0)
  (HT:∀ W,Below w.heap.size w W→Calls Tryz.prog 102 #[.slice a len cap] W fun e w'=>e=.returned (.tuple #[.int .i64 0,.int .i64 0,.int .i64 0,.int .i64 E])∧Below W.heap.size W w') :
  Calls Tryz.prog 78 #[.slice a len cap] w fun e w'=>TfAns w w' e (tfErr E):=by
 have HTT:Hid _:=HT
 have hE2:(E == 0)=false:=by simpa using hE
 clear HT
 go_enter Tryz.func78,Tryz.ntmps78
 go_wp2_with fail
 refine(HTT.out _ ((Below.refl _ _).alloc (Nat.le_refl _) _)).mono ?_
 rintro e w1 ⟨rfl,hb1⟩
 have f0:w1.cell? ⟨w.heap.size,0,none⟩=some (.int .i64 0):=(hb1.cell (by simp)).trans (by simp)
 have f1:w1.cell? ⟨w.heap.size,1,none⟩=some (.int .i64 0):=(hb1.cell (by simp)).trans (by simp)
 have f2:w1.cell? ⟨w.heap.size,2,none⟩=some (.int .u64 0):=(hb1.cell (by simp)).trans (by simp)
 have f3:w1.cell? ⟨w.heap.size,3,none⟩=some (.slice none 0 0):=(hb1.cell (by simp)).trans (by simp)
 have g0:∀ o,w1.frozen? ⟨w.heap.size,o,none⟩=false:=fun o=>(hb1.frozen (p:=⟨w.heap.size,o,none⟩) (by simp)).trans (by simp)
 have HB1:Hid (Below w.heap.size w w1):=((Below.refl _ _).alloc (Nat.le_refl _) _).trans (hb1.mono (by simp))
 clear hb1 HTT
 go_wp2_with fail
 refine bodyPost_ret (v:=.tuple #[.agg #[.int .i64 0,.int .i64 0,.int .u64 0,.slice none 0 0],.int .i64 0,.int .i64 E]) ?_ rfl (tfErr_ans _ _ _ ?_)
 ·simp[results,Tryz.results78,go_sem,f0,f1,f2,f3]
 ·exact(((HB1.out.setCell (by simp) _).setCell (by simp) _).setCell (by simp) _).setCell (by simp) _

set_option maxHeartbeats 2000000 in
theorem takeW_body (b off len cap:Nat) (w:World) (num ty:Int) (k:Nat) (hk:k≤len) (hlc:len≤cap) (hcm:cap≤9223372036854775807) (hk10:k≤10) (hck:¬cap=k)
  (HT:∀ W,Below w.heap.size w W→Calls Tryz.prog 102 #[.slice (some ⟨b,off,none⟩) len cap] W fun e w'=>e=.returned (.tuple #[.int .i64 num,.int .i64 ty,.int .i64 k,.int .i64 0])∧Below W.heap.size W w')
  (rn:Int) (rd:List Int) (rk re:Int) (hr0:0≤rk) (hr1:rk≤1125899906842624)
  (HC:∀ W,Below w.heap.size w W→Calls Tryz.prog 103 #[.slice (some ⟨b,off+k,none⟩) (len - k) (cap - k),.int .i64 ty] W fun e w'=>TcAns W w' e ⟨rn,rd,rk,re⟩) :
  Calls Tryz.prog 78 #[.slice (some ⟨b,off,none⟩) len cap] w fun e w'=>TfAns w w' e (if re≠0 then tfErr re else ⟨num,ty,rn,rd,k+rk,0⟩):=by
 have HTT:Hid _:=HT
 have HCC:Hid (∀ W,Below w.heap.size w W→Calls Tryz.prog 103 #[.slice (some ⟨b,off+k,none⟩) (len - k) (cap - k),.int .i64 ty] W fun e w'=>∃ a2 len2 cap2,e=.returned (.tuple #[.agg #[.int .i64 0,.int .i64 0,.int .u64 rn,.slice a2 len2 cap2],.int .i64 rk,.int .i64 re])∧NewB w' W.heap.size a2 len2 rd∧NoA a2 len2 cap2∧Below W.heap.size W w'):=HC
 clear HT HC
 by_cases hre:re=0
 ·subst hre
  rw[if_neg (by simp)]
  go_enter Tryz.func78,Tryz.ntmps78
  go_wp2_with fail
  refine(HTT.out _ ((Below.refl _ _).alloc (Nat.le_refl _) _)).mono ?_
  rintro e w1 ⟨rfl,hb1⟩
  have HB1:Hid (Below w.heap.size w w1):=((Below.refl _ _).alloc (Nat.le_refl _) _).trans (hb1.mono (by simp))
  have hz1:w.heap.size+1≤w1.heap.size:=by have:=hb1.size;simpa using this
  have HBA:Hid (Below (w.heap.size+1) (w.alloc (.cells #[.int .i64 0,.int .i64 0,.int .u64 0,.slice none 0 0] 123)) w1):=hb1.mono (by simp)
  clear hb1 HTT
  go_wp2_with fail
  refine(HCC.out _ HB1.out).mono ?_
  rintro e w2 ⟨a2,len2,cap2,rfl,hst2,hno2,hb2⟩
  have hba2:Below (w.heap.size+1) (w.alloc (.cells #[.int .i64 0,.int .i64 0,.int .u64 0,.slice none 0 0] 123)) w2:=HBA.out.trans (hb2.mono hz1)
  have f0:w2.cell? ⟨w.heap.size,0,none⟩=some (.int .i64 0):=(hba2.cell (by simp)).trans (by simp)
  have f1:w2.cell? ⟨w.heap.size,1,none⟩=some (.int .i64 0):=(hba2.cell (by simp)).trans (by simp)
  have f2:w2.cell? ⟨w.heap.size,2,none⟩=some (.int .u64 0):=(hba2.cell (by simp)).trans (by simp)
  have f3:w2.cell? ⟨w.heap.size,3,none⟩=some (.slice none 0 0):=(hba2.cell (by simp)).trans (by simp)
  have g0:∀ o,w2.frozen? ⟨w.heap.size,o,none⟩=false:=fun o=>(hba2.frozen (p:=⟨w.heap.size,o,none⟩) (by simp)).trans (by simp)
  have HB2:Hid (Below w.heap.size w w2):=HB1.out.trans (hb2.mono (by omega))
  have hz2:w.heap.size+1≤w2.heap.size:=by have:=hb2.size;omega
  have hne:¬w.heap.size=w2.heap.size:=by omega
  have hne2:¬w2.heap.size=w.heap.size:=by omega
  have hlt2:w.heap.size<w2.heap.size:=by omega
  have HST:Hid (NewB w2 w1.heap.size a2 len2 rd):=hst2
  have HN2:Hid (NoA a2 len2 cap2):=hno2
  clear hba2 hb2 hst2 hno2 HBA HB1 HCC
  go_wp2_with fail
  refine bodyPost_ret (v:=.tuple #[.agg #[.int .i64 num,.int .i64 ty,.int .u64 rn,.slice a2 len2 cap2],.int .i64 (k+rk),.int .i64 0]) ?_ rfl ⟨a2,len2,cap2,rfl,?_,HN2.out,?_⟩
  ·simp[results,Tryz.results78,go_sem,f0,f1,f2,f3,hlt2]
  ·refine(HST.out.cells (fun b o v hb hlt hc=>?_)).mono (by omega)
   refine Lib.cell?_alloc_some _ ?_
   rw[World.cell?_setCell_other _ _ _ _ (by simp <;> omega),World.cell?_setCell_other _ _ _ _ (by simp <;> omega),World.cell?_setCell_other _ _ _ _ (by simp <;> omega),World.cell?_setCell_other _ _ _ _ (by simp <;> omega)]
   exact hc
  ·exact((((HB2.out.setCell (by simp) _).setCell (by simp) _).setCell (by simp) _).setCell (by simp) _).alloc (by simp;omega) _
 ·have hE2:(re == 0)=false:=by simpa using hre
  rw[if_pos hre]
  go_enter Tryz.func78,Tryz.ntmps78
  go_wp2_with fail
  refine(HTT.out _ ((Below.refl _ _).alloc (Nat.le_refl _) _)).mono ?_
  rintro e w1 ⟨rfl,hb1⟩
  have HB1:Hid (Below w.heap.size w w1):=((Below.refl _ _).alloc (Nat.le_refl _) _).trans (hb1.mono (by simp))
  have hz1:w.heap.size+1≤w1.heap.size:=by have:=hb1.size;simpa using this
  have HBA:Hid (Below (w.heap.size+1) (w.alloc (.cells #[.int .i64 0,.int .i64 0,.int .u64 0,.slice none 0 0] 123)) w1):=hb1.mono (by simp)
  clear hb1 HTT
  go_wp2_with fail
  refine(HCC.out _ HB1.out).mono ?_
  rintro e w2 ⟨a2,len2,cap2,rfl,hst2,hno2,hb2⟩
  have hba2:Below (w.heap.size+1) (w.alloc (.cells #[.int .i64 0,.int .i64 0,.int .u64 0,.slice none 0 0] 123)) w2:=HBA.out.trans (hb2.mono hz1)
  have f0:w2.cell? ⟨w.heap.size,0,none⟩=some (.int .i64 0):=(hba2.cell (by simp)).trans (by simp)
  have f1:w2.cell? ⟨w.heap.size,1,none⟩=some (.int .i64 0):=(hba2.cell (by simp)).trans (by simp)
  have f2:w2.cell? ⟨w.heap.size,2,none⟩=some (.int .u64 0):=(hba2.cell (by simp)).trans (by simp)
  have f3:w2.cell? ⟨w.heap.size,3,none⟩=some (.slice none 0 0):=(hba2.cell (by simp)).trans (by simp)
  have g0:∀ o,w2.frozen? ⟨w.heap.size,o,none⟩=false:=fun o=>(hba2.frozen (p:=⟨w.heap.size,o,none⟩) (by simp)).trans (by simp)
  have HB2:Hid (Below w.heap.size w w2):=HB1.out.trans (hb2.mono (by omega))
  have hz2:w.heap.size+1≤w2.heap.size:=by have:=hb2.size;omega
  have hne:¬w.heap.size=w2.heap.size:=by omega
  have hne2:¬w2.heap.size=w.heap.size:=by omega
  have hlt2:w.heap.size<w2.heap.size:=by omega
  have HST:Hid (NewB w2 w1.heap.size a2 len2 rd):=hst2
  have HN2:Hid (NoA a2 len2 cap2):=hno2
  clear hba2 hb2 hst2 hno2 HBA HB1 HCC
  go_wp2_with fail
  refine bodyPost_ret (v:=.tuple #[.agg #[.int .i64 0,.int .i64 0,.int .u64 0,.slice none 0 0],.int .i64 0,.int .i64 re]) ?_ rfl (tfErr_ans _ _ _ ?_)
  ·simp[results,Tryz.results78,go_sem,f0,f1,f2,f3,hlt2]
  ·exact((((HB2.out.setCell (by simp) _).setCell (by simp) _).setCell (by simp) _).setCell (by simp) _).alloc (by simp;omega) _
set_option maxHeartbeats 2000000 in
theorem takeW_end (b off:Nat) (w:World) (num ty:Int) (k:Nat) (hk10:k≤10)
  (HT:∀ W,Below w.heap.size w W→Calls Tryz.prog 102 #[.slice (some ⟨b,off,none⟩) k k] W fun e w'=>e=.returned (.tuple #[.int .i64 num,.int .i64 ty,.int .i64 k,.int .i64 0])∧Below W.heap.size W w')
  (rn:Int) (rd:List Int) (rk re:Int) (hr0:0≤rk) (hr1:rk≤1125899906842624)
  (HC:∀ W,Below w.heap.size w W→Calls Tryz.prog 103 #[.slice (some ⟨b,off,none⟩) 0 0,.int .i64 ty] W fun e w'=>TcAns W w' e ⟨rn,rd,rk,re⟩) :
  Calls Tryz.prog 78 #[.slice (some ⟨b,off,none⟩) k k] w fun e w'=>TfAns w w' e (if re≠0 then tfErr re else ⟨num,ty,rn,rd,k+rk,0⟩):=by
 have HTT:Hid _:=HT
 have HCC:Hid (∀ W,Below w.heap.size w W→Calls Tryz.prog 103 #[.slice (some ⟨b,off,none⟩) 0 0,.int .i64 ty] W fun e w'=>∃ a2 len2 cap2,e=.returned (.tuple #[.agg #[.int .i64 0,.int .i64 0,.int .u64 rn,.slice a2 len2 cap2],.int .i64 rk,.int .i64 re])∧NewB w' W.heap.size a2 len2 rd∧NoA a2 len2 cap2∧Below W.heap.size W w'):=HC
 clear HT HC
 by_cases hre:re=0
 ·subst hre
  rw[if_neg (by simp)]
  go_enter Tryz.func78,Tryz.ntmps78
  go_wp2_with fail
  refine(HTT.out _ ((Below.refl _ _).alloc (Nat.le_refl _) _)).mono ?_
  rintro e w1 ⟨rfl,hb1⟩
  have HB1:Hid (Below w.heap.size w w1):=((Below.refl _ _).alloc (Nat.le_refl _) _).trans (hb1.mono (by simp))
  have hz1:w.heap.size+1≤w1.heap.size:=by have:=hb1.size;simpa using this
  have HBA:Hid (Below (w.heap.size+1) (w.alloc (.cells #[.int .i64 0,.int .i64 0,.int .u64 0,.slice none 0 0] 123)) w1):=hb1.mono (by simp)
  clear hb1 HTT
  go_wp2_with fail
  refine(HCC.out _ HB1.out).mono ?_
  rintro e w2 ⟨a2,len2,cap2,rfl,hst2,hno2,hb2⟩
  have hba2:Below (w.heap.size+1) (w.alloc (.cells #[.int .i64 0,.int .i64 0,.int .u64 0,.slice none 0 0] 123)) w2:=HBA.out.trans (hb2.mono hz1)
  have f0:w2.cell? ⟨w.heap.size,0,none⟩=some (.int .i64 0):=(hba2.cell (by simp)).trans (by simp)
  have f1:w2.cell? ⟨w.heap.size,1,none⟩=some (.int .i64 0):=(hba2.cell (by simp)).trans (by simp)
  have f2:w2.cell? ⟨w.heap.size,2,none⟩=some (.int .u64 0):=(hba2.cell (by simp)).trans (by simp)
  have f3:w2.cell? ⟨w.heap.size,3,none⟩=some (.slice none 0 0):=(hba2.cell (by simp)).trans (by simp)
  have g0:∀ o,w2.frozen? ⟨w.heap.size,o,none⟩=false:=fun o=>(hba2.frozen (p:=⟨w.heap.size,o,none⟩) (by simp)).trans (by simp)
  have HB2:Hid (Below w.heap.size w w2):=HB1.out.trans (hb2.mono (by omega))
  have hz2:w.heap.size+1≤w2.heap.size:=by have:=hb2.size;omega
  have hne:¬w.heap.size=w2.heap.size:=by omega
  have hne2:¬w2.heap.size=w.heap.size:=by omega
  have hlt2:w.heap.size<w2.heap.size:=by omega
  have HST:Hid (NewB w2 w1.heap.size a2 len2 rd):=hst2
  have HN2:Hid (NoA a2 len2 cap2):=hno2
  clear hba2 hb2 hst2 hno2 HBA HB1 HCC
  go_wp2_with fail
  refine bodyPost_ret (v:=.tuple #[.agg #[.int .i64 num,.int .i64 ty,.int .u64 rn,.slice a2 len2 cap2],.int .i64 (k+rk),.int .i64 0]) ?_ rfl ⟨a2,len2,cap2,rfl,?_,HN2.out,?_⟩
  ·simp[results,Tryz.results78,go_sem,f0,f1,f2,f3,hlt2]
  ·refine(HST.out.cells (fun b o v hb hlt hc=>?_)).mono (by omega)
   refine Lib.cell?_alloc_some _ ?_
   rw[World.cell?_setCell_other _ _ _ _ (by simp <;> omega),World.cell?_setCell_other _ _ _ _ (by simp <;> omega),World.cell?_setCell_other _ _ _ _ (by simp <;> omega),World.cell?_setCell_other _ _ _ _ (by simp <;> omega)]
   exact hc
  ·exact((((HB2.out.setCell (by simp) _).setCell (by simp) _).setCell (by simp) _).setCell (by simp) _).alloc (by simp;omega) _
 ·have hE2:(re == 0)=false:=by simpa using hre
  rw[if_pos hre]
  go_enter Tryz.func78,Tryz.ntmps78
  go_wp2_with fail
  refine(HTT.out _ ((Below.refl _ _).alloc (Nat.le_refl _) _)).mono ?_
  rintro e w1 ⟨rfl,hb1⟩
  have HB1:Hid (Below w.heap.size w w1):=((Below.refl _ _).alloc (Nat.le_refl _) _).trans (hb1.mono (by simp))
  have hz1:w.heap.size+1≤w1.heap.size:=by have:=hb1.size;simpa using this
  have HBA:Hid (Below (w.heap.size+1) (w.alloc (.cells #[.int .i64 0,.int .i64 0,.int .u64 0,.slice none 0 0] 123)) w1):=hb1.mono (by simp)
  clear hb1 HTT
  go_wp2_with fail
  refine(HCC.out _ HB1.out).mono ?_
  rintro e w2 ⟨a2,len2,cap2,rfl,hst2,hno2,hb2⟩
  have hba2:Below (w.heap.size+1) (w.alloc (.cells #[.int .i64 0,.int .i64 0,.int .u64 0,.slice none 0 0] 123)) w2:=HBA.out.trans (hb2.mono hz1)
  have f0:w2.cell? ⟨w.heap.size,0,none⟩=some (.int .i64 0):=(hba2.cell (by simp)).trans (by simp)
  have f1:w2.cell? ⟨w.heap.size,1,none⟩=some (.int .i64 0):=(hba2.cell (by simp)).trans (by simp)
  have f2:w2.cell? ⟨w.heap.size,2,none⟩=some (.int .u64 0):=(hba2.cell (by simp)).trans (by simp)
  have f3:w2.cell? ⟨w.heap.size,3,none⟩=some (.slice none 0 0):=(hba2.cell (by simp)).trans (by simp)
  have g0:∀ o,w2.frozen? ⟨w.heap.size,o,none⟩=false:=fun o=>(hba2.frozen (p:=⟨w.heap.size,o,none⟩) (by simp)).trans (by simp)
  have HB2:Hid (Below w.heap.size w w2):=HB1.out.trans (hb2.mono (by omega))
  have hz2:w.heap.size+1≤w2.heap.size:=by have:=hb2.size;omega
  have hne:¬w.heap.size=w2.heap.size:=by omega
  have hne2:¬w2.heap.size=w.heap.size:=by omega
  have hlt2:w.heap.size<w2.heap.size:=by omega
  have HST:Hid (NewB w2 w1.heap.size a2 len2 rd):=hst2
  have HN2:Hid (NoA a2 len2 cap2):=hno2
  clear hba2 hb2 hst2 hno2 HBA HB1 HCC
  go_wp2_with fail
  refine bodyPost_ret (v:=.tuple #[.agg #[.int .i64 0,.int .i64 0,.int .u64 0,.slice none 0 0],.int .i64 0,.int .i64 re]) ?_ rfl (tfErr_ans _ _ _ ?_)
  ·simp[results,Tryz.results78,go_sem,f0,f1,f2,f3,hlt2]
  ·exact((((HB2.out.setCell (by simp) _).setCell (by simp) _).setCell (by simp) _).setCell (by simp) _).alloc (by simp;omega) _

theorem tfBody_tc (N k0:Int) (rest:List Int) (h:¬badKey N) :
  tfBody N k0 rest=if (tc (N % 8) rest).e≠0 then tfErr (tc (N % 8) rest).e else ⟨N / 8,N % 8,(tc (N % 8) rest).n,(tc (N % 8) rest).data,k0+(tc (N % 8) rest).k,0⟩:=by
 have hty:N % 8=0∨N % 8=1∨N % 8=2∨N % 8=5:=by unfold badKey at h;omega
 unfold tfBody tc
 unfold badKey at h
 rw[if_neg h]
 generalize N / 8=M
 rcases hty with hy | hy | hy | hy
 ·rw[hy];simp
 ·rw[hy]
  simp only[show ¬(1:Int)=0 by omega,show ¬(1:Int)=2 by omega,show ¬(1:Int)=5 by omega,if_false]
  by_cases h8:rest.length<8
  ·simp[h8]
  ·simp[h8]
 ·rw[hy]
  simp only[show ¬(2:Int)=0 by omega,if_false,if_true]
  by_cases hF:(dec 0 0 rest).2.2=0
  ·by_cases hs:(rest.length:Int) - (dec 0 0 rest).2.1<(dec 0 0 rest).1
   ·simp[hF,hs]
   ·simp[hF,hs,Int.add_assoc]
  ·simp[hF]
 ·rw[hy]
  simp only[show ¬(5:Int)=0 by omega,show ¬(5:Int)=2 by omega,if_false,if_true]
  by_cases h4:rest.length<4
  ·simp[h4]
  ·simp[h4]
theorem tc_k (ty:Int) (zs:List Int) (hb:∀ z∈zs,0≤z∧z≤255) (hl:zs.length≤281474976710656):0≤(tc ty zs).k∧(tc ty zs).k≤1125899906842624:=by
 have hQ:=dec_q zs 0 0 (by omega)
 obtain⟨X,Q,F,hq⟩:=dec_triple zs
 unfold tc
 rw[hq]at hQ ⊢
 simp only[]at hQ ⊢
 split
 ·simp only[];omega
 ·split
  ·split
   ·simp
   ·rename_i hF
    split
    ·simp
    ·have hF0:F=0:=by simpa using hF
     subst hF0
     obtain⟨hX0,hX1,_⟩:=dec_ok zs 0 0 X Q hb (by simp) (by omega) (by simpa using hq)
     simp only[]
     omega
  ·split
   ·split <;> simp
   ·split <;> simp

theorem takeW_any (a:Option Addr) (len cap:Nat) (zs:List Int) (w:World) (hB:IsB w a len zs) (hlc:len≤cap) (hlm:len≤140737488355328) (hcm:cap≤9223372036854775807) :
  Calls Tryz.prog 78 #[.slice a len cap] w fun e w'=>TfAns w w' e (tf zs):=by
 obtain⟨N,K,E,hd⟩:=dec_triple zs
 unfold tf
 rw[hd]
 simp only[]
 by_cases hE:E=0
 ·subst hE
  rw[if_neg (by simp)]
  obtain⟨hN0,hN1,hK0,hKl,hK10⟩:=dec_ok zs 0 0 N K (isB_bytes hB) (by simp) (by omega) (by simpa using hd)
  obtain⟨k,rfl⟩:=Int.eq_ofNat_of_zero_le (show 0≤K by omega)
  have hzl:=hB.1
  obtain⟨b,off,_,rfl,_⟩:=isB_at hB (show 0<len by omega)
  rw[Int.toNat_natCast]
  by_cases hbad:badKey N
  ·have:tfBody N k (zs.drop k)=tfErr 2:=by unfold tfBody;exact if_pos hbad
   rw[this]
   exact takeW_err _ len cap w 2 (by omega) (fun W hW=>takeKey_form _ len cap zs W (isB_old hB hW) N k hd hN0 hN1 hbad)
  ·rw[tfBody_tc N k _ hbad]
   have hty:N % 8=0∨N % 8=1∨N % 8=2∨N % 8=5:=by unfold badKey at hbad;omega
   have hrk:=tc_k (N % 8) (zs.drop k) (fun z hz=>isB_bytes hB z (List.mem_of_mem_drop hz)) (by rw[List.length_drop];omega)
   have HK:∀ W,Below w.heap.size w W→Calls Tryz.prog 102 #[.slice (some ⟨b,off,none⟩) len cap] W fun e w'=>e=.returned (.tuple #[.int .i64 (N / 8),.int .i64 (N % 8),.int .i64 k,.int .i64 0])∧Below W.heap.size W w':=
    fun W hW=>takeKey_ok _ len cap zs W (isB_old hB hW) N k hd hN0 hN1 hbad
   by_cases hck:cap=k
   ·subst hck
    obtain rfl:len=cap:=by omega
    refine takeW_end b off w (N / 8) (N % 8) len (by omega) HK _ _ _ _ hrk.1 hrk.2 (fun W hW=>?_)
    exact takeContent_any b off 0 0 (zs.drop len) W (N % 8) hty (isB_end (isB_old hB hW) _) (by omega) (by omega) (by omega)
   ·refine takeW_body b off len cap w (N / 8) (N % 8) k (by omega) hlc hcm (by omega) hck HK _ _ _ _ hrk.1 hrk.2 (fun W hW=>?_)
    have:=isB_cut (isB_old hB hW) hlc k (by omega)
    rw[cutAt_in hck]at this
    exact takeContent_any b (off+k) (len - k) (cap - k) (zs.drop k) W (N % 8) hty this (by omega) (by omega) (by omega)
 ·rw[if_pos (by simpa using hE)]
  refine takeW_err _ len cap w E hE (fun W hW=>(takeKey_err _ len cap zs W (isB_old hB hW) N K E hd hE).mono ?_)
  rintro e w' ⟨rfl,rfl⟩
  exact⟨rfl,Below.refl _ _⟩
end Go.Proofs.YteajlfgbmefncaaGreatDoor
