/-
  Walks and plain words (DvT DvS LwG).
-/
import Derived.Test.YtpojeinddnjpfaaGreatDoorM11
import Derived.Laws.AppendOwn
import Derived.OwnWalk
import Derived.Deep.AppendLies
import Derived.WalkSmall
import Derived.Lib.OthersKept
import Derived.Test.YtpojeinddnjpfaaGreatDoorProg
import Derived.Test.YtpojeinddnjpfaaGreatDoorM1
import Derived.Deep.RegionWith
import Derived.Deep.QuietTactic
import Derived.BigQuiet
import Derived.Deep.RegionLaw
namespace Go.Proofs.YtpojeinddnjpfaaGreatDoor
set_option linter.unusedVariables false
open Go.ChangeShapes Go.WideShapes Go.ChangeAt Go.RowKit

theorem Iu (l:List UInt8) (h:l.head? = some 47):Lib.hasPrefix l [47,47]=decide (l[1]? = some 47):=by
 cases l with
 | nil=>simp at h
 | cons a t=>
  rw[List.head?_cons]at h
  obtain rfl:a=47:=Option.some.inj h
  cases t with
  | nil=>rfl
  | cons b t=>
   have e1:Lib.hasPrefix (47 :: b :: t) [47,47]=((47:UInt8) == b):=by
    show ((47:UInt8) == 47&&((47:UInt8) == b&&true))=_
    simp
   have e2:(47 :: b :: t)[1]? = some b:=rfl
   rw[e1,e2,Bool.eq_iff_iff,decide_eq_true_iff,beq_iff_eq]
   exact⟨fun h=>by rw[h],fun h=>(Option.some.inj h).symm⟩
theorem Zs (l:List UInt8) (h:l≠[]) (k:UInt8) (hk:k.toNat<128) (hr:rn l=(k.toNat:Int)):l.head? = some k:=by
 have hn:=(tL l h _ (by omega) (by omega)).1 hr
 cases l with
 | nil=>exact absurd rfl h
 | cons b t=>
  by_cases hb:b.toNat<128
  ·rw[jL b t hb]at hn
   have e:b.toNat=k.toNat:=by have:(b.toNat:Int)=(k.toNat:Int):=hn;omega
   rw[List.head?_cons,UInt8.toNat_inj.1 e]
  ·have:=qY b t (by omega)
   omega
set_option maxHeartbeats 1000000 in
theorem El (s:ByteArray) (w:World) (hs:s.size≤1048576) (h47:s.data.toList.head? = some 47) :
  Calls Tryz.prog 148 #[.string s] w fun e w'=>e=.returned (.int .i64 (uK s.data.toList:Int))∧w'=w:=by
 have hH:=fun W=>strings_HasPrefix s ⟨#[47,47]⟩ W
 have e47:Lib.hasPrefix s.data.toList (ByteArray.mk #[47,47]).data.toList=decide (s.data.toList[1]? = some 47):=Iu _ h47
 rw[e47]at hH
 have hI:=fun W=>strings_IndexByte s 10 W
 have e10:((10:Int).toNat.toUInt8)=10:=rfl
 rw[e10]at hI
 have hsk:=It s.data.toList
 rw[bC]at hsk
 obtain⟨R,hR⟩:∃ R,uK s.data.toList=R:=⟨_,rfl⟩
 rw[hR]
 have HR:Hid (uK s.data.toList=R):=hR
 clear hR e47 e10
 by_cases h1:s.data.toList[1]? = some 47
 ·rw[decide_eq_true h1]at hH
  have hRv:(R:Int)=((cN s.data.toList.length s.data.toList).1:Int):=by rw[←HR.out];unfold uK;rw[if_pos h1]
  rw[bC]at hRv
  clear h1 h47
  generalize Lib.indexByte s.data.toList 10=I at *
  generalize ((cN s.size s.data.toList).1)=K at *
  rcases hsk with ⟨a,b⟩ | ⟨a,b⟩
  ·have hz:¬(0:Int)≤I:=by omega
   have HV:Hid ((s.size:Int)=(R:Int)):=by refine(?_:_=_);omega
   clear hRv a b
   go_enter Tryz.func148,Tryz.ntmps148
   go_wp2_with (first
    | (go_at_call 186;refine(hH _).mono ?_;rintro e w' ⟨rfl,rfl⟩)
    | (go_at_call 187;refine(hI _).mono ?_;rintro e w' ⟨rfl,rfl⟩))
   go_ret
   exact⟨tM HV.out,rfl⟩
  ·have HV:Hid (I=(R:Int)):=by refine(?_:_=_);omega
   clear hRv b
   go_enter Tryz.func148,Tryz.ntmps148
   go_wp2_with (first
    | (go_at_call 186;refine(hH _).mono ?_;rintro e w' ⟨rfl,rfl⟩)
    | (go_at_call 187;refine(hI _).mono ?_;rintro e w' ⟨rfl,rfl⟩))
   go_ret
   exact⟨tM HV.out,rfl⟩
 ·rw[decide_eq_false h1]at hH
  have HV:Hid (R=0):=by refine(?_:R=0);rw[←HR.out];unfold uK;rw[if_neg h1]
  clear h1 h47 hsk hI
  go_enter Tryz.func148,Tryz.ntmps148
  go_wp2_with (go_at_call 186;refine(hH _).mono ?_;rintro e w' ⟨rfl,rfl⟩)
  go_ret
  exact⟨tM (by rw[HV.out];rfl),rfl⟩
theorem aV (l:List UInt8):(aC l).size=l.length:=by
 have:=bC (aC l)
 rw[←this];rfl
set_option maxHeartbeats 1000000 in
theorem On (s:ByteArray) (w:World) (hs:s.size≤1048576) :
  Calls Tryz.prog 150 #[.string s] w fun e w'=>e=.returned (.int .i64 ((if nameOf (runes ⟨(s.data.toList.take (bE s.data.toList.length s.data.toList).1).toArray⟩)=true then (bE s.data.toList.length s.data.toList).1 else 0:Nat):Int))∧Below w.heap.size w w':=by
 have hR:=Ek s w hs
 rw[bC]
 have hle:=(qZ s.size s.data.toList).1
 rw[bC]at hle
 have hts:(aC (s.data.toList.take (bE s.size s.data.toList).1)).size=(bE s.size s.data.toList).1:=by rw[aV,List.length_take,bC];omega
 have hN:=fun W=>rC (aC (s.data.toList.take (bE s.size s.data.toList).1)) W (by rw[hts];omega)
 obtain⟨V,hV⟩:∃ V:Nat,(if nameOf (runes ⟨(s.data.toList.take (bE s.size s.data.toList).1).toArray⟩)=true then (bE s.size s.data.toList).1 else 0:Nat)=V:=⟨_,rfl⟩
 rw[hV]
 have hV':(if nameOf (runes (aC (s.data.toList.take (bE s.size s.data.toList).1)))=true then (bE s.size s.data.toList).1 else 0:Nat)=V:=hV
 clear hV
 generalize aC (s.data.toList.take (bE s.size s.data.toList).1)=T at *
 generalize (bE s.size s.data.toList).1=R at *
 generalize nameOf (runes T)=N at *
 cases N with
 | false=>
  have HV:Hid (V=0):=by refine(?_:V=0);rw[←hV'];rfl
  clear hV' hle hts
  go_enter Tryz.func150,Tryz.ntmps150
  go_wp2_with fail
  refine hR.mono ?_
  rintro e w1 ⟨rfl,hb1⟩
  go_wp2_with fail
  refine(hN w1).mono ?_
  rintro e w2 ⟨rfl,hb2⟩
  go_wp2_with fail
  go_ret
  exact⟨tM (by rw[HV.out];rfl),hb1.trans (hb2.mono hb1.size)⟩
 | true=>
  have HV:Hid ((T.size:Int)=(V:Int)):=by refine(?_:_=_);rw[←hV',if_pos rfl,hts]
  clear hV' hle hts
  go_enter Tryz.func150,Tryz.ntmps150
  go_wp2_with fail
  refine hR.mono ?_
  rintro e w1 ⟨rfl,hb1⟩
  go_wp2_with fail
  refine(hN w1).mono ?_
  rintro e w2 ⟨rfl,hb2⟩
  go_wp2_with fail
  go_ret
  exact⟨tM HV.out,hb1.trans (hb2.mono hb1.size)⟩
set_option maxHeartbeats 2000000 in
theorem Em (s:ByteArray) (w:World) (hE:qC w) (hs:s.size≤1048576) (h1:1≤(bE s.size s.data.toList).1) (hd:cJ (s.data.toList.headD 0)=true) :
  Calls Tryz.prog 152 #[.string s] w fun e w'=>e=.returned (.int .i64 ((if ((s.data.toList.take (bE s.data.toList.length s.data.toList).1).all cJ&&pC (s.data.toList.take (bE s.data.toList.length s.data.toList).1))=true then (bE s.data.toList.length s.data.toList).1 else 0:Nat):Int))∧Below w.heap.size w w':=by
 have hR:=Ek s w hs
 rw[bC]
 have hle:=(qZ s.size s.data.toList).1
 rw[bC]at hle
 have hts:(aC (s.data.toList.take (bE s.size s.data.toList).1)).size=(bE s.size s.data.toList).1:=by rw[aV,List.length_take,bC];omega
 have htd:(aC (s.data.toList.take (bE s.size s.data.toList).1)).data.toList=s.data.toList.take (bE s.size s.data.toList).1:=rfl
 have hhd:(s.data.toList.take (bE s.size s.data.toList).1).head? = s.data.toList.head?:=by
  obtain⟨m,hm⟩:∃ m,(bE s.size s.data.toList).1=m+1:=⟨(bE s.size s.data.toList).1 - 1,by omega⟩
  rw[hm]
  cases s.data.toList <;> rfl
 have hd':cJ ((s.data.toList.take (bE s.size s.data.toList).1).headD 0)=true:=by
  rw[List.headD_eq_head?_getD,hhd,←List.headD_eq_head?_getD];exact hd
 rw[←htd]at hd' ⊢
 obtain⟨V,hV⟩:∃ V:Nat,(if ((aC (s.data.toList.take (bE s.size s.data.toList).1)).data.toList.all cJ&&pC (aC (s.data.toList.take (bE s.size s.data.toList).1)).data.toList)=true then (bE s.size s.data.toList).1 else 0:Nat)=V:=⟨_,rfl⟩
 rw[hV]
 clear hhd htd hd
 generalize aC (s.data.toList.take (bE s.size s.data.toList).1)=T at *
 generalize (bE s.size s.data.toList).1=R at *
 have h0t:0<T.size:=by omega
 have hat:=Yn T 0 h0t
 have hlen:=bC T
 have hne:T.data.toList≠[]:=by intro e;rw[e]at hlen;simp at hlen;omega
 have P:=Zq T.data.toList hne hd'
 by_cases hz:T.data.toList.head? = some 48∧1<T.data.toList.length
 ·have HV:Hid (V=0):=by
   refine(?_:V=0)
   rw[←hV,if_neg]
   unfold pC
   rw[decide_eq_true hz.1,decide_eq_true hz.2]
   simp
  have h48:T[0]'h0t=48:=by
   have e:=hz.1
   rw[List.head?_eq_getElem?,hat]at e
   exact Option.some.inj e
  have h48':(((T[0]'h0t).toNat:Int) == 48)=true:=by rw[h48];rfl
  have hl1:(1:Int)<(T.size:Int):=by have:=hz.2;rw[hlen]at this;omega
  clear hV P hz h48 hat hlen hne hd'
  go_enter Tryz.func152,Tryz.ntmps152
  go_wp2_with fail
  refine hR.mono ?_
  rintro e w1 ⟨rfl,hb1⟩
  clear hR
  go_wp2_with fail
  go_ret
  exact⟨tM (by rw[HV.out];rfl),hb1⟩
 ·have P:=P hz
  have hzc:¬(1:Int)<(T.size:Int)∨((1:Int)<(T.size:Int)∧(((T[0]'h0t).toNat:Int) == 48)=false):=by
   by_cases hl1:1<T.size
   ·right
    refine⟨by omega,?_⟩
    rw[beq_eq_false_iff_ne]
    intro e
    apply hz
    refine⟨?_,by rw[hlen];exact hl1⟩
    rw[List.head?_eq_getElem?,hat]
    have e2:(T[0]'h0t).toNat=(48:UInt8).toNat:=by have:((T[0]'h0t).toNat:Int)=48:=e;show _=48;omega
    rw[UInt8.toNat_inj.1 e2]
   ·left;omega
  have hcall:∀ W,Below w.heap.size w W→∃ (v:Int) (ev:Value),(ev=.nilIface∧V=T.size∨(∃ t x,ev=.iface t x)∧V=0)∧Calls Tryz.prog 191 #[.string T,.int .i64 10,.int .i64 32] W fun e w'=>∃ ev',e=.returned (.tuple #[.int .i64 v,ev'])∧(ev=.nilIface↔ev'=.nilIface)∧((∃ t x,ev=.iface t x)↔∃ t x,ev'=.iface t x)∧Below W.heap.size W w':=by
   intro W hbW
   have hEW:qC W:=jR hE hbW
   cases hb:(T.data.toList.all cJ&&pC T.data.toList)with
   | true=>
    obtain⟨v,hv⟩:=P.1 hb
    refine⟨v,.nilIface,.inl ⟨rfl,by rw[←hV,hb,if_pos rfl,hts]⟩,(strconv_ParseInt_10_at32_ok T (by omega) v hv W).mono ?_⟩
    rintro e w' ⟨rfl,hw⟩
    refine⟨_,rfl,Iff.rfl,Iff.rfl,?_⟩
    rcases hw with rfl | ⟨t,rfl⟩
    ·exact Below.refl _ _
    ·exact Lib.bytesWorld_below _ _ _
   | false=>
    have jS:V=0:=by rw[←hV,hb];rfl
    rcases P.2 hb with hp | hp
    ·obtain⟨ev,h1,h2⟩:=hEW.1
     refine⟨0,.iface 0 .nilIface,.inr ⟨⟨_,_,rfl⟩,jS⟩,(strconv_ParseInt_10_at32_syntax T (by omega) hp ev W h1 h2).mono ?_⟩
     rintro e w' ⟨N,rfl,_,_,hb⟩
     exact⟨_,rfl,by simp,by simp,hb⟩
    ·obtain⟨ev,h1,h2⟩:=hEW.2
     refine⟨Lib.intSat 32 T.data.toList,.iface 0 .nilIface,.inr ⟨⟨_,_,rfl⟩,jS⟩,(strconv_ParseInt_10_at32_range T (by omega) hp ev W h1 h2).mono ?_⟩
     rintro e w' ⟨N,rfl,_,_,hb⟩
     exact⟨_,rfl,by simp,by simp,hb⟩
  have HCA:Hid (∀ W,Below w.heap.size w W→∃ (v:Int) (ev:Value),(ev=.nilIface∧V=T.size∨(∃ t x,ev=.iface t x)∧V=0)∧Calls Tryz.prog 191 #[.string T,.int .i64 10,.int .i64 32] W fun e w'=>∃ ev',e=.returned (.tuple #[.int .i64 v,ev'])∧(ev=.nilIface↔ev'=.nilIface)∧((∃ t x,ev=.iface t x)↔∃ t x,ev'=.iface t x)∧Below W.heap.size W w'):=hcall
  clear hcall P hV hz hat hlen hne hd'
  go_enter Tryz.func152,Tryz.ntmps152
  go_wp2_with fail
  refine hR.mono ?_
  rintro e w1 ⟨rfl,hb1⟩
  clear hR
  obtain⟨v,ev,hev,hC⟩:=HCA.out w1 hb1
  clear HCA
  rcases hzc with hz | ⟨hz1,hz2⟩
  all_goals
   go_wp2_with fail
   refine hC.mono ?_
   rintro e w2 ⟨ev',rfl,q1,q2,hb2⟩
   have hb3:=hb1.trans (hb2.mono hb1.size)
   clear hC hb1 hb2
   rcases hev with ⟨hn,hV⟩ | ⟨hn,hV⟩
   ·obtain rfl:=q1.1 hn
    have HV:Hid (V=T.size):=hV
    clear q1 q2 hV hn
    go_wp2_with fail
    go_ret
    exact⟨tM (by rw[HV.out];omega),hb3⟩
   ·obtain⟨t,x,rfl⟩:=q2.1 hn
    have HV:Hid (V=0):=hV
    clear q1 q2 hV hn
    go_wp2_with fail
    go_ret
    exact⟨tM (by rw[HV.out];rfl),hb3⟩
theorem zA (w:World) (a:Obj) (x y:Value) (t:TypeId):((w.alloc a).alloc (.cells #[x,y] t)).cell? ⟨w.heap.size+1,0,none⟩=some x∧((w.alloc a).alloc (.cells #[x,y] t)).cell? ⟨w.heap.size+1,1,none⟩=some y:=by
 have h:((w.alloc a).alloc (.cells #[x,y] t)).heap[w.heap.size+1]? = some (.cells #[x,y] t):=by
  have:(w.heap.push a).size=w.heap.size+1:=by simp
  show ((w.heap.push a).push _)[w.heap.size+1]? = _
  rw[Array.getElem?_push,if_pos this.symm]
 generalize (w.alloc a).alloc (.cells #[x,y] t)=W at *
 constructor <;> simp[World.cell?,h]
set_option maxHeartbeats 2000000 in
theorem kN (line col:Nat) (r:Int) (w:World) (hl:line≤1000000) (hc:col≤1000000) :
  Calls Tryz.prog 111 #[.agg #[.int .i64 (line:Int),.int .i64 (col:Int)],.int .i32 r] w fun e w'=>
   e=.returned (.agg #[.int .i64 ((if r=10 then line+1 else line:Nat):Int),.int .i64 ((if r=10 then 1 else col+1:Nat):Int)])∧Below w.heap.size w w':=by
 have hw1:=eE line (by omega)
 have hw2:=eE col (by omega)
 by_cases h:r=10
 ·subst h
  rw[if_pos rfl,if_pos rfl]
  obtain⟨r0,r1⟩:=zA w (.cells #[.int .i64 (line:Int),.int .i64 (col:Int)] 31) (.int .i64 ((line:Int)+1)) (.int .i64 1) 31
  go_enter Tryz.func111,Tryz.ntmps111
  go_wp2_with fail
  refine bodyPost_ret (v:=.agg #[.int .i64 ((line:Int)+1),.int .i64 1]) (by simp[results,Tryz.results111,go_sem,r0,r1]) rfl ⟨rfl,?_⟩
  exact((Below.refl _ w).alloc (Nat.le_refl _) _).alloc (by simp) _
 ·have h':(r == 10)=false:=by simpa using h
  rw[if_neg h,if_neg h]
  clear h
  obtain⟨r0,r1⟩:=zA w (.cells #[.int .i64 (line:Int),.int .i64 (col:Int)] 31) (.int .i64 (line:Int)) (.int .i64 ((col:Int)+1)) 31
  go_enter Tryz.func111,Tryz.ntmps111
  go_wp2_with fail
  refine bodyPost_ret (v:=.agg #[.int .i64 (line:Int),.int .i64 ((col:Int)+1)]) (by simp[results,Tryz.results111,go_sem,r0,r1]) rfl ⟨rfl,?_⟩
  exact((Below.refl _ w).alloc (Nat.le_refl _) _).alloc (by simp) _
set_option maxHeartbeats 4000000 in
theorem Oo (s:ByteArray) (r:Int) (w:World) (hE:qC w) (hs:s.size≤1048576) (hne:s.data.toList≠[]) (hr:rn s.data.toList=r) :
  Calls Tryz.prog 110 #[.string s,.int .i32 r] w fun e w'=>e=.returned (.tuple #[.int .i64 (cD s.data.toList).1,.int .i64 ((cD s.data.toList).2:Int)])∧Below w.heap.size w w':=by
 obtain⟨K,hK⟩:∃ K,(cD s.data.toList).1=K:=⟨_,rfl⟩
 obtain⟨N,hN⟩:∃ N,(cD s.data.toList).2=N:=⟨_,rfl⟩
 rw[hK,hN]
 have hB:=Below.refl w.heap.size w
 by_cases hb:r=32∨r=9∨r=10
 ·have e:cD s.data.toList=(0,1):=by unfold cD;rw[hr,if_pos hb]
  have HV:Hid (0=K∧(1:Int)=(N:Int)):=by refine(?_:_∧_);rw[←hK,←hN,e];exact⟨rfl,rfl⟩
  clear hK hN e hr
  rcases hb with rfl | rfl | rfl
  all_goals
   go_enter Tryz.func110,Tryz.ntmps110
   go_wp2_with fail
   go_ret2
   exact⟨sQ HV.out.1 HV.out.2,hB⟩
 by_cases h47:r=47
 ·subst h47
  have e:cD s.data.toList=(0,uK s.data.toList):=by unfold cD;rw[hr,if_neg hb,if_pos rfl]
  have hR:=El s w hs (Zs _ hne 47 (by decide) hr)
  have HV:Hid (0=K∧(uK s.data.toList:Int)=(N:Int)):=by refine(?_:_∧_);rw[←hK,←hN,e];exact⟨rfl,rfl⟩
  clear hK hN e hr hb
  generalize (uK s.data.toList:Int)=R at *
  go_enter Tryz.func110,Tryz.ntmps110
  go_wp2_with fail
  refine hR.mono ?_
  rintro e w1 ⟨rfl,h1⟩
  have h1:=h1.symm
  subst h1
  go_wp2_with fail
  go_ret2
  exact⟨sQ HV.out.1 HV.out.2,hB⟩
 by_cases hsg:kK r=true
 ·have e:cD s.data.toList=(3,1):=by unfold cD;rw[hr,if_neg hb,if_neg h47,if_pos hsg]
  have HV:Hid (3=K∧(1:Int)=(N:Int)):=by refine(?_:_∧_);rw[←hK,←hN,e];exact⟨rfl,rfl⟩
  clear hK hN e hr hb h47
  simp only[kK,decide_eq_true_iff]at hsg
  rcases hsg with rfl | rfl | rfl | rfl | rfl | rfl | rfl
  all_goals
   go_enter Tryz.func110,Tryz.ntmps110
   go_wp2_with fail
   go_ret2
   exact⟨sQ HV.out.1 HV.out.2,hB⟩
 have hn:(r == 32)=false∧(r == 9)=false∧(r == 10)=false∧(r == 47)=false∧(r == 123)=false∧(r == 125)=false∧(r == 40)=false∧(r == 41)=false∧(r == 61)=false∧(r == 59)=false∧(r == 46)=false:=by
  have bCq:¬(r=123∨r=125∨r=40∨r=41∨r=61∨r=59∨r=46):=fun h=>hsg (by simp only[kK,decide_eq_true_iff];exact h)
  simp only[beq_eq_false_iff_ne]
  omega
 obtain⟨n1,n2,n3,n4,n5,n6,n7,n8,n9,n10,n11⟩:=hn
 have Yf:=fun W=>qB r W
 have Zr:=fun W=>wE r W
 obtain⟨m,hm⟩:∃ m,s.size=m+1:=⟨s.size - 1,by
  have:=bC s
  have h0:0<s.data.toList.length:=List.length_pos_iff.2 hne
  omega⟩
 have hnm:=Ba _ hne
 rw[hr]at hnm
 by_cases hL:bH r=true
 ·have e:cD s.data.toList=(1,if nameOf (runes ⟨(s.data.toList.take (bE s.data.toList.length s.data.toList).1).toArray⟩)=true then (bE s.data.toList.length s.data.toList).1 else 0):=by
   unfold cD;rw[hr,if_neg hb,if_neg h47,if_neg hsg,if_pos hL]
  have hR:=On s w hs
  rw[hL]at Yf
  generalize (if nameOf (runes ⟨(s.data.toList.take (bE s.data.toList.length s.data.toList).1).toArray⟩)=true then (bE s.data.toList.length s.data.toList).1 else 0)=R at *
  have HV:Hid (1=K∧(R:Int)=(N:Int)):=by refine(?_:_∧_);rw[←hK,←hN,e];exact⟨rfl,rfl⟩
  clear hK hN e hr hb h47 hsg hL hnm Zr hm
  go_enter Tryz.func110,Tryz.ntmps110
  go_wp2_with fail
  refine(Yf _).mono ?_
  rintro e w1 ⟨rfl,h1⟩
  have h1:=h1.symm
  subst h1
  go_wp2_with fail
  refine hR.mono ?_
  rintro e w2 ⟨rfl,hb2⟩
  go_wp2_with fail
  go_ret2
  exact⟨sQ HV.out.1 HV.out.2,hb2⟩
 by_cases hD:isDigit r=true
 ·have e:cD s.data.toList=(2,if ((s.data.toList.take (bE s.data.toList.length s.data.toList).1).all cJ&&pC (s.data.toList.take (bE s.data.toList.length s.data.toList).1))=true then (bE s.data.toList.length s.data.toList).1 else 0):=by
   unfold cD;rw[hr,if_neg hb,if_neg h47,if_neg hsg,if_neg hL,if_pos hD]
  have hdr:48≤r∧r≤57:=by simpa [isDigit]using hD
  have hhd:cJ (s.data.toList.headD 0)=true:=by
   have hn:=(tL _ hne r (by omega) (by omega)).1 hr
   revert hn
   cases hl:s.data.toList with
   | nil=>exact absurd hl hne
   | cons b t=>
    intro hn
    by_cases hbb:b.toNat<128
    ·rw[jL b t hbb]at hn
     have hn':(b.toNat:Int)=r:=hn
     show cJ b=true
     simp only[cJ,decide_eq_true_iff]
     omega
    ·have:=qY b t (by omega)
     omega
  have hp1:=(nJ m s.data.toList hne (by rw[←hnm.1];unfold aK;rw[hD];simp)).1
  rw[←hm]at hp1
  have hR:=Em s w hE hs hp1 hhd
  have hL':bH r=false:=by simpa using hL
  rw[hL']at Yf
  rw[hD]at Zr
  generalize (if ((s.data.toList.take (bE s.data.toList.length s.data.toList).1).all cJ&&pC (s.data.toList.take (bE s.data.toList.length s.data.toList).1))=true then (bE s.data.toList.length s.data.toList).1 else 0)=R at *
  have HV:Hid (2=K∧(R:Int)=(N:Int)):=by refine(?_:_∧_);rw[←hK,←hN,e];exact⟨rfl,rfl⟩
  clear hK hN e hr hb h47 hsg hL hL' hnm hm hdr hhd hp1 hD
  go_enter Tryz.func110,Tryz.ntmps110
  go_wp2_with fail
  refine(Yf _).mono ?_
  rintro e w1 ⟨rfl,h1⟩
  have h1:=h1.symm
  subst h1
  go_wp2_with fail
  refine(Zr _).mono ?_
  rintro e w1 ⟨rfl,h1⟩
  have h1:=h1.symm
  subst h1
  go_wp2_with fail
  refine hR.mono ?_
  rintro e w2 ⟨rfl,hb2⟩
  go_wp2_with fail
  go_ret2
  exact⟨sQ HV.out.1 HV.out.2,hb2⟩
 ·have e:cD s.data.toList=(0,0):=by unfold cD;rw[hr,if_neg hb,if_neg h47,if_neg hsg,if_neg hL,if_neg hD]
  have HV:Hid (0=K∧(0:Int)=(N:Int)):=by refine(?_:_∧_);rw[←hK,←hN,e];exact⟨rfl,rfl⟩
  have hL':bH r=false:=by simpa using hL
  have hD':isDigit r=false:=by simpa using hD
  rw[hL']at Yf
  rw[hD']at Zr
  clear hK hN e hr hb h47 hsg hL hL' hnm hm hD hD'
  go_enter Tryz.func110,Tryz.ntmps110
  go_wp2_with fail
  refine(Yf _).mono ?_
  rintro e w1 ⟨rfl,h1⟩
  have h1:=h1.symm
  subst h1
  go_wp2_with fail
  refine(Zr _).mono ?_
  rintro e w1 ⟨rfl,h1⟩
  have h1:=h1.symm
  subst h1
  go_wp2_with fail
  go_ret2
  exact⟨sQ HV.out.1 HV.out.2,hB⟩
def lJ (x:Wd):List Value:=[.int .i64 x.kind,.string (aC x.text),.int .i64 (x.line:Int),.int .i64 (x.col:Int)]
theorem aKh:(Tryz.prog.info? 191).map (fun i=>(i.zero,i.size,i.bytes))=some (some (.agg #[.int .i64 0,.string ⟨#[]⟩,.int .i64 0,.int .i64 0]),4,40):=by kernel_rfl
def En (w:World) (base:Nat) (v:Value) (xs:List Wd):Prop:=w.ownsRow base 191 4 v xs.length (xs.flatMap lJ)
theorem wF {w:World} {base:Nat} {v:Value} {xs:List Wd} (h:En w base v xs):∀ k,v.ownBlock=some k→base≤k:=by
 intro k hk
 obtain⟨_,⟨rfl,_⟩ | ⟨g,cap,cur,rfl,hg,_⟩⟩:=h
 ·simp[Value.ownBlock]at hk
 ·simp[Value.ownBlock]at hk;omega
theorem Iv {w:World} {base:Nat} {v:Value} {xs:List Wd} (h:En w base v xs):∃ a c,v=.slice a xs.length c:=by
 obtain⟨_,⟨rfl,h0⟩ | ⟨g,cap,cur,rfl,_⟩⟩:=h
 ·exact⟨none,0,by rw[h0]⟩
 ·exact⟨_,_,rfl⟩
theorem oU {w w':World} {base:Nat} {v:Value} {xs:List Wd} (h:En w base v xs) (hh:∀ (k:Nat) (o:Obj),base≤k→w.heap[k]? = some o→w'.heap[k]? = some o):En w' base v xs:=by
 obtain⟨h1,h2 | ⟨g,cap,cur,hv,hg,hhp,r⟩⟩:=h
 ·exact⟨h1,.inl h2⟩
 ·exact⟨h1,.inr ⟨g,cap,cur,hv,hg,hh g _ hg hhp,r⟩⟩

structure Sd (w0 w:World) (B:Nat) (s:ByteArray) (p line col:Nat) (v:Value) (acc:List Wd):Prop where
 ans:w.heap[B]? = some (.cells #[.int .i64 0,.int .i64 0] 31 (0,0))
 pos:w.heap[B+1]? = some (.cells #[.int .i64 (line:Int),.int .i64 (col:Int)] 31 (0,0))
 it:w.heap[B+2]? = some (.stringIter s p)
 own:En w (B+3) v acc
 below:Below B w0 w
section
variable {w0 w:World} {B:Nat} {s:ByteArray} {p line col:Nat} {v:Value} {acc:List Wd}
theorem Sd.size (h:Sd w0 w B s p line col v acc):B+3≤w.heap.size:=by
 have:=(Array.getElem?_eq_some_iff.1 h.it).1;omega
theorem Sd.old {w':World} (h:Sd w0 w B s p line col v acc) (hb:Below w.heap.size w w'):Sd w0 w' B s p line col v acc:=by
 have hsz:=h.size
 refine⟨by rw[hb.block B (by omega)];exact h.ans,by rw[hb.block (B+1) (by omega)];exact h.pos,by rw[hb.block (B+2) (by omega)];exact h.it,?_,h.below.trans (hb.mono (by omega))⟩
 exact oU h.own fun k o _ hk=>by rw[hb.block k (Array.getElem?_eq_some_iff.1 hk).1];exact hk
theorem Sd.cells (h:Sd w0 w B s p line col v acc) :
  w.cell? ⟨B+1,0,none⟩=some (.int .i64 (line:Int))∧w.cell? ⟨B+1,1,none⟩=some (.int .i64 (col:Int))∧w.frozen? ⟨B+1,0,none⟩=false∧w.frozen? ⟨B+1,1,none⟩=false∧
  w.cell? ⟨B,0,none⟩=some (.int .i64 0)∧w.cell? ⟨B,1,none⟩=some (.int .i64 0)∧w.frozen? ⟨B,0,none⟩=false∧w.frozen? ⟨B,1,none⟩=false:=by
 simp[World.cell?,World.frozen?,h.pos,h.ans]
theorem Sd.iterPos (h:Sd w0 w B s p line col v acc):w.iterPos (B+2)=p:=by simp[World.iterPos,h.it]
theorem Sd.alloc (h:Sd w0 w B s p line col v acc) (o:Obj):Sd w0 (w.alloc o) B s p line col v acc:=h.old ((Below.refl _ w).alloc (Nat.le_refl _) o)
theorem Sd.drew (h:Sd w0 w B s p line col v acc):Sd w0 w.drew B s p line col v acc:=⟨h.ans,h.pos,h.it,h.own,h.below.drew⟩
theorem Sd.next (h:Sd w0 w B s p line col v acc) (q:Nat):Sd w0 (w.iterAt (B+2) s q) B s q line col v acc:=by
 refine⟨by rw[Lib.iterAt_other _ _ _ _ _ (by omega)];exact h.ans,by rw[Lib.iterAt_other _ _ _ _ _ (by omega)];exact h.pos,Lib.iterAt_heap _ _ _ _ _ h.it,?_,Lib.below_iterAt h.below (by omega) _ _⟩
 exact oU h.own fun k o hk hko=>by rw[Lib.iterAt_other _ _ _ _ _ (by omega)];exact hko
theorem Sd.place (h:Sd w0 w B s p line col v acc) (line' col':Nat):Sd w0 ((w.setCell ⟨B+1,0,none⟩ (.int .i64 (line':Int))).setCell ⟨B+1,1,none⟩ (.int .i64 (col':Int))) B s p line' col' v acc:=by
 have h1:(w.setCell ⟨B+1,0,none⟩ (.int .i64 (line':Int))).heap[B+1]? = some (.cells #[.int .i64 (line':Int),.int .i64 (col:Int)] 31 (0,0)):=by
  rw[setCell_eq_setRow _ _ _ _ _ _ _ h.pos,setRow_heap w (B+1) _ _ _ _ h.pos];rfl
 have h2:((w.setCell ⟨B+1,0,none⟩ (.int .i64 (line':Int))).setCell ⟨B+1,1,none⟩ (.int .i64 (col':Int))).heap[B+1]? = some (.cells #[.int .i64 (line':Int),.int .i64 (col':Int)] 31 (0,0)):=by
  rw[setCell_eq_setRow _ _ _ _ _ _ _ h1,setRow_heap _ (B+1) _ _ _ _ h1];rfl
 have ho:∀ k,k≠B+1→((w.setCell ⟨B+1,0,none⟩ (.int .i64 (line':Int))).setCell ⟨B+1,1,none⟩ (.int .i64 (col':Int))).heap[k]? = w.heap[k]?:=fun k hk=>by
  rw[Below.heap_setCell _ _ _ _ hk,Below.heap_setCell _ _ _ _ hk]
 refine⟨by rw[ho B (by omega)];exact h.ans,h2,by rw[ho (B+2) (by omega)];exact h.it,oU h.own fun k o hk hko=>by rw[ho k (by omega)];exact hko,?_⟩
 exact(h.below.setCell (p:=⟨B+1,0,none⟩) (by show B≤B+1;omega) _).setCell (p:=⟨B+1,1,none⟩) (by show B≤B+1;omega) _
theorem Sd.final (h:Sd w0 w B s p line col v acc) (x y:Value) :
  ((w.setCell ⟨B,0,none⟩ x).setCell ⟨B,1,none⟩ y).cell? ⟨B,0,none⟩=some x∧((w.setCell ⟨B,0,none⟩ x).setCell ⟨B,1,none⟩ y).cell? ⟨B,1,none⟩=some y∧
  En ((w.setCell ⟨B,0,none⟩ x).setCell ⟨B,1,none⟩ y) (B+3) v acc∧Below B w0 ((w.setCell ⟨B,0,none⟩ x).setCell ⟨B,1,none⟩ y):=by
 have h1:(w.setCell ⟨B,0,none⟩ x).heap[B]? = some (.cells #[x,.int .i64 0] 31 (0,0)):=by
  rw[setCell_eq_setRow _ _ _ _ _ _ _ h.ans,setRow_heap w B _ _ _ _ h.ans];rfl
 have h2:((w.setCell ⟨B,0,none⟩ x).setCell ⟨B,1,none⟩ y).heap[B]? = some (.cells #[x,y] 31 (0,0)):=by
  rw[setCell_eq_setRow _ _ _ _ _ _ _ h1,setRow_heap _ B _ _ _ _ h1];rfl
 have ho:∀ k,k≠B→((w.setCell ⟨B,0,none⟩ x).setCell ⟨B,1,none⟩ y).heap[k]? = w.heap[k]?:=fun k hk=>by
  rw[Below.heap_setCell _ _ _ _ hk,Below.heap_setCell _ _ _ _ hk]
 refine⟨by simp[World.cell?,h2],by simp[World.cell?,h2],oU h.own fun k o hk hko=>by rw[ho k (by omega)];exact hko,?_⟩
 exact(h.below.setCell (p:=⟨B,0,none⟩) (Nat.le_refl _) x).setCell (p:=⟨B,1,none⟩) (Nat.le_refl _) y
theorem Sd.push (h:Sd w0 w B s p line col v acc) (r:Wd) {ops:Array Oper} {o:Oper} {a:Act} {K:Act→World→Prop} {Q:Exit→Act→World→Prop} {E:Prop} (hgd:o.guard=none) (s' x':Operand)
  (ho:o.op=.call { callee:=.builtin .append,args:=#[s',x'],argTypes:=#[140,140] })
  (cs:Array Value) (hcs:cs=(lJ r).toArray) (hs:a.eval s'=v) (hx:a.eval x'=.slice (some ⟨w.heap.size,0,none⟩) 1 1) (hbd:acc.length≤4000)
  (hk:∀ g cap W,Sd w0 W B s p line col (.slice (some ⟨g,0,none⟩) (acc.length+1) cap) (acc++[r])→K (a.put o.dst (.slice (some ⟨g,0,none⟩) (acc.length+1) cap)) W) :
  if Region.wanted o (yielded ops a.tmps)=true then Oper.wp Tryz.prog o a (w.alloc (.cells cs 191)) K Q else E:=by
 subst hcs
 have hsz:=h.size
 have ha:=h.alloc (.cells (lJ r).toArray 191)
 obtain⟨i0,hi,hz0,hz1,hz2⟩:=info_parts aKh
 refine step_append_lies _ hgd s' x' 140 ho (B+3) 191 i0 _ 4 40 Tryz.underlying140 hi hz0 hz1 hz2 rfl (by decide) v acc.length (acc.flatMap lJ) hs ha.own ⟨w.heap.size,0,none⟩ 1 1 (lJ r) hx rfl ?_ ?_ (by decide) (by unfold maxLen;omega) (by omega) (by simp;omega) _ rfl ?_
 ·exact World.news_of_block (cs:=(lJ r).toArray) (t:=191) (fr:=(0,0)) (by show (w.heap.push _)[w.heap.size]? = _;simp)
 ·intro u hu
  simp only[lJ,List.mem_cons,List.not_mem_nil,or_false]at hu
  rcases hu with rfl | rfl | rfl | rfl <;> rfl
 ·intro g cap W hown hg _ _
  refine hk g cap W ?_
  have hb:∀ k,k<B+3→W.heap[k]? = (w.alloc (.cells (lJ r).toArray 191)).heap[k]?:=fun k hk=>hg.block k (by simp;omega) (fun e=>by have:=wF h.own k e.symm;omega)
  refine⟨by rw[hb B (by omega)];exact ha.ans,by rw[hb (B+1) (by omega)];exact ha.pos,by rw[hb (B+2) (by omega)];exact ha.it,?_,ha.below.grown hg (by simp;omega) (fun k hk=>by have:=wF h.own k hk;omega)⟩
  unfold En
  rw[List.length_append,List.flatMap_append]
  simpa using hown
end
theorem Sd.start (w:World) (s:ByteArray):Sd w (((w.alloc (.cells #[.int .i64 0,.int .i64 0] 31)).alloc (.cells #[.int .i64 1,.int .i64 1] 31)).iter s 0) w.heap.size s 0 1 1 (.slice none 0 0) []:=by
 have e1:(w.alloc (.cells #[.int .i64 0,.int .i64 0] 31)).heap.size=w.heap.size+1:=by simp
 have e2:((w.alloc (.cells #[.int .i64 0,.int .i64 0] 31)).alloc (.cells #[.int .i64 1,.int .i64 1] 31)).heap.size=w.heap.size+2:=by simp
 have h0:(w.alloc (.cells #[.int .i64 0,.int .i64 0] 31)).heap[w.heap.size]? = some (.cells #[.int .i64 0,.int .i64 0] 31 (0,0)):=by
  show (w.heap.push _)[w.heap.size]? = _;simp
 have b1:=(Below.refl _ (w.alloc (.cells #[.int .i64 0,.int .i64 0] 31))).alloc (Nat.le_refl _) (.cells #[.int .i64 1,.int .i64 1] 31)
 have h1:((w.alloc (.cells #[.int .i64 0,.int .i64 0] 31)).alloc (.cells #[.int .i64 1,.int .i64 1] 31)).heap[w.heap.size+1]? = some (.cells #[.int .i64 1,.int .i64 1] 31 (0,0)):=by
  rw[←e1]
  generalize w.alloc (.cells #[.int .i64 0,.int .i64 0] 31)=W
  show (W.heap.push _)[W.heap.size]? = _;simp
 have bw:Below w.heap.size w ((w.alloc (.cells #[.int .i64 0,.int .i64 0] 31)).alloc (.cells #[.int .i64 1,.int .i64 1] 31)):=((Below.refl _ w).alloc (Nat.le_refl _) _).alloc (by simp) _
 have h0':((w.alloc (.cells #[.int .i64 0,.int .i64 0] 31)).alloc (.cells #[.int .i64 1,.int .i64 1] 31)).heap[w.heap.size]? = some (.cells #[.int .i64 0,.int .i64 0] 31 (0,0)):=by
  rw[b1.block w.heap.size (by rw[e1];omega)];exact h0
 generalize (w.alloc (.cells #[.int .i64 0,.int .i64 0] 31)).alloc (.cells #[.int .i64 1,.int .i64 1] 31)=W at *
 have bi:Below W.heap.size W (W.iter s 0):=(Below.refl _ W).alloc (Nat.le_refl _) _
 refine⟨by rw[bi.block _ (by omega)];exact h0',by rw[bi.block _ (by omega)];exact h1,?_,World.ownsRow_nil _ _ _ _,bw.trans (bi.mono (by omega))⟩
 rw[←e2];exact World.iter_heap W s 0
def aCo (w:World) (ad:Option Addr) (ws:List Wd):Prop:=
 ws=[]∨∃ g,ad=some ⟨g,0,none⟩∧∀ (j:Nat) (x:Wd),ws[j]? = some x→w.cell? ⟨g,j*4,none⟩=some (.int .i64 x.kind)∧w.cell? ⟨g,j*4+1,none⟩=some (.string (aC x.text))∧
  w.cell? ⟨g,j*4+2,none⟩=some (.int .i64 (x.line:Int))∧w.cell? ⟨g,j*4+3,none⟩=some (.int .i64 (x.col:Int))
def aRj (a:List Wd × (Nat × Nat) × Int) (e:Ending) (w':World):Prop:=
 ∃ (ad:Option Addr) (c:Nat) (pl pc:Int),e=.returned (.tuple #[.slice ad a.1.length c,.agg #[.int .i64 pl,.int .i64 pc],.int .i64 a.2.2])∧aCo w' ad a.1∧a.1.length≤c∧(a.2.2≠0→pl=(a.2.1.1:Int)∧pc=(a.2.1.2:Int))
theorem nQ:∀ (f:Nat) (l:List UInt8) (line col:Nat) (acc:List Wd),(dV f l line col acc).2.2≠0→(dV f l line col acc).1=[]
 | 0,l,line,col,acc,h=>absurd rfl h
 | f+1,l,line,col,acc,h=>by
  by_cases h0:l=[]
  ·subst h0;rw[nI]at h;exact absurd rfl h
  ·by_cases h10:(nx l).1=10
   ·rw[lC f l _ _ _ h0 h10]at h ⊢;exact nQ f _ _ _ _ h
   ·by_cases hb:(nx l).1=32∨(nx l).1=9
    ·rw[jM f l _ _ _ h0 hb]at h ⊢;exact nQ f _ _ _ _ h
    ·by_cases hr:(nx l).1=47∧l[1]? = some 47
     ·rw[iJ f l _ _ _ h0 hr.1 hr.2]at h ⊢;exact nQ f _ _ _ _ h
     ·rw[lD f l _ _ _ ⟨h0,h10,fun h=>hb (.inl h),fun h=>hb (.inr h),hr⟩]at h ⊢
      by_cases c1:fR (headW l).1 (l.take (headW l).2.1) (nx l).1=false
      ·rw[if_pos c1]
      ·rw[if_neg c1]at h ⊢
       by_cases c2:acc.length=4000
       ·rw[if_pos c2]
       ·rw[if_neg c2]at h ⊢
        exact nQ f _ _ _ _ h
theorem Oq (l:List UInt8) (h:(cG l).2.2≠0):(cG l).1=[]:=by
 unfold cG at h ⊢
 split
 ·rfl
 ·rename_i c;rw[if_neg c]at h;exact nQ _ _ _ _ _ h
end Go.Proofs.YtpojeinddnjpfaaGreatDoor
