/-
  Walks and plain words (VdB).
-/
import Derived.Test.YteajlfgbmefncaaGreatDoorN34
import Derived.Lib.SmallJoins
import Derived.Deep.RegionHeldLaw
import Derived.BigQuiet
import Derived.Deep.QuietTactic
import Derived.Defers
import Derived.Recover
import Derived.Laws.Pointers
import Derived.Lib.IfaceEq
import Derived.Lib.ValidAsc
import Derived.Lib.EndianBits
import Derived.Test.YteajlfgbmefncaaGreatDoorN12
import Derived.Laws.BitsAllLaws
import Derived.Deep.LoopGhost
import Derived.Deep.DeepMust
import Derived.Deep.CutBlock
import Derived.Deep.DeepCutAuto
import Derived.Shelf.Unicode.ValidAny
namespace Go.Proofs.YteajlfgbmefncaaGreatDoor
set_option linter.unusedVariables false
open Go.ChangeShapes Go.WideShapes Go.ChangeAt Go.RowKit
def CB (W:World) (g o:Nat) (t:ByteArray):Prop:=∀ j,j<t.size→W.cell? ⟨g,o+j,none⟩=some (.int .u8 ((t.get! j).toNat:Int))
theorem CB.at {W:World} {g o:Nat} {t:ByteArray} (h:CB W g o t) {j:Nat} (hj:j<t.size) {x:UInt8} (hx:t.get! j=x):W.cell? ⟨g,o+j,none⟩=some (.int .u8 (x.toNat:Int)):=by rw[←hx];exact h j hj
theorem CB.drewN {W:World} {g o:Nat} {t:ByteArray} (h:CB W g o t) (q:Nat):CB (W.drewN q) g o t:=fun j hj=>by
 have:(W.drewN q).cell? ⟨g,o+j,none⟩=W.cell? ⟨g,o+j,none⟩:=by simp
 rw[this];exact h j hj
set_option maxHeartbeats 8000000 in
set_option maxRecDepth 100000 in
theorem wordB_any (g o n c:Nat) (t:ByteArray) (w:World) (hn:t.size=n) (h8:8≤n) (hC:CB w g o t) :
  Calls Tryz.prog 94 #[.slice (some ⟨g,o,none⟩) n c] w fun e w'=>e=.returned (.int .u64 (Lib.leNat [t.get! 0,t.get! 1,t.get! 2,t.get! 3,t.get! 4,t.get! 5,t.get! 6,t.get! 7]))∧∃ q,w'=w.drewN q:=by
 obtain⟨x0,hx0⟩:∃ x,t.get! 0=x:=⟨_,rfl⟩
 obtain⟨x1,hx1⟩:∃ x,t.get! 1=x:=⟨_,rfl⟩
 obtain⟨x2,hx2⟩:∃ x,t.get! 2=x:=⟨_,rfl⟩
 obtain⟨x3,hx3⟩:∃ x,t.get! 3=x:=⟨_,rfl⟩
 obtain⟨x4,hx4⟩:∃ x,t.get! 4=x:=⟨_,rfl⟩
 obtain⟨x5,hx5⟩:∃ x,t.get! 5=x:=⟨_,rfl⟩
 obtain⟨x6,hx6⟩:∃ x,t.get! 6=x:=⟨_,rfl⟩
 obtain⟨x7,hx7⟩:∃ x,t.get! 7=x:=⟨_,rfl⟩
 have c0:w.cell? ⟨g,o,none⟩=some (.int .u8 (x0.toNat:Int)):=hC.at (j:=0) (by omega) hx0
 have c1:=hC.at (j:=1) (by omega) hx1
 have c2:=hC.at (j:=2) (by omega) hx2
 have c3:=hC.at (j:=3) (by omega) hx3
 have c4:=hC.at (j:=4) (by omega) hx4
 have c5:=hC.at (j:=5) (by omega) hx5
 have c6:=hC.at (j:=6) (by omega) hx6
 have c7:=hC.at (j:=7) (by omega) hx7
 have b0:=x0.toNat_lt;have b1:=x1.toNat_lt;have b2:=x2.toNat_lt;have b3:=x3.toNat_lt
 have b4:=x4.toNat_lt;have b5:=x5.toNat_lt;have b6:=x6.toNat_lt;have b7:=x7.toNat_lt
 rw[hx0,hx1,hx2,hx3,hx4,hx5,hx6,hx7]
 have hv:((Lib.leNat [x0,x1,x2,x3,x4,x5,x6,x7]:Nat):Int)=(x0.toNat:Int)+(x1.toNat:Int)*256+(x2.toNat:Int)*65536+(x3.toNat:Int)*16777216+(x4.toNat:Int)*4294967296+(x5.toNat:Int)*1099511627776+(x6.toNat:Int)*281474976710656+(x7.toNat:Int)*72057594037927936:=by
  simp only[Lib.leNat]
  push_cast
  omega
 have q0:(0:Int)<(n:Int):=by omega
 have q1:(1:Int)<(n:Int):=by omega
 have q2:(2:Int)<(n:Int):=by omega
 have q3:(3:Int)<(n:Int):=by omega
 have q4:(4:Int)<(n:Int):=by omega
 have q5:(5:Int)<(n:Int):=by omega
 have q6:(6:Int)<(n:Int):=by omega
 have q7:(7:Int)<(n:Int):=by omega
 clear hC hx0 hx1 hx2 hx3 hx4 hx5 hx6 hx7 hn
 go_enter Tryz.func94,Tryz.ntmps94
 go_wp2
 go_quiet (fail)
 go_wp2
 go_ret
 refine⟨?_,_,rfl⟩
 simp (disch:=omega) only [u64_or8,u64_or16,u64_or24,u64_or32,u64_or40,u64_or48,u64_or56]
 rw[hv]
 rfl

theorem ext_get (t:ByteArray) (k j:Nat):(t.extract k t.size).get! j=t.get! (k+j):=by
 rw[←Lib.getD_get!',Lib.ext_list,←Lib.getD_get!']
 simp[List.getD_eq_getElem?_getD]
theorem CB.cut {w:World} {g o:Nat} {t:ByteArray} (h:CB w g o t) (k:Nat):CB w g (o+k) (t.extract k t.size):=fun j hj=>by
 rw[Lib.ext_size]at hj
 rw[ext_get,Nat.add_assoc]
 exact h (k+j) (by omega)
theorem CB.old {w W:World} {g o:Nat} {t:ByteArray} (h:CB w g o t) (hg:g<w.heap.size) (hW:Below w.heap.size w W):CB W g o t:=fun j hj=>(hW.cell (by simpa using hg)).trans (h j hj)
theorem cut_sz (t:ByteArray) (k:Nat) (hk:k<t.size) (t':ByteArray) (ht:t.extract k t.size=t'):t.size - k=t'.size∧¬t.size=k∧t'.size+k=t.size:=by
 have hz:t'.size=t.size - k:=by rw[←ht,Lib.ext_size]
 omega
def TlB (w:World) (a:Option Addr) (t:ByteArray):Prop:=t.size=0∨∃ g o,a=some ⟨g,o,none⟩∧g<w.heap.size∧CB w g o t
theorem TlB.cut {w:World} {g o:Nat} {t t':ByteArray} {k:Nat} (h:CB w g o t) (hg:g<w.heap.size) (ht:t.extract k t.size=t'):TlB w (some ⟨g,o+k,none⟩) t':=.inr ⟨g,o+k,rfl,hg,by rw[←ht];exact h.cut k⟩
theorem word_at {w W:World} {g o:Nat} {t:ByteArray} (h8:8≤t.size) (hg:g<w.heap.size) (hC:CB w g o t) (hW:Below w.heap.size w W) {A:Nat} (hA:Lib.leNat [t.get! 0,t.get! 1,t.get! 2,t.get! 3,t.get! 4,t.get! 5,t.get! 6,t.get! 7]=A) :
  ∀ q,Calls Tryz.prog 94 #[.slice (some ⟨g,o,none⟩) t.size t.size] (W.drewN q) fun e w'=>e=.returned (.int .u64 A)∧∃ m,w'=(W.drewN q).drewN m:=fun q=>by
 rw[←hA]
 exact wordB_any g o t.size t.size t _ rfl h8 ((hC.old hg hW).drewN q)
theorem lead_tab {w:World} (hT:Lib.Utf8Tabs 0 1 w) (t:ByteArray) (h0:0<t.size) (hge:128≤(t.get! 0).toNat) :
  ∃ X LO HI:Nat,X<256∧w.cell? ⟨0,(t.get! 0).toNat,none⟩=some (.int .u8 (X:Int))∧w.cell? ⟨1,X / 16*2,none⟩=some (.int .u8 (LO:Int))∧w.cell? ⟨1,X / 16*2+1,none⟩=some (.int .u8 (HI:Int))∧
   Lib.validD t.data.toList=match Lib.checkN t.size (t.get! 1).toNat (t.get! 2).toNat (t.get! 3).toNat (X % 8) LO HI with
    | none=>false
    | some k=>Lib.validD (t.data.toList.drop k):=by
 have hl:t.data.toList≠[]:=List.length_pos_iff.1 (by rw[←Lib.size_eq];exact h0)
 have hX:Lib.firstT (t.get! 0).toNat<256:=by
  have:=Lib.firstT_cases (t.get! 0).toNat
  omega
 have hA:=hT.2 (Lib.firstT (t.get! 0).toNat / 16) (by omega)
 refine⟨_,_,_,hX,hT.1 _ (t.get! 0).toNat_lt,by rw[Nat.mul_comm];exact hA.1,by rw[Nat.mul_comm];exact hA.2,?_⟩
 have h:=Lib.validD_lead t.data.toList hl (by rw[Lib.getD_get!'];exact hge)
 simp only[Lib.getD_get!',←Lib.size_eq]at h
 rw[h]
 generalize Lib.checkN t.size _ _ _ _ _ _=c
 cases c <;> rfl
set_option maxHeartbeats 64000000 in
set_option maxRecDepth 100000 in
theorem validB_any (a:Option Addr) (len cap:Nat) (zs:List Int) (w:World) (hT:Tabs w) (hB:IsB w a len zs) (hlc:len≤cap) (hcm:cap≤9223372036854775807) :
  Calls Tryz.prog 68 #[.slice a len cap] w fun e w'=>e=.returned (.bool (valB (u8s zs)))∧Below w.heap.size w w':=by
 obtain⟨s,hs⟩:∃ s:ByteArray,mkB (u8s zs)=s:=⟨_,rfl⟩
 have hsl:s.data.toList=u8s zs:=by rw[←hs];rfl
 have hsz:s.size=len:=by rw[←hs,mkB_size,u8s_len];exact hB.1
 obtain⟨ANS,hANS⟩:∃ ANS,Lib.validD s.data.toList=ANS:=⟨_,rfl⟩
 have hAV:valB (u8s zs)=ANS:=by unfold valB;rw[←hsl];exact hANS
 rw[hAV]
 have hTL:TlB w a s:=by
  rcases hB.2.2 with h0 | ⟨g,o,ha,hh⟩
  ·refine .inl ?_
   rw[hsz,←hB.1,h0];rfl
  ·by_cases hz0:zs=[]
   ·refine .inl ?_
    rw[hsz,←hB.1,hz0];rfl
   ·obtain⟨z0,h00⟩:∃ z,zs[0]? = some z:=⟨_,List.getElem?_eq_getElem (List.length_pos_iff.2 hz0)⟩
    have hg:g<w.heap.size:=cell_ltB (hh.1 0 z0 h00)
    refine .inr ⟨g,o,ha,hg,fun j hj=>?_⟩
    obtain⟨z,hz⟩:∃ z,zs[j]? = some z:=⟨_,List.getElem?_eq_getElem (by rw[hB.1,←hsz];exact hj)⟩
    have h1:=hh.1 j z hz
    have h2:=hh.2 z (List.mem_of_getElem? hz)
    have h3:s.get! j=UInt8.ofNat z.toNat:=by
     rw[←Lib.getD_get!',hsl]
     unfold u8s
     simp[List.getD_eq_getElem?_getD,hz]
    have h4:((UInt8.ofNat z.toNat).toNat:Int)=z:=by
     rw[UInt8.toNat_ofNat',Nat.mod_eq_of_lt (by omega)];omega
    rw[h3,h4]
    exact h1
 have hfull:∀ W,(Instr.slice 27 (.slice a len cap) none (some (.int .i64 (len:Int))) (some (.int .i64 (len:Int)))).run Tryz.prog W=.ok (.slice a len len) W:=fun W=>by
  rw[run_slice_hm (P:=Tryz.prog) W 27 _ _ _ (by kernel_rfl) .i64 .i64 (len:Int) (len:Int) (by omega) (by omega) (by omega)]
  have hsz:(sizeOf (Tryz.prog.elem 27)).run Tryz.prog W=.ok 1 W:=by
   have:(Tryz.prog.info? (Tryz.prog.elem 27)).map (fun i=>i.size)=some 1:=by kernel_rfl
   obtain⟨i,hi,hs⟩:=Option.map_eq_some_iff.1 this
   simp[sizeOf,typeInfo,hi,hs]
  rw[hsz]
  cases a <;> simp[Result.andThen,sliced,Addr.add]
 have hT1:Lib.Utf8Tabs 0 1 w:=hT
 have HT:=hQz hT1
 have HTL:=hQz hTL
 subst hsz
 clear hs hsl hAV hB hT hT1 hTL
 go_enter Tryz.func68,Tryz.ntmps68
 go_wp2
 clear hfull
 go_loopg [0] (s.size+1) (fun gk s0 wx=>Below w.heap.size w wx∧∃ (a:Option Addr) (t:ByteArray),s0=.slice a t.size t.size∧Lib.validD t.data.toList=ANS∧t.size<gk∧t.size≤9223372036854775807∧TlB w a t)
 case atStart=>exact⟨Below.refl _ _,a,s,rfl,hANS,by omega,by omega,HTL.out⟩
 case round=>
  obtain⟨hbw,a1,t,rfl,hv,hg,hts,htl⟩:=hrel
  have HBW:=hQz hbw
  clear hANS HTL hbw
  by_cases h0:0<t.size
  ·obtain⟨g',rfl⟩:∃ g',gk=g'+1:=⟨gk - 1,by omega⟩
   have h0z:(0:Int)<(t.size:Int):=by omega
   rcases htl with h | ⟨bk,of,rfl,hbk,hcb⟩
   ·omega
   have HCB:=hQz hcb
   obtain⟨x0,hx0⟩:∃ x0,t.get! 0=x0:=⟨_,rfl⟩
   have hx0lt:x0.toNat<256:=x0.toNat_lt
   have c0:wr.cell? ⟨bk,of,none⟩=some (.int .u8 (x0.toNat:Int)):=(hcb.old hbk HBW.out).at (j:=0) h0 hx0
   clear hcb
   by_cases hasc:x0.toNat<128
   ·as_aux_lemma=>
     have hascz:(x0.toNat:Int)<128:=by omega
     obtain⟨t1,ht1⟩:∃ t1,t.extract 1 t.size=t1:=⟨_,rfl⟩
     have z1:t1.size+1=t.size:=by rw[←ht1,Lib.ext_size];omega
     have v1:Lib.validD t1.data.toList=ANS:=by rw[←ht1,Lib.valid_skip t 1 (Lib.asc_one t h0 (by rw[hx0];exact hasc))];exact hv
     have HL1:=hQz (TlB.cut HCB.out hbk ht1)
     have HC1:Hid (CB w bk (of+1) t1):=by
      refine(?_:CB _ _ _ _)
      rw[←ht1];exact HCB.out.cut 1
     clear hv ht1 hx0
     by_cases c8:8<t1.size
     ·have c8z:(8:Int)<(t1.size:Int):=by omega
      have y1:t.size - 1=t1.size:=by omega
      have n1:¬t.size=1:=by omega
      obtain⟨A1,hA1⟩:∃ A1,Lib.leNat [t1.get! 0,t1.get! 1,t1.get! 2,t1.get! 3,t1.get! 4,t1.get! 5,t1.get! 6,t1.get! 7]=A1:=⟨_,rfl⟩
      have lA1:A1<18446744073709551616:=hA1▸Lib.word_lt t1
      have cW1:=word_at (by omega) hbk HC1.out HBW.out hA1 0
      have kA1:=Lib.word_asc t1 (by omega)
      rw[hA1]at kA1
      have hand1:bits .and .u64 (A1:Int) 9259542123273814144=((A1&&& 9259542123273814144:Nat):Int):=u64_and_nat A1 9259542123273814144 lA1 (by omega)
      obtain⟨Z1,hZ1⟩:∃ Z1,A1&&& 9259542123273814144=Z1:=⟨_,rfl⟩
      rw[hZ1]at hand1 kA1
      clear hA1 lA1 hZ1
      by_cases hz1:Z1=0
      ·have hz1b:((Z1:Int) == 0)=true:=by simp[hz1]
       obtain⟨t2,ht2⟩:∃ t2,t1.extract 8 t1.size=t2:=⟨_,rfl⟩
       obtain⟨y2,n2,z2⟩:=cut_sz t1 8 (by omega) t2 ht2
       have v2:Lib.validD t2.data.toList=ANS:=by rw[←ht2,Lib.valid_skip t1 8 (kA1.1 hz1)];exact v1
       have HL2:=hQz (TlB.cut HC1.out hbk ht2)
       have HC2:Hid (CB w bk (of+1+8) t2):=by
        refine(?_:CB _ _ _ _)
        rw[←ht2];exact HC1.out.cut 8
       clear kA1 v1 ht2
       go_wp2_with fail
       refine cW1.mono ?_
       rintro e W1 ⟨rfl,q1,rfl⟩
       have HB1:Hid (Below w.heap.size w ((wr.drewN 0).drewN q1)):=below_drewNv (below_drewNv HBW.out 0) q1
       generalize ((wr.drewN 0).drewN q1)=wq at HB1 ⊢
       go_wp2_with fail
       have HSZ:Hid (t2.size+9=t.size):=by
        refine(?_:t2.size+9=t.size)
        omega
       have h2m:t2.size≤9223372036854775807:=by omega
       clear cW1 c0 y1 n1 y2 n2 z1 z2 c8 c8z h0 h0z hascz hasc hz1 hz1b hand1
       by_cases c16:16<t2.size
       ·have c16z:(16:Int)<(t2.size:Int):=by omega
        obtain⟨t2b,ht2b⟩:∃ x,t2.extract 8 t2.size=x:=⟨_,rfl⟩
        obtain⟨yb,nb,zb⟩:=cut_sz t2 8 (by omega) t2b ht2b
        have HC2b:Hid (CB w bk (of+1+8+8) t2b):=by
         refine(?_:CB _ _ _ _)
         rw[←ht2b];exact HC2.out.cut 8
        obtain⟨A2,hA2⟩:∃ A2,Lib.leNat [t2.get! 0,t2.get! 1,t2.get! 2,t2.get! 3,t2.get! 4,t2.get! 5,t2.get! 6,t2.get! 7]=A2:=⟨_,rfl⟩
        obtain⟨A3,hA3⟩:∃ A3,Lib.leNat [t2b.get! 0,t2b.get! 1,t2b.get! 2,t2b.get! 3,t2b.get! 4,t2b.get! 5,t2b.get! 6,t2b.get! 7]=A3:=⟨_,rfl⟩
        have lA2:A2<18446744073709551616:=hA2▸Lib.word_lt t2
        have lA3:A3<18446744073709551616:=hA3▸Lib.word_lt t2b
        have cW2:=word_at (by omega) hbk HC2.out HB1.out hA2
        have cW3:=word_at (by omega) hbk HC2b.out HB1.out hA3
        have kA2:=Lib.word_asc t2 (by omega)
        have kA3:=Lib.word_asc t2b (by omega)
        rw[hA2]at kA2
        rw[hA3]at kA3
        have k2:(A2 ||| A3)&&& 9259542123273814144=0→Lib.Asc t2 16:=fun hz=>by
         obtain⟨e1,e2⟩:=(Lib.or_mask A2 A3 _).1 hz
         exact Lib.asc_add t2 8 8 (kA2.1 e1) (by rw[ht2b];exact kA3.1 e2)
        have hor2:bits .or .u64 (A2:Int) (A3:Int)=((A2 ||| A3:Nat):Int):=u64_or_nat A2 A3 lA2 lA3
        have lor2:A2 ||| A3<18446744073709551616:=Nat.or_lt_two_pow (n:=64) lA2 lA3
        obtain⟨O2,hO2⟩:∃ O2,A2 ||| A3=O2:=⟨_,rfl⟩
        rw[hO2]at hor2 lor2 k2
        have hand2:bits .and .u64 (O2:Int) 9259542123273814144=((O2&&& 9259542123273814144:Nat):Int):=u64_and_nat _ 9259542123273814144 lor2 (by omega)
        obtain⟨Z2,hZ2⟩:∃ Z2,O2&&& 9259542123273814144=Z2:=⟨_,rfl⟩
        rw[hZ2]at hand2 k2
        clear kA2 kA3 lor2 hO2 hZ2 hA2 hA3 lA2 lA3 ht2b zb c16
        by_cases hz2:Z2=0
        ·have hz2b:((Z2:Int) == 0)=true:=by simp[hz2]
         have c16':16<t2.size:=by omega
         obtain⟨t3,ht3⟩:∃ x,t2.extract 16 t2.size=x:=⟨_,rfl⟩
         have HCS:=hQz (cut_sz t2 16 c16' t3 ht3)
         have v3:Lib.validD t3.data.toList=ANS:=by rw[←ht3,Lib.valid_skip t2 16 (k2 hz2)];exact v2
         have HL3:=hQz (TlB.cut HC2.out hbk ht3)
         clear k2 v2 ht3 c16'
         go_quiet (first | (with_reducible exact Calls.quiet_of (cW2 _)) | (with_reducible exact Calls.quiet_of (cW3 _)))
         have HB2:Hid (Below w.heap.size w (wq.drewN nq)):=below_drewNv HB1.out nq
         generalize wq.drewN nq=wq2 at HB2 ⊢
         clear cW2 cW3 yb nb hor2 hand2 hz2 hz2b
         obtain⟨y3,n3,z3⟩:=HCS.out
         go_wp2
         have HS3:Hid (t3.size+25=t.size):=by
          refine(?_:t3.size+25=t.size)
          have:=HSZ.out;omega
         have h3m:t3.size≤9223372036854775807:=by omega
         clear y3 n3 z3 c16z
         go_loopg [0] (t3.size+1) (fun g2 s0 wx=>Below w.heap.size w wx∧∃ (a:Option Addr) (u:ByteArray),s0=.slice a u.size u.size∧Lib.validD u.data.toList=ANS∧u.size<g2∧u.size≤t3.size∧TlB w a u)
         case atStart=>exact⟨HB2.out,_,t3,rfl,v3,by omega,Nat.le_refl _,HL3.out⟩
         case round=>
          obtain⟨hbu,au,u,rfl,vu,hgu,hut,htu⟩:=hrel
          have HBU:=hQz hbu
          clear hbu
          by_cases c32:32<u.size
          ·obtain⟨g3,rfl⟩:∃ g3,gk=g3+1:=⟨gk - 1,by omega⟩
           have c32z:(32:Int)<(u.size:Int):=by omega
           have s8:(8:Int)≤(u.size:Int):=by omega
           have s16:(16:Int)≤(u.size:Int):=by omega
           have s24:(24:Int)≤(u.size:Int):=by omega
           rcases htu with h | ⟨bu,ou,rfl,hbu2,hcu⟩
           ·omega
           have HCU:=hQz hcu
           clear hcu
           obtain⟨ub,hub⟩:∃ x,u.extract 8 u.size=x:=⟨_,rfl⟩
           obtain⟨uc,huc⟩:∃ x,u.extract 16 u.size=x:=⟨_,rfl⟩
           obtain⟨ud,hud⟩:∃ x,u.extract 24 u.size=x:=⟨_,rfl⟩
           obtain⟨yb4,nb4,zb4⟩:=cut_sz u 8 (by omega) ub hub
           obtain⟨yc4,nc4,zc4⟩:=cut_sz u 16 (by omega) uc huc
           obtain⟨yd4,nd4,zd4⟩:=cut_sz u 24 (by omega) ud hud
           have HUb:Hid (CB w bu (ou+8) ub):=by
            refine(?_:CB _ _ _ _)
            rw[←hub];exact HCU.out.cut 8
           have HUc:Hid (CB w bu (ou+16) uc):=by
            refine(?_:CB _ _ _ _)
            rw[←huc];exact HCU.out.cut 16
           have HUd:Hid (CB w bu (ou+24) ud):=by
            refine(?_:CB _ _ _ _)
            rw[←hud];exact HCU.out.cut 24
           obtain⟨B0,hB0⟩:∃ x,Lib.leNat [u.get! 0,u.get! 1,u.get! 2,u.get! 3,u.get! 4,u.get! 5,u.get! 6,u.get! 7]=x:=⟨_,rfl⟩
           have lB0:B0<18446744073709551616:=hB0▸Lib.word_lt u
           have kB0:=Lib.word_asc u (by omega)
           rw[hB0]at kB0
           obtain⟨B1,hB1⟩:∃ x,Lib.leNat [ub.get! 0,ub.get! 1,ub.get! 2,ub.get! 3,ub.get! 4,ub.get! 5,ub.get! 6,ub.get! 7]=x:=⟨_,rfl⟩
           have lB1:B1<18446744073709551616:=hB1▸Lib.word_lt ub
           have kB1:=Lib.word_asc ub (by omega)
           rw[hB1]at kB1
           obtain⟨B2,hB2⟩:∃ x,Lib.leNat [uc.get! 0,uc.get! 1,uc.get! 2,uc.get! 3,uc.get! 4,uc.get! 5,uc.get! 6,uc.get! 7]=x:=⟨_,rfl⟩
           have lB2:B2<18446744073709551616:=hB2▸Lib.word_lt uc
           have kB2:=Lib.word_asc uc (by omega)
           rw[hB2]at kB2
           obtain⟨B3,hB3⟩:∃ x,Lib.leNat [ud.get! 0,ud.get! 1,ud.get! 2,ud.get! 3,ud.get! 4,ud.get! 5,ud.get! 6,ud.get! 7]=x:=⟨_,rfl⟩
           have lB3:B3<18446744073709551616:=hB3▸Lib.word_lt ud
           have kB3:=Lib.word_asc ud (by omega)
           rw[hB3]at kB3
           have cB0:=word_at (by omega) hbu2 HCU.out HBU.out hB0
           have cB1:=word_at (by omega) hbu2 HUb.out HBU.out hB1
           have cB2:=word_at (by omega) hbu2 HUc.out HBU.out hB2
           have cB3:=word_at (by omega) hbu2 HUd.out HBU.out hB3
           have k3:((B0 ||| B1) ||| (B2 ||| B3))&&& 9259542123273814144=0→Lib.Asc u 32:=fun hz=>by
            obtain⟨e01,e23⟩:=(Lib.or_mask _ _ _).1 hz
            obtain⟨e0,e1⟩:=(Lib.or_mask _ _ _).1 e01
            obtain⟨e2,e3⟩:=(Lib.or_mask _ _ _).1 e23
            have r16:Lib.Asc u 16:=Lib.asc_add u 8 8 (kB0.1 e0) (by rw[hub];exact kB1.1 e1)
            have r24:Lib.Asc u 24:=Lib.asc_add u 16 8 r16 (by rw[huc];exact kB2.1 e2)
            exact Lib.asc_add u 24 8 r24 (by rw[hud];exact kB3.1 e3)
           have ho1:bits .or .u64 (B0:Int) (B1:Int)=((B0 ||| B1:Nat):Int):=u64_or_nat B0 B1 lB0 lB1
           have ho2:bits .or .u64 (B2:Int) (B3:Int)=((B2 ||| B3:Nat):Int):=u64_or_nat B2 B3 lB2 lB3
           have lo1:B0 ||| B1<18446744073709551616:=Nat.or_lt_two_pow (n:=64) lB0 lB1
           have lo2:B2 ||| B3<18446744073709551616:=Nat.or_lt_two_pow (n:=64) lB2 lB3
           obtain⟨P1,hP1⟩:∃ x,B0 ||| B1=x:=⟨_,rfl⟩
           obtain⟨P2,hP2⟩:∃ x,B2 ||| B3=x:=⟨_,rfl⟩
           rw[hP1]at ho1 lo1 k3
           rw[hP2]at ho2 lo2 k3
           have ho3:bits .or .u64 (P1:Int) (P2:Int)=((P1 ||| P2:Nat):Int):=u64_or_nat P1 P2 lo1 lo2
           have lo3:P1 ||| P2<18446744073709551616:=Nat.or_lt_two_pow (n:=64) lo1 lo2
           obtain⟨P3,hP3⟩:∃ x,P1 ||| P2=x:=⟨_,rfl⟩
           rw[hP3]at ho3 lo3 k3
           have hand3:bits .and .u64 (P3:Int) 9259542123273814144=((P3&&& 9259542123273814144:Nat):Int):=u64_and_nat _ 9259542123273814144 lo3 (by omega)
           obtain⟨Z3,hZ3⟩:∃ x,P3&&& 9259542123273814144=x:=⟨_,rfl⟩
           rw[hZ3]at hand3 k3
           clear kB0 kB1 kB2 kB3 lo1 lo2 lo3 hP1 hP2 hP3 hZ3 hB0 hB1 hB2 hB3 lB0 lB1 lB2 lB3 hub huc hud
           go_wp2_with fail
           by_cases hz3:Z3=0
           ·have hz3b:((Z3:Int) == 0)=true:=by simp[hz3]
            obtain⟨u2,hu2⟩:∃ x,u.extract 32 u.size=x:=⟨_,rfl⟩
            obtain⟨y4,n4,z4⟩:=cut_sz u 32 (by omega) u2 hu2
            have vu2:Lib.validD u2.data.toList=ANS:=by rw[←hu2,Lib.valid_skip u 32 (k3 hz3)];exact vu
            have HU2:=hQz (TlB.cut HCU.out hbu2 hu2)
            clear k3 hu2
            go_quiet (first | (with_reducible exact Calls.quiet_of (cB0 _)) | (with_reducible exact Calls.quiet_of (cB1 _)) | (with_reducible exact Calls.quiet_of (cB2 _)) | (with_reducible exact Calls.quiet_of (cB3 _)))
            go_wp2
            go_roundg g3
            case measure=>omega
            case rel=>exact⟨below_drewNv HBU.out nq,_,u2,rfl,vu2,by omega,by omega,HU2.out⟩
           ·have hz3b:((Z3:Int) == 0)=false:=by simp;omega
            go_quiet (first | (with_reducible exact Calls.quiet_of (cB0 _)) | (with_reducible exact Calls.quiet_of (cB1 _)) | (with_reducible exact Calls.quiet_of (cB2 _)) | (with_reducible exact Calls.quiet_of (cB3 _)))
            go_wp2
            go_roundg g'
            case measure=>omega
            case rel=>exact⟨below_drewNv HBU.out nq,_,u,rfl,vu,by have:=HS3.out;omega,by have:=HS3.out;omega,.inr ⟨bu,ou,rfl,hbu2,HCU.out⟩⟩
          ·have c32z:¬((32:Int)<(u.size:Int)):=by omega
           have c32b:decide ((32:Int)<(u.size:Int))=false:=decide_eq_false c32z
           go_wp2_with fail
           go_quiet (fail)
           go_wp2
           go_roundg g'
           case measure=>omega
           case rel=>exact⟨below_drewNv HBU.out nq,_,u,rfl,vu,by have:=HS3.out;omega,by have:=HS3.out;omega,htu⟩
        ·have hz2b:((Z2:Int) == 0)=false:=by simp;omega
         go_quiet (first | (with_reducible exact Calls.quiet_of (cW2 _)) | (with_reducible exact Calls.quiet_of (cW3 _)))
         go_wp2
         go_roundg g'
         case measure=>omega
         case rel=>exact⟨below_drewNv HB1.out nq,_,t2,rfl,v2,by have:=HSZ.out;omega,by omega,HL2.out⟩
       ·have c16z:¬((16:Int)<(t2.size:Int)):=by omega
        have c16b:decide ((16:Int)<(t2.size:Int))=false:=decide_eq_false c16z
        go_quiet (fail)
        go_wp2
        go_roundg g'
        case measure=>omega
        case rel=>exact⟨below_drewNv HB1.out nq,_,t2,rfl,v2,by have:=HSZ.out;omega,by omega,HL2.out⟩
      ·have hz1b:((Z1:Int) == 0)=false:=by simp;omega
       go_wp2_with fail
       refine cW1.mono ?_
       rintro e W1 ⟨rfl,q1,rfl⟩
       go_wp2
       go_roundg g'
       case measure=>omega
       case rel=>exact⟨below_drewNv (below_drewNv HBW.out 0) q1,_,t1,rfl,v1,by omega,by omega,HL1.out⟩
     ·have c8z:¬((8:Int)<(t1.size:Int)):=by omega
      have y1:t.size - 1=t1.size:=by omega
      by_cases n1:t.size=1
      ·have y0:t1.size=0:=by omega
       go_wp2
       go_roundg g'
       case measure=>omega
       case rel=>exact⟨HBW.out,some ⟨bk,of,none⟩,t1,by rw[y0],v1,by omega,by omega,.inl y0⟩
      ·go_wp2
       go_roundg g'
       case measure=>omega
       case rel=>exact⟨HBW.out,_,t1,rfl,v1,by omega,by omega,HL1.out⟩
   ·as_aux_lemma=>
     have hge:128≤x0.toNat:=by omega
     have hascz:¬((x0.toNat:Int)<128):=by omega
     obtain⟨x1,hx1⟩:∃ x1,t.get! 1=x1:=⟨_,rfl⟩
     obtain⟨x2,hx2⟩:∃ x2,t.get! 2=x2:=⟨_,rfl⟩
     obtain⟨x3,hx3⟩:∃ x3,t.get! 3=x3:=⟨_,rfl⟩
     obtain⟨X,LO,HI,hXlt,hc0,ha0,ha1,hlead⟩:=lead_tab (Utf8Tabs_below HT.out HBW.out) t h0 (by rw[hx0];exact hge)
     rw[hx0]at hc0
     rw[hx1,hx2,hx3,hv]at hlead
     have h7:=and7 ⟨X,hXlt⟩
     simp only at h7
     obtain⟨SZ,hSZ⟩:∃ SZ,X % 8=SZ:=⟨_,rfl⟩
     rw[hSZ]at hlead
     obtain⟨Y,hY,hYc,hYb,hYs⟩:=box_new wr #[.int .u8 (LO:Int),.int .u8 (HI:Int)] 175
     have HY:=hQz hY
     have hBY:=HBW.out.trans (hYb.mono HBW.out.size)
     have HBY:=hQz hBY
     have m0:=cell_at hYc 0 rfl
     have m1:=cell_at hYc 1 rfl
     have d1:1<t.size→Y.cell? ⟨bk,of+1,none⟩=some (.int .u8 (x1.toNat:Int)):=fun h=>(HCB.out.old hbk hBY).at h hx1
     have d2:2<t.size→Y.cell? ⟨bk,of+2,none⟩=some (.int .u8 (x2.toNat:Int)):=fun h=>(HCB.out.old hbk hBY).at h hx2
     have d3:3<t.size→Y.cell? ⟨bk,of+3,none⟩=some (.int .u8 (x3.toNat:Int)):=fun h=>(HCB.out.old hbk hBY).at h hx3
     clear hv hx0 hx1 hx2 hx3 hY hYc hYb hYs hBY
     by_cases s2:SZ=2
     ·as_aux_lemma=>
       subst s2
       have hSZz:(X:Int) % 8=2:=by omega
       simp only[Lib.checkN,Nat.reduceEqDiff,if_true,if_false]at hlead
       go_upto_region 18 with fail
       rw[HY.out]
       clear c0 hc0 ha0 ha1
       go_cut [103] from 85 to 103 (fun c wx=>c=.bool (decide (t.size<2∨x1.toNat<LO∨HI<x1.toNat))∧Below w.heap.size w wx)
       case first=>
        by_cases q0:t.size<2
        ·have q0z:(t.size:Int)<2:=by omega
         go_quiet (fail)
         go_wp2
         go_meet
         exact⟨congrArg Value.bool (decide_eq_true (p:=t.size<2∨x1.toNat<LO∨HI<x1.toNat) (by omega)).symm,below_drewNv HBY.out _⟩
        ·have q0z:¬((t.size:Int)<2):=by omega
         have e1:=d1 (by omega)
         have e1z:(1:Int)<(t.size:Int):=by omega
         by_cases q1:x1.toNat<LO
         ·have q1z:(x1.toNat:Int)<(LO:Int):=by omega
          go_quiet (fail)
          go_wp2
          go_meet
          exact⟨congrArg Value.bool (decide_eq_true (p:=t.size<2∨x1.toNat<LO∨HI<x1.toNat) (by omega)).symm,below_drewNv HBY.out _⟩
         ·have q1z:¬((x1.toNat:Int)<(LO:Int)):=by omega
          by_cases q2:HI<x1.toNat
          ·have q2z:(HI:Int)<(x1.toNat:Int):=by omega
           go_quiet (fail)
           go_wp2
           go_meet
           exact⟨congrArg Value.bool (decide_eq_true (p:=t.size<2∨x1.toNat<LO∨HI<x1.toNat) (by omega)).symm,below_drewNv HBY.out _⟩
          ·have q2z:¬((HI:Int)<(x1.toNat:Int)):=by omega
           go_quiet (fail)
           go_wp2
           go_meet
           exact⟨congrArg Value.bool (decide_eq_false (p:=t.size<2∨x1.toNat<LO∨HI<x1.toNat) (by omega)).symm,below_drewNv HBY.out _⟩
       case rest=>
        obtain⟨rfl,hbc⟩:=hcut
        have HBC:=hQz hbc
        clear m0 m1 d1 d2 d3 hbc
        by_cases hb:t.size<2∨x1.toNat<LO∨HI<x1.toNat
        ·have hbd:decide (t.size<2∨x1.toNat<LO∨HI<x1.toNat)=true:=decide_eq_true hb
         rw[if_pos hb]at hlead
         go_wp2
         all_goals (go_ret;exact⟨by first | rfl | rw[hlead],HBC.out⟩)
        ·have hbd:decide (t.size<2∨x1.toNat<LO∨HI<x1.toNat)=false:=decide_eq_false hb
         rw[if_neg hb]at hlead
         obtain⟨t2,ht2⟩:∃ x,t.extract 2 t.size=x:=⟨_,rfl⟩
         have y2:t.size - 2=t2.size:=by rw[←ht2,Lib.ext_size]
         have v2:Lib.validD t2.data.toList=ANS:=by rw[←ht2,Lib.ext_list,hlead]
         have HL2:=hQz (TlB.cut HCB.out hbk ht2)
         have hle:(2:Int)≤(t.size:Int):=by omega
         by_cases n2:t.size=2
         ·have y0:t2.size=0:=by omega
          go_wp2
          go_roundg g'
          case measure=>omega
          case rel=>exact⟨HBC.out,some ⟨bk,of,none⟩,t2,by rw[y0],v2,by omega,by omega,.inl y0⟩
         ·go_wp2
          go_roundg g'
          case measure=>omega
          case rel=>exact⟨HBC.out,_,t2,rfl,v2,by omega,by omega,HL2.out⟩
     by_cases s3:SZ=3
     ·as_aux_lemma=>
       subst s3
       have hSZz:(X:Int) % 8=3:=by omega
       simp only[Lib.checkN,Nat.reduceEqDiff,if_true,if_false]at hlead
       go_upto_region 22 with fail
       rw[HY.out]
       clear c0 hc0 ha0 ha1
       go_cut [138] from 108 to 138 (fun c wx=>c=.bool (decide (t.size<3∨x1.toNat<LO∨HI<x1.toNat∨x2.toNat<128∨191<x2.toNat))∧Below w.heap.size w wx)
       case first=>
        by_cases q0:t.size<3
        ·have q0z:(t.size:Int)<3:=by omega
         go_quiet (fail)
         go_wp2
         go_meet
         exact⟨congrArg Value.bool (decide_eq_true (p:=t.size<3∨x1.toNat<LO∨HI<x1.toNat∨x2.toNat<128∨191<x2.toNat) (by omega)).symm,below_drewNv HBY.out _⟩
        ·have q0z:¬((t.size:Int)<3):=by omega
         have e1:=d1 (by omega)
         have e1z:(1:Int)<(t.size:Int):=by omega
         have e2:=d2 (by omega)
         have e2z:(2:Int)<(t.size:Int):=by omega
         by_cases q1:x1.toNat<LO
         ·have q1z:(x1.toNat:Int)<(LO:Int):=by omega
          go_quiet (fail)
          go_wp2
          go_meet
          exact⟨congrArg Value.bool (decide_eq_true (p:=t.size<3∨x1.toNat<LO∨HI<x1.toNat∨x2.toNat<128∨191<x2.toNat) (by omega)).symm,below_drewNv HBY.out _⟩
         ·have q1z:¬((x1.toNat:Int)<(LO:Int)):=by omega
          by_cases q2:HI<x1.toNat
          ·have q2z:(HI:Int)<(x1.toNat:Int):=by omega
           go_quiet (fail)
           go_wp2
           go_meet
           exact⟨congrArg Value.bool (decide_eq_true (p:=t.size<3∨x1.toNat<LO∨HI<x1.toNat∨x2.toNat<128∨191<x2.toNat) (by omega)).symm,below_drewNv HBY.out _⟩
          ·have q2z:¬((HI:Int)<(x1.toNat:Int)):=by omega
           by_cases q3:x2.toNat<128
           ·have q3z:(x2.toNat:Int)<128:=by omega
            go_quiet (fail)
            go_wp2
            go_meet
            exact⟨congrArg Value.bool (decide_eq_true (p:=t.size<3∨x1.toNat<LO∨HI<x1.toNat∨x2.toNat<128∨191<x2.toNat) (by omega)).symm,below_drewNv HBY.out _⟩
           ·have q3z:¬((x2.toNat:Int)<128):=by omega
            by_cases q4:191<x2.toNat
            ·have q4z:(191:Int)<(x2.toNat:Int):=by omega
             go_quiet (fail)
             go_wp2
             go_meet
             exact⟨congrArg Value.bool (decide_eq_true (p:=t.size<3∨x1.toNat<LO∨HI<x1.toNat∨x2.toNat<128∨191<x2.toNat) (by omega)).symm,below_drewNv HBY.out _⟩
            ·have q4z:¬((191:Int)<(x2.toNat:Int)):=by omega
             go_quiet (fail)
             go_wp2
             go_meet
             exact⟨congrArg Value.bool (decide_eq_false (p:=t.size<3∨x1.toNat<LO∨HI<x1.toNat∨x2.toNat<128∨191<x2.toNat) (by omega)).symm,below_drewNv HBY.out _⟩
       case rest=>
        obtain⟨rfl,hbc⟩:=hcut
        have HBC:=hQz hbc
        clear m0 m1 d1 d2 d3 hbc
        by_cases hb:t.size<3∨x1.toNat<LO∨HI<x1.toNat∨x2.toNat<128∨191<x2.toNat
        ·have hbd:decide (t.size<3∨x1.toNat<LO∨HI<x1.toNat∨x2.toNat<128∨191<x2.toNat)=true:=decide_eq_true hb
         rw[if_pos hb]at hlead
         go_wp2
         all_goals (go_ret;exact⟨by first | rfl | rw[hlead],HBC.out⟩)
        ·have hbd:decide (t.size<3∨x1.toNat<LO∨HI<x1.toNat∨x2.toNat<128∨191<x2.toNat)=false:=decide_eq_false hb
         rw[if_neg hb]at hlead
         obtain⟨t2,ht2⟩:∃ x,t.extract 3 t.size=x:=⟨_,rfl⟩
         have y2:t.size - 3=t2.size:=by rw[←ht2,Lib.ext_size]
         have v2:Lib.validD t2.data.toList=ANS:=by rw[←ht2,Lib.ext_list,hlead]
         have HL2:=hQz (TlB.cut HCB.out hbk ht2)
         have hle:(3:Int)≤(t.size:Int):=by omega
         by_cases n2:t.size=3
         ·have y0:t2.size=0:=by omega
          go_wp2
          go_roundg g'
          case measure=>omega
          case rel=>exact⟨HBC.out,some ⟨bk,of,none⟩,t2,by rw[y0],v2,by omega,by omega,.inl y0⟩
         ·go_wp2
          go_roundg g'
          case measure=>omega
          case rel=>exact⟨HBC.out,_,t2,rfl,v2,by omega,by omega,HL2.out⟩
     by_cases s4:SZ=4
     ·as_aux_lemma=>
       subst s4
       have hSZz:(X:Int) % 8=4:=by omega
       simp only[Lib.checkN,Nat.reduceEqDiff,if_true,if_false]at hlead
       go_upto_region 26 with fail
       rw[HY.out]
       clear c0 hc0 ha0 ha1
       go_cut [185] from 143 to 185 (fun c wx=>c=.bool (decide (t.size<4∨x1.toNat<LO∨HI<x1.toNat∨x2.toNat<128∨191<x2.toNat∨x3.toNat<128∨191<x3.toNat))∧Below w.heap.size w wx)
       case first=>
        by_cases q0:t.size<4
        ·have q0z:(t.size:Int)<4:=by omega
         go_quiet (fail)
         go_wp2
         go_meet
         exact⟨congrArg Value.bool (decide_eq_true (p:=t.size<4∨x1.toNat<LO∨HI<x1.toNat∨x2.toNat<128∨191<x2.toNat∨x3.toNat<128∨191<x3.toNat) (by omega)).symm,below_drewNv HBY.out _⟩
        ·have q0z:¬((t.size:Int)<4):=by omega
         have e1:=d1 (by omega)
         have e1z:(1:Int)<(t.size:Int):=by omega
         have e2:=d2 (by omega)
         have e2z:(2:Int)<(t.size:Int):=by omega
         have e3:=d3 (by omega)
         have e3z:(3:Int)<(t.size:Int):=by omega
         by_cases q1:x1.toNat<LO
         ·have q1z:(x1.toNat:Int)<(LO:Int):=by omega
          go_quiet (fail)
          go_wp2
          go_meet
          exact⟨congrArg Value.bool (decide_eq_true (p:=t.size<4∨x1.toNat<LO∨HI<x1.toNat∨x2.toNat<128∨191<x2.toNat∨x3.toNat<128∨191<x3.toNat) (by omega)).symm,below_drewNv HBY.out _⟩
         ·have q1z:¬((x1.toNat:Int)<(LO:Int)):=by omega
          by_cases q2:HI<x1.toNat
          ·have q2z:(HI:Int)<(x1.toNat:Int):=by omega
           go_quiet (fail)
           go_wp2
           go_meet
           exact⟨congrArg Value.bool (decide_eq_true (p:=t.size<4∨x1.toNat<LO∨HI<x1.toNat∨x2.toNat<128∨191<x2.toNat∨x3.toNat<128∨191<x3.toNat) (by omega)).symm,below_drewNv HBY.out _⟩
          ·have q2z:¬((HI:Int)<(x1.toNat:Int)):=by omega
           by_cases q3:x2.toNat<128
           ·have q3z:(x2.toNat:Int)<128:=by omega
            go_quiet (fail)
            go_wp2
            go_meet
            exact⟨congrArg Value.bool (decide_eq_true (p:=t.size<4∨x1.toNat<LO∨HI<x1.toNat∨x2.toNat<128∨191<x2.toNat∨x3.toNat<128∨191<x3.toNat) (by omega)).symm,below_drewNv HBY.out _⟩
           ·have q3z:¬((x2.toNat:Int)<128):=by omega
            by_cases q4:191<x2.toNat
            ·have q4z:(191:Int)<(x2.toNat:Int):=by omega
             go_quiet (fail)
             go_wp2
             go_meet
             exact⟨congrArg Value.bool (decide_eq_true (p:=t.size<4∨x1.toNat<LO∨HI<x1.toNat∨x2.toNat<128∨191<x2.toNat∨x3.toNat<128∨191<x3.toNat) (by omega)).symm,below_drewNv HBY.out _⟩
            ·have q4z:¬((191:Int)<(x2.toNat:Int)):=by omega
             by_cases q5:x3.toNat<128
             ·have q5z:(x3.toNat:Int)<128:=by omega
              go_quiet (fail)
              go_wp2
              go_meet
              exact⟨congrArg Value.bool (decide_eq_true (p:=t.size<4∨x1.toNat<LO∨HI<x1.toNat∨x2.toNat<128∨191<x2.toNat∨x3.toNat<128∨191<x3.toNat) (by omega)).symm,below_drewNv HBY.out _⟩
             ·have q5z:¬((x3.toNat:Int)<128):=by omega
              by_cases q6:191<x3.toNat
              ·have q6z:(191:Int)<(x3.toNat:Int):=by omega
               go_quiet (fail)
               go_wp2
               go_meet
               exact⟨congrArg Value.bool (decide_eq_true (p:=t.size<4∨x1.toNat<LO∨HI<x1.toNat∨x2.toNat<128∨191<x2.toNat∨x3.toNat<128∨191<x3.toNat) (by omega)).symm,below_drewNv HBY.out _⟩
              ·have q6z:¬((191:Int)<(x3.toNat:Int)):=by omega
               go_quiet (fail)
               go_wp2
               go_meet
               exact⟨congrArg Value.bool (decide_eq_false (p:=t.size<4∨x1.toNat<LO∨HI<x1.toNat∨x2.toNat<128∨191<x2.toNat∨x3.toNat<128∨191<x3.toNat) (by omega)).symm,below_drewNv HBY.out _⟩
       case rest=>
        obtain⟨rfl,hbc⟩:=hcut
        have HBC:=hQz hbc
        clear m0 m1 d1 d2 d3 hbc
        by_cases hb:t.size<4∨x1.toNat<LO∨HI<x1.toNat∨x2.toNat<128∨191<x2.toNat∨x3.toNat<128∨191<x3.toNat
        ·have hbd:decide (t.size<4∨x1.toNat<LO∨HI<x1.toNat∨x2.toNat<128∨191<x2.toNat∨x3.toNat<128∨191<x3.toNat)=true:=decide_eq_true hb
         rw[if_pos hb]at hlead
         go_wp2
         all_goals (go_ret;exact⟨by first | rfl | rw[hlead],HBC.out⟩)
        ·have hbd:decide (t.size<4∨x1.toNat<LO∨HI<x1.toNat∨x2.toNat<128∨191<x2.toNat∨x3.toNat<128∨191<x3.toNat)=false:=decide_eq_false hb
         rw[if_neg hb]at hlead
         obtain⟨t2,ht2⟩:∃ x,t.extract 4 t.size=x:=⟨_,rfl⟩
         have y2:t.size - 4=t2.size:=by rw[←ht2,Lib.ext_size]
         have v2:Lib.validD t2.data.toList=ANS:=by rw[←ht2,Lib.ext_list,hlead]
         have HL2:=hQz (TlB.cut HCB.out hbk ht2)
         have hle:(4:Int)≤(t.size:Int):=by omega
         by_cases n2:t.size=4
         ·have y0:t2.size=0:=by omega
          go_wp2
          go_roundg g'
          case measure=>omega
          case rel=>exact⟨HBC.out,some ⟨bk,of,none⟩,t2,by rw[y0],v2,by omega,by omega,.inl y0⟩
         ·go_wp2
          go_roundg g'
          case measure=>omega
          case rel=>exact⟨HBC.out,_,t2,rfl,v2,by omega,by omega,HL2.out⟩
     ·have e2:¬((X:Int) % 8=2):=by omega
      have e3:¬((X:Int) % 8=3):=by omega
      have e4:¬((X:Int) % 8=4):=by omega
      have e2b:(((X:Int) % 8) == 2)=false:=by simp;omega
      have e3b:(((X:Int) % 8) == 3)=false:=by simp;omega
      have e4b:(((X:Int) % 8) == 4)=false:=by simp;omega
      simp only[Lib.checkN,s2,s3,s4,if_false]at hlead
      have hBA:=HBW.out
      clear m0 m1 d1 d2 d3
      go_wp2
      all_goals (go_ret;exact⟨by first | rfl | rw[hlead],hBA.alloc hBA.size _⟩)
  ·have h0z:¬((0:Int)<(t.size:Int)):=by omega
   have ht0:t.data.toList=[]:=List.eq_nil_of_length_eq_zero (by rw[←Lib.size_eq];omega)
   rw[ht0,Lib.validD_nil]at hv
   subst hv
   go_wp2
   go_ret
   exact⟨rfl,HBW.out⟩
theorem valC_of {w:World} (hT:Tabs w):ValC w:=fun W a len cap zs hW hB hlc hcm _=>validB_any a len cap zs W (tabs_below hT hW) hB hlc hcm
end Go.Proofs.YteajlfgbmefncaaGreatDoor
