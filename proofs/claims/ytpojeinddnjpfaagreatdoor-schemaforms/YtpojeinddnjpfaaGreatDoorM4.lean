/-
  Walks and plain words (DpB DpL).
-/
import Derived.Test.YtpojeinddnjpfaaGreatDoorM2
import Derived.Test.YtpojeinddnjpfaaGreatDoorM3
namespace Go.Proofs.YtpojeinddnjpfaaGreatDoor
set_option linter.unusedVariables false
open Go.ChangeShapes Go.WideShapes Go.ChangeAt Go.RowKit

set_option maxHeartbeats 2000000 in
theorem iD (s:ByteArray) (w:World) :
  Calls Tryz.prog 133 #[.string s] w fun e w'=>e=.returned (.bool (gJ s.toList))∧w'=w:=by
 go_enter Tryz.func133,Tryz.ntmps133
 go_wp2
 all_goals
  go_ret
  refine⟨aU ?_,rfl⟩
  unfold gJ bP
  first
   | (simp[*];done)
   | simp_all
set_option maxHeartbeats 2000000 in
theorem Nz (R:Nat) (en:Int × Int) (r:Rd) (s:ByteArray) (w:World) (he:r.e=0) (hs:s.data.toList≠[]) (h:bW w R en r) :
  Calls Tryz.prog 162 #[.pointer (some ⟨R,0,none⟩),.string s] w fun x w'=>x=.returned (.bool (r.is s.data.toList))∧bW w' R en (r.take en s.data.toList)∧w.grownBy w' (some R):=by
 have hS:=jI R en r s w he hs h
 by_cases hi:r.is s.data.toList=true
 ·have ht:r.take en s.data.toList=r.tail:=by unfold Rd.take;rw[if_pos hi]
  have ht2:r.skip s.data.toList=r.tail:=by unfold Rd.skip;rw[if_pos hi]
  rw[ht,hi]
  rw[ht2,hi]at hS
  clear ht ht2 hi h he hs
  go_enter Tryz.func162,Tryz.ntmps162
  go_wp2_with fail
  refine hS.mono ?_
  rintro e w1 ⟨rfl,h1,hg1⟩
  go_wp2_with fail
  go_ret
  exact⟨rfl,h1,hg1⟩
 ·have hi':r.is s.data.toList=false:=by simpa using hi
  have ht:r.take en s.data.toList=r.fail 7 (r.here en):=by unfold Rd.take;rw[if_neg hi]
  have ht2:r.skip s.data.toList=r:=by unfold Rd.skip;rw[if_neg hi]
  rw[ht,hi']
  rw[ht2,hi']at hS
  have hF:=fun W hW=>kL R en r W he hW
  clear ht ht2 hi hi' h he hs
  go_enter Tryz.func162,Tryz.ntmps162
  go_wp2_with fail
  refine hS.mono ?_
  rintro e w1 ⟨rfl,h1,hg1⟩
  go_wp2_with fail
  refine(hF w1 h1).mono ?_
  rintro e w2 ⟨rfl,h2,hg2⟩
  go_wp2_with fail
  go_ret
  exact⟨rfl,h2,hg1.trans hg2⟩
theorem jD {w:World} {g o:Nat} {v:Value} (h:w.cell? ⟨g,o,none⟩=some v):g<w.heap.size:=by
 by_cases hl:g<w.heap.size
 ·exact hl
 ·have:w.heap[g]? = none:=Array.getElem?_eq_none (by omega)
  simp[World.cell?,this]at h
theorem fB {w w':World} {g o:Nat} (h:w'.heap[g]? = w.heap[g]?):w'.frozen? ⟨g,o,none⟩=w.frozen? ⟨g,o,none⟩:=by simp only[World.frozen?,h]
theorem jE {w w':World} {row:Option Nat} (h:w.grownBy w' row) (p:Addr) (x:Value):(w.setCell p x).grownBy (w'.setCell p x) row:=by
 refine⟨h.os,h.tape,h.output,?_,fun k hk hne=>?_⟩
 ·simp only[World.setCell,Array.size_modify];exact h.size
 ·have hk':k<w.heap.size:=by simpa [World.setCell]using hk
  have e:=h.block k hk' hne
  simp only[World.setCell,Array.getElem?_modify]
  rw[e]
def vW (w:World) (g1 o1 g2 o2:Nat) (s:Value) (p:Int × Int):World:=((w.setCell ⟨g1,o1,none⟩ s).setCell ⟨g2,o2,none⟩ (.int .i64 p.1)).setCell ⟨g2,o2+1,none⟩ (.int .i64 p.2)
theorem Rd.Sq {r:Rd} (he:r.e=0) (hi:¬r.isName=true):r.l=[]∨(∃ y t,r.l=y :: t∧¬y.kind=1)∨(∃ y t,r.l=y :: t∧y.kind=1∧gJ y.text=true):=by
 cases hl':r.l with
 | nil=>exact .inl rfl
 | cons y t=>
  right
  by_cases hk:y.kind=1
  ·right
   refine⟨y,t,rfl,hk,?_⟩
   cases hr:gJ y.text with
   | true=>rfl
   | false=>
    exfalso;apply hi
    unfold Rd.isName
    rw[hl',he]
    simp[hk,hr]
  ·exact .inl ⟨y,t,rfl,hk⟩
set_option maxHeartbeats 4000000 in
set_option maxRecDepth 20000 in
theorem yV (R:Nat) (en:Int × Int) (r:Rd) (w:World) (g1 o1 g2 o2:Nat) (x1 x2 x3:Value) (he:r.e=0) (h:bW w R en r) (hg1:R<g1) (hg2:R<g2)
  (k1:w.cell? ⟨g1,o1,none⟩=some x1) (k2:w.cell? ⟨g2,o2,none⟩=some x2) (k3:w.cell? ⟨g2,o2+1,none⟩=some x3) (j1:w.frozen? ⟨g1,o1,none⟩=false) (j2:w.frozen? ⟨g2,o2,none⟩=false) (j3:w.frozen? ⟨g2,o2+1,none⟩=false) (hap:g1≠g2∨(o1≠o2∧o1≠o2+1)) :
  Calls Tryz.prog 161 #[.pointer (some ⟨R,0,none⟩),.pointer (some ⟨g1,o1,none⟩),.pointer (some ⟨g2,o2,none⟩)] w fun x w'=>x=.returned (.bool r.isName)∧bW w' R en (r.name en)∧
   (if r.isName=true then vW w g1 o1 g2 o2 (.string (aC r.aL)) (r.nameP en) else w).grownBy w' (some R):=by
 have hlt:=h.lt
 have hRs:=fun (t:List UInt8) W=>iD (aC t) W
 have hTx:=fun W hW=>jH R en r W hW
 have hRf:=kL R en r w he h
 obtain⟨ad,c,hl,hw,hc,c0,c1,c2,c3,c4,c5,hf⟩:=h.get
 by_cases hi:r.isName=true
 ·obtain⟨y,t,hrl,_,hk,hres⟩:=Rd.Nu hi
  have hT:r.aL=y.text:=by unfold Rd.aL Rd.text;rw[if_pos hi,hrl]
  have hP:r.nameP en=r.here en:=by unfold Rd.nameP;rw[if_pos hi]
  have hN:r.name en=r.tail:=by unfold Rd.name;rw[if_pos hi]
  have hX:r.text=y.text:=by unfold Rd.text;rw[hrl]
  rw[if_pos hi,hT,hP,hN,hi]
  rw[hX]at hTx
  have Ma:=mC R en r w h
  have hw0:=hw
  rw[hrl]at hw0
  obtain⟨g,o,rfl,hg,d0,d1,d2,d3⟩:=hw0.head
  obtain⟨sL,hd,hcut⟩:=qA g o t.length c (by rw[hrl]at hl;simpa using hl)
  rw[hk]at d0
  have Oa:=fun W=>hRs y.text W
  rw[aH,hres]at Oa
  have hz:((t.length:Int)+1 == 0)=false:=beq_eq_false_iff_ne.2 (by omega)
  have HTL:Hid (∀ W:World,(∀ k,k<R+1→W.heap[k]? = w.heap[k]?)→bW (W.setCell ⟨R,0,none⟩ (.slice sL t.length (c - 1))) R en r.tail):=
   fun W hW=>(h.old hW).tail hrl ((hW R (by omega)).trans hc) (hw.old fun k hk=>hW k (by omega)) hl sL hd
  have HR:=aB h
  rw[hrl]at c0
  have c0':w.cell? ⟨R,0,none⟩=some (.slice (some ⟨g,o,none⟩) (t.length+1) c):=c0
  have f0:=hf 0
  have HK0:=aB c0'
  have HJ0:=aB f0
  have Ob:=aB k1
  have Ie:=aB k2
  have HK3:=aB k3
  have HJ1:=aB j1
  have HJ2:=aB j2
  have HJ3:=aB j3
  have hs1:g1<w.heap.size:=jD k1
  have hs2:g2<w.heap.size:=jD k2
  obtain⟨pp,hpp⟩:∃ pp,r.here en=pp:=⟨_,rfl⟩
  rw[hpp]at Ma ⊢
  clear hw hc c0 c1 c2 c3 c4 c5 hw0 hd hRs hRf hT hP hN hi hk hres h hf hX k1 k2 k3 j1 j2 j3 he hpp
  go_enter Tryz.func161,Tryz.ntmps161
  go_wp2_with (first | (go_at_call 115;refine(hTx _ HR.out).mono ?_;rintro e w9 ⟨rfl,h9⟩;have h9:=h9.symm;subst h9) | (go_at_call 133;refine(Oa _).mono ?_;rintro e w9 ⟨rfl,h9⟩;have h9:=h9.symm;subst h9))
  refine Ma.mono ?_
  rintro e W ⟨rfl,hb⟩
  have kk0:W.cell? ⟨R,0,none⟩=some (.slice (some ⟨g,o,none⟩) (t.length+1) c):=by rw[World.cell?_of_block (hb.block R hlt)];exact HK0.out
  have jj0:W.frozen? ⟨R,0,none⟩=false:=by rw[fB (hb.block R hlt)];exact HJ0.out
  have kk1:W.cell? ⟨g1,o1,none⟩=some x1:=by rw[World.cell?_of_block (hb.block g1 hs1)];exact Ob.out
  have jj1:W.frozen? ⟨g1,o1,none⟩=false:=by rw[fB (hb.block g1 hs1)];exact HJ1.out
  have kk2:W.cell? ⟨g2,o2,none⟩=some x2:=by rw[World.cell?_of_block (hb.block g2 hs2)];exact Ie.out
  have jj2:W.frozen? ⟨g2,o2,none⟩=false:=by rw[fB (hb.block g2 hs2)];exact HJ2.out
  have kk3:W.cell? ⟨g2,o2+1,none⟩=some x3:=by rw[World.cell?_of_block (hb.block g2 hs2)];exact HK3.out
  have jj3:W.frozen? ⟨g2,o2+1,none⟩=false:=by rw[fB (hb.block g2 hs2)];exact HJ3.out
  have HB:=aB hb
  have n1:g1≠R:=by omega
  have n2:g2≠R:=by omega
  have n3:R≠g1:=by omega
  have n4:R≠g2:=by omega
  clear hTx Oa Ma hb c0' f0 d0 d1 d2 d3 hz
  have hend:∀ X,X=(((W.setCell ⟨g1,o1,none⟩ (.string (aC y.text))).setCell ⟨g2,o2,none⟩ (.int .i64 pp.1)).setCell ⟨g2,o2+1,none⟩ (.int .i64 pp.2)).setCell ⟨R,0,none⟩ (.slice sL t.length (c - 1))→bW X R en r.tail∧(vW w g1 o1 g2 o2 (.string (aC y.text)) pp).grownBy X (some R):=by
   rintro X rfl
   refine⟨HTL.out _ fun k hk=>?_,?_⟩
   ·rw[Below.heap_setCell _ _ _ _ (by show k≠g2;omega),Below.heap_setCell _ _ _ _ (by show k≠g2;omega),Below.heap_setCell _ _ _ _ (by show k≠g1;omega),HB.out.block k (by omega)]
   ·exact(jE (jE (jE (grownBy_below HB.out (some R)) _ _) _ _) _ _).trans (grownBy_set _ _ _ _)
  have HE:=aB hend
  clear hend
  rcases hap with hap | ⟨ha1,ha2⟩
  ·have bCa:g2≠g1:=fun e=>hap e.symm
   go_wp2_with fail
   go_ret
   exact⟨rfl,HE.out _ rfl⟩
  ·have hb1:o2≠o1:=fun e=>ha1 e.symm
   have hb2:o2+1≠o1:=fun e=>ha2 e.symm
   go_wp2_with fail
   go_ret
   exact⟨rfl,HE.out _ rfl⟩
 ·have hi':r.isName=false:=by simpa using hi
  have hN:r.name en=r.fail 7 (r.here en):=by unfold Rd.name;rw[if_neg hi]
  rw[hi',hN,if_neg (by decide)]
  have HR:=aB h
  rcases Rd.Sq he hi with hrl | ⟨y,t,hrl,hk⟩ | ⟨y,t,hrl,hk,hres⟩
  ·rw[hrl]at c0
   have c0':w.cell? ⟨R,0,none⟩=some (.slice ad 0 c):=c0
   clear c0 c1 c2 c3 c4 c5 hf hc hw hN hi hi' hRs hTx h k1 k2 k3 j1 j2 j3 hap
   go_enter Tryz.func161,Tryz.ntmps161
   go_wp2_with fail
   refine hRf.mono ?_
   rintro e W ⟨rfl,h1,h2⟩
   go_wp2_with fail
   go_ret
   exact⟨rfl,h1,h2⟩
  ·rw[hrl]at c0 hw hl
   obtain⟨g,o,rfl,hg,d0,d1,d2,d3⟩:=hw.head
   have c0':w.cell? ⟨R,0,none⟩=some (.slice (some ⟨g,o,none⟩) (t.length+1) c):=c0
   have hz:((t.length:Int)+1 == 0)=false:=beq_eq_false_iff_ne.2 (by omega)
   have hkb:(y.kind != 1)=true:=by simpa using hk
   clear c0 c1 c2 c3 c4 c5 hf hc hw hN hi hi' hRs hTx h k1 k2 k3 j1 j2 j3 hap hk
   go_enter Tryz.func161,Tryz.ntmps161
   go_wp2_with fail
   refine hRf.mono ?_
   rintro e W ⟨rfl,h1,h2⟩
   go_wp2_with fail
   go_ret
   exact⟨rfl,h1,h2⟩
  ·have hX:r.text=y.text:=by unfold Rd.text;rw[hrl]
   rw[hX]at hTx
   rw[hrl]at c0 hw hl
   obtain⟨g,o,rfl,hg,d0,d1,d2,d3⟩:=hw.head
   have c0':w.cell? ⟨R,0,none⟩=some (.slice (some ⟨g,o,none⟩) (t.length+1) c):=c0
   have hz:((t.length:Int)+1 == 0)=false:=beq_eq_false_iff_ne.2 (by omega)
   rw[hk]at d0
   have Oa:=fun W=>hRs y.text W
   rw[aH,hres]at Oa
   clear c0 c1 c2 c3 c4 c5 hf hc hw hN hi hi' hRs h k1 k2 k3 j1 j2 j3 hap hk hX
   go_enter Tryz.func161,Tryz.ntmps161
   go_wp2_with (first | (go_at_call 115;refine(hTx _ HR.out).mono ?_;rintro e w9 ⟨rfl,h9⟩;have h9:=h9.symm;subst h9) | (go_at_call 133;refine(Oa _).mono ?_;rintro e w9 ⟨rfl,h9⟩;have h9:=h9.symm;subst h9))
   refine hRf.mono ?_
   rintro e W ⟨rfl,h1,h2⟩
   go_wp2_with fail
   go_ret
   exact⟨rfl,h1,h2⟩
theorem Rd.Oc {r:Rd} (h:r.isNum=true):∃ y l,r.l=y :: l∧y.kind=2:=by
 unfold Rd.isNum at h
 cases hl:r.l with
 | nil=>rw[hl]at h;simp at h
 | cons y l=>
  rw[hl]at h
  simp only[Bool.and_eq_true,decide_eq_true_iff]at h
  exact⟨y,l,rfl,h.2⟩
theorem Rd.Sr {r:Rd} (he:r.e=0) (hi:¬r.isNum=true):r.l=[]∨(∃ y t,r.l=y :: t∧¬y.kind=2):=by
 cases hl':r.l with
 | nil=>exact .inl rfl
 | cons y t=>
  refine .inr ⟨y,t,rfl,fun hk=>hi ?_⟩
  unfold Rd.isNum
  rw[hl',he]
  simp[hk]
theorem Mb:∀ (t:List UInt8) (a:Nat),t.all cJ=true→Lib.decFrom a t=some (gG (a:Int) t).toNat∧0≤gG (a:Int) t
 | [],a,_=>⟨by simp[Lib.decFrom,gG],by simp[gG]⟩
 | b :: t,a,h=>by
  rw[List.all_cons,Bool.and_eq_true]at h
  have hb:48≤b.toNat∧b.toNat≤57:=by simpa [cJ]using h.1
  have ih:=Mb t (a*10+(b.toNat - 48)) h.2
  have e1:Lib.digitVal b=some (b.toNat - 48):=by unfold Lib.digitVal;rw[if_pos hb]
  have e2:gG (a:Int) (b :: t)=gG ((a*10+(b.toNat - 48):Nat):Int) t:=by
   unfold gG
   rw[List.foldl_cons]
   congr 1
   omega
  rw[e2]
  refine⟨?_,ih.2⟩
  rw[Lib.decFrom,e1]
  exact ih.1
theorem Ss (t:List UInt8) (h:t.all cJ=true) (h0:t≠[]):Lib.atoi t=some (gG 0 t):=by
 cases t with
 | nil=>exact absurd rfl h0
 | cons b r=>
  have hh:=h
  rw[List.all_cons,Bool.and_eq_true]at h
  have hb:48≤b.toNat∧b.toNat≤57:=by simpa [cJ]using h.1
  have n1:¬(b == 45)=true:=by intro e;have:=eq_of_beq e;rw[this]at hb;simp at hb
  have n2:¬(b == 43)=true:=by intro e;have:=eq_of_beq e;rw[this]at hb;simp at hb
  have d:=Mb (b :: r) 0 hh
  rw[Lib.atoi,if_neg n1,if_neg n2,Lib.decNat,if_neg (by simp),d.1]
  have:((gG ((0:Nat):Int) (b :: r)).toNat:Int)=gG 0 (b :: r):=Int.toNat_of_nonneg d.2
  simpa using this
set_option maxHeartbeats 4000000 in
set_option maxRecDepth 20000 in
theorem Du (R:Nat) (en:Int × Int) (r:Rd) (w:World) (g1 o1:Nat) (x1:Value) (he:r.e=0) (h:bW w R en r) (hg1:R<g1)
  (k1:w.cell? ⟨g1,o1,none⟩=some x1) (j1:w.frozen? ⟨g1,o1,none⟩=false) :
  Calls Tryz.prog 163 #[.pointer (some ⟨R,0,none⟩),.pointer (some ⟨g1,o1,none⟩)] w fun x w'=>x=.returned (.bool r.isNum)∧bW w' R en (r.number en)∧
   (if r.isNum=true then w.setCell ⟨g1,o1,none⟩ (.int .i64 r.cR) else w).grownBy w' (some R):=by
 have hlt:=h.lt
 have hTx:=fun W hW=>jH R en r W hW
 have hRf:=kL R en r w he h
 obtain⟨ad,c,hl,hw,hc,c0,c1,c2,c3,c4,c5,hf⟩:=h.get
 by_cases hi:r.isNum=true
 ·obtain⟨y,t,hrl,hk⟩:=Rd.Oc hi
  have hX:r.text=y.text:=by unfold Rd.text;rw[hrl]
  have hV:r.cR=gG 0 y.text:=by unfold Rd.cR;rw[if_pos hi,hX]
  have hN:r.number en=r.tail:=by unfold Rd.number;rw[if_pos hi]
  rw[if_pos hi,hV,hN,hi]
  rw[hX]at hTx
  have hgd:=h.good y (by rw[hrl];simp)
  have hAt:=fun W=>strconv_Atoi (aC y.text) (gG 0 y.text) (by have:=(hgd.1.2 hk).2;show y.text.toArray.size≤18;simp;omega) (Ss y.text (hgd.1.2 hk).1 (hgd.2 hk)) W
  have hw0:=hw
  rw[hrl]at hw0
  obtain⟨g,o,rfl,hg,d0,d1,d2,d3⟩:=hw0.head
  obtain⟨sL,hd,hcut⟩:=qA g o t.length c (by rw[hrl]at hl;simpa using hl)
  rw[hk]at d0
  have hz:((t.length:Int)+1 == 0)=false:=beq_eq_false_iff_ne.2 (by omega)
  have HTL:Hid (∀ W:World,(∀ k,k<R+1→W.heap[k]? = w.heap[k]?)→bW (W.setCell ⟨R,0,none⟩ (.slice sL t.length (c - 1))) R en r.tail):=
   fun W hW=>(h.old hW).tail hrl ((hW R (by omega)).trans hc) (hw.old fun k hk=>hW k (by omega)) hl sL hd
  have HR:=aB h
  rw[hrl]at c0
  have c0':w.cell? ⟨R,0,none⟩=some (.slice (some ⟨g,o,none⟩) (t.length+1) c):=c0
  have f0:=hf 0
  have HK0:=aB c0'
  have HJ0:=aB f0
  have Ob:=aB k1
  have HJ1:=aB j1
  have hs1:g1<w.heap.size:=jD k1
  obtain⟨pp,hpp⟩:∃ pp,gG 0 y.text=pp:=⟨_,rfl⟩
  rw[hpp]at hAt ⊢
  clear hw hc c0 c1 c2 c3 c4 c5 hw0 hd hRf hV hN hi hk h hf hX k1 j1 he hpp hgd
  go_enter Tryz.func163,Tryz.ntmps163
  go_wp2_with (go_at_call 115;refine(hTx _ HR.out).mono ?_;rintro e w9 ⟨rfl,h9⟩;have h9:=h9.symm;subst h9)
  refine(hAt _).mono ?_
  rintro e W ⟨rfl,bt,hW⟩
  have hb:Below w.heap.size w W:=by rw[hW];exact Lib.bytesWorld_below w _ bt
  have kk0:W.cell? ⟨R,0,none⟩=some (.slice (some ⟨g,o,none⟩) (t.length+1) c):=by rw[World.cell?_of_block (hb.block R hlt)];exact HK0.out
  have jj0:W.frozen? ⟨R,0,none⟩=false:=by rw[fB (hb.block R hlt)];exact HJ0.out
  have kk1:W.cell? ⟨g1,o1,none⟩=some x1:=by rw[World.cell?_of_block (hb.block g1 hs1)];exact Ob.out
  have jj1:W.frozen? ⟨g1,o1,none⟩=false:=by rw[fB (hb.block g1 hs1)];exact HJ1.out
  have HB:=aB hb
  have n1:g1≠R:=by omega
  have n3:R≠g1:=by omega
  clear hTx hAt hb c0' f0 d0 d1 d2 d3 hz hW
  go_wp2_with fail
  go_ret
  refine⟨rfl,HTL.out _ fun k hk=>?_,?_⟩
  ·rw[Below.heap_setCell _ _ _ _ (by show k≠g1;omega),HB.out.block k (by omega)]
  ·exact(jE (grownBy_below HB.out (some R)) _ _).trans (grownBy_set _ _ _ _)
 ·have hi':r.isNum=false:=by simpa using hi
  have hN:r.number en=r.fail 7 (r.here en):=by unfold Rd.number;rw[if_neg hi]
  rw[hi',hN,if_neg (by decide)]
  rcases Rd.Sr he hi with hrl | ⟨y,t,hrl,hk⟩
  ·rw[hrl]at c0
   have c0':w.cell? ⟨R,0,none⟩=some (.slice ad 0 c):=c0
   clear c0 c1 c2 c3 c4 c5 hf hc hw hN hi hi' hTx h k1 j1
   go_enter Tryz.func163,Tryz.ntmps163
   go_wp2_with fail
   refine hRf.mono ?_
   rintro e W ⟨rfl,h1,h2⟩
   go_wp2_with fail
   go_ret
   exact⟨rfl,h1,h2⟩
  ·rw[hrl]at c0 hw hl
   obtain⟨g,o,rfl,hg,d0,d1,d2,d3⟩:=hw.head
   have c0':w.cell? ⟨R,0,none⟩=some (.slice (some ⟨g,o,none⟩) (t.length+1) c):=c0
   have hz:((t.length:Int)+1 == 0)=false:=beq_eq_false_iff_ne.2 (by omega)
   have hkb:(y.kind != 2)=true:=by simpa using hk
   clear c0 c1 c2 c3 c4 c5 hf hc hw hN hi hi' hTx h k1 j1 hk
   go_enter Tryz.func163,Tryz.ntmps163
   go_wp2_with fail
   refine hRf.mono ?_
   rintro e W ⟨rfl,h1,h2⟩
   go_wp2_with fail
   go_ret
   exact⟨rfl,h1,h2⟩
theorem bW.m {w:World} {R:Nat} {en:Int × Int} {r:Rd} (h:bW w R en r):rdM w R=r.m:=by
 obtain⟨ad,c,_,_,_,c0,_,_,_,_,c5,_⟩:=h.get
 unfold rdM Rd.m
 rw[c0,c5]
theorem bW.yW {w:World} {R:Nat} {en:Int × Int} {r:Rd} (h:bW w R en r):r.aL.length≤20000:=by
 unfold Rd.aL Rd.text
 split
 ·cases hl:r.l with
  | nil=>simp
  | cons y t=>exact(h.good y (by rw[hl];simp)).1.1
 ·simp
structure Lv (w0 wx:World) (R:Nat) (en:Int × Int) (q:Rd) (D:Nat) (T:TypeId) (cs:Array Value):Prop where
 rd:bW wx R en q
 gr:w0.grownBy wx (some R)
 loc:wx.heap[D]? = some (.cells cs T (0,0))
 lt:R<w0.heap.size
 new:w0.heap.size≤D
section
variable {w0 wx w':World} {R:Nat} {en:Int × Int} {q q':Rd} {D:Nat} {T:TypeId} {cs:Array Value}
theorem Lv.size (h:Lv w0 wx R en q D T cs):D<wx.heap.size:=(Array.getElem?_eq_some_iff.1 h.loc).1
theorem Lv.step (h:Lv w0 wx R en q D T cs) (hr:bW w' R en q') (hg:wx.grownBy w' (some R)):Lv w0 w' R en q' D T cs:=by
 have hl:=h.lt
 have hn:=h.new
 exact⟨hr,h.gr.trans hg,by rw[hg.block _ h.size (by intro e;cases e;omega)];exact h.loc,hl,hn⟩
theorem Lv.below (h:Lv w0 wx R en q D T cs) (hb:Below wx.heap.size wx w'):Lv w0 w' R en q D T cs:=h.step (h.rd.below hb) (grownBy_below hb _)
theorem Lv.alloc (h:Lv w0 wx R en q D T cs) (o:Obj):Lv w0 (wx.alloc o) R en q D T cs:=h.step (h.rd.alloc o) (World.grownBy_alloc _ _ _)
theorem Lv.drew (h:Lv w0 wx R en q D T cs):Lv w0 wx.drew R en q D T cs:=h.step h.rd.drew (grownBy_drew _ _)
theorem Lv.set (h:Lv w0 wx R en q D T cs) (j:Nat) (x:Value):Lv w0 (wx.setCell ⟨D,j,none⟩ x) R en q D T (cs.setIfInBounds j x):=by
 have hl:=h.lt
 have hn:=h.new
 exact⟨h.rd.far _ _ (by omega) _,cT h.gr (grownBy_set _ _ _ _) (fun k hk=>by cases hk;left;omega),aG h.loc _,hl,hn⟩
theorem Lv.far (h:Lv w0 wx R en q D T cs) (g j:Nat) (hg:w0.heap.size≤g) (hne:D≠g) (x:Value):Lv w0 (wx.setCell ⟨g,j,none⟩ x) R en q D T cs:=by
 have hl:=h.lt
 have hn:=h.new
 exact⟨h.rd.far _ _ (by omega) _,cT h.gr (grownBy_set _ _ _ _) (fun k hk=>by cases hk;left;omega),by rw[Below.heap_setCell _ _ _ _ hne];exact h.loc,hl,hn⟩
theorem Lv.cell (h:Lv w0 wx R en q D T cs) (j:Nat):wx.cell? ⟨D,j,none⟩=cs[j]?∧wx.frozen? ⟨D,j,none⟩=false:=by
 simp[World.cell?,World.frozen?,h.loc]
theorem Lv.ltD (h:Lv w0 wx R en q D T cs):R<D:=by have:=h.lt;have:=h.new;omega
theorem Lv.start (w0 wx:World) (h:bW wx R en q) (hg:w0.grownBy wx (some R)) (hl:R<w0.heap.size) (T:TypeId) (cs:Array Value):Lv w0 (wx.alloc (.cells cs T)) R en q wx.heap.size T cs:=
 ⟨h.alloc _,hg.trans (World.grownBy_alloc _ _ _),alloc_heap_new _ _,hl,hg.size⟩
end
section
variable {w0 wx:World} {R:Nat} {en:Int × Int} {q:Rd} {D:Nat} {T:TypeId} {cs:Array Value}
theorem dY (h:Lv w0 wx R en q D T cs) (he:q.e=0) (s:ByteArray) (hs:s.data.toList≠[]) :
  Calls Tryz.prog 162 #[.pointer (some ⟨R,0,none⟩),.string s] wx fun x w'=>x=.returned (.bool (q.is s.data.toList))∧Lv w0 w' R en (q.take en s.data.toList) D T cs:=by
 refine(Nz R en q s wx he hs h.rd).mono ?_
 rintro e w' ⟨rfl,h1,h2⟩
 exact⟨rfl,h.step h1 h2⟩
def yX (en:Int × Int) (q:Rd) (cs:Array Value) (o1 o2:Nat):Array Value:=if q.isName=true then ((cs.setIfInBounds o1 (.string (aC q.aL))).setIfInBounds o2 (.int .i64 (q.nameP en).1)).setIfInBounds (o2+1) (.int .i64 (q.nameP en).2) else cs
theorem Au (h:Lv w0 wx R en q D T cs) (he:q.e=0) (o1 o2:Nat) (h1:o1<cs.size) (h2:o2+1<cs.size) (hap:o1≠o2∧o1≠o2+1) :
  Calls Tryz.prog 161 #[.pointer (some ⟨R,0,none⟩),.pointer (some ⟨D,o1,none⟩),.pointer (some ⟨D,o2,none⟩)] wx fun x w'=>x=.returned (.bool q.isName)∧Lv w0 w' R en (q.name en) D T (yX en q cs o1 o2):=by
 have hl:=h.ltD
 have c1:=(h.cell o1).1
 have c2:=(h.cell o2).1
 have c3:=(h.cell (o2+1)).1
 rw[Array.getElem?_eq_getElem h1]at c1
 rw[Array.getElem?_eq_getElem (by omega)]at c2
 rw[Array.getElem?_eq_getElem h2]at c3
 refine(yV R en q wx D o1 D o2 _ _ _ he h.rd hl hl c1 c2 c3 (h.cell o1).2 (h.cell o2).2 (h.cell (o2+1)).2 (.inr hap)).mono ?_
 rintro e w' ⟨rfl,hr,hg⟩
 refine⟨rfl,?_⟩
 unfold yX
 by_cases hi:q.isName=true
 ·rw[if_pos hi]at hg ⊢
  exact(((h.set o1 _).set o2 _).set (o2+1) _).step hr hg
 ·rw[if_neg hi]at hg ⊢
  exact h.step hr hg
def uX (q:Rd) (cs:Array Value) (o1:Nat):Array Value:=if q.isNum=true then cs.setIfInBounds o1 (.int .i64 q.cR) else cs
theorem Dv (h:Lv w0 wx R en q D T cs) (he:q.e=0) (o1:Nat) (h1:o1<cs.size) :
  Calls Tryz.prog 163 #[.pointer (some ⟨R,0,none⟩),.pointer (some ⟨D,o1,none⟩)] wx fun x w'=>x=.returned (.bool q.isNum)∧Lv w0 w' R en (q.number en) D T (uX q cs o1):=by
 have hl:=h.ltD
 have c1:=(h.cell o1).1
 rw[Array.getElem?_eq_getElem h1]at c1
 refine(Du R en q wx D o1 _ he h.rd hl c1 (h.cell o1).2).mono ?_
 rintro e w' ⟨rfl,hr,hg⟩
 refine⟨rfl,?_⟩
 unfold uX
 by_cases hi:q.isNum=true
 ·rw[if_pos hi]at hg ⊢
  exact(h.set o1 _).step hr hg
 ·rw[if_neg hi]at hg ⊢
  exact h.step hr hg
end
end Go.Proofs.YtpojeinddnjpfaaGreatDoor
