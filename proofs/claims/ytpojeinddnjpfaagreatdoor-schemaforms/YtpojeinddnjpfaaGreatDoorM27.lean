/-
  Walks and plain words (FoE).
-/
import Derived.Test.YtpojeinddnjpfaaGreatDoorM0
import Derived.Test.YtpojeinddnjpfaaGreatDoorM16
import Derived.Lib.SlicesS
namespace Go.Proofs.YtpojeinddnjpfaaGreatDoor
set_option linter.unusedVariables false
open Go.ChangeShapes Go.WideShapes Go.ChangeAt Go.RowKit

theorem dS {α:Type} {l1 l2:List α} {q:Nat} {x:α} (h:l1.take q=l2.take q) (h1:l1[q]? = some x) (h2:l2[q]? = some x):l1.take (q+1)=l2.take (q+1):=by
 rw[List.take_add_one,List.take_add_one,h,h1,h2]
theorem aAq {a b:List UInt8} (h:¬a=b):aC a≠aC b:=fun e=>h (by simpa [aC]using e)
theorem eK {a b:List UInt8} (h:¬a=b):((aC a).toList == (aC b).toList)=false:=(Lib.bytes_beq_false_iff _ _).2 (aAq h)
def mW {α:Type} (w:World) (xs ys:α) (e:Ending) (w':World):Prop:=∃ b:Bool,e=.returned (.bool b)∧(b=true↔xs=ys)∧Below w.heap.size w w'
set_option maxHeartbeats 8000000 in
set_option maxRecDepth 20000 in
theorem Vv {S:Nat→Prop} (v1 v2:Value) (xs ys:List FD) (w:World) (h1:RowsIn w S 5 cA v1 xs) (h2:RowsIn w S 5 cA v2 ys) (hS:∀ b,S b→b<w.heap.size) (hl:xs.length≤100000) :
  Calls Tryz.prog 93 #[v1,v2] w fun e w'=>mW w xs ys e w':=by
 have H1:=aB h1
 have H2:=aB h2
 obtain⟨ad1,c1,rfl⟩:=h1.cM
 obtain⟨ad2,c2,rfl⟩:=h2.cM
 clear h1 h2
 by_cases hn:xs.length=ys.length
 case neg=>
  have t':((xs.length:Int) != (ys.length:Int))=true:=by simp;omega
  have HN:=aB hn
  clear hn
  go_enter Tryz.func93,Tryz.ntmps93
  go_wp2_with fail
  go_ret
  exact⟨false,rfl,by simp;intro h;exact HN.out (by rw[h]),Below.refl _ _⟩
 have HN:=aB hn
 have hnn:((xs.length:Int) != (ys.length:Int))=false:=by simp;omega
 rw[←hn]
 rw[←hn]at hnn
 clear hn
 go_enter Tryz.func93,Tryz.ntmps93
 go_wp2_with fail
 go_loopw [13] (fun kk wq=>∃ q:Nat,kk=.int .i64 (q:Int)∧q≤xs.length∧xs.take q=ys.take q∧Below w.heap.size w wq) (fun kk _=>xs.length - (intOf kk).toNat)
 case atStart=>exact⟨0,rfl,by omega,rfl,Below.refl _ _⟩
 case round=>
  obtain⟨q,rfl,hq,htk,hbq⟩:=hrel
  have dN:=aB hbq
  have nE:=aB htk
  have zR:=hbq.size
  clear hbq htk
  by_cases nM:q<xs.length
  ·obtain⟨x1,hx1⟩:∃ x,xs[q]? = some x:=⟨_,List.getElem?_eq_getElem nM⟩
   obtain⟨x2,hx2⟩:∃ x,ys[q]? = some x:=⟨_,List.getElem?_eq_getElem (by have:=HN.out;omega)⟩
   obtain⟨g3,o3,c3,iQ,hg3,Bq,Br,aFc,aFd,aFe⟩:=kR H1.out (W:=wr) (fun b hb=>dN.out.block b (hS b hb)) hx1
   obtain⟨g4,o4,c4,iR,hg4,oB,oC,Kc,Kd,Ke⟩:=kR H2.out (W:=wr) (fun b hb=>dN.out.block b (hS b hb)) hx2
   obtain⟨rfl,rfl⟩:=aJ iQ
   obtain⟨rfl,rfl⟩:=aJ iR
   have hq0:(0:Int)≤(q:Int):=by omega
   have hq1:(q:Int)<(xs.length:Int):=by omega
   have hwq:=eE q (by omega)
   have gR:Hid (∀ nq:Nat,Below w.heap.size w (wr.drewN nq)):=fun nq=>dN.out.trans ⟨rfl,rfl,rfl,Nat.le_refl _,fun _ _=>rfl⟩
   have HX:Hid (xs=ys→x1=x2):=fun h=>by subst h;exact Option.some.inj (hx1.symm.trans hx2)
   have Qc:Hid (x1=x2→xs.take (q+1)=ys.take (q+1)):=fun h=>dS nE.out hx1 (h▸hx2)
   clear hx1 hx2 iQ iR H1 H2
   by_cases t0:x1.num=x2.num
   case neg=>
    have HQ:=aB t0
    go_wp2_with fail
    go_quiet (fail)
    go_wp2_with fail
    go_ret
    exact⟨false,rfl,by simp;intro h;exact HQ.out (by rw[HX.out h]),gR.out _⟩
   rw[←t0]at oB
   have U0:=aB t0
   clear t0
   by_cases t1:x1.name=x2.name
   case neg=>
    have t':=eK t1
    have t'':=beq_eq_false_iff_ne.2 t1
    have HQ:=aB t1
    go_wp2_with fail
    go_quiet (fail)
    go_wp2_with fail
    go_ret
    exact⟨false,rfl,by simp;intro h;exact HQ.out (by rw[HX.out h]),gR.out _⟩
   rw[←t1]at oC
   have U1:=aB t1
   clear t1
   by_cases t2:x1.kind=x2.kind
   case neg=>
    have HQ:=aB t2
    go_wp2_with fail
    go_quiet (fail)
    go_wp2_with fail
    go_ret
    exact⟨false,rfl,by simp;intro h;exact HQ.out (by rw[HX.out h]),gR.out _⟩
   rw[←t2]at Kc
   have U2:=aB t2
   clear t2
   by_cases t3:x1.rep=x2.rep
   case neg=>
    have HQ:=aB t3
    go_wp2_with fail
    go_quiet (fail)
    go_wp2_with fail
    go_ret
    exact⟨false,rfl,by simp;intro h;exact HQ.out (by rw[HX.out h]),gR.out _⟩
   rw[←t3]at Kd
   have U3:=aB t3
   clear t3
   by_cases t4:x1.type=x2.type
   case neg=>
    have HQ:=aB t4
    go_wp2_with fail
    go_quiet (fail)
    go_wp2_with fail
    go_ret
    exact⟨false,rfl,by simp;intro h;exact HQ.out (by rw[HX.out h]),gR.out _⟩
   rw[←t4]at Ke
   have U4:=aB t4
   clear t4
   have pG:=aB (Qc.out (Ts U0.out U1.out U2.out U3.out U4.out))
   go_wp2_with fail
   go_quiet (fail)
   go_wp2_with fail
   go_roundw
   case rel=>exact⟨q+1,by go_num,by omega,pG.out,gR.out _⟩
   case measure=>simp[intOf];omega
  ·have pH:¬(q:Int)<(xs.length:Int):=by omega
   have sC:Hid (xs=ys):=by
    have hqe:q=xs.length:=by omega
    have:=nE.out
    rw[hqe,List.take_length,HN.out,List.take_length]at this
    exact this
   go_wp2_with fail
   go_ret
   exact⟨true,rfl,by simp;exact sC.out,dN.out⟩
set_option maxHeartbeats 8000000 in
set_option maxRecDepth 20000 in
theorem Vw {S:Nat→Prop} (v1 v2:Value) (xs ys:List VD) (w:World) (h1:RowsIn w S 2 eV v1 xs) (h2:RowsIn w S 2 eV v2 ys) (hS:∀ b,S b→b<w.heap.size) (hl:xs.length≤100000) :
  Calls Tryz.prog 94 #[v1,v2] w fun e w'=>mW w xs ys e w':=by
 have H1:=aB h1
 have H2:=aB h2
 obtain⟨ad1,c1,rfl⟩:=h1.cM
 obtain⟨ad2,c2,rfl⟩:=h2.cM
 clear h1 h2
 by_cases hn:xs.length=ys.length
 case neg=>
  have t':((xs.length:Int) != (ys.length:Int))=true:=by simp;omega
  have HN:=aB hn
  clear hn
  go_enter Tryz.func94,Tryz.ntmps94
  go_wp2_with fail
  go_ret
  exact⟨false,rfl,by simp;intro h;exact HN.out (by rw[h]),Below.refl _ _⟩
 have HN:=aB hn
 have hnn:((xs.length:Int) != (ys.length:Int))=false:=by simp;omega
 rw[←hn]
 rw[←hn]at hnn
 clear hn
 go_enter Tryz.func94,Tryz.ntmps94
 go_wp2_with fail
 go_loopw [13] (fun kk wq=>∃ q:Nat,kk=.int .i64 (q:Int)∧q≤xs.length∧xs.take q=ys.take q∧Below w.heap.size w wq) (fun kk _=>xs.length - (intOf kk).toNat)
 case atStart=>exact⟨0,rfl,by omega,rfl,Below.refl _ _⟩
 case round=>
  obtain⟨q,rfl,hq,htk,hbq⟩:=hrel
  have dN:=aB hbq
  have nE:=aB htk
  have zR:=hbq.size
  clear hbq htk
  by_cases nM:q<xs.length
  ·obtain⟨x1,hx1⟩:∃ x,xs[q]? = some x:=⟨_,List.getElem?_eq_getElem nM⟩
   obtain⟨x2,hx2⟩:∃ x,ys[q]? = some x:=⟨_,List.getElem?_eq_getElem (by have:=HN.out;omega)⟩
   obtain⟨g3,o3,c3,iQ,hg3,Bq,Br⟩:=pV H1.out (W:=wr) (fun b hb=>dN.out.block b (hS b hb)) hx1
   obtain⟨g4,o4,c4,iR,hg4,oB,oC⟩:=pV H2.out (W:=wr) (fun b hb=>dN.out.block b (hS b hb)) hx2
   obtain⟨rfl,rfl⟩:=aJ iQ
   obtain⟨rfl,rfl⟩:=aJ iR
   have hq0:(0:Int)≤(q:Int):=by omega
   have hq1:(q:Int)<(xs.length:Int):=by omega
   have hwq:=eE q (by omega)
   have gR:Hid (∀ nq:Nat,Below w.heap.size w (wr.drewN nq)):=fun nq=>dN.out.trans ⟨rfl,rfl,rfl,Nat.le_refl _,fun _ _=>rfl⟩
   have HX:Hid (xs=ys→x1=x2):=fun h=>by subst h;exact Option.some.inj (hx1.symm.trans hx2)
   have Qc:Hid (x1=x2→xs.take (q+1)=ys.take (q+1)):=fun h=>dS nE.out hx1 (h▸hx2)
   clear hx1 hx2 iQ iR H1 H2
   by_cases t0:x1.name=x2.name
   case neg=>
    have t':=eK t0
    have t'':=beq_eq_false_iff_ne.2 t0
    have HQ:=aB t0
    go_wp2_with fail
    go_quiet (fail)
    go_wp2_with fail
    go_ret
    exact⟨false,rfl,by simp;intro h;exact HQ.out (by rw[HX.out h]),gR.out _⟩
   rw[←t0]at oB
   have U0:=aB t0
   clear t0
   by_cases t1:x1.num=x2.num
   case neg=>
    have HQ:=aB t1
    go_wp2_with fail
    go_quiet (fail)
    go_wp2_with fail
    go_ret
    exact⟨false,rfl,by simp;intro h;exact HQ.out (by rw[HX.out h]),gR.out _⟩
   rw[←t1]at oC
   have U1:=aB t1
   clear t1
   have pG:=aB (Qc.out (Tt U0.out U1.out))
   go_wp2_with fail
   go_quiet (fail)
   go_wp2_with fail
   go_roundw
   case rel=>exact⟨q+1,by go_num,by omega,pG.out,gR.out _⟩
   case measure=>simp[intOf];omega
  ·have pH:¬(q:Int)<(xs.length:Int):=by omega
   have sC:Hid (xs=ys):=by
    have hqe:q=xs.length:=by omega
    have:=nE.out
    rw[hqe,List.take_length,HN.out,List.take_length]at this
    exact this
   go_wp2_with fail
   go_ret
   exact⟨true,rfl,by simp;exact sC.out,dN.out⟩
set_option maxHeartbeats 8000000 in
set_option maxRecDepth 20000 in
theorem Vx {S:Nat→Prop} (v1 v2:Value) (xs ys:List TD) (w:World) (h1:RowsIn w S 5 gD v1 xs) (h2:RowsIn w S 5 gD v2 ys) (hS:∀ b,S b→b<w.heap.size) (hl:xs.length≤100000) :
  Calls Tryz.prog 53 #[v1,v2] w fun e w'=>mW w xs ys e w':=by
 have H1:=aB h1
 have H2:=aB h2
 obtain⟨ad1,c1,rfl⟩:=h1.cM
 obtain⟨ad2,c2,rfl⟩:=h2.cM
 clear h1 h2
 by_cases hn:xs.length=ys.length
 case neg=>
  have t':((xs.length:Int) != (ys.length:Int))=true:=by simp;omega
  have HN:=aB hn
  clear hn
  go_enter Tryz.func53,Tryz.ntmps53
  go_wp2_with fail
  go_ret
  exact⟨false,rfl,by simp;intro h;exact HN.out (by rw[h]),Below.refl _ _⟩
 have HN:=aB hn
 have hnn:((xs.length:Int) != (ys.length:Int))=false:=by simp;omega
 rw[←hn]
 rw[←hn]at hnn
 clear hn
 go_enter Tryz.func53,Tryz.ntmps53
 go_wp2_with fail
 go_loopw [13] (fun kk wq=>∃ q:Nat,kk=.int .i64 (q:Int)∧q≤xs.length∧xs.take q=ys.take q∧Below w.heap.size w wq) (fun kk _=>xs.length - (intOf kk).toNat)
 case atStart=>exact⟨0,rfl,by omega,rfl,Below.refl _ _⟩
 case round=>
  obtain⟨q,rfl,hq,htk,hbq⟩:=hrel
  have dN:=aB hbq
  have nE:=aB htk
  have zR:=hbq.size
  clear hbq htk
  by_cases nM:q<xs.length
  ·obtain⟨x1,hx1⟩:∃ x,xs[q]? = some x:=⟨_,List.getElem?_eq_getElem nM⟩
   obtain⟨x2,hx2⟩:∃ x,ys[q]? = some x:=⟨_,List.getElem?_eq_getElem (by have:=HN.out;omega)⟩
   obtain⟨g3,o3,c3,iQ,hg3,Bq,Br,aFc,aFd,aFe⟩:=tR H1.out (W:=wr) (fun b hb=>dN.out.block b (hS b hb)) hx1
   obtain⟨g4,o4,c4,iR,hg4,oB,oC,Kc,Kd,Ke⟩:=tR H2.out (W:=wr) (fun b hb=>dN.out.block b (hS b hb)) hx2
   obtain⟨rfl,rfl⟩:=aJ iQ
   obtain⟨rfl,rfl⟩:=aJ iR
   have hq0:(0:Int)≤(q:Int):=by omega
   have hq1:(q:Int)<(xs.length:Int):=by omega
   have hwq:=eE q (by omega)
   have gR:Hid (∀ nq:Nat,Below w.heap.size w (wr.drewN nq)):=fun nq=>dN.out.trans ⟨rfl,rfl,rfl,Nat.le_refl _,fun _ _=>rfl⟩
   have HX:Hid (xs=ys→x1=x2):=fun h=>by subst h;exact Option.some.inj (hx1.symm.trans hx2)
   have Qc:Hid (x1=x2→xs.take (q+1)=ys.take (q+1)):=fun h=>dS nE.out hx1 (h▸hx2)
   clear hx1 hx2 iQ iR H1 H2
   by_cases t0:x1.id=x2.id
   case neg=>
    have HQ:=aB t0
    go_wp2_with fail
    go_quiet (fail)
    go_wp2_with fail
    go_ret
    exact⟨false,rfl,by simp;intro h;exact HQ.out (by rw[HX.out h]),gR.out _⟩
   rw[←t0]at oB
   have U0:=aB t0
   clear t0
   by_cases t1:x1.service=x2.service
   case neg=>
    have t':=eK t1
    have t'':=beq_eq_false_iff_ne.2 t1
    have HQ:=aB t1
    go_wp2_with fail
    go_quiet (fail)
    go_wp2_with fail
    go_ret
    exact⟨false,rfl,by simp;intro h;exact HQ.out (by rw[HX.out h]),gR.out _⟩
   rw[←t1]at oC
   have U1:=aB t1
   clear t1
   by_cases t2:x1.name=x2.name
   case neg=>
    have t':=eK t2
    have t'':=beq_eq_false_iff_ne.2 t2
    have HQ:=aB t2
    go_wp2_with fail
    go_quiet (fail)
    go_wp2_with fail
    go_ret
    exact⟨false,rfl,by simp;intro h;exact HQ.out (by rw[HX.out h]),gR.out _⟩
   rw[←t2]at Kc
   have U2:=aB t2
   clear t2
   by_cases t3:x1.inp=x2.inp
   case neg=>
    have HQ:=aB t3
    go_wp2_with fail
    go_quiet (fail)
    go_wp2_with fail
    go_ret
    exact⟨false,rfl,by simp;intro h;exact HQ.out (by rw[HX.out h]),gR.out _⟩
   rw[←t3]at Kd
   have U3:=aB t3
   clear t3
   by_cases t4:x1.out=x2.out
   case neg=>
    have HQ:=aB t4
    go_wp2_with fail
    go_quiet (fail)
    go_wp2_with fail
    go_ret
    exact⟨false,rfl,by simp;intro h;exact HQ.out (by rw[HX.out h]),gR.out _⟩
   rw[←t4]at Ke
   have U4:=aB t4
   clear t4
   have pG:=aB (Qc.out (Tu U0.out U1.out U2.out U3.out U4.out))
   go_wp2_with fail
   go_quiet (fail)
   go_wp2_with fail
   go_roundw
   case rel=>exact⟨q+1,by go_num,by omega,pG.out,gR.out _⟩
   case measure=>simp[intOf];omega
  ·have pH:¬(q:Int)<(xs.length:Int):=by omega
   have sC:Hid (xs=ys):=by
    have hqe:q=xs.length:=by omega
    have:=nE.out
    rw[hqe,List.take_length,HN.out,List.take_length]at this
    exact this
   go_wp2_with fail
   go_ret
   exact⟨true,rfl,by simp;exact sC.out,dN.out⟩
set_option maxHeartbeats 8000000 in
set_option maxRecDepth 20000 in
theorem Qd {S:Nat→Prop} (x1 x2:MD) (pJ oD:Option Addr) (pK oE:Nat) (w:World) (h1:RowsIn w S 5 cA (.slice pJ x1.fields.length pK) x1.fields) (h2:RowsIn w S 5 cA (.slice oD x2.fields.length oE) x2.fields) (hS:∀ b,S b→b<w.heap.size) (hl:x1.fields.length≤100000) :
  Calls Tryz.prog 50 #[.agg #[.string (aC x1.name),.slice pJ x1.fields.length pK],.agg #[.string (aC x2.name),.slice oD x2.fields.length oE]] w fun e w'=>mW w x1 x2 e w':=by
 have hV:((w.alloc (.cells #[.string (aC x1.name),.slice pJ x1.fields.length pK] 48)).alloc (.cells #[.string (aC x2.name),.slice oD x2.fields.length oE] 48)).heap[w.heap.size]? = some (.cells #[.string (aC x1.name),.slice pJ x1.fields.length pK] 48 (0,0)):=by
  rw[aD _ _ _ (by simp)];exact alloc_heap_new _ _
 have hV2:((w.alloc (.cells #[.string (aC x1.name),.slice pJ x1.fields.length pK] 48)).alloc (.cells #[.string (aC x2.name),.slice oD x2.fields.length oE] 48)).heap[w.heap.size+1]? = some (.cells #[.string (aC x2.name),.slice oD x2.fields.length oE] 48 (0,0)):=by
  have:=alloc_heap_new (w.alloc (.cells #[.string (aC x1.name),.slice pJ x1.fields.length pK] 48)) (.cells #[.string (aC x2.name),.slice oD x2.fields.length oE] 48)
  simpa using this
 have hb:Below w.heap.size w ((w.alloc (.cells #[.string (aC x1.name),.slice pJ x1.fields.length pK] 48)).alloc (.cells #[.string (aC x2.name),.slice oD x2.fields.length oE] 48)):=((Below.refl _ w).alloc (Nat.le_refl _) _).alloc (by simp) _
 go_enter Tryz.func50,Tryz.ntmps50
 go_upto_region 1 with fail
 generalize ((w.alloc (.cells #[.string (aC x1.name),.slice pJ x1.fields.length pK] 48)).alloc (.cells #[.string (aC x2.name),.slice oD x2.fields.length oE] 48))=V at *
 have l0:=aA hV 0 rfl
 have l1:=aA hV 1 rfl
 have m0:=aA hV2 0 rfl
 have m1:=aA hV2 1 rfl
 have HB:=aB hb
 have hE:=Vv _ _ x1.fields x2.fields V (h1.old fun b h=>hb.block b (hS b h)) (h2.old fun b h=>hb.block b (hS b h)) (fun b h=>by have:=hb.size;have:=hS b h;omega) hl
 clear hV hV2 hb h1 h2
 by_cases t:x1.name=x2.name
 case neg=>
  have t':=eK t
  have t'':=beq_eq_false_iff_ne.2 t
  have HQ:=aB t
  go_wp2_with fail
  go_ret
  exact⟨false,rfl,by simp;intro h;exact HQ.out (by rw[h]),HB.out⟩
 rw[←t]at m0
 have HT:=aB t
 clear t
 go_wp2_with fail
 refine hE.mono ?_
 rintro e Y ⟨b,rfl,hbi,hbw⟩
 have wX:=aB hbi
 have mZ:=aB (HB.out.trans (hbw.mono HB.out.size))
 clear hbi hbw hE
 go_wp2_with fail
 go_ret
 refine⟨b,rfl,⟨fun h=>?_,fun h=>wX.out.2 (by rw[h])⟩,mZ.out⟩
 exact Tv HT.out (wX.out.1 h)
set_option maxHeartbeats 16000000 in
set_option maxRecDepth 20000 in
theorem Vy (xs ys:List MD) (v1 v2:Value) (w:World) (hl:xs.length≤100000∧∀ x∈xs,x.fields.length≤100000) (h1:kQ w (fun b=>b<w.heap.size) v1 xs) (h2:kQ w (fun b=>b<w.heap.size) v2 ys) :
  Calls Tryz.prog 49 #[v1,v2,.func (.func 50) #[] #[]] w fun e w'=>mW w xs ys e w':=by
 have H1:=aB h1
 have H2:=aB h2
 have HL:=aB hl.2
 have hl1:=hl.1
 obtain⟨ad1,c1,rfl⟩:=aW.cM h1
 obtain⟨ad2,c2,rfl⟩:=aW.cM h2
 clear h1 h2 hl
 by_cases hn:xs.length=ys.length
 case neg=>
  have t':((xs.length:Int) != (ys.length:Int))=true:=by simp;omega
  have HN:=aB hn
  clear hn
  go_enter Tryz.func49,Tryz.ntmps49
  go_wp2_with fail
  go_ret
  exact⟨false,rfl,by simp;intro h;exact HN.out (by rw[h]),Below.refl _ _⟩
 have HN:=aB hn
 have hnn:((xs.length:Int) != (ys.length:Int))=false:=by simp;omega
 rw[←hn]
 rw[←hn]at hnn
 clear hn
 go_enter Tryz.func49,Tryz.ntmps49
 go_wp2_with fail
 go_loopw [17] (fun kk wq=>∃ q:Nat,kk=.int .i64 (q:Int)∧q≤xs.length∧xs.take q=ys.take q∧Below w.heap.size w wq) (fun kk _=>xs.length - (intOf kk).toNat)
 case atStart=>exact⟨0,rfl,by omega,rfl,Below.refl _ _⟩
 case round=>
  obtain⟨q,rfl,hq,htk,hbq⟩:=hrel
  have dN:=aB hbq
  have nE:=aB htk
  have zR:=hbq.size
  clear hbq htk
  by_cases nM:q<xs.length
  ·obtain⟨x1,hx1⟩:∃ x,xs[q]? = some x:=⟨_,List.getElem?_eq_getElem nM⟩
   obtain⟨x2,hx2⟩:∃ x,ys[q]? = some x:=⟨_,List.getElem?_eq_getElem (by have:=HN.out;omega)⟩
   obtain⟨g3,o3,c3,pJ,pK,iQ,hg3,Bq,Br,r1⟩:=aW.at H1.out (W:=wr) (fun b hb=>dN.out.block b hb) hx1
   obtain⟨g4,o4,c4,oD,oE,iR,hg4,oB,oC,r2⟩:=aW.at H2.out (W:=wr) (fun b hb=>dN.out.block b hb) hx2
   obtain⟨rfl,rfl⟩:=aJ iQ
   obtain⟨rfl,rfl⟩:=aJ iR
   have aFf:∀ ob,(wr.alloc ob).cell? ⟨g4,o4+q*2,none⟩=some (.string (aC x2.name)):=fun ob=>by
    rw[World.cell?_of_block (aD wr ob g4 (by omega))];exact oB
   have aFg:∀ ob,(wr.alloc ob).cell? ⟨g4,o4+q*2+1,none⟩=some (.slice oD x2.fields.length oE):=fun ob=>by
    rw[World.cell?_of_block (aD wr ob g4 (by omega))];exact oC
   have hq0:(0:Int)≤(q:Int):=by omega
   have hq1:(q:Int)<(xs.length:Int):=by omega
   have hwq:=eE q (by omega)
   have HX:Hid (xs=ys→x1=x2):=fun h=>by subst h;exact Option.some.inj (hx1.symm.trans hx2)
   have Qc:Hid (x1=x2→xs.take (q+1)=ys.take (q+1)):=fun h=>dS nE.out hx1 (h▸hx2)
   have hkl:=HL.out x1 (List.mem_of_getElem? hx1)
   have gE:=(dN.out.alloc zR (.cells #[.string (aC x1.name),.slice pJ x1.fields.length pK] 48)).alloc (by simp;omega) (.cells #[.string (aC x2.name),.slice oD x2.fields.length oE] 48)
   have hbr:Below wr.heap.size wr ((wr.alloc (.cells #[.string (aC x1.name),.slice pJ x1.fields.length pK] 48)).alloc (.cells #[.string (aC x2.name),.slice oD x2.fields.length oE] 48)):=((Below.refl _ wr).alloc (Nat.le_refl _) _).alloc (by simp) _
   have fP:=Qd x1 x2 pJ oD pK oE ((wr.alloc (.cells #[.string (aC x1.name),.slice pJ x1.fields.length pK] 48)).alloc (.cells #[.string (aC x2.name),.slice oD x2.fields.length oE] 48)) (r1.old fun b hb=>hbr.block b (by have hb':b<w.heap.size:=hb;omega)) (r2.old fun b hb=>hbr.block b (by have hb':b<w.heap.size:=hb;omega)) (fun b hb=>by have hb':b<w.heap.size:=hb;have:=hbr.size;omega) hkl
   have cE:=aB gE
   clear hx1 hx2 r1 r2 gE hbr iQ iR H1 H2 oB oC
   go_wp2_with fail
   refine fP.mono ?_
   rintro e Y ⟨bb,rfl,hbi,hbw⟩
   have iU:=aB (cE.out.trans (hbw.mono cE.out.size))
   have wX:=aB hbi
   clear fP hbi hbw Bq aFf Br aFg
   cases bb
   case false=>
    go_wp2_with fail
    go_ret
    exact⟨false,rfl,by simp;intro h;exact absurd (wX.out.2 (HX.out h)) (by simp),iU.out⟩
   have pG:=aB (Qc.out (wX.out.1 (by simp)))
   go_wp2_with fail
   go_roundw
   case rel=>exact⟨q+1,by go_num,by omega,pG.out,iU.out⟩
   case measure=>simp[intOf];omega
  ·have pH:¬(q:Int)<(xs.length:Int):=by omega
   have sC:Hid (xs=ys):=by
    have hqe:q=xs.length:=by omega
    have:=nE.out
    rw[hqe,List.take_length,HN.out,List.take_length]at this
    exact this
   go_wp2_with fail
   go_ret
   exact⟨true,rfl,by simp;exact sC.out,dN.out⟩
set_option maxHeartbeats 8000000 in
set_option maxRecDepth 20000 in
theorem Qe {S:Nat→Prop} (x1 x2:ED) (pJ oD:Option Addr) (pK oE:Nat) (w:World) (h1:RowsIn w S 2 eV (.slice pJ x1.values.length pK) x1.values) (h2:RowsIn w S 2 eV (.slice oD x2.values.length oE) x2.values) (hS:∀ b,S b→b<w.heap.size) (hl:x1.values.length≤100000) :
  Calls Tryz.prog 52 #[.agg #[.string (aC x1.name),.slice pJ x1.values.length pK],.agg #[.string (aC x2.name),.slice oD x2.values.length oE]] w fun e w'=>mW w x1 x2 e w':=by
 have hV:((w.alloc (.cells #[.string (aC x1.name),.slice pJ x1.values.length pK] 91)).alloc (.cells #[.string (aC x2.name),.slice oD x2.values.length oE] 91)).heap[w.heap.size]? = some (.cells #[.string (aC x1.name),.slice pJ x1.values.length pK] 91 (0,0)):=by
  rw[aD _ _ _ (by simp)];exact alloc_heap_new _ _
 have hV2:((w.alloc (.cells #[.string (aC x1.name),.slice pJ x1.values.length pK] 91)).alloc (.cells #[.string (aC x2.name),.slice oD x2.values.length oE] 91)).heap[w.heap.size+1]? = some (.cells #[.string (aC x2.name),.slice oD x2.values.length oE] 91 (0,0)):=by
  have:=alloc_heap_new (w.alloc (.cells #[.string (aC x1.name),.slice pJ x1.values.length pK] 91)) (.cells #[.string (aC x2.name),.slice oD x2.values.length oE] 91)
  simpa using this
 have hb:Below w.heap.size w ((w.alloc (.cells #[.string (aC x1.name),.slice pJ x1.values.length pK] 91)).alloc (.cells #[.string (aC x2.name),.slice oD x2.values.length oE] 91)):=((Below.refl _ w).alloc (Nat.le_refl _) _).alloc (by simp) _
 go_enter Tryz.func52,Tryz.ntmps52
 go_upto_region 1 with fail
 generalize ((w.alloc (.cells #[.string (aC x1.name),.slice pJ x1.values.length pK] 91)).alloc (.cells #[.string (aC x2.name),.slice oD x2.values.length oE] 91))=V at *
 have l0:=aA hV 0 rfl
 have l1:=aA hV 1 rfl
 have m0:=aA hV2 0 rfl
 have m1:=aA hV2 1 rfl
 have HB:=aB hb
 have hE:=Vw _ _ x1.values x2.values V (h1.old fun b h=>hb.block b (hS b h)) (h2.old fun b h=>hb.block b (hS b h)) (fun b h=>by have:=hb.size;have:=hS b h;omega) hl
 clear hV hV2 hb h1 h2
 by_cases t:x1.name=x2.name
 case neg=>
  have t':=eK t
  have t'':=beq_eq_false_iff_ne.2 t
  have HQ:=aB t
  go_wp2_with fail
  go_ret
  exact⟨false,rfl,by simp;intro h;exact HQ.out (by rw[h]),HB.out⟩
 rw[←t]at m0
 have HT:=aB t
 clear t
 go_wp2_with fail
 refine hE.mono ?_
 rintro e Y ⟨b,rfl,hbi,hbw⟩
 have wX:=aB hbi
 have mZ:=aB (HB.out.trans (hbw.mono HB.out.size))
 clear hbi hbw hE
 go_wp2_with fail
 go_ret
 refine⟨b,rfl,⟨fun h=>?_,fun h=>wX.out.2 (by rw[h])⟩,mZ.out⟩
 exact Tw HT.out (wX.out.1 h)
set_option maxHeartbeats 16000000 in
set_option maxRecDepth 20000 in
theorem Vz (xs ys:List ED) (v1 v2:Value) (w:World) (hl:xs.length≤100000∧∀ x∈xs,x.values.length≤100000) (h1:rO w (fun b=>b<w.heap.size) v1 xs) (h2:rO w (fun b=>b<w.heap.size) v2 ys) :
  Calls Tryz.prog 51 #[v1,v2,.func (.func 52) #[] #[]] w fun e w'=>mW w xs ys e w':=by
 have H1:=aB h1
 have H2:=aB h2
 have HL:=aB hl.2
 have hl1:=hl.1
 obtain⟨ad1,c1,rfl⟩:=aW.cM h1
 obtain⟨ad2,c2,rfl⟩:=aW.cM h2
 clear h1 h2 hl
 by_cases hn:xs.length=ys.length
 case neg=>
  have t':((xs.length:Int) != (ys.length:Int))=true:=by simp;omega
  have HN:=aB hn
  clear hn
  go_enter Tryz.func51,Tryz.ntmps51
  go_wp2_with fail
  go_ret
  exact⟨false,rfl,by simp;intro h;exact HN.out (by rw[h]),Below.refl _ _⟩
 have HN:=aB hn
 have hnn:((xs.length:Int) != (ys.length:Int))=false:=by simp;omega
 rw[←hn]
 rw[←hn]at hnn
 clear hn
 go_enter Tryz.func51,Tryz.ntmps51
 go_wp2_with fail
 go_loopw [17] (fun kk wq=>∃ q:Nat,kk=.int .i64 (q:Int)∧q≤xs.length∧xs.take q=ys.take q∧Below w.heap.size w wq) (fun kk _=>xs.length - (intOf kk).toNat)
 case atStart=>exact⟨0,rfl,by omega,rfl,Below.refl _ _⟩
 case round=>
  obtain⟨q,rfl,hq,htk,hbq⟩:=hrel
  have dN:=aB hbq
  have nE:=aB htk
  have zR:=hbq.size
  clear hbq htk
  by_cases nM:q<xs.length
  ·obtain⟨x1,hx1⟩:∃ x,xs[q]? = some x:=⟨_,List.getElem?_eq_getElem nM⟩
   obtain⟨x2,hx2⟩:∃ x,ys[q]? = some x:=⟨_,List.getElem?_eq_getElem (by have:=HN.out;omega)⟩
   obtain⟨g3,o3,c3,pJ,pK,iQ,hg3,Bq,Br,r1⟩:=aW.at H1.out (W:=wr) (fun b hb=>dN.out.block b hb) hx1
   obtain⟨g4,o4,c4,oD,oE,iR,hg4,oB,oC,r2⟩:=aW.at H2.out (W:=wr) (fun b hb=>dN.out.block b hb) hx2
   obtain⟨rfl,rfl⟩:=aJ iQ
   obtain⟨rfl,rfl⟩:=aJ iR
   have aFf:∀ ob,(wr.alloc ob).cell? ⟨g4,o4+q*2,none⟩=some (.string (aC x2.name)):=fun ob=>by
    rw[World.cell?_of_block (aD wr ob g4 (by omega))];exact oB
   have aFg:∀ ob,(wr.alloc ob).cell? ⟨g4,o4+q*2+1,none⟩=some (.slice oD x2.values.length oE):=fun ob=>by
    rw[World.cell?_of_block (aD wr ob g4 (by omega))];exact oC
   have hq0:(0:Int)≤(q:Int):=by omega
   have hq1:(q:Int)<(xs.length:Int):=by omega
   have hwq:=eE q (by omega)
   have HX:Hid (xs=ys→x1=x2):=fun h=>by subst h;exact Option.some.inj (hx1.symm.trans hx2)
   have Qc:Hid (x1=x2→xs.take (q+1)=ys.take (q+1)):=fun h=>dS nE.out hx1 (h▸hx2)
   have hkl:=HL.out x1 (List.mem_of_getElem? hx1)
   have gE:=(dN.out.alloc zR (.cells #[.string (aC x1.name),.slice pJ x1.values.length pK] 91)).alloc (by simp;omega) (.cells #[.string (aC x2.name),.slice oD x2.values.length oE] 91)
   have hbr:Below wr.heap.size wr ((wr.alloc (.cells #[.string (aC x1.name),.slice pJ x1.values.length pK] 91)).alloc (.cells #[.string (aC x2.name),.slice oD x2.values.length oE] 91)):=((Below.refl _ wr).alloc (Nat.le_refl _) _).alloc (by simp) _
   have fP:=Qe x1 x2 pJ oD pK oE ((wr.alloc (.cells #[.string (aC x1.name),.slice pJ x1.values.length pK] 91)).alloc (.cells #[.string (aC x2.name),.slice oD x2.values.length oE] 91)) (r1.old fun b hb=>hbr.block b (by have hb':b<w.heap.size:=hb;omega)) (r2.old fun b hb=>hbr.block b (by have hb':b<w.heap.size:=hb;omega)) (fun b hb=>by have hb':b<w.heap.size:=hb;have:=hbr.size;omega) hkl
   have cE:=aB gE
   clear hx1 hx2 r1 r2 gE hbr iQ iR H1 H2 oB oC
   go_wp2_with fail
   refine fP.mono ?_
   rintro e Y ⟨bb,rfl,hbi,hbw⟩
   have iU:=aB (cE.out.trans (hbw.mono cE.out.size))
   have wX:=aB hbi
   clear fP hbi hbw Bq aFf Br aFg
   cases bb
   case false=>
    go_wp2_with fail
    go_ret
    exact⟨false,rfl,by simp;intro h;exact absurd (wX.out.2 (HX.out h)) (by simp),iU.out⟩
   have pG:=aB (Qc.out (wX.out.1 (by simp)))
   go_wp2_with fail
   go_roundw
   case rel=>exact⟨q+1,by go_num,by omega,pG.out,iU.out⟩
   case measure=>simp[intOf];omega
  ·have pH:¬(q:Int)<(xs.length:Int):=by omega
   have sC:Hid (xs=ys):=by
    have hqe:q=xs.length:=by omega
    have:=nE.out
    rw[hqe,List.take_length,HN.out,List.take_length]at this
    exact this
   go_wp2_with fail
   go_ret
   exact⟨true,rfl,by simp;exact sC.out,dN.out⟩
def aFh (s:SC):Prop:=(s.ms.length≤100000∧∀ x∈s.ms,x.fields.length≤100000)∧(s.es.length≤100000∧∀ x∈s.es,x.values.length≤100000)∧s.ts.length≤100000
theorem aCz {a b:SC} (h1:a.ms=b.ms) (h2:a.es=b.es) (h3:a.ts=b.ts):a=b:=by
 cases a;cases b;simp_all
theorem cH.old {w w':World} {S:Nat→Prop} {a b c:Value} {s:SC} (h:cH w S a b c s) (hb:∀ b,S b→w'.heap[b]? = w.heap[b]?):cH w' S a b c s:=⟨aW.old h.1 hb,aW.old h.2.1 hb,RowsIn.old h.2.2 hb⟩
theorem cH.more {w:World} {S S':Nat→Prop} {a b c:Value} {s:SC} (h:cH w S a b c s) (hb:∀ b,S b→S' b):cH w S' a b c s:=⟨aW.more h.1 hb,aW.more h.2.1 hb,RowsIn.more h.2.2 hb⟩
theorem cH.below {w w':World} {a b c:Value} {s:SC} (h:cH w (fun b=>b<w.heap.size) a b c s) (hb:Below w.heap.size w w'):cH w' (fun b=>b<w'.heap.size) a b c s:=
 (h.old fun b h=>hb.block b h).more fun b h=>by have h':b<w.heap.size:=h;have:=hb.size;omega
set_option maxHeartbeats 8000000 in
set_option maxRecDepth 20000 in
theorem zU (s t:SC) (a1 b1 c1 a2 b2 c2:Value) (w:World) (hl:aFh s) (h1:cH w (fun b=>b<w.heap.size) a1 b1 c1 s) (h2:cH w (fun b=>b<w.heap.size) a2 b2 c2 t) :
  Calls Tryz.prog 19 #[.agg #[a1,b1,c1],.agg #[a2,b2,c2]] w fun e w'=>mW w s t e w':=by
 have hV:((w.alloc (.cells #[a1,b1,c1] 29)).alloc (.cells #[a2,b2,c2] 29)).heap[w.heap.size]? = some (.cells #[a1,b1,c1] 29 (0,0)):=by
  rw[aD _ _ _ (by simp)];exact alloc_heap_new _ _
 have hV2:((w.alloc (.cells #[a1,b1,c1] 29)).alloc (.cells #[a2,b2,c2] 29)).heap[w.heap.size+1]? = some (.cells #[a2,b2,c2] 29 (0,0)):=by
  have:=alloc_heap_new (w.alloc (.cells #[a1,b1,c1] 29)) (.cells #[a2,b2,c2] 29)
  simpa using this
 have hb:Below w.heap.size w ((w.alloc (.cells #[a1,b1,c1] 29)).alloc (.cells #[a2,b2,c2] 29)):=((Below.refl _ w).alloc (Nat.le_refl _) _).alloc (by simp) _
 obtain⟨uQ,uR,rfl⟩:=aW.cM h1.1
 obtain⟨tX,tY,rfl⟩:=aW.cM h1.2.1
 obtain⟨tZ,uA,rfl⟩:=RowsIn.cM h1.2.2
 obtain⟨Kf,Kg,rfl⟩:=aW.cM h2.1
 obtain⟨Hp,Hq,rfl⟩:=aW.cM h2.2.1
 obtain⟨zV,zW,rfl⟩:=RowsIn.cM h2.2.2
 have H1:=aB h1
 have H2:=aB h2
 obtain⟨n1,hn1⟩:∃ n,s.ms.length=n:=⟨_,rfl⟩
 obtain⟨n2,hn2⟩:∃ n,s.es.length=n:=⟨_,rfl⟩
 obtain⟨n3,Qf⟩:∃ n,s.ts.length=n:=⟨_,rfl⟩
 obtain⟨k1,hk1⟩:∃ n,t.ms.length=n:=⟨_,rfl⟩
 obtain⟨k2,hk2⟩:∃ n,t.es.length=n:=⟨_,rfl⟩
 obtain⟨k3,hk3⟩:∃ n,t.ts.length=n:=⟨_,rfl⟩
 have HL:=aB hl
 rw[hn1,hn2,Qf]at hV H1 hV2 hb ⊢
 rw[hk1,hk2,hk3]at hV H2 hV2 hb ⊢
 clear h1 h2 hn1 hn2 Qf hk1 hk2 hk3 hl
 go_enter Tryz.func19,Tryz.ntmps19
 go_upto_region 1 with fail
 generalize ((w.alloc (.cells #[.slice uQ n1 uR,.slice tX n2 tY,.slice tZ n3 uA] 29)).alloc (.cells #[.slice Kf k1 Kg,.slice Hp k2 Hq,.slice zV k3 zW] 29))=V at *
 have HB:=aB hb
 have HC:Hid (∀ W,Below V.heap.size V W→W.cell? ⟨w.heap.size,1,none⟩=some (.slice tX n2 tY)∧W.cell? ⟨w.heap.size,2,none⟩=some (.slice tZ n3 uA)∧W.cell? ⟨w.heap.size+1,1,none⟩=some (.slice Hp k2 Hq)∧W.cell? ⟨w.heap.size+1,2,none⟩=some (.slice zV k3 zW)∧Below w.heap.size w W):=by
  refine(?_:∀ W,_→_)
  intro W hW
  have e1:=(hW.block _ (aN hV)).trans hV
  have e2:=(hW.block _ (aN hV2)).trans hV2
  exact⟨by simp[World.cell?,e1],by simp[World.cell?,e1],by simp[World.cell?,e2],by simp[World.cell?,e2],hb.trans (hW.mono hb.size)⟩
 have l0:=aA hV 0 rfl
 have m0:=aA hV2 0 rfl
 have hE:=Vy s.ms t.ms _ _ V HL.out.1 (H1.out.below hb).1 (H2.out.below hb).1
 clear hV hV2 hb
 go_wp2_with fail
 refine hE.mono ?_
 rintro e Y ⟨b,rfl,hbi,hbw⟩
 have wX:=aB hbi
 have HY:=aB hbw
 clear hbi hbw hE l0 m0
 cases b
 case false=>
  go_wp2_with fail
  go_ret
  exact⟨false,rfl,by simp;intro h;exact absurd (wX.out.2 (by rw[h])) (by simp),(HC.out _ HY.out).2.2.2.2⟩
 obtain⟨l1,_,m1,_,hb1⟩:=HC.out _ HY.out
 have hE:=Vz s.es t.es _ _ Y HL.out.2.1 (H1.out.below hb1).2.1 (H2.out.below hb1).2.1
 clear hb1
 go_wp2_with fail
 refine hE.mono ?_
 rintro e Y2 ⟨b,rfl,hbi,hbw⟩
 have aLu:=aB hbi
 have HY2:=aB (HY.out.trans (hbw.mono HY.out.size))
 clear hbi hbw hE l1 m1
 cases b
 case false=>
  go_wp2_with fail
  go_ret
  exact⟨false,rfl,by simp;intro h;exact absurd (aLu.out.2 (by rw[h])) (by simp),(HC.out _ HY2.out).2.2.2.2⟩
 obtain⟨_,l2,_,m2,hb2⟩:=HC.out _ HY2.out
 have hE:=Vx _ _ s.ts t.ts Y2 (H1.out.below hb2).2.2 (H2.out.below hb2).2.2 (fun b h=>h) HL.out.2.2
 clear hb2
 go_wp2_with fail
 refine hE.mono ?_
 rintro e Y3 ⟨b,rfl,hbi,hbw⟩
 have aLv:=aB hbi
 have Wa:=aB (HY2.out.trans (hbw.mono HY2.out.size))
 clear hbi hbw hE l2 m2
 go_wp2_with fail
 go_ret
 exact⟨b,rfl,⟨fun h=>aCz (wX.out.1 (by simp)) (aLu.out.1 (by simp)) (aLv.out.1 h),fun h=>aLv.out.2 (by rw[h])⟩,(HC.out _ Wa.out).2.2.2.2⟩
end Go.Proofs.YtpojeinddnjpfaaGreatDoor
