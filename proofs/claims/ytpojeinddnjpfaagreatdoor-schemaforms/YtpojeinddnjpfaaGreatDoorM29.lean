/-
  Walks and plain words (FoS PsO ThO).
-/
import Derived.Test.YtpojeinddnjpfaaGreatDoorM16
import Derived.Test.YtpojeinddnjpfaaGreatDoorM15
import Derived.Deep.Cut
import Derived.Deep.DeepCutAuto
import Derived.Test.YtpojeinddnjpfaaGreatDoorM6
namespace Go.Proofs.YtpojeinddnjpfaaGreatDoor
set_option linter.unusedVariables false
open Go.ChangeShapes Go.WideShapes Go.ChangeAt Go.RowKit

def SmM (m:MD):Prop:=m.name.length≤3000∧m.fields.length≤2000∧∀ f∈m.fields,f.name.length≤3000
def SmE (m:ED):Prop:=m.name.length≤3000∧m.values.length≤2000∧∀ f∈m.values,f.name.length≤3000
def SmT (t:TD):Prop:=t.name.length≤3000∧t.service.length≤3000
def SmS (s:SC):Prop:=s.ms.length+s.es.length+s.ts.length≤2000∧(∀ m∈s.ms,SmM m)∧(∀ m∈s.es,SmE m)∧∀ t∈s.ts,SmT t
def Wm (s:SC) (w:World) (e:Ending) (w':World):Prop:=∃ b,e=.returned (.bool b)∧(b=true→SmS s)∧Below w.heap.size w w'
def Qh (s:SC):Prop:=(s.ms.length≤140737488355328∧s.es.length≤140737488355328∧s.ts.length≤140737488355328)∧(∀ m∈s.ms,m.name.length≤140737488355328∧m.fields.length≤140737488355328∧∀ f∈m.fields,f.name.length≤140737488355328)∧(∀ m∈s.es,m.name.length≤140737488355328∧m.values.length≤140737488355328∧∀ f∈m.values,f.name.length≤140737488355328)∧∀ t∈s.ts,t.name.length≤140737488355328∧t.service.length≤140737488355328
theorem rV {α:Type} {P:α→Prop} {l:List α} (h:∀ (j:Nat) (x:α),j<l.length→l[j]? = some x→P x):∀ x∈l,P x:=fun x hx=>by
 obtain⟨j,hj⟩:=List.getElem?_of_mem hx
 exact h j x (List.getElem?_eq_some_iff.1 hj).1 hj
theorem oF {α:Type} {P:α→Prop} {l:List α} {k:Nat} {y:α} (h:∀ (j:Nat) (x:α),j<k→l[j]? = some x→P x) (hy:l[k]? = some y) (hp:P y):∀ (j:Nat) (x:α),j<k+1→l[j]? = some x→P x:=fun j x hj hx=>by
 by_cases hjk:j=k
 ·subst hjk;rw[hy]at hx;cases hx;exact hp
 ·exact h j x (by omega) hx
theorem lU (l:List UInt8):((aC l).size:Int)=(l.length:Int):=by rw[aV]
set_option maxHeartbeats 16000000 in
set_option maxRecDepth 20000 in
theorem xB (ma ea ta:Option Addr) (nm ne nt mc ec tc:Nat) (s:SC) (w:World) (hnm:s.ms.length=nm) (hne:s.es.length=ne) (hnt:s.ts.length=nt) (hbig:Qh s) (hH:cH w (fun b=>b<w.heap.size) (.slice ma nm mc) (.slice ea ne ec) (.slice ta nt tc) s) :
  Calls Tryz.prog 17 #[.agg #[.slice ma nm mc,.slice ea ne ec,.slice ta nt tc]] w fun e w'=>Wm s w e w':=by
 obtain⟨Y,hY,hC,hb,hYs⟩:=bY w #[.slice ma nm mc,.slice ea ne ec,.slice ta nt tc] 29
 obtain⟨⟨b1,b2,b3⟩,hb2,hb3,hb4⟩:=hbig
 have HM:Hid (kQ Y (fun b=>b<w.heap.size) (.slice ma nm mc) s.ms):=aW.old hH.1 fun b h=>hb.block b h
 have HE:Hid (rO Y (fun b=>b<w.heap.size) (.slice ea ne ec) s.es):=aW.old hH.2.1 fun b h=>hb.block b h
 have HT:Hid (zL Y (fun b=>b<w.heap.size) (.slice ta nt tc) s.ts):=RowsIn.old hH.2.2 fun b h=>hb.block b h
 have HY:=aB hY
 have HB:=aB hb
 have s0:=aA hC 0 rfl
 have s1:=aA hC 1 rfl
 have s2:=aA hC 2 rfl
 have HN:=aB hnm
 have Ry:=aB hne
 have Rz:=aB hnt
 rw[hnm]at b1
 rw[hne]at b2
 rw[hnt]at b3
 clear hH hY hb hC hnm hne hnt hYs
 have hw1:IntKind.i64.wrap ((nm:Int)+(ne:Int))=(nm:Int)+(ne:Int):=by rw[IntKind.wrap_i64];omega
 have hw2:IntKind.i64.wrap ((nm:Int)+(ne:Int)+(nt:Int))=(nm:Int)+(ne:Int)+(nt:Int):=by rw[IntKind.wrap_i64];omega
 obtain⟨B0,hB0⟩:∃ b:Int,(nm:Int)+(ne:Int)+(nt:Int)=b:=⟨_,rfl⟩
 have HB0:=aB hB0
 have hB1:0≤B0:=by omega
 have hB2:B0≤422212465065984:=by omega
 rw[hB0]at hw2
 go_enter Tryz.func17,Tryz.ntmps17
 go_upto_region 1 with fail
 rw[HY.out]
 go_wp2_with fail
 clear hw1 hw2 hB0
 go_loopw [3,23] (fun u i wr=>∃ (k:Nat) (N:Int),i=.int .i64 (k:Int)∧u=.int .i64 N∧k≤nm∧(B0≤N∧N≤422212465065984)∧(∀ (j:Nat) (x:MD),j<k→s.ms[j]? = some x→SmM x)∧wr=Y) (fun _ i _=>nm - (intOf i).toNat)
 case atStart=>exact⟨0,B0,rfl,rfl,Nat.zero_le _,⟨Int.le_refl _,by omega⟩,fun j x hj=>absurd hj (Nat.not_lt_zero _),rfl⟩
 case round=>
  obtain⟨k,N,rfl,rfl,hk,⟨hN0,hN1⟩,hall,hwr⟩:=hrel
  subst hwr
  have HA1:=aB hall
  clear hall
  have hk0:(0:Int)≤(k:Int):=by omega
  have hwk:=eE k (by omega)
  by_cases hkn:k<nm
  ·obtain⟨y,hy⟩:∃ y,s.ms[k]? = some y:=⟨_,List.getElem?_eq_getElem (by have:=HN.out;omega)⟩
   obtain⟨g,o,c0,ka,kc,hsl,hg,e0,e1,hrow⟩:=aW.at HM.out (W:=wr) (fun b hb=>rfl) hy
   obtain⟨rfl,rfl⟩:=aJ hsl
   obtain⟨hbn,hbf,hbk⟩:=hb2 y (List.mem_of_getElem? hy)
   have hk1:(k:Int)<(nm:Int):=by omega
   have hnl:=lU y.name
   have fS:Hid (SmM y→∀ (j:Nat) (x:MD),j<k+1→s.ms[j]? = some x→SmM x):=fun h=>oF HA1.out hy h
   have nX:=aB hrow
   obtain⟨nf,hnf⟩:∃ n,y.fields.length=n:=⟨_,rfl⟩
   have gI:=aB hnf
   rw[hnf]at e1 nX hbf
   have hwN:IntKind.i64.wrap (N+(nf:Int))=N+(nf:Int):=by rw[IntKind.wrap_i64];omega
   clear hsl hy hrow hnf
   by_cases c1:N+(nf:Int)≤2000
   case neg=>
    have c1':2000<N+(nf:Int):=by omega
    go_wp2_with fail
    go_ret
    exact⟨false,rfl,(fun h=>by cases h),HB.out⟩
   have c1':¬2000<N+(nf:Int):=by omega
   by_cases c2:y.name.length≤3000
   case neg=>
    have c2':3000<((aC y.name).size:Int):=by omega
    go_wp2_with fail
    go_ret
    exact⟨false,rfl,(fun h=>by cases h),HB.out⟩
   have c2':¬3000<((aC y.name).size:Int):=by omega
   go_wp2_with fail
   go_loopw [54] (fun i wz=>∃ q:Nat,i=.int .i64 (q:Int)∧q≤nf∧(∀ (j:Nat) (x:FD),j<q→y.fields[j]? = some x→x.name.length≤3000)∧wz=wr) (fun i _=>nf - (intOf i).toNat)
   case atStart=>exact⟨0,rfl,Nat.zero_le _,fun j x hj=>absurd hj (Nat.not_lt_zero _),rfl⟩
   case round=>
    obtain⟨q,rfl,hq,hall,hwr⟩:=hrel
    subst hwr
    have HQ:=aB hall
    clear hall
    have hq0:(0:Int)≤(q:Int):=by omega
    have hwq:=eE q (by omega)
    by_cases nM:q<nf
    ·obtain⟨x,hx⟩:∃ x,y.fields[q]? = some x:=⟨_,List.getElem?_eq_getElem (by have:=gI.out;omega)⟩
     obtain⟨g2,o2,c2,hsl,hg2,x0,n1,x2,x3,x4⟩:=kR nX.out (W:=wr) (fun b hb=>rfl) hx
     rw[gI.out]at hsl
     obtain⟨rfl,rfl⟩:=aJ hsl
     have hq1:(q:Int)<(nf:Int):=by omega
     have hxl:=lU x.name
     have hbx:=hbk x (List.mem_of_getElem? hx)
     have HQX:Hid (x.name.length≤3000→∀ (j:Nat) (z:FD),j<q+1→y.fields[j]? = some z→z.name.length≤3000):=fun h=>oF HQ.out hx h
     clear hsl hx
     by_cases c3:x.name.length≤3000
     case neg=>
      have c3':3000<((aC x.name).size:Int):=by omega
      go_wp2_with fail
      go_ret
      exact⟨false,rfl,(fun h=>by cases h),HB.out⟩
     have c3':¬3000<((aC x.name).size:Int):=by omega
     go_wp2_with fail
     go_roundw
     case rel=>exact⟨q+1,by go_num,by omega,HQX.out c3,trivial⟩
     case measure=>simp[intOf];omega
    ·have pH:¬(q:Int)<(nf:Int):=by omega
     have Yi:=aB (fS.out ⟨c2,by have:=gI.out;omega,rV fun j x hj hx=>HQ.out j x (by have:=gI.out;omega) hx⟩)
     go_wp2_with fail
     go_roundw
     case rel=>exact⟨k+1,N+(nf:Int),by go_num,rfl,by omega,⟨by omega,by omega⟩,Yi.out,trivial⟩
     case measure=>simp[intOf];omega
  ·have hkn':¬(k:Int)<(nm:Int):=by omega
   go_wp2_with fail
   clear hk0 hwk
   go_loopw [3,74] (fun u i wz=>∃ (k:Nat) (N:Int),i=.int .i64 (k:Int)∧u=.int .i64 N∧k≤ne∧(B0≤N∧N≤422212465065984)∧(∀ (j:Nat) (x:ED),j<k→s.es[j]? = some x→SmE x)∧wz=wr) (fun _ i _=>ne - (intOf i).toNat)
   case atStart=>exact⟨0,N,rfl,rfl,Nat.zero_le _,⟨hN0,hN1⟩,fun j x hj=>absurd hj (Nat.not_lt_zero _),rfl⟩
   case round=>
    obtain⟨k,N,rfl,rfl,hk,⟨hN0,hN1⟩,hall,hwr⟩:=hrel
    subst hwr
    have HA2:=aB hall
    clear hall
    have hk0:(0:Int)≤(k:Int):=by omega
    have hwk:=eE k (by omega)
    by_cases hkn:k<ne
    ·obtain⟨y,hy⟩:∃ y,s.es[k]? = some y:=⟨_,List.getElem?_eq_getElem (by have:=Ry.out;omega)⟩
     obtain⟨g,o,c0,ka,kc,hsl,hg,e0,e1,hrow⟩:=aW.at HE.out (W:=wr) (fun b hb=>rfl) hy
     obtain⟨rfl,rfl⟩:=aJ hsl
     obtain⟨hbn,hbf,hbk⟩:=hb3 y (List.mem_of_getElem? hy)
     have hk1:(k:Int)<(ne:Int):=by omega
     have hnl:=lU y.name
     have fS:Hid (SmE y→∀ (j:Nat) (x:ED),j<k+1→s.es[j]? = some x→SmE x):=fun h=>oF HA2.out hy h
     have nX:=aB hrow
     obtain⟨nf,hnf⟩:∃ n,y.values.length=n:=⟨_,rfl⟩
     have gI:=aB hnf
     rw[hnf]at e1 nX hbf
     have hwN:IntKind.i64.wrap (N+(nf:Int))=N+(nf:Int):=by rw[IntKind.wrap_i64];omega
     clear hsl hy hrow hnf
     by_cases c1:N+(nf:Int)≤2000
     case neg=>
      have c1':2000<N+(nf:Int):=by omega
      go_wp2_with fail
      go_ret
      exact⟨false,rfl,(fun h=>by cases h),HB.out⟩
     have c1':¬2000<N+(nf:Int):=by omega
     by_cases c2:y.name.length≤3000
     case neg=>
      have c2':3000<((aC y.name).size:Int):=by omega
      go_wp2_with fail
      go_ret
      exact⟨false,rfl,(fun h=>by cases h),HB.out⟩
     have c2':¬3000<((aC y.name).size:Int):=by omega
     go_wp2_with fail
     go_loopw [105] (fun i wz=>∃ q:Nat,i=.int .i64 (q:Int)∧q≤nf∧(∀ (j:Nat) (x:VD),j<q→y.values[j]? = some x→x.name.length≤3000)∧wz=wr) (fun i _=>nf - (intOf i).toNat)
     case atStart=>exact⟨0,rfl,Nat.zero_le _,fun j x hj=>absurd hj (Nat.not_lt_zero _),rfl⟩
     case round=>
      obtain⟨q,rfl,hq,hall,hwr⟩:=hrel
      subst hwr
      have HQ:=aB hall
      clear hall
      have hq0:(0:Int)≤(q:Int):=by omega
      have hwq:=eE q (by omega)
      by_cases nM:q<nf
      ·obtain⟨x,hx⟩:∃ x,y.values[q]? = some x:=⟨_,List.getElem?_eq_getElem (by have:=gI.out;omega)⟩
       obtain⟨g2,o2,c2,hsl,hg2,n1,x1⟩:=pV nX.out (W:=wr) (fun b hb=>rfl) hx
       rw[gI.out]at hsl
       obtain⟨rfl,rfl⟩:=aJ hsl
       have hq1:(q:Int)<(nf:Int):=by omega
       have hxl:=lU x.name
       have hbx:=hbk x (List.mem_of_getElem? hx)
       have HQX:Hid (x.name.length≤3000→∀ (j:Nat) (z:VD),j<q+1→y.values[j]? = some z→z.name.length≤3000):=fun h=>oF HQ.out hx h
       clear hsl hx
       by_cases c3:x.name.length≤3000
       case neg=>
        have c3':3000<((aC x.name).size:Int):=by omega
        go_wp2_with fail
        go_ret
        exact⟨false,rfl,(fun h=>by cases h),HB.out⟩
       have c3':¬3000<((aC x.name).size:Int):=by omega
       go_wp2_with fail
       go_roundw
       case rel=>exact⟨q+1,by go_num,by omega,HQX.out c3,trivial⟩
       case measure=>simp[intOf];omega
      ·have pH:¬(q:Int)<(nf:Int):=by omega
       have Yi:=aB (fS.out ⟨c2,by have:=gI.out;omega,rV fun j x hj hx=>HQ.out j x (by have:=gI.out;omega) hx⟩)
       go_wp2_with fail
       go_roundw
       case rel=>exact⟨k+1,N+(nf:Int),by go_num,rfl,by omega,⟨by omega,by omega⟩,Yi.out,trivial⟩
       case measure=>simp[intOf];omega
    ·have hkn':¬(k:Int)<(ne:Int):=by omega
     go_wp2_with fail
     go_loopw [125] (fun i wz=>∃ q:Nat,i=.int .i64 (q:Int)∧q≤nt∧(∀ (j:Nat) (x:TD),j<q→s.ts[j]? = some x→SmT x)∧wz=wr) (fun i _=>nt - (intOf i).toNat)
     case atStart=>exact⟨0,rfl,Nat.zero_le _,fun j x hj=>absurd hj (Nat.not_lt_zero _),rfl⟩
     case round=>
      obtain⟨q,rfl,hq,hall,hwr⟩:=hrel
      subst hwr
      have HQ:=aB hall
      clear hall
      have hq0:(0:Int)≤(q:Int):=by omega
      have hwq:=eE q (by omega)
      by_cases nM:q<nt
      ·obtain⟨x,hx⟩:∃ x,s.ts[q]? = some x:=⟨_,List.getElem?_eq_getElem (by have:=Rz.out;omega)⟩
       obtain⟨g2,o2,c2,hsl,hg2,x0,x1,x2,x3,x4⟩:=tR HT.out (W:=wr) (fun b hb=>rfl) hx
       rw[Rz.out]at hsl
       obtain⟨rfl,rfl⟩:=aJ hsl
       have hq1:(q:Int)<(nt:Int):=by omega
       have hxl:=lU x.name
       have hxs:=lU x.service
       have hbx:=hb4 x (List.mem_of_getElem? hx)
       have HQX:Hid (SmT x→∀ (j:Nat) (z:TD),j<q+1→s.ts[j]? = some z→SmT z):=fun h=>oF HQ.out hx h
       clear hsl hx
       by_cases c1:N≤2000
       case neg=>
        have c1':2000<N:=by omega
        go_wp2_with fail
        go_ret
        exact⟨false,rfl,(fun h=>by cases h),HB.out⟩
       have c1':¬2000<N:=by omega
       by_cases c3:x.name.length≤3000
       case neg=>
        have c3':3000<((aC x.name).size:Int):=by omega
        go_wp2_with fail
        go_ret
        exact⟨false,rfl,(fun h=>by cases h),HB.out⟩
       have c3':¬3000<((aC x.name).size:Int):=by omega
       by_cases c4:x.service.length≤3000
       case neg=>
        have c4':3000<((aC x.service).size:Int):=by omega
        go_wp2_with fail
        go_ret
        exact⟨false,rfl,(fun h=>by cases h),HB.out⟩
       have c4':¬3000<((aC x.service).size:Int):=by omega
       go_wp2_with fail
       go_roundw
       case rel=>exact⟨q+1,by go_num,by omega,HQX.out ⟨c3,c4⟩,trivial⟩
       case measure=>simp[intOf];omega
      ·have pH:¬(q:Int)<(nt:Int):=by omega
       by_cases c1:N≤2000
       ·go_wp2_with fail
        go_ret
        refine⟨true,rfl,fun _=>⟨by have:=HN.out;have:=Ry.out;have:=Rz.out;have:=HB0.out;omega,rV fun j x hj hx=>HA1.out j x (by have:=HN.out;omega) hx,rV fun j x hj hx=>HA2.out j x (by have:=Ry.out;omega) hx,rV fun j x hj hx=>HQ.out j x (by have:=Rz.out;omega) hx⟩,HB.out⟩
       ·go_wp2_with fail
        go_ret
        exact⟨false,rfl,(fun h=>by cases h),HB.out⟩
theorem uB {wr W5:World} {o:Obj} (h:Below (wr.alloc o).drew.heap.size (wr.alloc o).drew W5):W5.heap[wr.heap.size]? = some o:=
 (h.block wr.heap.size (by show wr.heap.size<(wr.heap.push o).size;simp)).trans (alloc_heap_new wr o)
theorem rW {W:World} {B:Nat} {T:TypeId} (h:W.heap[B]? = some (.cells z8 T (0,0))):W.cell? ⟨B,0,none⟩=some (.int .i64 0)∧W.cell? ⟨B,1,none⟩=some (.string ⟨#[]⟩)∧W.cell? ⟨B,2,none⟩=some (.int .i64 0)∧W.cell? ⟨B,3,none⟩=some (.int .i64 0)∧W.cell? ⟨B,4,none⟩=some (.slice none 0 0)∧W.cell? ⟨B,5,none⟩=some (.slice none 0 0)∧W.cell? ⟨B,6,none⟩=some (.slice none 0 0)∧W.cell? ⟨B,7,none⟩=some (.slice none 0 0)∧W.frozen? ⟨B,0,none⟩=false∧W.frozen? ⟨B,1,none⟩=false∧W.frozen? ⟨B,2,none⟩=false∧W.frozen? ⟨B,3,none⟩=false∧W.frozen? ⟨B,4,none⟩=false∧W.frozen? ⟨B,5,none⟩=false∧W.frozen? ⟨B,6,none⟩=false∧W.frozen? ⟨B,7,none⟩=false:=by
 refine⟨?_,?_,?_,?_,?_,?_,?_,?_,?_,?_,?_,?_,?_,?_,?_,?_⟩
 all_goals simp[World.cell?,World.frozen?,h]
structure qU (f:Nat) (w:World) (base:Nat) (S:Nat→Prop) (v:Value) (ds:List Dc) (rs:List (List Value)):Prop where
 own:w.ownsRow base 69 8 v ds.length (rs.flatMap id)
 len:rs.length=ds.length
 kids:∀ (j:Nat) (d:Dc),ds[j]? = some d→∃ fs vs ms ins,rs[j]? = some (eZ d fs vs ms ins)∧Kids f w S fs vs ms ins d
theorem qU.nil (f:Nat) (w:World) (base:Nat) (S:Nat→Prop):qU f w base S (.slice none 0 0) [] []:=⟨World.ownsRow_nil _ _ _ _,rfl,fun j d h=>by simp at h⟩
theorem qU.Zh {f:Nat} {w:World} {base:Nat} {S:Nat→Prop} {v:Value} {ds:List Dc} {rs:List (List Value)} (h:qU f w base S v ds rs):∀ r∈rs,r.length=8:=by
 intro r hr
 obtain⟨j,hj⟩:=List.getElem?_of_mem hr
 have hlt:=(List.getElem?_eq_some_iff.1 hj).1
 have hlt2:j<ds.length:=by rw[←h.len];exact hlt
 obtain⟨fs,vs,ms,ins,h1,_⟩:=h.kids j (ds[j]'hlt2) (by rw[List.getElem?_eq_getElem hlt2])
 rw[hj]at h1
 rw[Option.some.inj h1];rfl
theorem qU.held {f:Nat} {w:World} {base:Nat} {S S':Nat→Prop} {v:Value} {ds:List Dc} {rs:List (List Value)} (h:qU f w base S v ds rs) (hS:∀ b,S b→S' b) (hv:∀ b,v.ownBlock=some b→S' b):aM (f+1) w S' v ds:=by
 have h8:=h.Zh
 have hk:=h.kids
 have hlen:=h.len
 obtain⟨hl,⟨rfl,h0⟩ | ⟨g,cap,cur,rfl,hg,hh,h3,h4,h5,h6⟩⟩:=h.own
 ·exact⟨none,0,by rw[h0],by omega,.inl (List.eq_nil_of_length_eq_zero h0)⟩
 ·refine⟨_,cap,rfl,h3,.inr ⟨g,0,rfl,hv g rfl,fun j d hj=>?_⟩⟩
  obtain⟨fs,vs,ms,ins,hr,hkd⟩:=hk j d hj
  refine⟨fs,vs,ms,ins,fun i u hu=>?_,hkd.more hS⟩
  have hi:i<8:=(List.getElem?_eq_some_iff.1 hu).1
  have e:=Sl rs j _ i h8 hi hr
  have hjl:=(List.getElem?_eq_some_iff.1 hj).1
  rw[←h6,List.getElem?_take,if_pos (by omega),hu]at e
  simp only[World.cell?,hh]
  rw[Nat.zero_add]
  simpa using e
theorem qU.keep {f:Nat} {w w':World} {base:Nat} {S S':Nat→Prop} {v:Value} {ds:List Dc} {rs:List (List Value)} (h:qU f w base S v ds rs) (ho:∀ b,v.ownBlock=some b→w'.heap[b]? = w.heap[b]?) (hb:∀ b,S b→w'.heap[b]? = w.heap[b]?) (hS:∀ b,S b→S' b):qU f w' base S' v ds rs:=
 ⟨aR h.own ho,h.len,fun j d hj=>by
  obtain⟨fs,vs,ms,ins,h1,h2⟩:=h.kids j d hj
  exact⟨fs,vs,ms,ins,h1,(h2.old hb).more hS⟩⟩
theorem qU.aLw {f:Nat} {wx:World} {base:Nat} {S:Nat→Prop} {v:Value} {ds:List Dc} {rs:List (List Value)} (h:qU f wx base S v ds rs) (hb0:base≤wx.heap.size) (x:Dc) (kf kv km ki:Value) (T:Nat→Prop) (iW:Kids f wx T kf kv km ki x) (hone:∀ u∈eZ x kf kv km ki,u.oneCell'=true)
  (hS:∀ b,S b∨T b→b<wx.heap.size∧v.ownBlock≠some b) {ops:Array Oper} {rest:List Oper} {o:Oper} {a:Act} {Q:Exit→Act→World→Prop} (hgd:o.guard=none) (s' x':Operand)
  (ho:o.op=.call { callee:=.builtin .append,args:=#[s',x'],argTypes:=#[35,35] })
  (nO:Array Value) (hcs:nO=(eZ x kf kv km ki).toArray) (hs:a.eval s'=v) (hx:a.eval x'=.slice (some ⟨wx.heap.size,0,none⟩) 1 1) (hbd:ds.length≤100000)
  (hk:∀ g cap W,qU f W base (fun b=>S b∨T b) (.slice (some ⟨g,0,none⟩) (ds.length+1) cap) (ds++[x]) (rs++[eZ x kf kv km ki])→wx.grownBy W v.ownBlock→(∀ b,S b∨T b→b≠g)→base≤g→wpList Tryz.prog ops Q rest (a.put o.dst (.slice (some ⟨g,0,none⟩) (ds.length+1) cap)) W) :
  wpList Tryz.prog ops Q (o :: rest) a (wx.alloc (.cells nO 69)):=by
 subst hcs
 obtain⟨i0,hi0,hz0,hz1,hz2⟩:=info_parts uZ
 refine wpList_append_lies _ hgd s' x' 35 ho base 69 i0 _ 8 136 Tryz.underlying35 hi0 hz0 hz1 hz2 rfl (by decide) v ds.length (rs.flatMap id) hs (World.ownsRow.alloc h.own _) ⟨wx.heap.size,0,none⟩ 1 1 (eZ x kf kv km ki) hx rfl ?_ hone (by decide) (by unfold maxLen;omega) (by omega) (by simp;omega) _ rfl ?_
 ·exact World.news_of_block (cs:=(eZ x kf kv km ki).toArray) (t:=69) (fr:=(0,0)) (by show (wx.heap.push _)[wx.heap.size]? = _;simp)
 ·intro g cap W hown hg hat hlt
  have hsa:(wx.alloc (.cells (eZ x kf kv km ki).toArray 69)).heap.size=wx.heap.size+1:=by simp
  have hkW:∀ b,b<wx.heap.size→v.ownBlock≠some b→W.heap[b]? = wx.heap[b]?:=fun b hb hne=>by
   rw[hg.block b (by rw[hsa];omega) (fun e=>hne e.symm),aD _ _ _ hb]
  have hng:∀ b,S b∨T b→b≠g:=fun b hb e=>by
   subst e
   obtain⟨h1,h2⟩:=hS b hb
   rcases hat with e | e
   ·exact h2 e
   ·rw[hsa]at e;omega
  have hgb:base≤g:=by
   rcases hat with e | e
   ·exact(aE h.own g e).1
   ·rw[hsa]at e;omega
  refine hk g cap W ⟨?_,?_,?_⟩ ((World.grownBy_alloc _ _ _).trans hg) hng hgb
  ·rw[List.length_append,List.flatMap_append]
   simpa using hown
  ·rw[List.length_append,List.length_append,h.len];rfl
  ·intro j d hj
   by_cases hjl:j<ds.length
   ·rw[List.getElem?_append_left hjl]at hj
    obtain⟨f1,v1,m1,i1,hr1,hk1⟩:=h.kids j d hj
    exact⟨f1,v1,m1,i1,by rw[List.getElem?_append_left (by rw[h.len];exact hjl)];exact hr1,(hk1.old fun b hb'=>hkW b (hS b (.inl hb')).1 (hS b (.inl hb')).2).more fun b hb=>.inl hb⟩
   ·have hjn:=(List.getElem?_eq_some_iff.1 hj).1
    rw[List.length_append]at hjn
    have pD:j=ds.length:=by simp at hjn;omega
    subst pD
    rw[List.getElem?_append_right (Nat.le_refl _),Nat.sub_self]at hj
    have e:x=d:=by simpa using hj
    subst e
    exact⟨kf,kv,km,ki,by rw[←h.len,List.getElem?_append_right (Nat.le_refl _),Nat.sub_self];rfl,(iW.old fun b hb'=>hkW b (hS b (.inr hb')).1 (hS b (.inr hb')).2).more fun b hb=>.inr hb⟩
end Go.Proofs.YtpojeinddnjpfaaGreatDoor
