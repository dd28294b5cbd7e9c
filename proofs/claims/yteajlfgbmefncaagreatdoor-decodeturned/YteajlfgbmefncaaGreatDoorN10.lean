/-
  Walks and plain words (FoS).
-/
import Derived.Test.YteajlfgbmefncaaGreatDoorN6
namespace Go.Proofs.YteajlfgbmefncaaGreatDoor
set_option linter.unusedVariables false
open Go.ChangeShapes Go.WideShapes Go.ChangeAt Go.RowKit

def SmM (m:MD):Prop:=m.name.length≤3000∧m.fields.length≤2000∧∀ f∈m.fields,f.name.length≤3000
def SmE (m:ED):Prop:=m.name.length≤3000∧m.values.length≤2000∧∀ f∈m.values,f.name.length≤3000
def SmT (t:TD):Prop:=t.name.length≤3000∧t.service.length≤3000
def SmS (s:SC):Prop:=s.ms.length+s.es.length+s.ts.length≤2000∧(∀ m∈s.ms,SmM m)∧(∀ m∈s.es,SmE m)∧∀ t∈s.ts,SmT t
def SmAns (s:SC) (w:World) (e:Ending) (w':World):Prop:=∃ b,e=.returned (.bool b)∧(b=true→SmS s)∧Below w.heap.size w w'
def BigS (s:SC):Prop:=(s.ms.length≤140737488355328∧s.es.length≤140737488355328∧s.ts.length≤140737488355328)∧(∀ m∈s.ms,m.name.length≤140737488355328∧m.fields.length≤140737488355328∧∀ f∈m.fields,f.name.length≤140737488355328)∧(∀ m∈s.es,m.name.length≤140737488355328∧m.values.length≤140737488355328∧∀ f∈m.values,f.name.length≤140737488355328)∧∀ t∈s.ts,t.name.length≤140737488355328∧t.service.length≤140737488355328
theorem mem_all {α:Type} {P:α→Prop} {l:List α} (h:∀ (j:Nat) (x:α),j<l.length→l[j]? = some x→P x):∀ x∈l,P x:=fun x hx=>by
 obtain⟨j,hj⟩:=List.getElem?_of_mem hx
 exact h j x (List.getElem?_eq_some_iff.1 hj).1 hj
theorem all_next {α:Type} {P:α→Prop} {l:List α} {k:Nat} {y:α} (h:∀ (j:Nat) (x:α),j<k→l[j]? = some x→P x) (hy:l[k]? = some y) (hp:P y):∀ (j:Nat) (x:α),j<k+1→l[j]? = some x→P x:=fun j x hj hx=>by
 by_cases hjk:j=k
 ·subst hjk;rw[hy]at hx;cases hx;exact hp
 ·exact h j x (by omega) hx
theorem mkB_lenI (l:List UInt8):((mkB l).size:Int)=(l.length:Int):=by rw[mkB_size]
set_option maxHeartbeats 16000000 in
set_option maxRecDepth 20000 in
theorem smallS_any (ma ea ta:Option Addr) (nm ne nt mc ec tc:Nat) (s:SC) (w:World) (hnm:s.ms.length=nm) (hne:s.es.length=ne) (hnt:s.ts.length=nt) (hbig:BigS s) (hH:HeldSc w (fun b=>b<w.heap.size) (.slice ma nm mc) (.slice ea ne ec) (.slice ta nt tc) s) :
  Calls Tryz.prog 6 #[.agg #[.slice ma nm mc,.slice ea ne ec,.slice ta nt tc]] w fun e w'=>SmAns s w e w':=by
 obtain⟨Y,hY,hC,hb,hYs⟩:=box_new w #[.slice ma nm mc,.slice ea ne ec,.slice ta nt tc] 26
 obtain⟨⟨b1,b2,b3⟩,hb2,hb3,hb4⟩:=hbig
 have HM:Hid (HeldM Y (fun b=>b<w.heap.size) (.slice ma nm mc) s.ms):=HeldN.old hH.1 fun b h=>hb.block b h
 have HE:Hid (HeldE Y (fun b=>b<w.heap.size) (.slice ea ne ec) s.es):=HeldN.old hH.2.1 fun b h=>hb.block b h
 have HT:Hid (HeldT Y (fun b=>b<w.heap.size) (.slice ta nt tc) s.ts):=RowsIn.old hH.2.2 fun b h=>hb.block b h
 have HY:=hQz hY
 have HB:=hQz hb
 have s0:=cell_at hC 0 rfl
 have s1:=cell_at hC 1 rfl
 have s2:=cell_at hC 2 rfl
 have HN:=hQz hnm
 have HNE:=hQz hne
 have HNT:=hQz hnt
 rw[hnm]at b1
 rw[hne]at b2
 rw[hnt]at b3
 clear hH hY hb hC hnm hne hnt hYs
 have hw1:IntKind.i64.wrap ((nm:Int)+(ne:Int))=(nm:Int)+(ne:Int):=by rw[IntKind.wrap_i64];omega
 have hw2:IntKind.i64.wrap ((nm:Int)+(ne:Int)+(nt:Int))=(nm:Int)+(ne:Int)+(nt:Int):=by rw[IntKind.wrap_i64];omega
 obtain⟨B0,hB0⟩:∃ b:Int,(nm:Int)+(ne:Int)+(nt:Int)=b:=⟨_,rfl⟩
 have HB0:=hQz hB0
 have hB1:0≤B0:=by omega
 have hB2:B0≤422212465065984:=by omega
 rw[hB0]at hw2
 go_enter Tryz.func6,Tryz.ntmps6
 go_upto_region 1 with fail
 rw[HY.out]
 go_wp2_with fail
 clear hw1 hw2 hB0
 go_loopw [3,23] (fun u i wr=>∃ (k:Nat) (N:Int),i=.int .i64 (k:Int)∧u=.int .i64 N∧k≤nm∧(B0≤N∧N≤422212465065984)∧(∀ (j:Nat) (x:MD),j<k→s.ms[j]? = some x→SmM x)∧wr=Y) (fun _ i _=>nm - (intOf i).toNat)
 case atStart=>exact⟨0,B0,rfl,rfl,Nat.zero_le _,⟨Int.le_refl _,by omega⟩,fun j x hj=>absurd hj (Nat.not_lt_zero _),rfl⟩
 case round=>
  obtain⟨k,N,rfl,rfl,hk,⟨hN0,hN1⟩,hall,hwr⟩:=hrel
  subst hwr
  have HA1:=hQz hall
  clear hall
  have hk0:(0:Int)≤(k:Int):=by omega
  have hwk:=wQz k (by omega)
  by_cases hkn:k<nm
  ·obtain⟨y,hy⟩:∃ y,s.ms[k]? = some y:=⟨_,List.getElem?_eq_getElem (by have:=HN.out;omega)⟩
   obtain⟨g,o,c0,ka,kc,hsl,hg,e0,e1,hrow⟩:=HeldN.at HM.out (W:=wr) (fun b hb=>rfl) hy
   obtain⟨rfl,rfl⟩:=slice_two hsl
   obtain⟨hbn,hbf,hbk⟩:=hb2 y (List.mem_of_getElem? hy)
   have hk1:(k:Int)<(nm:Int):=by omega
   have hnl:=mkB_lenI y.name
   have HNX:Hid (SmM y→∀ (j:Nat) (x:MD),j<k+1→s.ms[j]? = some x→SmM x):=fun h=>all_next HA1.out hy h
   have HROW:=hQz hrow
   obtain⟨nf,hnf⟩:∃ n,y.fields.length=n:=⟨_,rfl⟩
   have HNF:=hQz hnf
   rw[hnf]at e1 HROW hbf
   have hwN:IntKind.i64.wrap (N+(nf:Int))=N+(nf:Int):=by rw[IntKind.wrap_i64];omega
   clear hsl hy hrow hnf
   by_cases c1:N+(nf:Int)≤2000
   case neg=>
    have c1':2000<N+(nf:Int):=by omega
    go_wp2_with fail
    go_ret
    exact⟨false,rfl,(fun h=>by cases h),HB.out⟩
   have c1':¬2000<N+(nf:Int):=by omega
   by_cases c2:y.name.length≤3000
   case neg=>
    have c2':3000<((mkB y.name).size:Int):=by omega
    go_wp2_with fail
    go_ret
    exact⟨false,rfl,(fun h=>by cases h),HB.out⟩
   have c2':¬3000<((mkB y.name).size:Int):=by omega
   go_wp2_with fail
   go_loopw [54] (fun i wz=>∃ q:Nat,i=.int .i64 (q:Int)∧q≤nf∧(∀ (j:Nat) (x:FD),j<q→y.fields[j]? = some x→x.name.length≤3000)∧wz=wr) (fun i _=>nf - (intOf i).toNat)
   case atStart=>exact⟨0,rfl,Nat.zero_le _,fun j x hj=>absurd hj (Nat.not_lt_zero _),rfl⟩
   case round=>
    obtain⟨q,rfl,hq,hall,hwr⟩:=hrel
    subst hwr
    have HQ:=hQz hall
    clear hall
    have hq0:(0:Int)≤(q:Int):=by omega
    have hwq:=wQz q (by omega)
    by_cases hqn:q<nf
    ·obtain⟨x,hx⟩:∃ x,y.fields[q]? = some x:=⟨_,List.getElem?_eq_getElem (by have:=HNF.out;omega)⟩
     obtain⟨g2,o2,c2,hsl,hg2,x0,n1,x2,x3,x4⟩:=fd_at HROW.out (W:=wr) (fun b hb=>rfl) hx
     rw[HNF.out]at hsl
     obtain⟨rfl,rfl⟩:=slice_two hsl
     have hq1:(q:Int)<(nf:Int):=by omega
     have hxl:=mkB_lenI x.name
     have hbx:=hbk x (List.mem_of_getElem? hx)
     have HQX:Hid (x.name.length≤3000→∀ (j:Nat) (z:FD),j<q+1→y.fields[j]? = some z→z.name.length≤3000):=fun h=>all_next HQ.out hx h
     clear hsl hx
     by_cases c3:x.name.length≤3000
     case neg=>
      have c3':3000<((mkB x.name).size:Int):=by omega
      go_wp2_with fail
      go_ret
      exact⟨false,rfl,(fun h=>by cases h),HB.out⟩
     have c3':¬3000<((mkB x.name).size:Int):=by omega
     go_wp2_with fail
     go_roundw
     case rel=>exact⟨q+1,by go_num,by omega,HQX.out c3,trivial⟩
     case measure=>simp[intOf];omega
    ·have hqn':¬(q:Int)<(nf:Int):=by omega
     have HNN:=hQz (HNX.out ⟨c2,by have:=HNF.out;omega,mem_all fun j x hj hx=>HQ.out j x (by have:=HNF.out;omega) hx⟩)
     go_wp2_with fail
     go_roundw
     case rel=>exact⟨k+1,N+(nf:Int),by go_num,rfl,by omega,⟨by omega,by omega⟩,HNN.out,trivial⟩
     case measure=>simp[intOf];omega
  ·have hkn':¬(k:Int)<(nm:Int):=by omega
   go_wp2_with fail
   clear hk0 hwk
   go_loopw [3,74] (fun u i wz=>∃ (k:Nat) (N:Int),i=.int .i64 (k:Int)∧u=.int .i64 N∧k≤ne∧(B0≤N∧N≤422212465065984)∧(∀ (j:Nat) (x:ED),j<k→s.es[j]? = some x→SmE x)∧wz=wr) (fun _ i _=>ne - (intOf i).toNat)
   case atStart=>exact⟨0,N,rfl,rfl,Nat.zero_le _,⟨hN0,hN1⟩,fun j x hj=>absurd hj (Nat.not_lt_zero _),rfl⟩
   case round=>
    obtain⟨k,N,rfl,rfl,hk,⟨hN0,hN1⟩,hall,hwr⟩:=hrel
    subst hwr
    have HA2:=hQz hall
    clear hall
    have hk0:(0:Int)≤(k:Int):=by omega
    have hwk:=wQz k (by omega)
    by_cases hkn:k<ne
    ·obtain⟨y,hy⟩:∃ y,s.es[k]? = some y:=⟨_,List.getElem?_eq_getElem (by have:=HNE.out;omega)⟩
     obtain⟨g,o,c0,ka,kc,hsl,hg,e0,e1,hrow⟩:=HeldN.at HE.out (W:=wr) (fun b hb=>rfl) hy
     obtain⟨rfl,rfl⟩:=slice_two hsl
     obtain⟨hbn,hbf,hbk⟩:=hb3 y (List.mem_of_getElem? hy)
     have hk1:(k:Int)<(ne:Int):=by omega
     have hnl:=mkB_lenI y.name
     have HNX:Hid (SmE y→∀ (j:Nat) (x:ED),j<k+1→s.es[j]? = some x→SmE x):=fun h=>all_next HA2.out hy h
     have HROW:=hQz hrow
     obtain⟨nf,hnf⟩:∃ n,y.values.length=n:=⟨_,rfl⟩
     have HNF:=hQz hnf
     rw[hnf]at e1 HROW hbf
     have hwN:IntKind.i64.wrap (N+(nf:Int))=N+(nf:Int):=by rw[IntKind.wrap_i64];omega
     clear hsl hy hrow hnf
     by_cases c1:N+(nf:Int)≤2000
     case neg=>
      have c1':2000<N+(nf:Int):=by omega
      go_wp2_with fail
      go_ret
      exact⟨false,rfl,(fun h=>by cases h),HB.out⟩
     have c1':¬2000<N+(nf:Int):=by omega
     by_cases c2:y.name.length≤3000
     case neg=>
      have c2':3000<((mkB y.name).size:Int):=by omega
      go_wp2_with fail
      go_ret
      exact⟨false,rfl,(fun h=>by cases h),HB.out⟩
     have c2':¬3000<((mkB y.name).size:Int):=by omega
     go_wp2_with fail
     go_loopw [105] (fun i wz=>∃ q:Nat,i=.int .i64 (q:Int)∧q≤nf∧(∀ (j:Nat) (x:VD),j<q→y.values[j]? = some x→x.name.length≤3000)∧wz=wr) (fun i _=>nf - (intOf i).toNat)
     case atStart=>exact⟨0,rfl,Nat.zero_le _,fun j x hj=>absurd hj (Nat.not_lt_zero _),rfl⟩
     case round=>
      obtain⟨q,rfl,hq,hall,hwr⟩:=hrel
      subst hwr
      have HQ:=hQz hall
      clear hall
      have hq0:(0:Int)≤(q:Int):=by omega
      have hwq:=wQz q (by omega)
      by_cases hqn:q<nf
      ·obtain⟨x,hx⟩:∃ x,y.values[q]? = some x:=⟨_,List.getElem?_eq_getElem (by have:=HNF.out;omega)⟩
       obtain⟨g2,o2,c2,hsl,hg2,n1,x1⟩:=vd_at HROW.out (W:=wr) (fun b hb=>rfl) hx
       rw[HNF.out]at hsl
       obtain⟨rfl,rfl⟩:=slice_two hsl
       have hq1:(q:Int)<(nf:Int):=by omega
       have hxl:=mkB_lenI x.name
       have hbx:=hbk x (List.mem_of_getElem? hx)
       have HQX:Hid (x.name.length≤3000→∀ (j:Nat) (z:VD),j<q+1→y.values[j]? = some z→z.name.length≤3000):=fun h=>all_next HQ.out hx h
       clear hsl hx
       by_cases c3:x.name.length≤3000
       case neg=>
        have c3':3000<((mkB x.name).size:Int):=by omega
        go_wp2_with fail
        go_ret
        exact⟨false,rfl,(fun h=>by cases h),HB.out⟩
       have c3':¬3000<((mkB x.name).size:Int):=by omega
       go_wp2_with fail
       go_roundw
       case rel=>exact⟨q+1,by go_num,by omega,HQX.out c3,trivial⟩
       case measure=>simp[intOf];omega
      ·have hqn':¬(q:Int)<(nf:Int):=by omega
       have HNN:=hQz (HNX.out ⟨c2,by have:=HNF.out;omega,mem_all fun j x hj hx=>HQ.out j x (by have:=HNF.out;omega) hx⟩)
       go_wp2_with fail
       go_roundw
       case rel=>exact⟨k+1,N+(nf:Int),by go_num,rfl,by omega,⟨by omega,by omega⟩,HNN.out,trivial⟩
       case measure=>simp[intOf];omega
    ·have hkn':¬(k:Int)<(ne:Int):=by omega
     go_wp2_with fail
     go_loopw [125] (fun i wz=>∃ q:Nat,i=.int .i64 (q:Int)∧q≤nt∧(∀ (j:Nat) (x:TD),j<q→s.ts[j]? = some x→SmT x)∧wz=wr) (fun i _=>nt - (intOf i).toNat)
     case atStart=>exact⟨0,rfl,Nat.zero_le _,fun j x hj=>absurd hj (Nat.not_lt_zero _),rfl⟩
     case round=>
      obtain⟨q,rfl,hq,hall,hwr⟩:=hrel
      subst hwr
      have HQ:=hQz hall
      clear hall
      have hq0:(0:Int)≤(q:Int):=by omega
      have hwq:=wQz q (by omega)
      by_cases hqn:q<nt
      ·obtain⟨x,hx⟩:∃ x,s.ts[q]? = some x:=⟨_,List.getElem?_eq_getElem (by have:=HNT.out;omega)⟩
       obtain⟨g2,o2,c2,hsl,hg2,x0,x1,x2,x3,x4⟩:=td_at HT.out (W:=wr) (fun b hb=>rfl) hx
       rw[HNT.out]at hsl
       obtain⟨rfl,rfl⟩:=slice_two hsl
       have hq1:(q:Int)<(nt:Int):=by omega
       have hxl:=mkB_lenI x.name
       have hxs:=mkB_lenI x.service
       have hbx:=hb4 x (List.mem_of_getElem? hx)
       have HQX:Hid (SmT x→∀ (j:Nat) (z:TD),j<q+1→s.ts[j]? = some z→SmT z):=fun h=>all_next HQ.out hx h
       clear hsl hx
       by_cases c1:N≤2000
       case neg=>
        have c1':2000<N:=by omega
        go_wp2_with fail
        go_ret
        exact⟨false,rfl,(fun h=>by cases h),HB.out⟩
       have c1':¬2000<N:=by omega
       by_cases c3:x.name.length≤3000
       case neg=>
        have c3':3000<((mkB x.name).size:Int):=by omega
        go_wp2_with fail
        go_ret
        exact⟨false,rfl,(fun h=>by cases h),HB.out⟩
       have c3':¬3000<((mkB x.name).size:Int):=by omega
       by_cases c4:x.service.length≤3000
       case neg=>
        have c4':3000<((mkB x.service).size:Int):=by omega
        go_wp2_with fail
        go_ret
        exact⟨false,rfl,(fun h=>by cases h),HB.out⟩
       have c4':¬3000<((mkB x.service).size:Int):=by omega
       go_wp2_with fail
       go_roundw
       case rel=>exact⟨q+1,by go_num,by omega,HQX.out ⟨c3,c4⟩,trivial⟩
       case measure=>simp[intOf];omega
      ·have hqn':¬(q:Int)<(nt:Int):=by omega
       by_cases c1:N≤2000
       ·go_wp2_with fail
        go_ret
        refine⟨true,rfl,fun _=>⟨by have:=HN.out;have:=HNE.out;have:=HNT.out;have:=HB0.out;omega,mem_all fun j x hj hx=>HA1.out j x (by have:=HN.out;omega) hx,mem_all fun j x hj hx=>HA2.out j x (by have:=HNE.out;omega) hx,mem_all fun j x hj hx=>HQ.out j x (by have:=HNT.out;omega) hx⟩,HB.out⟩
       ·go_wp2_with fail
        go_ret
        exact⟨false,rfl,(fun h=>by cases h),HB.out⟩
end Go.Proofs.YteajlfgbmefncaaGreatDoor
