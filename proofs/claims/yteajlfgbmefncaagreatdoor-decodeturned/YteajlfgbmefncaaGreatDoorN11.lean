/-
  Walks and plain words (VkB SlS2).
-/
import Derived.Test.YteajlfgbmefncaaGreatDoorN6
import Derived.Test.YteajlfgbmefncaaGreatDoorN10
import Derived.Test.YteajlfgbmefncaaGreatDoorN5
import Derived.Laws.AppendOwn
import Derived.OwnWalk
namespace Go.Proofs.YteajlfgbmefncaaGreatDoor
set_option linter.unusedVariables false
open Go.ChangeShapes Go.WideShapes Go.ChangeAt Go.RowKit

set_option maxHeartbeats 4000000 in
set_option maxRecDepth 20000 in
theorem typeFits_any (x:FD) (ty:Int) (w:World):Calls Tryz.prog 80 #[.agg #[.int .i64 x.num,.string (mkB x.name),.int .i64 x.kind,.bool x.rep,.int .i64 x.type],.int .i64 ty] w fun e w'=>e=.returned (.bool (typeFits x ty))∧Below w.heap.size w w':=by
 obtain⟨num,name,kind,rep,type⟩:=x
 dsimp only
 obtain⟨Y,hY,hC,hb,hYs⟩:=box_new w #[.int .i64 num,.string (mkB name),.int .i64 kind,.bool rep,.int .i64 type] 51
 have HY:=hQz hY
 have HB:=hQz hb
 have c2:=cell_at hC 2 rfl
 have c3:=cell_at hC 3 rfl
 have h:=ownT_any kind Y
 obtain⟨R,hR⟩:∃ R,typeFits ⟨num,name,kind,rep,type⟩ ty=R:=⟨_,rfl⟩
 have HR:Hid ((decide (ty=ownT kind) || (rep&&decide (ty=2)))=R):=hR
 rw[hR]
 obtain⟨t,ht⟩:∃ t,ownT kind=t:=⟨_,rfl⟩
 rw[ht]at h HR
 clear ht hR hY hb hC hYs
 by_cases h1:ty=t
 ·subst h1
  have e:R=true:=by rw[←HR.out];simp
  subst e
  go_enter Tryz.func80,Tryz.ntmps80
  go_upto_region 1 with fail
  rw[HY.out]
  go_wp2_with fail
  refine h.mono ?_
  rintro e W ⟨rfl,hW⟩
  have hW:=hW.symm
  subst hW
  go_wp2_with fail
  go_ret
  exact⟨rfl,HB.out⟩
 have h1':(ty == t)=false:=beq_eq_false_iff_ne.2 h1
 cases rep
 ·have e:R=false:=by rw[←HR.out];simp[h1]
  subst e
  go_enter Tryz.func80,Tryz.ntmps80
  go_upto_region 1 with fail
  rw[HY.out]
  go_wp2_with fail
  refine h.mono ?_
  rintro e W ⟨rfl,hW⟩
  have hW:=hW.symm
  subst hW
  go_wp2_with fail
  go_ret
  exact⟨rfl,HB.out⟩
 ·have e:R=(ty == 2):=by rw[←HR.out];simp[h1];rfl
  subst e
  go_enter Tryz.func80,Tryz.ntmps80
  go_upto_region 1 with fail
  rw[HY.out]
  go_wp2_with fail
  refine h.mono ?_
  rintro e W ⟨rfl,hW⟩
  have hW:=hW.symm
  subst hW
  go_wp2_with fail
  go_ret
  exact⟨rfl,HB.out⟩
set_option maxHeartbeats 8000000 in
set_option maxRecDepth 20000 in
theorem knownP_any (nm:List UInt8) (fa:Option Addr) (n fc:Nat) (fs:List FD) (num ty:Int) (w:World) (hn:fs.length=n) (hl:n≤100000) (hH:RowsIn w (fun b=>b<w.heap.size) 5 fdrow (.slice fa n fc) fs) :
  Calls Tryz.prog 53 #[.agg #[.string (mkB nm),.slice fa n fc],.int .i64 num,.int .i64 ty] w fun e w'=>e=.returned (.bool (knownP fs num ty))∧Below w.heap.size w w':=by
 obtain⟨R,hR⟩:∃ R,knownP fs num ty=R:=⟨_,rfl⟩
 have HR:Hid ((!allB (atB fs fun _ f=>!knownB num ty f) fs.length)=R):=hR
 rw[hR]
 clear hR
 obtain⟨Y,hY,hC,hb,hYs⟩:=box_new w #[.string (mkB nm),.slice fa n fc] 54
 have HY:=hQz hY
 have HB:=hQz hb
 have HN:=hQz hn
 have HH:=hQz hH
 have HC:=hQz hC
 have c1:=cell_at hC 1 rfl
 have hYl:w.heap.size+1≤Y.heap.size:=by omega
 clear hn hH hC hY hb hYs
 go_enter Tryz.func53,Tryz.ntmps53
 go_upto_region 1 with fail
 rw[HY.out]
 go_wp2_with fail
 go_loopw [12] (fun i wr=>∃ (k:Nat),i=.int .i64 (k:Int)∧k≤n∧allB (atB fs fun _ f=>!knownB num ty f) k=true∧Below w.heap.size w wr) (fun i _=>n - (intOf i).toNat)
 case atStart=>exact⟨0,rfl,Nat.zero_le _,rfl,HB.out⟩
 case round=>
  generalize wr=w1 at *
  obtain⟨k,rfl,hk,hall,hbel⟩:=hrel
  have HBE:=hQz hbel
  have HA:=hQz hall
  have hws:=hbel.size
  clear hbel hall c1
  by_cases hkn:k<n
  ·skip
   obtain⟨y,hy⟩:∃ y,fs[k]? = some y:=⟨_,List.getElem?_eq_getElem (by have:=HN.out;omega)⟩
   obtain⟨g,oo,c0,hsl,hg,e0,e1,e2,e3,e4⟩:=fd_at HH.out (W:=w1) (fun b hb=>HBE.out.block b hb) hy
   rw[HN.out]at hsl
   obtain⟨rfl,rfl⟩:=slice_two hsl
   have HYY:=hQz hy
   have hk0:(0:Int)≤(k:Int):=by omega
   have hk1:(k:Int)<(n:Int):=by omega
   have hwq:=wQz k (by omega)
   clear hsl hy
   have hC:(w1.alloc (.cells #[.int .i64 y.num,.string (mkB y.name),.int .i64 y.kind,.bool y.rep,.int .i64 y.type] 51)).heap[w1.heap.size]? = some (.cells #[.int .i64 y.num,.string (mkB y.name),.int .i64 y.kind,.bool y.rep,.int .i64 y.type] 51 (0,0)):=alloc_heap_new _ _
   have hCb:Below w1.heap.size w1 (w1.alloc (.cells #[.int .i64 y.num,.string (mkB y.name),.int .i64 y.kind,.bool y.rep,.int .i64 y.type] 51)):=(Below.refl _ w1).alloc (Nat.le_refl _) _
   go_upto_region 4 with fail
   generalize (w1.alloc (.cells #[.int .i64 y.num,.string (mkB y.name),.int .i64 y.kind,.bool y.rep,.int .i64 y.type] 51))=X at *
   have HBX:=hQz (HBE.out.trans (hCb.mono hws))
   have l0:=cell_at hC 0 rfl
   have l1:=cell_at hC 1 rfl
   have l2:=cell_at hC 2 rfl
   have l3:=cell_at hC 3 rfl
   have l4:=cell_at hC 4 rfl
   have h:=typeFits_any y ty X
   have HKB:Hid (atB fs (fun _ f=>!knownB num ty f) k=!(decide (y.num=num)&&typeFits y ty)):=atB_some HYY.out
   clear hC hCb e0 e1 e2 e3 e4
   by_cases hnum:y.num=num
   case neg=>
    have hnb:(y.num == num)=false:=beq_eq_false_iff_ne.2 hnum
    have HK2:Hid (atB fs (fun _ f=>!knownB num ty f) k=true):=by
     refine(?_:_=_)
     rw[HKB.out,decide_eq_false hnum];rfl
    clear h HKB
    go_wp2_with fail
    go_roundw
    case rel=>exact⟨k+1,by go_num,by omega,allB_step HA.out HK2.out,HBX.out⟩
    case measure=>simp[intOf];omega
   obtain⟨b,hb⟩:∃ b,typeFits y ty=b:=⟨_,rfl⟩
   rw[hb,decide_eq_true hnum]at HKB
   rw[hb]at h
   have hnb:(y.num == num)=true:=beq_iff_eq.2 hnum
   clear hb hnum
   go_wp2_with fail
   refine h.mono ?_
   rintro e W2 ⟨rfl,hb2⟩
   have HB2:=hQz (HBX.out.trans (hb2.mono HBX.out.size))
   clear hb2 h l0 l1 l2 l3 l4
   cases b
   case false=>
    go_wp2_with fail
    go_roundw
    case rel=>exact⟨k+1,by go_num,by omega,allB_step HA.out HKB.out,HB2.out⟩
    case measure=>simp[intOf];omega
   case true=>
    have e:R=true:=by rw[←HR.out,allB_no (j:=k) HKB.out (by have:=HN.out;omega)];rfl
    subst e
    go_wp2_with fail
    go_ret
    exact⟨rfl,HB2.out⟩
  ·have hkn':¬(k:Int)<(n:Int):=by omega
   have e:R=false:=by
    have hkk:k=fs.length:=by have:=HN.out;omega
    rw[←HR.out,←hkk,HA.out];rfl
   subst e
   go_wp2_with fail
   go_ret
   exact⟨rfl,HBE.out⟩
theorem set5_all {w:World} {B:Nat} {T:TypeId} {z0 z1 z2 z3 z4:Value} (h:w.heap[B]? = some (.cells #[z0,z1,z2,z3,z4] T (0,0))) (x0 x1 x2 x3 x4:Value) :
  ∃ Y,(((((w.setCell ⟨B,0,none⟩ x0).setCell ⟨B,1,none⟩ x1).setCell ⟨B,2,none⟩ x2).setCell ⟨B,3,none⟩ x3).setCell ⟨B,4,none⟩ x4)=Y∧Y.heap[B]? = some (.cells #[x0,x1,x2,x3,x4] T (0,0))∧(∀ b,b≠B→Y.heap[b]? = w.heap[b]?)∧Y.heap.size=w.heap.size∧Below B w Y:=by
 have h1:(w.setCell ⟨B,0,none⟩ x0).heap[B]? = some (.cells #[x0,z1,z2,z3,z4] T (0,0)):=setCell_heap h _
 have h2:((w.setCell ⟨B,0,none⟩ x0).setCell ⟨B,1,none⟩ x1).heap[B]? = some (.cells #[x0,x1,z2,z3,z4] T (0,0)):=setCell_heap h1 _
 have h3:(((w.setCell ⟨B,0,none⟩ x0).setCell ⟨B,1,none⟩ x1).setCell ⟨B,2,none⟩ x2).heap[B]? = some (.cells #[x0,x1,x2,z3,z4] T (0,0)):=setCell_heap h2 _
 have h4:((((w.setCell ⟨B,0,none⟩ x0).setCell ⟨B,1,none⟩ x1).setCell ⟨B,2,none⟩ x2).setCell ⟨B,3,none⟩ x3).heap[B]? = some (.cells #[x0,x1,x2,x3,z4] T (0,0)):=setCell_heap h3 _
 have h5:(((((w.setCell ⟨B,0,none⟩ x0).setCell ⟨B,1,none⟩ x1).setCell ⟨B,2,none⟩ x2).setCell ⟨B,3,none⟩ x3).setCell ⟨B,4,none⟩ x4).heap[B]? = some (.cells #[x0,x1,x2,x3,x4] T (0,0)):=setCell_heap h4 _
 have hb:Below B w (((((w.setCell ⟨B,0,none⟩ x0).setCell ⟨B,1,none⟩ x1).setCell ⟨B,2,none⟩ x2).setCell ⟨B,3,none⟩ x3).setCell ⟨B,4,none⟩ x4):=((((((Below.refl B w).setCell (p:=⟨B,0,none⟩) (Nat.le_refl _) x0).setCell (p:=⟨B,1,none⟩) (Nat.le_refl _) x1).setCell (p:=⟨B,2,none⟩) (Nat.le_refl _) x2).setCell (p:=⟨B,3,none⟩) (Nat.le_refl _) x3).setCell (p:=⟨B,4,none⟩) (Nat.le_refl _) x4)
 refine⟨_,rfl,h5,fun b hb=>?_,by simp,hb⟩
 rw[Below.heap_setCell _ _ _ _ (show b≠(⟨B,4,none⟩:Addr).block from hb),Below.heap_setCell _ _ _ _ (show b≠(⟨B,3,none⟩:Addr).block from hb),Below.heap_setCell _ _ _ _ (show b≠(⟨B,2,none⟩:Addr).block from hb),Below.heap_setCell _ _ _ _ (show b≠(⟨B,1,none⟩:Addr).block from hb),Below.heap_setCell _ _ _ _ (show b≠(⟨B,0,none⟩:Addr).block from hb)]
theorem set7_all {w:World} {B:Nat} {T:TypeId} {z0 z1 z2 z3 z4 z5 z6:Value} (h:w.heap[B]? = some (.cells #[z0,z1,z2,z3,z4,z5,z6] T (0,0))) (x0 x1 x2 x3 x4 x5 x6:Value) :
  ∃ Y,(((((((w.setCell ⟨B,0,none⟩ x0).setCell ⟨B,1,none⟩ x1).setCell ⟨B,2,none⟩ x2).setCell ⟨B,3,none⟩ x3).setCell ⟨B,4,none⟩ x4).setCell ⟨B,5,none⟩ x5).setCell ⟨B,6,none⟩ x6)=Y∧Y.heap[B]? = some (.cells #[x0,x1,x2,x3,x4,x5,x6] T (0,0))∧(∀ b,b≠B→Y.heap[b]? = w.heap[b]?)∧Y.heap.size=w.heap.size∧Below B w Y:=by
 have h1:(w.setCell ⟨B,0,none⟩ x0).heap[B]? = some (.cells #[x0,z1,z2,z3,z4,z5,z6] T (0,0)):=setCell_heap h _
 have h2:((w.setCell ⟨B,0,none⟩ x0).setCell ⟨B,1,none⟩ x1).heap[B]? = some (.cells #[x0,x1,z2,z3,z4,z5,z6] T (0,0)):=setCell_heap h1 _
 have h3:(((w.setCell ⟨B,0,none⟩ x0).setCell ⟨B,1,none⟩ x1).setCell ⟨B,2,none⟩ x2).heap[B]? = some (.cells #[x0,x1,x2,z3,z4,z5,z6] T (0,0)):=setCell_heap h2 _
 have h4:((((w.setCell ⟨B,0,none⟩ x0).setCell ⟨B,1,none⟩ x1).setCell ⟨B,2,none⟩ x2).setCell ⟨B,3,none⟩ x3).heap[B]? = some (.cells #[x0,x1,x2,x3,z4,z5,z6] T (0,0)):=setCell_heap h3 _
 have h5:(((((w.setCell ⟨B,0,none⟩ x0).setCell ⟨B,1,none⟩ x1).setCell ⟨B,2,none⟩ x2).setCell ⟨B,3,none⟩ x3).setCell ⟨B,4,none⟩ x4).heap[B]? = some (.cells #[x0,x1,x2,x3,x4,z5,z6] T (0,0)):=setCell_heap h4 _
 have h6:((((((w.setCell ⟨B,0,none⟩ x0).setCell ⟨B,1,none⟩ x1).setCell ⟨B,2,none⟩ x2).setCell ⟨B,3,none⟩ x3).setCell ⟨B,4,none⟩ x4).setCell ⟨B,5,none⟩ x5).heap[B]? = some (.cells #[x0,x1,x2,x3,x4,x5,z6] T (0,0)):=setCell_heap h5 _
 have h7:(((((((w.setCell ⟨B,0,none⟩ x0).setCell ⟨B,1,none⟩ x1).setCell ⟨B,2,none⟩ x2).setCell ⟨B,3,none⟩ x3).setCell ⟨B,4,none⟩ x4).setCell ⟨B,5,none⟩ x5).setCell ⟨B,6,none⟩ x6).heap[B]? = some (.cells #[x0,x1,x2,x3,x4,x5,x6] T (0,0)):=setCell_heap h6 _
 have hb:Below B w (((((((w.setCell ⟨B,0,none⟩ x0).setCell ⟨B,1,none⟩ x1).setCell ⟨B,2,none⟩ x2).setCell ⟨B,3,none⟩ x3).setCell ⟨B,4,none⟩ x4).setCell ⟨B,5,none⟩ x5).setCell ⟨B,6,none⟩ x6):=((((((((Below.refl B w).setCell (p:=⟨B,0,none⟩) (Nat.le_refl _) x0).setCell (p:=⟨B,1,none⟩) (Nat.le_refl _) x1).setCell (p:=⟨B,2,none⟩) (Nat.le_refl _) x2).setCell (p:=⟨B,3,none⟩) (Nat.le_refl _) x3).setCell (p:=⟨B,4,none⟩) (Nat.le_refl _) x4).setCell (p:=⟨B,5,none⟩) (Nat.le_refl _) x5).setCell (p:=⟨B,6,none⟩) (Nat.le_refl _) x6)
 refine⟨_,rfl,h7,fun b hb=>?_,by simp,hb⟩
 rw[Below.heap_setCell _ _ _ _ (show b≠(⟨B,6,none⟩:Addr).block from hb),Below.heap_setCell _ _ _ _ (show b≠(⟨B,5,none⟩:Addr).block from hb),Below.heap_setCell _ _ _ _ (show b≠(⟨B,4,none⟩:Addr).block from hb),Below.heap_setCell _ _ _ _ (show b≠(⟨B,3,none⟩:Addr).block from hb),Below.heap_setCell _ _ _ _ (show b≠(⟨B,2,none⟩:Addr).block from hb),Below.heap_setCell _ _ _ _ (show b≠(⟨B,1,none⟩:Addr).block from hb),Below.heap_setCell _ _ _ _ (show b≠(⟨B,0,none⟩:Addr).block from hb)]
def DefAns (fs:List FD) (num:Int) (w:World) (e:Ending) (w':World):Prop:=∃ (x:FD) (b:Bool),e=.returned (.tuple #[.agg #[.int .i64 x.num,.string (mkB x.name),.int .i64 x.kind,.bool x.rep,.int .i64 x.type],.bool b])∧(b=true→firstF fs num=some x)∧(b=false→firstF fs num=none)∧Below w.heap.size w w'
set_option maxHeartbeats 8000000 in
set_option maxRecDepth 20000 in
theorem defined_any (nm:List UInt8) (fa:Option Addr) (n fc:Nat) (fs:List FD) (num:Int) (w:World) (hn:fs.length=n) (hl:n≤100000) (hH:RowsIn w (fun b=>b<w.heap.size) 5 fdrow (.slice fa n fc) fs) :
  Calls Tryz.prog 58 #[.agg #[.string (mkB nm),.slice fa n fc],.int .i64 num] w fun e w'=>DefAns fs num w e w':=by
 obtain⟨V,hV,hD,hVb,hVs⟩:=box_new (w.alloc (.cells #[.string (mkB nm),.slice fa n fc] 54)) #[.int .i64 0,.string ⟨#[]⟩,.int .i64 0,.bool false,.int .i64 0] 51
 have hBV:Below w.heap.size w V:=((Below.refl _ w).alloc (Nat.le_refl _) _).trans (hVb.mono (by simp))
 have hD0:V.heap[w.heap.size+1]? = some (.cells #[.int .i64 0,.string ⟨#[]⟩,.int .i64 0,.bool false,.int .i64 0] 51 (0,0)):=by simpa using hD
 have hC0:V.heap[w.heap.size]? = some (.cells #[.string (mkB nm),.slice fa n fc] 54 (0,0)):=(hVb.block _ (by simp)).trans (alloc_heap_new _ _)
 have HV:=hQz hV
 have HBV:=hQz hBV
 have HD:=hQz hD0
 have hVs2:w.heap.size+2≤V.heap.size:=by rw[hVs];simp
 have HN:=hQz hn
 have HH:=hQz hH
 have c1:=cell_at hC0 1 rfl
 clear hn hH hC0 hV hVb hVs hD hD0 hBV
 go_enter Tryz.func58,Tryz.ntmps58
 go_upto_region 1 with fail
 rw[HV.out]
 go_wp2_with fail
 go_loopw [11] (fun i wr=>∃ (k:Nat),i=.int .i64 (k:Int)∧k≤n∧(∀ (j:Nat) (g:FD),j<k→fs[j]? = some g→g.num≠num)∧Below w.heap.size w wr∧w.heap.size+2≤wr.heap.size∧wr.heap[w.heap.size+1]? = some (.cells #[.int .i64 0,.string ⟨#[]⟩,.int .i64 0,.bool false,.int .i64 0] 51 (0,0))) (fun i _=>n - (intOf i).toNat)
 case atStart=>exact⟨0,rfl,Nat.zero_le _,fun j g h=>absurd h (Nat.not_lt_zero _),HBV.out,hVs2,HD.out⟩
 case round=>
  generalize wr=w1 at *
  obtain⟨k,rfl,hk,hall,hbel,hws,hz⟩:=hrel
  have HBE:=hQz hbel
  have HA:=hQz hall
  have HZ:=hQz hz
  clear hbel hall c1 hz HD HBV hVs2
  by_cases hkn:k<n
  ·skip
   obtain⟨y,hy⟩:∃ y,fs[k]? = some y:=⟨_,List.getElem?_eq_getElem (by have:=HN.out;omega)⟩
   obtain⟨g,oo,c0,hsl,hg,e0,e1,e2,e3,e4⟩:=fd_at HH.out (W:=w1) (fun b hb=>HBE.out.block b hb) hy
   rw[HN.out]at hsl
   obtain⟨rfl,rfl⟩:=slice_two hsl
   have HYY:=hQz hy
   have hk0:(0:Int)≤(k:Int):=by omega
   have hk1:(k:Int)<(n:Int):=by omega
   have hwq:=wQz k (by omega)
   clear hsl hy
   have hC:(w1.alloc (.cells #[.int .i64 y.num,.string (mkB y.name),.int .i64 y.kind,.bool y.rep,.int .i64 y.type] 51)).heap[w1.heap.size]? = some (.cells #[.int .i64 y.num,.string (mkB y.name),.int .i64 y.kind,.bool y.rep,.int .i64 y.type] 51 (0,0)):=alloc_heap_new _ _
   have hCb:Below w1.heap.size w1 (w1.alloc (.cells #[.int .i64 y.num,.string (mkB y.name),.int .i64 y.kind,.bool y.rep,.int .i64 y.type] 51)):=(Below.refl _ w1).alloc (Nat.le_refl _) _
   go_upto_region 4 with fail
   generalize (w1.alloc (.cells #[.int .i64 y.num,.string (mkB y.name),.int .i64 y.kind,.bool y.rep,.int .i64 y.type] 51))=X at *
   have HBX:=hQz (HBE.out.trans (hCb.mono (by omega)))
   have hZX:X.heap[w.heap.size+1]? = some (.cells #[.int .i64 0,.string ⟨#[]⟩,.int .i64 0,.bool false,.int .i64 0] 51 (0,0)):=(hCb.block _ (by omega)).trans HZ.out
   have hXs:w1.heap.size+1≤X.heap.size:=by have:=(Array.getElem?_eq_some_iff.1 hC).1;omega
   have HZX:=hQz hZX
   have l0:=cell_at hC 0 rfl
   have l1:=cell_at hC 1 rfl
   have l2:=cell_at hC 2 rfl
   have l3:=cell_at hC 3 rfl
   have l4:=cell_at hC 4 rfl
   clear hC hCb e0 e1 e2 e3 e4
   by_cases hnum:y.num=num
   case neg=>
    have hnb:(y.num == num)=false:=beq_eq_false_iff_ne.2 hnum
    have HNE:=hQz hnum
    clear hZX hnum
    go_wp2_with fail
    go_roundw
    case rel=>exact⟨k+1,by go_num,by omega,all_next HA.out HYY.out HNE.out,HBX.out,by omega,HZX.out⟩
    case measure=>simp[intOf];omega
   have hnb:(y.num == num)=true:=beq_iff_eq.2 hnum
   have HF1:Hid (firstF fs num=some y):=firstF_is ⟨HYY.out,hnum,HA.out⟩
   have k0:=cell_at hZX 0 rfl
   have kf0:X.frozen? ⟨w.heap.size+1,0,none⟩=false:=frz_at hZX 0
   have k1:=cell_at hZX 1 rfl
   have kf1:X.frozen? ⟨w.heap.size+1,1,none⟩=false:=frz_at hZX 1
   have k2:=cell_at hZX 2 rfl
   have kf2:X.frozen? ⟨w.heap.size+1,2,none⟩=false:=frz_at hZX 2
   have k3:=cell_at hZX 3 rfl
   have kf3:X.frozen? ⟨w.heap.size+1,3,none⟩=false:=frz_at hZX 3
   have k4:=cell_at hZX 4 rfl
   have kf4:X.frozen? ⟨w.heap.size+1,4,none⟩=false:=frz_at hZX 4
   obtain⟨Q,hQ,hQc,_,_,hQb⟩:=set5_all hZX (.int .i64 y.num) (.string (mkB y.name)) (.int .i64 y.kind) (.bool y.rep) (.int .i64 y.type)
   have HQ:=hQz hQ
   have HBQ:=hQz (HBX.out.trans (hQb.mono (show w.heap.size≤w.heap.size+1 by omega)))
   have HQC:=hQz hQc
   clear hQ hQc hQb hZX hnum
   go_wp2_with fail
   rw[HQ.out]
   have r0:=cell_at HQC.out 0 rfl
   have r1:=cell_at HQC.out 1 rfl
   have r2:=cell_at HQC.out 2 rfl
   have r3:=cell_at HQC.out 3 rfl
   have r4:=cell_at HQC.out 4 rfl
   refine bodyPost_ret (v:=.tuple #[.agg #[.int .i64 y.num,.string (mkB y.name),.int .i64 y.kind,.bool y.rep,.int .i64 y.type],.bool true]) (by simp[results,Tryz.results58,go_sem,r0,r1,r2,r3,r4]) rfl ?_
   exact⟨y,true,rfl,fun _=>HF1.out,(fun h=>by cases h),HBQ.out⟩
  ·have hkn':¬(k:Int)<(n:Int):=by omega
   have HF0:Hid (firstF fs num=none):=firstF_no fun j g hg=>HA.out j g (by have:=HN.out;have:=(List.getElem?_eq_some_iff.1 hg).1;omega) hg
   have hZX:=HZ.out
   have k0:=cell_at hZX 0 rfl
   have kf0:w1.frozen? ⟨w.heap.size+1,0,none⟩=false:=frz_at hZX 0
   have k1:=cell_at hZX 1 rfl
   have kf1:w1.frozen? ⟨w.heap.size+1,1,none⟩=false:=frz_at hZX 1
   have k2:=cell_at hZX 2 rfl
   have kf2:w1.frozen? ⟨w.heap.size+1,2,none⟩=false:=frz_at hZX 2
   have k3:=cell_at hZX 3 rfl
   have kf3:w1.frozen? ⟨w.heap.size+1,3,none⟩=false:=frz_at hZX 3
   have k4:=cell_at hZX 4 rfl
   have kf4:w1.frozen? ⟨w.heap.size+1,4,none⟩=false:=frz_at hZX 4
   obtain⟨Q,hQ,hQc,_,_,hQb⟩:=set5_all hZX (.int .i64 0) (.string ⟨#[]⟩) (.int .i64 0) (.bool false) (.int .i64 0)
   have HQ:=hQz hQ
   have HBQ:=hQz (HBE.out.trans (hQb.mono (show w.heap.size≤w.heap.size+1 by omega)))
   have HQC:=hQz hQc
   clear hQ hQc hQb hZX
   go_wp2_with fail
   rw[HQ.out]
   have r0:=cell_at HQC.out 0 rfl
   have r1:=cell_at HQC.out 1 rfl
   have r2:=cell_at HQC.out 2 rfl
   have r3:=cell_at HQC.out 3 rfl
   have r4:=cell_at HQC.out 4 rfl
   refine bodyPost_ret (v:=.tuple #[.agg #[.int .i64 0,.string ⟨#[]⟩,.int .i64 0,.bool false,.int .i64 0],.bool false]) (by simp[results,Tryz.results58,go_sem,r0,r1,r2,r3,r4]) rfl ?_
   exact⟨⟨0,[],0,false,0⟩,false,rfl,(fun h=>by cases h),fun _=>HF0.out,HBQ.out⟩
def FindAns (fs:List FD) (num:Int) (w:World) (e:Ending) (w':World):Prop:=∃ (r:Int),e=.returned (.int .i64 r)∧((r=-1∧NoField fs num)∨∃ (i:Nat) (x:FD),r=(i:Int)∧isFirst fs num i x)∧Below w.heap.size w w'
set_option maxHeartbeats 8000000 in
set_option maxRecDepth 20000 in
theorem find_any (nm:List UInt8) (fa:Option Addr) (n fc:Nat) (fs:List FD) (num:Int) (w:World) (hn:fs.length=n) (hl:n≤100000) (hH:RowsIn w (fun b=>b<w.heap.size) 5 fdrow (.slice fa n fc) fs) :
  Calls Tryz.prog 65 #[.agg #[.string (mkB nm),.slice fa n fc],.int .i64 num] w fun e w'=>FindAns fs num w e w':=by
 obtain⟨Y,hY,hC,hb,hYs⟩:=box_new w #[.string (mkB nm),.slice fa n fc] 54
 have HY:=hQz hY
 have HB:=hQz hb
 have HN:=hQz hn
 have HH:=hQz hH
 have HC:=hQz hC
 have c1:=cell_at hC 1 rfl
 have hYl:w.heap.size+1≤Y.heap.size:=by omega
 clear hn hH hC hY hb hYs
 go_enter Tryz.func65,Tryz.ntmps65
 go_upto_region 1 with fail
 rw[HY.out]
 go_wp2_with fail
 go_loopw [9] (fun i wr=>∃ (k:Nat),i=.int .i64 (k:Int)∧k≤n∧(∀ (j:Nat) (g:FD),j<k→fs[j]? = some g→g.num≠num)∧wr=Y) (fun i _=>n - (intOf i).toNat)
 case atStart=>exact⟨0,rfl,Nat.zero_le _,fun j g h=>absurd h (Nat.not_lt_zero _),rfl⟩
 case round=>
  obtain⟨k,rfl,hk,hall,hwr⟩:=hrel
  subst hwr
  generalize wr=w1 at *
  have HA:=hQz hall
  have HBE:=HB
  clear hall
  by_cases hkn:k<n
  ·skip
   obtain⟨y,hy⟩:∃ y,fs[k]? = some y:=⟨_,List.getElem?_eq_getElem (by have:=HN.out;omega)⟩
   obtain⟨g,oo,c0,hsl,hg,e0,e1,e2,e3,e4⟩:=fd_at HH.out (W:=w1) (fun b hb=>HBE.out.block b hb) hy
   rw[HN.out]at hsl
   obtain⟨rfl,rfl⟩:=slice_two hsl
   have HYY:=hQz hy
   have hk0:(0:Int)≤(k:Int):=by omega
   have hk1:(k:Int)<(n:Int):=by omega
   have hwq:=wQz k (by omega)
   clear hsl hy
   clear e1 e2 e3 e4
   by_cases hnum:y.num=num
   case neg=>
    have hnb:(y.num == num)=false:=beq_eq_false_iff_ne.2 hnum
    have HNE:=hQz hnum
    clear hnum
    go_wp2_with fail
    go_roundw
    case rel=>exact⟨k+1,by go_num,by omega,all_next HA.out HYY.out HNE.out,(by first | trivial | rfl)⟩
    case measure=>simp[intOf];omega
   have hnb:(y.num == num)=true:=beq_iff_eq.2 hnum
   have HF1:Hid (isFirst fs num k y):=⟨HYY.out,hnum,HA.out⟩
   clear hnum
   go_wp2_with fail
   go_ret
   exact⟨_,rfl,.inr ⟨k,y,rfl,HF1.out⟩,HB.out⟩
  ·have hkn':¬(k:Int)<(n:Int):=by omega
   have HF0:Hid (NoField fs num):=fun j g hg=>HA.out j g (by have:=HN.out;have:=(List.getElem?_eq_some_iff.1 hg).1;omega) hg
   go_wp2_with fail
   go_ret
   exact⟨_,rfl,.inl ⟨rfl,HF0.out⟩,HB.out⟩
set_option maxHeartbeats 8000000 in
set_option maxRecDepth 20000 in
theorem knownR_any (nm:List UInt8) (fa:Option Addr) (n fc:Nat) (fs:List FD) (num ty:Int) (w:World) (hn:fs.length=n) (hl:n≤100000) (hH:RowsIn w (fun b=>b<w.heap.size) 5 fdrow (.slice fa n fc) fs) :
  Calls Tryz.prog 39 #[.agg #[.string (mkB nm),.slice fa n fc],.int .i64 num,.int .i64 ty] w fun e w'=>e=.returned (.bool (knownR fs num ty))∧Below w.heap.size w w':=by
 obtain⟨R,hR⟩:∃ R,knownR fs num ty=R:=⟨_,rfl⟩
 have HR:=hQz hR
 rw[hR]
 clear hR
 obtain⟨Y,hY,hC,hb,hYs⟩:=box_new w #[.string (mkB nm),.slice fa n fc] 54
 have HY:=hQz hY
 have HB:=hQz hb
 have HN:=hQz hn
 have HH:=hQz hH
 have HC:=hQz hC
 have c1:=cell_at hC 1 rfl
 have hYl:w.heap.size+1≤Y.heap.size:=by omega
 have c0:=cell_at hC 0 rfl
 have h:=find_any nm fa n fc fs num Y hn hl ((RowsIn.old hH fun b h=>hb.block b h).more fun b h=>by have:=hb.size;omega)
 clear hn hH hC hY hb hYs
 go_enter Tryz.func39,Tryz.ntmps39
 go_upto_region 1 with fail
 rw[HY.out]
 go_wp2_with fail
 refine h.mono ?_
 rintro e W ⟨r,rfl,hr,hbW⟩
 have HBW:=hQz (HB.out.trans (hbW.mono HB.out.size))
 have HWC:Hid (W.heap[w.heap.size]? = _):=(hbW.block _ (by omega)).trans HC.out
 clear h hbW c0 c1
 rcases hr with ⟨rfl,hno⟩ | ⟨i,y,rfl,hfi⟩
 ·have e:R=false:=by rw[←HR.out];unfold knownR;rw[firstF_no hno]
  subst e
  clear hno
  go_wp2_with fail
  go_ret
  exact⟨rfl,HBW.out⟩
 have hil:i<n:=by have:=(List.getElem?_eq_some_iff.1 hfi.1).1;have:=HN.out;omega
 obtain⟨g,oo,c0,hsl,hg,e0,e1,e2,e3,e4⟩:=fd_at HH.out (W:=W) (fun b hb=>HBW.out.block b hb) hfi.1
 rw[HN.out]at hsl
 obtain⟨rfl,rfl⟩:=slice_two hsl
 have HRR:Hid ((decide (ty=wireT y.kind) || (y.rep&&(decide (wireT y.kind≠2)&&decide (ty=2))))=R):=by
  refine(?_:_=_)
  rw[←HR.out];unfold knownR;rw[firstF_is hfi]
 have c1:=cell_at HWC.out 1 rfl
 have hi0:(0:Int)≤(i:Int):=by omega
 have hi1:(i:Int)<(n:Int):=by omega
 have hi2:¬(i:Int)<0:=by omega
 have hWl:w.heap.size+1≤W.heap.size:=by have:=(Array.getElem?_eq_some_iff.1 HWC.out).1;omega
 clear hsl hfi HR hil
 obtain⟨ynum,yname,ykind,yrep,ytype⟩:=y
 dsimp only at e0 e1 e2 e3 e4 HRR
 have hC:(W.alloc (.cells #[.int .i64 ynum,.string (mkB yname),.int .i64 ykind,.bool yrep,.int .i64 ytype] 51)).heap[W.heap.size]? = some (.cells #[.int .i64 ynum,.string (mkB yname),.int .i64 ykind,.bool yrep,.int .i64 ytype] 51 (0,0)):=alloc_heap_new _ _
 have hCb:Below W.heap.size W (W.alloc (.cells #[.int .i64 ynum,.string (mkB yname),.int .i64 ykind,.bool yrep,.int .i64 ytype] 51)):=(Below.refl _ W).alloc (Nat.le_refl _) _
 go_upto_region 5 with fail
 generalize (W.alloc (.cells #[.int .i64 ynum,.string (mkB yname),.int .i64 ykind,.bool yrep,.int .i64 ytype] 51))=X at *
 have HBX:=hQz (HBW.out.trans (hCb.mono (by omega)))
 have l2:=cell_at hC 2 rfl
 have l3:=cell_at hC 3 rfl
 have hwt:=fun W=>wireT_any ykind W
 have hpk:=fun W=>packed_any ykind W
 obtain⟨t,ht⟩:∃ t,wireT ykind=t:=⟨_,rfl⟩
 obtain⟨p,hp⟩:∃ p,decide (t≠2)=p:=⟨_,rfl⟩
 rw[ht]at HRR
 rw[hp]at HRR
 simp only[ht,hp]at hwt hpk
 clear hC hCb ht hp e0 e1 e2 e3 e4
 by_cases h1:ty=t
 ·subst h1
  have e:R=true:=by rw[←HRR.out];simp
  subst e
  go_wp2_with fail
  refine(hwt _).mono ?_
  rintro e W3 ⟨rfl,hW⟩
  have hW:=hW.symm
  subst hW
  go_wp2_with fail
  go_ret
  exact⟨rfl,HBX.out⟩
 have h1':(ty == t)=false:=beq_eq_false_iff_ne.2 h1
 cases yrep
 ·have e:R=false:=by rw[←HRR.out];simp[h1]
  subst e
  go_wp2_with fail
  refine(hwt _).mono ?_
  rintro e W3 ⟨rfl,hW⟩
  have hW:=hW.symm
  subst hW
  go_wp2_with fail
  go_ret
  exact⟨rfl,HBX.out⟩
 cases p
 ·have e:R=false:=by rw[←HRR.out];simp[h1]
  subst e
  go_wp2_with fail
  refine(hwt _).mono ?_
  rintro e W3 ⟨rfl,hW⟩
  have hW:=hW.symm
  subst hW
  go_wp2_with fail
  refine(hpk _).mono ?_
  rintro e W3 ⟨rfl,hW⟩
  have hW:=hW.symm
  subst hW
  go_wp2_with fail
  go_ret
  exact⟨rfl,HBX.out⟩
 ·have e:R=(ty == 2):=by rw[←HRR.out];simp[h1];rfl
  subst e
  go_wp2_with fail
  refine(hwt _).mono ?_
  rintro e W3 ⟨rfl,hW⟩
  have hW:=hW.symm
  subst hW
  go_wp2_with fail
  refine(hpk _).mono ?_
  rintro e W3 ⟨rfl,hW⟩
  have hW:=hW.symm
  subst hW
  go_wp2_with fail
  go_ret
  exact⟨rfl,HBX.out⟩
theorem info9:(Tryz.prog.info? 9).map (fun i=>(i.zero,i.size,i.bytes))=some (some (.string ByteArray.empty),1,16):=by kernel_rfl
def OwnS (w:World) (base:Nat) (v:Value) (xs:List ByteArray):Prop:=w.ownsRow base 9 1 v xs.length (xs.map Value.string)
theorem ownS_block {w:World} {base:Nat} {v:Value} {xs:List ByteArray} (h:OwnS w base v xs):∀ k,v.ownBlock=some k→base≤k:=by
 intro k hk
 obtain⟨_,⟨rfl,_⟩ | ⟨g,cap,cur,rfl,hg,_⟩⟩:=h
 ·simp[Value.ownBlock]at hk
 ·simp[Value.ownBlock]at hk;omega
theorem ownS_slice {w:World} {base:Nat} {v:Value} {xs:List ByteArray} (h:OwnS w base v xs) (h1:1≤xs.length) :
  ∃ g c cur,v=.slice (some ⟨g,0,none⟩) xs.length c∧base≤g∧w.heap[g]? = some (.cells cur 9 (0,0))∧xs.length≤c∧HeldS w g xs:=by
 obtain⟨_,⟨rfl,h0⟩ | ⟨g,cap,cur,rfl,hg,hh,h3,h4,h5,h6⟩⟩:=h
 ·omega
 ·refine⟨g,cap,cur,rfl,hg,hh,h3,?_⟩
  intro j z hj
  have hjl:=(List.getElem?_eq_some_iff.1 hj).1
  have e:cur.toList[j]? = some (.string z):=by
   have:(cur.toList.take (xs.length*1))[j]? = (xs.map Value.string)[j]?:=by rw[h6]
   rw[List.getElem?_take,if_pos (by omega),List.getElem?_map,hj]at this
   simpa using this
  simp only[World.cell?,hh]
  simpa using e
theorem ownS_one (w:World) (x:ByteArray):OwnS (w.alloc (.cells #[.string x] 9)) w.heap.size (.slice (some ⟨w.heap.size,0,none⟩) 1 1) [x]:=
 ⟨by simp,.inr ⟨_,1,#[.string x],rfl,Nat.le_refl _,alloc_heap _ _,Nat.le_refl _,by unfold maxLen;omega,by simp,by simp⟩⟩
theorem ownS_set {w:World} {base g c:Nat} {pre:List ByteArray} {x:ByteArray} (y:ByteArray) (h:OwnS w base (.slice (some ⟨g,0,none⟩) (pre++[x]).length c) (pre++[x])) :
  OwnS (w.setCell ⟨g,pre.length,none⟩ (.string y)) base (.slice (some ⟨g,0,none⟩) (pre++[y]).length c) (pre++[y]):=by
 obtain⟨_,⟨h1,h0⟩ | ⟨g',cap,cur,hv,hg,hh,h3,h4,h5,h6⟩⟩:=h
 ·simp at h0
 ·simp only[Value.slice.injEq,Option.some.injEq,Addr.mk.injEq,and_true]at hv
  obtain⟨rfl,_,rfl⟩:=hv
  refine⟨by simp,.inr ⟨g,c,cur.setIfInBounds pre.length (.string y),by simp,hg,?_,by simpa using h3,h4,by simpa using h5,?_⟩⟩
  ·rw[setCell_eq_setRow _ _ _ _ _ _ _ hh,setRow_heap w g cur _ 9 _ hh]
  ·simp only[List.length_append,List.length_cons,List.length_nil,Nat.mul_one]at h6 ⊢
   rw[Array.toList_setIfInBounds,List.take_set,h6]
   simp
theorem wpS_push {w:World} {ops:Array Oper} {rest:List Oper} {o:Oper} {a:Act} {Q:Exit→Act→World→Prop} (hgd:o.guard=none) (s x:Operand)
  (ho:o.op=.call { callee:=.builtin .append,args:=#[s,x],argTypes:=#[93,93] })
  (base:Nat) (v:Value) (xs:List ByteArray) (r:ByteArray) (hs:a.eval s=v) (hown:OwnS w base v xs)
  (hx:a.eval x=.slice (some ⟨w.heap.size,0,none⟩) 1 1) (hbd:xs.length≤1000000000) (hbase:base≤w.heap.size)
  (h:∀ v' w',OwnS w' base v' (xs++[r])→Below base w w'→wpList Tryz.prog ops Q rest (a.put o.dst v') w'):wpList Tryz.prog ops Q (o :: rest) a (w.alloc (.cells #[.string r] 9)):=by
 obtain⟨i0,hi,hz0,hz1,hz2⟩:=info_parts info9
 refine wpList_append_own _ hgd s x 93 ho base 9 i0 (.string ByteArray.empty) 1 16 Tryz.underlying93 hi hz0 hz1 hz2 rfl (by decide) v _ _ hs (World.ownsRow.alloc hown _) ⟨w.heap.size,0,none⟩ 1 1 [.string r] hx rfl ?_ ?_ (by unfold maxLen;omega) (by omega) (by simp;omega) ?_
 ·intro j u hj
  cases j with
  | zero=>simp at hj;subst hj;simp[Addr.add]
  | succ j=>simp at hj
 ·intro u hu;simp at hu;subst hu;rfl
 ·intro v' w' h1 h2 _
  refine h v' w' ?_ (((Below.refl base w).alloc hbase _).grown h2 (by simp;omega) (ownS_block hown))
  unfold OwnS
  rw[List.length_append,List.map_append]
  exact h1
theorem cat_byte (cur:List UInt8) (s:ByteArray) (k:Nat) (hp:k<s.size):(ByteArray.mk cur.toArray)++s.extract k (k+1)=ByteArray.mk (cur++[s[k]'hp]).toArray:=by
 have e:s.extract k (k+1)=⟨#[s[k]'hp]⟩:=by
  apply ByteArray.ext
  rw[ByteArray.data_extract]
  apply Array.ext'
  rw[Array.toList_extract]
  have hk:k<s.data.toList.length:=by rw[len_data];exact hp
  rw[List.extract_eq_take_drop]
  rw[List.drop_eq_getElem_cons hk]
  simp
  rfl
 rw[e,ByteArray.mk_append_mk]
 first | done | (congr 1;apply Array.ext';simp)
end Go.Proofs.YteajlfgbmefncaaGreatDoor
