/-
  Walks and plain words (VkS DcA VlF LVn VdW).
-/
import Derived.Test.YteajlfgbmefncaaGreatDoorN7
import Derived.Test.YteajlfgbmefncaaGreatDoorN10
import Derived.Test.YteajlfgbmefncaaGreatDoorN40
import Derived.Test.YteajlfgbmefncaaGreatDoorN41
import Derived.Test.YteajlfgbmefncaaGreatDoorN38
import Derived.Lib.SmallJoins
import Derived.Test.YteajlfgbmefncaaGreatDoorN30
import Derived.Test.YteajlfgbmefncaaGreatDoorN15
import Derived.Test.YteajlfgbmefncaaGreatDoorN11
import Derived.Test.YteajlfgbmefncaaGreatDoorN16
import Derived.Test.YteajlfgbmefncaaGreatDoorN24
import Derived.Test.YteajlfgbmefncaaGreatDoorN18
import Derived.Test.YteajlfgbmefncaaGreatDoorN20
import Derived.Test.YteajlfgbmefncaaGreatDoorN14
import Derived.Test.YteajlfgbmefncaaGreatDoorN17
import Derived.Test.YteajlfgbmefncaaGreatDoorN8
import Derived.Deep.Cut
import Derived.Deep.DeepCutAuto
import Derived.Deep.RegionHeldLaw
import Derived.BigQuiet
import Derived.Deep.QuietTactic
import Derived.Defers
import Derived.Recover
import Derived.Laws.Pointers
import Derived.Lib.IfaceEq
import Derived.Test.YteajlfgbmefncaaGreatDoorN34
import Derived.Lib.ValidAsc
import Derived.Lib.EndianBits
namespace Go.Proofs.YteajlfgbmefncaaGreatDoor
set_option linter.unusedVariables false
open Go.ChangeShapes Go.WideShapes Go.ChangeAt Go.RowKit


def SmN (f:Nat) (left:Int) (x:Nd) (w:World) (e:Ending) (w':World):Prop:=∃ r:Int,e=.returned (.int .i64 r)∧(0≤r→r<left∧FitG 100000 10000 f x∧(wtN f x:Int)+r≤left)∧Below w.heap.size w w'
set_option maxHeartbeats 32000000 in
set_option maxRecDepth 20000 in
theorem smallN_any:∀ (f:Nat) (x:Nd) (fs:Value) (dep left:Int) (w:World),FitG 140737488355328 140737488355328 f x→0≤dep∧dep≤41→-100000000000000000≤left∧left≤1000→HeldG rawS w (fun b=>b<w.heap.size) f fs x.fields→
  Calls Tryz.prog 42 #[.agg #[.int .i64 x.kind,.int .i64 x.n,.int .u64 x.u,.bool x.b,.string (mkB x.s),.int .i64 x.type,fs],.int .i64 dep,.int .i64 left] w fun e w'=>SmN f left x w e w':=by
 intro f
 induction f using Nat.strongRecOn with
 | _ f ih=>
 intro x fs dep left w hfit hdep hleft hHG
 obtain⟨xa,xc,rfl⟩:=HeldG.isSl hHG
 obtain⟨xkind,xn,xu,xb,xs,xt,fl⟩:=x
 dsimp only at hHG ⊢
 have hsl:=hfit.s
 dsimp only at hsl
 obtain⟨n,hn⟩:∃ n,fl.length=n:=⟨_,rfl⟩
 have HN:=hQz hn
 rw[hn]at hHG ⊢
 have HHG:=hQz hHG
 have HFIT:=hQz hfit
 have HIH:=hQz ih
 have HL:=hQz hleft
 obtain⟨Y,hY,hC,hb,hYs⟩:=box_new w #[.int .i64 xkind,.int .i64 xn,.int .u64 xu,.bool xb,.string (mkB xs),.int .i64 xt,.slice xa n xc] 38
 have HY:=hQz hY
 have HBY:=hQz hb
 have HC:=hQz hC
 have c4:=cell_at hC 4 rfl
 have c6:=cell_at hC 6 rfl
 have HSL:Hid (xs.length≤140737488355328):=hsl
 have HNO:Hid (∀ W,Below w.heap.size w W→SmN f left ⟨xkind,xn,xu,xb,xs,xt,fl⟩ w (.returned (.int .i64 (-1))) W):=fun W hW=>⟨-1,rfl,fun h=>absurd h (by decide),hW⟩
 have hYl:w.heap.size+1≤Y.heap.size:=by omega
 clear hn hHG hfit ih hY hb hC hYs hsl hleft
 go_enter Tryz.func42,Tryz.ntmps42
 go_upto_region 1 with fail
 rw[HY.out]
 go_upto_region 2 with fail
 generalize hE:wrap64 (wrap64 (left - 1) - wrap64 (((mkB xs).size:Int) / 100))=L1 at *
 have HL1:Hid (L1=left - 1 - (xs.length:Int) / 100):=by
  refine(?_:_=_)
  have h1:=HL.out
  have h2:=HSL.out
  rw[←hE,mkB_size]
  unfold wrap64
  omega
 clear hE c4
 by_cases hd:40<dep
 ·go_wp2_with fail
  go_ret
  exact HNO.out _ HBY.out
 by_cases hL:L1<0
 ·go_wp2_with fail
  go_ret
  exact HNO.out _ HBY.out
 have HL0:Hid (0≤L1):=by
  refine(?_:(0:Int)≤L1)
  omega
 go_wp2_with fail
 clear c6 hL
 go_loopw [2,25] (fun l i wr=>∃ (j:Nat) (lf:Int),l=.int .i64 lf∧i=.int .i64 (j:Int)∧j≤n∧(lf+(j:Int)≤L1∧-(j:Int)≤lf)∧((∀ p∈fl.take j,p.2.length≤10000∧∀ y∈p.2,FitG 100000 10000 (f - 1) y)∧lf+((sumL (fun p=>1+sumL (wtN (f - 1)) p.2) (fl.take j):Nat):Int)≤L1)∧Below Y.heap.size Y wr) (fun _ i _=>n - (intOf i).toNat)
 case atStart=>exact⟨0,L1,rfl,rfl,Nat.zero_le _,⟨by omega,by have:=HL0.out;omega⟩,⟨fun p hp=>by simp at hp,by simp[sumL]⟩,Below.refl _ _⟩
 case round=>
  generalize wr=w1 at *
  obtain⟨j,lf,rfl,rfl,hj,hlf,hoks,hbel⟩:=hrel
  have HLF:=hQz hlf
  have HOK:=hQz hoks
  have HBE:=hQz hbel
  have hBw:=HBY.out.trans (hbel.mono HBY.out.size)
  have HBW:=hQz hBw
  have hws:=hbel.size
  have hc1:=(hbel.block _ (by omega)).trans HC.out
  have a6:=cell_at hc1 6 rfl
  clear hlf hoks hbel hc1
  by_cases hjn:j<n
  ·obtain⟨y,hy⟩:∃ y,fl[j]? = some y:=⟨_,List.getElem?_eq_getElem (by have:=HN.out;omega)⟩
   obtain⟨f',g,go,gc,va,vc,hf',hsl,hg,e0,e1,hvals⟩:=HeldG.at HHG.out (W:=w1) (fun b hb=>hBw.block b hb) hy
   subst hf'
   rw[HN.out]at hsl
   obtain⟨rfl,rfl⟩:=slice_two hsl
   have HTK:Hid (fl.take (j+1)=fl.take j++[y]):=take_snoc hy
   obtain⟨hfl1,hfl2⟩:=HFIT.out.2.2 y (List.mem_of_getElem? hy)
   have hn1:n≤140737488355328:=by have h1:=HFIT.out.2.1;have h2:=HN.out;dsimp only at h1;omega
   obtain⟨ynum,ys⟩:=y
   dsimp only at hvals e0 e1 hfl1 hfl2
   obtain⟨mv,hmv⟩:∃ n,ys.length=n:=⟨_,rfl⟩
   have HMV:=hQz hmv
   rw[hmv]at e1 hvals hfl1
   have HFL2:=hQz hfl2
   have HVA:=hQz hvals
   have hj0:(0:Int)≤(j:Int):=by omega
   have hj1:(j:Int)<(n:Int):=by omega
   have hwq:=wQz j (by omega)
   obtain⟨l0,hl0⟩:∃ l,lf - 1=l:=⟨_,rfl⟩
   have hwl:IntKind.i64.wrap (lf - 1)=l0:=by
    rw[IntKind.wrap_i64]
    have h1:=HLF.out
    have h2:=HL1.out
    have h3:=HL.out
    omega
   have HL00:=hQz hl0
   have HE1:=hQz e1
   have HA6:=hQz a6
   have hgN:g<w.heap.size:=hg
   have HMB:Hid (mv≤140737488355328):=hfl1
   clear hsl hy hvals hmv hfl2 hBw hg hl0 e0 hfl1
   go_wp2_with fail
   clear a6 e1 hwl
   go_loopw [2,37] (fun l i wr=>∃ (q:Nat) (lq:Int),l=.int .i64 lq∧i=.int .i64 (q:Int)∧q≤mv∧((q=0→lq=l0)∧(0<q→0≤lq∧lq+(q:Int)≤l0))∧((∀ y∈ys.take q,FitG 100000 10000 f' y)∧lq+((sumL (wtN f') (ys.take q):Nat):Int)≤l0)∧Below w1.heap.size w1 wr) (fun _ i _=>mv - (intOf i).toNat)
   case atStart=>exact⟨0,l0,rfl,rfl,Nat.zero_le _,⟨fun _=>rfl,fun h=>absurd h (Nat.lt_irrefl _)⟩,⟨fun y hy=>by simp at hy,by simp[sumL]⟩,Below.refl _ _⟩
   case round=>
    generalize wr=w2 at *
    obtain⟨q,lq,rfl,rfl,hq,hlq,hokq,hbel2⟩:=hrel
    have HLQ:=hQz hlq
    have HOQ:=hQz hokq
    have HB2:=hQz hbel2
    have hBw2:=HBW.out.trans (hbel2.mono HBW.out.size)
    have HBW2:=hQz hBw2
    have hws2:=hbel2.size
    have z6:w2.cell? ⟨w.heap.size,6,none⟩=some (.slice (some ⟨g,go,none⟩) n xc):=(hbel2.cell (by simp;omega)).trans HA6.out
    have z1:w2.cell? ⟨g,go+j*2+1,none⟩=some (.slice va mv vc):=(hbel2.cell (by simp;omega)).trans HE1.out
    clear hlq hokq hbel2
    by_cases hqn:q<mv
    ·obtain⟨c,hc⟩:∃ c,ys[q]? = some c:=⟨_,List.getElem?_eq_getElem (by have:=HMV.out;omega)⟩
     obtain⟨g2,o2,c2,fs2,hsl2,hg2,hcl,hheld⟩:=ValsG.at HVA.out hc
     rw[HMV.out]at hsl2
     obtain⟨rfl,rfl⟩:=slice_two hsl2
     have hg2N:g2<w.heap.size:=hg2
     have HTK2:Hid (ys.take (q+1)=ys.take q++[c]):=take_snoc hc
     have hcl2:=hcl.old (hBw2.block g2 hg2N)
     have hfitc:=HFL2.out c (List.mem_of_getElem? hc)
     obtain⟨sa,sc,rfl⟩:∃ sa sc,fs2=.slice sa c.fields.length sc:=HeldG.isSl (hheld rfl)
     have y0:w2.cell? ⟨g2,o2+q*7,none⟩=some (.int .i64 c.kind):=by have:=hcl2 0 _ rfl;simpa [rawS]using this
     have y1:w2.cell? ⟨g2,o2+q*7+1,none⟩=some (.int .i64 c.n):=by have:=hcl2 1 _ rfl;simpa [rawS]using this
     have y2:w2.cell? ⟨g2,o2+q*7+2,none⟩=some (.int .u64 c.u):=by have:=hcl2 2 _ rfl;simpa [rawS]using this
     have y3:w2.cell? ⟨g2,o2+q*7+3,none⟩=some (.bool c.b):=by have:=hcl2 3 _ rfl;simpa [rawS]using this
     have y4:w2.cell? ⟨g2,o2+q*7+4,none⟩=some (.string (mkB c.s)):=by have:=hcl2 4 _ rfl;simpa [rawS]using this
     have y5:w2.cell? ⟨g2,o2+q*7+5,none⟩=some (.int .i64 c.type):=by have:=hcl2 5 _ rfl;simpa [rawS]using this
     have y6:w2.cell? ⟨g2,o2+q*7+6,none⟩=some (.slice sa c.fields.length sc):=by have:=hcl2 6 _ rfl;simpa [rawS]using this
     have HLB:Hid (-100000000000000000≤lq∧lq≤1000):=by
      refine(?_:_∧_)
      have h1:=HLF.out
      have h2:=HL1.out
      have h3:=HL.out
      have h4:=HL00.out
      have h5:=HLQ.out
      rcases Nat.eq_zero_or_pos q with h0 | h0
      ·have:=h5.1 h0;omega
      ·have:=h5.2 h0;omega
     have h:=HIH.out f' (by omega) c (.slice sa c.fields.length sc) (dep+1) lq w2 hfitc (by omega) HLB.out (HeldG.mv (fun b hb=>hBw2.block b hb) (fun b hb=>by have hb':b<w.heap.size:=hb;have:=hBw2.size;omega) (hheld rfl))
     have hq0:(0:Int)≤(q:Int):=by omega
     have hq1:(q:Int)<(mv:Int):=by omega
     have hwq2:IntKind.i64.wrap ((q:Int)+1)=(q:Int)+1:=by rw[IntKind.wrap_i64];have:=HMB.out;omega
     have hwd:IntKind.i64.wrap (dep+1)=dep+1:=by rw[IntKind.wrap_i64];omega
     clear hsl2 hc hg2 hcl hheld hcl2 hfitc hBw2
     go_wp2_with fail
     refine h.mono ?_
     rintro e W2 ⟨r,rfl,hr,hb2⟩
     have HR:=hQz hr
     have HBR:=hQz (HB2.out.trans (hb2.mono hws2))
     have HBRW:=hQz (HBW2.out.trans (hb2.mono HBW2.out.size))
     clear h hr hb2 y0 y1 y2 y3 y4 y5 y6 z6 z1
     by_cases hrn:r<0
     ·go_wp2_with fail
      go_ret
      exact HNO.out _ HBRW.out
     ·have HRP:Hid (0≤r):=by
       refine(?_:(0:Int)≤r)
       omega
      go_wp2_with fail
      go_roundw
      case rel=>
       have h1:=HR.out HRP.out
       refine⟨q+1,r,rfl,by go_num,by omega,⟨fun h=>absurd h (by omega),fun _=>⟨HRP.out,?_⟩⟩,?_,HBR.out⟩
       ·have h5:=HLQ.out
        rcases Nat.eq_zero_or_pos q with h0 | h0
        ·have:=h5.1 h0;omega
        ·have:=h5.2 h0;omega
       ·rw[HTK2.out]
        refine⟨fun y hy=>?_,?_⟩
        ·rcases List.mem_append.1 hy with hy | hy
         ·exact HOQ.out.1 y hy
         ·have e:y=c:=by simpa using hy
          rw[e];exact h1.2.1
        ·rw[sumL_append]
         have h7:=HOQ.out.2
         have h8:=h1.2.2
         simp only[sumL]
         omega
      case measure=>simp[intOf];omega
    ·have hqn':¬(q:Int)<(mv:Int):=by omega
     have hte:ys.take q=ys:=List.take_of_length_le (by have:=HMV.out;omega)
     rw[hte]at HOQ
     have HRW:Hid (lq+((sumL (fun p=>1+sumL (wtN f') p.2) (fl.take j++[(ynum,ys)]):Nat):Int)≤L1):=by
      refine(?_:(_:Int)≤_)
      have h1:lf+((sumL (fun p=>1+sumL (wtN f') p.2) (fl.take j):Nat):Int)≤L1:=HOK.out.2
      have h4:=HL00.out
      have h7:=HOQ.out.2
      rw[sumL_append]
      simp only[sumL]
      omega
     have HRL:Hid ((lq+((j+1:Nat):Int)≤L1∧-((j+1:Nat):Int)≤lq)∧ys.length≤10000):=by
      refine(?_:_∧_)
      have h1:=HLF.out
      have h2:=HL1.out
      have h3:=HL.out
      have h4:=HL00.out
      have h5:=HLQ.out
      have h6:=HMV.out
      rcases Nat.eq_zero_or_pos q with h0 | h0
      ·have:=h5.1 h0;omega
      ·have:=h5.2 h0;omega
     have HBR:=hQz (HBE.out.trans (HB2.out.mono hws))
     clear hte z6 z1 hBw2
     go_wp2_with fail
     go_roundw
     case rel=>
      refine⟨j+1,lq,rfl,by go_num,by omega,HRL.out.1,?_,HBR.out⟩
      rw[HTK.out]
      refine⟨fun p hp=>?_,HRW.out⟩
      rcases List.mem_append.1 hp with hp | hp
      ·exact HOK.out.1 p hp
      ·have e:p=(ynum,ys):=by simpa using hp
       rw[e];exact⟨HRL.out.2,HOQ.out.1⟩
     case measure=>simp[intOf];omega
  ·have hjn':¬(j:Int)<(n:Int):=by omega
   have hte:fl.take j=fl:=List.take_of_length_le (by have:=HN.out;omega)
   rw[hte]at HOK
   have HRES:Hid (SmN f left ⟨xkind,xn,xu,xb,xs,xt,fl⟩ w (.returned (.int .i64 lf)) w1):=by
    refine⟨lf,rfl,fun h0=>?_,HBW.out⟩
    have h1:=HLF.out
    have h2:=HL1.out
    have h3:=HL.out
    have h4:=HL0.out
    have h5:=HN.out
    have h6:=HOK.out.2
    refine⟨by omega,?_⟩
    cases f with
    | zero=>exact⟨by show xs.length≤100000;omega,by simp only[wtN];omega⟩
    | succ f=>
     refine⟨⟨by show xs.length≤100000;omega,by show fl.length≤10000;omega,HOK.out.1⟩,?_⟩
     have h7:lf+((sumL (fun p=>1+sumL (wtN f) p.2) fl:Nat):Int)≤L1:=h6
     simp only[wtN]
     omega
   clear hte a6 hBw
   go_wp2_with fail
   go_ret
   exact HRES.out
set_option maxHeartbeats 8000000 in
set_option maxRecDepth 20000 in
theorem smallV_any (f:Nat) (x:Nd) (fs:Value) (w:World) (hfit:FitG 140737488355328 140737488355328 f x) (hHG:HeldG rawS w (fun b=>b<w.heap.size) f fs x.fields) :
  Calls Tryz.prog 19 #[.agg #[.int .i64 x.kind,.int .i64 x.n,.int .u64 x.u,.bool x.b,.string (mkB x.s),.int .i64 x.type,fs]] w fun e w'=>∃ b,e=.returned (.bool b)∧(b=true→FitG 100000 10000 f x∧wtN f x≤400)∧Below w.heap.size w w':=by
 obtain⟨Y,hY,hC,hb,hYs⟩:=box_new w #[.int .i64 x.kind,.int .i64 x.n,.int .u64 x.u,.bool x.b,.string (mkB x.s),.int .i64 x.type,fs] 38
 obtain⟨xa,xc,rfl⟩:=HeldG.isSl hHG
 have h:=smallN_any f x _ 0 400 Y hfit (by decide) (by decide) (HeldG.mv (fun b h=>hb.block b h) (fun b h=>by have h':b<w.heap.size:=h;have:=hb.size;omega) hHG)
 have HY:=hQz hY
 have HB:=hQz hb
 have c0:=cell_at hC 0 rfl
 have c1:=cell_at hC 1 rfl
 have c2:=cell_at hC 2 rfl
 have c3:=cell_at hC 3 rfl
 have c4:=cell_at hC 4 rfl
 have c5:=cell_at hC 5 rfl
 have c6:=cell_at hC 6 rfl
 clear hY hb hC hYs hfit hHG
 go_enter Tryz.func19,Tryz.ntmps19
 go_upto_region 1 with fail
 rw[HY.out]
 go_wp2_with fail
 refine h.mono ?_
 rintro e W ⟨r,rfl,hr,hbW⟩
 have HR:=hQz hr
 have HBW:=hQz (HB.out.trans (hbW.mono HB.out.size))
 clear h hr hbW c0 c1 c2 c3 c4 c5 c6
 go_wp2_with fail
 go_ret
 exact⟨_,rfl,fun h=>(by have h1:=HR.out (of_decide_eq_true h);have h2:=of_decide_eq_true h;exact⟨h1.2.1,by have:=h1.2.2;omega⟩),HBW.out⟩
def ndC:Nd:=⟨7,0,0,false,[],0,[(1,[⟨1,2,0,false,[],0,[]⟩])]⟩
theorem decC:decM scB.ms 16 0 [8,1,8,2]=.ok ndC:=by rfl
theorem normC:normN scB.ms 16 ndC=ndC:=by rfl
theorem fitS_ofC {s:SC} (h:SmS s):FitS s:=by
 obtain⟨h0,h1,h2,h3⟩:=h
 refine⟨⟨by omega,by omega⟩,fun m hm=>?_,fun m hm=>?_,by omega,fun t ht=>?_⟩
 ·obtain⟨a,b,c⟩:=h1 m hm
  exact⟨by omega,by omega,fun f hf=>by have:=c f hf;omega⟩
 ·obtain⟨a,b,c⟩:=h2 m hm
  exact⟨by omega,by omega,fun f hf=>by have:=c f hf;omega⟩
 ·obtain⟨a,b⟩:=h3 t ht
  exact⟨by omega,by omega⟩
theorem fitSB:FitS scB:=fitS_ofC ⟨by decide,(fun m hm=>by
  have e:m=⟨[65],[fdB]⟩:=by simpa [scB]using hm
  subst e
  exact⟨by decide,by decide,fun f hf=>by
   have e:f=fdB:=by simpa using hf
   subst e;decide⟩),(fun m hm=>by cases hm),(fun m hm=>by cases hm)⟩
theorem noText:¬TextIn scB.ms:=by
 rintro⟨m,hm,x,hx,h5⟩
 have e:m=⟨[65],[fdB]⟩:=by simpa [scB]using hm
 subst e
 have e:x=fdB:=by simpa using hx
 subst e
 exact absurd h5 (by decide)
theorem fitGC:FitG 100000 10000 16 ndC:=⟨by decide,by decide,fun p hp=>by
  have e:p=(1,[⟨1,2,0,false,[],0,[]⟩]):=by simpa [ndC]using hp
  subst e
  refine⟨by decide,fun y hy=>?_⟩
  have e:y=⟨1,2,0,false,[],0,[]⟩:=by simpa using hy
  subst e
  exact fitG_leaf rfl (by decide)⟩
set_option maxHeartbeats 16000000 in
set_option maxRecDepth 20000 in
theorem awake11_any (w:World) (hT:Tabs w):Calls Tryz.prog 5 #[] w fun e w'=>e=.returned (.bool true)∧Below w.heap.size w w':=by
 obtain⟨Y1,hY1,cY1,bY1,sY1⟩:=box_new w #[.int .i64 1,.string ⟨#[120]⟩,.int .i64 1,.bool false,.int .i64 0] 51
 obtain⟨Y2,hY2,cY2,bY2,sY2⟩:=box_new Y1 #[.string ⟨#[65]⟩,.slice (some ⟨w.heap.size,0,none⟩) 1 1] 54
 obtain⟨Y3,hY3,cY3,bY3,sY3⟩:=box_new Y2 #[.slice (some ⟨w.heap.size+1,0,none⟩) 1 1,.slice none 0 0,.slice none 0 0] 26
 obtain⟨Y4,hY4⟩:∃ Y,Y3.alloc (.cells #[.int .u8 8,.int .u8 1,.int .u8 8,.int .u8 2] 5 (4,5))=Y:=⟨_,rfl⟩
 have cY4:Y4.heap[Y3.heap.size]? = some (.cells #[.int .u8 8,.int .u8 1,.int .u8 8,.int .u8 2] 5 (4,5)):=by rw[←hY4];exact alloc_heap_new _ _
 have bY4:Below Y3.heap.size Y3 Y4:=by rw[←hY4];exact(Below.refl _ _).alloc (Nat.le_refl _) _
 have sY4:Y4.heap.size=Y3.heap.size+1:=by rw[←hY4];simp
 have hcv:(convert 27 27 (.slice (some ⟨w.heap.size+3,0,none⟩) 4 4)).run Tryz.prog (Y3.alloc (.cells #[.int .u8 8,.int .u8 1,.int .u8 8,.int .u8 2] 5))=.ok (.slice (some ⟨w.heap.size+3,0,none⟩) 4 4) Y4:=by
  rw[←hY4]
  exact Joins.run_convert_bytes_const_at Y3 27 5 #[.int .u8 8,.int .u8 1,.int .u8 8,.int .u8 2] 4 4 (w.heap.size+3) (by omega) Tryz.underlying27 Tryz.underlying5
 have t2:=bY1.trans (bY2.mono bY1.size)
 have t3:=t2.trans (bY3.mono t2.size)
 have t4:=t3.trans (bY4.mono t3.size)
 rw[sY3,sY2,sY1]at cY4
 rw[sY2,sY1]at cY3
 rw[sY1]at cY2
 have d1:=(bY4.block _ (by omega)).trans ((bY3.block _ (by omega)).trans ((bY2.block _ (by omega)).trans cY1))
 have d2:=(bY4.block _ (by omega)).trans ((bY3.block _ (by omega)).trans cY2)
 have d3:=(bY4.block _ (by omega)).trans cY3
 have hH:HeldSc Y4 (fun b=>b<Y4.heap.size) (.slice (some ⟨w.heap.size+1,0,none⟩) 1 1) (.slice none 0 0) (.slice none 0 0) scB:=by
  refine⟨⟨_,_,rfl,Nat.le_refl _,.inr ⟨w.heap.size+1,0,rfl,by show w.heap.size+1<Y4.heap.size;omega,fun j x hj=>?_⟩⟩,HeldN.nil _ _,RowsIn.nil _ _ _ _ _ _⟩
  obtain⟨rfl,rfl⟩:=lst1 hj
  refine⟨some ⟨w.heap.size,0,none⟩,1,cell_at d2 0 rfl,cell_at d2 1 rfl,⟨_,_,rfl,Nat.le_refl _,.inr ⟨w.heap.size,0,rfl,by show w.heap.size<Y4.heap.size;omega,fun k y hk=>?_⟩⟩⟩
  obtain⟨rfl,rfl⟩:=lst1 hk
  intro i u hu
  simp only[World.cell?,d1]
  simpa [fdrow,fdB,mkB]using hu
 have hB4:IsB Y4 (some ⟨w.heap.size+3,0,none⟩) 4 [8,1,8,2]:=by
  refine⟨rfl,by decide,.inr ⟨w.heap.size+3,0,rfl,fun j z hj=>?_,by decide⟩⟩
  simp only[World.cell?,cY4]
  rcases j with _ | _ | _ | _ | j
  ·have e:(8:Int)=z:=by simpa using hj
   subst e;rfl
  ·have e:(1:Int)=z:=by simpa using hj
   subst e;rfl
  ·have e:(8:Int)=z:=by simpa using hj
   subst e;rfl
  ·have e:(2:Int)=z:=by simpa using hj
   subst e;rfl
  ·simp at hj
 have h:=decodeP_any (some ⟨w.heap.size+1,0,none⟩) none none 1 0 0 1 0 0 scB 0 (some ⟨w.heap.size+3,0,none⟩) 4 4 [8,1,8,2] Y4 (tabs_below hT t4) rfl rfl rfl fitSB hH hB4 (by omega) (by omega) (fun h=>absurd h noText)
 have q0:=cell_at cY3 0 rfl
 have q1:=cell_at cY3 1 rfl
 have q2:=cell_at cY3 2 rfl
 have HY1:=hQz hY1
 have HY2:=hQz hY2
 have HY3:=hQz hY3
 have HY4:=hQz hY4
 have HB:=hQz t4
 have hz3:Y3.heap.size=w.heap.size+3:=by omega
 clear hY1 hY2 hY3 hY4 cY1 cY2 cY3 cY4 bY1 bY2 bY3 bY4 sY1 sY2 sY3 sY4 t2 t3 t4 d1 d2 d3 hH hB4 hT
 go_enter Tryz.func5,Tryz.ntmps5
 go_upto_region 2 with fail
 rw[HY1.out,HY2.out,HY3.out]
 go_wp2_with fail
 refine h.mono ?_
 rintro e W ⟨hor,hb1⟩
 have HB1:=hQz (HB.out.trans (hb1.mono HB.out.size))
 have hgood:GoodM scB 0:=⟨formB,by decide,by decide⟩
 rcases hor with ⟨hno,rfl⟩ | ⟨_,hlt,rfl⟩ | ⟨_,_,⟨er,_,hde,_⟩ | ⟨x,v,hde,rfl,hv⟩⟩
 ·exact absurd hgood hno
 ·exact absurd hlt (by decide)
 ·rw[decC]at hde;cases hde
 rw[decC]at hde
 have hx:ndC=x:=by injection hde
 subst hx
 rw[normC]at hv
 have hou:=oursN_any 16 ndC v W fitGC (hv.mv (fun _ _=>rfl) (fun b hb=>hb.2))
 clear h hb1 hv hde q0 q1 q2 hcv
 go_wp2_with fail
 refine hou.mono ?_
 rintro e W2 ⟨a0,a1,a2,a3,a4,a5,sa,sl,sc,fsr,rfl,hrw,hfl,hb2⟩
 have HB2:=hQz (HB1.out.trans (hb2.mono HB1.out.size))
 have h2s:=hb2.size
 have hrow:[.int .i64 a0,.int .i64 a1,.int .u64 a2,.bool a3,.string a4,.int .i64 a5,.slice sa sl sc]=[Value.int .i64 7,.int .i64 0,.int .u64 0,.bool false,.string (mkB []),.int .i64 0,fsr]:=hrw
 simp only[List.cons.injEq,Value.int.injEq,Value.bool.injEq,Value.string.injEq,true_and,and_true]at hrow
 obtain⟨rfl,rfl,rfl,rfl,rfl,rfl,rfl⟩:=hrow
 have hfl:=hfl rfl
 obtain⟨ad9,c9,hsl9⟩:=HeldG.isSl hfl
 obtain⟨rfl,rfl,rfl⟩:=Value.slice.inj hsl9
 obtain⟨Z1,hZ1,cZ1,bZ1,sZ1⟩:=box_new W2 #[.int .i64 1,.int .i64 2,.int .u64 0,.bool false,.string ⟨#[]⟩,.int .i64 0,.slice none 0 0] 38
 obtain⟨Z2,hZ2,cZ2,bZ2,sZ2⟩:=box_new Z1 #[.int .i64 1,.slice (some ⟨W2.heap.size,0,none⟩) 1 1] 57
 have HZ1:=hQz hZ1
 have HZ2:=hQz hZ2
 have e1:=(bZ2.block _ (by omega)).trans cZ1
 rw[sZ1]at cZ2
 have u2:=bZ1.trans (bZ2.mono bZ1.size)
 have HBZ:=hQz (HB2.out.trans (u2.mono HB2.out.size))
 have hC2:HeldG clS Z2 (fun b=>b<Z2.heap.size) 16 (.slice (some ⟨W2.heap.size+1,0,none⟩) 1 1) ndC.fields:=by
  refine⟨_,_,rfl,Nat.le_refl _,.inr ⟨W2.heap.size+1,0,rfl,by show W2.heap.size+1<Z2.heap.size;omega,fun j x hj=>?_⟩⟩
  obtain⟨rfl,rfl⟩:=lst1 hj
  refine⟨.slice (some ⟨W2.heap.size,0,none⟩) 1 1,fun i u hu=>by simp only[World.cell?,cZ2];simpa using hu,⟨_,_,rfl,Nat.le_refl _,.inr ⟨W2.heap.size,0,rfl,by show W2.heap.size<Z2.heap.size;omega,fun k y hk=>?_⟩⟩⟩
  obtain⟨rfl,rfl⟩:=lst1 hk
  refine⟨.nilFunc,fun i u hu=>?_,fun h=>by simp[clS]at h⟩
  simp only[World.cell?,e1]
  simpa [clS,crow,nrow,cn,mkB]using hu
 have hsm:=sameN_any 16 ndC ndC sa (some ⟨W2.heap.size+1,0,none⟩) 1 sc 1 Z2 rfl fitGC ⟨fun _=>⟨HeldG.mv (fun b hb=>u2.block b hb.2) (fun b hb=>by have:=hb.2;show b<Z2.heap.size;have:=u2.size;omega) hfl,rfl⟩,fun h=>absurd rfl h⟩ ⟨fun _=>⟨hC2,rfl⟩,fun h=>absurd rfl h⟩
 have hz1:Z1.heap.size=W2.heap.size+1:=by omega
 clear hZ1 hZ2 cZ1 cZ2 bZ1 bZ2 sZ1 sZ2 u2 hC2 e1 hfl hrw hb2 hou
 go_wp2_with fail
 rw[HZ1.out,HZ2.out]
 refine hsm.mono ?_
 rintro e W3 ⟨rfl,hb3⟩
 have HB3:=hQz (HBZ.out.trans (hb3.mono HBZ.out.size))
 clear hsm hb3
 go_wp2_with fail
 go_ret
 exact⟨rfl,HB3.out⟩
def FewAns (s:SC) (f:Nat) (x:Nd) (w:World) (e:Ending) (w':World):Prop:=∃ b,e=.returned (.bool b)∧(b=true→SmS s∧FitG 100000 10000 f x∧wtN f x≤400)∧Below w.heap.size w w'
set_option maxHeartbeats 8000000 in
set_option maxRecDepth 20000 in
theorem few9_any (ma ea ta:Option Addr) (nm ne nt mc ec tc:Nat) (s:SC) (f:Nat) (x:Nd) (xa:Option Addr) (xl xc:Nat) (w:World) (hnm:s.ms.length=nm) (hne:s.es.length=ne) (hnt:s.ts.length=nt) (hbig:BigS s) (hH:HeldSc w (fun b=>b<w.heap.size) (.slice ma nm mc) (.slice ea ne ec) (.slice ta nt tc) s) (hG:HeldG rawS w (fun b=>b<w.heap.size) f (.slice xa xl xc) x.fields) (hfit:FitG 140737488355328 140737488355328 f x) :
  Calls Tryz.prog 11 #[.agg #[.slice ma nm mc,.slice ea ne ec,.slice ta nt tc],.agg #[.int .i64 x.kind,.int .i64 x.n,.int .u64 x.u,.bool x.b,.string (mkB x.s),.int .i64 x.type,.slice xa xl xc]] w fun e w'=>FewAns s f x w e w':=by
 obtain⟨Y,hY,hC,hb,hYs⟩:=box_new w #[.slice ma nm mc,.slice ea ne ec,.slice ta nt tc] 26
 obtain⟨V,hV,hD,hVb,hVs⟩:=box_new Y #[.int .i64 x.kind,.int .i64 x.n,.int .u64 x.u,.bool x.b,.string (mkB x.s),.int .i64 x.type,.slice xa xl xc] 38
 rw[hYs]at hD
 have HY:=hQz hY
 have HV:=hQz hV
 have hBV:=hb.trans (hVb.mono hb.size)
 have HBV:=hQz hBV
 have hCV:=(hVb.block _ (by omega)).trans hC
 have hVl:w.heap.size+2≤V.heap.size:=by omega
 have b0:=cell_at hCV 0 rfl
 have b1:=cell_at hCV 1 rfl
 have b2:=cell_at hCV 2 rfl
 have hH1:HeldSc V (fun b=>b<V.heap.size) (.slice ma nm mc) (.slice ea ne ec) (.slice ta nt tc) s:=⟨(HeldN.old hH.1 fun b hb=>hBV.block b hb).more fun b hb=>by have hb':b<w.heap.size:=hb;have:=hBV.size;omega,(HeldN.old hH.2.1 fun b hb=>hBV.block b hb).more fun b hb=>by have hb':b<w.heap.size:=hb;have:=hBV.size;omega,(RowsIn.old hH.2.2 fun b hb=>hBV.block b hb).more fun b hb=>by have hb':b<w.heap.size:=hb;have:=hBV.size;omega⟩
 have h:=smallS_any ma ea ta nm ne nt mc ec tc s V hnm hne hnt hbig hH1
 have HD:=hQz hD
 have HS2:Hid (∀ W,Below w.heap.size w W→Calls Tryz.prog 19 #[.agg #[.int .i64 x.kind,.int .i64 x.n,.int .u64 x.u,.bool x.b,.string (mkB x.s),.int .i64 x.type,.slice xa xl xc]] W fun e w'=>∃ b,e=.returned (.bool b)∧(b=true→FitG 100000 10000 f x∧wtN f x≤400)∧Below W.heap.size W w'):=fun W hW=>smallV_any f x (.slice xa xl xc) W hfit (HeldG.mv (fun b hb=>hW.block b hb) (fun b hb=>by have hb':b<w.heap.size:=hb;have:=hW.size;omega) hG)
 clear hY hC hb hYs hV hD hVb hVs hBV hCV hH hH1 hG hfit hbig hnm hne hnt
 go_enter Tryz.func11,Tryz.ntmps11
 go_upto_region 1 with fail
 rw[HY.out,HV.out]
 go_wp2_with fail
 refine h.mono ?_
 rintro e W1 ⟨b,rfl,hsm,hb1⟩
 have HSM:=hQz hsm
 have hB1:=HBV.out.trans (hb1.mono HBV.out.size)
 have HB1:=hQz hB1
 have hD1:=(hb1.block _ (by omega)).trans HD.out
 have k0:=cell_at hD1 0 rfl
 have k1:=cell_at hD1 1 rfl
 have k2:=cell_at hD1 2 rfl
 have k3:=cell_at hD1 3 rfl
 have k4:=cell_at hD1 4 rfl
 have k5:=cell_at hD1 5 rfl
 have k6:=cell_at hD1 6 rfl
 have h2:=HS2.out W1 hB1
 clear h hsm hb1 hB1 hD1 b0 b1 b2
 cases b
 case false=>
  go_wp2_with fail
  go_ret
  exact⟨false,rfl,(fun h=>by cases h),HB1.out⟩
 have HSS:=hQz (HSM.out (by simp))
 go_wp2_with fail
 refine h2.mono ?_
 rintro e W2 ⟨b,rfl,hf2,hb2⟩
 have HF2:=hQz hf2
 have HB2:=hQz (HB1.out.trans (hb2.mono HB1.out.size))
 clear h2 hf2 hb2 k0 k1 k2 k3 k4 k5 k6
 go_wp2_with fail
 go_ret
 exact⟨b,rfl,fun h=>⟨HSS.out,HF2.out h⟩,HB2.out⟩
theorem row_cn {x:Nd} {fsr:Value} {a0 a1 a2:Int} {a3:Bool} {a4:ByteArray} {a5:Int} {sa:Option Addr} {sl sc:Nat} (h:[.int .i64 a0,.int .i64 a1,.int .u64 a2,.bool a3,.string a4,.int .i64 a5,.slice sa sl sc]=clS.row x fsr) :
  a0=(cn x).kind∧a1=(cn x).n∧a2=(cn x).u∧a3=(cn x).b∧a4=mkB (cn x).s∧a5=(cn x).type∧(Value.slice sa sl sc)=if x.kind=7 then fsr else .slice none 0 0:=by
 have hr:clS.row x fsr=[.int .i64 (cn x).kind,.int .i64 (cn x).n,.int .u64 (cn x).u,.bool (cn x).b,.string (mkB (cn x).s),.int .i64 (cn x).type,if x.kind=7 then fsr else .slice none 0 0]:=rfl
 rw[hr]at h
 simp only[List.cons.injEq,Value.int.injEq,Value.bool.injEq,Value.string.injEq,true_and,and_true]at h
 exact h
theorem sameO_any (f:Nat) (x:Nd) (W:World) (a0 a1 a2:Int) (a3:Bool) (a4:ByteArray) (a5:Int) (sa:Option Addr) (sl sc:Nat) (fa:Value) (b0 b1 b2:Int) (b3:Bool) (b4:ByteArray) (b5:Int) (ta:Option Addr) (tl tc:Nat) (fb:Value) (hk:x.kind=7) (hfit:FitG 100000 10000 f x)
  (ha:[.int .i64 a0,.int .i64 a1,.int .u64 a2,.bool a3,.string a4,.int .i64 a5,.slice sa sl sc]=clS.row x fa) (hga:HeldG clS W (fun b=>b<W.heap.size) f fa x.fields)
  (hb:[.int .i64 b0,.int .i64 b1,.int .u64 b2,.bool b3,.string b4,.int .i64 b5,.slice ta tl tc]=clS.row x fb) (hgb:HeldG clS W (fun b=>b<W.heap.size) f fb x.fields) :
  Calls Tryz.prog 9 #[.agg #[.int .i64 a0,.int .i64 a1,.int .u64 a2,.bool a3,.string a4,.int .i64 a5,.slice sa sl sc],.agg #[.int .i64 b0,.int .i64 b1,.int .u64 b2,.bool b3,.string b4,.int .i64 b5,.slice ta tl tc]] W fun e w'=>e=.returned (.bool true)∧Below W.heap.size W w':=by
 obtain⟨rfl,rfl,rfl,rfl,rfl,rfl,h1⟩:=row_cn ha
 obtain⟨rfl,rfl,rfl,rfl,rfl,rfl,h2⟩:=row_cn hb
 rw[if_pos hk]at h1 h2
 subst h1 h2
 obtain⟨_,_,e1⟩:=HeldG.isSl hga
 obtain⟨_,_,e2⟩:=HeldG.isSl hgb
 obtain⟨_,rfl,_⟩:=Value.slice.inj e1
 obtain⟨_,rfl,_⟩:=Value.slice.inj e2
 exact sameN_any f x (cn x) sa ta x.fields.length sc tc W rfl hfit ⟨fun _=>⟨hga,rfl⟩,fun h=>absurd hk h⟩ ⟨fun _=>⟨hgb,rfl⟩,fun h=>absurd hk h⟩
end Go.Proofs.YteajlfgbmefncaaGreatDoor
