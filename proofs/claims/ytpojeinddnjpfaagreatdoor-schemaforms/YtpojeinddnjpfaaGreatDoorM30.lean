/-
  Walks and plain words (FmB SlC TxR).
-/
import Derived.Test.YtpojeinddnjpfaaGreatDoorM0
import Derived.Test.YtpojeinddnjpfaaGreatDoorM22
import Derived.BigQuiet
import Derived.Test.YtpojeinddnjpfaaGreatDoorM15
import Derived.Test.YtpojeinddnjpfaaGreatDoorM13
import Derived.Test.YtpojeinddnjpfaaGreatDoorM12
import Derived.Test.YtpojeinddnjpfaaGreatDoorM17
import Derived.Lib.SlicesS
import Derived.Deep.Cut
import Derived.Deep.DeepCutAuto
import Derived.Deep.QuietTactic
namespace Go.Proofs.YtpojeinddnjpfaaGreatDoor
set_option linter.unusedVariables false
open Go.ChangeShapes Go.WideShapes Go.ChangeAt Go.RowKit

def tB (f k:Nat) (d:Dc):Bool:=
   (if d.kind=1 then decide (k<8)&&d.values.isEmpty&&d.methods.isEmpty&&d.fields.all Ci&&oQ f (k+1) d.inner
   else if d.kind=2 then d.fields.isEmpty&&d.methods.isEmpty&&d.inner.isEmpty&&d.values.all Cj
   else if d.kind=3 then decide (k=0)&&d.fields.isEmpty&&d.values.isEmpty&&d.inner.isEmpty&&d.methods.all Ck
   else false)
theorem Qi {α:Type} (l:List α):l.isEmpty=((l.length:Int) == 0):=by cases l with
 | nil=>rfl
 | cons a t=>
  have:(((t.length+1:Nat):Int) == 0)=false:=beq_eq_false_iff_ne.2 (by omega)
  rw[List.length_cons,this];rfl
def Bu (f:Nat):Prop:=∀ (k:Nat) (ds:List Dc) (v:Value) (W:World),k≤8→iV f ds→lL f ds→aM f W (fun b=>b<W.heap.size) v ds→
  Calls Tryz.prog 54 #[v,.int .i64 (k:Int)] W fun e w'=>e=.returned (.bool (oQ f k ds))∧Below W.heap.size W w'
def aFu (f:Nat) (d:Dc):Prop:=d.name.length≤200000000∧(∀ x∈d.fields,TF x)∧(∀ x∈d.values,TV x)∧(∀ x∈d.methods,TM x)∧lL f d.inner
set_option maxHeartbeats 16000000 in
set_option maxRecDepth 20000 in
theorem Qj (f:Nat) (IH:Bu f) (k:Nat) (hk8:k≤8) (d:Dc) (fs vs ms ins:Value) (w:World) (hf:aEg f d) (ht:aFu f d) (kd:Kids f w (fun b=>b<w.heap.size) fs vs ms ins d) :
  Calls Tryz.prog 98 #[.agg #[.int .i64 d.kind,.string (aC d.name),.int .i64 d.line,.int .i64 d.col,fs,vs,ms,ins],.int .i64 (k:Int)] w fun e w'=>e=.returned (.bool (tB f k d))∧Below w.heap.size w w':=by
 obtain⟨r1,r2,r3,r4⟩:=kd
 obtain⟨fa,fc,rfl⟩:=r1.cM
 obtain⟨va,vc,rfl⟩:=r2.cM
 obtain⟨ma,mc,rfl⟩:=r3.cM
 obtain⟨ia,ic,rfl⟩:=r4.eI
 have zQ:=(Below.refl w.heap.size w).alloc (Nat.le_refl _) (.cells #[.int .i64 d.kind,.string (aC d.name),.int .i64 d.line,.int .i64 d.col,.slice fa d.fields.length fc,.slice va d.values.length vc,.slice ma d.methods.length mc,.slice ia d.inner.length ic] 69)
 have hV:(w.alloc (.cells #[.int .i64 d.kind,.string (aC d.name),.int .i64 d.line,.int .i64 d.col,.slice fa d.fields.length fc,.slice va d.values.length vc,.slice ma d.methods.length mc,.slice ia d.inner.length ic] 69)).heap[w.heap.size]? = some (.cells #[.int .i64 d.kind,.string (aC d.name),.int .i64 d.line,.int .i64 d.col,.slice fa d.fields.length fc,.slice va d.values.length vc,.slice ma d.methods.length mc,.slice ia d.inner.length ic] 69 (0,0)):=alloc_heap_new _ _
 have hF:=fun (W:World) (hW:Below w.heap.size w W)=>Uw (S:=fun b=>b<w.heap.size) _ d.fields W (r1.old fun b hb=>hW.block b hb) (fun b hb=>by have:=hW.size;omega) hf.1 ht.2.1
 have hVv:=fun (W:World) (hW:Below w.heap.size w W)=>Uy (S:=fun b=>b<w.heap.size) _ d.values W (r2.old fun b hb=>hW.block b hb) (fun b hb=>by have:=hW.size;omega) hf.2.1 ht.2.2.1
 have hM:=fun (W:World) (hW:Below w.heap.size w W)=>Va (S:=fun b=>b<w.heap.size) _ d.methods W (r3.old fun b hb=>hW.block b hb) (fun b hb=>by have:=hW.size;omega) hf.2.2.1 ht.2.2.2.1
 have hI:=fun (hk:k<8) (W:World) (hW:Below w.heap.size w W)=>IH (k+1) d.inner _ W (by omega) hf.2.2.2 ht.2.2.2.2 ((aM.old (fun b hb=>hW.block b hb) r4).more fun b hb=>by have:=hW.size;omega)
 have jX:Hid (tB f k d=(if d.kind=1 then decide (k<8)&&((d.values.length:Int) == 0)&&((d.methods.length:Int) == 0)&&d.fields.all Ci&&oQ f (k+1) d.inner
   else if d.kind=2 then ((d.fields.length:Int) == 0)&&((d.methods.length:Int) == 0)&&((d.inner.length:Int) == 0)&&d.values.all Cj
   else if d.kind=3 then decide (k=0)&&((d.fields.length:Int) == 0)&&((d.values.length:Int) == 0)&&((d.inner.length:Int) == 0)&&d.methods.all Ck
   else false)):=by
  refine(?_:_=_)
  unfold tB
  simp only[Qi]
 clear hf ht r1 r2 r3 r4 IH
 generalize tB f k d=OK at *
 generalize d.fields.all Ci=bF at *
 generalize d.values.all Cj=bV at *
 generalize d.methods.all Ck=bM at *
 generalize oQ f (k+1) d.inner=bI at *
 obtain⟨lf,hlf⟩:∃ x,((d.fields.length:Int) == 0)=x:=⟨_,rfl⟩
 obtain⟨lv,hlv⟩:∃ x,((d.values.length:Int) == 0)=x:=⟨_,rfl⟩
 obtain⟨lm,hlm⟩:∃ x,((d.methods.length:Int) == 0)=x:=⟨_,rfl⟩
 obtain⟨li,hli⟩:∃ x,((d.inner.length:Int) == 0)=x:=⟨_,rfl⟩
 rw[hlf,hlv,hlm,hli]at jX
 obtain⟨kd,hkd⟩:∃ x,d.kind=x:=⟨_,rfl⟩
 rw[hkd]at jX hV zQ ⊢
 clear hkd
 have hw1:IntKind.i64.wrap ((k:Int)+1)=((k+1:Nat):Int):=by rw[IntKind.wrap_i64];omega
 go_enter Tryz.func98,Tryz.ntmps98
 go_upto_region 1 with fail
 generalize (w.alloc (.cells #[.int .i64 kd,.string (aC d.name),.int .i64 d.line,.int .i64 d.col,.slice fa d.fields.length fc,.slice va d.values.length vc,.slice ma d.methods.length mc,.slice ia d.inner.length ic] 69))=V at *
 have HB:=aB zQ
 have c0:=aA hV 0 rfl
 have c4:=aA hV 4 rfl
 have c5:=aA hV 5 rfl
 have c6:=aA hV 6 rfl
 have c7:=aA hV 7 rfl
 have HC7:Hid (∀ Y:World,Below V.heap.size V Y→Y.cell? ⟨w.heap.size,7,none⟩=some (.slice ia d.inner.length ic)):=fun Y hY=>by
  have h1:=hY.block w.heap.size (aN hV)
  rw[hV]at h1
  simp[World.cell?,h1]
 clear hV zQ
 go_quiet (fail)
 have HB:Hid (Below w.heap.size w (V.drewN nq)):=HB.out.trans ⟨rfl,rfl,rfl,Nat.le_refl _,fun _ _=>rfl⟩
 have c0:(V.drewN nq).cell? ⟨w.heap.size,0,none⟩=some (.int .i64 kd):=c0
 have c4:(V.drewN nq).cell? ⟨w.heap.size,4,none⟩=some (.slice fa d.fields.length fc):=c4
 have c5:(V.drewN nq).cell? ⟨w.heap.size,5,none⟩=some (.slice va d.values.length vc):=c5
 have c6:(V.drewN nq).cell? ⟨w.heap.size,6,none⟩=some (.slice ma d.methods.length mc):=c6
 have HC7:Hid (∀ Y:World,Below (V.drewN nq).heap.size (V.drewN nq) Y→Y.cell? ⟨w.heap.size,7,none⟩=some (.slice ia d.inner.length ic)):=fun Y hY=>HC7.out Y ((show Below V.heap.size V (V.drewN nq) from ⟨rfl,rfl,rfl,Nat.le_refl _,fun _ _=>rfl⟩).trans hY)
 generalize V.drewN nq=V1 at *
 by_cases k1:kd=1
 ·subst k1
  by_cases h8:k<8
  ·have h8i:(k:Int)<8:=by omega
   have hI:=hI h8
   cases lv
   ·go_wp2_with fail
    go_ret
    exact⟨aU (by rw[jX.out];simp),HB.out⟩
   cases lm
   ·go_wp2_with fail
    go_ret
    exact⟨aU (by rw[jX.out];simp),HB.out⟩
   go_wp2_with fail
   refine(hF _ HB.out).mono ?_
   rintro e Y ⟨rfl,hb⟩
   have HY:=aB (HB.out.trans (hb.mono HB.out.size))
   have c7Y:=HC7.out Y hb
   clear hb c0 c4 c5 c6 c7 hF hVv hM
   cases bF
   ·go_wp2_with fail
    go_ret
    exact⟨aU (by rw[jX.out];simp),HY.out⟩
   go_wp2_with fail
   refine(hI _ HY.out).mono ?_
   rintro e Z ⟨rfl,hz⟩
   have HZ:=aB (HY.out.trans (hz.mono HY.out.size))
   clear hz c7Y hI
   go_wp2_with fail
   go_ret
   exact⟨aU (by rw[jX.out];simp[h8]),HZ.out⟩
  ·have h8i:¬(k:Int)<8:=by omega
   go_wp2_with fail
   go_ret
   exact⟨aU (by rw[jX.out];simp[h8]),HB.out⟩
 have k1':(kd == 1)=false:=beq_eq_false_iff_ne.2 k1
 have K1:=aB k1
 clear hI k1
 by_cases k2:kd=2
 ·subst k2
  cases lf
  ·go_wp2_with fail
   go_ret
   exact⟨aU (by rw[jX.out];simp),HB.out⟩
  cases lm
  ·go_wp2_with fail
   go_ret
   exact⟨aU (by rw[jX.out];simp),HB.out⟩
  cases li
  ·go_wp2_with fail
   go_ret
   exact⟨aU (by rw[jX.out];simp),HB.out⟩
  go_wp2_with fail
  refine(hVv _ HB.out).mono ?_
  rintro e Y ⟨rfl,hb⟩
  have HY:=aB (HB.out.trans (hb.mono HB.out.size))
  clear hb c0 c4 c5 c6 c7 hF hVv hM
  go_wp2_with fail
  go_ret
  exact⟨aU (by rw[jX.out];simp),HY.out⟩
 have k2':(kd == 2)=false:=beq_eq_false_iff_ne.2 k2
 have K2:=aB k2
 clear k2
 by_cases k3:kd=3
 ·subst k3
  by_cases h0:k=0
  ·have h0i:((k:Int) == 0)=true:=by rw[h0];rfl
   have H0:=aB h0
   clear h0
   cases lf
   ·go_wp2_with fail
    go_ret
    exact⟨aU (by rw[jX.out];simp),HB.out⟩
   cases lv
   ·go_wp2_with fail
    go_ret
    exact⟨aU (by rw[jX.out];simp),HB.out⟩
   cases li
   ·go_wp2_with fail
    go_ret
    exact⟨aU (by rw[jX.out];simp),HB.out⟩
   go_wp2_with fail
   refine(hM _ HB.out).mono ?_
   rintro e Y ⟨rfl,hb⟩
   have HY:=aB (HB.out.trans (hb.mono HB.out.size))
   clear hb c0 c4 c5 c6 c7 hF hVv hM
   go_wp2_with fail
   go_ret
   exact⟨aU (by rw[jX.out];simp[H0.out]),HY.out⟩
  ·have h0i:((k:Int) == 0)=false:=beq_eq_false_iff_ne.2 (by omega)
   have H0:=aB h0
   clear h0
   go_wp2_with fail
   go_ret
   exact⟨aU (by rw[jX.out];simp[H0.out]),HB.out⟩
 have k3':(kd == 3)=false:=beq_eq_false_iff_ne.2 k3
 have K3:=aB k3
 clear k3
 go_wp2_with fail
 go_ret
 exact⟨aU (by rw[jX.out,if_neg K1.out,if_neg K2.out,if_neg K3.out]),HB.out⟩
set_option maxHeartbeats 16000000 in
set_option maxRecDepth 20000 in
theorem Wn (f:Nat) (IH:Bu f) (k c:Nat) (hk8:k≤8) (d:Dc) (fs vs ms ins:Value) (w:World) (hc:w.cell? ⟨c,0,none⟩=some (.int .i64 (k:Int))) (hf:aEg f d) (ht:aFu f d) (kd:Kids f w (fun b=>b<w.heap.size) fs vs ms ins d) :
  Calls Tryz.prog 96 #[.agg #[.int .i64 d.kind,.string (aC d.name),.int .i64 d.line,.int .i64 d.col,fs,vs,ms,ins],.pointer (some ⟨c,0,none⟩)] w fun e w'=>e=.returned (.bool (Ly f k d))∧Below w.heap.size w w':=by
 have hlc:=jD hc
 have hN:=fun W=>oZ d.name W ht.1
 have hBd:=fun (W:World) (hW:Below w.heap.size w W)=>Qj f IH k hk8 d fs vs ms ins W hf ht ((kd.old fun b hb=>hW.block b hb).more fun b hb=>by have:=hW.size;omega)
 obtain⟨r1,r2,r3,r4⟩:=kd
 obtain⟨fa,fcc,rfl⟩:=r1.cM
 obtain⟨va,vc,rfl⟩:=r2.cM
 obtain⟨ma,mc,rfl⟩:=r3.cM
 obtain⟨ia,ic,rfl⟩:=r4.eI
 have jX:Hid (Ly f k d=(aZ d.name&&tB f k d)):=rfl
 have zQ:=(Below.refl w.heap.size w).alloc (Nat.le_refl _) (.cells #[.int .i64 d.kind,.string (aC d.name),.int .i64 d.line,.int .i64 d.col,.slice fa d.fields.length fcc,.slice va d.values.length vc,.slice ma d.methods.length mc,.slice ia d.inner.length ic] 69)
 have hV:(w.alloc (.cells #[.int .i64 d.kind,.string (aC d.name),.int .i64 d.line,.int .i64 d.col,.slice fa d.fields.length fcc,.slice va d.values.length vc,.slice ma d.methods.length mc,.slice ia d.inner.length ic] 69)).heap[w.heap.size]? = some (.cells #[.int .i64 d.kind,.string (aC d.name),.int .i64 d.line,.int .i64 d.col,.slice fa d.fields.length fcc,.slice va d.values.length vc,.slice ma d.methods.length mc,.slice ia d.inner.length ic] 69 (0,0)):=alloc_heap_new _ _
 clear hf ht r1 r2 r3 r4 IH
 generalize Ly f k d=OK at *
 generalize aZ d.name=bN at *
 generalize tB f k d=bB at *
 go_enter Tryz.func96,Tryz.ntmps96
 go_upto_region 1 with fail
 generalize (w.alloc (.cells #[.int .i64 d.kind,.string (aC d.name),.int .i64 d.line,.int .i64 d.col,.slice fa d.fields.length fcc,.slice va d.values.length vc,.slice ma d.methods.length mc,.slice ia d.inner.length ic] 69))=V at *
 have HB:=aB zQ
 have c1:=aA hV 1 rfl
 have HC:Hid (∀ Y:World,Below V.heap.size V Y→Y.heap[w.heap.size]? = some (.cells #[.int .i64 d.kind,.string (aC d.name),.int .i64 d.line,.int .i64 d.col,.slice fa d.fields.length fcc,.slice va d.values.length vc,.slice ma d.methods.length mc,.slice ia d.inner.length ic] 69 (0,0))∧Y.cell? ⟨c,0,none⟩=some (.int .i64 (k:Int))):=fun Y hY=>
  ⟨(hY.block _ (aN hV)).trans hV,by rw[World.cell?_of_block ((hY.block c (by have:=zQ.size;omega)).trans (zQ.block c hlc))];exact hc⟩
 clear hV zQ hc
 go_wp2_with fail
 refine(hN _).mono ?_
 rintro e Y ⟨rfl,hb⟩
 have HY:=aB (HB.out.trans (hb.mono HB.out.size))
 obtain⟨hY,hk⟩:=HC.out Y hb
 clear hb c1 hN
 cases bN
 ·clear hY hk
  go_wp2_with fail
  go_ret
  exact⟨aU (by rw[jX.out];rfl),HY.out⟩
 have y0:=aA hY 0 rfl
 have y1:=aA hY 1 rfl
 have y2:=aA hY 2 rfl
 have y3:=aA hY 3 rfl
 have y4:=aA hY 4 rfl
 have y5:=aA hY 5 rfl
 have y6:=aA hY 6 rfl
 have y7:=aA hY 7 rfl
 clear hY
 go_wp2_with fail
 refine(hBd _ HY.out).mono ?_
 rintro e Z ⟨rfl,hz⟩
 have HZ:=aB (HY.out.trans (hz.mono HY.out.size))
 clear hz hBd hk y0 y1 y2 y3 y4 y5 y6 y7
 go_wp2_with fail
 go_ret
 exact⟨aU (by rw[jX.out];rfl),HZ.out⟩
set_option maxHeartbeats 16000000 in
set_option maxRecDepth 20000 in
theorem Wo (f:Nat) (IH:Bu f) (k c:Nat) (hk8:k≤8) (ds:List Dc) (v:Value) (w:World) (hc0:w.cell? ⟨c,0,none⟩=some (.int .i64 (k:Int))) (hf:iV (f+1) ds) (ht:lL (f+1) ds) (h1:aM (f+1) w (fun b=>b<w.heap.size) v ds) :
  Calls Tryz.prog 95 #[v,.func (.func 96) #[] #[.pointer (some ⟨c,0,none⟩)]] w fun e w'=>e=.returned (.bool (oQ (f+1) k ds))∧Below w.heap.size w w':=by
 rw[lG]
 obtain⟨ad,cc,rfl,hc,H1⟩:=h1
 have hl1:=hf.1
 have hlc:=jD hc0
 have Hf:=aB H1
 have HK:=aB hf.2
 have HT:=aB ht
 clear H1 hf ht
 go_enter Tryz.func95,Tryz.ntmps95
 go_wp2_with fail
 go_loopw [9] (fun kk wq=>∃ q:Nat,kk=.int .i64 (q:Int)∧q≤ds.length∧ds.all (Ly f k)=(ds.drop q).all (Ly f k)∧Below w.heap.size w wq) (fun kk _=>ds.length - (intOf kk).toNat)
 case atStart=>exact⟨0,rfl,by omega,rfl,Below.refl _ _⟩
 case round=>
  obtain⟨q,rfl,hq,hall,hbq⟩:=hrel
  have dN:=aB hbq
  have sC:=aB hall
  have zR:=hbq.size
  clear hbq hall
  by_cases nM:q<ds.length
  ·obtain⟨d,hx⟩:∃ x,ds[q]? = some x:=⟨_,List.getElem?_eq_getElem nM⟩
   rcases Hf.out with h0 | ⟨g,o,rfl,hg,hk⟩
   ·rw[h0]at hx;simp at hx
   have b3:=dN.out.block g hg
   obtain⟨fs,vs,ms,ins,hcell,kd⟩:=hk q d hx
   have kd:Kids f w (fun b=>b<w.heap.size) fs vs ms ins d:=kd
   have kd0:=kd
   obtain⟨r1,r2,r3,r4⟩:=kd0
   obtain⟨fa,fc,rfl⟩:=r1.cM
   obtain⟨va,vc,rfl⟩:=r2.cM
   obtain⟨ma,mc,rfl⟩:=r3.cM
   obtain⟨ia,ic,rfl⟩:=r4.eI
   have e0:wr.cell? ⟨g,o+q*8,none⟩=some (.int .i64 d.kind):=by
    rw[World.cell?_of_block b3]
    have:=hcell 0 _ rfl
    simpa [Nat.add_assoc]using this
   have e1:wr.cell? ⟨g,o+q*8+1,none⟩=some (.string (aC d.name)):=by
    rw[World.cell?_of_block b3]
    have:=hcell 1 _ rfl
    simpa [Nat.add_assoc]using this
   have e2:wr.cell? ⟨g,o+q*8+2,none⟩=some (.int .i64 d.line):=by
    rw[World.cell?_of_block b3]
    have:=hcell 2 _ rfl
    simpa [Nat.add_assoc]using this
   have e3:wr.cell? ⟨g,o+q*8+3,none⟩=some (.int .i64 d.col):=by
    rw[World.cell?_of_block b3]
    have:=hcell 3 _ rfl
    simpa [Nat.add_assoc]using this
   have e4:wr.cell? ⟨g,o+q*8+4,none⟩=some (.slice fa d.fields.length fc):=by
    rw[World.cell?_of_block b3]
    have:=hcell 4 _ rfl
    simpa [Nat.add_assoc]using this
   have e5:wr.cell? ⟨g,o+q*8+5,none⟩=some (.slice va d.values.length vc):=by
    rw[World.cell?_of_block b3]
    have:=hcell 5 _ rfl
    simpa [Nat.add_assoc]using this
   have e6:wr.cell? ⟨g,o+q*8+6,none⟩=some (.slice ma d.methods.length mc):=by
    rw[World.cell?_of_block b3]
    have:=hcell 6 _ rfl
    simpa [Nat.add_assoc]using this
   have e7:wr.cell? ⟨g,o+q*8+7,none⟩=some (.slice ia d.inner.length ic):=by
    rw[World.cell?_of_block b3]
    have:=hcell 7 _ rfl
    simpa [Nat.add_assoc]using this
   have hq0:(0:Int)≤(q:Int):=by omega
   have hq1:(q:Int)<(ds.length:Int):=by omega
   have hwq:=eE q (by omega)
   have HX:Hid (ds.all (Ly f k)=(Ly f k d&&(ds.drop (q+1)).all (Ly f k))):=by
    refine(?_:_=_)
    rw[sC.out,List.drop_eq_getElem_cons nM,List.all_cons,(List.getElem?_eq_some_iff.1 hx).2]
   have hm1:aEg f d:=HK.out d (List.mem_of_getElem? hx)
   have hm2:aFu f d:=HT.out d (List.mem_of_getElem? hx)
   have gE:=dN.out.alloc zR (.cells #[.int .i64 d.kind,.string (aC d.name),.int .i64 d.line,.int .i64 d.col,.slice fa d.fields.length fc,.slice va d.values.length vc,.slice ma d.methods.length mc,.slice ia d.inner.length ic] 69)
   have fP:=Wn f IH k c hk8 d _ _ _ _ (wr.alloc (.cells #[.int .i64 d.kind,.string (aC d.name),.int .i64 d.line,.int .i64 d.col,.slice fa d.fields.length fc,.slice va d.values.length vc,.slice ma d.methods.length mc,.slice ia d.inner.length ic] 69)) (by rw[World.cell?_of_block (gE.block c hlc)];exact hc0) hm1 hm2 ((kd.old fun b hb=>gE.block b hb).more fun b hb=>by have:=gE.size;omega)
   have cE:=aB gE
   clear hx hk b3 hcell gE kd r1 r2 r3 r4 hm1 hm2
   generalize Ly f k d=OK at *
   go_wp2_with fail
   refine fP.mono ?_
   rintro e Y ⟨rfl,hbw⟩
   have iU:=aB (cE.out.trans (hbw.mono cE.out.size))
   clear fP hbw e0 e1 e2 e3 e4 e5 e6 e7
   cases OK with
   | false=>
    go_wp2_with fail
    go_ret
    exact⟨aU (by rw[HX.out];rfl),iU.out⟩
   | true=>
    go_wp2_with fail
    go_roundw
    case rel=>exact⟨q+1,by go_num,by omega,by rw[HX.out];rfl,iU.out⟩
    case measure=>simp[intOf];omega
  ·have pH:¬(q:Int)<(ds.length:Int):=by omega
   have hal:ds.all (Ly f k)=true:=by rw[sC.out,List.drop_eq_nil_of_le (by omega)];rfl
   have HA:=aB hal
   clear hal
   go_wp2_with fail
   go_ret
   exact⟨aU (by rw[HA.out]),dN.out⟩
set_option maxHeartbeats 4000000 in
theorem Wp (ad:Option Addr) (cc:Nat) (u:Value) (w:World) :
  Calls Tryz.prog 95 #[.slice ad 0 cc,u] w fun e w'=>e=.returned (.bool true)∧Below w.heap.size w w':=by
 go_enter Tryz.func95,Tryz.ntmps95
 go_wp2_with fail
 go_loopw [9] (fun kk wq=>kk=.int .i64 0∧wq=w) (fun _ _=>0)
 case atStart=>exact⟨rfl,rfl⟩
 case round=>
  obtain⟨rfl,rfl⟩:=hrel
  go_wp2_with fail
  go_ret
  exact⟨rfl,Below.refl _ _⟩
set_option maxHeartbeats 4000000 in
set_option maxRecDepth 20000 in
theorem aFv:∀ f:Nat,Bu f:=by
 intro f
 induction f with
 | zero=>
  rintro k ds v w _ _ _ ⟨rfl,ad,c,rfl⟩
  have hE:=fun u W=>Wp ad c u W
  have hb:=(Below.refl w.heap.size w).alloc (Nat.le_refl _) (.cells #[.int .i64 (k:Int)] 3)
  have HB:=aB hb
  clear hb
  go_enter Tryz.func54,Tryz.ntmps54
  go_wp2_with fail
  refine(hE _ _).mono ?_
  rintro e Y ⟨rfl,hbw⟩
  have HY:=aB (HB.out.trans (hbw.mono HB.out.size))
  clear hbw hE
  go_wp2_with fail
  go_ret
  exact⟨rfl,HY.out⟩
 | succ f ih=>
  intro k ds v w hk8 f1 t1 h1
  have hb:=(Below.refl w.heap.size w).alloc (Nat.le_refl _) (.cells #[.int .i64 (k:Int)] 3)
  have hE:=Wo f ih k w.heap.size hk8 ds v (w.alloc (.cells #[.int .i64 (k:Int)] 3)) (by simp) f1 t1 ((aM.old (fun b hb'=>hb.block b hb') h1).more fun b hb'=>by have:=hb.size;omega)
  have HB:=aB hb
  clear h1 f1 t1 ih hb
  generalize oQ (f+1) k ds=OK at *
  go_enter Tryz.func54,Tryz.ntmps54
  go_wp2_with fail
  refine hE.mono ?_
  rintro e Y ⟨rfl,hbw⟩
  have HY:=aB (HB.out.trans (hbw.mono HB.out.size))
  clear hbw hE
  go_wp2_with fail
  go_ret
  exact⟨rfl,HY.out⟩
set_option maxHeartbeats 4000000 in
theorem Fz (f:Nat) (ds:List Dc) (v:Value) (w:World) (hf:iV f ds) (ht:lL f ds) (h:aM f w (fun b=>b<w.heap.size) v ds) :
  Calls Tryz.prog 23 #[v] w fun e w'=>e=.returned (.bool (oQ f 0 ds))∧Below w.heap.size w w':=by
 have hE:=aFv f 0 ds v w (by omega) hf ht h
 clear hf ht h
 generalize oQ f 0 ds=OK at *
 go_enter Tryz.func23,Tryz.ntmps23
 go_wp2_with fail
 refine hE.mono ?_
 rintro e Y ⟨rfl,hbw⟩
 clear hE
 go_wp2_with fail
 go_ret
 exact⟨rfl,hbw⟩
def mO:Nat→List Dc→Nat
 | 0,ds=>0
 | f+1,ds=>(ds.map fun d=>1+d.fields.length+d.values.length+d.methods.length+mO f d.inner).sum
def ctD (f:Nat) (d:Dc):Nat:=1+d.fields.length+d.values.length+d.methods.length+mO f d.inner
theorem oG (f:Nat) (ds:List Dc) (d:Dc):mO (f+1) (d :: ds)=ctD f d+mO (f+1) ds:=by
 simp[mO,ctD]
theorem Ga (a b:ByteArray) (n:Nat) (ha:a.size≤n) (hn:n+b.size≤9223372036854775807) (W:World):(Op.stringOp .add a b).run Tryz.prog W=.ok (.string (a++b)) W:=
 run_string_add_sum W _ _ (by omega)
end Go.Proofs.YtpojeinddnjpfaaGreatDoor
