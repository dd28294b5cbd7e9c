/-
  Walks and plain words (LFo UpD UpS).
-/
import Derived.Test.YtpojeinddnjpfaaGreatDoorM26
import Derived.Test.YtpojeinddnjpfaaGreatDoorM28
import Derived.Test.YtpojeinddnjpfaaGreatDoorM29
import Derived.Test.YtpojeinddnjpfaaGreatDoorM46
import Derived.Test.YtpojeinddnjpfaaGreatDoorM15
import Derived.Test.YtpojeinddnjpfaaGreatDoorM13
import Derived.Test.YtpojeinddnjpfaaGreatDoorM12
import Derived.Test.YtpojeinddnjpfaaGreatDoorChecked
import Derived.OpenShut
import Derived.ProofKit
import Derived.Lib.SmallJoins
import Derived.Lib.ItoaMem
import Derived.Lib.SlicesS
import Derived.Deep.Cut
import Derived.Deep.DeepCutAuto
import Derived.BigQuiet
import Derived.Deep.QuietTactic
namespace Go.Proofs.YtpojeinddnjpfaaGreatDoor
set_option linter.unusedVariables false
open Go.ChangeShapes Go.WideShapes Go.ChangeAt Go.RowKit

theorem gU {s:SC} (h:SmS s):aAn s∧aFh s:=by
 obtain⟨h0,h1,h2,h3⟩:=h
 refine⟨⟨⟨by omega,by omega⟩,fun m hm=>?_,fun m hm=>?_,by omega,fun t ht=>?_⟩,⟨by omega,fun m hm=>?_⟩,⟨by omega,fun m hm=>?_⟩,by omega⟩
 ·obtain⟨a,b,c⟩:=h1 m hm
  exact⟨by omega,by omega,fun f hf=>by have:=c f hf;omega⟩
 ·obtain⟨a,b,c⟩:=h2 m hm
  exact⟨by omega,by omega,fun f hf=>by have:=c f hf;omega⟩
 ·obtain⟨a,b⟩:=h3 t ht
  exact⟨by omega,by omega⟩
 ·obtain⟨a,b,c⟩:=h1 m hm
  omega
 ·obtain⟨a,b,c⟩:=h2 m hm
  omega
theorem Nm {a b:Bool} {p:Prop} (h1:a=true↔p) (h2:b=true↔p):a=b:=by
 cases a <;> cases b <;> simp_all
set_option maxHeartbeats 32000000 in
set_option maxRecDepth 20000 in
theorem uV (a1 b1 c1 a2 b2 c2:Value) (s t:SC) (w:World) (hT:qI w) (hE:qC w) (h1:cH w (fun b=>b<w.heap.size) a1 b1 c1 s) (f1:Qh s) (h2:cH w (fun b=>b<w.heap.size) a2 b2 c2 t) (f2:Qh t) :
  Calls Tryz.prog 5 #[.agg #[a1,b1,c1],.agg #[a2,b2,c2]] w fun e w'=>e=.returned (.bool true)∧Below w.heap.size w w':=by
 obtain⟨uQ,uR,rfl⟩:=aW.cM h1.1
 obtain⟨tX,tY,rfl⟩:=aW.cM h1.2.1
 obtain⟨tZ,uA,rfl⟩:=RowsIn.cM h1.2.2
 obtain⟨Kf,Kg,rfl⟩:=aW.cM h2.1
 obtain⟨Hp,Hq,rfl⟩:=aW.cM h2.2.1
 obtain⟨zV,zW,rfl⟩:=RowsIn.cM h2.2.2
 obtain⟨n1,hn1⟩:∃ n,s.ms.length=n:=⟨_,rfl⟩
 obtain⟨n2,hn2⟩:∃ n,s.es.length=n:=⟨_,rfl⟩
 obtain⟨n3,Qf⟩:∃ n,s.ts.length=n:=⟨_,rfl⟩
 obtain⟨k1,hk1⟩:∃ n,t.ms.length=n:=⟨_,rfl⟩
 obtain⟨k2,hk2⟩:∃ n,t.es.length=n:=⟨_,rfl⟩
 obtain⟨k3,hk3⟩:∃ n,t.ts.length=n:=⟨_,rfl⟩
 rw[hn1,hn2,Qf]at h1 ⊢
 rw[hk1,hk2,hk3]at h2 ⊢
 obtain⟨Y,hY,hC,hb,hYs⟩:=bY w #[.slice uQ n1 uR,.slice tX n2 tY,.slice tZ n3 uA] 29
 obtain⟨V,hV,hD,dO,iH⟩:=bY Y #[.slice Kf k1 Kg,.slice Hp k2 Hq,.slice zV k3 zW] 29
 have HY:=aB hY
 have HV:=aB hV
 have hB0:=hb.trans (dO.mono hb.size)
 rw[hYs]at hD dO iH
 have hC2:=(dO.block _ (by omega)).trans hC
 have HC:Hid (∀ W,Below V.heap.size V W→W.cell? ⟨w.heap.size,0,none⟩=some (.slice uQ n1 uR)∧W.cell? ⟨w.heap.size,1,none⟩=some (.slice tX n2 tY)∧W.cell? ⟨w.heap.size,2,none⟩=some (.slice tZ n3 uA)∧W.cell? ⟨w.heap.size+1,0,none⟩=some (.slice Kf k1 Kg)∧W.cell? ⟨w.heap.size+1,1,none⟩=some (.slice Hp k2 Hq)∧W.cell? ⟨w.heap.size+1,2,none⟩=some (.slice zV k3 zW)∧Below w.heap.size w W):=by
  refine(?_:∀ W,_→_)
  intro W hW
  have e1:=(hW.block _ (by omega)).trans hC2
  have e2:=(hW.block _ (by omega)).trans hD
  exact⟨aA e1 0 rfl,aA e1 1 rfl,aA e1 2 rfl,aA e2 0 rfl,aA e2 1 rfl,aA e2 2 rfl,hB0.trans (hW.mono hB0.size)⟩
 have HW:Hid (∀ W,Below V.heap.size V W→Below w.heap.size w W):=fun W hW=>(HC.out W hW).2.2.2.2.2.2
 have H1:Hid (∀ W,Below V.heap.size V W→cH W (fun b=>b<W.heap.size) (.slice uQ n1 uR) (.slice tX n2 tY) (.slice tZ n3 uA) s):=fun W hW=>h1.below (HW.out W hW)
 have H2:Hid (∀ W,Below V.heap.size V W→cH W (fun b=>b<W.heap.size) (.slice Kf k1 Kg) (.slice Hp k2 Hq) (.slice zV k3 zW) t):=fun W hW=>h2.below (HW.out W hW)
 have HA:Hid (∀ W,Below V.heap.size V W→Calls Tryz.prog 8 #[] W fun e w'=>e=.returned (.bool true)∧Below W.heap.size W w'):=fun W hW=>Lc W (jR hE (HW.out W hW))
 have pE:Hid (∀ W,Below V.heap.size V W→Calls Tryz.prog 17 #[.agg #[.slice uQ n1 uR,.slice tX n2 tY,.slice tZ n3 uA]] W fun e w'=>Wm s W e w'):=fun W hW=>xB uQ tX tZ n1 n2 n3 uR tY uA s W hn1 hn2 Qf f1 (H1.out W hW)
 have HS2:Hid (∀ W,Below V.heap.size V W→Calls Tryz.prog 17 #[.agg #[.slice Kf k1 Kg,.slice Hp k2 Hq,.slice zV k3 zW]] W fun e w'=>Wm t W e w'):=fun W hW=>xB Kf Hp zV k1 k2 k3 Kg Hq zW t W hk1 hk2 hk3 f2 (H2.out W hW)
 have HF:Hid (SmS s→∀ W,Below V.heap.size V W→Calls Tryz.prog 16 #[.agg #[.slice uQ n1 uR,.slice tX n2 tY,.slice tZ n3 uA]] W fun e w'=>pB s W e w'):=fun hs W hW=>Py uQ tX tZ n1 n2 n3 uR tY uA s W hn1 hn2 Qf (gU hs).1 (H1.out W hW)
 have HG:Hid (SmS s→∀ W,Below V.heap.size V W→Calls Tryz.prog 18 #[.agg #[.slice uQ n1 uR,.slice tX n2 tY,.slice tZ n3 uA]] W fun e w'=>pB s W e w'):=fun hs W hW=>Qb uQ tX tZ n1 n2 n3 uR tY uA s W (dQ hT (HW.out W hW)) hn1 hn2 Qf (gU hs).1 (H1.out W hW)
 have HP:Hid (SmS s→∀ W,Below V.heap.size V W→Calls Tryz.prog 19 #[.agg #[.slice uQ n1 uR,.slice tX n2 tY,.slice tZ n3 uA],.agg #[.slice Kf k1 Kg,.slice Hp k2 Hq,.slice zV k3 zW]] W fun e w'=>mW W s t e w'):=fun hs W hW=>zU s t _ _ _ _ _ _ W (gU hs).2 (H1.out W hW) (H2.out W hW)
 have HR:Hid (SmS s→∀ W,Below V.heap.size V W→Calls Tryz.prog 13 #[.agg #[.slice uQ n1 uR,.slice tX n2 tY,.slice tZ n3 uA],.agg #[.slice Kf k1 Kg,.slice Hp k2 Hq,.slice zV k3 zW]] W fun e w'=>mW W s t e w'):=fun hs W hW=>Kh s t _ _ _ _ _ _ W (gU hs).2 (H1.out W hW) (H2.out W hW)
 have HO:Hid (SmS s→∀ W,Below V.heap.size V W→Calls Tryz.prog 19 #[.agg #[.slice uQ n1 uR,.slice tX n2 tY,.slice tZ n3 uA],.agg #[.slice uQ n1 uR,.slice tX n2 tY,.slice tZ n3 uA]] W fun e w'=>mW W s s e w'):=fun hs W hW=>zU s s _ _ _ _ _ _ W (gU hs).2 (H1.out W hW) (H1.out W hW)
 clear h1 h2 f1 f2 hY hV hC hC2 hD hb dO hB0 hYs iH hn1 hn2 Qf hk1 hk2 hk3 hT hE H1 H2
 go_enter Tryz.func5,Tryz.ntmps5
 go_upto_region 1 with fail
 rw[HY.out,HV.out]
 have hS0:Below V.heap.size V V:=Below.refl _ _
 go_wp2_with fail
 refine(HA.out _ hS0).mono ?_
 rintro e W1 ⟨rfl,hbx⟩
 have hS1:=hS0.trans (hbx.mono hS0.size)
 clear hS0 hbx
 obtain⟨u0,u1,u2,-⟩:=HC.out _ hS1
 go_wp2_with fail
 refine(pE.out _ hS1).mono ?_
 rintro e W2 ⟨b,rfl,hsm,hbx⟩
 have hS0:=hS1.trans (hbx.mono hS1.size)
 have Vk:=aB hsm
 clear hS1 hbx u0 u1 u2 hsm
 cases b
 case false=>
  go_wp2_with fail
  refine(HA.out _ hS0).mono ?_
  rintro e W3 ⟨rfl,hbx⟩
  have HE9:=aB (HW.out _ (hS0.trans (hbx.mono hS0.size)))
  go_wp2_with fail
  go_ret
  exact⟨rfl,HE9.out⟩
 have hsm:=Vk.out (by simp)
 have hFa:=HF.out hsm
 have hGa:=HG.out hsm
 have hPa:=HP.out hsm
 have hRa:=HR.out hsm
 have hOa:=HO.out hsm
 have HF:=aB hFa
 have HG:=aB hGa
 have HP:=aB hPa
 have HR:=aB hRa
 have HO:=aB hOa
 clear hFa hGa hPa hRa hOa hsm Vk pE
 obtain⟨-,-,-,u0,u1,u2,-⟩:=HC.out _ hS0
 go_wp2_with fail
 refine(HS2.out _ hS0).mono ?_
 rintro e W3 ⟨b,rfl,-,hbx⟩
 have hS1:=hS0.trans (hbx.mono hS0.size)
 clear hS0 hbx u0 u1 u2 HS2
 cases b
 case false=>
  go_wp2_with fail
  refine(HA.out _ hS1).mono ?_
  rintro e W3 ⟨rfl,hbx⟩
  have HE9:=aB (HW.out _ (hS1.trans (hbx.mono hS1.size)))
  go_wp2_with fail
  go_ret
  exact⟨rfl,HE9.out⟩
 clear HA
 go_upto_region 3 with fail
 have hS0:Below V.heap.size V W3.drew:=hS1.drew
 clear hS1
 refine wp_region_held_drew (S:=fun W=>Below V.heap.size V W) (by kernel_rfl) hS0 (fun _=>?_)
 refine aT 0 (.agg #[.slice uQ n1 uR,.slice tX n2 tY,.slice tZ n3 uA]) rfl (by kernel_rfl) (fun _ _ _ h=>h) hS0 (fun W hW=>by obtain⟨u0,u1,u2,-⟩:=HC.out W hW;go_simp) ?_
 refine aT 2 (.agg #[.slice uQ n1 uR,.slice tX n2 tY,.slice tZ n3 uA]) rfl (by kernel_rfl) (fun _ _ _ h=>h) hS0 (fun W hW=>by obtain⟨u0,u1,u2,-⟩:=HC.out W hW;go_simp) ?_
 refine jY 1 (by kernel_rfl) rfl (fun K hK=>?_)
 go_simp
 refine(HF.out _ hS0).mono ?_
 rintro e X1 ⟨g1,rfl,hg1,hbx⟩
 have hS1:=hS0.trans (hbx.mono hS0.size)
 clear hS0 hbx
 have hS0:=hS1
 clear hS1
 dsimp only
 refine hK.out _ _ hS0 (fun _=>?_)
 clear hK K
 refine jY 3 (by kernel_rfl) rfl (fun K hK=>?_)
 go_simp
 refine(HG.out _ hS0).mono ?_
 rintro e X2 ⟨g2,rfl,hg2,hbx⟩
 have hS1:=hS0.trans (hbx.mono hS0.size)
 clear hS0 hbx
 have hS0:=hS1
 clear hS1
 dsimp only
 refine hK.out _ _ hS0 (fun _=>?_)
 clear hK K
 obtain rfl:=Nm hg1 hg2
 clear hg1 hg2 HF HG
 refine aT 4 (.bool true) rfl (by kernel_rfl) (fun _ _ _ h=>h) hS0 (fun W hW=>by go_simp) ?_
 refine aT 5 (.bool true) rfl (by kernel_rfl) (fun _ _ _ h=>h) hS0 (fun W hW=>by go_simp) ?_
 refine aT 6 (.agg #[.slice uQ n1 uR,.slice tX n2 tY,.slice tZ n3 uA]) rfl (by kernel_rfl) (fun _ _ _ h=>h) hS0 (fun W hW=>by obtain⟨u0,u1,u2,-⟩:=HC.out W hW;go_simp) ?_
 refine aT 7 (.agg #[.slice Kf k1 Kg,.slice Hp k2 Hq,.slice zV k3 zW]) rfl (by kernel_rfl) (fun _ _ _ h=>h) hS0 (fun W hW=>by obtain⟨-,-,-,u0,u1,u2,-⟩:=HC.out W hW;go_simp) ?_
 refine aT 9 (.agg #[.slice uQ n1 uR,.slice tX n2 tY,.slice tZ n3 uA]) rfl (by kernel_rfl) (fun _ _ _ h=>h) hS0 (fun W hW=>by obtain⟨u0,u1,u2,-⟩:=HC.out W hW;go_simp) ?_
 refine aT 10 (.agg #[.slice Kf k1 Kg,.slice Hp k2 Hq,.slice zV k3 zW]) rfl (by kernel_rfl) (fun _ _ _ h=>h) hS0 (fun W hW=>by obtain⟨-,-,-,u0,u1,u2,-⟩:=HC.out W hW;go_simp) ?_
 refine jY 8 (by kernel_rfl) rfl (fun K hK=>?_)
 go_simp
 refine(HP.out _ hS0).mono ?_
 rintro e X3 ⟨p1,rfl,hg1,hbx⟩
 have hS1:=hS0.trans (hbx.mono hS0.size)
 clear hS0 hbx
 have hS0:=hS1
 clear hS1
 dsimp only
 refine hK.out _ _ hS0 (fun _=>?_)
 clear hK K
 refine jY 11 (by kernel_rfl) rfl (fun K hK=>?_)
 go_simp
 refine(HR.out _ hS0).mono ?_
 rintro e X4 ⟨p2,rfl,hg2,hbx⟩
 have hS1:=hS0.trans (hbx.mono hS0.size)
 clear hS0 hbx
 have hS0:=hS1
 clear hS1
 dsimp only
 refine hK.out _ _ hS0 (fun _=>?_)
 clear hK K
 obtain rfl:=Nm hg1 hg2
 clear hg1 hg2 HP HR
 refine aT 12 (.bool true) rfl (by kernel_rfl) (fun _ _ _ h=>h) hS0 (fun W hW=>by go_simp) ?_
 refine aT 13 (.bool true) rfl (by kernel_rfl) (fun _ _ _ h=>h) hS0 (fun W hW=>by go_simp) ?_
 refine aT 14 (.bool true) rfl (by kernel_rfl) (fun _ _ _ h=>h) hS0 (fun W hW=>by go_simp) ?_
 refine aT 15 (.agg #[.slice uQ n1 uR,.slice tX n2 tY,.slice tZ n3 uA]) rfl (by kernel_rfl) (fun _ _ _ h=>h) hS0 (fun W hW=>by obtain⟨u0,u1,u2,-⟩:=HC.out W hW;go_simp) ?_
 refine aT 16 (.agg #[.slice uQ n1 uR,.slice tX n2 tY,.slice tZ n3 uA]) rfl (by kernel_rfl) (fun _ _ _ h=>h) hS0 (fun W hW=>by obtain⟨u0,u1,u2,-⟩:=HC.out W hW;go_simp) ?_
 refine jY 17 (by kernel_rfl) rfl (fun K hK=>?_)
 go_simp
 refine(HO.out _ hS0).mono ?_
 rintro e X5 ⟨o1,rfl,hg1,hbx⟩
 have hS1:=hS0.trans (hbx.mono hS0.size)
 clear hS0 hbx
 have hS0:=hS1
 clear hS1
 dsimp only
 refine hK.out _ _ hS0 (fun _=>?_)
 clear hK K
 obtain rfl:o1=true:=hg1.2 (by simp)
 clear hg1 HO
 refine aT 18 (.bool true) rfl (by kernel_rfl) (fun _ _ _ h=>h) hS0 (fun W hW=>by go_simp) ?_
 refine aT 19 (.bool true) rfl (by kernel_rfl) (fun _ _ _ h=>h) hS0 (fun W hW=>by go_simp) ?_
 refine wpAnyH_done (by kernel_rfl) ?_ _
 have HE9:=aB (HW.out _ hS0)
 go_wp2_with fail
 go_ret
 exact⟨rfl,HE9.out⟩
open Go.Joins
def fY {H:Type} (d:DataW H) (t:TypeId):Prop:=∀ n∈DataW.weights Tryz.prog t d,n≤140737488351232
theorem Nn {H:Type} {e:TypeId}:∀ {l:List (DataW H)} {d:DataW H},d∈l→(∀ n∈DataW.weightsAll Tryz.prog e l,n≤140737488351232)→fY d e
 | x :: r,d,hd,h=>by
  rw[DataW.weightsAll]at h
  rcases List.mem_cons.1 hd with rfl | hd
  ·exact fun n hn=>h n (List.mem_append_left _ hn)
  ·exact Nn hd (fun n hn=>h n (List.mem_append_right _ hn))
theorem Rn {H:Type} {t e:TypeId} {elems spare:List (DataW H)} (ht:Tryz.prog.underlying t=some (.slice e)) (h:fY (.slice elems spare) t) :
  (elems.length+spare.length)*Tryz.prog.bytesOf e≤140737488351232∧∀ d∈elems,fY d e:=by
 unfold fY at h
 rw[DataW.weights,ht]at h
 simp only at h
 refine⟨h _ List.mem_cons_self,fun d hd=>Nn hd fun n hn=>h n (List.mem_cons_of_mem _ (List.mem_append_left _ hn))⟩
theorem Ld {H:Type} {t:TypeId} {l:List UInt8} (h:fY (H:=H) (.lit (.string l)) t):l.length≤140737488351232:=h _ (by rw[DataW.weights];exact List.mem_singleton.2 rfl)
theorem rZ {H:Type}:∀ {ts:List TypeId} {l:List (DataW H)},(∀ n∈DataW.weightsEach Tryz.prog ts l,n≤140737488351232)→∀ (i:Nat) (t:TypeId) (d:DataW H),ts[i]? = some t→l[i]? = some d→fY d t
 | t0 :: ts,d0 :: l,h,0,t,d,h1,h2=>by
  have e1:t0=t:=by simpa using h1
  have e2:d0=d:=by simpa using h2
  subst e1 e2
  rw[DataW.weightsEach]at h
  exact fun n hn=>h n (List.mem_append_left _ hn)
 | t0 :: ts,d0 :: l,h,i+1,t,d,h1,h2=>by
  rw[DataW.weightsEach]at h
  exact rZ (ts:=ts) (l:=l) (fun n hn=>h n (List.mem_append_right _ hn)) i t d (by simpa using h1) (by simpa using h2)
 | [],l,h,i,t,d,h1,h2=>by simp at h1
 | t0 :: ts,[],h,i,t,d,h1,h2=>by simp at h2
theorem dT {H:Type} {t:TypeId} {fs:Array Field} {parts:List (DataW H)} (ht:Tryz.prog.underlying t=some (.struct fs)) (h:fY (.agg parts) t) (i:Nat) (f:Field) (d:DataW H) (hf:fs[i]? = some f) (hd:parts[i]? = some d):fY d f.type:=by
 unfold fY at h
 rw[DataW.weights,ht]at h
 simp only at h
 refine rZ h i f.type d ?_ hd
 rw[List.getElem?_map,Array.getElem?_toList,hf];rfl
theorem sA {α:Type} {P:Nat→α→Prop}:∀ n:Nat,(∀ k,k<n→∃ f,P k f)→∃ fs:List α,fs.length=n∧∀ k f,fs[k]? = some f→P k f
 | 0,_=>⟨[],rfl,fun k f h=>by simp at h⟩
 | n+1,h=>by
  obtain⟨fs,hl,hP⟩:=sA n (fun k hk=>h k (by omega))
  obtain⟨f,hf⟩:=h n (by omega)
  refine⟨fs++[f],by simp[hl],fun k g hg=>?_⟩
  by_cases hk:k<n
  ·rw[List.getElem?_append_left (by omega)]at hg
   exact hP k g hg
  ·have hlt:=(List.getElem?_eq_some_iff.1 hg).1
   rw[List.length_append,List.length_singleton]at hlt
   obtain rfl:k=n:=by omega
   rw[List.getElem?_append_right (by omega),hl,Nat.sub_self]at hg
   simp at hg
   subst hg
   exact hf
theorem Xz {w:World} {g o:Nat} {v:Value} (h:w.cell? ⟨g,o,none⟩=some v):g<w.heap.size:=by
 by_cases hl:g<w.heap.size
 ·exact hl
 ·have:w.heap[g]? = none:=Array.getElem?_eq_none (by omega)
  simp[World.cell?,this]at h
theorem kH {H:Type} {enc:TypeId × Value→H} {W:World} {α:Type} (T E:TypeId) (k:Nat) (row:α→List Value) (fit:α→Prop) (hT:Tryz.prog.underlying T=some (.slice E)) (hk:Tryz.prog.cellsOf E=k) (hk1:1≤k) (hrl:∀ x,(row x).length=k) (hby:1≤Tryz.prog.bytesOf E)
  {fuel:Nat} {cs:List Value} {y:DataW H × List MemPlace} (helem:∀ n,fuel=n+1→∀ cs y,DataW.trod enc Tryz.prog W 0 (fun _=>true) true n E cs=some y→fY y.1 E→∃ x,cs=row x∧fit x)
  (h:DataW.trod enc Tryz.prog W 0 (fun _=>true) true fuel T cs=some y) (hw:fY y.1 T) :
  ∃ v xs,cs=[v]∧RowsIn W (fun b=>b<W.heap.size) k row v xs∧xs.length≤140737488355328∧∀ x∈xs,fit x:=by
 rcases DataW.trod_slice hT h with ⟨hcs,hd⟩ | ⟨x,l,c,elems,rest,m,hm,hcs,hd,hb,hl,hmx,hlen,hel,hsp,_⟩
 ·exact⟨_,[],hcs,RowsIn.nil _ _ _ _ _ _,by simp,fun x hx=>by cases hx⟩
 ·subst hd
  obtain⟨hbytes,hparts⟩:=Rn hT hw
  have hcount:elems.length≤140737488355328:=by
   rw[List.length_map,List.length_map]at hbytes
   have h2:elems.length*1≤(elems.length+rest.length)*Tryz.prog.bytesOf E:=Nat.mul_le_mul (by omega) hby
   omega
  rw[hk]at hel
  have hP:∀ i,i<l→∃ a:α,fit a∧∃ cs,W.cells? 0 (x.add (i*k)) k=some cs∧cs=row a:=fun i hi=>by
   have h1:=hel i hi
   obtain⟨yy,hy⟩:∃ yy,elems[i]? = some yy:=⟨_,List.getElem?_eq_getElem (by omega)⟩
   rw[hy]at h1
   obtain⟨cs1,hcs1,htr⟩:=Option.bind_eq_some_iff.1 h1
   obtain⟨a,ha,hf⟩:=helem m hm cs1 yy htr (hparts yy.1 (List.mem_map.2 ⟨yy,List.mem_of_getElem? hy,rfl⟩))
   exact⟨a,hf,cs1,hcs1,ha⟩
  obtain⟨zs,hal,hap⟩:=sA (P:=fun i a=>fit a∧∃ cs,W.cells? 0 (x.add (i*k)) k=some cs∧cs=row a) l hP
  refine⟨_,zs,hcs,⟨some x,c,by rw[hal],by omega,?_⟩,by omega,fun a ha=>?_⟩
  ·by_cases hz:zs=[]
   ·exact .inl hz
   ·right
    have hpos:=List.length_pos_iff.2 hz
    obtain⟨g,off,spot⟩:=x
    obtain⟨a0,ha0⟩:∃ a,zs[0]? = some a:=⟨_,List.getElem?_eq_getElem (by omega)⟩
    obtain⟨_,cs0,aHj,hr0⟩:=hap 0 a0 ha0
    have hc0:=(World.cells?_some aHj).2.2 0 (by omega)
    have hr1:cs0[0]? = some (cs0[0]'(by rw[hr0,hrl];omega)):=List.getElem?_eq_getElem _
    rw[hr1]at hc0
    have hspot:spot=none:=by
     have h3:=World.cell?_spot hc0
     simpa [Addr.add]using h3
    subst hspot
    refine⟨g,off,rfl,?_,fun j a hj i u hu=>?_⟩
    ·have e:((Addr.mk g off none).add (0*k)).add 0=⟨g,off,none⟩:=by simp[Addr.add]
     rw[e]at hc0
     exact Xz hc0
    ·obtain⟨_,cs1,hcs1,hr1⟩:=hap j a hj
     have hi:i<k:=by
      have:=(List.getElem?_eq_some_iff.1 hu).1
      rw[hrl]at this;exact this
     have h3:=(World.cells?_some hcs1).2.2 i hi
     rw[hr1,hu]at h3
     have e:((Addr.mk g off none).add (j*k)).add i=⟨g,off+(j*k+i),none⟩:=by rw[Lib.add_plain,Lib.add_plain,Nat.add_assoc]
     rw[e]at h3
     exact h3
  ·obtain⟨i,hi⟩:=List.getElem?_of_mem ha
   exact(hap i a hi).1
set_option maxRecDepth 100000 in
theorem aId {H:Type} {enc:TypeId × Value→H} {W:World} {t:TypeId} {f0 f1 f2:Field} {fuel:Nat} {cs:List Value} {y:DataW H × List MemPlace} (ht:Tryz.prog.underlying t=some (.struct #[f0,f1,f2])) (h:DataW.trod enc Tryz.prog W 0 (fun _=>true) true fuel t cs=some y) (hw:fY y.1 t) :
  ∃ (y0 y1 y2:DataW H × List MemPlace) (n:Nat),fuel=n+1∧cs.length=Tryz.prog.cellsOf t∧(DataW.trod enc Tryz.prog W 0 (fun _=>true) true n f0.type ((cs.drop f0.offset).take (Tryz.prog.cellsOf f0.type))=some y0∧fY y0.1 f0.type)∧(DataW.trod enc Tryz.prog W 0 (fun _=>true) true n f1.type ((cs.drop f1.offset).take (Tryz.prog.cellsOf f1.type))=some y1∧fY y1.1 f1.type)∧(DataW.trod enc Tryz.prog W 0 (fun _=>true) true n f2.type ((cs.drop f2.offset).take (Tryz.prog.cellsOf f2.type))=some y2∧fY y2.1 f2.type):=by
 obtain⟨xs,n,hn,rfl,hl,hlen,hf⟩:=DataW.trod_struct ht h
 match xs,hlen with
 | [y0,y1,y2],_=>exact⟨y0,y1,y2,n,hn,hl,⟨by simpa using hf 0 f0 rfl,dT ht hw 0 f0 y0.1 rfl rfl⟩,⟨by simpa using hf 1 f1 rfl,dT ht hw 1 f1 y1.1 rfl rfl⟩,⟨by simpa using hf 2 f2 rfl,dT ht hw 2 f2 y2.1 rfl rfl⟩⟩
set_option maxRecDepth 100000 in
theorem Ya {H:Type} {enc:TypeId × Value→H} {W:World} {t:TypeId} {f0 f1 f2 f3 f4:Field} {fuel:Nat} {cs:List Value} {y:DataW H × List MemPlace} (ht:Tryz.prog.underlying t=some (.struct #[f0,f1,f2,f3,f4])) (h:DataW.trod enc Tryz.prog W 0 (fun _=>true) true fuel t cs=some y) (hw:fY y.1 t) :
  ∃ (y0 y1 y2 y3 y4:DataW H × List MemPlace) (n:Nat),fuel=n+1∧cs.length=Tryz.prog.cellsOf t∧(DataW.trod enc Tryz.prog W 0 (fun _=>true) true n f0.type ((cs.drop f0.offset).take (Tryz.prog.cellsOf f0.type))=some y0∧fY y0.1 f0.type)∧(DataW.trod enc Tryz.prog W 0 (fun _=>true) true n f1.type ((cs.drop f1.offset).take (Tryz.prog.cellsOf f1.type))=some y1∧fY y1.1 f1.type)∧(DataW.trod enc Tryz.prog W 0 (fun _=>true) true n f2.type ((cs.drop f2.offset).take (Tryz.prog.cellsOf f2.type))=some y2∧fY y2.1 f2.type)∧(DataW.trod enc Tryz.prog W 0 (fun _=>true) true n f3.type ((cs.drop f3.offset).take (Tryz.prog.cellsOf f3.type))=some y3∧fY y3.1 f3.type)∧(DataW.trod enc Tryz.prog W 0 (fun _=>true) true n f4.type ((cs.drop f4.offset).take (Tryz.prog.cellsOf f4.type))=some y4∧fY y4.1 f4.type):=by
 obtain⟨xs,n,hn,rfl,hl,hlen,hf⟩:=DataW.trod_struct ht h
 match xs,hlen with
 | [y0,y1,y2,y3,y4],_=>exact⟨y0,y1,y2,y3,y4,n,hn,hl,⟨by simpa using hf 0 f0 rfl,dT ht hw 0 f0 y0.1 rfl rfl⟩,⟨by simpa using hf 1 f1 rfl,dT ht hw 1 f1 y1.1 rfl rfl⟩,⟨by simpa using hf 2 f2 rfl,dT ht hw 2 f2 y2.1 rfl rfl⟩,⟨by simpa using hf 3 f3 rfl,dT ht hw 3 f3 y3.1 rfl rfl⟩,⟨by simpa using hf 4 f4 rfl,dT ht hw 4 f4 y4.1 rfl rfl⟩⟩
abbrev Aj:Nat:=140737488355328
theorem gF {H:Type} {enc:TypeId × Value→H} {W:World} {fuel:Nat} {cs:List Value} {y:DataW H × List MemPlace} (h:DataW.trod enc Tryz.prog W 0 (fun _=>true) true fuel 9 cs=some y) (hw:fY y.1 9):∃ l:List UInt8,cs=[.string (aC l)]∧l.length≤Aj:=by
 obtain⟨s,e,rfl,_⟩:=DataW.trod_string Tryz.underlying9 h
 exact⟨s.data.toList,by rw[e,Cw],by have:=Ld hw;unfold Aj;omega⟩
theorem aM.upTo {w:World} {S:Nat→Prop} {f g:Nat} (hfg:f≤g) {v:Value} {ds:List Dc} (h:aM f w S v ds):aM g w S v ds:=by
 obtain⟨k,rfl⟩:∃ k,g=f+k:=⟨g - f,by omega⟩
 clear hfg
 induction k with
 | zero=>exact h
 | succ k ih=>exact ih.up
set_option maxRecDepth 100000 in
theorem Le {H:Type} {enc:TypeId × Value→H} {W:World} {t:TypeId} {f0 f1:Field} {fuel:Nat} {cs:List Value} {y:DataW H × List MemPlace} (ht:Tryz.prog.underlying t=some (.struct #[f0,f1])) (h:DataW.trod enc Tryz.prog W 0 (fun _=>true) true fuel t cs=some y) (hw:fY y.1 t) :
  ∃ (y0 y1:DataW H × List MemPlace) (n:Nat),fuel=n+1∧cs.length=Tryz.prog.cellsOf t∧(DataW.trod enc Tryz.prog W 0 (fun _=>true) true n f0.type ((cs.drop f0.offset).take (Tryz.prog.cellsOf f0.type))=some y0∧fY y0.1 f0.type)∧(DataW.trod enc Tryz.prog W 0 (fun _=>true) true n f1.type ((cs.drop f1.offset).take (Tryz.prog.cellsOf f1.type))=some y1∧fY y1.1 f1.type):=by
 obtain⟨xs,n,hn,rfl,hl,hlen,hf⟩:=DataW.trod_struct ht h
 match xs,hlen with
 | [y0,y1],_=>exact⟨y0,y1,n,hn,hl,⟨by simpa using hf 0 f0 rfl,dT ht hw 0 f0 y0.1 rfl rfl⟩,⟨by simpa using hf 1 f1 rfl,dT ht hw 1 f1 y1.1 rfl rfl⟩⟩
theorem cI:Tryz.prog.cellsOf 3=1:=by kernel_rfl
theorem cB:Tryz.prog.cellsOf 4=1:=by kernel_rfl
theorem cS:Tryz.prog.cellsOf 9=1:=by kernel_rfl
set_option maxRecDepth 100000 in
theorem Lf {H:Type} {enc:TypeId × Value→H} {W:World} {fuel:Nat} {cs:List Value} {y:DataW H × List MemPlace} (h:DataW.trod enc Tryz.prog W 0 (fun _=>true) true fuel 88 cs=some y) (hw:fY y.1 88) :
  ∃ x:FD,cs=cA x∧x.name.length≤Aj:=by
 obtain⟨y0,y1,y2,y3,y4,n,_,hl,⟨h0,w0⟩,⟨h1,w1⟩,⟨h2,w2⟩,⟨h3,w3⟩,⟨h4,w4⟩⟩:=Ya Tryz.underlying88 h hw
 rw[show Tryz.prog.cellsOf 88=5 by kernel_rfl]at hl
 match cs,hl with
 | [c0,c1,c2,c3,c4],_=>
  dsimp only at h0 h1 h2 h3 h4
  simp only[cI,cB,cS,List.drop_zero,List.drop_succ_cons,List.take_succ_cons,List.take_zero]at h0 h1 h2 h3 h4
  obtain⟨a,e0,_,_⟩:=DataW.trod_int Tryz.underlying3 h0
  obtain⟨l1,e1,g1⟩:=gF h1 w1
  obtain⟨b,e2,_,_⟩:=DataW.trod_int Tryz.underlying3 h2
  obtain⟨c,e3,_⟩:=DataW.trod_bool Tryz.underlying4 h3
  obtain⟨d,e4,_,_⟩:=DataW.trod_int Tryz.underlying3 h4
  simp only[List.cons.injEq,and_true]at e0 e1 e2 e3 e4
  subst e0 e1 e2 e3 e4
  exact⟨⟨a,l1,b,c,d⟩,rfl,g1⟩
set_option maxRecDepth 100000 in
theorem Lg {H:Type} {enc:TypeId × Value→H} {W:World} {fuel:Nat} {cs:List Value} {y:DataW H × List MemPlace} (h:DataW.trod enc Tryz.prog W 0 (fun _=>true) true fuel 93 cs=some y) (hw:fY y.1 93) :
  ∃ x:VD,cs=eV x∧x.name.length≤Aj:=by
 obtain⟨y0,y1,n,_,hl,⟨h0,w0⟩,⟨h1,w1⟩⟩:=Le Tryz.underlying93 h hw
 rw[show Tryz.prog.cellsOf 93=2 by kernel_rfl]at hl
 match cs,hl with
 | [c0,c1],_=>
  dsimp only at h0 h1
  simp only[cI,cS,List.drop_zero,List.drop_succ_cons,List.take_succ_cons,List.take_zero]at h0 h1
  obtain⟨l0,e0,g0⟩:=gF h0 w0
  obtain⟨a,e1,_,_⟩:=DataW.trod_int Tryz.underlying3 h1
  simp only[List.cons.injEq,and_true]at e0 e1
  subst e0 e1
  exact⟨⟨l0,a⟩,rfl,g0⟩
set_option maxRecDepth 100000 in
theorem Lh {H:Type} {enc:TypeId × Value→H} {W:World} {fuel:Nat} {cs:List Value} {y:DataW H × List MemPlace} (h:DataW.trod enc Tryz.prog W 0 (fun _=>true) true fuel 45 cs=some y) (hw:fY y.1 45) :
  ∃ x:TD,cs=gD x∧(x.name.length≤Aj∧x.service.length≤Aj):=by
 obtain⟨y0,y1,y2,y3,y4,n,_,hl,⟨h0,w0⟩,⟨h1,w1⟩,⟨h2,w2⟩,⟨h3,w3⟩,⟨h4,w4⟩⟩:=Ya Tryz.underlying45 h hw
 rw[show Tryz.prog.cellsOf 45=5 by kernel_rfl]at hl
 match cs,hl with
 | [c0,c1,c2,c3,c4],_=>
  dsimp only at h0 h1 h2 h3 h4
  simp only[cI,cS,List.drop_zero,List.drop_succ_cons,List.take_succ_cons,List.take_zero]at h0 h1 h2 h3 h4
  obtain⟨a,e0,_,_⟩:=DataW.trod_int Tryz.underlying3 h0
  obtain⟨l1,e1,g1⟩:=gF h1 w1
  obtain⟨l2,e2,g2⟩:=gF h2 w2
  obtain⟨c,e3,_,_⟩:=DataW.trod_int Tryz.underlying3 h3
  obtain⟨d,e4,_,_⟩:=DataW.trod_int Tryz.underlying3 h4
  simp only[List.cons.injEq,and_true]at e0 e1 e2 e3 e4
  subst e0 e1 e2 e3 e4
  exact⟨⟨a,l1,l2,c,d⟩,rfl,g2,g1⟩
theorem Hk {α β:Type} {nm:α→List UInt8} {kids:α→List β} {k:Nat} {row:β→List Value} {W:World} {v:Value} {ps:List (α × Value)}
  (h:RowsIn W (fun b=>b<W.heap.size) 2 (fun p:α × Value=>[.string (aC (nm p.1)),p.2]) v ps) (hk:∀ p∈ps,RowsIn W (fun b=>b<W.heap.size) k row p.2 (kids p.1)) :
  aW nm kids k row W (fun b=>b<W.heap.size) v (ps.map Prod.fst):=by
 obtain⟨ad,c,hv,hc,hr⟩:=h
 refine⟨ad,c,by rw[List.length_map];exact hv,by rw[List.length_map];exact hc,?_⟩
 rcases hr with hr | ⟨g,o,ha,hg,hrow⟩
 ·left;rw[hr];rfl
 ·right
  refine⟨g,o,ha,hg,fun j x hj=>?_⟩
  rw[List.getElem?_map]at hj
  obtain⟨p,hp,rfl⟩:=Option.map_eq_some_iff.1 hj
  have hR:=hk p (List.mem_of_getElem? hp)
  obtain⟨ka,kc,hsl,hrest⟩:=hR
  refine⟨ka,kc,?_,?_,?_⟩
  ·have:=hrow j p hp 0 _ rfl;simpa [Nat.add_assoc]using this
  ·have:=hrow j p hp 1 _ rfl
   rw[←hsl];simpa [Nat.add_assoc]using this
  ·rw[←hsl];exact⟨ka,kc,hsl,hrest⟩
set_option maxRecDepth 100000 in
theorem Li {H:Type} {enc:TypeId × Value→H} {W:World} {fuel:Nat} {cs:List Value} {y:DataW H × List MemPlace} (h:DataW.trod enc Tryz.prog W 0 (fun _=>true) true fuel 25 cs=some y) (hw:fY y.1 25) :
  ∃ v xs,cs=[v]∧kQ W (fun b=>b<W.heap.size) v xs∧xs.length≤Aj∧∀ m∈xs,m.name.length≤Aj∧m.fields.length≤Aj∧∀ f∈m.fields,f.name.length≤Aj:=by
 obtain⟨v,ps,rfl,hR,hlen,hfit⟩:=kH (α:=MD × Value) 25 48 2 (fun p=>[.string (aC p.1.name),p.2]) (fun p=>RowsIn W (fun b=>b<W.heap.size) 5 cA p.2 p.1.fields∧p.1.name.length≤Aj∧p.1.fields.length≤Aj∧∀ f∈p.1.fields,f.name.length≤Aj)
  Tryz.underlying25 (by kernel_rfl) (by omega) (fun p=>rfl) (by rw[show Tryz.prog.bytesOf 48=40 by kernel_rfl];omega) (fun n hn cs y hq hwq=>by
   obtain⟨y0,y1,n2,_,hl,⟨h0,w0⟩,⟨h1,w1⟩⟩:=Le Tryz.underlying48 hq hwq
   rw[show Tryz.prog.cellsOf 48=2 by kernel_rfl]at hl
   match cs,hl with
   | [c0,c1],_=>
    dsimp only at h0 h1
    simp only[cS,show Tryz.prog.cellsOf 46=1 by kernel_rfl,List.drop_zero,List.drop_succ_cons,List.take_succ_cons,List.take_zero]at h0 h1
    obtain⟨l0,e0,g0⟩:=gF h0 w0
    obtain⟨v1,fs,e1,R1,n1,f1⟩:=kH 46 88 5 cA _ Tryz.underlying46 (by kernel_rfl) (by omega) (fun _=>rfl) (by rw[show Tryz.prog.bytesOf 88=48 by kernel_rfl];omega) (fun _ _ cs y h hw=>Lf h hw) h1 w1
    simp only[List.cons.injEq,and_true]at e0 e1
    subst e0 e1
    exact⟨(⟨l0,fs⟩,_),rfl,R1,g0,n1,f1⟩) h hw
 exact⟨v,ps.map Prod.fst,rfl,Hk hR fun p hp=>(hfit p hp).1,by rw[List.length_map];exact hlen,fun m hm=>by obtain⟨p,hp,rfl⟩:=List.mem_map.1 hm;exact(hfit p hp).2⟩
set_option maxRecDepth 100000 in
theorem Lj {H:Type} {enc:TypeId × Value→H} {W:World} {fuel:Nat} {cs:List Value} {y:DataW H × List MemPlace} (h:DataW.trod enc Tryz.prog W 0 (fun _=>true) true fuel 26 cs=some y) (hw:fY y.1 26) :
  ∃ v xs,cs=[v]∧rO W (fun b=>b<W.heap.size) v xs∧xs.length≤Aj∧∀ m∈xs,m.name.length≤Aj∧m.values.length≤Aj∧∀ f∈m.values,f.name.length≤Aj:=by
 obtain⟨v,ps,rfl,hR,hlen,hfit⟩:=kH (α:=ED × Value) 26 91 2 (fun p=>[.string (aC p.1.name),p.2]) (fun p=>RowsIn W (fun b=>b<W.heap.size) 2 eV p.2 p.1.values∧p.1.name.length≤Aj∧p.1.values.length≤Aj∧∀ f∈p.1.values,f.name.length≤Aj)
  Tryz.underlying26 (by kernel_rfl) (by omega) (fun p=>rfl) (by rw[show Tryz.prog.bytesOf 91=40 by kernel_rfl];omega) (fun n hn cs y hq hwq=>by
   obtain⟨y0,y1,n2,_,hl,⟨h0,w0⟩,⟨h1,w1⟩⟩:=Le Tryz.underlying91 hq hwq
   rw[show Tryz.prog.cellsOf 91=2 by kernel_rfl]at hl
   match cs,hl with
   | [c0,c1],_=>
    dsimp only at h0 h1
    simp only[cS,show Tryz.prog.cellsOf 89=1 by kernel_rfl,List.drop_zero,List.drop_succ_cons,List.take_succ_cons,List.take_zero]at h0 h1
    obtain⟨l0,e0,g0⟩:=gF h0 w0
    obtain⟨v1,fs,e1,R1,n1,f1⟩:=kH 89 93 2 eV _ Tryz.underlying89 (by kernel_rfl) (by omega) (fun _=>rfl) (by rw[show Tryz.prog.bytesOf 93=24 by kernel_rfl];omega) (fun _ _ cs y h hw=>Lg h hw) h1 w1
    simp only[List.cons.injEq,and_true]at e0 e1
    subst e0 e1
    exact⟨(⟨l0,fs⟩,_),rfl,R1,g0,n1,f1⟩) h hw
 exact⟨v,ps.map Prod.fst,rfl,Hk hR fun p hp=>(hfit p hp).1,by rw[List.length_map];exact hlen,fun m hm=>by obtain⟨p,hp,rfl⟩:=List.mem_map.1 hm;exact(hfit p hp).2⟩
set_option maxRecDepth 100000 in
theorem uH {H:Type} {enc:TypeId × Value→H} {W:World} {r:Reach} {b0:Nat} {v:Value} {d:DataW H} {p:List MemPlace}
  (hv:Value.okWide Tryz.prog W r b0 29 v) (h:DataW.Trod enc Tryz.prog W 0 (fun _=>true) true 29 v d p) (hw:fY d 29) :
  ∃ (a b c:Value) (s:SC),v=.agg #[a,b,c]∧cH W (fun b=>b<W.heap.size) a b c s∧Qh s:=by
 obtain⟨xs,rfl,hsz⟩:=okWide_struct Tryz.underlying29 hv
 obtain⟨fuel,hf⟩:=h
 obtain⟨y0,y1,y2,n,_,hl,⟨h0,w0⟩,⟨h1,w1⟩,⟨h2,w2⟩⟩:=aId Tryz.underlying29 hf hw
 rw[show Tryz.prog.cellsOf 29=3 by kernel_rfl]at hl
 obtain⟨l⟩:=xs
 simp only[Value.cells]at hl h0 h1 h2
 match l,hl with
 | [c0,c1,c2],_=>
  simp only[show Tryz.prog.cellsOf 25=1 by kernel_rfl,show Tryz.prog.cellsOf 26=1 by kernel_rfl,show Tryz.prog.cellsOf 27=1 by kernel_rfl,List.drop_zero,List.drop_succ_cons,List.take_succ_cons,List.take_zero]at h0 h1 h2
  obtain⟨v0,ms,e0,HM,n0,b0⟩:=Li h0 w0
  obtain⟨v1,es,e1,HE,n1,b1⟩:=Lj h1 w1
  obtain⟨v2,ts,e2,HT,n2,b2⟩:=kH 27 45 5 gD _ Tryz.underlying27 (by kernel_rfl) (by omega) (fun _=>rfl) (by rw[show Tryz.prog.bytesOf 45=56 by kernel_rfl];omega) (fun _ _ cs y h hw=>Lh h hw) h2 w2
  simp only[List.cons.injEq,and_true]at e0 e1 e2
  subst e0 e1 e2
  exact⟨_,_,_,⟨ms,es,ts⟩,rfl,⟨HM,HE,HT⟩,⟨n0,n1,n2⟩,b0,b1,b2⟩
end Go.Proofs.YtpojeinddnjpfaaGreatDoor
