/-
  Walks and plain words (SkC).
-/
import Derived.Test.YtpojeinddnjpfaaGreatDoorM0
import Derived.Test.YtpojeinddnjpfaaGreatDoorM41
import Derived.Test.YtpojeinddnjpfaaGreatDoorM42
import Derived.Test.YtpojeinddnjpfaaGreatDoorM23
import Derived.Test.YtpojeinddnjpfaaGreatDoorM20
import Derived.Test.YtpojeinddnjpfaaGreatDoorM43
import Derived.Test.YtpojeinddnjpfaaGreatDoorM40
import Derived.Test.YtpojeinddnjpfaaGreatDoorM30
namespace Go.Proofs.YtpojeinddnjpfaaGreatDoor
set_option linter.unusedVariables false
open Go.ChangeShapes Go.WideShapes Go.ChangeAt Go.RowKit Go.Maps

theorem eJ.up {k f:Nat} {w:World} {S:Nat→Prop} {v:Value} {ps:List Pl} (h:eJ k f w S v ps):eJ k (f+1) w S v ps:=by
 obtain⟨ad,c,hv,hc,h⟩:=h
 refine⟨ad,c,hv,hc,h.imp id ?_⟩
 rintro⟨g,o,ha,hg,h⟩
 refine⟨g,o,ha,hg,fun j d hj=>?_⟩
 obtain⟨fs,vs,ms,ins,h0,h1⟩:=h j d hj
 exact⟨fs,vs,ms,ins,h0,h1.up⟩
theorem dD (w:World) (S:Nat→Prop):cH w S (.slice none 0 0) (.slice none 0 0) (.slice none 0 0) ⟨[],[],[]⟩:=
 ⟨⟨none,0,rfl,Nat.le_refl _,.inl rfl⟩,⟨none,0,rfl,Nat.le_refl _,.inl rfl⟩,⟨none,0,rfl,Nat.le_refl _,.inl rfl⟩⟩
def iC (f:Nat) (ds:List Dc) (c:Option (Int × Int)):SC × (Int × Int) × Int:=
 if oQ (f+1) 0 ds=true then
  match aQ (eH (aX (f+1) [] ds)) (aX (f+1) [] ds).length with
  | some p=>(⟨[],[],[]⟩,p,4)
  | none=>match aQ (jB (aX (f+1) [] ds)) (aX (f+1) [] ds).length with
   | some p=>(⟨[],[],[]⟩,p,9)
   | none=>match aQ (pF (aX (f+1) [] ds)) (aX (f+1) [] ds).length with
    | some p=>(⟨[],[],[]⟩,p,11)
    | none=>match aQ (fL f (bR ds) (aX (f+1) [] ds) (aX (f+1) [] ds).length) (aX (f+1) [] ds).length with
     | some p=>(⟨[],[],[]⟩,p,10)
     | none=>match c with
      | some p=>(⟨[],[],[]⟩,p,12)
      | none=>(cU f (bR ds) (aX (f+1) [] ds) (aX (f+1) [] ds).length (aX (f+1) [] ds),(0,0),0)
 else (⟨[],[],[]⟩,(0,0),1)
structure aDk (f:Nat) (ds:List Dc):Prop where
 hn:(aX (f+1) [] ds).length≤100000
 nm:∀ x∈aX (f+1) [] ds,Bk x.2∧x.1.length≤1000000000
 nu:∀ x∈aX (f+1) [] ds,Ve x.2
 ms:hJ (aX (f+1) [] ds)≤100000
 ty:aQ (jB (aX (f+1) [] ds)) (aX (f+1) [] ds).length=none→Ng f (bR ds)
 xf:aQ (pF (aX (f+1) [] ds)) (aX (f+1) [] ds).length=none→∀ x∈aX (f+1) [] ds,aHb x
 rg:aQ (jB (aX (f+1) [] ds)) (aX (f+1) [] ds).length=none→aQ (pF (aX (f+1) [] ds)) (aX (f+1) [] ds).length=none→aQ (fL f (bR ds) (aX (f+1) [] ds) (aX (f+1) [] ds).length) (aX (f+1) [] ds).length=none→oX (cU f (bR ds) (aX (f+1) [] ds) (aX (f+1) [] ds).length (aX (f+1) [] ds)).ms
 ct:dI 1 (aX (f+1) [] ds)≤(cU f (bR ds) (aX (f+1) [] ds) (aX (f+1) [] ds).length (aX (f+1) [] ds)).ms.length
def aDl (P:SC × (Int × Int) × Int→Prop) (w:World) (e:Ending) (w':World):Prop:=∃ (aa ba ca:Option Addr) (an ac bn bc cn cc:Nat) (s:SC) (l p k:Int),e=.returned (.tuple #[.agg #[.slice aa an ac,.slice ba bn bc,.slice ca cn cc],.agg #[.int .i64 l,.int .i64 p],.int .i64 k])∧Below w.heap.size w w'∧cH w' (fun b=>w.heap.size≤b∧b<w'.heap.size) (.slice aa an ac) (.slice ba bn bc) (.slice ca cn cc) s∧P (s,(l,p),k)
def Ht (f:Nat) (ds:List Dc) (r:SC × (Int × Int) × Int):Prop:=∃ o,mT (cU f (bR ds) (aX (f+1) [] ds) (aX (f+1) [] ds).length (aX (f+1) [] ds)).ms (aX (f+1) [] ds) (aX (f+1) [] ds).length o∧r=iC f ds o
theorem iI {w:World} {B:Nat} {a b:Value} {T:TypeId} (h:w.heap[B]? = some (.cells #[a,b] T (0,0))):w.cell? ⟨B,0,none⟩=some a∧w.cell? ⟨B,1,none⟩=some b∧w.frozen? ⟨B,0,none⟩=false∧w.frozen? ⟨B,1,none⟩=false:=by
 simp[World.cell?,World.frozen?,h]
theorem Xs {P:Nat→Prop} (h:∃ i,P i):∃ i,P i∧∀ j,j<i→¬P j:=by
 classical
 obtain⟨n,hn⟩:=h
 induction n using Nat.strongRecOn with
 | ind n ih=>
  by_cases h':∃ j,j<n∧P j
  ·obtain⟨j,hj,hp⟩:=h'
   exact ih j hj hp
  ·exact⟨n,hn,fun j hj hp=>h' ⟨j,hj,hp⟩⟩
theorem aHk (ms:List MD) (ps:List Pl):∃ o,mT ms ps ps.length o:=by
 classical
 by_cases h:∃ i:Nat,∃ x:Pl,ps[i]? = some x∧x.2.kind=1∧Ring ms (dI 1 (ps.take i))
 ·obtain⟨i,⟨x,hx,hk,hr⟩,hm⟩:=Xs h
  exact⟨some (x.2.line,x.2.col),i,x,hx,hk,hr,rfl,fun j y hj hy hky hry=>hm j hj ⟨y,hy,hky,hry⟩⟩
 ·exact⟨none,fun i x _ hx hk hr=>h ⟨i,x,hx,hk,hr⟩⟩
set_option maxHeartbeats 16000000 in
set_option maxRecDepth 20000 in
theorem Ky (f:Nat) (ds:List Dc) (v:Value) (w:World) (hf:iV (f+1) ds) (ht:lL (f+1) ds) (hc:mO (f+1) ds≤2000) (hk:oQ (f+1) 0 ds=true→aDk f ds) (hH:aM (f+1) w (fun b=>b<w.heap.size) v ds) :
  Calls Tryz.prog 10 #[v] w fun e w'=>aDl (Ht f ds) w e w':=by
 obtain⟨dd,dc,rfl⟩:=hH.eI
 have HF:=aB hf
 have HT:=aB ht
 have HC:=aB hc
 have Wj:=aB hk
 have HH:=aB hH
 have hV4:((w.alloc (.cells #[.slice none 0 0,.slice none 0 0,.slice none 0 0] 29)).alloc (.cells #[.int .i64 0,.int .i64 0] 31)).heap[w.heap.size]? = some (.cells #[.slice none 0 0,.slice none 0 0,.slice none 0 0] 29 (0,0)):=by
  rw[aD _ _ _ (by simp)];exact alloc_heap_new _ _
 have hV5:((w.alloc (.cells #[.slice none 0 0,.slice none 0 0,.slice none 0 0] 29)).alloc (.cells #[.int .i64 0,.int .i64 0] 31)).heap[w.heap.size+1]? = some (.cells #[.int .i64 0,.int .i64 0] 31 (0,0)):=by
  have:=alloc_heap_new (w.alloc (.cells #[.slice none 0 0,.slice none 0 0,.slice none 0 0] 29)) (.cells #[.int .i64 0,.int .i64 0] 31)
  simpa using this
 have hVB:Below w.heap.size w ((w.alloc (.cells #[.slice none 0 0,.slice none 0 0,.slice none 0 0] 29)).alloc (.cells #[.int .i64 0,.int .i64 0] 31)):=((Below.refl _ w).alloc (Nat.le_refl _) _).alloc (by simp) _
 have iH:w.heap.size+2≤((w.alloc (.cells #[.slice none 0 0,.slice none 0 0,.slice none 0 0] 29)).alloc (.cells #[.int .i64 0,.int .i64 0] 31)).heap.size:=by simp
 have hCY:=aHk (cU f (bR ds) (aX (f+1) [] ds) (aX (f+1) [] ds).length (aX (f+1) [] ds)).ms (aX (f+1) [] ds)
 have sW:=aB hCY
 have HLD:=aB hf.1
 clear hf ht hc hk hH hCY
 go_enter Tryz.func10,Tryz.ntmps10
 go_upto_region 1 with fail
 generalize ((w.alloc (.cells #[.slice none 0 0,.slice none 0 0,.slice none 0 0] 29)).alloc (.cells #[.int .i64 0,.int .i64 0] 31))=V at *
 have hcall:=Fz (f+1) ds _ V HF.out HT.out ((HH.out.old (fun b hb=>hVB.block b hb)).more fun b hb=>by have hb':b<w.heap.size:=hb;omega)
 obtain⟨FM,hFM⟩:∃ b,oQ (f+1) 0 ds=b:=⟨_,rfl⟩
 rw[hFM]at hcall
 have rU:=aB hFM
 have HV4:=aB hV4
 have HV5:=aB hV5
 have iA:=aB hVB
 clear hV4 hV5 hVB hFM
 go_wp2_with fail
 refine hcall.mono ?_
 rintro e Y ⟨rfl,gE⟩
 have hYs:=gE.size
 have cX:Y.heap[w.heap.size]? = some (.cells #[.slice none 0 0,.slice none 0 0,.slice none 0 0] 29 (0,0)):=(gE.block _ (by omega)).trans HV4.out
 have dF:Y.heap[w.heap.size+1]? = some (.cells #[.int .i64 0,.int .i64 0] 31 (0,0)):=(gE.block _ (by omega)).trans HV5.out
 have uT:Hid (Below w.heap.size w Y):=iA.out.trans (gE.mono (by omega))
 clear hcall gE HV4 HV5 iA
 cases FM
 case false=>
  have m0:=aA cX 0 rfl
  have m1:=aA cX 1 rfl
  have m2:=aA cX 2 rfl
  have Gv:=aF cX 0
  have mf1:=aF cX 1
  have mf2:=aF cX 2
  have p0:=aA dF 0 rfl
  have p1:=aA dF 1 rfl
  have Gw:=aF dF 0
  have Gx:=aF dF 1
  obtain⟨A1,hA1,a8,ao,yN,ab⟩:=cO cX (.slice none 0 0) (.slice none 0 0) (.slice none 0 0)
  obtain⟨A2,hA2,c8,co,cs,cb⟩:=bU ((ao _ (by omega)).trans dF) (.int .i64 0) (.int .i64 0)
  have hA:A2.heap[w.heap.size]? = some (.cells #[.slice none 0 0,.slice none 0 0,.slice none 0 0] 29 (0,0)):=(co _ (by omega)).trans a8
  have r0:=aA hA 0 rfl
  have r1:=aA hA 1 rfl
  have r2:=aA hA 2 rfl
  have r3:=aA c8 0 rfl
  have r4:=aA c8 1 rfl
  have HA1:=aB hA1
  have HA2:=aB hA2
  have yO:Hid (Below w.heap.size w A2):=uT.out.trans (ab.trans (cb.mono (by omega)))
  clear hA1 a8 ao yN ab hA2 c8 co cs cb hA cX dF
  have HP:Hid (Ht f ds (⟨[],[],[]⟩,(0,0),1)):=by
   refine(?_:Ht _ _ _)
   obtain⟨o,ho⟩:=sW.out
   refine⟨o,ho,?_⟩
   unfold iC
   rw[if_neg (by rw[rU.out];decide)]
  go_wp2_with fail
  rw[HA1.out,HA2.out]
  try go_wp2_with fail
  refine bodyPost_ret (v:=.tuple #[.agg #[.slice none 0 0,.slice none 0 0,.slice none 0 0],.agg #[.int .i64 0,.int .i64 0],.int .i64 1]) (by simp[results,Tryz.results10,go_sem,r0,r1,r2,r3,r4]) rfl ?_
  exact⟨none,none,none,0,0,0,0,0,0,_,0,0,1,rfl,yO.out,dD _ _,HP.out⟩
 case true=>
  have aOb:=Wj.out rU.out
  have aEt:=aB aOb
  have hcall:=Kx f ds _ Y HF.out HT.out HC.out ((HH.out.old (fun b hb=>uT.out.block b hb)).more fun b hb=>by have hb':b<w.heap.size:=hb;omega)
  obtain⟨ps,hps⟩:∃ ps,aX (f+1) [] ds=ps:=⟨_,rfl⟩
  rw[hps]at hcall
  have HPS:=aB hps
  have xM:=aB cX
  have xN:=aB dF
  clear hps aOb cX dF
  go_wp2_with fail
  refine hcall.mono ?_
  rintro e W0 ⟨rv,rfl,hHP,hb0⟩
  obtain⟨pa,pc,rfl⟩:=hHP.cM
  have h0s:=hb0.size
  have HHP:=aB hHP
  have aOc:Hid (Below w.heap.size w W0):=uT.out.trans (hb0.mono (by omega))
  have aOd:Hid (W0.heap[w.heap.size]? = some (.cells #[.slice none 0 0,.slice none 0 0,.slice none 0 0] 29 (0,0))):=(hb0.block _ (by omega)).trans xM.out
  have aOe:Hid (W0.heap[w.heap.size+1]? = some (.cells #[.int .i64 0,.int .i64 0] 31 (0,0))):=(hb0.block _ (by omega)).trans xN.out
  clear hb0 hcall hHP xM xN uT
  have hfit:=aEt.out
  obtain⟨hn,hnm,hnu,hms,hty,hxf,hrg,hct⟩:=hfit
  rw[HPS.out]at hn hnm hnu hms hty hxf hrg hct
  have xS:=aB hnm
  have HNU:=aB hnu
  have wT:=aB hty
  have HXF:=aB hxf
  have HRG:=aB hrg
  have HCT:=aB hct
  clear hnm hnu hty hxf hrg hct
  have aHm:=HHP
  clear HHP
  have hcall:=Rb f ps _ W0 hn (fun x hx=>by have:=(xS.out x hx).1.1;omega) aHm.out
  obtain⟨R,hR⟩:∃ r,aQ (eH ps) ps.length=r:=⟨_,rfl⟩
  rw[hR]at hcall
  have HRR:=aB hR
  clear hR
  go_wp2_with fail
  refine hcall.mono ?_
  rintro e W1 ⟨l,c,b,rfl,hbW,dW⟩
  have hWs:=hbW.size
  have hbx:(W1.alloc (.cells #[.int .i64 l,.int .i64 c] 31)).heap[W1.heap.size]? = some (.cells #[.int .i64 l,.int .i64 c] 31 (0,0)):=alloc_heap_new _ _
  have hx4:(W1.alloc (.cells #[.int .i64 l,.int .i64 c] 31)).heap[w.heap.size]? = some (.cells #[.slice none 0 0,.slice none 0 0,.slice none 0 0] 29 (0,0)):=(aD _ _ _ (by omega)).trans ((hbW.block _ (by omega)).trans aOd.out)
  have hx5:(W1.alloc (.cells #[.int .i64 l,.int .i64 c] 31)).heap[w.heap.size+1]? = some (.cells #[.int .i64 0,.int .i64 0] 31 (0,0)):=(aD _ _ _ (by omega)).trans ((hbW.block _ (by omega)).trans aOe.out)
  have pW:Below W0.heap.size W0 (W1.alloc (.cells #[.int .i64 l,.int .i64 c] 31)):=hbW.alloc hWs _
  obtain⟨Z1,hZ⟩:∃ Z,W1.alloc (.cells #[.int .i64 l,.int .i64 c] 31)=Z:=⟨_,rfl⟩
  rw[hZ]at hbx hx4 hx5 pW
  have HZ:=aB hZ
  have aHn:=aB hx4
  have aHo:=aB hx5
  have aHp:Hid (Below w.heap.size w Z1):=aOc.out.trans (pW.mono (by omega))
  have bGb:W0.heap.size≤Z1.heap.size:=pW.size
  have iU:=aB pW
  have z0:Z1.cell? ⟨W1.heap.size,0,none⟩=some (.int .i64 l):=(iI hbx).1
  have z1:Z1.cell? ⟨W1.heap.size,1,none⟩=some (.int .i64 c):=(iI hbx).2.1
  have gS:=aB dW
  clear hbx hx4 hx5 hZ pW hbW dW hcall
  go_upto_region 5 with fail
  rw[HZ.out]
  cases b
  case true=>
   have oI:Hid (aQ (eH ps) ps.length=some (l,c)):=by
    refine(?_:_=_)
    rw[HRR.out]
    rcases gS.out with ⟨_,h,_⟩ | ⟨_,h⟩
    ·cases h
    ·exact h
   have cX:=aHn.out
   have dF:=aHo.out
   have uT:=aHp
   have m0:=aA cX 0 rfl
   have m1:=aA cX 1 rfl
   have m2:=aA cX 2 rfl
   have Gv:=aF cX 0
   have mf1:=aF cX 1
   have mf2:=aF cX 2
   have p0:=aA dF 0 rfl
   have p1:=aA dF 1 rfl
   have Gw:=aF dF 0
   have Gx:=aF dF 1
   have xM:=aB cX
   have xN:=aB dF
   clear cX dF
   go_upto_region 6 with fail
   obtain⟨A1,hA1,a8,ao,yN,ab⟩:=cO xM.out (.slice none 0 0) (.slice none 0 0) (.slice none 0 0)
   obtain⟨A2,hA2,c8,co,cs,cb⟩:=bU ((ao _ (by omega)).trans xN.out) (.int .i64 l) (.int .i64 c)
   obtain⟨B1,hB1,b8,bo,bs,bb⟩:=bU xN.out (.int .i64 l) (.int .i64 c)
   obtain⟨B2,hB2,d8,do',ds',db⟩:=cO ((bo _ (by omega)).trans xM.out) (.slice none 0 0) (.slice none 0 0) (.slice none 0 0)
   have HA1:=aB hA1
   have HA2:=aB hA2
   have tE:=aB hB1
   have tF:=aB hB2
   have hA:A2.heap[w.heap.size]? = some (.cells #[.slice none 0 0,.slice none 0 0,.slice none 0 0] 29 (0,0)):=(co _ (by omega)).trans a8
   have hBx:B2.heap[w.heap.size+1]? = some (.cells #[.int .i64 l,.int .i64 c] 31 (0,0)):=(do' _ (by omega)).trans b8
   have r0:=aA hA 0 rfl
   have r1:=aA hA 1 rfl
   have r2:=aA hA 2 rfl
   have r3:=aA c8 0 rfl
   have r4:=aA c8 1 rfl
   have s0:=aA d8 0 rfl
   have s1:=aA d8 1 rfl
   have s2:=aA d8 2 rfl
   have s3:=aA hBx 0 rfl
   have s4:=aA hBx 1 rfl
   have yO:Hid (Below w.heap.size w A2):=uT.out.trans (ab.trans (cb.mono (by omega)))
   have Re:Hid (Below w.heap.size w B2):=uT.out.trans ((bb.mono (by omega)).trans db)
   clear hA1 a8 ao yN ab hA2 c8 co cs cb hB1 b8 bo bs bb hB2 d8 do' ds' db hA hBx
   have HP:Hid (Ht f ds (⟨[],[],[]⟩,(l,c),4)):=by
    refine(?_:Ht _ _ _)
    obtain⟨o,ho⟩:=sW.out
    refine⟨o,ho,?_⟩
    unfold iC
    rw[if_pos rU.out,HPS.out]
    have hs:=oI.out
    simp only[hs]
   go_region
   all_goals
    first | rw[HA1.out,HA2.out] | rw[tE.out,tF.out]
    clear z0 z1 m0 m1 m2 Gv mf1 mf2 p0 p1 Gw Gx
    go_wp2_with fail
    first
     | (refine bodyPost_ret (v:=.tuple #[.agg #[.slice none 0 0,.slice none 0 0,.slice none 0 0],.agg #[.int .i64 l,.int .i64 c],.int .i64 4]) (by simp[results,Tryz.results10,go_sem,r0,r1,r2,r3,r4]) rfl ?_;exact⟨none,none,none,0,0,0,0,0,0,_,l,c,4,rfl,yO.out.drew,dD _ _,HP.out⟩)
     | (refine bodyPost_ret (v:=.tuple #[.agg #[.slice none 0 0,.slice none 0 0,.slice none 0 0],.agg #[.int .i64 l,.int .i64 c],.int .i64 4]) (by simp[results,Tryz.results10,go_sem,s0,s1,s2,s3,s4]) rfl ?_;exact⟨none,none,none,0,0,0,0,0,0,_,l,c,4,rfl,Re.out.drew,dD _ _,HP.out⟩)
  obtain⟨hR,-,hl,hc⟩:=gS.out.resolve_right (fun h=>by cases h.1)
  subst hl hc
  have HR1:Hid (aQ (eH ps) ps.length=none):=HRR.out.trans hR
  have aHq:Hid (eJ 9 f Z1 (fun b=>b<Z1.heap.size) (.slice pa ps.length pc) ps):=(aHm.out.old (fun b hb=>iU.out.block b hb)).more fun b hb=>by have hb':b<W0.heap.size:=hb;omega
  clear hR gS HRR iU HZ aOd aOe aOc aHm z0 z1
  have hcall:=xO f ps _ Z1 hn xS.out aHq.out.up
  obtain⟨R,hR⟩:∃ r,aQ (jB ps) ps.length=r:=⟨_,rfl⟩
  rw[hR]at hcall
  have HRR:=aB hR
  clear hR
  go_wp2_with fail
  refine hcall.mono ?_
  rintro e W2 ⟨l,c,b,rfl,hbW,dW⟩
  have hWs:=hbW.size
  have hbx:(W2.alloc (.cells #[.int .i64 l,.int .i64 c] 31)).heap[W2.heap.size]? = some (.cells #[.int .i64 l,.int .i64 c] 31 (0,0)):=alloc_heap_new _ _
  have hx4:(W2.alloc (.cells #[.int .i64 l,.int .i64 c] 31)).heap[w.heap.size]? = some (.cells #[.slice none 0 0,.slice none 0 0,.slice none 0 0] 29 (0,0)):=(aD _ _ _ (by omega)).trans ((hbW.block _ (by omega)).trans aHn.out)
  have hx5:(W2.alloc (.cells #[.int .i64 l,.int .i64 c] 31)).heap[w.heap.size+1]? = some (.cells #[.int .i64 0,.int .i64 0] 31 (0,0)):=(aD _ _ _ (by omega)).trans ((hbW.block _ (by omega)).trans aHo.out)
  have pW:Below Z1.heap.size Z1 (W2.alloc (.cells #[.int .i64 l,.int .i64 c] 31)):=hbW.alloc hWs _
  obtain⟨Z2,hZ⟩:∃ Z,W2.alloc (.cells #[.int .i64 l,.int .i64 c] 31)=Z:=⟨_,rfl⟩
  rw[hZ]at hbx hx4 hx5 pW
  have HZ:=aB hZ
  have aHr:=aB hx4
  have aHs:=aB hx5
  have aHt:Hid (Below w.heap.size w Z2):=aHp.out.trans (pW.mono (by omega))
  have bGc:Z1.heap.size≤Z2.heap.size:=pW.size
  have iU:=aB pW
  have z0:Z2.cell? ⟨W2.heap.size,0,none⟩=some (.int .i64 l):=(iI hbx).1
  have z1:Z2.cell? ⟨W2.heap.size,1,none⟩=some (.int .i64 c):=(iI hbx).2.1
  have gS:=aB dW
  clear hbx hx4 hx5 hZ pW hbW dW hcall
  go_upto_region 8 with fail
  rw[HZ.out]
  cases b
  case true=>
   have oI:Hid (aQ (jB ps) ps.length=some (l,c)):=by
    refine(?_:_=_)
    rw[HRR.out]
    rcases gS.out with ⟨_,h,_⟩ | ⟨_,h⟩
    ·cases h
    ·exact h
   have cX:=aHr.out
   have dF:=aHs.out
   have uT:=aHt
   have m0:=aA cX 0 rfl
   have m1:=aA cX 1 rfl
   have m2:=aA cX 2 rfl
   have Gv:=aF cX 0
   have mf1:=aF cX 1
   have mf2:=aF cX 2
   have p0:=aA dF 0 rfl
   have p1:=aA dF 1 rfl
   have Gw:=aF dF 0
   have Gx:=aF dF 1
   have xM:=aB cX
   have xN:=aB dF
   clear cX dF
   go_upto_region 9 with fail
   obtain⟨A1,hA1,a8,ao,yN,ab⟩:=cO xM.out (.slice none 0 0) (.slice none 0 0) (.slice none 0 0)
   obtain⟨A2,hA2,c8,co,cs,cb⟩:=bU ((ao _ (by omega)).trans xN.out) (.int .i64 l) (.int .i64 c)
   obtain⟨B1,hB1,b8,bo,bs,bb⟩:=bU xN.out (.int .i64 l) (.int .i64 c)
   obtain⟨B2,hB2,d8,do',ds',db⟩:=cO ((bo _ (by omega)).trans xM.out) (.slice none 0 0) (.slice none 0 0) (.slice none 0 0)
   have HA1:=aB hA1
   have HA2:=aB hA2
   have tE:=aB hB1
   have tF:=aB hB2
   have hA:A2.heap[w.heap.size]? = some (.cells #[.slice none 0 0,.slice none 0 0,.slice none 0 0] 29 (0,0)):=(co _ (by omega)).trans a8
   have hBx:B2.heap[w.heap.size+1]? = some (.cells #[.int .i64 l,.int .i64 c] 31 (0,0)):=(do' _ (by omega)).trans b8
   have r0:=aA hA 0 rfl
   have r1:=aA hA 1 rfl
   have r2:=aA hA 2 rfl
   have r3:=aA c8 0 rfl
   have r4:=aA c8 1 rfl
   have s0:=aA d8 0 rfl
   have s1:=aA d8 1 rfl
   have s2:=aA d8 2 rfl
   have s3:=aA hBx 0 rfl
   have s4:=aA hBx 1 rfl
   have yO:Hid (Below w.heap.size w A2):=uT.out.trans (ab.trans (cb.mono (by omega)))
   have Re:Hid (Below w.heap.size w B2):=uT.out.trans ((bb.mono (by omega)).trans db)
   clear hA1 a8 ao yN ab hA2 c8 co cs cb hB1 b8 bo bs bb hB2 d8 do' ds' db hA hBx
   have HP:Hid (Ht f ds (⟨[],[],[]⟩,(l,c),9)):=by
    refine(?_:Ht _ _ _)
    obtain⟨o,ho⟩:=sW.out
    refine⟨o,ho,?_⟩
    unfold iC
    rw[if_pos rU.out,HPS.out]
    have hs:=oI.out
    simp only[HR1.out,hs]
   go_region
   all_goals
    first | rw[HA1.out,HA2.out] | rw[tE.out,tF.out]
    clear z0 z1 m0 m1 m2 Gv mf1 mf2 p0 p1 Gw Gx
    go_wp2_with fail
    first
     | (refine bodyPost_ret (v:=.tuple #[.agg #[.slice none 0 0,.slice none 0 0,.slice none 0 0],.agg #[.int .i64 l,.int .i64 c],.int .i64 9]) (by simp[results,Tryz.results10,go_sem,r0,r1,r2,r3,r4]) rfl ?_;exact⟨none,none,none,0,0,0,0,0,0,_,l,c,9,rfl,yO.out.drew,dD _ _,HP.out⟩)
     | (refine bodyPost_ret (v:=.tuple #[.agg #[.slice none 0 0,.slice none 0 0,.slice none 0 0],.agg #[.int .i64 l,.int .i64 c],.int .i64 9]) (by simp[results,Tryz.results10,go_sem,s0,s1,s2,s3,s4]) rfl ?_;exact⟨none,none,none,0,0,0,0,0,0,_,l,c,9,rfl,Re.out.drew,dD _ _,HP.out⟩)
  obtain⟨hR,-,hl,hc⟩:=gS.out.resolve_right (fun h=>by cases h.1)
  subst hl hc
  have HR2:Hid (aQ (jB ps) ps.length=none):=HRR.out.trans hR
  have aHu:Hid (eJ 9 f Z2 (fun b=>b<Z2.heap.size) (.slice pa ps.length pc) ps):=(aHq.out.old (fun b hb=>iU.out.block b hb)).more fun b hb=>by have hb':b<Z1.heap.size:=hb;omega
  clear hR gS HRR iU HZ aHn aHo aHp aHq z0 z1
  have hcall:=Vf f ps _ Z2 hn HNU.out aHu.out
  obtain⟨R,hR⟩:∃ r,aQ (pF ps) ps.length=r:=⟨_,rfl⟩
  rw[hR]at hcall
  have HRR:=aB hR
  clear hR
  go_wp2_with fail
  refine hcall.mono ?_
  rintro e W3 ⟨l,c,b,rfl,hbW,dW⟩
  have hWs:=hbW.size
  have hbx:(W3.alloc (.cells #[.int .i64 l,.int .i64 c] 31)).heap[W3.heap.size]? = some (.cells #[.int .i64 l,.int .i64 c] 31 (0,0)):=alloc_heap_new _ _
  have hx4:(W3.alloc (.cells #[.int .i64 l,.int .i64 c] 31)).heap[w.heap.size]? = some (.cells #[.slice none 0 0,.slice none 0 0,.slice none 0 0] 29 (0,0)):=(aD _ _ _ (by omega)).trans ((hbW.block _ (by omega)).trans aHr.out)
  have hx5:(W3.alloc (.cells #[.int .i64 l,.int .i64 c] 31)).heap[w.heap.size+1]? = some (.cells #[.int .i64 0,.int .i64 0] 31 (0,0)):=(aD _ _ _ (by omega)).trans ((hbW.block _ (by omega)).trans aHs.out)
  have pW:Below Z2.heap.size Z2 (W3.alloc (.cells #[.int .i64 l,.int .i64 c] 31)):=hbW.alloc hWs _
  obtain⟨Z3,hZ⟩:∃ Z,W3.alloc (.cells #[.int .i64 l,.int .i64 c] 31)=Z:=⟨_,rfl⟩
  rw[hZ]at hbx hx4 hx5 pW
  have HZ:=aB hZ
  have aHv:=aB hx4
  have aHw:=aB hx5
  have aBp:Hid (Below w.heap.size w Z3):=aHt.out.trans (pW.mono (by omega))
  have bGd:Z2.heap.size≤Z3.heap.size:=pW.size
  have iU:=aB pW
  have z0:Z3.cell? ⟨W3.heap.size,0,none⟩=some (.int .i64 l):=(iI hbx).1
  have z1:Z3.cell? ⟨W3.heap.size,1,none⟩=some (.int .i64 c):=(iI hbx).2.1
  have gS:=aB dW
  clear hbx hx4 hx5 hZ pW hbW dW hcall
  go_upto_region 11 with fail
  rw[HZ.out]
  cases b
  case true=>
   have oI:Hid (aQ (pF ps) ps.length=some (l,c)):=by
    refine(?_:_=_)
    rw[HRR.out]
    rcases gS.out with ⟨_,h,_⟩ | ⟨_,h⟩
    ·cases h
    ·exact h
   have cX:=aHv.out
   have dF:=aHw.out
   have uT:=aBp
   have m0:=aA cX 0 rfl
   have m1:=aA cX 1 rfl
   have m2:=aA cX 2 rfl
   have Gv:=aF cX 0
   have mf1:=aF cX 1
   have mf2:=aF cX 2
   have p0:=aA dF 0 rfl
   have p1:=aA dF 1 rfl
   have Gw:=aF dF 0
   have Gx:=aF dF 1
   have xM:=aB cX
   have xN:=aB dF
   clear cX dF
   go_upto_region 12 with fail
   obtain⟨A1,hA1,a8,ao,yN,ab⟩:=cO xM.out (.slice none 0 0) (.slice none 0 0) (.slice none 0 0)
   obtain⟨A2,hA2,c8,co,cs,cb⟩:=bU ((ao _ (by omega)).trans xN.out) (.int .i64 l) (.int .i64 c)
   obtain⟨B1,hB1,b8,bo,bs,bb⟩:=bU xN.out (.int .i64 l) (.int .i64 c)
   obtain⟨B2,hB2,d8,do',ds',db⟩:=cO ((bo _ (by omega)).trans xM.out) (.slice none 0 0) (.slice none 0 0) (.slice none 0 0)
   have HA1:=aB hA1
   have HA2:=aB hA2
   have tE:=aB hB1
   have tF:=aB hB2
   have hA:A2.heap[w.heap.size]? = some (.cells #[.slice none 0 0,.slice none 0 0,.slice none 0 0] 29 (0,0)):=(co _ (by omega)).trans a8
   have hBx:B2.heap[w.heap.size+1]? = some (.cells #[.int .i64 l,.int .i64 c] 31 (0,0)):=(do' _ (by omega)).trans b8
   have r0:=aA hA 0 rfl
   have r1:=aA hA 1 rfl
   have r2:=aA hA 2 rfl
   have r3:=aA c8 0 rfl
   have r4:=aA c8 1 rfl
   have s0:=aA d8 0 rfl
   have s1:=aA d8 1 rfl
   have s2:=aA d8 2 rfl
   have s3:=aA hBx 0 rfl
   have s4:=aA hBx 1 rfl
   have yO:Hid (Below w.heap.size w A2):=uT.out.trans (ab.trans (cb.mono (by omega)))
   have Re:Hid (Below w.heap.size w B2):=uT.out.trans ((bb.mono (by omega)).trans db)
   clear hA1 a8 ao yN ab hA2 c8 co cs cb hB1 b8 bo bs bb hB2 d8 do' ds' db hA hBx
   have HP:Hid (Ht f ds (⟨[],[],[]⟩,(l,c),11)):=by
    refine(?_:Ht _ _ _)
    obtain⟨o,ho⟩:=sW.out
    refine⟨o,ho,?_⟩
    unfold iC
    rw[if_pos rU.out,HPS.out]
    have hs:=oI.out
    simp only[HR1.out,HR2.out,hs]
   go_region
   all_goals
    first | rw[HA1.out,HA2.out] | rw[tE.out,tF.out]
    clear z0 z1 m0 m1 m2 Gv mf1 mf2 p0 p1 Gw Gx
    go_wp2_with fail
    first
     | (refine bodyPost_ret (v:=.tuple #[.agg #[.slice none 0 0,.slice none 0 0,.slice none 0 0],.agg #[.int .i64 l,.int .i64 c],.int .i64 11]) (by simp[results,Tryz.results10,go_sem,r0,r1,r2,r3,r4]) rfl ?_;exact⟨none,none,none,0,0,0,0,0,0,_,l,c,11,rfl,yO.out.drew,dD _ _,HP.out⟩)
     | (refine bodyPost_ret (v:=.tuple #[.agg #[.slice none 0 0,.slice none 0 0,.slice none 0 0],.agg #[.int .i64 l,.int .i64 c],.int .i64 11]) (by simp[results,Tryz.results10,go_sem,s0,s1,s2,s3,s4]) rfl ?_;exact⟨none,none,none,0,0,0,0,0,0,_,l,c,11,rfl,Re.out.drew,dD _ _,HP.out⟩)
  obtain⟨hR,-,hl,hc⟩:=gS.out.resolve_right (fun h=>by cases h.1)
  subst hl hc
  have HR3:Hid (aQ (pF ps) ps.length=none):=HRR.out.trans hR
  have aHx:Hid (eJ 9 f Z3 (fun b=>b<Z3.heap.size) (.slice pa ps.length pc) ps):=(aHu.out.old (fun b hb=>iU.out.block b hb)).more fun b hb=>by have hb':b<Z2.heap.size:=hb;omega
  clear hR gS HRR iU HZ aHr aHs aHt aHu z0 z1
  have hcall:=Xn f ds (.slice dd ds.length dc) ps _ Z3 hn HLD.out hms (wT.out HR2.out) (HXF.out HR3.out) ((HH.out.old (fun b hb=>aBp.out.block b hb)).more fun b hb=>by have hb':b<w.heap.size:=hb;omega) aHx.out
  obtain⟨R,hR⟩:∃ r,aQ (fL f (bR ds) ps ps.length) ps.length=r:=⟨_,rfl⟩
  obtain⟨TB,hTB⟩:∃ r,cU f (bR ds) ps ps.length ps=r:=⟨_,rfl⟩
  rw[hR,hTB]at hcall
  have HRR:=aB hR
  have HTB:=aB hTB
  clear hR hTB
  go_wp2_with fail
  refine hcall.mono ?_
  rintro e W4 ⟨aa,ba,ca,an,ac,bn,bc,cn,cc,l,c,b,rfl,hbW,dW⟩
  have hWs:=hbW.size
  have hbx:((W4.alloc (.cells #[.slice aa an ac,.slice ba bn bc,.slice ca cn cc] 29)).alloc (.cells #[.int .i64 l,.int .i64 c] 31)).heap[W4.heap.size+1]? = some (.cells #[.int .i64 l,.int .i64 c] 31 (0,0)):=by
   have:=alloc_heap_new (W4.alloc (.cells #[.slice aa an ac,.slice ba bn bc,.slice ca cn cc] 29)) (.cells #[.int .i64 l,.int .i64 c] 31)
   simpa using this
  have hbs:((W4.alloc (.cells #[.slice aa an ac,.slice ba bn bc,.slice ca cn cc] 29)).alloc (.cells #[.int .i64 l,.int .i64 c] 31)).heap[W4.heap.size]? = some (.cells #[.slice aa an ac,.slice ba bn bc,.slice ca cn cc] 29 (0,0)):=(aD _ _ _ (by simp)).trans (alloc_heap_new _ _)
  have hxo:∀ b,b<W4.heap.size→((W4.alloc (.cells #[.slice aa an ac,.slice ba bn bc,.slice ca cn cc] 29)).alloc (.cells #[.int .i64 l,.int .i64 c] 31)).heap[b]? = W4.heap[b]?:=fun b hb=>(aD _ _ _ (by simp;omega)).trans (aD _ _ _ hb)
  have hx4:((W4.alloc (.cells #[.slice aa an ac,.slice ba bn bc,.slice ca cn cc] 29)).alloc (.cells #[.int .i64 l,.int .i64 c] 31)).heap[w.heap.size]? = some (.cells #[.slice none 0 0,.slice none 0 0,.slice none 0 0] 29 (0,0)):=(hxo _ (by omega)).trans ((hbW.block _ (by omega)).trans aHv.out)
  have hx5:((W4.alloc (.cells #[.slice aa an ac,.slice ba bn bc,.slice ca cn cc] 29)).alloc (.cells #[.int .i64 l,.int .i64 c] 31)).heap[w.heap.size+1]? = some (.cells #[.int .i64 0,.int .i64 0] 31 (0,0)):=(hxo _ (by omega)).trans ((hbW.block _ (by omega)).trans aHw.out)
  have pW:Below Z3.heap.size Z3 ((W4.alloc (.cells #[.slice aa an ac,.slice ba bn bc,.slice ca cn cc] 29)).alloc (.cells #[.int .i64 l,.int .i64 c] 31)):=(hbW.alloc hWs _).alloc (by simp;omega) _
  have aXg:W4.heap.size+2≤((W4.alloc (.cells #[.slice aa an ac,.slice ba bn bc,.slice ca cn cc] 29)).alloc (.cells #[.int .i64 l,.int .i64 c] 31)).heap.size:=by simp
  obtain⟨Z4,hZ⟩:∃ Z,((W4.alloc (.cells #[.slice aa an ac,.slice ba bn bc,.slice ca cn cc] 29)).alloc (.cells #[.int .i64 l,.int .i64 c] 31))=Z:=⟨_,rfl⟩
  rw[hZ]at hbx hbs hxo hx4 hx5 pW aXg
  have HZ:=aB hZ
  have aOf:=aB hx4
  have aOg:=aB hx5
  have aOh:Hid (Below w.heap.size w Z4):=aBp.out.trans (pW.mono (by omega))
  have iU:=aB pW
  have HXO:=aB hxo
  have HBS:=aB hbs
  have z0:Z4.cell? ⟨W4.heap.size+1,0,none⟩=some (.int .i64 l):=(iI hbx).1
  have z1:Z4.cell? ⟨W4.heap.size+1,1,none⟩=some (.int .i64 c):=(iI hbx).2.1
  have gS:=aB dW
  clear hbx hbs hxo hx4 hx5 hZ pW hbW dW hcall
  go_upto_region 14 with fail
  rw[HZ.out]
  cases b
  case true=>
   obtain⟨hRS,-⟩:aQ (fL f (bR ds) ps ps.length) ps.length=some (l,c)∧True:=by
    refine⟨?_,trivial⟩
    rw[HRR.out]
    rcases gS.out with ⟨_,h,_⟩ | ⟨h,_⟩
    ·exact h
    ·cases h
   have oI:=aB hRS
   clear hRS
   have cX:=aOf.out
   have dF:=aOg.out
   have uT:=aOh
   have m0:=aA cX 0 rfl
   have m1:=aA cX 1 rfl
   have m2:=aA cX 2 rfl
   have Gv:=aF cX 0
   have mf1:=aF cX 1
   have mf2:=aF cX 2
   have p0:=aA dF 0 rfl
   have p1:=aA dF 1 rfl
   have Gw:=aF dF 0
   have Gx:=aF dF 1
   have xM:=aB cX
   have xN:=aB dF
   clear cX dF
   go_upto_region 15 with fail
   obtain⟨A1,hA1,a8,ao,yN,ab⟩:=cO xM.out (.slice none 0 0) (.slice none 0 0) (.slice none 0 0)
   obtain⟨A2,hA2,c8,co,cs,cb⟩:=bU ((ao _ (by omega)).trans xN.out) (.int .i64 l) (.int .i64 c)
   obtain⟨B1,hB1,b8,bo,bs,bb⟩:=bU xN.out (.int .i64 l) (.int .i64 c)
   obtain⟨B2,hB2,d8,do',ds',db⟩:=cO ((bo _ (by omega)).trans xM.out) (.slice none 0 0) (.slice none 0 0) (.slice none 0 0)
   have HA1:=aB hA1
   have HA2:=aB hA2
   have tE:=aB hB1
   have tF:=aB hB2
   have hA:A2.heap[w.heap.size]? = some (.cells #[.slice none 0 0,.slice none 0 0,.slice none 0 0] 29 (0,0)):=(co _ (by omega)).trans a8
   have hBx:B2.heap[w.heap.size+1]? = some (.cells #[.int .i64 l,.int .i64 c] 31 (0,0)):=(do' _ (by omega)).trans b8
   have r0:=aA hA 0 rfl
   have r1:=aA hA 1 rfl
   have r2:=aA hA 2 rfl
   have r3:=aA c8 0 rfl
   have r4:=aA c8 1 rfl
   have s0:=aA d8 0 rfl
   have s1:=aA d8 1 rfl
   have s2:=aA d8 2 rfl
   have s3:=aA hBx 0 rfl
   have s4:=aA hBx 1 rfl
   have yO:Hid (Below w.heap.size w A2):=uT.out.trans (ab.trans (cb.mono (by omega)))
   have Re:Hid (Below w.heap.size w B2):=uT.out.trans ((bb.mono (by omega)).trans db)
   clear hA1 a8 ao yN ab hA2 c8 co cs cb hB1 b8 bo bs bb hB2 d8 do' ds' db hA hBx
   have HP:Hid (Ht f ds (⟨[],[],[]⟩,(l,c),10)):=by
    refine(?_:Ht _ _ _)
    obtain⟨o,ho⟩:=sW.out
    refine⟨o,ho,?_⟩
    unfold iC
    rw[if_pos rU.out,HPS.out]
    have hs:=oI.out
    simp only[HR1.out,HR2.out,HR3.out,hs]
   go_region
   all_goals
    first | rw[HA1.out,HA2.out] | rw[tE.out,tF.out]
    clear z0 z1 m0 m1 m2 Gv mf1 mf2 p0 p1 Gw Gx
    go_wp2_with fail
    first
     | (refine bodyPost_ret (v:=.tuple #[.agg #[.slice none 0 0,.slice none 0 0,.slice none 0 0],.agg #[.int .i64 l,.int .i64 c],.int .i64 10]) (by simp[results,Tryz.results10,go_sem,r0,r1,r2,r3,r4]) rfl ?_;exact⟨none,none,none,0,0,0,0,0,0,_,l,c,10,rfl,yO.out.drew,dD _ _,HP.out⟩)
     | (refine bodyPost_ret (v:=.tuple #[.agg #[.slice none 0 0,.slice none 0 0,.slice none 0 0],.agg #[.int .i64 l,.int .i64 c],.int .i64 10]) (by simp[results,Tryz.results10,go_sem,s0,s1,s2,s3,s4]) rfl ?_;exact⟨none,none,none,0,0,0,0,0,0,_,l,c,10,rfl,Re.out.drew,dD _ _,HP.out⟩)
  obtain⟨-,hR,hl,hc,hSC⟩:=gS.out.resolve_left (fun h=>by cases h.1)
  subst hl hc
  have HR4:Hid (aQ (fL f (bR ds) ps ps.length) ps.length=none):=HRR.out.trans hR
  have aXh:Hid (eJ 9 f Z4 (fun b=>b<Z4.heap.size) (.slice pa ps.length pc) ps):=(aHx.out.old (fun b hb=>iU.out.block b hb)).more fun b hb=>by have hb':b<Z3.heap.size:=hb;omega
  have aBq:Hid (cH Z4 (fun b=>Z3.heap.size≤b∧b<W4.heap.size) (.slice aa an ac) (.slice ba bn bc) (.slice ca cn cc) TB):=⟨aW.old hSC.1 (fun b hb=>HXO.out b hb.2),aW.old hSC.2.1 (fun b hb=>HXO.out b hb.2),hSC.2.2.old (fun b hb=>HXO.out b hb.2)⟩
  have t0:=aA HBS.out 0 rfl
  clear hR hSC gS HRR iU HZ aHv aHw aBp aHx z0 z1
  have hcall:=Up f TB.ms (.slice aa an ac) ps _ Z4 hn (by have:=HRG.out HR2.out HR3.out HR4.out;rw[HTB.out]at this;exact this) (by have:=HCT.out;rw[HTB.out]at this;exact this) (aBq.out.1.more fun b hb=>by have:=hb.2;omega) aXh.out
  go_wp2_with fail
  refine hcall.mono ?_
  rintro e W5 ⟨R5,hcy,l,c,b,rfl,hbW,dW⟩
  have aXi:=hbW.size
  have hbx:(W5.alloc (.cells #[.int .i64 l,.int .i64 c] 31)).heap[W5.heap.size]? = some (.cells #[.int .i64 l,.int .i64 c] 31 (0,0)):=alloc_heap_new _ _
  have hx4:(W5.alloc (.cells #[.int .i64 l,.int .i64 c] 31)).heap[w.heap.size]? = some (.cells #[.slice none 0 0,.slice none 0 0,.slice none 0 0] 29 (0,0)):=(aD _ _ _ (by omega)).trans ((hbW.block _ (by omega)).trans aOf.out)
  have hx5:(W5.alloc (.cells #[.int .i64 l,.int .i64 c] 31)).heap[w.heap.size+1]? = some (.cells #[.int .i64 0,.int .i64 0] 31 (0,0)):=(aD _ _ _ (by omega)).trans ((hbW.block _ (by omega)).trans aOg.out)
  have pW:Below Z4.heap.size Z4 (W5.alloc (.cells #[.int .i64 l,.int .i64 c] 31)):=hbW.alloc aXi _
  obtain⟨Z5,hZ⟩:∃ Z,W5.alloc (.cells #[.int .i64 l,.int .i64 c] 31)=Z:=⟨_,rfl⟩
  rw[hZ]at hbx hx4 hx5 pW
  have HZ:=aB hZ
  have aOi:=aB hx4
  have aOj:=aB hx5
  have aOk:Hid (Below w.heap.size w Z5):=aOh.out.trans (pW.mono (by omega))
  have bGe:Z4.heap.size≤Z5.heap.size:=pW.size
  have iU:=aB pW
  have z0:Z5.cell? ⟨W5.heap.size,0,none⟩=some (.int .i64 l):=(iI hbx).1
  have z1:Z5.cell? ⟨W5.heap.size,1,none⟩=some (.int .i64 c):=(iI hbx).2.1
  have gS:=aB dW
  have aOl:Hid (mT (cU f (bR ds) (aX (f+1) [] ds) (aX (f+1) [] ds).length (aX (f+1) [] ds)).ms (aX (f+1) [] ds) (aX (f+1) [] ds).length R5):=by
   refine(?_:mT _ _ _ _)
   rw[HPS.out,HTB.out];exact hcy
  clear hbx hx4 hx5 hZ pW hbW dW hcall hcy t0
  go_upto_region 17 with fail
  rw[HZ.out]
  cases b
  case true=>
   have oI:Hid (R5=some (l,c)):=by
    refine(?_:_=_)
    rcases gS.out with ⟨_,h,_⟩ | ⟨_,h⟩
    ·cases h
    ·exact h
   have cX:=aOi.out
   have dF:=aOj.out
   have uT:=aOk
   have m0:=aA cX 0 rfl
   have m1:=aA cX 1 rfl
   have m2:=aA cX 2 rfl
   have Gv:=aF cX 0
   have mf1:=aF cX 1
   have mf2:=aF cX 2
   have p0:=aA dF 0 rfl
   have p1:=aA dF 1 rfl
   have Gw:=aF dF 0
   have Gx:=aF dF 1
   have xM:=aB cX
   have xN:=aB dF
   clear cX dF
   go_upto_region 18 with fail
   obtain⟨A1,hA1,a8,ao,yN,ab⟩:=cO xM.out (.slice none 0 0) (.slice none 0 0) (.slice none 0 0)
   obtain⟨A2,hA2,c8,co,cs,cb⟩:=bU ((ao _ (by omega)).trans xN.out) (.int .i64 l) (.int .i64 c)
   obtain⟨B1,hB1,b8,bo,bs,bb⟩:=bU xN.out (.int .i64 l) (.int .i64 c)
   obtain⟨B2,hB2,d8,do',ds',db⟩:=cO ((bo _ (by omega)).trans xM.out) (.slice none 0 0) (.slice none 0 0) (.slice none 0 0)
   have HA1:=aB hA1
   have HA2:=aB hA2
   have tE:=aB hB1
   have tF:=aB hB2
   have hA:A2.heap[w.heap.size]? = some (.cells #[.slice none 0 0,.slice none 0 0,.slice none 0 0] 29 (0,0)):=(co _ (by omega)).trans a8
   have hBx:B2.heap[w.heap.size+1]? = some (.cells #[.int .i64 l,.int .i64 c] 31 (0,0)):=(do' _ (by omega)).trans b8
   have r0:=aA hA 0 rfl
   have r1:=aA hA 1 rfl
   have r2:=aA hA 2 rfl
   have r3:=aA c8 0 rfl
   have r4:=aA c8 1 rfl
   have s0:=aA d8 0 rfl
   have s1:=aA d8 1 rfl
   have s2:=aA d8 2 rfl
   have s3:=aA hBx 0 rfl
   have s4:=aA hBx 1 rfl
   have yO:Hid (Below w.heap.size w A2):=uT.out.trans (ab.trans (cb.mono (by omega)))
   have Re:Hid (Below w.heap.size w B2):=uT.out.trans ((bb.mono (by omega)).trans db)
   clear hA1 a8 ao yN ab hA2 c8 co cs cb hB1 b8 bo bs bb hB2 d8 do' ds' db hA hBx
   have HP:Hid (Ht f ds (⟨[],[],[]⟩,(l,c),12)):=by
    refine(?_:Ht _ _ _)
    refine⟨_,aOl.out,?_⟩
    unfold iC
    rw[if_pos rU.out,HPS.out]
    have hs:=oI.out
    simp only[HR1.out,HR2.out,HR3.out,HR4.out,hs]
   go_region
   all_goals
    first | rw[HA1.out,HA2.out] | rw[tE.out,tF.out]
    clear z0 z1 m0 m1 m2 Gv mf1 mf2 p0 p1 Gw Gx
    go_wp2_with fail
    first
     | (refine bodyPost_ret (v:=.tuple #[.agg #[.slice none 0 0,.slice none 0 0,.slice none 0 0],.agg #[.int .i64 l,.int .i64 c],.int .i64 12]) (by simp[results,Tryz.results10,go_sem,r0,r1,r2,r3,r4]) rfl ?_;exact⟨none,none,none,0,0,0,0,0,0,_,l,c,12,rfl,yO.out.drew,dD _ _,HP.out⟩)
     | (refine bodyPost_ret (v:=.tuple #[.agg #[.slice none 0 0,.slice none 0 0,.slice none 0 0],.agg #[.int .i64 l,.int .i64 c],.int .i64 12]) (by simp[results,Tryz.results10,go_sem,s0,s1,s2,s3,s4]) rfl ?_;exact⟨none,none,none,0,0,0,0,0,0,_,l,c,12,rfl,Re.out.drew,dD _ _,HP.out⟩)
  obtain⟨hR,-,hl,hc⟩:=gS.out.resolve_right (fun h=>by cases h.1)
  subst hl hc
  have cX:=aOi.out
  have dF:=aOj.out
  have aBr:Z5.heap[W4.heap.size]? = some (.cells #[.slice aa an ac,.slice ba bn bc,.slice ca cn cc] 29 (0,0)):=(iU.out.block _ (by omega)).trans HBS.out
  have t0:=aA aBr 0 rfl
  have t1:=aA aBr 1 rfl
  have t2:=aA aBr 2 rfl
  have m0:=aA cX 0 rfl
  have m1:=aA cX 1 rfl
  have m2:=aA cX 2 rfl
  have Gv:=aF cX 0
  have mf1:=aF cX 1
  have mf2:=aF cX 2
  have p0:=aA dF 0 rfl
  have p1:=aA dF 1 rfl
  have Gw:=aF dF 0
  have Gx:=aF dF 1
  obtain⟨A1,hA1,a8,ao,yN,ab⟩:=cO cX (.slice aa an ac) (.slice ba bn bc) (.slice ca cn cc)
  obtain⟨A2,hA2,c8,co,cs,cb⟩:=bU ((ao _ (by omega)).trans dF) (.int .i64 0) (.int .i64 0)
  have hA:A2.heap[w.heap.size]? = _:=(co _ (by omega)).trans a8
  have r0:=aA hA 0 rfl
  have r1:=aA hA 1 rfl
  have r2:=aA hA 2 rfl
  have r3:=aA c8 0 rfl
  have r4:=aA c8 1 rfl
  have HA1:=aB hA1
  have HA2:=aB hA2
  have yO:Hid (Below w.heap.size w A2):=aOk.out.trans (ab.trans (cb.mono (by omega)))
  have hsame:∀ b,Z3.heap.size≤b∧b<W4.heap.size→A2.heap[b]? = Z4.heap[b]?:=fun b hb=>(co b (by omega)).trans ((ao b (by omega)).trans (iU.out.block b (by omega)))
  have aXj:Hid (cH A2 (fun b=>w.heap.size≤b∧b<A2.heap.size) (.slice aa an ac) (.slice ba bn bc) (.slice ca cn cc) TB):=⟨(aW.old aBq.out.1 hsame).more fun b hb=>⟨by omega,by omega⟩,(aW.old aBq.out.2.1 hsame).more fun b hb=>⟨by omega,by omega⟩,(aBq.out.2.2.old hsame).more fun b hb=>⟨by omega,by omega⟩⟩
  have HP:Hid (Ht f ds (TB,(0,0),0)):=by
   refine(?_:Ht _ _ _)
   refine⟨_,aOl.out,?_⟩
   unfold iC
   rw[if_pos rU.out,HPS.out]
   simp only[HR1.out,HR2.out,HR3.out,HR4.out,hR,HTB.out]
  clear hA1 a8 ao yN ab hA2 c8 co cs cb hA cX dF aBr hsame z0 z1 hR
  go_wp2_with fail
  rw[HA1.out,HA2.out]
  try go_wp2_with fail
  refine bodyPost_ret (v:=.tuple #[.agg #[.slice aa an ac,.slice ba bn bc,.slice ca cn cc],.agg #[.int .i64 0,.int .i64 0],.int .i64 0]) (by simp[results,Tryz.results10,go_sem,r0,r1,r2,r3,r4]) rfl ?_
  exact⟨aa,ba,ca,an,ac,bn,bc,cn,cc,_,0,0,0,rfl,yO.out,aXj.out,HP.out⟩
end Go.Proofs.YtpojeinddnjpfaaGreatDoor
