/-
  Walks and plain words (FoN).
-/
import Derived.Test.YteajlfgbmefncaaGreatDoorN6
import Derived.Test.YteajlfgbmefncaaGreatDoorN25
import Derived.BigQuiet
namespace Go.Proofs.YteajlfgbmefncaaGreatDoor
set_option linter.unusedVariables false
open Go.ChangeShapes Go.WideShapes Go.ChangeAt Go.RowKit

def unr (n:Nat) (rs:List Nat):Nat:=((List.range n).filter fun x=>decide (x∉rs)).length
theorem unr_one (n t:Nat) (ht:t<n):unr n [t]+1≤n:=by
 unfold unr
 have:((List.range n).filter fun x=>decide (x∉[t])).length<(List.range n).length:=by
  rw[List.length_filter_lt_length_iff_exists]
  exact⟨t,List.mem_range.2 ht,by simp⟩
 rw[List.length_range]at this
 omega
theorem unr_snoc {n y:Nat} {rs:List Nat} (hy:y<n) (hn:y∉rs):unr n (rs++[y])+1≤unr n rs:=by
 unfold unr
 have h1:(List.range n).filter (fun x=>decide (x∉rs++[y]))=((List.range n).filter fun x=>decide (x∉rs)).filter fun x=>decide (x≠y):=by
  rw[List.filter_filter]
  congr 1
  funext x
  simp
  by_cases h1:x∈rs <;> by_cases h2:x=y <;> simp[h1,h2]
 rw[h1]
 have:(((List.range n).filter fun x=>decide (x∉rs)).filter fun x=>decide (x≠y)).length<((List.range n).filter fun x=>decide (x∉rs)).length:=by
  rw[List.length_filter_lt_length_iff_exists]
  exact⟨y,List.mem_filter.2 ⟨List.mem_range.2 hy,by simp[hn]⟩,by simp⟩
 omega
structure NInv (ms:List MD) (t:Nat) (rs:List Nat) (i:Nat):Prop where
 head:t∈rs
 lt:∀ x∈rs,x<ms.length
 reach:∀ x∈rs,x=t∨Relation.TransGen (Goes ms) t x
 done:∀ (j x y:Nat),j<i→rs[j]? = some x→Goes ms x y→y∈rs∧y≠t
 few:rs.length+unr ms.length rs≤ms.length+1
structure NIn (ms:List MD) (t:Nat) (rs:List Nat) (i:Nat) (c:Nat) (fs:List FD) (k:Nat):Prop where
 inv:NInv ms t rs i
 cur:rs[i]? = some c
 fields:∃ m,ms[c]? = some m∧m.fields=fs
 part:∀ f∈fs.take k,f.kind=10→f.rep=false→∀ y:Nat,f.type=(y:Int)→y∈rs∧y≠t
theorem ninv_start (ms:List MD) (t:Nat) (ht:t<ms.length):NInv ms t [t] 0:=
 ⟨by simp,fun x hx=>by rw[List.mem_singleton.1 hx];exact ht,fun x hx=>.inl (List.mem_singleton.1 hx),fun j x y hj=>absurd hj (Nat.not_lt_zero _),by have:=unr_one ms.length t ht;simp;omega⟩
theorem NInv.stop {ms:List MD} {t:Nat} {rs:List Nat} {i:Nat} (h:NInv ms t rs i) (hi:rs.length≤i):¬Ring ms t:=by
 have st:∀ x y,x∈rs→Goes ms x y→y∈rs∧y≠t:=fun x y hx hg=>by
  obtain⟨j,hj⟩:=List.getElem?_of_mem hx
  exact h.done j x y (by have:=(List.getElem?_eq_some_iff.1 hj).1;omega) hj hg
 have key:∀ x,Relation.TransGen (Goes ms) t x→x∈rs∧x≠t:=by
  intro x hx
  induction hx with
  | single hg=>exact st t _ h.head hg
  | tail _ hg ih=>exact st _ _ ih.1 hg
 exact fun hr=>(key t hr).2 rfl
theorem NInv.enter {ms:List MD} {t:Nat} {rs:List Nat} {i c:Nat} {m:MD} (h:NInv ms t rs i) (hc:rs[i]? = some c) (hm:ms[c]? = some m):NIn ms t rs i c m.fields 0:=⟨h,hc,⟨m,hm,rfl⟩,by simp⟩
theorem NIn.skip {ms:List MD} {t:Nat} {rs:List Nat} {i c:Nat} {fs:List FD} {k:Nat} {f:FD} (h:NIn ms t rs i c fs k) (hf:fs[k]? = some f) (hs:f.kind=10→f.rep=false→∀ y:Nat,f.type=(y:Int)→y∈rs∧y≠t):NIn ms t rs i c fs (k+1):=by
 refine⟨h.inv,h.cur,h.fields,fun g hg=>?_⟩
 rw[take_snoc hf]at hg
 rcases List.mem_append.1 hg with h1 | h1
 ·exact h.part g h1
 ·rw[List.mem_singleton.1 h1];exact hs
theorem NIn.goes {ms:List MD} {t:Nat} {rs:List Nat} {i c:Nat} {fs:List FD} {k:Nat} {f:FD} {y:Nat} (h:NIn ms t rs i c fs k) (hf:fs[k]? = some f) (h1:f.kind=10) (h2:f.rep=false) (h3:f.type=(y:Int)):Relation.TransGen (Goes ms) t y:=by
 obtain⟨m,hm,rfl⟩:=h.fields
 have hg:Goes ms c y:=⟨m,hm,f,List.mem_of_getElem? hf,h1,h2,h3⟩
 rcases h.inv.reach c (List.mem_of_getElem? h.cur)with rfl | hc
 ·exact .single hg
 ·exact .tail hc hg
theorem NIn.add {ms:List MD} {t:Nat} {rs:List Nat} {i c:Nat} {fs:List FD} {k:Nat} {f:FD} {y:Nat} (h:NIn ms t rs i c fs k) (hf:fs[k]? = some f) (h1:f.kind=10) (h2:f.rep=false) (h3:f.type=(y:Int)) (hy:y<ms.length) (hyt:y≠t) (hn:y∉rs):NIn ms t (rs++[y]) i c fs (k+1):=by
 have hil:=(List.getElem?_eq_some_iff.1 h.cur).1
 have up:∀ x,x∈rs∧x≠t→x∈rs++[y]∧x≠t:=fun x hx=>⟨List.mem_append_left _ hx.1,hx.2⟩
 refine⟨⟨List.mem_append_left _ h.inv.head,fun x hx=>?_,fun x hx=>?_,fun j x z hj hx hg=>?_,?_⟩,?_,h.fields,fun g hg a b z hz=>?_⟩
 ·rcases List.mem_append.1 hx with hx | hx
  ·exact h.inv.lt x hx
  ·rw[List.mem_singleton.1 hx];exact hy
 ·rcases List.mem_append.1 hx with hx | hx
  ·exact h.inv.reach x hx
  ·rw[List.mem_singleton.1 hx];exact .inr (h.goes hf h1 h2 h3)
 ·rw[List.getElem?_append_left (by omega)]at hx
  exact up z (h.inv.done j x z hj hx hg)
 ·have:=unr_snoc hy hn
  have:=h.inv.few
  simp;omega
 ·rw[List.getElem?_append_left hil];exact h.cur
 ·rw[take_snoc hf]at hg
  rcases List.mem_append.1 hg with hg | hg
  ·exact up z (h.part g hg a b z hz)
  ·rw[List.mem_singleton.1 hg]at hz
   have:z=y:=by rw[h3]at hz;omega
   rw[this]
   exact⟨by simp,hyt⟩
theorem NIn.leave {ms:List MD} {t:Nat} {rs:List Nat} {i c:Nat} {fs:List FD} {k:Nat} (h:NIn ms t rs i c fs k) (hk:fs.length≤k):NInv ms t rs (i+1):=by
 refine⟨h.inv.head,h.inv.lt,h.inv.reach,fun j x y hj hx hg=>?_,h.inv.few⟩
 by_cases hji:j=i
 ·subst hji
  rw[h.cur]at hx
  cases hx
  obtain⟨m,hm,rfl⟩:=h.fields
  obtain⟨m',hm',f,hf,h1,h2,h3⟩:=hg
  rw[hm]at hm'
  cases hm'
  exact h.part f (by rw[List.take_of_length_le hk];exact hf) h1 h2 y h3
 ·exact h.inv.done j x y (by omega) hx hg
theorem own_get {w:World} {base:Nat} {T:TypeId} {g n cap:Nat} {xs:List Value} (h:w.ownsRow base T 1 (.slice (some ⟨g,0,none⟩) n cap) n xs) {i:Nat} {x:Value} (hx:xs[i]? = some x):w.cell? ⟨g,i,none⟩=some x:=by
 obtain⟨hl,⟨hv,h0⟩ | ⟨g',cap',cur,hv,hg,hh,h3,h4,h5,h6⟩⟩:=h
 ·cases hv
 ·have hv':g=g'∧cap=cap':=by
   injection hv with h1 h2 h3
   injection h1 with h1
   injection h1 with h1
   exact⟨h1,h3⟩
  obtain⟨rfl,rfl⟩:=hv'
  have hin:=(List.getElem?_eq_some_iff.1 hx).1
  have hxl:xs.length=n:=by simpa using hl
  have e:(cur.toList.take (n*1))[i]? = some x:=by rw[h6];exact hx
  rw[List.getElem?_take,if_pos (by omega)]at e
  simp only[World.cell?,hh]
  simpa using e
theorem natV_at {rs:List Nat} {i x:Nat} (h:rs[i]? = some x):(rs.map natV)[i]? = some (.int .i64 (x:Int)):=by rw[List.getElem?_map,h];rfl
theorem natMap_snoc (rs:List Nat) (y:Nat):(rs++[y]).map natV=rs.map natV++[.int .i64 (y:Int)]:=by simp[natV]
theorem ptr_of {w:World} {base:Nat} {T:TypeId} {ua:Option Addr} {uc n:Nat} {xs:List Value} (h:w.ownsRow base T 1 (.slice ua n uc) n xs) (hn:0<n):∃ g,ua=some ⟨g,0,none⟩:=by
 obtain⟨hl,⟨hv,h0⟩ | ⟨g,cap,cur,hv,_⟩⟩:=h
 ·injection hv with _ h2 _
  omega
 ·injection hv with h1 _ _
  exact⟨g,h1⟩
def inT (rs:List Nat) (y q:Nat):Bool:=decide (y∈rs.take q)
theorem inT_step {rs:List Nat} {y q x:Nat} (h:rs[q]? = some x):inT rs y (q+1)=(inT rs y q || decide (x=y)):=by
 unfold inT
 rw[take_snoc h]
 by_cases h1:y∈rs.take q
 ·simp[h1]
 ·by_cases h2:x=y
  ·simp[h2]
  ·simp[h1,h2];exact fun h=>h2 h.symm
set_option maxHeartbeats 16000000 in
set_option maxRecDepth 20000 in
theorem needsR_any (ma ea ta:Option Addr) (nm ne nt mc ec tc:Nat) (ms:List MD) (t:Nat) (w:World) (hnm:ms.length=nm) (hf:RingFit ms) (ht:t<nm) (hH:HeldM w (fun b=>b<w.heap.size) (.slice ma nm mc) ms) :
  Calls Tryz.prog 37 #[.agg #[.slice ma nm mc,.slice ea ne ec,.slice ta nt tc],.int .i64 (t:Int)] w fun e w'=>RingAns ms t w e w':=by
 have HF:=hQz hf
 have HH:=hQz hH
 have hn0:=hf.1
 have HN:=hQz hnm
 have HST:=hQz (ninv_start ms t (by omega))
 rw[hnm]at hn0
 obtain⟨Y,hY,hC,hb,hYs⟩:=box_new w #[.slice ma nm mc,.slice ea ne ec,.slice ta nt tc] 26
 have HY:=hQz hY
 have HYB:=hQz hb
 have HSC:=hQz hC
 clear hH hf hnm hY hb hC
 go_enter Tryz.func37,Tryz.ntmps37
 go_upto_region 1 with fail
 rw[HY.out]
 go_wp2_with fail
 go_loopw [5,6] (fun u i wr=>∃ (q:Nat) (rs:List Nat),i=.int .i64 (q:Int)∧NInv ms t rs q∧q≤rs.length∧wr.ownsRow Y.heap.size 3 1 u rs.length (rs.map natV)∧wr.heap[w.heap.size]? = some (.cells #[.slice ma nm mc,.slice ea ne ec,.slice ta nt tc] 26 (0,0))∧Below w.heap.size w wr∧Y.heap.size≤wr.heap.size) (fun _ i _=>nm+2 - (intOf i).toNat)
 case atStart=>
  refine⟨0,[t],rfl,HST.out,Nat.zero_le _,?_,(alloc_heap_old _ _ _ (by omega)).trans HSC.out,HYB.out.alloc HYB.out.size _,by simp⟩
  refine⟨rfl,.inr ⟨Y.heap.size,1,#[.int .i64 (t:Int)],?_,Nat.le_refl _,alloc_heap_new _ _,Nat.le_refl _,by unfold maxLen;omega,rfl,rfl⟩⟩
  first
   | rfl
   | simp[hYs]
 case round=>
  generalize wr=w1 at *
  obtain⟨q,rs,rfl,hinv,hq,hown,hsc,hbel,hsz⟩:=hrel
  obtain⟨ua,uc,huv⟩:=own_slice hown
  subst huv
  have HI:=hQz hinv
  have HO:=hQz hown
  have HS:=hQz hsc
  have HB:=hQz hbel
  have hsw:=hbel.size
  have hfew:=hinv.few
  rw[HN.out]at hfew
  clear hinv hown hsc hbel HYB HSC
  obtain⟨n,hn⟩:∃ n,rs.length=n:=⟨_,rfl⟩
  have HNR:=hQz hn
  rw[hn]at HO hq hfew ⊢
  clear hn
  have hq0:(0:Int)≤(q:Int):=by omega
  have hwq:=wQz q (by omega)
  by_cases hqn:q<n
  ·obtain⟨c,hc⟩:∃ c,rs[q]? = some c:=⟨_,List.getElem?_eq_getElem (by have:=HNR.out;omega)⟩
   have hcl:=HI.out.lt c (List.mem_of_getElem? hc)
   rw[HN.out]at hcl
   obtain⟨m,hm⟩:∃ m,ms[c]? = some m:=⟨_,List.getElem?_eq_getElem (by have:=HN.out;omega)⟩
   obtain⟨gm,om,cm,ka,kc,hsl,hgm,e0,e1,hrows⟩:=HeldN.at HH.out (W:=w1) (fun b hb=>HB.out.block b hb) hm
   obtain⟨rfl,rfl⟩:=slice_two hsl
   obtain⟨g,rfl⟩:=ptr_of HO.out (by omega)
   have c0:w1.cell? ⟨g,q,none⟩=some (.int .i64 (c:Int)):=own_get HO.out (natV_at hc)
   have s0:=cell_at HS.out 0 rfl
   obtain⟨hfl,hft⟩:=HF.out.2 m (List.mem_of_getElem? hm)
   have HFT:=hQz hft
   have HIN:=hQz (HI.out.enter hc hm)
   have HROW:=hQz hrows
   have hq1:(q:Int)<(n:Int):=by omega
   have hc0:(0:Int)≤(c:Int):=by omega
   have hc1:(c:Int)<(nm:Int):=by omega
   obtain⟨nf,hnf⟩:∃ n,m.fields.length=n:=⟨_,rfl⟩
   have HNF:=hQz hnf
   rw[hnf]at e1 HROW hfl
   have hOB:=own_block HO.out g rfl
   clear hsl hrows hc hm hft hnf HI
   go_wp2_with fail
   go_quiet (fail)
   generalize hwX:w1.drewN _=X
   have hXh:X.heap=w1.heap:=by rw[←hwX];rfl
   have HBX:Hid (Below w.heap.size w X):=by
    refine(?_:Below _ _ _)
    rw[←hwX];exact HB.out.trans ⟨rfl,rfl,rfl,Nat.le_refl _,fun _ _=>rfl⟩
   have HSX:Hid (X.heap[w.heap.size]? = some (.cells #[.slice (some ⟨gm,om,none⟩) nm mc,.slice ea ne ec,.slice ta nt tc] 26 (0,0))):=by
    refine(?_:_=_)
    rw[hXh];exact HS.out
   have HOX:Hid (X.ownsRow Y.heap.size 3 1 (.slice (some ⟨g,0,none⟩) n uc) n (rs.map natV)):=own_keep HO.out fun b hb=>by rw[hXh]
   have HRX:Hid (RowsIn X (fun b=>b<w.heap.size) 5 fdrow (.slice ka nf kc) m.fields):=HROW.out.old fun b hb=>by rw[hXh]
   have hXs:X.heap.size=w1.heap.size:=by rw[hXh]
   clear hwX hXh c0 s0 e0 e1 HO HS HROW HB
   go_wp2_with fail
   go_loopw [5,30] (fun u i wr=>∃ (k:Nat) (rs:List Nat),i=.int .i64 (k:Int)∧k≤nf∧NIn ms t rs q c m.fields k∧wr.ownsRow Y.heap.size 3 1 u rs.length (rs.map natV)∧wr.heap[w.heap.size]? = some (.cells #[.slice (some ⟨gm,om,none⟩) nm mc,.slice ea ne ec,.slice ta nt tc] 26 (0,0))∧Below w.heap.size w wr∧Y.heap.size≤wr.heap.size) (fun _ i _=>nf - (intOf i).toNat)
   case atStart=>exact⟨0,rs,rfl,Nat.zero_le _,HIN.out,by rw[HNR.out];exact HOX.out,HSX.out,HBX.out,by omega⟩
   case round=>
    generalize wr=w2 at *
    clear HIN HOX HSX HNR hfew hqn hq1 hOB
    obtain⟨k,rs2,rfl,hk,hin,hown,hsc,hbel,hsz2⟩:=hrel
    obtain⟨va,vc,huv⟩:=own_slice hown
    subst huv
    have HI:=hQz hin
    have HO:=hQz hown
    have HS:=hQz hsc
    have HB:=hQz hbel
    have hsw2:=hbel.size
    have hfew:=hin.inv.few
    have hcur:=(List.getElem?_eq_some_iff.1 hin.cur).1
    rw[HN.out]at hfew
    clear hin hown hsc hbel
    obtain⟨n2,hn2⟩:∃ n,rs2.length=n:=⟨_,rfl⟩
    have HNR:=hQz hn2
    rw[hn2]at HO hfew hcur ⊢
    clear hn2
    have hk0:(0:Int)≤(k:Int):=by omega
    have hwk:=wQz k (by omega)
    by_cases hkn:k<nf
    ·obtain⟨y,hy⟩:∃ y,m.fields[k]? = some y:=⟨_,List.getElem?_eq_getElem (by have:=HNF.out;omega)⟩
     obtain⟨g2,o2,c2,hsl,hg2,e0,e1,e2,e3,e4⟩:=fd_at HRX.out (W:=w2) (fun b hb=>(HB.out.block b hb).trans (HBX.out.block b hb).symm) hy
     rw[HNF.out]at hsl
     obtain⟨rfl,rfl⟩:=slice_two hsl
     have hk1:(k:Int)<(nf:Int):=by omega
     have HTY:=hQz (HFT.out y (List.mem_of_getElem? hy))
     have HYY:=hQz hy
     have hskip:∀ (hs:y.kind=10→y.rep=false→∀ z:Nat,y.type=(z:Int)→z∈rs2∧z≠t),NIn ms t rs2 q c m.fields (k+1):=fun hs=>HI.out.skip hy hs
     clear hsl hy e0 e1
     by_cases hkd:y.kind=10
     case neg=>
      have HN1:=hQz (hskip (fun h=>absurd h hkd))
      clear hskip
      go_wp2_with fail
      go_roundw
      case rel=>exact⟨k+1,rs2,by go_num,by omega,HN1.out,by rw[HNR.out];exact HO.out,HS.out,HB.out,by omega⟩
      case measure=>simp[intOf];omega
     rw[hkd]at e2
     cases hrp:y.rep
     case true=>
      rw[hrp]at e3
      have HN1:=hQz (hskip (fun _ h=>by rw[hrp]at h;cases h))
      clear hskip hrp hkd
      go_wp2_with fail
      go_roundw
      case rel=>exact⟨k+1,rs2,by go_num,by omega,HN1.out,by rw[HNR.out];exact HO.out,HS.out,HB.out,by omega⟩
      case measure=>simp[intOf];omega
     rw[hrp]at e3
     obtain⟨ht0,ht1⟩:=HTY.out hkd hrp
     rw[HN.out]at ht1
     obtain⟨z,hz⟩:∃ z:Nat,y.type=(z:Int):=⟨y.type.toNat,by omega⟩
     have hzn:z<nm:=by omega
     rw[hz]at e4
     have HZ:=hQz hz
     have HKD:=hQz hkd
     have HRP:=hQz hrp
     clear hz hkd hrp ht0 ht1
     by_cases hzt:z=t
     ·have hr:Ring ms t:=HI.out.goes HYY.out HKD.out HRP.out (by rw[HZ.out,hzt])
      rw[hzt]at e4
      clear hskip hzt
      go_wp2_with fail
      go_ret
      exact⟨true,rfl,by simp[hr],HB.out⟩
     have hzt':¬(z:Int)=(t:Int):=by omega
     have hztb:((z:Int) == (t:Int))=false:=by simp;omega
     go_wp2_with fail
     go_loopw [9,55] (fun u i wr=>∃ j:Nat,i=.int .i64 (j:Int)∧u=.bool (inT rs2 z j)∧j≤n2∧wr.ownsRow Y.heap.size 3 1 (.slice va n2 vc) n2 (rs2.map natV)∧wr.heap[w.heap.size]? = some (.cells #[.slice (some ⟨gm,om,none⟩) nm mc,.slice ea ne ec,.slice ta nt tc] 26 (0,0))∧Below w.heap.size w wr∧Y.heap.size≤wr.heap.size) (fun _ i _=>n2 - (intOf i).toNat)
     case atStart=>exact⟨0,rfl,by simp[inT],Nat.zero_le _,HO.out,HS.out,HB.out,by omega⟩
     case round=>
      generalize wr=w3 at *
      obtain⟨j,rfl,rfl,hj,hown,hsc,hbel,hsz3⟩:=hrel
      clear e2 e3 e4 HO HS
      have HO:=hQz hown
      have HS:=hQz hsc
      have HB3:=hQz hbel
      have hsw3:=hbel.size
      clear hown hsc hbel
      have hj0:(0:Int)≤(j:Int):=by omega
      have hwj:=wQz j (by omega)
      obtain⟨g3,o3,c3,hsl,hg3,e0,e1,e2,e3,e4⟩:=fd_at HRX.out (W:=w3) (fun b hb=>(HB3.out.block b hb).trans (HBX.out.block b hb).symm) HYY.out
      rw[HNF.out]at hsl
      obtain⟨ha3,hc3⟩:=slice_two hsl
      injection ha3 with ha3
      injection ha3 with ha3 hb3
      subst ha3 hb3
      rw[HZ.out]at e4
      clear hsl hc3 e0 e1 e2 e3
      by_cases hjn:j<n2
      ·obtain⟨x,hx⟩:∃ x,rs2[j]? = some x:=⟨_,List.getElem?_eq_getElem (by have:=HNR.out;omega)⟩
       obtain⟨g,rfl⟩:=ptr_of HO.out (by omega)
       have c0:w3.cell? ⟨g,j,none⟩=some (.int .i64 (x:Int)):=own_get HO.out (natV_at hx)
       have HIT:=hQz (inT_step (y:=z) hx)
       have hj1:(j:Int)<(n2:Int):=by omega
       have HTQ:Hid (∀ nq:Nat,(w3.drewN nq).ownsRow Y.heap.size 3 1 (.slice (some ⟨g,0,none⟩) n2 vc) n2 (rs2.map natV)∧(w3.drewN nq).heap[w.heap.size]? = some (.cells #[.slice (some ⟨gm,om,none⟩) nm mc,.slice ea ne ec,.slice ta nt tc] 26 (0,0))∧Below w.heap.size w (w3.drewN nq)∧Y.heap.size≤(w3.drewN nq).heap.size):=fun nq=>
        ⟨own_keep HO.out fun b hb=>rfl,HS.out,HB3.out.trans ⟨rfl,rfl,rfl,Nat.le_refl _,fun _ _=>rfl⟩,hsz3⟩
       generalize hIT:inT rs2 z j=IT at *
       clear hx hIT
       cases IT
       ·by_cases hxz:x=z
        ·have HI2:Hid (inT rs2 z (j+1)=true):=by
          refine(?_:_=_)
          rw[HIT.out];simp[hxz]
         rw[hxz]at c0
         clear hxz HIT
         go_wp2_with fail
         go_quiet (fail)
         go_wp2_with fail
         go_roundw
         case rel=>exact⟨j+1,by go_num,by rw[HI2.out],by omega,HTQ.out _⟩
         case measure=>simp[intOf];omega
        ·have hxz':¬(x:Int)=(z:Int):=by omega
         have hxd:decide ((x:Int)=(z:Int))=false:=decide_eq_false hxz'
         have hxb:((x:Int) == (z:Int))=false:=by simp;omega
         have HI2:Hid (inT rs2 z (j+1)=false):=by
          refine(?_:_=_)
          rw[HIT.out];simp[hxz]
         clear hxz HIT
         go_wp2_with fail
         go_quiet (fail)
         go_wp2_with fail
         go_roundw
         case rel=>exact⟨j+1,by go_num,by rw[HI2.out],by omega,HTQ.out _⟩
         case measure=>simp[intOf];omega
       ·have HI2:Hid (inT rs2 z (j+1)=true):=by
         refine(?_:_=_)
         rw[HIT.out];rfl
        clear HIT
        go_wp2_with fail
        go_quiet (fail)
        go_wp2_with fail
        go_roundw
        case rel=>exact⟨j+1,by go_num,by rw[HI2.out],by omega,HTQ.out _⟩
        case measure=>simp[intOf];omega
      ·have hjn':¬(j:Int)<(n2:Int):=by omega
       have hIT:inT rs2 z j=decide (z∈rs2):=by
        unfold inT
        rw[List.take_of_length_le (by have:=HNR.out;omega)]
       by_cases hzm:z∈rs2
       ·have hit:inT rs2 z j=true:=by rw[hIT];simp[hzm]
        have HN1:=hQz (hskip (fun _ _ z' hz'=>by have:z'=z:=(by have:=HZ.out;omega);subst this;exact⟨hzm,hzt⟩))
        rw[hit]
        clear hskip hit hIT hzm
        go_wp2_with fail
        go_roundw
        case rel=>exact⟨k+1,rs2,by go_num,by omega,HN1.out,by rw[HNR.out];exact HO.out,HS.out,HB3.out,by omega⟩
        case measure=>simp[intOf];omega
       ·have hit:inT rs2 z j=false:=by rw[hIT];simp[hzm]
        have HN1:=hQz (HI.out.add HYY.out HKD.out HRP.out HZ.out (by have:=HN.out;omega) hzt hzm)
        rw[hit]
        clear hskip hit hIT hzm
        have hBX:(w3.alloc (.cells #[.int .i64 (z:Int)] 3)).heap[w3.heap.size]? = some (.cells #[.int .i64 (z:Int)] 3 (0,0)):=alloc_heap_new _ _
        have HOA:Hid ((w3.alloc (.cells #[.int .i64 (z:Int)] 3)).ownsRow Y.heap.size 3 1 (.slice va n2 vc) n2 (rs2.map natV)):=own_keep HO.out fun b hb=>alloc_heap_old _ _ _ (own_block HO.out b hb).2
        have HSA:Hid ((w3.alloc (.cells #[.int .i64 (z:Int)] 3)).heap[w.heap.size]? = _):=(alloc_heap_old w3 (.cells #[.int .i64 (z:Int)] 3) _ (by omega)).trans HS.out
        have HBA:=hQz (HB3.out.alloc hsw3 (.cells #[.int .i64 (z:Int)] 3))
        have HBX2:=hQz hBX
        have hAs:(w3.alloc (.cells #[.int .i64 (z:Int)] 3)).heap.size=w3.heap.size+1:=by simp
        clear hBX
        go_wp2_with (at_builtin;refine row_pushL (T:=3) (t:=136) Tryz.underlying136 info3I rfl (by decide) HOA.out (by rw[hAs];omega) [.int .i64 (z:Int)] rfl (by simp[Value.oneCell']) w3.heap.size HBX2.out rfl _ _ rfl rfl rfl (by unfold maxLen;omega) (by omega) ?_;intro g cap W hown hgr hor hgl;have HOW:=hQz hown;have HGR:=hQz hgr;clear hown hgr hor)
        have HBW:Hid (Below w.heap.size w W):=HBA.out.grown HGR.out (by rw[hAs];omega) (fun b hb=>by have:=(own_block HOA.out b hb).1;omega)
        have HSW:Hid (W.heap[w.heap.size]? = _):=(HGR.out.block _ (by rw[hAs];omega) (fun hb=>by have:=(own_block HOA.out _ hb.symm).1;omega)).trans HSA.out
        have hWs:=HGR.out.size
        rw[hAs]at hWs
        go_roundw
        case rel=>exact⟨k+1,rs2++[z],by go_num,by omega,HN1.out,by rw[natMap_snoc,List.length_append,HNR.out];exact HOW.out,HSW.out,HBW.out,by omega⟩
        case measure=>simp[intOf];omega
    ·have hkn':¬(k:Int)<(nf:Int):=by omega
     have HN1:=hQz (HI.out.leave (by have:=HNF.out;omega))
     go_wp2_with fail
     go_roundw
     case rel=>exact⟨q+1,rs2,by go_num,HN1.out,by have:=HNR.out;omega,by rw[HNR.out];exact HO.out,HS.out,HB.out,by omega⟩
     case measure=>simp[intOf];omega
  ·have hqn':¬(q:Int)<(n:Int):=by omega
   have hnr:=HI.out.stop (by have:=HNR.out;omega)
   go_wp2_with fail
   go_ret
   exact⟨false,rfl,by simp[hnr],HB.out⟩
end Go.Proofs.YteajlfgbmefncaaGreatDoor
