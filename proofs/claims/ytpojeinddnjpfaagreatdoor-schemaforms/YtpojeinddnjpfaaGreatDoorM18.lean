/-
  Walks and plain words (FoR).
-/
import Derived.Test.YtpojeinddnjpfaaGreatDoorM14
import Derived.Test.YtpojeinddnjpfaaGreatDoorM16
import Derived.Test.YtpojeinddnjpfaaGreatDoorM17
import Derived.BigQuiet
import Derived.OrdersHeld
import Derived.Deep.RegionHeld
import Derived.Deep.RegionHeldLaw
import Derived.Deep.Cut
import Derived.Deep.DeepCutAuto
import Derived.Lib.SlicesS
namespace Go.Proofs.YtpojeinddnjpfaaGreatDoor
set_option linter.unusedVariables false
open Go.ChangeShapes Go.WideShapes Go.ChangeAt Go.RowKit

theorem jW {a b:List UInt8} (h:¬a=b):((aC a).toList == (aC b).toList)=false:=(Lib.bytes_beq_false_iff _ _).2 (fun e=>h (by simpa [aC]using e))
theorem lR {α β:Type} {l:List α} {f:α→β} {k j:Nat} {x:α} (hj:j<k) (hx:l[j]? = some x):f x∈(l.take k).map f:=
 List.mem_map.2 ⟨x,List.mem_of_getElem? (show (l.take k)[j]? = some x by rw[List.getElem?_take,if_pos hj];exact hx),rfl⟩
theorem lS {α β:Type} {l:List α} {f:α→β} {k:Nat} {b:β} (h:∀ (j:Nat) (x:α),j<k→l[j]? = some x→¬f x=b):b∉(l.take k).map f:=fun hm=>by
 obtain⟨x,hx,he⟩:=List.mem_map.1 hm
 obtain⟨j,hj⟩:=List.getElem?_of_mem hx
 have hjk:=(List.getElem?_eq_some_iff.1 hj).1
 rw[List.length_take]at hjk
 rw[List.getElem?_take,if_pos (by omega)]at hj
 exact h j x (by omega) hj he
theorem jK {α:Type} {P:α→Prop} {l:List α} {k:Nat} {y:α} (h:∀ (j:Nat) (x:α),j<k→l[j]? = some x→P x) (hy:l[k]? = some y) (hp:P y):∀ (j:Nat) (x:α),j<k+1→l[j]? = some x→P x:=fun j x hj hx=>by
 by_cases hjk:j=k
 ·subst hjk;rw[hy]at hx;cases hx;exact hp
 ·exact h j x (by omega) hx
theorem aAb (n:Int) (w:World):Calls Tryz.prog 68 #[.int .i64 n] w fun e w'=>e=.returned (.bool (fV n))∧w'=w:=by
 obtain⟨R,hR⟩:∃ r,fV n=r:=⟨_,rfl⟩
 have HR:=aB hR
 rw[hR]
 clear hR
 by_cases h1:(1:Int)≤n
 ·by_cases h2:n≤536870911
  ·by_cases h3:n<19000
   ·have HT:Hid (R=true):=by
     refine(?_:_=_)
     rw[←HR.out];unfold fV;simp;omega
    go_enter Tryz.func68,Tryz.ntmps68
    go_wp2_with fail
    go_ret
    exact⟨by rw[HT.out];rfl,rfl⟩
   ·by_cases h4:19999<n
    ·have HT:Hid (R=true):=by
      refine(?_:_=_)
      rw[←HR.out];unfold fV;simp;omega
     go_enter Tryz.func68,Tryz.ntmps68
     go_wp2_with fail
     go_ret
     exact⟨by rw[HT.out];rfl,rfl⟩
    ·have HT:Hid (R=false):=by
      refine(?_:_=_)
      rw[←HR.out];unfold fV;simp;omega
     go_enter Tryz.func68,Tryz.ntmps68
     go_wp2_with fail
     go_ret
     exact⟨by rw[HT.out];rfl,rfl⟩
  ·have HT:Hid (R=false):=by
    refine(?_:_=_)
    rw[←HR.out];unfold fV;simp;omega
   go_enter Tryz.func68,Tryz.ntmps68
   go_wp2_with fail
   go_ret
   exact⟨by rw[HT.out];rfl,rfl⟩
 ·have HT:Hid (R=false):=by
   refine(?_:_=_)
   rw[←HR.out];unfold fV;simp;omega
  go_enter Tryz.func68,Tryz.ntmps68
  go_wp2_with fail
  go_ret
  exact⟨by rw[HT.out];rfl,rfl⟩
set_option maxHeartbeats 16000000 in
set_option maxRecDepth 20000 in
theorem Po (e:ED) (ka:Option Addr) (kc:Nat) (w:World) (hT:qI w) (hf:e.values.length≤100000∧∀ v∈e.values,v.name.length≤100000) (hH:RowsIn w (fun b=>b<w.heap.size) 2 eV (.slice ka e.values.length kc) e.values) :
  Calls Tryz.prog 47 #[.agg #[.string (aC e.name),.slice ka e.values.length kc]] w fun e1 w'=>e1=.returned (.bool (zeroV e.values&&rH e.values))∧Below w.heap.size w w':=by
 obtain⟨Y,hY,hC,hb,hYs⟩:=bY w #[.string (aC e.name),.slice ka e.values.length kc] 91
 generalize e.values=vs at *
 have HH:=aB hH
 have HF:=aB hf.2
 have hn0:=hf.1
 obtain⟨R,hR⟩:∃ r,rH vs=r:=⟨_,rfl⟩
 have Bh:eX (fF vs (pS vs)) vs.length=R:=hR
 obtain⟨n,hn⟩:∃ n,vs.length=n:=⟨_,rfl⟩
 have HN:=aB hn
 obtain⟨ZR,hZR⟩:∃ b,(zeroV vs&&R)=b:=⟨_,rfl⟩
 have HZ:=aB hZR
 rw[hR,hZR]
 rw[hn]at hn0 Bh hY hC HH ⊢
 have qS:=aB Bh
 have HY:=aB hY
 have nC:=aB hb
 have HC:=aB hC
 have l1:=aA hC 1 rfl
 have HTW:=aB hT
 clear hH hf hn hR Bh hY hb hC hT hZR
 go_enter Tryz.func47,Tryz.ntmps47
 go_upto_region 1 with fail
 rw[HY.out]
 go_wp2_with fail
 clear l1
 go_loopw [9] (fun i wr=>∃ k:Nat,i=.int .i64 (k:Int)∧k≤n∧eX (fF vs (pS vs)) k=true∧Below w.heap.size w wr∧wr.heap[w.heap.size]? = some (.cells #[.string (aC e.name),.slice ka n kc] 91 (0,0))) (fun i _=>n - (intOf i).toNat)
 case atStart=>exact⟨0,rfl,Nat.zero_le _,rfl,nC.out,HC.out⟩
 case round=>
  generalize wr=w1 at *
  obtain⟨k,rfl,hk,hall,hbel,hbx⟩:=hrel
  have hsw:=hbel.size
  have hlt:=aN hbx
  have l1:=aA hbx 1 rfl
  have cW:=aB hall
  have HB:=aB hbel
  have HX:=aB hbx
  clear hall hbel hbx nC HC
  by_cases hkn:k<n
  ·obtain⟨y,hy⟩:∃ y,vs[k]? = some y:=⟨_,List.getElem?_eq_getElem (by have:=HN.out;omega)⟩
   obtain⟨g,o,c0,hsl,hg,e0,e1⟩:=pV HH.out (W:=w1) (fun b hb=>HB.out.block b hb) hy
   rw[HN.out]at hsl
   obtain⟨rfl,rfl⟩:=aJ hsl
   have hnl:=HF.out y (List.mem_of_getElem? hy)
   have HG:Hid (fF vs (pS vs) k=(eF y.num&&(!decide (y.num∈mU vs k)&&(aZ y.name&&!decide (y.name∈iX vs k))))):=dB hy
   have dR:Hid (fF vs (pS vs) k=false→ZR=false):=fun h=>by rw[←HZ.out,←qS.out,cQ h (by omega),Bool.and_false]
   have hk0:(0:Int)≤(k:Int):=by omega
   have hk1:(k:Int)<(n:Int):=by omega
   have hwk:=eE k (by omega)
   obtain⟨U,hU,hC,bG,Mu⟩:=bY w1 #[.string (aC y.name),.int .i64 y.num] 93
   have HU:=aB hU
   clear hsl hy hU
   go_upto_region 5 with fail
   rw[HU.out]
   have l0:=aA hC 0 rfl
   have eY:=aB (HB.out.trans (bG.mono hsw))
   have vF:=aB hC
   have HUX:=aB ((bG.block _ hlt).trans HX.out)
   have hpl:=mG y.name U (dQ HTW.out eY.out) (by omega)
   clear hC bG e0 e1 l1
   generalize hP:aZ y.name=P at *
   clear hP
   go_wp2_with fail
   refine hpl.mono ?_
   rintro e2 U1 ⟨rfl,hb1⟩
   have HB1:=aB (eY.out.trans (hb1.mono eY.out.size))
   have h1c:=(hb1.block _ (by omega)).trans vF.out
   have h1x:=(hb1.block _ (by omega)).trans HUX.out
   have Ub:=aB h1c
   have Uc:=aB h1x
   have hs1:=hb1.size
   have q1:=aA h1c 1 rfl
   clear hpl hb1 l0 h1c h1x
   cases P
   case false=>
    go_wp2_with fail
    go_ret
    exact⟨aU (dR.out (by rw[HG.out];simp)).symm,HB1.out⟩
   by_cases h0:0≤y.num
   case neg=>
    have h0':y.num<0:=by omega
    go_wp2_with fail
    go_ret
    exact⟨aU (dR.out (by rw[HG.out];unfold eF;rw[decide_eq_false (by omega)];rfl)).symm,HB1.out⟩
   by_cases h1:y.num≤2147483647
   case neg=>
    have h0':¬y.num<0:=by omega
    have h1':2147483647<y.num:=by omega
    go_wp2_with fail
    go_ret
    exact⟨aU (dR.out (by rw[HG.out];unfold eF;rw[decide_eq_false (by omega)];rfl)).symm,HB1.out⟩
   have h0':¬y.num<0:=by omega
   have h1':¬2147483647<y.num:=by omega
   have gL:eF y.num=true:=by unfold eF;exact decide_eq_true (by omega)
   rw[gL]at HG
   have HB2:=aB (Below.refl U1.heap.size U1)
   clear gL
   go_wp2_with fail
   clear q1 h0 h1 h0' h1'
   go_loopw [32] (fun i wr=>∃ j:Nat,i=.int .i64 (j:Int)∧j≤k∧(∀ (q:Nat) (x:VD),q<j→vs[q]? = some x→¬x.name=y.name∧¬x.num=y.num)∧Below U1.heap.size U1 wr) (fun i _=>k - (intOf i).toNat)
   case atStart=>exact⟨0,rfl,Nat.zero_le _,fun q x hq=>absurd hq (Nat.not_lt_zero _),HB2.out⟩
   case round=>
    obtain⟨j,rfl,hj,hall,hbel⟩:=hrel
    have HA2:=aB hall
    have Mv:=aB (HB1.out.trans (hbel.mono HB1.out.size))
    have hjc:=(hbel.block _ (by omega)).trans Ub.out
    have Jo:=(hbel.block _ (by omega)).trans Uc.out
    have HB3:=aB hbel
    have l0:=aA hjc 0 rfl
    have l1:=aA hjc 1 rfl
    have m1:=aA Jo 1 rfl
    have HJX:=aB Jo
    clear hall hbel hjc Jo HB2
    have hj0:(0:Int)≤(j:Int):=by omega
    have hwj:=eE j (by omega)
    by_cases hjk:j<k
    ·obtain⟨x,hx⟩:∃ x,vs[j]? = some x:=⟨_,List.getElem?_eq_getElem (by have:=HN.out;omega)⟩
     obtain⟨g2,o2,c2,hsl,hg2,f0,f1⟩:=pV HH.out (W:=wr) (fun b hb=>Mv.out.block b hb) hx
     rw[HN.out]at hsl
     obtain⟨ha2,hc2⟩:=aJ hsl
     injection ha2 with ha2
     injection ha2 with ha2 hb2
     subst ha2 hb2
     have hj1:(j:Int)<(k:Int):=by omega
     have hj2:(j:Int)<(n:Int):=by omega
     have fE:Hid (x.name=y.name→y.name∈iX vs k):=fun h=>h▸lR (f:=VD.name) hjk hx
     have Hm:Hid (x.num=y.num→y.num∈mU vs k):=fun h=>h▸lR (f:=VD.num) hjk hx
     have fS:Hid (¬x.name=y.name→¬x.num=y.num→∀ (q:Nat) (z:VD),q<j+1→vs[q]? = some z→¬z.name=y.name∧¬z.num=y.num):=fun a b=>jK HA2.out hx ⟨a,b⟩
     have gR:Hid (∀ nq:Nat,Below U1.heap.size U1 (wr.drewN nq)):=fun nq=>HB3.out.trans ⟨rfl,rfl,rfl,Nat.le_refl _,fun _ _=>rfl⟩
     clear hsl hx hc2
     by_cases t0:x.name=y.name
     ·have hm:=fE.out t0
      rw[t0]at f0
      clear t0 fE Hm fS
      go_wp2_with fail
      go_quiet (fail)
      go_wp2_with fail
      go_ret
      exact⟨aU (dR.out (by rw[HG.out];simp[hm])).symm,HB1.out.trans ((gR.out _).mono HB1.out.size)⟩
     have t0':=jW t0
     have Ud:=beq_eq_false_iff_ne.2 t0
     have HT0:=aB t0
     by_cases t1:x.num=y.num
     ·have hm:=Hm.out t1
      rw[t1]at f1
      clear t1 fE Hm fS
      go_wp2_with fail
      go_quiet (fail)
      go_wp2_with fail
      go_ret
      exact⟨aU (dR.out (by rw[HG.out];simp[hm])).symm,HB1.out.trans ((gR.out _).mono HB1.out.size)⟩
     have t1':=beq_eq_false_iff_ne.2 t1
     have pG:=aB (fS.out t0 t1)
     clear fE Hm fS
     go_wp2_with fail
     go_quiet (fail)
     go_wp2_with fail
     go_roundw
     case rel=>exact⟨j+1,by go_num,by omega,pG.out,gR.out _⟩
     case measure=>simp[intOf];omega
    ·have Ue:¬(j:Int)<(k:Int):=by omega
     have pD:j=k:=by omega
     have hn1:y.name∉iX vs k:=lS (f:=VD.name) fun q x hq hx=>(HA2.out q x (by omega) hx).1
     have hn2:y.num∉mU vs k:=lS (f:=VD.num) fun q x hq hx=>(HA2.out q x (by omega) hx).2
     have jX:Hid (fF vs (pS vs) k=true):=by
      refine(?_:_=_)
      rw[HG.out,decide_eq_false hn1,decide_eq_false hn2];rfl
     clear pD hn1 hn2 l0 l1 m1
     go_wp2_with fail
     go_roundw
     case rel=>exact⟨k+1,by go_num,by omega,cP cW.out jX.out,Mv.out,HJX.out⟩
     case measure=>simp[intOf];omega
  ·have hkn':¬(k:Int)<(n:Int):=by omega
   have HRR:Hid (R=true):=by
    refine(?_:_=_)
    have h:=cW.out
    have hke:k=n:=by omega
    rw[hke]at h
    rw[←qS.out];exact h
   by_cases h0:n=0
   ·have hz:zeroV vs=false:=by
     have h1:vs=[]:=List.length_eq_zero_iff.1 (by rw[HN.out];exact h0)
     rw[h1];rfl
    have h0':¬(0:Int)<(n:Int):=by omega
    have hzz:ZR=false:=by rw[←HZ.out,hz];rfl
    go_wp2_with fail
    go_ret
    exact⟨aU rfl,HB.out⟩
   ·obtain⟨v0,hv0⟩:∃ v,vs[0]? = some v:=⟨_,List.getElem?_eq_getElem (by have:=HN.out;omega)⟩
    obtain⟨g2,o2,c2,hsl,hg2,f0,f1⟩:=pV HH.out (W:=w1) (fun b hb=>HB.out.block b hb) hv0
    rw[HN.out]at hsl
    obtain⟨rfl,rfl⟩:=aJ hsl
    rw[Nat.zero_mul,Nat.add_zero]at f1
    have hz:zeroV vs=decide (v0.num=0):=by unfold zeroV;rw[hv0]
    have h0p:(0:Int)<(n:Int):=by omega
    have HZZ:Hid (ZR=decide (v0.num=0)):=by
     refine(?_:_=_)
     rw[←HZ.out,hz,HRR.out,Bool.and_true]
    clear hsl hv0 hz f0
    generalize v0.num=z at *
    by_cases hz0:z=0
    ·subst hz0
     go_wp2_with fail
     go_ret
     exact⟨aU (by rw[HZZ.out];rfl),HB.out⟩
    ·have hz1:=beq_eq_false_iff_ne.2 hz0
     have hz2:=decide_eq_false hz0
     go_wp2_with fail
     go_ret
     exact⟨aU (by rw[HZZ.out,hz2]),HB.out⟩
section
variable {P:Program} {ops:Array Oper} {Q:Exit→Act→World→Prop} {md:Region.Mode} {S:World→Prop}
theorem aT (i:Nat) (v:Value) {oi:Oper} {fuel:Nat} {l:Array Bool} {a:Act} {w:World} (hi:ops[i]? = some oi) (hb:(Region.noSelect ops&&Region.free md ops l i&&(Region.ready md ops l).contains i&&Region.wanted oi (yielded ops a.tmps))=true)
  (hQ:∀ c a w,Q (.panic c) (a.put oi.dst v) w→Q (.panic c) a w) (hS:S w) (hy:∀ w,S w→(execOp a.eval oi).run P w=.ok (.value v) w)
  (h:wpAnyH P md ops Q S fuel (l.setIfInBounds i true) (a.put oi.dst v) w):wpAnyH P md ops Q S (fuel+1) l a w:=by
 simp only[Bool.and_eq_true]at hb
 exact wpAnyH_take hi hb.1.1.1 hb.1.1.2 hb.1.2 hQ (.inl ⟨hb.2,hy⟩) hS h
theorem bJ (i:Nat) {oi:Oper} {fuel:Nat} {l:Array Bool} {a:Act} {w:World} (hi:ops[i]? = some oi) (hb:(Region.noSelect ops&&Region.free md ops l i&&(Region.ready md ops l).contains i&&!Region.wanted oi (yielded ops a.tmps))=true)
  (hQ:∀ c a w,Q (.panic c) (a.put oi.dst undef) w→Q (.panic c) a w) (hS:S w)
  (h:wpAnyH P md ops Q S fuel (l.setIfInBounds i true) (a.put oi.dst undef) w):wpAnyH P md ops Q S (fuel+1) l a w:=by
 simp only[Bool.and_eq_true]at hb
 exact wpAnyH_take hi hb.1.1.1 hb.1.1.2 hb.1.2 hQ (.inr ⟨by simpa using hb.2,rfl⟩) hS h
theorem jY (i:Nat) {oi:Oper} {fuel:Nat} {l:Array Bool} {a:Act} {w:World} (hr:Region.ready md ops l=[i]) (hi:ops[i]? = some oi)
  (h:∀ K':Act→World→Prop,Shut (∀ a w,S w→(S w→wpAnyH P md ops Q S fuel (l.setIfInBounds i true) a w)→K' a w)→if Region.wanted oi (yielded ops a.tmps)=true then Oper.wp P oi a w K' Q else K' (a.put oi.dst undef) w):wpAnyH P md ops Q S (fuel+1) l a w:=
 wpAnyH_ready hr (by simp) (AllReadyH.cons hi h AllReadyH.nil)
end
theorem vG {ne nm:Nat} {f:FD} (h:f.kind<1∨10<f.kind):sV ne nm f=false:=by
 unfold sV
 rw[if_neg (by omega),if_neg (by omega)]
 exact decide_eq_false (by omega)
def tT (ne nm:Nat) (kd:Int):Int:=if kd=9 then (ne:Int) else if kd=10 then (nm:Int) else 1
theorem Pp {ne nm:Nat} {f:FD} (h1:1≤f.kind) (h2:f.kind≤10):sV ne nm f=decide (0≤f.type∧f.type<tT ne nm f.kind):=by
 unfold sV tT
 by_cases h9:f.kind=9
 ·rw[if_pos h9,if_pos h9]
 ·rw[if_neg h9,if_neg h9]
  by_cases h10:f.kind=10
  ·rw[if_pos h10,if_pos h10]
  ·rw[if_neg h10,if_neg h10,decide_eq_decide]
   omega
def aEk (U:World) (A B:Prop) (v:Value) (wx:World):Prop:=∃ b:Bool,v=.bool b∧Below U.heap.size U wx∧(b=true→A)∧(b=false→B)
theorem Jp {fs:List FD} {k:Nat} (h:k=0):wK fs k=0:=by subst h;rfl
set_option maxHeartbeats 64000000 in
set_option maxRecDepth 20000 in
theorem Bi (ma ea ta:Option Addr) (nm ne nt mc ec tc:Nat) (m:MD) (ka:Option Addr) (kc:Nat) (w:World) (hT:qI w) (hf:m.fields.length≤100000∧∀ v∈m.fields,v.name.length≤100000) (hH:RowsIn w (fun b=>b<w.heap.size) 5 cA (.slice ka m.fields.length kc) m.fields) :
  Calls Tryz.prog 46 #[.agg #[.slice ma nm mc,.slice ea ne ec,.slice ta nt tc],.agg #[.string (aC m.name),.slice ka m.fields.length kc]] w fun e1 w'=>e1=.returned (.bool (decide (m.fields.length≤32)&&pR ne nm m.fields))∧Below w.heap.size w w':=by
 obtain⟨Y,hY,hC,hb,hYs⟩:=bY w #[.slice ma nm mc,.slice ea ne ec,.slice ta nt tc] 29
 obtain⟨V,hV,hD,dO,iH⟩:=bY Y #[.string (aC m.name),.slice ka m.fields.length kc] 48
 generalize m.fields=fs at *
 have HH:=aB hH
 have HF:=aB hf.2
 have hn0:=hf.1
 obtain⟨R,hR⟩:∃ r,(decide (fs.length≤32)&&pR ne nm fs)=r:=⟨_,rfl⟩
 rw[hR]
 have Bh:(decide (fs.length≤32)&&eX (fF fs (kP ne nm fs)) fs.length)=R:=hR
 obtain⟨n,hn⟩:∃ n,fs.length=n:=⟨_,rfl⟩
 have HN:=aB hn
 rw[hn]at hn0 Bh hV hD HH ⊢
 have qS:=aB Bh
 have HY:=aB hY
 have HV:=aB hV
 have iA:=aB (hb.trans (dO.mono hb.size))
 rw[hYs]at hD dO iH
 have HC:=aB ((dO.block _ (by omega)).trans hC)
 have HD:=aB hD
 have l1:=aA hD 1 rfl
 have HTW:=aB hT
 clear hH hf hn hR Bh hY hV hb dO hC hD hT hYs iH
 go_enter Tryz.func46,Tryz.ntmps46
 go_upto_region 1 with fail
 rw[HY.out,HV.out]
 by_cases h32:n≤32
 case neg=>
  have aSa:32<(n:Int):=by omega
  go_wp2_with fail
  go_ret
  exact⟨aU (by rw[←qS.out,decide_eq_false (by omega)];rfl),iA.out⟩
 have aSa:¬32<(n:Int):=by omega
 go_wp2_with fail
 clear l1
 go_loopw [16] (fun i wr=>∃ k:Nat,i=.int .i64 (k:Int)∧k≤n∧eX (fF fs (kP ne nm fs)) k=true∧Below w.heap.size w wr∧wr.heap[w.heap.size]? = some (.cells #[.slice ma nm mc,.slice ea ne ec,.slice ta nt tc] 29 (0,0))∧wr.heap[w.heap.size+1]? = some (.cells #[.string (aC m.name),.slice ka n kc] 48 (0,0))) (fun i _=>n - (intOf i).toNat)
 case atStart=>exact⟨0,rfl,Nat.zero_le _,rfl,iA.out,HC.out,HD.out⟩
 case round=>
  generalize wr=w1 at *
  obtain⟨k,rfl,hk,hall,hbel,hsc,hbx⟩:=hrel
  have hsw:=hbel.size
  have hlt:=aN hbx
  have l1:=aA hbx 1 rfl
  have cW:=aB hall
  have HB:=aB hbel
  have HS:=aB hsc
  have HX:=aB hbx
  clear hall hbel hsc hbx iA HC HD
  by_cases hkn:k<n
  ·obtain⟨y,hy⟩:∃ y,fs[k]? = some y:=⟨_,List.getElem?_eq_getElem (by have:=HN.out;omega)⟩
   obtain⟨g,o,c0,hsl,hg,e0,e1,e2,e3,e4⟩:=kR HH.out (W:=w1) (fun b hb=>HB.out.block b hb) hy
   rw[HN.out]at hsl
   obtain⟨rfl,rfl⟩:=aJ hsl
   have hnl:=HF.out y (List.mem_of_getElem? hy)
   obtain⟨p,hp⟩:∃ p,wK fs k=p:=⟨_,rfl⟩
   have HG:Hid (fF fs (kP ne nm fs) k=(decide (p<y.num)&&(fV y.num&&(aZ y.name&&(!decide (y.name∈fI fs k)&&sV ne nm y))))):=by
    refine(?_:_=_)
    rw[dB hy,←hp];rfl
   have dR:Hid (fF fs (kP ne nm fs) k=false→R=false):=fun h=>by rw[←qS.out,cQ h (by omega),Bool.and_false]
   have hk0:(0:Int)≤(k:Int):=by omega
   have hk1:(k:Int)<(n:Int):=by omega
   have hwk:=eE k (by omega)
   obtain⟨U,hU,hC,bG,Mu⟩:=bY w1 #[.int .i64 y.num,.string (aC y.name),.int .i64 y.kind,.bool y.rep,.int .i64 y.type] 88
   have HU:=aB hU
   have eY:=aB (HB.out.trans (bG.mono hsw))
   have vF:=aB hC
   have Rv:=aB ((bG.block _ (by omega)).trans HS.out)
   have hUx:=(bG.block _ (by omega)).trans HX.out
   have HUX:=aB hUx
   have HPZ:Hid (k=0→fV y.num=true→decide (p<y.num)=true):=fun h0 h1=>by
    rw[←hp,Jp h0]
    unfold fV at h1
    have h2:=of_decide_eq_true h1
    exact decide_eq_true (by omega)
   have HPP:Hid (∀ kp,k=kp+1→(∀ W,Below U.heap.size U W→W.cell? ⟨g,o+kp*5,none⟩=some (.int .i64 p))∧True):=fun kp hkp=>by
    obtain⟨z,hz⟩:∃ z,fs[kp]? = some z:=⟨_,List.getElem?_eq_getElem (by have:=HN.out;omega)⟩
    have hpz:p=z.num:=by rw[←hp,hkp,wL hz]
    refine⟨fun W hW=>?_,trivial⟩
    have hWw:=eY.out.trans (hW.mono eY.out.size)
    obtain⟨g2,o2,c2,hsl2,hg2,f0,-,-,-,-⟩:=kR HH.out (W:=W) (fun b hb=>hWw.block b hb) hz
    rw[HN.out]at hsl2
    obtain⟨ha2,hc2⟩:=aJ hsl2
    injection ha2 with ha2
    injection ha2 with ha2 hb2
    subst ha2 hb2
    rw[hpz];exact f0
   have b0:∀ W,Below U.heap.size U W→W.cell? ⟨w1.heap.size,0,none⟩=some (.int .i64 y.num):=fun W hW=>(hW.cell (by simp;omega)).trans (aA hC 0 rfl)
   have b1:∀ W,Below U.heap.size U W→W.cell? ⟨w1.heap.size,1,none⟩=some (.string (aC y.name)):=fun W hW=>(hW.cell (by simp;omega)).trans (aA hC 1 rfl)
   have b2:∀ W,Below U.heap.size U W→W.cell? ⟨w1.heap.size,2,none⟩=some (.int .i64 y.kind):=fun W hW=>(hW.cell (by simp;omega)).trans (aA hC 2 rfl)
   have bm:∀ W,Below U.heap.size U W→W.cell? ⟨w.heap.size+1,1,none⟩=some (.slice (some ⟨g,o,none⟩) n kc):=fun W hW=>(hW.cell (by simp;omega)).trans (aA hUx 1 rfl)
   have hS0:Below U.heap.size U U.drew:=(Below.refl _ _).drew
   have hfc:=fun W=>aAb y.num W
   have hpl:∀ W,Below U.heap.size U W→Calls Tryz.prog 48 #[.string (aC y.name)] W fun e w'=>e=.returned (.bool (aZ y.name))∧Below U.heap.size U w':=fun W hW=>(mG y.name W (dQ HTW.out (eY.out.trans (hW.mono eY.out.size))) (by omega)).mono fun e w' ⟨h1,h2⟩=>⟨h1,hW.trans (h2.mono hW.size)⟩
   clear hsl hy hU hC bG hUx hp
   go_upto_region 7 with fail
   rw[HU.out]
   clear e0 e1 e2 e3 e4 l1
   obtain⟨FN,hFN⟩:∃ b,fV y.num=b:=⟨_,rfl⟩
   obtain⟨PL,Rq⟩:∃ b,aZ y.name=b:=⟨_,rfl⟩
   rw[hFN,Rq]at HG
   simp only[hFN]at hfc HPZ
   simp only[Rq]at hpl
   clear hFN Rq
   go_cut [59] (fun v wx=>aEk U (fF fs (kP ne nm fs) k=false) ((decide (p<y.num)=true∧FN=true∧PL=true)∧1≤y.kind∧y.kind≤10) v wx)
   case first=>
    cases hFn:FN
    case false=>
     rw[hFn]at hfc HG
     refine wp_region_held_drew (S:=fun W=>Below U.heap.size U W) (by kernel_rfl) hS0 (fun _=>?_)
     refine aT 0 (.pointer (some ⟨w1.heap.size,0,none⟩)) rfl (by kernel_rfl) (fun _ _ _ h=>h) hS0 (fun W hW=>by go_simp) ?_
     refine aT 1 (.int .i64 y.num) rfl (by kernel_rfl) (fun _ _ _ h=>h) hS0 (fun W hW=>by have c:=b0 W hW;go_simp) ?_
     refine jY 2 (by kernel_rfl) rfl (fun K hK=>?_)
     go_simp
     refine(hfc _).mono ?_
     rintro e u1 ⟨rfl,hu1⟩
     have hu1:=hu1.symm
     subst hu1
     dsimp only
     refine hK.out _ _ hS0 (fun _=>?_)
     clear hK K
     refine aT 3 (.bool true) rfl (by kernel_rfl) (fun _ _ _ h=>h) hS0 (fun W hW=>by go_simp) ?_
     refine aT 4 (.bool true) rfl (by kernel_rfl) (fun _ _ _ h=>h) hS0 (fun W hW=>by go_simp) ?_
     refine bJ 5 rfl (by kernel_rfl) (fun _ _ _ h=>h) hS0 ?_
     refine bJ 6 rfl (by kernel_rfl) (fun _ _ _ h=>h) hS0 ?_
     refine bJ 7 rfl (by kernel_rfl) (fun _ _ _ h=>h) hS0 ?_
     refine bJ 8 rfl (by kernel_rfl) (fun _ _ _ h=>h) hS0 ?_
     refine bJ 9 rfl (by kernel_rfl) (fun _ _ _ h=>h) hS0 ?_
     refine bJ 10 rfl (by kernel_rfl) (fun _ _ _ h=>h) hS0 ?_
     refine bJ 11 rfl (by kernel_rfl) (fun _ _ _ h=>h) hS0 ?_
     refine bJ 12 rfl (by kernel_rfl) (fun _ _ _ h=>h) hS0 ?_
     refine bJ 13 rfl (by kernel_rfl) (fun _ _ _ h=>h) hS0 ?_
     refine bJ 14 rfl (by kernel_rfl) (fun _ _ _ h=>h) hS0 ?_
     refine bJ 15 rfl (by kernel_rfl) (fun _ _ _ h=>h) hS0 ?_
     refine bJ 16 rfl (by kernel_rfl) (fun _ _ _ h=>h) hS0 ?_
     refine bJ 17 rfl (by kernel_rfl) (fun _ _ _ h=>h) hS0 ?_
     refine bJ 18 rfl (by kernel_rfl) (fun _ _ _ h=>h) hS0 ?_
     refine aT 19 (.bool true) rfl (by kernel_rfl) (fun _ _ _ h=>h) hS0 (fun W hW=>by go_simp) ?_
     refine aT 20 (.bool true) rfl (by kernel_rfl) (fun _ _ _ h=>h) hS0 (fun W hW=>by go_simp) ?_
     refine bJ 21 rfl (by kernel_rfl) (fun _ _ _ h=>h) hS0 ?_
     refine bJ 22 rfl (by kernel_rfl) (fun _ _ _ h=>h) hS0 ?_
     refine bJ 23 rfl (by kernel_rfl) (fun _ _ _ h=>h) hS0 ?_
     refine bJ 24 rfl (by kernel_rfl) (fun _ _ _ h=>h) hS0 ?_
     refine aT 25 (.bool true) rfl (by kernel_rfl) (fun _ _ _ h=>h) hS0 (fun W hW=>by go_simp) ?_
     refine aT 26 (.bool true) rfl (by kernel_rfl) (fun _ _ _ h=>h) hS0 (fun W hW=>by go_simp) ?_
     refine bJ 27 rfl (by kernel_rfl) (fun _ _ _ h=>h) hS0 ?_
     refine bJ 28 rfl (by kernel_rfl) (fun _ _ _ h=>h) hS0 ?_
     refine bJ 29 rfl (by kernel_rfl) (fun _ _ _ h=>h) hS0 ?_
     refine aT 30 (.bool true) rfl (by kernel_rfl) (fun _ _ _ h=>h) hS0 (fun W hW=>by go_simp) ?_
     refine aT 31 (.bool true) rfl (by kernel_rfl) (fun _ _ _ h=>h) hS0 (fun W hW=>by go_simp) ?_
     refine bJ 32 rfl (by kernel_rfl) (fun _ _ _ h=>h) hS0 ?_
     refine bJ 33 rfl (by kernel_rfl) (fun _ _ _ h=>h) hS0 ?_
     refine bJ 34 rfl (by kernel_rfl) (fun _ _ _ h=>h) hS0 ?_
     refine aT 35 (.bool true) rfl (by kernel_rfl) (fun _ _ _ h=>h) hS0 (fun W hW=>by go_simp) ?_
     refine wpAnyH_done (by kernel_rfl) ?_ _
     go_wp2_with fail
     go_meet
     exact⟨true,rfl,hS0,(fun _=>by rw[HG.out];simp),(fun h=>by cases h)⟩
    case true=>
     rw[hFn]at hfc HG
     by_cases hkz:k=0
     ·have wR:¬(0:Int)<(k:Int):=by omega
      have HP0:Hid (decide (p<y.num)=true):=HPZ.out hkz hFn
      have Rw:=aB hkz
      clear hkz
      refine wp_region_held_drew (S:=fun W=>Below U.heap.size U W) (by kernel_rfl) hS0 (fun _=>?_)
      refine aT 0 (.pointer (some ⟨w1.heap.size,0,none⟩)) rfl (by kernel_rfl) (fun _ _ _ h=>h) hS0 (fun W hW=>by go_simp) ?_
      refine aT 1 (.int .i64 y.num) rfl (by kernel_rfl) (fun _ _ _ h=>h) hS0 (fun W hW=>by have c:=b0 W hW;go_simp) ?_
      refine jY 2 (by kernel_rfl) rfl (fun K hK=>?_)
      go_simp
      refine(hfc _).mono ?_
      rintro e u1 ⟨rfl,hu1⟩
      have hu1:=hu1.symm
      subst hu1
      dsimp only
      refine hK.out _ _ hS0 (fun _=>?_)
      clear hK K
      refine aT 3 (.bool false) rfl (by kernel_rfl) (fun _ _ _ h=>h) hS0 (fun W hW=>by go_simp) ?_
      refine aT 4 (.bool false) rfl (by kernel_rfl) (fun _ _ _ h=>h) hS0 (fun W hW=>by go_simp) ?_
      refine aT 5 (.int .i64 (k:Int)) rfl (by kernel_rfl) (fun _ _ _ h=>h) hS0 (fun W hW=>by go_simp) ?_
      refine aT 6 (.bool false) rfl (by kernel_rfl) (fun _ _ _ h=>h) hS0 (fun W hW=>by go_simp;try (first | omega | (have:=Rw.out;omega))) ?_
      refine aT 7 (.bool false) rfl (by kernel_rfl) (fun _ _ _ h=>h) hS0 (fun W hW=>by go_simp) ?_
      refine bJ 8 rfl (by kernel_rfl) (fun _ _ _ h=>h) hS0 ?_
      refine bJ 9 rfl (by kernel_rfl) (fun _ _ _ h=>h) hS0 ?_
      refine bJ 10 rfl (by kernel_rfl) (fun _ _ _ h=>h) hS0 ?_
      refine bJ 11 rfl (by kernel_rfl) (fun _ _ _ h=>h) hS0 ?_
      refine bJ 12 rfl (by kernel_rfl) (fun _ _ _ h=>h) hS0 ?_
      refine bJ 13 rfl (by kernel_rfl) (fun _ _ _ h=>h) hS0 ?_
      refine bJ 14 rfl (by kernel_rfl) (fun _ _ _ h=>h) hS0 ?_
      refine bJ 15 rfl (by kernel_rfl) (fun _ _ _ h=>h) hS0 ?_
      refine bJ 16 rfl (by kernel_rfl) (fun _ _ _ h=>h) hS0 ?_
      refine bJ 17 rfl (by kernel_rfl) (fun _ _ _ h=>h) hS0 ?_
      refine aT 18 (.bool false) rfl (by kernel_rfl) (fun _ _ _ h=>h) hS0 (fun W hW=>by go_simp) ?_
      refine aT 19 (.bool false) rfl (by kernel_rfl) (fun _ _ _ h=>h) hS0 (fun W hW=>by go_simp) ?_
      refine aT 20 (.bool false) rfl (by kernel_rfl) (fun _ _ _ h=>h) hS0 (fun W hW=>by go_simp) ?_
      refine aT 21 (.pointer (some ⟨w1.heap.size,1,none⟩)) rfl (by kernel_rfl) (fun _ _ _ h=>h) hS0 (fun W hW=>by go_simp) ?_
      refine aT 22 (.string (aC y.name)) rfl (by kernel_rfl) (fun _ _ _ h=>h) hS0 (fun W hW=>by have c:=b1 W hW;go_simp) ?_
      refine jY 23 (by kernel_rfl) rfl (fun K hK=>?_)
      go_simp
      refine(hpl _ hS0).mono ?_
      rintro e U1 ⟨rfl,hb1⟩
      have hS0:Below U.heap.size U U1:=hb1
      clear hb1
      dsimp only
      refine hK.out _ _ hS0 (fun _=>?_)
      clear hK K
      cases PL
      case false=>
       refine aT 24 (.bool true) rfl (by kernel_rfl) (fun _ _ _ h=>h) hS0 (fun W hW=>by go_simp) ?_
       refine aT 25 (.bool true) rfl (by kernel_rfl) (fun _ _ _ h=>h) hS0 (fun W hW=>by go_simp) ?_
       refine aT 26 (.bool true) rfl (by kernel_rfl) (fun _ _ _ h=>h) hS0 (fun W hW=>by go_simp) ?_
       refine bJ 27 rfl (by kernel_rfl) (fun _ _ _ h=>h) hS0 ?_
       refine bJ 28 rfl (by kernel_rfl) (fun _ _ _ h=>h) hS0 ?_
       refine bJ 29 rfl (by kernel_rfl) (fun _ _ _ h=>h) hS0 ?_
       refine aT 30 (.bool true) rfl (by kernel_rfl) (fun _ _ _ h=>h) hS0 (fun W hW=>by go_simp) ?_
       refine aT 31 (.bool true) rfl (by kernel_rfl) (fun _ _ _ h=>h) hS0 (fun W hW=>by go_simp) ?_
       refine bJ 32 rfl (by kernel_rfl) (fun _ _ _ h=>h) hS0 ?_
       refine bJ 33 rfl (by kernel_rfl) (fun _ _ _ h=>h) hS0 ?_
       refine bJ 34 rfl (by kernel_rfl) (fun _ _ _ h=>h) hS0 ?_
       refine aT 35 (.bool true) rfl (by kernel_rfl) (fun _ _ _ h=>h) hS0 (fun W hW=>by go_simp) ?_
       refine wpAnyH_done (by kernel_rfl) ?_ _
       go_wp2_with fail
       go_meet
       exact⟨true,rfl,hS0,(fun _=>by rw[HG.out];simp),(fun h=>by cases h)⟩
      case true=>
       refine aT 24 (.bool false) rfl (by kernel_rfl) (fun _ _ _ h=>h) hS0 (fun W hW=>by go_simp) ?_
       refine aT 25 (.bool false) rfl (by kernel_rfl) (fun _ _ _ h=>h) hS0 (fun W hW=>by go_simp) ?_
       refine aT 26 (.bool false) rfl (by kernel_rfl) (fun _ _ _ h=>h) hS0 (fun W hW=>by go_simp) ?_
       refine aT 27 (.pointer (some ⟨w1.heap.size,2,none⟩)) rfl (by kernel_rfl) (fun _ _ _ h=>h) hS0 (fun W hW=>by go_simp) ?_
       refine aT 28 (.int .i64 y.kind) rfl (by kernel_rfl) (fun _ _ _ h=>h) hS0 (fun W hW=>by have c:=b2 W hW;go_simp) ?_
       by_cases hk1:y.kind<1
       ·refine aT 29 (.bool true) rfl (by kernel_rfl) (fun _ _ _ h=>h) hS0 (fun W hW=>by go_simp;try omega) ?_
        refine aT 30 (.bool true) rfl (by kernel_rfl) (fun _ _ _ h=>h) hS0 (fun W hW=>by go_simp) ?_
        refine aT 31 (.bool true) rfl (by kernel_rfl) (fun _ _ _ h=>h) hS0 (fun W hW=>by go_simp) ?_
        refine bJ 32 rfl (by kernel_rfl) (fun _ _ _ h=>h) hS0 ?_
        refine bJ 33 rfl (by kernel_rfl) (fun _ _ _ h=>h) hS0 ?_
        refine bJ 34 rfl (by kernel_rfl) (fun _ _ _ h=>h) hS0 ?_
        refine aT 35 (.bool true) rfl (by kernel_rfl) (fun _ _ _ h=>h) hS0 (fun W hW=>by go_simp) ?_
        refine wpAnyH_done (by kernel_rfl) ?_ _
        go_wp2_with fail
        go_meet
        exact⟨true,rfl,hS0,(fun _=>by rw[HG.out,vG (.inl hk1)];simp),(fun h=>by cases h)⟩
       have aSe:¬y.kind<1:=hk1
       refine aT 29 (.bool false) rfl (by kernel_rfl) (fun _ _ _ h=>h) hS0 (fun W hW=>by go_simp;try omega) ?_
       refine aT 30 (.bool false) rfl (by kernel_rfl) (fun _ _ _ h=>h) hS0 (fun W hW=>by go_simp) ?_
       refine aT 31 (.bool false) rfl (by kernel_rfl) (fun _ _ _ h=>h) hS0 (fun W hW=>by go_simp) ?_
       refine aT 32 (.pointer (some ⟨w1.heap.size,2,none⟩)) rfl (by kernel_rfl) (fun _ _ _ h=>h) hS0 (fun W hW=>by go_simp) ?_
       refine aT 33 (.int .i64 y.kind) rfl (by kernel_rfl) (fun _ _ _ h=>h) hS0 (fun W hW=>by have c:=b2 W hW;go_simp) ?_
       by_cases hk2:10<y.kind
       ·refine aT 34 (.bool true) rfl (by kernel_rfl) (fun _ _ _ h=>h) hS0 (fun W hW=>by go_simp;try omega) ?_
        refine aT 35 (.bool true) rfl (by kernel_rfl) (fun _ _ _ h=>h) hS0 (fun W hW=>by go_simp) ?_
        refine wpAnyH_done (by kernel_rfl) ?_ _
        go_wp2_with fail
        go_meet
        exact⟨true,rfl,hS0,(fun _=>by rw[HG.out,vG (.inr hk2)];simp),(fun h=>by cases h)⟩
       have aSf:¬10<y.kind:=hk2
       refine aT 34 (.bool false) rfl (by kernel_rfl) (fun _ _ _ h=>h) hS0 (fun W hW=>by go_simp;try omega) ?_
       refine aT 35 (.bool false) rfl (by kernel_rfl) (fun _ _ _ h=>h) hS0 (fun W hW=>by go_simp) ?_
       refine wpAnyH_done (by kernel_rfl) ?_ _
       go_wp2_with fail
       go_meet
       exact⟨false,rfl,hS0,(fun h=>by cases h),(fun _=>⟨⟨HP0.out,hFn,trivial⟩,by omega,by omega⟩)⟩
     ·obtain⟨kp,hkp⟩:∃ kp,k=kp+1:=⟨k - 1,by omega⟩
      have wR:(0:Int)<(k:Int):=by omega
      have bCv:IntKind.i64.wrap ((k:Int) - 1)=(kp:Int):=by rw[IntKind.wrap_i64];omega
      have bCw:(0:Int)≤(kp:Int):=by omega
      have bCx:(kp:Int)<(n:Int):=by omega
      obtain⟨bz,hpz⟩:=HPP.out kp hkp
      clear hkz hkp
      by_cases hpn:p<y.num
      case neg=>
       have aSg:y.num≤p:=by omega
       refine wp_region_held_drew (S:=fun W=>Below U.heap.size U W) (by kernel_rfl) hS0 (fun _=>?_)
       refine aT 0 (.pointer (some ⟨w1.heap.size,0,none⟩)) rfl (by kernel_rfl) (fun _ _ _ h=>h) hS0 (fun W hW=>by go_simp) ?_
       refine aT 1 (.int .i64 y.num) rfl (by kernel_rfl) (fun _ _ _ h=>h) hS0 (fun W hW=>by have c:=b0 W hW;go_simp) ?_
       refine jY 2 (by kernel_rfl) rfl (fun K hK=>?_)
       go_simp
       refine(hfc _).mono ?_
       rintro e u1 ⟨rfl,hu1⟩
       have hu1:=hu1.symm
       subst hu1
       dsimp only
       refine hK.out _ _ hS0 (fun _=>?_)
       clear hK K
       refine aT 3 (.bool false) rfl (by kernel_rfl) (fun _ _ _ h=>h) hS0 (fun W hW=>by go_simp) ?_
       refine aT 4 (.bool false) rfl (by kernel_rfl) (fun _ _ _ h=>h) hS0 (fun W hW=>by go_simp) ?_
       refine aT 5 (.int .i64 (k:Int)) rfl (by kernel_rfl) (fun _ _ _ h=>h) hS0 (fun W hW=>by go_simp) ?_
       refine aT 6 (.bool true) rfl (by kernel_rfl) (fun _ _ _ h=>h) hS0 (fun W hW=>by go_simp;try (first | omega | (have:=Rw.out;omega))) ?_
       refine aT 7 (.bool true) rfl (by kernel_rfl) (fun _ _ _ h=>h) hS0 (fun W hW=>by go_simp) ?_
       refine aT 8 (.pointer (some ⟨w.heap.size+1,1,none⟩)) rfl (by kernel_rfl) (fun _ _ _ h=>h) hS0 (fun W hW=>by go_simp) ?_
       refine aT 9 (.slice (some ⟨g,o,none⟩) n kc) rfl (by kernel_rfl) (fun _ _ _ h=>h) hS0 (fun W hW=>by have c:=bm W hW;go_simp) ?_
       refine aT 10 (.int .i64 (k:Int)) rfl (by kernel_rfl) (fun _ _ _ h=>h) hS0 (fun W hW=>by go_simp) ?_
       refine aT 11 (.int .i64 (kp:Int)) rfl (by kernel_rfl) (fun _ _ _ h=>h) hS0 (fun W hW=>by go_simp) ?_
       refine aT 12 (.pointer (some ⟨g,o+kp*5,none⟩)) rfl (by kernel_rfl) (fun _ _ _ h=>h) hS0 (fun W hW=>by go_simp) ?_
       refine aT 13 (.pointer (some ⟨g,o+kp*5,none⟩)) rfl (by kernel_rfl) (fun _ _ _ h=>h) hS0 (fun W hW=>by go_simp) ?_
       refine aT 14 (.int .i64 p) rfl (by kernel_rfl) (fun _ _ _ h=>h) hS0 (fun W hW=>by have c:=bz W hW;go_simp) ?_
       refine aT 15 (.pointer (some ⟨w1.heap.size,0,none⟩)) rfl (by kernel_rfl) (fun _ _ _ h=>h) hS0 (fun W hW=>by go_simp) ?_
       refine aT 16 (.int .i64 y.num) rfl (by kernel_rfl) (fun _ _ _ h=>h) hS0 (fun W hW=>by have c:=b0 W hW;go_simp) ?_
       refine aT 17 (.bool true) rfl (by kernel_rfl) (fun _ _ _ h=>h) hS0 (fun W hW=>by go_simp;try omega) ?_
       refine aT 18 (.bool true) rfl (by kernel_rfl) (fun _ _ _ h=>h) hS0 (fun W hW=>by go_simp) ?_
       refine aT 19 (.bool true) rfl (by kernel_rfl) (fun _ _ _ h=>h) hS0 (fun W hW=>by go_simp) ?_
       refine aT 20 (.bool true) rfl (by kernel_rfl) (fun _ _ _ h=>h) hS0 (fun W hW=>by go_simp) ?_
       refine bJ 21 rfl (by kernel_rfl) (fun _ _ _ h=>h) hS0 ?_
       refine bJ 22 rfl (by kernel_rfl) (fun _ _ _ h=>h) hS0 ?_
       refine bJ 23 rfl (by kernel_rfl) (fun _ _ _ h=>h) hS0 ?_
       refine bJ 24 rfl (by kernel_rfl) (fun _ _ _ h=>h) hS0 ?_
       refine aT 25 (.bool true) rfl (by kernel_rfl) (fun _ _ _ h=>h) hS0 (fun W hW=>by go_simp) ?_
       refine aT 26 (.bool true) rfl (by kernel_rfl) (fun _ _ _ h=>h) hS0 (fun W hW=>by go_simp) ?_
       refine bJ 27 rfl (by kernel_rfl) (fun _ _ _ h=>h) hS0 ?_
       refine bJ 28 rfl (by kernel_rfl) (fun _ _ _ h=>h) hS0 ?_
       refine bJ 29 rfl (by kernel_rfl) (fun _ _ _ h=>h) hS0 ?_
       refine aT 30 (.bool true) rfl (by kernel_rfl) (fun _ _ _ h=>h) hS0 (fun W hW=>by go_simp) ?_
       refine aT 31 (.bool true) rfl (by kernel_rfl) (fun _ _ _ h=>h) hS0 (fun W hW=>by go_simp) ?_
       refine bJ 32 rfl (by kernel_rfl) (fun _ _ _ h=>h) hS0 ?_
       refine bJ 33 rfl (by kernel_rfl) (fun _ _ _ h=>h) hS0 ?_
       refine bJ 34 rfl (by kernel_rfl) (fun _ _ _ h=>h) hS0 ?_
       refine aT 35 (.bool true) rfl (by kernel_rfl) (fun _ _ _ h=>h) hS0 (fun W hW=>by go_simp) ?_
       refine wpAnyH_done (by kernel_rfl) ?_ _
       go_wp2_with fail
       go_meet
       exact⟨true,rfl,hS0,(fun _=>by rw[HG.out,decide_eq_false (by omega)];rfl),(fun h=>by cases h)⟩
      have aSg:¬y.num≤p:=by omega
      have HP0:Hid (decide (p<y.num)=true):=decide_eq_true hpn
      refine wp_region_held_drew (S:=fun W=>Below U.heap.size U W) (by kernel_rfl) hS0 (fun _=>?_)
      refine aT 0 (.pointer (some ⟨w1.heap.size,0,none⟩)) rfl (by kernel_rfl) (fun _ _ _ h=>h) hS0 (fun W hW=>by go_simp) ?_
      refine aT 1 (.int .i64 y.num) rfl (by kernel_rfl) (fun _ _ _ h=>h) hS0 (fun W hW=>by have c:=b0 W hW;go_simp) ?_
      refine jY 2 (by kernel_rfl) rfl (fun K hK=>?_)
      go_simp
      refine(hfc _).mono ?_
      rintro e u1 ⟨rfl,hu1⟩
      have hu1:=hu1.symm
      subst hu1
      dsimp only
      refine hK.out _ _ hS0 (fun _=>?_)
      clear hK K
      refine aT 3 (.bool false) rfl (by kernel_rfl) (fun _ _ _ h=>h) hS0 (fun W hW=>by go_simp) ?_
      refine aT 4 (.bool false) rfl (by kernel_rfl) (fun _ _ _ h=>h) hS0 (fun W hW=>by go_simp) ?_
      refine aT 5 (.int .i64 (k:Int)) rfl (by kernel_rfl) (fun _ _ _ h=>h) hS0 (fun W hW=>by go_simp) ?_
      refine aT 6 (.bool true) rfl (by kernel_rfl) (fun _ _ _ h=>h) hS0 (fun W hW=>by go_simp;try (first | omega | (have:=Rw.out;omega))) ?_
      refine aT 7 (.bool true) rfl (by kernel_rfl) (fun _ _ _ h=>h) hS0 (fun W hW=>by go_simp) ?_
      refine aT 8 (.pointer (some ⟨w.heap.size+1,1,none⟩)) rfl (by kernel_rfl) (fun _ _ _ h=>h) hS0 (fun W hW=>by go_simp) ?_
      refine aT 9 (.slice (some ⟨g,o,none⟩) n kc) rfl (by kernel_rfl) (fun _ _ _ h=>h) hS0 (fun W hW=>by have c:=bm W hW;go_simp) ?_
      refine aT 10 (.int .i64 (k:Int)) rfl (by kernel_rfl) (fun _ _ _ h=>h) hS0 (fun W hW=>by go_simp) ?_
      refine aT 11 (.int .i64 (kp:Int)) rfl (by kernel_rfl) (fun _ _ _ h=>h) hS0 (fun W hW=>by go_simp) ?_
      refine aT 12 (.pointer (some ⟨g,o+kp*5,none⟩)) rfl (by kernel_rfl) (fun _ _ _ h=>h) hS0 (fun W hW=>by go_simp) ?_
      refine aT 13 (.pointer (some ⟨g,o+kp*5,none⟩)) rfl (by kernel_rfl) (fun _ _ _ h=>h) hS0 (fun W hW=>by go_simp) ?_
      refine aT 14 (.int .i64 p) rfl (by kernel_rfl) (fun _ _ _ h=>h) hS0 (fun W hW=>by have c:=bz W hW;go_simp) ?_
      refine aT 15 (.pointer (some ⟨w1.heap.size,0,none⟩)) rfl (by kernel_rfl) (fun _ _ _ h=>h) hS0 (fun W hW=>by go_simp) ?_
      refine aT 16 (.int .i64 y.num) rfl (by kernel_rfl) (fun _ _ _ h=>h) hS0 (fun W hW=>by have c:=b0 W hW;go_simp) ?_
      refine aT 17 (.bool false) rfl (by kernel_rfl) (fun _ _ _ h=>h) hS0 (fun W hW=>by go_simp;try omega) ?_
      refine aT 18 (.bool false) rfl (by kernel_rfl) (fun _ _ _ h=>h) hS0 (fun W hW=>by go_simp) ?_
      refine aT 19 (.bool false) rfl (by kernel_rfl) (fun _ _ _ h=>h) hS0 (fun W hW=>by go_simp) ?_
      refine aT 20 (.bool false) rfl (by kernel_rfl) (fun _ _ _ h=>h) hS0 (fun W hW=>by go_simp) ?_
      refine aT 21 (.pointer (some ⟨w1.heap.size,1,none⟩)) rfl (by kernel_rfl) (fun _ _ _ h=>h) hS0 (fun W hW=>by go_simp) ?_
      refine aT 22 (.string (aC y.name)) rfl (by kernel_rfl) (fun _ _ _ h=>h) hS0 (fun W hW=>by have c:=b1 W hW;go_simp) ?_
      refine jY 23 (by kernel_rfl) rfl (fun K hK=>?_)
      go_simp
      refine(hpl _ hS0).mono ?_
      rintro e U1 ⟨rfl,hb1⟩
      have hS0:Below U.heap.size U U1:=hb1
      clear hb1
      dsimp only
      refine hK.out _ _ hS0 (fun _=>?_)
      clear hK K
      cases PL
      case false=>
       refine aT 24 (.bool true) rfl (by kernel_rfl) (fun _ _ _ h=>h) hS0 (fun W hW=>by go_simp) ?_
       refine aT 25 (.bool true) rfl (by kernel_rfl) (fun _ _ _ h=>h) hS0 (fun W hW=>by go_simp) ?_
       refine aT 26 (.bool true) rfl (by kernel_rfl) (fun _ _ _ h=>h) hS0 (fun W hW=>by go_simp) ?_
       refine bJ 27 rfl (by kernel_rfl) (fun _ _ _ h=>h) hS0 ?_
       refine bJ 28 rfl (by kernel_rfl) (fun _ _ _ h=>h) hS0 ?_
       refine bJ 29 rfl (by kernel_rfl) (fun _ _ _ h=>h) hS0 ?_
       refine aT 30 (.bool true) rfl (by kernel_rfl) (fun _ _ _ h=>h) hS0 (fun W hW=>by go_simp) ?_
       refine aT 31 (.bool true) rfl (by kernel_rfl) (fun _ _ _ h=>h) hS0 (fun W hW=>by go_simp) ?_
       refine bJ 32 rfl (by kernel_rfl) (fun _ _ _ h=>h) hS0 ?_
       refine bJ 33 rfl (by kernel_rfl) (fun _ _ _ h=>h) hS0 ?_
       refine bJ 34 rfl (by kernel_rfl) (fun _ _ _ h=>h) hS0 ?_
       refine aT 35 (.bool true) rfl (by kernel_rfl) (fun _ _ _ h=>h) hS0 (fun W hW=>by go_simp) ?_
       refine wpAnyH_done (by kernel_rfl) ?_ _
       go_wp2_with fail
       go_meet
       exact⟨true,rfl,hS0,(fun _=>by rw[HG.out];simp),(fun h=>by cases h)⟩
      case true=>
       refine aT 24 (.bool false) rfl (by kernel_rfl) (fun _ _ _ h=>h) hS0 (fun W hW=>by go_simp) ?_
       refine aT 25 (.bool false) rfl (by kernel_rfl) (fun _ _ _ h=>h) hS0 (fun W hW=>by go_simp) ?_
       refine aT 26 (.bool false) rfl (by kernel_rfl) (fun _ _ _ h=>h) hS0 (fun W hW=>by go_simp) ?_
       refine aT 27 (.pointer (some ⟨w1.heap.size,2,none⟩)) rfl (by kernel_rfl) (fun _ _ _ h=>h) hS0 (fun W hW=>by go_simp) ?_
       refine aT 28 (.int .i64 y.kind) rfl (by kernel_rfl) (fun _ _ _ h=>h) hS0 (fun W hW=>by have c:=b2 W hW;go_simp) ?_
       by_cases hk1:y.kind<1
       ·refine aT 29 (.bool true) rfl (by kernel_rfl) (fun _ _ _ h=>h) hS0 (fun W hW=>by go_simp;try omega) ?_
        refine aT 30 (.bool true) rfl (by kernel_rfl) (fun _ _ _ h=>h) hS0 (fun W hW=>by go_simp) ?_
        refine aT 31 (.bool true) rfl (by kernel_rfl) (fun _ _ _ h=>h) hS0 (fun W hW=>by go_simp) ?_
        refine bJ 32 rfl (by kernel_rfl) (fun _ _ _ h=>h) hS0 ?_
        refine bJ 33 rfl (by kernel_rfl) (fun _ _ _ h=>h) hS0 ?_
        refine bJ 34 rfl (by kernel_rfl) (fun _ _ _ h=>h) hS0 ?_
        refine aT 35 (.bool true) rfl (by kernel_rfl) (fun _ _ _ h=>h) hS0 (fun W hW=>by go_simp) ?_
        refine wpAnyH_done (by kernel_rfl) ?_ _
        go_wp2_with fail
        go_meet
        exact⟨true,rfl,hS0,(fun _=>by rw[HG.out,vG (.inl hk1)];simp),(fun h=>by cases h)⟩
       have aSe:¬y.kind<1:=hk1
       refine aT 29 (.bool false) rfl (by kernel_rfl) (fun _ _ _ h=>h) hS0 (fun W hW=>by go_simp;try omega) ?_
       refine aT 30 (.bool false) rfl (by kernel_rfl) (fun _ _ _ h=>h) hS0 (fun W hW=>by go_simp) ?_
       refine aT 31 (.bool false) rfl (by kernel_rfl) (fun _ _ _ h=>h) hS0 (fun W hW=>by go_simp) ?_
       refine aT 32 (.pointer (some ⟨w1.heap.size,2,none⟩)) rfl (by kernel_rfl) (fun _ _ _ h=>h) hS0 (fun W hW=>by go_simp) ?_
       refine aT 33 (.int .i64 y.kind) rfl (by kernel_rfl) (fun _ _ _ h=>h) hS0 (fun W hW=>by have c:=b2 W hW;go_simp) ?_
       by_cases hk2:10<y.kind
       ·refine aT 34 (.bool true) rfl (by kernel_rfl) (fun _ _ _ h=>h) hS0 (fun W hW=>by go_simp;try omega) ?_
        refine aT 35 (.bool true) rfl (by kernel_rfl) (fun _ _ _ h=>h) hS0 (fun W hW=>by go_simp) ?_
        refine wpAnyH_done (by kernel_rfl) ?_ _
        go_wp2_with fail
        go_meet
        exact⟨true,rfl,hS0,(fun _=>by rw[HG.out,vG (.inr hk2)];simp),(fun h=>by cases h)⟩
       have aSf:¬10<y.kind:=hk2
       refine aT 34 (.bool false) rfl (by kernel_rfl) (fun _ _ _ h=>h) hS0 (fun W hW=>by go_simp;try omega) ?_
       refine aT 35 (.bool false) rfl (by kernel_rfl) (fun _ _ _ h=>h) hS0 (fun W hW=>by go_simp) ?_
       refine wpAnyH_done (by kernel_rfl) ?_ _
       go_wp2_with fail
       go_meet
       exact⟨false,rfl,hS0,(fun h=>by cases h),(fun _=>⟨⟨HP0.out,hFn,trivial⟩,by omega,by omega⟩)⟩
   case rest=>
    clear hfc hpl b0 b1 b2 bm
    obtain⟨b,rfl,hS0,hb1,hb2⟩:=hcut
    generalize wc=U1 at *
    have HB1:=aB (eY.out.trans (hS0.mono eY.out.size))
    cases b
    case true=>
     have aSh:=aB (dR.out (hb1 rfl))
     go_wp2_with fail
     go_ret
     exact⟨aU aSh.out.symm,HB1.out⟩
    obtain⟨⟨q1,q2,q3⟩,aEl,aEm⟩:=hb2 rfl
    have h1c:=(hS0.block _ (by omega)).trans vF.out
    have Uf:=(hS0.block _ (by omega)).trans Rv.out
    have h1x:=(hS0.block _ (by omega)).trans HUX.out
    have hs1:=hS0.size
    have Ub:=aB h1c
    have aEn:=aB Uf
    have Uc:=aB h1x
    have r2:=aA h1c 2 rfl
    have r4:=aA h1c 4 rfl
    have s0:=aA Uf 0 rfl
    have s1:=aA Uf 1 rfl
    rw[q1,q2,q3,Pp aEl aEm]at HG
    clear h1c Uf h1x hS0 hb1 hb2 q1 q2 q3 HPZ HPP vF Rv HUX
    by_cases k9:y.kind=9
    ·rw[show tT ne nm y.kind=(ne:Int)by unfold tT;rw[if_pos k9]]at HG
     rw[k9]at r2
     clear k9 aEl aEm
     by_cases c0:0≤y.type
     case neg=>
      have c0':y.type<0:=by omega
      go_wp2_with fail
      go_ret
      exact⟨aU (dR.out (by rw[HG.out,decide_eq_false (show ¬(0≤y.type∧y.type<(ne:Int))by omega)];simp)).symm,HB1.out⟩
     have c0':¬y.type<0:=by omega
     by_cases c1:y.type<(ne:Int)
     case neg=>
      have c1':(ne:Int)≤y.type:=by omega
      go_wp2_with fail
      go_ret
      exact⟨aU (dR.out (by rw[HG.out,decide_eq_false (show ¬(0≤y.type∧y.type<(ne:Int))by omega)];simp)).symm,HB1.out⟩
     have c1':¬(ne:Int)≤y.type:=by omega
     rw[decide_eq_true (⟨c0,c1⟩:0≤y.type∧y.type<(ne:Int))]at HG
     go_wp2_with fail
     clear r2 r4 s0 s1
     go_loopw [82] (fun i wr=>∃ j:Nat,i=.int .i64 (j:Int)∧j≤k∧(∀ (q:Nat) (x:FD),q<j→fs[q]? = some x→¬x.name=y.name)∧Below U1.heap.size U1 wr) (fun i _=>k - (intOf i).toNat)
     case atStart=>exact⟨0,rfl,Nat.zero_le _,fun q x hq=>absurd hq (Nat.not_lt_zero _),Below.refl _ _⟩
     case round=>
      obtain⟨j,rfl,hj,hall,hbel⟩:=hrel
      have HA2:=aB hall
      have Mv:=aB (HB1.out.trans (hbel.mono HB1.out.size))
      have hjc:=(hbel.block _ (by omega)).trans Ub.out
      have Jo:=(hbel.block _ (by omega)).trans Uc.out
      have HJS:=aB ((hbel.block _ (by omega)).trans aEn.out)
      have HB3:=aB hbel
      have l1:=aA hjc 1 rfl
      have m1:=aA Jo 1 rfl
      have HJX:=aB Jo
      clear hall hbel hjc Jo
      have hj0:(0:Int)≤(j:Int):=by omega
      have hwj:=eE j (by omega)
      by_cases hjk:j<k
      ·obtain⟨x,hx⟩:∃ x,fs[j]? = some x:=⟨_,List.getElem?_eq_getElem (by have:=HN.out;omega)⟩
       obtain⟨g2,o2,c2,hsl,hg2,f0,f1,-,-,-⟩:=kR HH.out (W:=wr) (fun b hb=>Mv.out.block b hb) hx
       rw[HN.out]at hsl
       obtain⟨ha2,hc2⟩:=aJ hsl
       injection ha2 with ha2
       injection ha2 with ha2 hb2
       subst ha2 hb2
       have hj1:(j:Int)<(k:Int):=by omega
       have hj2:(j:Int)<(n:Int):=by omega
       have fE:Hid (x.name=y.name→y.name∈fI fs k):=fun h=>h▸lR (f:=FD.name) hjk hx
       have fS:Hid (¬x.name=y.name→∀ (q:Nat) (z:FD),q<j+1→fs[q]? = some z→¬z.name=y.name):=fun a=>jK HA2.out hx a
       have gR:Hid (∀ nq:Nat,Below U1.heap.size U1 (wr.drewN nq)):=fun nq=>HB3.out.trans ⟨rfl,rfl,rfl,Nat.le_refl _,fun _ _=>rfl⟩
       clear hsl hx hc2 f0
       by_cases t0:x.name=y.name
       ·have hm:=fE.out t0
        rw[t0]at f1
        clear t0 fE fS
        go_wp2_with fail
        go_quiet (fail)
        go_wp2_with fail
        go_ret
        exact⟨aU (dR.out (by rw[HG.out];simp[hm])).symm,HB1.out.trans ((gR.out _).mono HB1.out.size)⟩
       have t0':=jW t0
       have Ud:=beq_eq_false_iff_ne.2 t0
       have pG:=aB (fS.out t0)
       clear fE fS
       go_wp2_with fail
       go_quiet (fail)
       go_wp2_with fail
       go_roundw
       case rel=>exact⟨j+1,by go_num,by omega,pG.out,gR.out _⟩
       case measure=>simp[intOf];omega
      ·have Ue:¬(j:Int)<(k:Int):=by omega
       have hn1:y.name∉fI fs k:=lS (f:=FD.name) fun q x hq hx=>HA2.out q x (by omega) hx
       have jX:Hid (fF fs (kP ne nm fs) k=true):=by
        refine(?_:_=_)
        rw[HG.out,decide_eq_false hn1];rfl
       clear hn1 l1 m1
       go_wp2_with fail
       go_roundw
       case rel=>exact⟨k+1,by go_num,by omega,cP cW.out jX.out,Mv.out,HJS.out,HJX.out⟩
       case measure=>simp[intOf];omega
    by_cases k10:y.kind=10
    ·rw[show tT ne nm y.kind=(nm:Int)by unfold tT;rw[if_neg k9,if_pos k10]]at HG
     rw[k10]at r2
     clear k9 k10 aEl aEm
     by_cases c0:0≤y.type
     case neg=>
      have c0':y.type<0:=by omega
      go_wp2_with fail
      go_ret
      exact⟨aU (dR.out (by rw[HG.out,decide_eq_false (show ¬(0≤y.type∧y.type<(nm:Int))by omega)];simp)).symm,HB1.out⟩
     have c0':¬y.type<0:=by omega
     by_cases c1:y.type<(nm:Int)
     case neg=>
      have c1':(nm:Int)≤y.type:=by omega
      go_wp2_with fail
      go_ret
      exact⟨aU (dR.out (by rw[HG.out,decide_eq_false (show ¬(0≤y.type∧y.type<(nm:Int))by omega)];simp)).symm,HB1.out⟩
     have c1':¬(nm:Int)≤y.type:=by omega
     rw[decide_eq_true (⟨c0,c1⟩:0≤y.type∧y.type<(nm:Int))]at HG
     go_wp2_with fail
     clear r2 r4 s0 s1
     go_loopw [82] (fun i wr=>∃ j:Nat,i=.int .i64 (j:Int)∧j≤k∧(∀ (q:Nat) (x:FD),q<j→fs[q]? = some x→¬x.name=y.name)∧Below U1.heap.size U1 wr) (fun i _=>k - (intOf i).toNat)
     case atStart=>exact⟨0,rfl,Nat.zero_le _,fun q x hq=>absurd hq (Nat.not_lt_zero _),Below.refl _ _⟩
     case round=>
      obtain⟨j,rfl,hj,hall,hbel⟩:=hrel
      have HA2:=aB hall
      have Mv:=aB (HB1.out.trans (hbel.mono HB1.out.size))
      have hjc:=(hbel.block _ (by omega)).trans Ub.out
      have Jo:=(hbel.block _ (by omega)).trans Uc.out
      have HJS:=aB ((hbel.block _ (by omega)).trans aEn.out)
      have HB3:=aB hbel
      have l1:=aA hjc 1 rfl
      have m1:=aA Jo 1 rfl
      have HJX:=aB Jo
      clear hall hbel hjc Jo
      have hj0:(0:Int)≤(j:Int):=by omega
      have hwj:=eE j (by omega)
      by_cases hjk:j<k
      ·obtain⟨x,hx⟩:∃ x,fs[j]? = some x:=⟨_,List.getElem?_eq_getElem (by have:=HN.out;omega)⟩
       obtain⟨g2,o2,c2,hsl,hg2,f0,f1,-,-,-⟩:=kR HH.out (W:=wr) (fun b hb=>Mv.out.block b hb) hx
       rw[HN.out]at hsl
       obtain⟨ha2,hc2⟩:=aJ hsl
       injection ha2 with ha2
       injection ha2 with ha2 hb2
       subst ha2 hb2
       have hj1:(j:Int)<(k:Int):=by omega
       have hj2:(j:Int)<(n:Int):=by omega
       have fE:Hid (x.name=y.name→y.name∈fI fs k):=fun h=>h▸lR (f:=FD.name) hjk hx
       have fS:Hid (¬x.name=y.name→∀ (q:Nat) (z:FD),q<j+1→fs[q]? = some z→¬z.name=y.name):=fun a=>jK HA2.out hx a
       have gR:Hid (∀ nq:Nat,Below U1.heap.size U1 (wr.drewN nq)):=fun nq=>HB3.out.trans ⟨rfl,rfl,rfl,Nat.le_refl _,fun _ _=>rfl⟩
       clear hsl hx hc2 f0
       by_cases t0:x.name=y.name
       ·have hm:=fE.out t0
        rw[t0]at f1
        clear t0 fE fS
        go_wp2_with fail
        go_quiet (fail)
        go_wp2_with fail
        go_ret
        exact⟨aU (dR.out (by rw[HG.out];simp[hm])).symm,HB1.out.trans ((gR.out _).mono HB1.out.size)⟩
       have t0':=jW t0
       have Ud:=beq_eq_false_iff_ne.2 t0
       have pG:=aB (fS.out t0)
       clear fE fS
       go_wp2_with fail
       go_quiet (fail)
       go_wp2_with fail
       go_roundw
       case rel=>exact⟨j+1,by go_num,by omega,pG.out,gR.out _⟩
       case measure=>simp[intOf];omega
      ·have Ue:¬(j:Int)<(k:Int):=by omega
       have hn1:y.name∉fI fs k:=lS (f:=FD.name) fun q x hq hx=>HA2.out q x (by omega) hx
       have jX:Hid (fF fs (kP ne nm fs) k=true):=by
        refine(?_:_=_)
        rw[HG.out,decide_eq_false hn1];rfl
       clear hn1 l1 m1
       go_wp2_with fail
       go_roundw
       case rel=>exact⟨k+1,by go_num,by omega,cP cW.out jX.out,Mv.out,HJS.out,HJX.out⟩
       case measure=>simp[intOf];omega
    rw[show tT ne nm y.kind=1 by unfold tT;rw[if_neg k9,if_neg k10]]at HG
    have k9':=beq_eq_false_iff_ne.2 k9
    have bCy:=beq_eq_false_iff_ne.2 k10
    by_cases c0:0≤y.type
    case neg=>
     have c0':y.type<0:=by omega
     go_wp2_with fail
     go_ret
     exact⟨aU (dR.out (by rw[HG.out,decide_eq_false (show ¬(0≤y.type∧y.type<1)by omega)];simp)).symm,HB1.out⟩
    have c0':¬y.type<0:=by omega
    by_cases c1:y.type<1
    case neg=>
     have c1':1≤y.type:=by omega
     go_wp2_with fail
     go_ret
     exact⟨aU (dR.out (by rw[HG.out,decide_eq_false (show ¬(0≤y.type∧y.type<1)by omega)];simp)).symm,HB1.out⟩
    have c1':¬1≤y.type:=by omega
    rw[decide_eq_true (⟨c0,c1⟩:0≤y.type∧y.type<1)]at HG
    go_wp2_with fail
    clear r2 r4 s0 s1
    go_loopw [82] (fun i wr=>∃ j:Nat,i=.int .i64 (j:Int)∧j≤k∧(∀ (q:Nat) (x:FD),q<j→fs[q]? = some x→¬x.name=y.name)∧Below U1.heap.size U1 wr) (fun i _=>k - (intOf i).toNat)
    case atStart=>exact⟨0,rfl,Nat.zero_le _,fun q x hq=>absurd hq (Nat.not_lt_zero _),Below.refl _ _⟩
    case round=>
     obtain⟨j,rfl,hj,hall,hbel⟩:=hrel
     have HA2:=aB hall
     have Mv:=aB (HB1.out.trans (hbel.mono HB1.out.size))
     have hjc:=(hbel.block _ (by omega)).trans Ub.out
     have Jo:=(hbel.block _ (by omega)).trans Uc.out
     have HJS:=aB ((hbel.block _ (by omega)).trans aEn.out)
     have HB3:=aB hbel
     have l1:=aA hjc 1 rfl
     have m1:=aA Jo 1 rfl
     have HJX:=aB Jo
     clear hall hbel hjc Jo
     have hj0:(0:Int)≤(j:Int):=by omega
     have hwj:=eE j (by omega)
     by_cases hjk:j<k
     ·obtain⟨x,hx⟩:∃ x,fs[j]? = some x:=⟨_,List.getElem?_eq_getElem (by have:=HN.out;omega)⟩
      obtain⟨g2,o2,c2,hsl,hg2,f0,f1,-,-,-⟩:=kR HH.out (W:=wr) (fun b hb=>Mv.out.block b hb) hx
      rw[HN.out]at hsl
      obtain⟨ha2,hc2⟩:=aJ hsl
      injection ha2 with ha2
      injection ha2 with ha2 hb2
      subst ha2 hb2
      have hj1:(j:Int)<(k:Int):=by omega
      have hj2:(j:Int)<(n:Int):=by omega
      have fE:Hid (x.name=y.name→y.name∈fI fs k):=fun h=>h▸lR (f:=FD.name) hjk hx
      have fS:Hid (¬x.name=y.name→∀ (q:Nat) (z:FD),q<j+1→fs[q]? = some z→¬z.name=y.name):=fun a=>jK HA2.out hx a
      have gR:Hid (∀ nq:Nat,Below U1.heap.size U1 (wr.drewN nq)):=fun nq=>HB3.out.trans ⟨rfl,rfl,rfl,Nat.le_refl _,fun _ _=>rfl⟩
      clear hsl hx hc2 f0
      by_cases t0:x.name=y.name
      ·have hm:=fE.out t0
       rw[t0]at f1
       clear t0 fE fS
       go_wp2_with fail
       go_quiet (fail)
       go_wp2_with fail
       go_ret
       exact⟨aU (dR.out (by rw[HG.out];simp[hm])).symm,HB1.out.trans ((gR.out _).mono HB1.out.size)⟩
      have t0':=jW t0
      have Ud:=beq_eq_false_iff_ne.2 t0
      have pG:=aB (fS.out t0)
      clear fE fS
      go_wp2_with fail
      go_quiet (fail)
      go_wp2_with fail
      go_roundw
      case rel=>exact⟨j+1,by go_num,by omega,pG.out,gR.out _⟩
      case measure=>simp[intOf];omega
     ·have Ue:¬(j:Int)<(k:Int):=by omega
      have hn1:y.name∉fI fs k:=lS (f:=FD.name) fun q x hq hx=>HA2.out q x (by omega) hx
      have jX:Hid (fF fs (kP ne nm fs) k=true):=by
       refine(?_:_=_)
       rw[HG.out,decide_eq_false hn1];rfl
      clear hn1 l1 m1
      go_wp2_with fail
      go_roundw
      case rel=>exact⟨k+1,by go_num,by omega,cP cW.out jX.out,Mv.out,HJS.out,HJX.out⟩
      case measure=>simp[intOf];omega
  ·have hkn':¬(k:Int)<(n:Int):=by omega
   have HRR:Hid (R=true):=by
    refine(?_:_=_)
    have h:=cW.out
    have hke:k=n:=by omega
    rw[hke]at h
    rw[←qS.out,h,decide_eq_true h32];rfl
   go_wp2_with fail
   go_ret
   exact⟨aU HRR.out.symm,HB.out⟩
end Go.Proofs.YtpojeinddnjpfaaGreatDoor
