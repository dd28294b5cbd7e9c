/-
  Walks and plain words (DpP DpT).
-/
import Derived.Test.YtpojeinddnjpfaaGreatDoorM4
namespace Go.Proofs.YtpojeinddnjpfaaGreatDoor
set_option linter.unusedVariables false
open Go.ChangeShapes Go.WideShapes Go.ChangeAt Go.RowKit

theorem If {w:World} {B:Nat} {T:TypeId} {x:Value} (h:w.heap[B]? = some (.cells #[x] T (0,0))):w.cell? ⟨B,0,none⟩=some x∧w.frozen? ⟨B,0,none⟩=false:=by
 simp[World.cell?,World.frozen?,h]
theorem vX {w:World} {B:Nat} {T:TypeId} {x y:Value} (h:w.heap[B]? = some (.cells #[x,y] T (0,0))):w.cell? ⟨B,0,none⟩=some x∧w.frozen? ⟨B,0,none⟩=false∧w.cell? ⟨B,0+1,none⟩=some y∧w.frozen? ⟨B,0+1,none⟩=false:=by
 simp[World.cell?,World.frozen?,h]
set_option maxHeartbeats 8000000 in
set_option maxRecDepth 20000 in
theorem St {w0 wx:World} {R:Nat} {en:Int × Int} {q:Rd} {D:Nat} {T:TypeId} {cs:Array Value} (h:Lv w0 wx R en q D T cs) (he:q.e=0) (o:Nat) (ho:cs[o]? = some (.string ⟨#[]⟩)) :
  Calls Tryz.prog 195 #[.pointer (some ⟨R,0,none⟩),.pointer (some ⟨D,o,none⟩)] wx fun x w'=>∃ p:List UInt8,x=.returned (.bool (decide ((q.path en).2.e=0)))∧((q.path en).2.e=0→p=(q.path en).1)∧Lv w0 w' R en (q.path en).2 D T (cs.setIfInBounds o (.string (aC p))):=by
 have hsD:=h.size
 have hlD:=h.ltD
 have hnD:=h.new
 have hlt:=h.rd.lt
 have Ma:=mC R en q wx h.rd
 obtain⟨FP,hFP⟩:∃ FP,q.here en=FP:=⟨_,rfl⟩
 have HPA:Hid (q.path en=mR en FP (q.l.length+1) 1 ([]++q.aL) (if 1=9 then (q.name en).fail 8 FP else q.name en)):=by
  refine(?_:_=_);unfold Rd.path;rw[hFP,if_neg (by decide),List.nil_append]
 have Su:Hid ((q.name en).m≤q.l.length+1):=by
  refine(?_:(q.name en).m≤q.l.length+1)
  have:=Rd.gX en q
  have:=Rd.Ar q
  omega
 rw[hFP]at Ma
 have hcs:cs=cs.setIfInBounds o (.string (aC [])):=by
  apply Array.ext_getElem?
  intro i
  rw[Array.getElem?_setIfInBounds]
  by_cases hio:o=i
  ·subst hio
   have hlt:=(Array.getElem?_eq_some_iff.1 ho).1
   rw[if_pos rfl,if_pos hlt,ho];rfl
  ·rw[if_neg hio]
 have HL0:=aB h
 have hoz:o<cs.size:=(Array.getElem?_eq_some_iff.1 ho).1
 have HCS:=aB hcs
 obtain⟨PA,hPA⟩:∃ PA,q.path en=PA:=⟨_,rfl⟩
 rw[hPA]at HPA ⊢
 clear hFP hPA h hcs ho
 go_enter Tryz.func195,Tryz.ntmps195
 go_wp2_with fail
 refine Ma.mono ?_
 rintro e w1 ⟨rfl,hb1⟩
 have hz1:=hb1.size
 have HL1:=aB (((HL0.out.below hb1).alloc (.cells #[.int .i64 FP.1,.int .i64 FP.2] 31)).alloc (.cells #[.string ⟨#[]⟩] 9) |>.alloc (.cells #[.int .i64 0,.int .i64 0] 31))
 have HF1:Hid ((((w1.alloc (.cells #[.int .i64 FP.1,.int .i64 FP.2] 31)).alloc (.cells #[.string ⟨#[]⟩] 9)).alloc (.cells #[.int .i64 0,.int .i64 0] 31)).heap[w1.heap.size]? = some (.cells #[.int .i64 FP.1,.int .i64 FP.2] 31 (0,0))):=by
  refine(?_:_=_)
  rw[aD _ _ _ (by simp;omega),aD _ _ _ (by simp),alloc_heap_new]
 have uY:Hid ((((w1.alloc (.cells #[.int .i64 FP.1,.int .i64 FP.2] 31)).alloc (.cells #[.string ⟨#[]⟩] 9)).alloc (.cells #[.int .i64 0,.int .i64 0] 31)).heap[w1.heap.size+1]? = some (.cells #[.string ⟨#[]⟩] 9 (0,0))):=by
  refine(?_:_=_)
  rw[aD _ _ _ (by simp),show w1.heap.size+1=(w1.alloc (.cells #[.int .i64 FP.1,.int .i64 FP.2] 31)).heap.size by simp,alloc_heap_new]
 have HA1:Hid ((((w1.alloc (.cells #[.int .i64 FP.1,.int .i64 FP.2] 31)).alloc (.cells #[.string ⟨#[]⟩] 9)).alloc (.cells #[.int .i64 0,.int .i64 0] 31)).heap[w1.heap.size+2]? = some (.cells #[.int .i64 0,.int .i64 0] 31 (0,0))):=by
  refine(?_:_=_)
  rw[show w1.heap.size+2=((w1.alloc (.cells #[.int .i64 FP.1,.int .i64 FP.2] 31)).alloc (.cells #[.string ⟨#[]⟩] 9)).heap.size by simp,alloc_heap_new]
 clear Ma hb1
 go_wp2_with fail
 generalize ((w1.alloc (.cells #[.int .i64 FP.1,.int .i64 FP.2] 31)).alloc (.cells #[.string ⟨#[]⟩] 9)).alloc (.cells #[.int .i64 0,.int .i64 0] 31)=V at *
 generalize w1.heap.size=F at *
 go_loopw [8] (fun n wr=>∃ (k f:Nat) (p:List UInt8) (qq:Rd) (xs xa xb:Value),n=.int .i64 (k:Int)∧1≤k∧k≤9∧p.length≤20001*k∧qq.e=0∧Lv w0 wr R en qq D T (cs.setIfInBounds o (.string (aC p)))∧
  wr.heap[F]? = some (.cells #[.int .i64 FP.1,.int .i64 FP.2] 31 (0,0))∧wr.heap[F+1]? = some (.cells #[xs] 9 (0,0))∧wr.heap[F+2]? = some (.cells #[xa,xb] 31 (0,0))∧
  (qq.name en).m≤f∧PA=mR en FP f k (p++qq.aL) (if k=9 then (qq.name en).fail 8 FP else qq.name en)) (fun n _=>10 - (intOf n).toNat)
 case atStart=>exact⟨1,q.l.length+1,[],q,_,_,_,rfl,by omega,by omega,by simp,he,by rw[←HCS.out];exact HL1.out,HF1.out,uY.out,HA1.out,Su.out,HPA.out⟩
 case round=>
  obtain⟨k,f,p,qq,xs,xa,xb,rfl,hk1,hk9,hpl,hqe,hL,hF,hN,hA,hmf,hpa⟩:=hrel
  have HPQ:=aB hpa
  have HL:=aB hL
  have HF:=aB hF
  have hFs:F<wr.heap.size:=(Array.getElem?_eq_some_iff.1 hF).1
  have hAs:F+2<wr.heap.size:=(Array.getElem?_eq_some_iff.1 hA).1
  have hNa:=yV R en qq wr (F+1) 0 (F+2) 0 xs xa xb hqe hL.rd (by omega) (by omega) (If hN).1 (vX hA).1 (vX hA).2.2.1 (If hN).2 (vX hA).2.1 (vX hA).2.2.2 (.inl (by omega))
  have hNL:=hL.rd.yW
  clear hpa
  by_cases hi:qq.isName=true
  ·rw[if_pos hi,hi]at hNa
   have nM:(qq.name en).e=0:=by have:=Rd.sI en hqe;rw[hi]at this;simpa using this
   have HSL:Hid (Lv w0 (vW wr (F+1) 0 (F+2) 0 (.string (aC qq.aL)) (qq.nameP en)) R en qq D T (cs.setIfInBounds o (.string (aC p)))):=
    ((HL.out.far (F+1) 0 (by omega) (by omega) _).far (F+2) 0 (by omega) (by omega) _).far (F+2) (0+1) (by omega) (by omega) _
   have HSF:Hid ((vW wr (F+1) 0 (F+2) 0 (.string (aC qq.aL)) (qq.nameP en)).heap[F]? = some (.cells #[.int .i64 FP.1,.int .i64 FP.2] 31 (0,0))):=by
    refine(?_:_=_)
    unfold vW
    rw[Below.heap_setCell _ _ _ _ (by show F≠F+2;omega),Below.heap_setCell _ _ _ _ (by show F≠F+2;omega),Below.heap_setCell _ _ _ _ (by show F≠F+1;omega)]
    exact hF
   have Yb:Hid ((vW wr (F+1) 0 (F+2) 0 (.string (aC qq.aL)) (qq.nameP en)).heap[F+1]? = some (.cells #[.string (aC qq.aL)] 9 (0,0))):=by
    refine(?_:_=_)
    unfold vW
    rw[Below.heap_setCell _ _ _ _ (by show F+1≠F+2;omega),Below.heap_setCell _ _ _ _ (by show F+1≠F+2;omega)]
    exact aG hN _
   have HSA:Hid ((vW wr (F+1) 0 (F+2) 0 (.string (aC qq.aL)) (qq.nameP en)).heap[F+2]? = some (.cells #[.int .i64 (qq.nameP en).1,.int .i64 (qq.nameP en).2] 31 (0,0))):=by
    refine(?_:_=_)
    unfold vW
    have a1:(wr.setCell ⟨F+1,0,none⟩ (.string (aC qq.aL))).heap[F+2]? = some (.cells #[xa,xb] 31 (0,0)):=by
     rw[Below.heap_setCell _ _ _ _ (by show F+2≠F+1;omega)];exact hA
    exact aG (aG a1 _) _
   have hSz:(vW wr (F+1) 0 (F+2) 0 (.string (aC qq.aL)) (qq.nameP en)).heap.size=wr.heap.size:=by simp[vW,World.setCell]
   clear hi hL hF hN hA HF HL
   go_wp2_with fail
   refine hNa.mono ?_
   rintro e w5 ⟨rfl,iT,hg5⟩
   have qQ:=aB (HSL.out.step iT hg5)
   have HF5:=aB (mS HSF.out hg5 (by omega))
   have HN5:=aB (mS Yb.out hg5 (by omega))
   have HA5:=aB (mS HSA.out hg5 (by omega))
   have dF:=hg5.size
   rw[hSz]at dF
   clear hNa iT hg5 HSL HSF Yb HSA hSz
   by_cases h9:k=9
   ·subst h9
    rw[if_pos rfl]at HPQ
    have hFA:=sM R en (qq.name en) 8 FP.1 FP.2 w5 nM qQ.out.rd
    have he3:=Rd.Ib (qq.name en) 8 FP (by decide)
    have hPQ:=HPQ.out
    rw[oP en _ _ _ _ _ (Rd.Ap he3 _)]at hPQ
    have HP2:Hid (PA.2=(qq.name en).fail 8 FP):=by refine(?_:_=_);rw[hPQ]
    have hdec:decide (PA.2.e=0)=false:=by rw[HP2.out];exact decide_eq_false he3
    have HD:=aB (of_decide_eq_false hdec)
    have lI:=aB hdec
    obtain⟨y0,_,y1,_⟩:=vX HF5.out
    clear HPQ hPQ hdec
    go_wp2_with fail
    refine hFA.mono ?_
    rintro e w6 ⟨rfl,hr6,hg6⟩
    go_wp2_with fail
    go_ret
    refine⟨p,aU lI.out.symm,fun hx=>absurd hx HD.out,?_⟩
    rw[HP2.out]
    exact qQ.out.step hr6 hg6
   ·rw[if_neg h9]at HPQ
    have hk8:¬(8:Int)<(k:Int):=by omega
    obtain⟨n0,_⟩:=If HN5.out
    obtain⟨d0,fd0⟩:=qQ.out.cell o
    have d0':w5.cell? ⟨D,o,none⟩=some (.string (aC p)):=by rw[d0];simp[hoz]
    have sp:=As p
    have sn:=As qq.aL
    have ha1:∀ W:World,(Op.stringOp .add (aC p) (aC qq.aL)).run Tryz.prog W=.ok (.string (aC p++aC qq.aL)) W:=fun W=>run_string_add_sum W _ _ (by omega)
    rw[←Lx]at ha1
    have aQv:(p++qq.aL).length≤20001*k+20000:=by rw[List.length_append];omega
    have Ro:Hid (Lv w0 (w5.setCell ⟨D,o,none⟩ (.string (aC (p++qq.aL)))) R en (qq.name en) D T (cs.setIfInBounds o (.string (aC (p++qq.aL))))):=by
     have:=qQ.out.set o (.string (aC (p++qq.aL)))
     rw[Array.setIfInBounds_setIfInBounds]at this
     exact this
    have HF6:Hid ((w5.setCell ⟨D,o,none⟩ (.string (aC (p++qq.aL)))).heap[F]? = some (.cells #[.int .i64 FP.1,.int .i64 FP.2] 31 (0,0))):=by
     refine(?_:_=_);rw[Below.heap_setCell _ _ _ _ (by show F≠D;omega)];exact HF5.out
    have HN6:Hid ((w5.setCell ⟨D,o,none⟩ (.string (aC (p++qq.aL)))).heap[F+1]? = some (.cells #[.string (aC qq.aL)] 9 (0,0))):=by
     refine(?_:_=_);rw[Below.heap_setCell _ _ _ _ (by show F+1≠D;omega)];exact HN5.out
    have HA6:Hid ((w5.setCell ⟨D,o,none⟩ (.string (aC (p++qq.aL)))).heap[F+2]? = some (.cells #[.int .i64 (qq.nameP en).1,.int .i64 (qq.nameP en).2] 31 (0,0))):=by
     refine(?_:_=_);rw[Below.heap_setCell _ _ _ _ (by show F+2≠D;omega)];exact HA5.out
    clear d0 sp sn qQ HF5 HN5 HA5 hNL hpl hk1
    generalize p++qq.aL=p1 at *
    generalize qq.name en=q1 at *
    go_upto_region 9 with fail
    go_cut [] (fun wz=>wz=w5.setCell ⟨D,o,none⟩ (.string (aC p1))∨wz=(w5.setCell ⟨D,o,none⟩ (.string (aC p1))).drew)
    case first=>
     go_region
     all_goals
      go_wp2_with fail
      go_meet
      first | exact .inl rfl | exact .inr rfl
    case rest=>
     have HL7:Hid (Lv w0 wc R en q1 D T (cs.setIfInBounds o (.string (aC p1)))):=by
      refine(?_:Lv _ _ _ _ _ _ _ _)
      rcases hcut with hc | hc
      ·rw[hc];exact Ro.out
      ·rw[hc];exact Ro.out.drew
     have hh:wc.heap=(w5.setCell ⟨D,o,none⟩ (.string (aC p1))).heap:=by
      rcases hcut with hc | hc
      ·rw[hc]
      ·rw[hc];rfl
     have HF7:Hid (wc.heap[F]? = some (.cells #[.int .i64 FP.1,.int .i64 FP.2] 31 (0,0))):=by refine(?_:_=_);rw[hh];exact HF6.out
     have HN7:Hid (wc.heap[F+1]? = some (.cells #[.string (aC qq.aL)] 9 (0,0))):=by refine(?_:_=_);rw[hh];exact HN6.out
     have HA7:Hid (wc.heap[F+2]? = some (.cells #[.int .i64 (qq.nameP en).1,.int .i64 (qq.nameP en).2] 31 (0,0))):=by refine(?_:_=_);rw[hh];exact HA6.out
     clear hcut hh Ro HF6 HN6 HA6 d0' fd0 n0
     generalize wc=V1 at *
     have nN:=jI R en q1 ⟨#[46]⟩ V1 nM (by decide) HL7.out.rd
     have e46:(ByteArray.mk #[46]).data.toList=[46]:=rfl
     rw[e46]at nN
     have bCd:F+2<V1.heap.size:=(Array.getElem?_eq_some_iff.1 HA7.out).1
     by_cases hi2:q1.is [46]=true
     ·have hsk:q1.skip [46]=q1.tail:=by unfold Rd.skip;rw[if_pos hi2]
      have htk:q1.take en [46]=q1.tail:=by unfold Rd.take;rw[if_pos hi2]
      rw[hsk,hi2]at nN
      have hmp:=Rd.m_pos hi2
      have m1:=Rd.cL en q1 [46]
      have m2:=Rd.gX en (q1.take en [46])
      obtain⟨f,rfl⟩:∃ f',f=f'+1:=⟨f - 1,by omega⟩
      have fS:Hid (PA=mR en FP f (k+1) (p1++[46]++q1.tail.aL) (if k+1=9 then (q1.tail.name en).fail 8 FP else q1.tail.name en)):=by
       refine(?_:_=_)
       rw[HPQ.out,Sm en FP f k p1 q1 hi2,htk]
       by_cases h8:k=8
       ·rw[if_pos h8,if_pos (by omega)]
       ·rw[if_neg h8,if_neg (by omega)]
      have hte:q1.tail.e=0:=nM
      rw[htk]at m1 m2
      have s46:(ByteArray.mk #[46]).size=1:=rfl
      have sp:=As p1
      have ha2:∀ W:World,(Op.stringOp .add (aC p1) ⟨#[46]⟩).run Tryz.prog W=.ok (.string (aC p1++⟨#[46]⟩)) W:=fun W=>run_string_add_sum W _ _ (by rw[s46];omega)
      have Dw:aC p1++⟨#[46]⟩=aC (p1++[46]):=by rw[Lx];rfl
      rw[Dw]at ha2
      have aQx:(p1++[46]).length≤20001*(k+1):=by rw[List.length_append];show p1.length+1≤_;omega
      have w46:=eE k (by omega)
      clear hi2 hsk htk HPQ ha1 Dw sp s46 aQv
      generalize q1.tail=q3 at *
      generalize p1++[46]=p3 at *
      go_wp2_with fail
      refine nN.mono ?_
      rintro e w8 ⟨rfl,hr8,hg8⟩
      have HL8:=aB (HL7.out.step hr8 hg8)
      have HF8:=aB (mS HF7.out hg8 (by omega))
      have HN8:=aB (mS HN7.out hg8 (by omega))
      have HA8:=aB (mS HA7.out hg8 (by omega))
      obtain⟨d0,fd0⟩:=HL8.out.cell o
      have d0':w8.cell? ⟨D,o,none⟩=some (.string (aC p1)):=by rw[d0];simp[hoz]
      clear d0 nN hr8 hg8 HL7 HF7 HN7 HA7
      have HL9:Hid (Lv w0 (w8.setCell ⟨D,o,none⟩ (.string (aC p3))) R en q3 D T (cs.setIfInBounds o (.string (aC p3)))):=by
       have:=HL8.out.set o (.string (aC p3))
       rw[Array.setIfInBounds_setIfInBounds]at this
       exact this
      go_wp2_with fail
      go_roundw
      case rel=>
       refine⟨k+1,f,p3,q3,.string (aC qq.aL),.int .i64 (qq.nameP en).1,.int .i64 (qq.nameP en).2,by go_num,by omega,by omega,aQx,hte,HL9.out,?_,?_,?_,by omega,fS.out⟩
       ·rw[Below.heap_setCell _ _ _ _ (by show F≠D;omega)];exact HF8.out
       ·rw[Below.heap_setCell _ _ _ _ (by show F+1≠D;omega)];exact HN8.out
       ·rw[Below.heap_setCell _ _ _ _ (by show F+2≠D;omega)];exact HA8.out
      case measure=>simp[intOf];omega
     ·have hi3:q1.is [46]=false:=by simpa using hi2
      have hsk:q1.skip [46]=q1:=by unfold Rd.skip;rw[if_neg hi2]
      rw[hsk,hi3]at nN
      have hPQ:=HPQ.out
      rw[oP en _ _ _ _ _ hi3]at hPQ
      have HP1:Hid (PA.1=p1):=by refine(?_:_=_);rw[hPQ]
      have HP2:Hid (PA.2=q1):=by refine(?_:_=_);rw[hPQ]
      have lI:Hid (decide (PA.2.e=0)=true):=by refine(?_:_=_);rw[HP2.out];exact decide_eq_true nM
      clear hi2 hi3 hsk HPQ hPQ ha1
      go_wp2_with fail
      refine nN.mono ?_
      rintro e w8 ⟨rfl,hr8,hg8⟩
      go_wp2_with fail
      go_ret
      refine⟨p1,aU lI.out.symm,fun _=>HP1.out.symm,?_⟩
      rw[HP2.out]
      exact HL7.out.step hr8 hg8
  ·have hi':qq.isName=false:=by simpa using hi
   rw[if_neg hi,hi']at hNa
   have hne:(qq.name en).e≠0:=by
    have:=Rd.sI en hqe
    rw[hi']at this
    exact of_decide_eq_false this
   have hPQ:=HPQ.out
   have hff:(if k=9 then (qq.name en).fail 8 FP else qq.name en)=qq.name en:=by
    by_cases h9:k=9
    ·rw[if_pos h9,Rd.oO hne]
    ·rw[if_neg h9]
   rw[hff,oP en _ _ _ _ _ (Rd.Ap hne _)]at hPQ
   have HP2:Hid (PA.2=qq.name en):=by refine(?_:_=_);rw[hPQ]
   have lI:Hid (decide (PA.2.e=0)=false):=by refine(?_:_=_);rw[HP2.out];exact decide_eq_false hne
   clear hi hi' HPQ hPQ hff hL hF hN hA HF hNL
   go_wp2_with fail
   refine hNa.mono ?_
   rintro e w5 ⟨rfl,iT,hg5⟩
   go_wp2_with fail
   go_ret
   refine⟨p,aU lI.out.symm,fun hx=>absurd hx (of_decide_eq_false lI.out),?_⟩
   rw[HP2.out]
   exact HL.out.step iT hg5
theorem Rd.Od {r:Rd} (he:r.e=0):r.kW=decide (0<bP r.text):=by
 unfold Rd.kW Rd.text
 rw[he]
 cases r.l with
 | nil=>rfl
 | cons y l=>simp
theorem Sv (t:List UInt8) (h:0<bP t):t=[105,110,116,54,52]∨t=[117,105,110,116,54,52]∨t=[115,105,110,116,54,52]∨t=[98,111,111,108]∨t=[115,116,114,105,110,103]∨t=[98,121,116,101,115]∨t=[102,105,120,101,100,51,50]∨t=[102,105,120,101,100,54,52]:=by
 by_cases h0:(t == [105,110,116,54,52])=true
 ·have:=eq_of_beq h0;simp[this]
 by_cases h1:(t == [117,105,110,116,54,52])=true
 ·have:=eq_of_beq h1;simp[this]
 by_cases h2:(t == [115,105,110,116,54,52])=true
 ·have:=eq_of_beq h2;simp[this]
 by_cases h3:(t == [98,111,111,108])=true
 ·have:=eq_of_beq h3;simp[this]
 by_cases h4:(t == [115,116,114,105,110,103])=true
 ·have:=eq_of_beq h4;simp[this]
 by_cases h5:(t == [98,121,116,101,115])=true
 ·have:=eq_of_beq h5;simp[this]
 by_cases h6:(t == [102,105,120,101,100,51,50])=true
 ·have:=eq_of_beq h6;simp[this]
 by_cases h7:(t == [102,105,120,101,100,54,52])=true
 ·have:=eq_of_beq h7;simp[this]
 exfalso
 unfold bP at h
 rw[if_neg h0,if_neg h1,if_neg h2,if_neg h3,if_neg h4,if_neg h5,if_neg h6,if_neg h7]at h
 exact absurd h (by decide)
theorem Zd (t:List UInt8) (h:¬0<bP t):(t == [105,110,116,54,52])=false∧(t == [117,105,110,116,54,52])=false∧(t == [115,105,110,116,54,52])=false∧(t == [98,111,111,108])=false∧(t == [115,116,114,105,110,103])=false∧(t == [98,121,116,101,115])=false∧(t == [102,105,120,101,100,51,50])=false∧(t == [102,105,120,101,100,54,52])=false:=by
 refine⟨?_,?_,?_,?_,?_,?_,?_,?_⟩
 all_goals
  apply Bool.eq_false_iff.2
  intro e
  have e:=eq_of_beq e
  subst e
  exact h (by decide)
theorem Sw {cs:Array Value} {o:Nat} {x:Value} (h:cs[o]? = some x):cs.setIfInBounds o x=cs:=by
 apply Array.ext_getElem?
 intro i
 rw[Array.getElem?_setIfInBounds]
 by_cases hio:o=i
 ·subst hio
  have hlt:=(Array.getElem?_eq_some_iff.1 h).1
  rw[if_pos rfl,if_pos hlt,h]
 ·rw[if_neg hio]
section
variable {w0 wx:World} {R:Nat} {en:Int × Int} {q:Rd} {D:Nat} {T:TypeId} {cs:Array Value}
set_option maxHeartbeats 8000000 in
set_option maxRecDepth 20000 in
theorem Dx (h:Lv w0 wx R en q D T cs) (he:q.e=0) (o:Nat) (ho:cs[o]? = some (.string ⟨#[]⟩)) :
  Calls Tryz.prog 215 #[.pointer (some ⟨R,0,none⟩),.pointer (some ⟨D,o,none⟩)] wx fun x w'=>∃ p:List UInt8,x=.returned (.bool (decide ((q.typ en).2.e=0)))∧((q.typ en).2.e=0→p=(q.typ en).1)∧Lv w0 w' R en (q.typ en).2 D T (cs.setIfInBounds o (.string (aC p))):=by
 have hTx:=jH R en q wx h.rd
 have hst:=Rd.Od he
 by_cases hi:q.kW=true
 ·have ht1:q.typ en=(q.text,q.tail):=by unfold Rd.typ;rw[if_pos hi]
  have htl:q.tail.e=0:=he
  have hdd:decide (q.tail.e=0)=true:=decide_eq_true htl
  rw[ht1]
  simp only
  rw[hdd]
  rw[hi]at hst
  obtain⟨d0,fd0⟩:=h.cell o
  rw[ho]at d0
  have HS:=aB (h.set o (.string (aC q.text)))
  have HIS:Hid (q.is q.text=true∧q.take en q.text=q.tail):=by
   refine(?_:_∧_)
   obtain⟨y,l,hl,_,_⟩:=Rd.Nw hi
   have h1:q.is q.text=true:=by unfold Rd.is Rd.text;rw[hl,he];simp
   exact⟨h1,by unfold Rd.take;rw[if_pos h1]⟩
  have hgt:0<bP q.text:=of_decide_eq_true hst.symm
  clear hst hi ht1 h hdd ho
  rcases Sv q.text hgt with ht | ht | ht | ht | ht | ht | ht | ht
  ·have b0:((aC q.text).toList == [105,110,116,54,52])=true:=by rw[aH,ht];rfl
   have hW:=fun W hW=>dY (w0:=w0) (R:=R) (en:=en) (q:=q) (D:=D) (T:=T) (cs:=cs.setIfInBounds o (.string (aC q.text))) (wx:=W) hW he (aC q.text) (by show q.text≠[];rw[ht];decide)
   have eW:(aC q.text).data.toList=q.text:=rfl
   rw[eW,HIS.out.1,HIS.out.2]at hW
   clear ht hgt HIS eW
   generalize q.text=tx at *
   go_enter Tryz.func215,Tryz.ntmps215
   go_wp2_with fail
   refine hTx.mono ?_
   rintro e w9 ⟨rfl,h9⟩
   have h9:=h9.symm
   subst h9
   go_wp2_with fail
   refine(hW _ HS.out).mono ?_
   rintro e w2 ⟨rfl,h2⟩
   go_wp2_with fail
   go_ret
   exact⟨tx,rfl,fun _=>rfl,h2⟩
  ·have b0:((aC q.text).toList == [105,110,116,54,52])=false:=by rw[aH,ht];rfl
   have b1:((aC q.text).toList == [117,105,110,116,54,52])=true:=by rw[aH,ht];rfl
   have hW:=fun W hW=>dY (w0:=w0) (R:=R) (en:=en) (q:=q) (D:=D) (T:=T) (cs:=cs.setIfInBounds o (.string (aC q.text))) (wx:=W) hW he (aC q.text) (by show q.text≠[];rw[ht];decide)
   have eW:(aC q.text).data.toList=q.text:=rfl
   rw[eW,HIS.out.1,HIS.out.2]at hW
   clear ht hgt HIS eW
   generalize q.text=tx at *
   go_enter Tryz.func215,Tryz.ntmps215
   go_wp2_with fail
   refine hTx.mono ?_
   rintro e w9 ⟨rfl,h9⟩
   have h9:=h9.symm
   subst h9
   go_wp2_with fail
   refine(hW _ HS.out).mono ?_
   rintro e w2 ⟨rfl,h2⟩
   go_wp2_with fail
   go_ret
   exact⟨tx,rfl,fun _=>rfl,h2⟩
  ·have b0:((aC q.text).toList == [105,110,116,54,52])=false:=by rw[aH,ht];rfl
   have b1:((aC q.text).toList == [117,105,110,116,54,52])=false:=by rw[aH,ht];rfl
   have b2:((aC q.text).toList == [115,105,110,116,54,52])=true:=by rw[aH,ht];rfl
   have hW:=fun W hW=>dY (w0:=w0) (R:=R) (en:=en) (q:=q) (D:=D) (T:=T) (cs:=cs.setIfInBounds o (.string (aC q.text))) (wx:=W) hW he (aC q.text) (by show q.text≠[];rw[ht];decide)
   have eW:(aC q.text).data.toList=q.text:=rfl
   rw[eW,HIS.out.1,HIS.out.2]at hW
   clear ht hgt HIS eW
   generalize q.text=tx at *
   go_enter Tryz.func215,Tryz.ntmps215
   go_wp2_with fail
   refine hTx.mono ?_
   rintro e w9 ⟨rfl,h9⟩
   have h9:=h9.symm
   subst h9
   go_wp2_with fail
   refine(hW _ HS.out).mono ?_
   rintro e w2 ⟨rfl,h2⟩
   go_wp2_with fail
   go_ret
   exact⟨tx,rfl,fun _=>rfl,h2⟩
  ·have b0:((aC q.text).toList == [105,110,116,54,52])=false:=by rw[aH,ht];rfl
   have b1:((aC q.text).toList == [117,105,110,116,54,52])=false:=by rw[aH,ht];rfl
   have b2:((aC q.text).toList == [115,105,110,116,54,52])=false:=by rw[aH,ht];rfl
   have b3:((aC q.text).toList == [98,111,111,108])=true:=by rw[aH,ht];rfl
   have hW:=fun W hW=>dY (w0:=w0) (R:=R) (en:=en) (q:=q) (D:=D) (T:=T) (cs:=cs.setIfInBounds o (.string (aC q.text))) (wx:=W) hW he (aC q.text) (by show q.text≠[];rw[ht];decide)
   have eW:(aC q.text).data.toList=q.text:=rfl
   rw[eW,HIS.out.1,HIS.out.2]at hW
   clear ht hgt HIS eW
   generalize q.text=tx at *
   go_enter Tryz.func215,Tryz.ntmps215
   go_wp2_with fail
   refine hTx.mono ?_
   rintro e w9 ⟨rfl,h9⟩
   have h9:=h9.symm
   subst h9
   go_wp2_with fail
   refine(hW _ HS.out).mono ?_
   rintro e w2 ⟨rfl,h2⟩
   go_wp2_with fail
   go_ret
   exact⟨tx,rfl,fun _=>rfl,h2⟩
  ·have b0:((aC q.text).toList == [105,110,116,54,52])=false:=by rw[aH,ht];rfl
   have b1:((aC q.text).toList == [117,105,110,116,54,52])=false:=by rw[aH,ht];rfl
   have b2:((aC q.text).toList == [115,105,110,116,54,52])=false:=by rw[aH,ht];rfl
   have b3:((aC q.text).toList == [98,111,111,108])=false:=by rw[aH,ht];rfl
   have b4:((aC q.text).toList == [115,116,114,105,110,103])=true:=by rw[aH,ht];rfl
   have hW:=fun W hW=>dY (w0:=w0) (R:=R) (en:=en) (q:=q) (D:=D) (T:=T) (cs:=cs.setIfInBounds o (.string (aC q.text))) (wx:=W) hW he (aC q.text) (by show q.text≠[];rw[ht];decide)
   have eW:(aC q.text).data.toList=q.text:=rfl
   rw[eW,HIS.out.1,HIS.out.2]at hW
   clear ht hgt HIS eW
   generalize q.text=tx at *
   go_enter Tryz.func215,Tryz.ntmps215
   go_wp2_with fail
   refine hTx.mono ?_
   rintro e w9 ⟨rfl,h9⟩
   have h9:=h9.symm
   subst h9
   go_wp2_with fail
   refine(hW _ HS.out).mono ?_
   rintro e w2 ⟨rfl,h2⟩
   go_wp2_with fail
   go_ret
   exact⟨tx,rfl,fun _=>rfl,h2⟩
  ·have b0:((aC q.text).toList == [105,110,116,54,52])=false:=by rw[aH,ht];rfl
   have b1:((aC q.text).toList == [117,105,110,116,54,52])=false:=by rw[aH,ht];rfl
   have b2:((aC q.text).toList == [115,105,110,116,54,52])=false:=by rw[aH,ht];rfl
   have b3:((aC q.text).toList == [98,111,111,108])=false:=by rw[aH,ht];rfl
   have b4:((aC q.text).toList == [115,116,114,105,110,103])=false:=by rw[aH,ht];rfl
   have b5:((aC q.text).toList == [98,121,116,101,115])=true:=by rw[aH,ht];rfl
   have hW:=fun W hW=>dY (w0:=w0) (R:=R) (en:=en) (q:=q) (D:=D) (T:=T) (cs:=cs.setIfInBounds o (.string (aC q.text))) (wx:=W) hW he (aC q.text) (by show q.text≠[];rw[ht];decide)
   have eW:(aC q.text).data.toList=q.text:=rfl
   rw[eW,HIS.out.1,HIS.out.2]at hW
   clear ht hgt HIS eW
   generalize q.text=tx at *
   go_enter Tryz.func215,Tryz.ntmps215
   go_wp2_with fail
   refine hTx.mono ?_
   rintro e w9 ⟨rfl,h9⟩
   have h9:=h9.symm
   subst h9
   go_wp2_with fail
   refine(hW _ HS.out).mono ?_
   rintro e w2 ⟨rfl,h2⟩
   go_wp2_with fail
   go_ret
   exact⟨tx,rfl,fun _=>rfl,h2⟩
  ·have b0:((aC q.text).toList == [105,110,116,54,52])=false:=by rw[aH,ht];rfl
   have b1:((aC q.text).toList == [117,105,110,116,54,52])=false:=by rw[aH,ht];rfl
   have b2:((aC q.text).toList == [115,105,110,116,54,52])=false:=by rw[aH,ht];rfl
   have b3:((aC q.text).toList == [98,111,111,108])=false:=by rw[aH,ht];rfl
   have b4:((aC q.text).toList == [115,116,114,105,110,103])=false:=by rw[aH,ht];rfl
   have b5:((aC q.text).toList == [98,121,116,101,115])=false:=by rw[aH,ht];rfl
   have b6:((aC q.text).toList == [102,105,120,101,100,51,50])=true:=by rw[aH,ht];rfl
   have hW:=fun W hW=>dY (w0:=w0) (R:=R) (en:=en) (q:=q) (D:=D) (T:=T) (cs:=cs.setIfInBounds o (.string (aC q.text))) (wx:=W) hW he (aC q.text) (by show q.text≠[];rw[ht];decide)
   have eW:(aC q.text).data.toList=q.text:=rfl
   rw[eW,HIS.out.1,HIS.out.2]at hW
   clear ht hgt HIS eW
   generalize q.text=tx at *
   go_enter Tryz.func215,Tryz.ntmps215
   go_wp2_with fail
   refine hTx.mono ?_
   rintro e w9 ⟨rfl,h9⟩
   have h9:=h9.symm
   subst h9
   go_wp2_with fail
   refine(hW _ HS.out).mono ?_
   rintro e w2 ⟨rfl,h2⟩
   go_wp2_with fail
   go_ret
   exact⟨tx,rfl,fun _=>rfl,h2⟩
  ·have b0:((aC q.text).toList == [105,110,116,54,52])=false:=by rw[aH,ht];rfl
   have b1:((aC q.text).toList == [117,105,110,116,54,52])=false:=by rw[aH,ht];rfl
   have b2:((aC q.text).toList == [115,105,110,116,54,52])=false:=by rw[aH,ht];rfl
   have b3:((aC q.text).toList == [98,111,111,108])=false:=by rw[aH,ht];rfl
   have b4:((aC q.text).toList == [115,116,114,105,110,103])=false:=by rw[aH,ht];rfl
   have b5:((aC q.text).toList == [98,121,116,101,115])=false:=by rw[aH,ht];rfl
   have b6:((aC q.text).toList == [102,105,120,101,100,51,50])=false:=by rw[aH,ht];rfl
   have b7:((aC q.text).toList == [102,105,120,101,100,54,52])=true:=by rw[aH,ht];rfl
   have hW:=fun W hW=>dY (w0:=w0) (R:=R) (en:=en) (q:=q) (D:=D) (T:=T) (cs:=cs.setIfInBounds o (.string (aC q.text))) (wx:=W) hW he (aC q.text) (by show q.text≠[];rw[ht];decide)
   have eW:(aC q.text).data.toList=q.text:=rfl
   rw[eW,HIS.out.1,HIS.out.2]at hW
   clear ht hgt HIS eW
   generalize q.text=tx at *
   go_enter Tryz.func215,Tryz.ntmps215
   go_wp2_with fail
   refine hTx.mono ?_
   rintro e w9 ⟨rfl,h9⟩
   have h9:=h9.symm
   subst h9
   go_wp2_with fail
   refine(hW _ HS.out).mono ?_
   rintro e w2 ⟨rfl,h2⟩
   go_wp2_with fail
   go_ret
   exact⟨tx,rfl,fun _=>rfl,h2⟩
 ·have hi':q.kW=false:=by simpa using hi
  have ht1:q.typ en=q.path en:=by unfold Rd.typ;rw[if_neg hi]
  rw[ht1]
  rw[hi']at hst
  have hP:=St h he o ho
  obtain⟨c0,c1,c2,c3,c4,c5,c6,c7⟩:=Zd q.text (of_decide_eq_false hst.symm)
  have b0:((aC q.text).toList == [105,110,116,54,52])=false:=by rw[aH];exact c0
  have b1:((aC q.text).toList == [117,105,110,116,54,52])=false:=by rw[aH];exact c1
  have b2:((aC q.text).toList == [115,105,110,116,54,52])=false:=by rw[aH];exact c2
  have b3:((aC q.text).toList == [98,111,111,108])=false:=by rw[aH];exact c3
  have b4:((aC q.text).toList == [115,116,114,105,110,103])=false:=by rw[aH];exact c4
  have b5:((aC q.text).toList == [98,121,116,101,115])=false:=by rw[aH];exact c5
  have b6:((aC q.text).toList == [102,105,120,101,100,51,50])=false:=by rw[aH];exact c6
  have b7:((aC q.text).toList == [102,105,120,101,100,54,52])=false:=by rw[aH];exact c7
  clear c0 c1 c2 c3 c4 c5 c6 c7 hst hi hi' ht1 h
  generalize q.text=tx at *
  go_enter Tryz.func215,Tryz.ntmps215
  go_wp2_with fail
  refine hTx.mono ?_
  rintro e w9 ⟨rfl,h9⟩
  have h9:=h9.symm
  subst h9
  go_wp2_with fail
  refine hP.mono ?_
  rintro e w2 ⟨p,rfl,h2,h3⟩
  go_wp2_with fail
  go_ret
  exact⟨p,rfl,h2,h3⟩
set_option maxHeartbeats 8000000 in
set_option maxRecDepth 20000 in
theorem tJ (h:Lv w0 wx R en q D T cs) (he:q.e=0) (o:Nat) (ho:cs[o]? = some (.string ⟨#[]⟩)) :
  Calls Tryz.prog 164 #[.pointer (some ⟨R,0,none⟩),.pointer (some ⟨D,o,none⟩)] wx fun x w'=>∃ p:List UInt8,x=.returned (.bool (decide ((((q.take en [40]).path en).2.take en [41]).e=0)))∧((((q.take en [40]).path en).2.take en [41]).e=0→p=((q.take en [40]).path en).1)∧Lv w0 w' R en (((q.take en [40]).path en).2.take en [41]) D T (cs.setIfInBounds o (.string (aC p))):=by
 have hW:=dY h he ⟨#[40]⟩ (by decide)
 have e40:(ByteArray.mk #[40]).data.toList=[40]:=rfl
 have hE1:=Rd.jP en he [40]
 have hso:=Sw ho
 have ho0:cs.setIfInBounds o (.string (aC []))=cs:=hso
 rw[e40]at hW
 generalize q.take en [40]=q1 at *
 by_cases hi:q.is [40]=true
 ·rw[hi]at hW hE1
  have Rp:q1.e=0:=of_decide_eq_true hE1
  have hP:=fun W hW=>St (w0:=w0) (R:=R) (en:=en) (q:=q1) (D:=D) (T:=T) (cs:=cs) (wx:=W) hW Rp o ho
  generalize q1.path en=PA at *
  by_cases Oe:PA.2.e=0
  ·have hE2:=Rd.jP en Oe [41]
   rw[decide_eq_true Oe]at hP
   have hV:=fun W (p:List UInt8) hW=>dY (w0:=w0) (R:=R) (en:=en) (q:=PA.2) (D:=D) (T:=T) (cs:=cs.setIfInBounds o (.string (aC p))) (wx:=W) hW Oe ⟨#[41]⟩ (by decide)
   have e41:(ByteArray.mk #[41]).data.toList=[41]:=rfl
   rw[e41]at hV
   rw[hE2]
   clear hi hE1 e40 e41 hso
   go_enter Tryz.func164,Tryz.ntmps164
   go_wp2_with fail
   refine hW.mono ?_
   rintro e w1 ⟨rfl,h1⟩
   go_wp2_with fail
   refine(hP w1 h1).mono ?_
   rintro e w2 ⟨p,rfl,h2,h3⟩
   go_wp2_with fail
   refine(hV w2 p h3).mono ?_
   rintro e w3 ⟨rfl,h4⟩
   go_wp2_with fail
   go_ret
   exact⟨p,rfl,fun _=>h2 Oe,h4⟩
  ·have hst:PA.2.take en [41]=PA.2:=Rd.aP en Oe _
   have hd:decide (PA.2.e=0)=false:=decide_eq_false Oe
   rw[hd]at hP
   rw[hst,hd]
   clear hi hE1 e40 hst hd
   go_enter Tryz.func164,Tryz.ntmps164
   go_wp2_with fail
   refine hW.mono ?_
   rintro e w1 ⟨rfl,h1⟩
   go_wp2_with fail
   refine(hP w1 h1).mono ?_
   rintro e w2 ⟨p,rfl,h2,h3⟩
   go_wp2_with fail
   go_ret
   exact⟨p,rfl,fun hx=>absurd hx Oe,h3⟩
 ·have hi':q.is [40]=false:=by simpa using hi
  rw[hi']at hW hE1
  have Rp:q1.e≠0:=of_decide_eq_false hE1
  rw[Rd.gY en Rp,Rd.aP en Rp,hE1]
  clear hi hi' hE1 e40
  go_enter Tryz.func164,Tryz.ntmps164
  go_wp2_with fail
  refine hW.mono ?_
  rintro e w1 ⟨rfl,h1⟩
  go_wp2_with fail
  go_ret
  exact⟨[],rfl,fun hx=>absurd hx Rp,by rw[ho0];exact h1⟩
end
end Go.Proofs.YtpojeinddnjpfaaGreatDoor
