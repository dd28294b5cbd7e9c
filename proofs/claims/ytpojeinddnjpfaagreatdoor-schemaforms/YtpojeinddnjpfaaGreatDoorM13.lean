/-
  Walks and plain words (DvW StS StD PrG ScM ScP).
-/
import Derived.Test.YtpojeinddnjpfaaGreatDoorM0
import Derived.Test.YtpojeinddnjpfaaGreatDoorM12
import Derived.Deep.RegionHeldLaw
import Derived.Deep.DeepCutAuto
import Derived.Lib.IndexBytes
import Derived.Test.YtpojeinddnjpfaaGreatDoorM7
import Derived.Test.YtpojeinddnjpfaaGreatDoorM1
import Derived.Test.YtpojeinddnjpfaaGreatDoorM2
import Derived.Test.YtpojeinddnjpfaaGreatDoorM10
namespace Go.Proofs.YtpojeinddnjpfaaGreatDoor
set_option linter.unusedVariables false
open Go.ChangeShapes Go.WideShapes Go.ChangeAt Go.RowKit

theorem zB:∀ (xs:List Wd) (j:Nat) (x:Wd) (i:Nat),i<4→xs[j]? = some x→(xs.flatMap lJ)[j*4+i]? = (lJ x)[i]?
 | [],j,x,i,hi,h=>by simp at h
 | a :: t,0,x,i,hi,h=>by
  have:a=x:=by simpa using h
  subst this
  rw[List.flatMap_cons,List.getElem?_append_left (by simp[lJ];omega)];simp
 | a :: t,j+1,x,i,hi,h=>by
  have hl:(lJ a).length=4:=rfl
  rw[List.flatMap_cons,List.getElem?_append_right (by rw[hl];omega),hl,show (j+1)*4+i - 4=j*4+i by omega]
  exact zB t j x i hi (by simpa using h)
theorem Ot {w:World} {base:Nat} {v:Value} {xs:List Wd} (h:En w base v xs):∃ ad c,v=.slice ad xs.length c∧aCo w ad xs∧xs.length≤c:=by
 obtain⟨hl,⟨rfl,h0⟩ | ⟨g,cap,cur,rfl,hg,hh,h3,h4,h5,h6⟩⟩:=h
 ·exact⟨none,0,by rw[h0],.inl (List.eq_nil_of_length_eq_zero h0),by omega⟩
 ·refine⟨_,cap,rfl,.inr ⟨g,rfl,fun j x hj=>?_⟩,h3⟩
  have hjl:=(List.getElem?_eq_some_iff.1 hj).1
  have key:∀ i,i<4→w.cell? ⟨g,j*4+i,none⟩=(lJ x)[i]?:=fun i hi=>by
   have e:=zB xs j x i hi hj
   rw[←h6,List.getElem?_take,if_pos (by omega)]at e
   simp only[World.cell?,hh]
   rw[←e]
   simp
  exact⟨key 0 (by omega),key 1 (by omega),key 2 (by omega),key 3 (by omega)⟩
set_option maxHeartbeats 2000000 in
theorem lK (s:ByteArray) (w:World) (hs:s.size≤1048576) :
  Calls Tryz.prog 101 #[.string s] w fun e w'=>e=.returned (.string s)∧Below w.heap.size w w':=by
 have h:=stringslite_Clone s w (by omega)
 go_enter Tryz.func101,Tryz.ntmps101
 go_wp2_with fail
 refine h.mono ?_
 rintro e w1 ⟨rfl,hb⟩
 go_wp2_with fail
 go_ret
 exact⟨rfl,hb⟩
def aKi (a:List Wd × (Nat × Nat) × Int) (e:Ending) (w':World):Prop:=aRj a e w'
theorem wG (pl pc:Nat) (er:Int) (w':World):aKi ([],(pl,pc),er) (.returned (.tuple #[.slice none 0 0,.agg #[.int .i64 (pl:Int),.int .i64 (pc:Int)],.int .i64 er])) w':=
 ⟨none,0,_,_,rfl,.inl rfl,Nat.le_refl _,fun _=>⟨rfl,rfl⟩⟩
set_option maxHeartbeats 8000000 in
set_option maxRecDepth 20000 in
theorem Iw (s:ByteArray) (w:World) (hE:qC w) (hs:s.size≤9223372036854775807) :
  Calls Tryz.prog 73 #[.string s] w fun e w'=>aKi (cG s.data.toList) e w'∧Below w.heap.size w w':=by
 by_cases h2:s.size≤20000
 ·have h2':¬(20000:Int)<(s.size:Int):=by omega
  have HW:Hid (cG s.data.toList=dV s.size s.data.toList 1 1 []):=by
   refine(?_:_=_)
   unfold cG;rw[if_neg (by rw[bC];omega),bC]
  have HE:Hid (qC w):=hE
  clear hE hs
  have HL:Hid (s.data.toList.length=s.size):=bC s
  obtain⟨ANS,hANS⟩:∃ a,cG s.data.toList=a:=⟨_,rfl⟩
  rw[hANS]at HW ⊢
  clear hANS
  go_enter Tryz.func73,Tryz.ntmps73
  go_wp2_with fail
  go_loopw [6,7] (fun v en wr=>∃ (p e line col c f:Nat) (acc:List Wd),en=.int .i64 (e:Int)∧Sd w wr w.heap.size s p line col v acc∧Az s.data.toList c p e∧p≤s.size∧e≤s.size∧s.size≤e+f∧line≤p+1∧col≤p+1∧acc.length≤4000∧ANS=dV f (s.data.toList.drop e) line (col+c) acc) (fun _ _ wr=>s.size - wr.iterPos (w.heap.size+2))
  case atStart=>exact⟨0,0,1,1,0,s.size,[],rfl,Sd.start w s,rfl,by omega,by omega,by omega,by omega,by omega,by simp,by rw[List.drop_zero];exact HW.out⟩
  case round=>
   obtain⟨p,e,line,col,c,f,acc,rfl,hSd,hG,hps,hes,hf,hln,hcl,hac,dW⟩:=hrel
   have HA:Hid (ANS=dV f (s.data.toList.drop e) line (col+c) acc):=dW
   have HG:Hid (Az s.data.toList c p e):=hG
   obtain⟨oa,oc,rfl⟩:=Iv hSd.own
   have HS:Hid (Sd w wr w.heap.size s p line col (.slice oa acc.length oc) acc):=hSd
   have hpe:p+c≤e:=hG.le
   have hit:=hSd.it
   have hm0:wr.iterPos (w.heap.size+2)=p:=by simp[World.iterPos,hit]
   have HM:Hid (wr.iterPos (w.heap.size+2)=p):=hm0
   clear dW hG hSd hm0
   by_cases hp:p<s.size
   ·have hnx:∀ ty,(Instr.next (.pointer (some ⟨w.heap.size+2,0,none⟩)) true ty).run Tryz.prog wr=_:=fun ty=>Lib.run_next_any_at wr (w.heap.size+2) s p ty hit hp
    have hne:s.data.toList.drop p≠[]:=sP (by rw[HL.out];exact hp)
    have hdd:Lib.decodeL (s.data.toList.drop p)=Utf8.decode s p:=Lib.decodeL_drop s p
    have hrn:=Mj _ hne
    have hwl:=dK _ hne
    have hwd:(nx (s.data.toList.drop p)).2=(Utf8.decode s p).2:=by rw[←hrn.2,hdd]
    rw[List.length_drop,HL.out,hwd]at hwl
    have qR:Hid (rn (s.data.toList.drop p)=((Utf8.decode s p).1:Int)):=by refine(?_:_=_);unfold rn;rw[hdd]
    have HWD:Hid ((nx (s.data.toList.drop p)).2=(Utf8.decode s p).2):=hwd
    have pE:Hid (Sd w (wr.iterAt (w.heap.size+2) s (p+(Utf8.decode s p).2)) w.heap.size s (p+(Utf8.decode s p).2) line col (.slice oa acc.length oc) acc):=HS.out.next _
    clear hrn hdd hwd HS hit
    generalize (Utf8.decode s p).2=wd at *
    generalize ((Utf8.decode s p).1:Int)=r at *
    generalize wr.iterAt (w.heap.size+2) s (p+wd)=wi at *
    obtain⟨p0,p1,rD,rE,a0,a1,fa0,fa1⟩:=pE.out.cells
    by_cases hin:p<e
    ·have hge:¬(e:Int)≤(p:Int):=by omega
     have hc1:∃ c',c=c'+1:=by
      cases c with
      | zero=>have:p=e:=HG.out;omega
      | succ c=>exact⟨c,rfl⟩
     obtain⟨c,rfl⟩:=hc1
     have h10:r≠10:=by
      have:=HG.out.2.1
      rw[←qR.out]
      exact fun h=>this ((tL _ hne 10 (by omega) (by omega)).1 h)
     have HG2:Hid (Az s.data.toList c (p+wd) e):=by have:=HG.out.2.2;rw[HWD.out]at this;exact this
     have Tk:=kN line col r wi (by omega) (by omega)
     rw[if_neg h10,if_neg h10]at Tk
     have HX:Hid (ANS=dV f (s.data.toList.drop e) line (col+1+c) acc):=by
      refine(?_:_=_)
      rw[HA.out];congr 1;omega
     clear HA HG qR hne h10 a0 a1 fa0 fa1
     go_wp2_with fail
     refine Tk.mono ?_
     rintro e2 W2 ⟨rfl,hb2⟩
     have HS2:Hid (Sd w W2 w.heap.size s (p+wd) line col (.slice oa acc.length oc) acc):=pE.out.old hb2
     obtain⟨q0,q1,qf0,qf1,_,_,_,_⟩:=HS2.out.cells
     have pO:=HS2.out.place line (col+1)
     clear Tk hb2 p0 p1 rD rE
     go_wp2_with fail
     go_roundw
     case rel=>exact⟨p+wd,e,line,col+1,c,f,acc,rfl,pO,HG2.out,by omega,by omega,by omega,by omega,by omega,by omega,HX.out⟩
     case measure=>exact Nat.lt_of_le_of_lt (Nat.le_of_eq (congrArg (fun z=>s.size - z) pO.iterPos)) (by rw[HM.out];omega)
    ·obtain rfl:c=0:=by omega
     obtain rfl:p=e:=by omega
     have hge:(p:Int)≤(p:Int):=by omega
     obtain⟨f,rfl⟩:∃ f',f=f'+1:=⟨f - 1,by omega⟩
     have HLT:=aB (Tj f (s.data.toList.drop p) line col acc hne)
     have hE1:qC wi:=jR HE.out pE.out.below
     have hxd:(s.extract p s.size).data.toList=s.data.toList.drop p:=Lib.extract_to_end s p
     have hxs:(s.extract p s.size).size≤1048576:=by rw[←bC,hxd,List.length_drop,HL.out];omega
     have Ou:=Oo (s.extract p s.size) r wi hE1 hxs (by rw[hxd];exact hne) (by rw[hxd];exact qR.out)
     rw[hxd]at Ou
     have htl:p+(cD (s.data.toList.drop p)).2≤s.size:=by
      have:=Zo _ hne;rw[List.length_drop,HL.out]at this;omega
     have HTX:Hid (∀ n,(s.data.toList.drop p).drop n=s.data.toList.drop (p+n)):=fun n=>List.drop_drop
     have HEX:Hid (∀ n,(s.data.toList.drop p).take n=(s.extract p (p+n)).data.toList):=fun n=>by
      rw[Lib.extract_data];congr 1;omega
     have fU:Hid (∀ c n,Az (s.data.toList.drop p) (c+1) 0 n→Az s.data.toList c (p+wd) (p+n)):=fun c n h=>by
      have h':=h.shift.2.2
      simp only[Nat.add_zero]at h'
      rw[HWD.out]at h'
      exact h'
     have aRm:Hid (r=10→wd=1):=fun h=>by
      rw[←HWD.out]
      have h10:=(tL _ hne 10 (by omega) (by omega)).1 (qR.out.trans h)
      exact nP _ hne (by omega) (by omega)
     have HA':Hid (ANS=dV (f+1) (s.data.toList.drop p) line col acc):=HA.out
     have aKk:=qR.out
     rw[aKk]at HLT
     clear HA HG qR HWD hxd hxs hE1 hne aKk
     generalize (cD (s.data.toList.drop p))=kn at *
     obtain⟨k,n⟩:=kn
     have hw1:IntKind.i64.wrap ((p:Int)+(n:Int))=((p+n:Nat):Int):=by rw[IntKind.wrap_i64];have:p+n≤s.size:=htl;omega
     have htl:p+n≤s.size:=htl
     have Ou:Calls Tryz.prog 110 #[.string (s.extract p s.size),.int .i32 r] wi fun e w'=>e=.returned (.tuple #[.int .i64 k,.int .i64 (n:Int)])∧Below wi.heap.size wi w':=Ou
     rcases HLT.out with ⟨h0,hlex⟩ | ⟨hkn,Eo,hlex⟩ | ⟨hk0,hn1,Eo,c,Ov,hlex⟩ | ⟨hk0,hn1,Eo,c,Ov,hlex⟩
     ·obtain rfl:n=0:=h0
      obtain rfl:ANS=([],(line,col),6):=by rw[HA'.out];exact hlex
      clear HLT hlex p0 p1 rD rE a0 a1 fa0 fa1
      go_wp2_with fail
      refine Ou.mono ?_
      rintro e2 W2 ⟨rfl,hb2⟩
      have HS2:Hid (Sd w W2 w.heap.size s (p+wd) line col (.slice oa acc.length oc) acc):=pE.out.old hb2
      obtain⟨p0,p1,rD,rE,a0,a1,fa0,fa1⟩:=HS2.out.cells
      obtain⟨r0,r1,_,hB⟩:=HS2.out.final (.int .i64 (line:Int)) (.int .i64 (col:Int))
      clear Ou hb2
      go_wp2_with fail
      go_region
      all_goals
       go_wp2_with fail
       refine bodyPost_ret (v:=.tuple #[.slice none 0 0,.agg #[.int .i64 (line:Int),.int .i64 (col:Int)],.int .i64 6]) (by simp[results,Tryz.results73,go_sem,r0,r1]) rfl ⟨wG _ _ _ _,hB.drew⟩
     ·obtain⟨rfl,rfl⟩:k=0∧n=1:=by have:=hkn;simp only[Prod.mk.injEq]at this;exact this
      obtain rfl:r=10:=Eo
      have aRn:=(aRm.out rfl).symm
      subst aRn
      have HX:Hid (ANS=dV f (s.data.toList.drop (p+1)) (line+1) (1+0) acc):=by
       refine(?_:_=_)
       rw[HA'.out,hlex,HTX.out]
      clear HLT hlex hkn p0 p1 rD rE a0 a1 fa0 fa1
      go_wp2_with fail
      refine Ou.mono ?_
      rintro e2 W2 ⟨rfl,hb2⟩
      have HS2:Hid (Sd w W2 w.heap.size s (p+1) line col (.slice oa acc.length oc) acc):=pE.out.old hb2
      obtain⟨p0,p1,rD,rE,a0,a1,fa0,fa1⟩:=HS2.out.cells
      have Tk:=kN line col 10 W2 (by omega) (by omega)
      rw[if_pos rfl,if_pos rfl]at Tk
      clear Ou hb2
      go_wp2_with fail
      refine Tk.mono ?_
      rintro e3 W3 ⟨rfl,hb3⟩
      have pO:Hid (Sd w W3 w.heap.size s (p+1) line col (.slice oa acc.length oc) acc):=HS2.out.old hb3
      obtain⟨q0,q1,qf0,qf1,_,_,_,_⟩:=pO.out.cells
      have HS4:=pO.out.place (line+1) 1
      clear Tk hb3 p0 p1 rD rE a0 a1 fa0 fa1
      go_wp2_with fail
      go_roundw
      case rel=>exact⟨p+1,p+1,line+1,1,0,f,acc,rfl,HS4,rfl,by omega,by omega,by omega,by omega,by omega,by omega,HX.out⟩
      case measure=>exact Nat.lt_of_le_of_lt (Nat.le_of_eq (congrArg (fun z=>s.size - z) HS4.iterPos)) (by rw[HM.out];omega)
     ·obtain rfl:k=0:=hk0
      have h10:r≠10:=Eo
      have hn1:1≤n:=hn1
      have HG2:Hid (Az s.data.toList c (p+wd) (p+n)):=fU.out c n Ov
      have hn0:((n:Int) == 0)=false:=beq_eq_false_iff_ne.2 (by omega)
      have HX:Hid (ANS=dV f (s.data.toList.drop (p+n)) line (col+1+c) acc):=by
       refine(?_:_=_)
       rw[HA'.out,hlex,HTX.out];congr 1;omega
      clear HLT hlex Eo Ov fU p0 p1 rD rE a0 a1 fa0 fa1
      go_wp2_with fail
      refine Ou.mono ?_
      rintro e2 W2 ⟨rfl,hb2⟩
      have HS2:Hid (Sd w W2 w.heap.size s (p+wd) line col (.slice oa acc.length oc) acc):=pE.out.old hb2
      obtain⟨p0,p1,rD,rE,a0,a1,fa0,fa1⟩:=HS2.out.cells
      have Tk:=kN line col r W2 (by omega) (by omega)
      rw[if_neg h10,if_neg h10]at Tk
      clear Ou hb2 h10
      go_wp2_with fail
      refine Tk.mono ?_
      rintro e3 W3 ⟨rfl,hb3⟩
      have pO:Hid (Sd w W3 w.heap.size s (p+wd) line col (.slice oa acc.length oc) acc):=HS2.out.old hb3
      obtain⟨q0,q1,qf0,qf1,_,_,_,_⟩:=pO.out.cells
      have HS4:=pO.out.place line (col+1)
      clear Tk hb3 p0 p1 rD rE a0 a1 fa0 fa1
      go_wp2_with fail
      go_roundw
      case rel=>exact⟨p+wd,p+n,line,col+1,c,f,acc,rfl,HS4,HG2.out,by omega,by omega,by omega,by omega,by omega,by omega,HX.out⟩
      case measure=>exact Nat.lt_of_le_of_lt (Nat.le_of_eq (congrArg (fun z=>s.size - z) HS4.iterPos)) (by rw[HM.out];omega)
     ·have hk0:(k == 0)=false:=beq_eq_false_iff_ne.2 hk0
      have h10:r≠10:=Eo
      have hn1:1≤n:=hn1
      have hn0:((n:Int) == 0)=false:=beq_eq_false_iff_ne.2 (by omega)
      by_cases aEd:acc.length=4000
      ·obtain rfl:ANS=([],(line,col),4):=by rw[HA'.out,hlex,if_pos aEd]
       have h4:((acc.length:Int) == 4000)=true:=by rw[beq_iff_eq];omega
       clear HLT hlex Eo Ov fU p0 p1 rD rE a0 a1 fa0 fa1 aEd
       go_wp2_with fail
       refine Ou.mono ?_
       rintro e2 W2 ⟨rfl,hb2⟩
       have HS2:Hid (Sd w W2 w.heap.size s (p+wd) line col (.slice oa acc.length oc) acc):=pE.out.old hb2
       obtain⟨p0,p1,rD,rE,a0,a1,fa0,fa1⟩:=HS2.out.cells
       obtain⟨r0,r1,_,hB⟩:=HS2.out.final (.int .i64 (line:Int)) (.int .i64 (col:Int))
       clear Ou hb2
       go_wp2_with fail
       go_region
       all_goals
        go_wp2_with fail
        refine bodyPost_ret (v:=.tuple #[.slice none 0 0,.agg #[.int .i64 (line:Int),.int .i64 (col:Int)],.int .i64 4]) (by simp[results,Tryz.results73,go_sem,r0,r1]) rfl ⟨wG _ _ _ _,hB.drew⟩
      ·have h4:((acc.length:Int) == 4000)=false:=beq_eq_false_iff_ne.2 (by omega)
       have HG2:Hid (Az s.data.toList c (p+wd) (p+n)):=fU.out c n Ov
       obtain⟨tx,htx⟩:∃ tx,s.extract p (p+n)=tx:=⟨_,rfl⟩
       have aKm:tx.size≤1048576:=by
        rw[←htx,←bC,←HEX.out,List.length_take,List.length_drop,HL.out];omega
       have HX:Hid (ANS=dV f (s.data.toList.drop (p+n)) line (col+1+c) (acc++[Wd.mk k tx.data.toList line col])):=by
        refine(?_:_=_)
        rw[HA'.out,hlex,if_neg aEd,HTX.out]
        show dV f _ line (col+(c+1)) (acc++[Wd.mk k ((s.data.toList.drop p).take n) line col])=_
        rw[HEX.out n,htx];congr 1;omega
       have Rs:=fun W=>lK tx W aKm
       have aEe:=fun W=>kN line col r W (by omega) (by omega)
       rw[if_neg h10,if_neg h10]at aEe
       clear HLT hlex Eo Ov fU p0 p1 rD rE a0 a1 fa0 fa1 aKm h10
       go_wp2_with fail
       refine Ou.mono ?_
       rintro e2 W2 ⟨rfl,hb2⟩
       have HS2:Hid (Sd w W2 w.heap.size s (p+wd) line col (.slice oa acc.length oc) acc):=pE.out.old hb2
       obtain⟨p0,p1,rD,rE,a0,a1,fa0,fa1⟩:=HS2.out.cells
       clear Ou hb2
       have hsl:∀ W,(Instr.slice 9 (.string s) (some (.int .i64 (p:Int))) (some (.int .i64 ((p:Int)+(n:Int)))) none).run Tryz.prog W=.ok (.string tx) W:=fun W=>by
        rw[run_slice_string (P:=Tryz.prog) W 9 s .i64 .i64 (p:Int) ((p:Int)+(n:Int)) Tryz.underlying9 (by omega) (by omega) (by omega),←htx]
        congr 3
       go_wp2_with fail
       go_region_held_law (fun W=>W.cell? ⟨w.heap.size+1,0,none⟩=some (.int .i64 (line:Int))∧W.cell? ⟨w.heap.size+1,1,none⟩=some (.int .i64 (col:Int)))
        (first
         | exact⟨hS6.cells.1,hS6.cells.2.1⟩
         | exact⟨(hS5.alloc _).cells.1,(hS5.alloc _).cells.2.1⟩
         | exact⟨hS5.cells.1,hS5.cells.2.1⟩
         | exact⟨p0,p1⟩)
        (first
         | (go_at_call 101;refine(Rs _).mono ?_;rintro e5 W5 ⟨rfl,hb5⟩;have hS5:=HS2.out.drew.old hb5)
         | (refine hS5.push (Wd.mk k tx.data.toList line col) rfl _ _ rfl _ rfl rfl rfl (by omega) ?_;intro g cap W6 hS6))
       all_goals
        clear p0 p1 rD rE a0 a1 fa0 fa1
        obtain⟨p0,p1,rD,rE,a0,a1,fa0,fa1⟩:=hS6.cells
        have HS6:=aB hS6
        go_wp2_with fail
        refine(aEe _).mono ?_
        rintro e7 W7 ⟨rfl,Rt⟩
        have HS7:=aB (HS6.out.old Rt)
        obtain⟨q0,q1,qf0,qf1,_,_,_,_⟩:=HS7.out.cells
        have Co:=HS7.out.place line (col+1)
        clear aEe Rt hS5 hS6 hb5 p0 p1 rD rE a0 a1 fa0 fa1
        go_wp2_with fail
        go_roundw
        case rel=>exact⟨p+wd,p+n,line,col+1,c,f,acc++[Wd.mk k tx.data.toList line col],rfl,Co,HG2.out,by omega,by omega,by omega,by omega,by omega,by simp;omega,HX.out⟩
        case measure=>exact Nat.lt_of_le_of_lt (Nat.le_of_eq (congrArg (fun z=>s.size - z) Co.iterPos)) (by rw[HM.out];omega)
   ·have hnx:∀ ty,(Instr.next (.pointer (some ⟨w.heap.size+2,0,none⟩)) true ty).run Tryz.prog wr=_:=fun ty=>Lib.run_next_end_at wr (w.heap.size+2) s p ty hit hp
    obtain rfl:c=0:=by omega
    obtain rfl:p=e:=by omega
    have tK:Hid (ANS=(acc,(0,0),0)):=by
     refine(?_:_=_)
     rw[HA.out,List.drop_eq_nil_of_le (by rw[HL.out];omega),nI]
    obtain⟨p0,p1,rD,rE,a0,a1,fa0,fa1⟩:=HS.out.cells
    obtain⟨r0,r1,hO,hB⟩:=HS.out.final (.int .i64 0) (.int .i64 0)
    have HO:=aB hO
    clear HA hO
    go_wp2_with fail
    refine bodyPost_ret (v:=.tuple #[.slice oa acc.length oc,.agg #[.int .i64 0,.int .i64 0],.int .i64 0]) (by simp[results,Tryz.results73,go_sem,r0,r1]) rfl ⟨?_,hB⟩
    obtain⟨ad,cc,he,hh,hl⟩:=Ot HO.out
    rw[tK.out]
    refine⟨ad,cc,0,0,by rw[he],hh,hl,fun h=>absurd rfl h⟩
 ·have h2':(20000:Int)<(s.size:Int):=by omega
  have HW:Hid (cG s.data.toList=([],(1,1),4)):=by
   refine(?_:_=_)
   unfold cG;rw[if_pos (by rw[bC];omega)]
  obtain⟨ANS,hANS⟩:∃ a,cG s.data.toList=a:=⟨_,rfl⟩
  rw[hANS]at HW ⊢
  clear hANS
  have hz:((w.alloc (.cells #[.int .i64 1,.int .i64 1] 31)).alloc (.cells #[.int .i64 1,.int .i64 1] 31)).drew.heap[w.heap.size]? = some (.cells #[.int .i64 1,.int .i64 1] 31 (0,0)):=by
   show ((w.heap.push _).push _)[w.heap.size]? = _
   rw[Array.getElem?_push_lt (by simp)];simp
  have hB:Below w.heap.size w ((w.alloc (.cells #[.int .i64 1,.int .i64 1] 31)).alloc (.cells #[.int .i64 1,.int .i64 1] 31)).drew:=(((Below.refl _ w).alloc (Nat.le_refl _) _).alloc (by simp) _).drew
  have HZ:=aB hz
  clear hz
  go_enter Tryz.func73,Tryz.ntmps73
  go_wp2_with fail
  go_region
  all_goals
   go_wp2_with fail
   generalize ((w.alloc (.cells #[.int .i64 1,.int .i64 1] 31)).alloc (.cells #[.int .i64 1,.int .i64 1] 31)).drew=W at *
   have r0:=aA HZ.out 0 rfl
   have r1:=aA HZ.out 1 rfl
   refine bodyPost_ret (v:=.tuple #[.slice none 0 0,.agg #[.int .i64 1,.int .i64 1],.int .i64 4]) (by simp[results,Tryz.results73,go_sem,r0,r1]) rfl ⟨?_,hB⟩
   rw[HW.out]
   exact wG 1 1 4 _
theorem Ix (s:ByteArray) (w:World) (hs:s.size≤281474976710656) :
  Calls Tryz.prog 101 #[.string s] w fun e w'=>e=.returned (.string s)∧Below w.heap.size w w':=by
 have h:=stringslite_Clone s w hs
 go_enter Tryz.func101,Tryz.ntmps101
 go_wp2_with fail
 refine h.mono ?_
 rintro e w1 ⟨rfl,hb⟩
 go_wp2_with fail
 go_ret
 exact⟨rfl,hb⟩
def lL:Nat→List Dc→Prop
 | 0,_=>True
 | f+1,ds=>∀ d∈ds,d.name.length≤200000000∧(∀ x∈d.fields,x.type.length≤200000000∧x.name.length≤200000000)∧(∀ x∈d.values,x.name.length≤200000000)∧(∀ x∈d.methods,x.name.length≤200000000∧x.inp.length≤200000000∧x.out.length≤200000000)∧lL f d.inner
section
variable {en:Int × Int} {r:Rd}
/-! a path's names are its pieces -/
theorem Iy {t:List UInt8} (h:nameOf (runes ⟨t.toArray⟩)=true):(46:UInt8)∉t:=by
 rw[vQ t h]
 intro hm
 unfold xW at hm
 obtain⟨r,hr,hb⟩:=List.mem_flatMap.1 hm
 have hn:=vM h r hr
 have htw:=nH hn
 unfold two at htw
 by_cases h1:r≤127
 ·rw[sF r htw.1 h1]at hb
  have e:(46:UInt8)=UInt8.ofNat r.toNat:=by simpa using hb
  have e2:(46:Nat)=r.toNat % 256:=by
   have:=congrArg UInt8.toNat e
   simpa using this
  have:r=46:=by omega
  subst this
  revert hn;decide
 ·rw[Lm r (by omega) htw.2]at hb
  simp only[List.mem_cons,List.not_mem_nil,or_false]at hb
  rcases hb with e | e
  ·have:=congrArg UInt8.toNat e
   simp only[UInt8.toNat_ofNat']at this
   have e3:(46:UInt8).toNat=46:=rfl
   omega
  ·have:=congrArg UInt8.toNat e
   simp only[UInt8.toNat_ofNat']at this
   have e3:(46:UInt8).toNat=46:=rfl
   omega
end
abbrev Sy:=List UInt8 × Int
def cK:Nat→List UInt8→List Dc→List Sy
 | 0,_,_=>[]
 | f+1,a,ds=>ds.flatMap fun d=>(a++d.name,d.kind) :: cK f (a++d.name++[46]) d.inner
theorem sS (f:Nat) (a:List UInt8) (d:Dc) (t:List Dc):cK (f+1) a (d :: t)=(a++d.name,d.kind) :: (cK f (a++d.name++[46]) d.inner++cK (f+1) a t):=by
 rw[cK,cK,List.flatMap_cons,List.cons_append]
theorem Ow (f:Nat) (a:List UInt8) (d:Dc) (t:List Dc):cK (f+1) a (t++[d])=cK (f+1) a t++[(a++d.name,d.kind)]++cK f (a++d.name++[46]) d.inner:=by
 rw[cK,cK,List.flatMap_append,List.flatMap_cons,List.flatMap_nil];simp
def zC (sc nm:List UInt8):List UInt8:=if sc=[] then nm else sc++46 :: nm
def kY (l:List Sy) (n:List UInt8):Option Sy:=l.find? fun s=>decide (s.1=n)
def meant (s:Sy):Bool:=decide (s.2=1∨s.2=2)
def fG (l:List Sy) (sc nm:List UInt8):Option Sy:=(kY l (zC sc nm)).filter meant
def nR (l:List Sy):Sy→List (List UInt8)→Option Sy
 | x,[]=>some x
 | x,n :: t=>match fG l x.1 n with
  | some y=>nR l y t
  | none=>none
def Cp (s:List UInt8):List UInt8:=((s.reverse.dropWhile fun b=>decide (b≠46)).drop 1).reverse
def fH (l:List Sy) (n0:List UInt8) (ns:List (List UInt8)):Nat→List UInt8→Option Sy
 | 0,sc=>none
 | k+1,sc=>match fG l sc n0 with
  | some x=>nR l x ns
  | none=>if sc=[] then none else fH l n0 ns k (Cp sc)
def wH (l:List Sy) (sc:List UInt8):Bool:=decide (sc=[]) || ((kY l sc).any fun s=>decide (s.2=1))
def aCp (l:List Sy) (sc:List UInt8):List (List UInt8)→Option Sy
 | []=>none
 | n0 :: ns=>fH l n0 ns (sc.length+1) sc
def Ml (l:List Sy) (sc path:List UInt8):Option Sy:=if cF path=true then (if wH l sc=true then aCp l sc (jC [] path) else none) else none
theorem zD (s:List UInt8) (h:s≠[]):(Cp s).length<s.length:=by
 unfold Cp
 rw[List.length_reverse,List.length_drop]
 have h1:(s.reverse.dropWhile fun b=>decide (b≠46)).length≤s.length:=by
  have:=(List.dropWhile_sublist (fun b:UInt8=>decide (b≠46)) (l:=s.reverse)).length_le
  simpa using this
 have:0<s.length:=List.length_pos_iff.2 h
 omega
theorem tN (l:List Sy) (n0:List UInt8) (ns:List (List UInt8)) (k:Nat) (sc:List UInt8):fH l n0 ns (k+1) sc=match fG l sc n0 with
  | some x=>nR l x ns
  | none=>if sc=[] then none else fH l n0 ns k (Cp sc):=rfl
theorem Ox (l:List Sy) (n0:List UInt8) (ns:List (List UInt8)):∀ (k:Nat) (sc:List UInt8),sc.length<k→fH l n0 ns (k+1) sc=fH l n0 ns k sc:=by
 intro k
 induction k with
 | zero=>intro sc h;omega
 | succ k ih=>
  intro sc h
  rw[tN l n0 ns (k+1) sc,tN l n0 ns k sc]
  cases fG l sc n0 with
  | some x=>rfl
  | none=>
   dsimp only
   by_cases h0:sc=[]
   ·rw[if_pos h0,if_pos h0]
   ·rw[if_neg h0,if_neg h0]
    have hs:=zD sc h0
    exact ih (Cp sc) (by omega)
theorem Iz (l:List Sy) (n0:List UInt8) (ns:List (List UInt8)) (sc:List UInt8):∀ k:Nat,sc.length<k→fH l n0 ns k sc=fH l n0 ns (sc.length+1) sc:=by
 intro k
 induction k with
 | zero=>intro h;omega
 | succ k ih=>
  intro h
  by_cases he:k=sc.length
  ·rw[he]
  ·rw[Ox l n0 ns k sc (by omega),ih (by omega)]
theorem Ja (l:List Sy) (n0:List UInt8) (ns:List (List UInt8)) (sc:List UInt8):fH l n0 ns (sc.length+1) sc=match fG l sc n0 with
  | some x=>nR l x ns
  | none=>if sc=[] then none else fH l n0 ns ((Cp sc).length+1) (Cp sc):=by
 rw[fH]
 cases fG l sc n0 with
 | some x=>rfl
 | none=>
  dsimp only
  by_cases h0:sc=[]
  ·rw[if_pos h0,if_pos h0]
  ·rw[if_neg h0,if_neg h0]
   exact Iz l n0 ns (Cp sc) _ (zD sc h0)

/-! P7.2: a whole name means itself -/
def Apart (l:List Sy):Prop:=∀ (i j:Nat) (x y:Sy),l[i]? = some x→l[j]? = some y→x.1=y.1→i=j
theorem Ep {l:List Sy} (h:Apart l) {x:Sy} (hx:x∈l):kY l x.1=some x:=by
 obtain⟨j,hj⟩:=List.getElem?_of_mem hx
 cases hf:kY l x.1 with
 | none=>
  unfold kY at hf
  rw[List.find?_eq_none]at hf
  exact absurd (by simp) (hf x hx)
 | some y=>
  have h1:y.1=x.1:=by
   have:=List.find?_some hf
   simpa using this
  obtain⟨i,hi⟩:=List.getElem?_of_mem (List.mem_of_find?_eq_some hf)
  have:=h i j y x hi hj h1
  subst this
  rw[hi]at hj
  exact hj
abbrev Rm:=List UInt8 × List Dc
def headed (n t:List UInt8):Bool:=(n++[46]).isPrefixOf t
def Jb (rec:List UInt8→List Dc→Option (Dc × List Rm)) (a:List UInt8) (all:List Dc) (wh:List UInt8):List Dc→Option (Dc × List Rm)
 | []=>none
 | d :: t=>if d.name=wh.drop a.length then some (d,[(a,all)])
   else if headed d.name (wh.drop a.length)=true then
    match rec (wh.take (a.length+d.name.length+1)) d.inner with
    | some (x,o)=>some (x,o++[(a,all)])
    | none=>Jb rec a all wh t
   else Jb rec a all wh t
def bZ:Nat→List UInt8→List Dc→List UInt8→Option (Dc × List Rm)
 | 0,_,_,_=>none
 | f+1,a,ds,wh=>Jb (fun a' ds'=>bZ f a' ds' wh) a ds wh ds
def dH (f:Nat) (top:List Dc) (a:List UInt8) (ds:List Dc) (n:List UInt8):Option Dc:=
 if ds.any (fun d=>decide (d.name=n))=true then
  match bZ f [] top (a++n)with
  | some (d,_)=>if d.kind=1∨d.kind=2 then some d else none
  | none=>none
 else none
def gM (f:Nat) (top:List Dc) (sc:List UInt8):Option (List Rm):=
 if sc=[] then some [([],top)] else
  match bZ f [] top sc with
  | some (d,o)=>if d.kind=1 then some ((sc++[46],d.inner) :: o) else none
  | none=>none
def eU (f:Nat) (top:List Dc):Dc→List UInt8→List (List UInt8)→Option Sy
 | d,wh,[]=>some (wh,d.kind)
 | d,wh,n :: t=>match dH f top (wh++[46]) d.inner n with
  | some x=>eU f top x (wh++46 :: n) t
  | none=>none
def iF (f:Nat) (top:List Dc) (n0:List UInt8) (ns:List (List UInt8)):List Rm→Option Sy
 | []=>none
 | r :: t=>match dH f top r.1 r.2 n0 with
  | some d=>eU f top d (r.1++n0) ns
  | none=>iF f top n0 ns t
def aCq (f:Nat) (top:List Dc) (rs:List Rm):List (List UInt8)→Option Sy
 | []=>none
 | n0 :: ns=>iF f top n0 ns rs
def iN (f:Nat) (top:List Dc) (sc path:List UInt8):Option Sy:=
 if cF path=true then
  match gM f top sc with
  | some rs=>aCq f top rs (jC [] path)
  | none=>none
 else none
theorem rF (rec:List UInt8→List Dc→Option (Dc × List Rm)) (a:List UInt8) (all:List Dc) (wh:List UInt8) (d:Dc) (t:List Dc):Jb rec a all wh (d :: t) =
  if d.name=wh.drop a.length then some (d,[(a,all)])
   else if headed d.name (wh.drop a.length)=true then
    match rec (wh.take (a.length+d.name.length+1)) d.inner with
    | some (x,o)=>some (x,o++[(a,all)])
    | none=>Jb rec a all wh t
   else Jb rec a all wh t:=rfl
theorem nS (f:Nat) (a:List UInt8) (ds:List Dc) (wh:List UInt8):bZ (f+1) a ds wh=Jb (fun a' ds'=>bZ f a' ds' wh) a ds wh ds:=rfl

/-! the first one,among all -/
def aX:Nat→List UInt8→List Dc→List (List UInt8 × Dc)
 | 0,_,_=>[]
 | f+1,a,ds=>ds.flatMap fun d=>(a++d.name,d) :: aX f (a++d.name++[46]) d.inner
theorem gN:∀ (f:Nat) (a:List UInt8) (ds:List Dc),cK f a ds=(aX f a ds).map fun x=>(x.1,x.2.kind)
 | 0,a,ds=>rfl
 | f+1,a,ds=>by
  rw[cK,aX,List.map_flatMap]
  congr 1
  funext d
  rw[List.map_cons,←gN f]
theorem Mm:∀ (f:Nat) (a:List UInt8) (ds:List Dc) (x:List UInt8 × Dc),x∈aX f a ds→a <+: x.1
 | 0,a,ds,x,h=>by simp[aX]at h
 | f+1,a,ds,x,h=>by
  rw[aX,List.mem_flatMap]at h
  obtain⟨d,hd,h⟩:=h
  rcases List.mem_cons.1 h with rfl | h
  ·exact List.prefix_append _ _
  ·have:=Mm f _ _ x h
   rw[List.append_assoc]at this
   exact(List.prefix_append a _).trans this
theorem mE (n t:List UInt8):headed n t=true↔∃ r,t=n++46 :: r:=by
 unfold headed
 rw[List.isPrefixOf_iff_prefix]
 constructor
 ·rintro⟨r,h⟩;exact⟨r,by rw[←h];simp⟩
 ·rintro⟨r,h⟩;exact⟨r,by rw[h];simp⟩
theorem oV:∀ (f:Nat) (a:List UInt8) (ds:List Dc) (r:List UInt8),(bZ f a ds (a++r)).map (·.1)=((aX f a ds).find? fun x=>decide (x.1=a++r)).map (·.2)
 | 0,a,ds,r=>rfl
 | f+1,a,ds,r=>by
  have ih:=oV f
  rw[nS,aX]
  have key:∀ (all t:List Dc),(Jb (fun a' ds'=>bZ f a' ds' (a++r)) a all (a++r) t).map (·.1)=((t.flatMap fun d=>(a++d.name,d) :: aX f (a++d.name++[46]) d.inner).find? fun x=>decide (x.1=a++r)).map (·.2):=by
   intro all t
   induction t with
   | nil=>rfl
   | cons d t iht=>
    rw[rF,List.flatMap_cons,List.drop_left,List.cons_append,List.find?_cons]
    by_cases h0:d.name=r
    ·rw[if_pos h0]
     have:decide (((a++d.name,d):List UInt8 × Dc).1=a++r)=true:=by simp[h0]
     rw[this];rfl
    ·rw[if_neg h0]
     have:decide (((a++d.name,d):List UInt8 × Dc).1=a++r)=false:=by simp[h0]
     rw[this,List.find?_append]
     dsimp only
     by_cases h1:headed d.name r=true
     ·rw[if_pos h1]
      obtain⟨r',hr'⟩:=(mE _ _).1 h1
      have e1:a++r=(a++d.name++[46])++r':=by rw[hr'];simp
      have e2:(a++r).take (a.length+d.name.length+1)=a++d.name++[46]:=by
       rw[e1,List.take_left' (by simp;omega)]
      rw[e2]
      have hi:=ih (a++d.name++[46]) d.inner r'
      rw[←e1]at hi
      cases hf:bZ f (a++d.name++[46]) d.inner (a++r)with
      | none=>
       rw[hf]at hi
       have hn:((aX f (a++d.name++[46]) d.inner).find? fun x=>decide (x.1=a++r))=none:=by
        cases hz:((aX f (a++d.name++[46]) d.inner).find? fun x=>decide (x.1=a++r))with
        | none=>rfl
        | some z=>rw[hz]at hi;simp at hi
       rw[hn,Option.none_or]
       exact iht
      | some z=>
       rw[hf]at hi
       obtain⟨x,o⟩:=z
       cases hz:((aX f (a++d.name++[46]) d.inner).find? fun x=>decide (x.1=a++r))with
       | none=>rw[hz]at hi;simp at hi
       | some y=>
        rw[hz]at hi
        rw[Option.some_or]
        exact hi
     ·rw[if_neg h1]
      have hn:((aX f (a++d.name++[46]) d.inner).find? fun x=>decide (x.1=a++r))=none:=by
       rw[List.find?_eq_none]
       intro x hx he
       have he:x.1=a++r:=by simpa using he
       have hp:=Mm f _ _ x hx
       rw[he]at hp
       obtain⟨r',hr'⟩:=hp
       apply h1
       rw[mE]
       refine⟨r',?_⟩
       rw[List.append_assoc,List.append_assoc,List.append_cancel_left_eq]at hr'
       rw[←hr'];simp
      rw[hn,Option.none_or]
      exact iht
  exact key ds ds
theorem Oy {f:Nat} {top:List Dc} (h:Apart (cK f [] top)) {x:List UInt8 × Dc} (hx:x∈aX f [] top):∃ o,bZ f [] top x.1=some (x.2,o):=by
 have hl:=oV f [] top x.1
 rw[List.nil_append]at hl
 obtain⟨j,hj⟩:=List.getElem?_of_mem hx
 have hall:=gN f [] top
 cases hz:(aX f [] top).find? fun y=>decide (y.1=x.1)with
 | none=>
  rw[List.find?_eq_none]at hz
  exact absurd (by simp) (hz x hx)
 | some y=>
  have h1:y.1=x.1:=by
   have:=List.find?_some hz
   simpa using this
  obtain⟨i,hi⟩:=List.getElem?_of_mem (List.mem_of_find?_eq_some hz)
  have hij:i=j:=h i j (y.1,y.2.kind) (x.1,x.2.kind) (by rw[hall,List.getElem?_map,hi];rfl) (by rw[hall,List.getElem?_map,hj];rfl) h1
  subst hij
  rw[hi]at hj
  have hyx:y=x:=Option.some.inj hj
  rw[hz,hyx]at hl
  cases hf:bZ f [] top x.1 with
  | none=>rw[hf]at hl;simp at hl
  | some z=>
   rw[hf]at hl
   obtain⟨z1,o⟩:=z
   have:z1=x.2:=by simpa using hl
   exact⟨o,by rw[this]⟩
end Go.Proofs.YtpojeinddnjpfaaGreatDoor
