/-
  Walks and plain words (FmA).
-/
import Derived.Test.YtpojeinddnjpfaaGreatDoorM0
import Derived.Test.YtpojeinddnjpfaaGreatDoorM17
import Derived.Test.YtpojeinddnjpfaaGreatDoorM21
import Derived.Test.YtpojeinddnjpfaaGreatDoorM14
import Derived.Test.YtpojeinddnjpfaaGreatDoorM13
namespace Go.Proofs.YtpojeinddnjpfaaGreatDoor
set_option linter.unusedVariables false
open Go.ChangeShapes Go.WideShapes Go.ChangeAt Go.RowKit

set_option maxHeartbeats 2000000 in
theorem oZ (l:List UInt8) (w:World) (hl:l.length≤200000000) :
  Calls Tryz.prog 97 #[.string (aC l)] w fun e w'=>e=.returned (.bool (aZ l))∧Below w.heap.size w w':=by
 have hN:=fun W=>rC (aC l) W (by rw[aV];omega)
 have hR:=fun W=>iD (aC l) W
 rw[aH]at hR
 have HP:Hid (aZ l=(nameOf (runes (aC l))&&!gJ l)):=rfl
 generalize aZ l=P at *
 generalize nameOf (runes (aC l))=a at *
 generalize gJ l=c at *
 go_enter Tryz.func97,Tryz.ntmps97
 cases a with
 | false=>
  go_wp2_with fail
  refine(hN _).mono ?_
  rintro e w1 ⟨rfl,hb⟩
  clear hN hR
  go_wp2_with fail
  go_ret
  exact⟨aU (by rw[HP.out];rfl),hb⟩
 | true=>
  go_wp2_with fail
  refine(hN _).mono ?_
  rintro e w1 ⟨rfl,hb⟩
  go_wp2_with fail
  refine(hR _).mono ?_
  rintro e w2 ⟨rfl,rfl⟩
  clear hN hR
  go_wp2_with fail
  go_ret
  exact⟨aU (by rw[HP.out];cases c <;> rfl),hb⟩
set_option maxHeartbeats 2000000 in
theorem tV (n:Int) (w:World) :
  Calls Tryz.prog 171 #[.int .i64 n] w fun e w'=>e=.returned (.bool (eF n))∧Below w.heap.size w w':=by
 unfold eF
 by_cases h0:0≤n
 ·by_cases h1:n≤2147483647
  ·go_enter Tryz.func171,Tryz.ntmps171
   go_wp2
   go_ret
   exact⟨aU (by simp;omega),Below.refl _ _⟩
  ·go_enter Tryz.func171,Tryz.ntmps171
   go_wp2
   go_ret
   exact⟨aU (by simp;omega),Below.refl _ _⟩
 ·go_enter Tryz.func171,Tryz.ntmps171
  go_wp2
  go_ret
  exact⟨aU (by simp;omega),Below.refl _ _⟩
theorem tA (l:List UInt8) (w:World) (hl:l.length≤200000000) :
  Calls Tryz.prog 172 #[.string (aC l)] w fun e w'=>e=.returned (.bool (cF l))∧Below w.heap.size w w':=by
 have:=Pe (aC l) w (by rw[aV];exact hl)
 rw[show (aC l).data.toList=l from rfl]at this
 exact this
set_option maxHeartbeats 4000000 in
theorem wU (l:List UInt8) (w:World) (hl:l.length≤200000000) :
    Calls Tryz.prog 170 #[.string (aC l)] w fun e w'=>e=.returned (.bool (sG l))∧Below w.heap.size w w':=by
  have hP:=fun W=>tA l W hl
  have HS:Hid (sG l=(decide (0<bP (aC l).toList) || cF l)):=by rw[aH];exact rfl
  generalize aC l=s at *
  generalize sG l=T at *
  generalize cF l=p at *
  go_enter Tryz.func170,Tryz.ntmps170
  go_wp2_with (go_at_call 172;refine(hP _).mono ?_;rintro e w' ⟨rfl,hb⟩)
  all_goals
    go_ret
    clear hP
    first
      | (refine⟨aU ?_,hb⟩
         rw[HS.out]
         unfold bP
         simp_all
         done)
      | (refine⟨aU ?_,Below.refl _ _⟩
         rw[HS.out]
         unfold bP
         simp_all)
set_option maxHeartbeats 4000000 in
set_option maxRecDepth 20000 in
theorem Ut (x:Fd) (w:World) (hx:TF x) :
  Calls Tryz.prog 136 #[.agg #[.bool x.rep,.string (aC x.type),.string (aC x.name),.int .i64 x.num,.int .i64 x.line,.int .i64 x.col]] w fun e w'=>e=.returned (.bool (Ci x))∧Below w.heap.size w w':=by
 have h0:=fun W=>wU x.type W hx.1
 have h1:=fun W=>oZ x.name W hx.2
 have h2:=fun W=>tV x.num W
 have jX:Hid (Ci x=(sG x.type&&aZ x.name&&eF x.num)):=rfl
 clear hx
 generalize Ci x=OK at *
 generalize sG x.type=b0 at *
 generalize aZ x.name=b1 at *
 generalize eF x.num=b2 at *
 have zQ:=(Below.refl w.heap.size w).alloc (Nat.le_refl _) (.cells #[.bool x.rep,.string (aC x.type),.string (aC x.name),.int .i64 x.num,.int .i64 x.line,.int .i64 x.col] 71)
 have hV:(w.alloc (.cells #[.bool x.rep,.string (aC x.type),.string (aC x.name),.int .i64 x.num,.int .i64 x.line,.int .i64 x.col] 71)).heap[w.heap.size]? = some (.cells #[.bool x.rep,.string (aC x.type),.string (aC x.name),.int .i64 x.num,.int .i64 x.line,.int .i64 x.col] 71 (0,0)):=alloc_heap_new _ _
 go_enter Tryz.func136,Tryz.ntmps136
 go_upto_region 1 with fail
 generalize (w.alloc (.cells #[.bool x.rep,.string (aC x.type),.string (aC x.name),.int .i64 x.num,.int .i64 x.line,.int .i64 x.col] 71))=V at *
 have HB:=aB zQ
 have HV:=aB hV
 have hs:=zQ.size
 have hlt:=aN hV
 clear zQ hV
 have hv0:V.heap[w.heap.size]? = some (.cells #[.bool x.rep,.string (aC x.type),.string (aC x.name),.int .i64 x.num,.int .i64 x.line,.int .i64 x.col] 71 (0,0)):=HV.out
 have c0:=aA hv0 1 rfl
 have mV:=aB hv0
 have Uu:=aN hv0
 clear hv0
 go_wp2_with fail
 refine(h0 _).mono ?_
 rintro e Y0 ⟨rfl,hb0⟩
 have HB0:=aB (HB.out.trans (hb0.mono HB.out.size))
 have Uv:=aB ((hb0.block _ Uu).trans mV.out)
 clear c0 hb0
 cases b0 with
 | false=>
  clear h0 h1 h2
  go_wp2_with fail
  go_ret
  exact⟨aU (by rw[jX.out];simp),HB0.out⟩
 | true=>
  have hv1:Y0.heap[w.heap.size]? = some (.cells #[.bool x.rep,.string (aC x.type),.string (aC x.name),.int .i64 x.num,.int .i64 x.line,.int .i64 x.col] 71 (0,0)):=Uv.out
  have c1:=aA hv1 2 rfl
  have kI:=aB hv1
  have hlt1:=aN hv1
  clear hv1
  go_wp2_with fail
  refine(h1 _).mono ?_
  rintro e Y1 ⟨rfl,hb1⟩
  have HB1:=aB (HB0.out.trans (hb1.mono HB0.out.size))
  have aAl:=aB ((hb1.block _ hlt1).trans kI.out)
  clear c1 hb1
  cases b1 with
  | false=>
   clear h0 h1 h2
   go_wp2_with fail
   go_ret
   exact⟨aU (by rw[jX.out];simp),HB1.out⟩
  | true=>
   have hv2:Y1.heap[w.heap.size]? = some (.cells #[.bool x.rep,.string (aC x.type),.string (aC x.name),.int .i64 x.num,.int .i64 x.line,.int .i64 x.col] 71 (0,0)):=aAl.out
   have c2:=aA hv2 3 rfl
   have Mw:=aB hv2
   have hlt2:=aN hv2
   clear hv2
   go_wp2_with fail
   refine(h2 _).mono ?_
   rintro e Y2 ⟨rfl,hb2⟩
   have HB2:=aB (HB1.out.trans (hb2.mono HB1.out.size))
   have aSs:=aB ((hb2.block _ hlt2).trans Mw.out)
   clear c2 hb2
   clear h0 h1 h2
   go_wp2_with fail
   go_ret
   exact⟨aU (by rw[jX.out];simp),HB2.out⟩
set_option maxHeartbeats 8000000 in
set_option maxRecDepth 20000 in
theorem Uw {S:Nat→Prop} (v:Value) (xs:List Fd) (w:World) (h1:RowsIn w S 6 pZ v xs) (hS:∀ b,S b→b<w.heap.size) (hl:xs.length≤100000) (ht:∀ x∈xs,TF x) :
  Calls Tryz.prog 135 #[v,.func (.func 136) #[] #[]] w fun e w'=>e=.returned (.bool (xs.all Ci))∧Below w.heap.size w w':=by
 obtain⟨ad,c,rfl,hc,H⟩:=h1
 have Hf:=aB H
 have HT:=aB ht
 clear H ht
 go_enter Tryz.func135,Tryz.ntmps135
 go_wp2_with fail
 go_loopw [9] (fun kk wq=>∃ q:Nat,kk=.int .i64 (q:Int)∧q≤xs.length∧xs.all Ci=(xs.drop q).all Ci∧Below w.heap.size w wq) (fun kk _=>xs.length - (intOf kk).toNat)
 case atStart=>exact⟨0,rfl,by omega,rfl,Below.refl _ _⟩
 case round=>
  obtain⟨q,rfl,hq,hall,hbq⟩:=hrel
  have dN:=aB hbq
  have sC:=aB hall
  have zR:=hbq.size
  clear hbq hall
  by_cases nM:q<xs.length
  ·obtain⟨x,hx⟩:∃ x,xs[q]? = some x:=⟨_,List.getElem?_eq_getElem nM⟩
   rcases Hf.out with h0 | ⟨g,o,rfl,hg,hk⟩
   ·rw[h0]at hx;simp at hx
   have b3:=dN.out.block g (hS g hg)
   have hcell:=hk q x hx
   have e0:wr.cell? ⟨g,o+q*6,none⟩=some (.bool x.rep):=by
    rw[World.cell?_of_block b3]
    have:=hcell 0 _ rfl
    simpa [Nat.add_assoc]using this
   have e1:wr.cell? ⟨g,o+q*6+1,none⟩=some (.string (aC x.type)):=by
    rw[World.cell?_of_block b3]
    have:=hcell 1 _ rfl
    simpa [Nat.add_assoc]using this
   have e2:wr.cell? ⟨g,o+q*6+2,none⟩=some (.string (aC x.name)):=by
    rw[World.cell?_of_block b3]
    have:=hcell 2 _ rfl
    simpa [Nat.add_assoc]using this
   have e3:wr.cell? ⟨g,o+q*6+3,none⟩=some (.int .i64 x.num):=by
    rw[World.cell?_of_block b3]
    have:=hcell 3 _ rfl
    simpa [Nat.add_assoc]using this
   have e4:wr.cell? ⟨g,o+q*6+4,none⟩=some (.int .i64 x.line):=by
    rw[World.cell?_of_block b3]
    have:=hcell 4 _ rfl
    simpa [Nat.add_assoc]using this
   have e5:wr.cell? ⟨g,o+q*6+5,none⟩=some (.int .i64 x.col):=by
    rw[World.cell?_of_block b3]
    have:=hcell 5 _ rfl
    simpa [Nat.add_assoc]using this
   have hq0:(0:Int)≤(q:Int):=by omega
   have hq1:(q:Int)<(xs.length:Int):=by omega
   have hwq:=eE q (by omega)
   have HX:Hid (xs.all Ci=(Ci x&&(xs.drop (q+1)).all Ci)):=by
    refine(?_:_=_)
    rw[sC.out,List.drop_eq_getElem_cons nM,List.all_cons,(List.getElem?_eq_some_iff.1 hx).2]
   have fP:=fun W=>Ut x W (HT.out x (List.mem_of_getElem? hx))
   have gE:=dN.out.alloc zR (.cells #[.bool x.rep,.string (aC x.type),.string (aC x.name),.int .i64 x.num,.int .i64 x.line,.int .i64 x.col] 71)
   have cE:=aB gE
   clear hx hk b3 hcell gE
   generalize Ci x=OK at *
   go_wp2_with fail
   refine(fP _).mono ?_
   rintro e Y ⟨rfl,hbw⟩
   have iU:=aB (cE.out.trans (hbw.mono cE.out.size))
   clear fP hbw e0 e1 e2 e3 e4 e5
   cases OK with
   | false=>
    go_wp2_with fail
    go_ret
    exact⟨aU (by rw[HX.out];rfl),iU.out⟩
   | true=>
    go_wp2_with fail
    go_roundw
    case rel=>exact⟨q+1,by go_num,by omega,by rw[HX.out];rfl,iU.out⟩
    case measure=>simp[intOf];omega
  ·have pH:¬(q:Int)<(xs.length:Int):=by omega
   have hal:xs.all Ci=true:=by rw[sC.out,List.drop_eq_nil_of_le (by omega)];rfl
   have HA:=aB hal
   clear hal
   go_wp2_with fail
   go_ret
   exact⟨aU (by rw[HA.out]),dN.out⟩
set_option maxHeartbeats 4000000 in
set_option maxRecDepth 20000 in
theorem Ux (x:Vl) (w:World) (hx:TV x) :
  Calls Tryz.prog 138 #[.agg #[.string (aC x.name),.int .i64 x.num,.int .i64 x.line,.int .i64 x.col]] w fun e w'=>e=.returned (.bool (Cj x))∧Below w.heap.size w w':=by
 have h0:=fun W=>oZ x.name W hx
 have h1:=fun W=>tV x.num W
 have jX:Hid (Cj x=(aZ x.name&&eF x.num)):=rfl
 clear hx
 generalize Cj x=OK at *
 generalize aZ x.name=b0 at *
 generalize eF x.num=b1 at *
 have zQ:=(Below.refl w.heap.size w).alloc (Nat.le_refl _) (.cells #[.string (aC x.name),.int .i64 x.num,.int .i64 x.line,.int .i64 x.col] 74)
 have hV:(w.alloc (.cells #[.string (aC x.name),.int .i64 x.num,.int .i64 x.line,.int .i64 x.col] 74)).heap[w.heap.size]? = some (.cells #[.string (aC x.name),.int .i64 x.num,.int .i64 x.line,.int .i64 x.col] 74 (0,0)):=alloc_heap_new _ _
 go_enter Tryz.func138,Tryz.ntmps138
 go_upto_region 1 with fail
 generalize (w.alloc (.cells #[.string (aC x.name),.int .i64 x.num,.int .i64 x.line,.int .i64 x.col] 74))=V at *
 have HB:=aB zQ
 have HV:=aB hV
 have hs:=zQ.size
 have hlt:=aN hV
 clear zQ hV
 have hv0:V.heap[w.heap.size]? = some (.cells #[.string (aC x.name),.int .i64 x.num,.int .i64 x.line,.int .i64 x.col] 74 (0,0)):=HV.out
 have c0:=aA hv0 0 rfl
 have mV:=aB hv0
 have Uu:=aN hv0
 clear hv0
 go_wp2_with fail
 refine(h0 _).mono ?_
 rintro e Y0 ⟨rfl,hb0⟩
 have HB0:=aB (HB.out.trans (hb0.mono HB.out.size))
 have Uv:=aB ((hb0.block _ Uu).trans mV.out)
 clear c0 hb0
 cases b0 with
 | false=>
  clear h0 h1
  go_wp2_with fail
  go_ret
  exact⟨aU (by rw[jX.out];simp),HB0.out⟩
 | true=>
  have hv1:Y0.heap[w.heap.size]? = some (.cells #[.string (aC x.name),.int .i64 x.num,.int .i64 x.line,.int .i64 x.col] 74 (0,0)):=Uv.out
  have c1:=aA hv1 1 rfl
  have kI:=aB hv1
  have hlt1:=aN hv1
  clear hv1
  go_wp2_with fail
  refine(h1 _).mono ?_
  rintro e Y1 ⟨rfl,hb1⟩
  have HB1:=aB (HB0.out.trans (hb1.mono HB0.out.size))
  have aAl:=aB ((hb1.block _ hlt1).trans kI.out)
  clear c1 hb1
  clear h0 h1
  go_wp2_with fail
  go_ret
  exact⟨aU (by rw[jX.out];simp),HB1.out⟩
set_option maxHeartbeats 8000000 in
set_option maxRecDepth 20000 in
theorem Uy {S:Nat→Prop} (v:Value) (xs:List Vl) (w:World) (h1:RowsIn w S 4 sJ v xs) (hS:∀ b,S b→b<w.heap.size) (hl:xs.length≤100000) (ht:∀ x∈xs,TV x) :
  Calls Tryz.prog 137 #[v,.func (.func 138) #[] #[]] w fun e w'=>e=.returned (.bool (xs.all Cj))∧Below w.heap.size w w':=by
 obtain⟨ad,c,rfl,hc,H⟩:=h1
 have Hf:=aB H
 have HT:=aB ht
 clear H ht
 go_enter Tryz.func137,Tryz.ntmps137
 go_wp2_with fail
 go_loopw [9] (fun kk wq=>∃ q:Nat,kk=.int .i64 (q:Int)∧q≤xs.length∧xs.all Cj=(xs.drop q).all Cj∧Below w.heap.size w wq) (fun kk _=>xs.length - (intOf kk).toNat)
 case atStart=>exact⟨0,rfl,by omega,rfl,Below.refl _ _⟩
 case round=>
  obtain⟨q,rfl,hq,hall,hbq⟩:=hrel
  have dN:=aB hbq
  have sC:=aB hall
  have zR:=hbq.size
  clear hbq hall
  by_cases nM:q<xs.length
  ·obtain⟨x,hx⟩:∃ x,xs[q]? = some x:=⟨_,List.getElem?_eq_getElem nM⟩
   rcases Hf.out with h0 | ⟨g,o,rfl,hg,hk⟩
   ·rw[h0]at hx;simp at hx
   have b3:=dN.out.block g (hS g hg)
   have hcell:=hk q x hx
   have e0:wr.cell? ⟨g,o+q*4,none⟩=some (.string (aC x.name)):=by
    rw[World.cell?_of_block b3]
    have:=hcell 0 _ rfl
    simpa [Nat.add_assoc]using this
   have e1:wr.cell? ⟨g,o+q*4+1,none⟩=some (.int .i64 x.num):=by
    rw[World.cell?_of_block b3]
    have:=hcell 1 _ rfl
    simpa [Nat.add_assoc]using this
   have e2:wr.cell? ⟨g,o+q*4+2,none⟩=some (.int .i64 x.line):=by
    rw[World.cell?_of_block b3]
    have:=hcell 2 _ rfl
    simpa [Nat.add_assoc]using this
   have e3:wr.cell? ⟨g,o+q*4+3,none⟩=some (.int .i64 x.col):=by
    rw[World.cell?_of_block b3]
    have:=hcell 3 _ rfl
    simpa [Nat.add_assoc]using this
   have hq0:(0:Int)≤(q:Int):=by omega
   have hq1:(q:Int)<(xs.length:Int):=by omega
   have hwq:=eE q (by omega)
   have HX:Hid (xs.all Cj=(Cj x&&(xs.drop (q+1)).all Cj)):=by
    refine(?_:_=_)
    rw[sC.out,List.drop_eq_getElem_cons nM,List.all_cons,(List.getElem?_eq_some_iff.1 hx).2]
   have fP:=fun W=>Ux x W (HT.out x (List.mem_of_getElem? hx))
   have gE:=dN.out.alloc zR (.cells #[.string (aC x.name),.int .i64 x.num,.int .i64 x.line,.int .i64 x.col] 74)
   have cE:=aB gE
   clear hx hk b3 hcell gE
   generalize Cj x=OK at *
   go_wp2_with fail
   refine(fP _).mono ?_
   rintro e Y ⟨rfl,hbw⟩
   have iU:=aB (cE.out.trans (hbw.mono cE.out.size))
   clear fP hbw e0 e1 e2 e3
   cases OK with
   | false=>
    go_wp2_with fail
    go_ret
    exact⟨aU (by rw[HX.out];rfl),iU.out⟩
   | true=>
    go_wp2_with fail
    go_roundw
    case rel=>exact⟨q+1,by go_num,by omega,by rw[HX.out];rfl,iU.out⟩
    case measure=>simp[intOf];omega
  ·have pH:¬(q:Int)<(xs.length:Int):=by omega
   have hal:xs.all Cj=true:=by rw[sC.out,List.drop_eq_nil_of_le (by omega)];rfl
   have HA:=aB hal
   clear hal
   go_wp2_with fail
   go_ret
   exact⟨aU (by rw[HA.out]),dN.out⟩
set_option maxHeartbeats 4000000 in
set_option maxRecDepth 20000 in
theorem Uz (x:Mt) (w:World) (hx:TM x) :
  Calls Tryz.prog 140 #[.agg #[.string (aC x.name),.string (aC x.inp),.string (aC x.out),.int .i64 x.line,.int .i64 x.col]] w fun e w'=>e=.returned (.bool (Ck x))∧Below w.heap.size w w':=by
 have h0:=fun W=>oZ x.name W hx.1
 have h1:=fun W=>tA x.inp W hx.2.1
 have h2:=fun W=>tA x.out W hx.2.2
 have jX:Hid (Ck x=(aZ x.name&&cF x.inp&&cF x.out)):=rfl
 clear hx
 generalize Ck x=OK at *
 generalize aZ x.name=b0 at *
 generalize cF x.inp=b1 at *
 generalize cF x.out=b2 at *
 have zQ:=(Below.refl w.heap.size w).alloc (Nat.le_refl _) (.cells #[.string (aC x.name),.string (aC x.inp),.string (aC x.out),.int .i64 x.line,.int .i64 x.col] 77)
 have hV:(w.alloc (.cells #[.string (aC x.name),.string (aC x.inp),.string (aC x.out),.int .i64 x.line,.int .i64 x.col] 77)).heap[w.heap.size]? = some (.cells #[.string (aC x.name),.string (aC x.inp),.string (aC x.out),.int .i64 x.line,.int .i64 x.col] 77 (0,0)):=alloc_heap_new _ _
 go_enter Tryz.func140,Tryz.ntmps140
 go_upto_region 1 with fail
 generalize (w.alloc (.cells #[.string (aC x.name),.string (aC x.inp),.string (aC x.out),.int .i64 x.line,.int .i64 x.col] 77))=V at *
 have HB:=aB zQ
 have HV:=aB hV
 have hs:=zQ.size
 have hlt:=aN hV
 clear zQ hV
 have hv0:V.heap[w.heap.size]? = some (.cells #[.string (aC x.name),.string (aC x.inp),.string (aC x.out),.int .i64 x.line,.int .i64 x.col] 77 (0,0)):=HV.out
 have c0:=aA hv0 0 rfl
 have mV:=aB hv0
 have Uu:=aN hv0
 clear hv0
 go_wp2_with fail
 refine(h0 _).mono ?_
 rintro e Y0 ⟨rfl,hb0⟩
 have HB0:=aB (HB.out.trans (hb0.mono HB.out.size))
 have Uv:=aB ((hb0.block _ Uu).trans mV.out)
 clear c0 hb0
 cases b0 with
 | false=>
  clear h0 h1 h2
  go_wp2_with fail
  go_ret
  exact⟨aU (by rw[jX.out];simp),HB0.out⟩
 | true=>
  have hv1:Y0.heap[w.heap.size]? = some (.cells #[.string (aC x.name),.string (aC x.inp),.string (aC x.out),.int .i64 x.line,.int .i64 x.col] 77 (0,0)):=Uv.out
  have c1:=aA hv1 1 rfl
  have kI:=aB hv1
  have hlt1:=aN hv1
  clear hv1
  go_wp2_with fail
  refine(h1 _).mono ?_
  rintro e Y1 ⟨rfl,hb1⟩
  have HB1:=aB (HB0.out.trans (hb1.mono HB0.out.size))
  have aAl:=aB ((hb1.block _ hlt1).trans kI.out)
  clear c1 hb1
  cases b1 with
  | false=>
   clear h0 h1 h2
   go_wp2_with fail
   go_ret
   exact⟨aU (by rw[jX.out];simp),HB1.out⟩
  | true=>
   have hv2:Y1.heap[w.heap.size]? = some (.cells #[.string (aC x.name),.string (aC x.inp),.string (aC x.out),.int .i64 x.line,.int .i64 x.col] 77 (0,0)):=aAl.out
   have c2:=aA hv2 2 rfl
   have Mw:=aB hv2
   have hlt2:=aN hv2
   clear hv2
   go_wp2_with fail
   refine(h2 _).mono ?_
   rintro e Y2 ⟨rfl,hb2⟩
   have HB2:=aB (HB1.out.trans (hb2.mono HB1.out.size))
   have aSs:=aB ((hb2.block _ hlt2).trans Mw.out)
   clear c2 hb2
   clear h0 h1 h2
   go_wp2_with fail
   go_ret
   exact⟨aU (by rw[jX.out];simp),HB2.out⟩
set_option maxHeartbeats 8000000 in
set_option maxRecDepth 20000 in
theorem Va {S:Nat→Prop} (v:Value) (xs:List Mt) (w:World) (h1:RowsIn w S 5 sK v xs) (hS:∀ b,S b→b<w.heap.size) (hl:xs.length≤100000) (ht:∀ x∈xs,TM x) :
  Calls Tryz.prog 139 #[v,.func (.func 140) #[] #[]] w fun e w'=>e=.returned (.bool (xs.all Ck))∧Below w.heap.size w w':=by
 obtain⟨ad,c,rfl,hc,H⟩:=h1
 have Hf:=aB H
 have HT:=aB ht
 clear H ht
 go_enter Tryz.func139,Tryz.ntmps139
 go_wp2_with fail
 go_loopw [9] (fun kk wq=>∃ q:Nat,kk=.int .i64 (q:Int)∧q≤xs.length∧xs.all Ck=(xs.drop q).all Ck∧Below w.heap.size w wq) (fun kk _=>xs.length - (intOf kk).toNat)
 case atStart=>exact⟨0,rfl,by omega,rfl,Below.refl _ _⟩
 case round=>
  obtain⟨q,rfl,hq,hall,hbq⟩:=hrel
  have dN:=aB hbq
  have sC:=aB hall
  have zR:=hbq.size
  clear hbq hall
  by_cases nM:q<xs.length
  ·obtain⟨x,hx⟩:∃ x,xs[q]? = some x:=⟨_,List.getElem?_eq_getElem nM⟩
   rcases Hf.out with h0 | ⟨g,o,rfl,hg,hk⟩
   ·rw[h0]at hx;simp at hx
   have b3:=dN.out.block g (hS g hg)
   have hcell:=hk q x hx
   have e0:wr.cell? ⟨g,o+q*5,none⟩=some (.string (aC x.name)):=by
    rw[World.cell?_of_block b3]
    have:=hcell 0 _ rfl
    simpa [Nat.add_assoc]using this
   have e1:wr.cell? ⟨g,o+q*5+1,none⟩=some (.string (aC x.inp)):=by
    rw[World.cell?_of_block b3]
    have:=hcell 1 _ rfl
    simpa [Nat.add_assoc]using this
   have e2:wr.cell? ⟨g,o+q*5+2,none⟩=some (.string (aC x.out)):=by
    rw[World.cell?_of_block b3]
    have:=hcell 2 _ rfl
    simpa [Nat.add_assoc]using this
   have e3:wr.cell? ⟨g,o+q*5+3,none⟩=some (.int .i64 x.line):=by
    rw[World.cell?_of_block b3]
    have:=hcell 3 _ rfl
    simpa [Nat.add_assoc]using this
   have e4:wr.cell? ⟨g,o+q*5+4,none⟩=some (.int .i64 x.col):=by
    rw[World.cell?_of_block b3]
    have:=hcell 4 _ rfl
    simpa [Nat.add_assoc]using this
   have hq0:(0:Int)≤(q:Int):=by omega
   have hq1:(q:Int)<(xs.length:Int):=by omega
   have hwq:=eE q (by omega)
   have HX:Hid (xs.all Ck=(Ck x&&(xs.drop (q+1)).all Ck)):=by
    refine(?_:_=_)
    rw[sC.out,List.drop_eq_getElem_cons nM,List.all_cons,(List.getElem?_eq_some_iff.1 hx).2]
   have fP:=fun W=>Uz x W (HT.out x (List.mem_of_getElem? hx))
   have gE:=dN.out.alloc zR (.cells #[.string (aC x.name),.string (aC x.inp),.string (aC x.out),.int .i64 x.line,.int .i64 x.col] 77)
   have cE:=aB gE
   clear hx hk b3 hcell gE
   generalize Ck x=OK at *
   go_wp2_with fail
   refine(fP _).mono ?_
   rintro e Y ⟨rfl,hbw⟩
   have iU:=aB (cE.out.trans (hbw.mono cE.out.size))
   clear fP hbw e0 e1 e2 e3 e4
   cases OK with
   | false=>
    go_wp2_with fail
    go_ret
    exact⟨aU (by rw[HX.out];rfl),iU.out⟩
   | true=>
    go_wp2_with fail
    go_roundw
    case rel=>exact⟨q+1,by go_num,by omega,by rw[HX.out];rfl,iU.out⟩
    case measure=>simp[intOf];omega
  ·have pH:¬(q:Int)<(xs.length:Int):=by omega
   have hal:xs.all Ck=true:=by rw[sC.out,List.drop_eq_nil_of_le (by omega)];rfl
   have HA:=aB hal
   clear hal
   go_wp2_with fail
   go_ret
   exact⟨aU (by rw[HA.out]),dN.out⟩
end Go.Proofs.YtpojeinddnjpfaaGreatDoor
