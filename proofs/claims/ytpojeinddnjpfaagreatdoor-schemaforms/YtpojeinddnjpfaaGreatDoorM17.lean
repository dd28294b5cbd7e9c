/-
  Walks and plain words (PtE Shelf Tab Run Nam Val WtA RpA).
-/
import Derived.Test.YtpojeinddnjpfaaGreatDoorM15
import Derived.Shelf.Unicode.DecodeAny
import Derived.Shelf.Unicode.ValidAny
import Derived.Ground.NamesProg
import Derived.Shelf.LaysM
import Derived.Shelf.LaysC
import Derived.Test.YtpojeinddnjpfaaGreatDoorProg
import Derived.Below
import Derived.Test.YtpojeinddnjpfaaGreatDoorM0
import Derived.WalkKit
import Derived.ProofKit
import Derived.Laws.IdiomStrings
import Derived.Lib.ValidLaws
import Derived.Lib.TrimUEq
import Derived.Test.YtpojeinddnjpfaaGreatDoorM2
import Derived.Test.YtpojeinddnjpfaaGreatDoorM4
import Derived.Test.YtpojeinddnjpfaaGreatDoorM12
import Derived.Deep.RegionHeldLaw
import Derived.Laws.Externs
import Derived.Lib.BufferKept
import Derived.Lib.FrozenHead2
import Derived.Lib.AppendIntMem
import Derived.Shelf.RegionOpenPlain
import Derived.Test.YtpojeinddnjpfaaGreatDoorM16
namespace Go.Proofs.YtpojeinddnjpfaaGreatDoor
set_option linter.unusedVariables false
open Go.Shelf Go.RowKit

def cY (s:ByteArray) (e:Ending) (w':World):Prop:=
 if (pieces s).length≤8∧bT s=true then ∃ g c,e=.returned (.tuple #[.slice (some ⟨g,0,none⟩) (pieces s).length c,.bool true])∧rL w' g (pieces s)∧(pieces s).length≤c
 else e=.returned (.tuple #[.slice none 0 0,.bool false])
theorem qH {s:ByteArray} {e:Ending} {w':World} (h:¬((pieces s).length≤8∧bT s=true)) (he:e=.returned (.tuple #[.slice none 0 0,.bool false])):cY s e w':=by
 unfold cY;rw[if_neg h];exact he

set_option maxHeartbeats 4000000 in
theorem wO (s:ByteArray) (w:World) (hs:s.size≤200000000) :
  Calls Tryz.prog 130 #[.string s] w fun e w'=>cY s e w'∧Below w.heap.size w w':=by
 have hSp:=Jk s w (by omega)
 have hpl:=jU s
 by_cases h8:(pieces s).length≤8
 ·rw[Jj s h8]at hSp
  have hN:(pieces s).length≤min 9 (s.size+1):=by omega
  have hN2:min 9 (s.size+1)≤9:=by omega
  have Bf:Hid (∀ e w',(bT s=true→∃ g c,e=.returned (.tuple #[.slice (some ⟨g,0,none⟩) (pieces s).length c,.bool true])∧rL w' g (pieces s)∧(pieces s).length≤c)→(bT s=false→e=.returned (.tuple #[.slice none 0 0,.bool false]))→cY s e w'):=by
   intro e w' h1 h2
   unfold cY
   by_cases hp:bT s=true
   ·rw[if_pos ⟨h8,hp⟩];exact h1 hp
   ·rw[if_neg (fun h=>hp h.2)];exact h2 (by simpa using hp)
  have HAP:Hid (bT s=(pieces s).all bX):=rfl
  have HSZ:Hid (∀ x∈pieces s,x.size≤200000000):=fun x hx=>by have:=qE hx;omega
  generalize min 9 (s.size+1)=N at *
  generalize pieces s=xs at *
  generalize bT s=AP at *
  generalize cY s=PA at *
  obtain⟨n,hn⟩:∃ n,xs.length=n:=⟨_,rfl⟩
  have HN:Hid (xs.length=n):=hn
  rw[hn]at hSp h8 hN hpl Bf
  clear hn
  go_enter Tryz.func130,Tryz.ntmps130
  go_wp2_with fail
  refine hSp.mono ?_
  rintro e w1 ⟨rfl,hw1⟩
  have hg1:w1.heap[w.heap.size]? = some (.cells (Lib.cellsOf xs N) 9 (0,0)):=by rw[hw1];exact wM _ _
  have hb1:Below w.heap.size w w1:=by rw[hw1];exact(Below.refl _ w).alloc (Nat.le_refl _) _
  clear hw1 hSp
  have h8':¬(8:Int)<(n:Int):=by omega
  go_wp2_with fail
  go_loopw [14] (fun i wr=>∃ k:Nat,k≤n∧i=.int .i64 k∧wr.heap[w.heap.size]? = some (.cells (Lib.cellsOf xs N) 9 (0,0))∧Below w.heap.size w wr∧xs.all bX=(xs.drop k).all bX) (fun i _=>n - (intOf i).toNat)
  case atStart=>exact⟨0,by omega,rfl,hg1,hb1,rfl⟩
  case round=>
   clear hg1 hb1
   obtain⟨k,hk,rfl,hg,hbw,hall⟩:=hrel
   have HA:Hid (xs.all bX=(xs.drop k).all bX):=hall
   clear hall
   by_cases hlt:k<n
   ·obtain⟨z,hz⟩:∃ z,xs[k]? = some z:=⟨_,List.getElem?_eq_getElem (by have:=HN.out;omega)⟩
    have hcell:wr.cell? ⟨w.heap.size,k,none⟩=some (.string z):=by
     simp only[World.cell?,hg];exact nT hz
    have hzs:z.size≤200000000:=HSZ.out z (List.mem_of_getElem? hz)
    have Pd:Hid (xs.all bX=((nameOf (runes z)&&!gJ z.toList)&&(xs.drop (k+1)).all bX)):=by
     refine(?_:_=_)
     rw[HA.out,zK hz,To]
    have HZ:Hid ((Lib.cellsOf xs N)[k]? = some (.string z)):=nT hz
    have hNm:=fun W=>rC z W (by omega)
    have hRs:=fun W=>iD z W
    have Rs:=fun W=>Ix z W (by omega)
    clear HA hz
    generalize nameOf (runes z)=NZ at *
    generalize gJ z.toList=RZ at *
    have HG:Hid (wr.heap[w.heap.size]? = some (.cells (Lib.cellsOf xs N) 9 (0,0))):=hg
    have aRx:w.heap.size<wr.heap.size:=aN hg
    clear hg
    cases NZ with
    | false=>
     have HX:Hid (AP=false):=by
      refine(?_:AP=false)
      rw[HAP.out,Pd.out];simp
     go_wp2_with fail
     refine(hNm _).mono ?_
     rintro e w2 ⟨rfl,hb2⟩
     clear hNm hRs Rs
     go_wp2_with fail
     go_ret2
     refine⟨Bf.out _ _ (fun h=>by rw[HX.out]at h;simp at h) (fun _=>rfl),hbw.trans (hb2.mono hbw.size)⟩
    | true=>
     cases RZ with
     | true=>
      have HX:Hid (AP=false):=by
       refine(?_:AP=false)
       rw[HAP.out,Pd.out];simp
      go_wp2_with fail
      refine(hNm _).mono ?_
      rintro e w2 ⟨rfl,hb2⟩
      go_wp2_with fail
      refine(hRs _).mono ?_
      rintro e w3 ⟨rfl,rfl⟩
      clear hNm hRs Rs
      go_wp2_with fail
      go_ret2
      refine⟨Bf.out _ _ (fun h=>by rw[HX.out]at h;simp at h) (fun _=>rfl),hbw.trans (hb2.mono hbw.size)⟩
     | false=>
      have HX:Hid (xs.all bX=(xs.drop (k+1)).all bX):=by
       refine(?_:_=_)
       rw[Pd.out];simp
      go_wp2_with fail
      refine(hNm _).mono ?_
      rintro e w2 ⟨rfl,hb2⟩
      have hb2':=hbw.trans (hb2.mono hbw.size)
      have hg2:w2.heap[w.heap.size]? = some (.cells (Lib.cellsOf xs N) 9 (0,0)):=by rw[hb2.block _ aRx];exact HG.out
      clear hb2
      go_wp2_with fail
      refine(hRs _).mono ?_
      rintro e w3 ⟨rfl,rfl⟩
      go_wp2_with fail
      refine(Rs _).mono ?_
      rintro e w4 ⟨rfl,hb4⟩
      have hg4:w4.heap[w.heap.size]? = some (.cells (Lib.cellsOf xs N) 9 (0,0)):=by rw[hb4.block _ (aN hg2)];exact hg2
      have Bg:=hb2'.trans (hb4.mono hb2'.size)
      have hc4:w4.cell? ⟨w.heap.size,k,none⟩=some (.string z):=by simp only[World.cell?,hg4];exact HZ.out
      have hf4:w4.frozen? ⟨w.heap.size,k,none⟩=false:=Lib.frozen_of_heap hg4 k
      have hg5:=Zx w4 w.heap.size k _ _ _ hg4 HZ.out
      have hb5:=Bg.setCell (p:=⟨w.heap.size,k,none⟩) (Nat.le_refl _) (.string z)
      have HG5:Hid ((w4.setCell ⟨w.heap.size,k,none⟩ (.string z)).heap[w.heap.size]? = some (.cells (Lib.cellsOf xs N) 9 (0,0))):=hg5
      clear hNm hRs Rs hb4 hg4 hg2 hg5 Bg hb2'
      go_wp2_with fail
      go_roundw
      case rel=>exact⟨k+1,by omega,by go_num,HG5.out,hb5,HX.out⟩
      case measure=>simp[intOf];omega
   ·have HX:Hid (AP=true):=by
     refine(?_:AP=true)
     rw[HAP.out,HA.out,List.drop_eq_nil_of_le (by have:=HN.out;omega)];rfl
    have HH:Hid (rL wr w.heap.size xs):=by
     intro j x hj
     simp only[World.cell?,hg];exact nT hj
    clear HA
    go_wp2_with fail
    go_ret2
    refine⟨Bf.out _ _ (fun _=>⟨_,_,rfl,HH.out,hN⟩) (fun h=>by rw[HX.out]at h;simp at h),hbw⟩
 ·have hm:=Fa s (by omega)
  generalize (Lib.splitB ⟨#[46]⟩ 0 (min 9 (s.size+1) - 1) s)=ys at *
  have hm':(8:Int)<(ys.length:Int):=by omega
  have HP:Hid (∀ e w',e=.returned (.tuple #[.slice none 0 0,.bool false])→cY s e w'):=fun e w' he=>qH (fun h=>h8 h.1) he
  clear hpl
  go_enter Tryz.func130,Tryz.ntmps130
  go_wp2_with fail
  refine hSp.mono ?_
  rintro e w1 ⟨rfl,hw1⟩
  have hb1:Below w.heap.size w w1:=by rw[hw1];exact(Below.refl _ w).alloc (Nat.le_refl _) _
  clear hw1 hSp
  go_wp2_with fail
  go_ret2
  exact⟨HP.out _ _ rfl,hb1⟩
theorem iG (s:ByteArray):cF s.data.toList=(decide ((pieces s).length≤8)&&bT s):=by
 unfold cF bT pieces
 rw[List.length_map,List.all_map]
 congr 1
 congr 1
 funext x
 show aZ x=bX ⟨x.toArray⟩
 unfold aZ bX
 rw[ByteArray.toList_eq]
set_option maxHeartbeats 1000000 in
theorem Pe (s:ByteArray) (w:World) (hs:s.size≤200000000) :
  Calls Tryz.prog 172 #[.string s] w fun e w'=>e=.returned (.bool (cF s.data.toList))∧Below w.heap.size w w':=by
 have hP:=wO s w hs
 have hq:=iG s
 obtain⟨R,hR⟩:∃ R,cF s.data.toList=R:=⟨_,rfl⟩
 rw[hR]at hq ⊢
 have HQ:Hid (∀ e w',cY s e w'→∃ ad n c,e=.returned (.tuple #[.slice ad n c,.bool R])):=by
  intro e w' h
  unfold cY at h
  split at h
  ·rename_i hc
   obtain⟨g,c,he,_⟩:=h
   have:R=true:=by rw[hq,hc.2,decide_eq_true hc.1];rfl
   rw[this]
   exact⟨_,_,_,he⟩
  ·rename_i hc
   have:R=false:=by
    rw[hq]
    by_cases h8:(pieces s).length≤8
    ·have:bT s=false:=by
      cases hz:bT s with
      | false=>rfl
      | true=>exact absurd ⟨h8,hz⟩ hc
     rw[this];simp
    ·rw[decide_eq_false h8];rfl
   rw[this]
   exact⟨_,_,_,h⟩
 clear hq hR
 go_enter Tryz.func172,Tryz.ntmps172
 go_wp2_with fail
 refine hP.mono ?_
 rintro e w1 ⟨hA,hb⟩
 obtain⟨ad,n,c,rfl⟩:=HQ.out e w1 hA
 clear hP hA HQ
 go_wp2_with fail
 go_ret
 exact⟨rfl,hb⟩
def Fi : Go.Shelf.Ren := ⟨fun | 197 => 165 | 260 => 196 | n => n, fun | 9 => 9 | 21 => 21 | 3 => 3 | 4 => 4 | 5 => 5 | 105 => 198 | 119 => 265 | 0 => 0 | 46 => 223 | 139 => 268 | 138 => 267 | n => n, fun | 3 => 1 | 4 => 2 | n => n⟩
theorem aAa : Go.Proofs.Lays.n197 Tryz.prog Fi := {
  mixed := by kernel_rfl
  f197 := Tryz.func165.trans (congrArg some (by kernel_rfl))
  f260 := Tryz.func196.trans (congrArg some (by kernel_rfl))
  t0 := Tryz.underlying0
  a0 := Tryz.isAgg0
  z0 := Tryz.sizeOf0
  v0 := Tryz.zeroValue0
  t3 := Tryz.underlying3
  a3 := Tryz.isAgg3
  z3 := Tryz.sizeOf3
  v3 := Tryz.zeroValue3
  t4 := Tryz.underlying4
  a4 := Tryz.isAgg4
  z4 := Tryz.sizeOf4
  v4 := Tryz.zeroValue4
  t5 := Tryz.underlying5
  a5 := Tryz.isAgg5
  z5 := Tryz.sizeOf5
  v5 := Tryz.zeroValue5
  t9 := Tryz.underlying9
  a9 := Tryz.isAgg9
  z9 := Tryz.sizeOf9
  v9 := Tryz.zeroValue9
  t21 := Tryz.underlying21
  a21 := Tryz.isAgg21
  z21 := Tryz.sizeOf21
  v21 := Tryz.zeroValue21
  t46 := Tryz.underlying223
  a46 := Tryz.isAgg223
  z46 := Tryz.sizeOf223
  v46 := Tryz.zeroValue223
  t105 := Tryz.underlying198
  a105 := Tryz.isAgg198
  z105 := Tryz.sizeOf198
  v105 := Tryz.zeroValue198
  t119 := Tryz.underlying265
  a119 := Tryz.isAgg265
  z119 := Tryz.sizeOf265
  t138 := Tryz.underlying267
  a138 := Tryz.isAgg267
  z138 := Tryz.sizeOf267
  v138 := Tryz.zeroValue267
  t139 := Tryz.underlying268
  a139 := Tryz.isAgg268
  z139 := Tryz.sizeOf268
  v139 := Tryz.zeroValue268
  g3 := by kernel_rfl
  g4 := by kernel_rfl }
open Go.RowKit Go.Lib in
theorem utf8_DecodeRuneInString (s : ByteArray) (w : World) (hT : Lib.Utf8Tabs 1 2 w) :
    Calls Tryz.prog 165 #[.string s] w fun e w' => e = .returned (.tuple #[.int .i32 (Lib.decodeGo s).1, .int .i64 (Lib.decodeGo s).2]) ∧ Below w.heap.size w w' := Any.utf8_DecodeRuneInString aAa s w hT
def iP : Go.Shelf.Ren := ⟨fun | 196 => 169 | 259 => 198 | n => n, fun | 9 => 9 | 4 => 4 | 3 => 3 | 5 => 5 | 12 => 12 | 119 => 265 | 0 => 0 | 46 => 223 | 139 => 268 | 138 => 267 | 53 => 254 | n => n, fun | 3 => 1 | 4 => 2 | n => n⟩
theorem Mq : Go.Proofs.Lays.n196 Tryz.prog iP := {
  mixed := by kernel_rfl
  f196 := Tryz.func169.trans (congrArg some (by kernel_rfl))
  f259 := Tryz.func198.trans (congrArg some (by kernel_rfl))
  t0 := Tryz.underlying0
  a0 := Tryz.isAgg0
  z0 := Tryz.sizeOf0
  v0 := Tryz.zeroValue0
  t3 := Tryz.underlying3
  a3 := Tryz.isAgg3
  z3 := Tryz.sizeOf3
  v3 := Tryz.zeroValue3
  t4 := Tryz.underlying4
  a4 := Tryz.isAgg4
  z4 := Tryz.sizeOf4
  v4 := Tryz.zeroValue4
  t5 := Tryz.underlying5
  a5 := Tryz.isAgg5
  z5 := Tryz.sizeOf5
  v5 := Tryz.zeroValue5
  t9 := Tryz.underlying9
  a9 := Tryz.isAgg9
  z9 := Tryz.sizeOf9
  v9 := Tryz.zeroValue9
  t12 := Tryz.underlying12
  a12 := Tryz.isAgg12
  z12 := Tryz.sizeOf12
  v12 := Tryz.zeroValue12
  t46 := Tryz.underlying223
  a46 := Tryz.isAgg223
  z46 := Tryz.sizeOf223
  v46 := Tryz.zeroValue223
  t53 := Tryz.underlying254
  a53 := Tryz.isAgg254
  z53 := Tryz.sizeOf254
  v53 := Tryz.zeroValue254
  t119 := Tryz.underlying265
  a119 := Tryz.isAgg265
  z119 := Tryz.sizeOf265
  t138 := Tryz.underlying267
  a138 := Tryz.isAgg267
  z138 := Tryz.sizeOf267
  v138 := Tryz.zeroValue267
  t139 := Tryz.underlying268
  a139 := Tryz.isAgg268
  z139 := Tryz.sizeOf268
  v139 := Tryz.zeroValue268
  g3 := by kernel_rfl
  g4 := by kernel_rfl }
open Go.RowKit Go.Lib in
theorem utf8_ValidString (s : ByteArray) (w : World) (hs : s.size ≤ 9223372036854775807) (hT : Lib.Utf8Tabs (iP.g 3) (iP.g 4) w) :
    Calls Tryz.prog 169 #[.string s] w fun e w' => e = .returned (.bool (Lib.validD s.data.toList)) ∧ Below w.heap.size w w' := Any.utf8_ValidString Mq s w hs hT
def qI (w:World):Prop:=Lib.Utf8Tabs (iP.g 3) (iP.g 4) w
theorem dQ {w w':World} (h:qI w) (hb:RowKit.Below w.heap.size w w'):qI w':=Utf8Tabs_below h hb
open Go.ChangeShapes Go.WideShapes Go.ChangeAt
def Mr (w:World) (g:Nat) (rs:List Int):Prop:=∀ j z,rs[j]? = some z→w.cell? ⟨g,j,none⟩=some (.int .i32 z)
set_option maxHeartbeats 1000000 in
theorem tS (r:Int) (w:World) :
  Calls Tryz.prog 121 #[.int .i32 r] w fun e w'=>e=.returned (.bool (bH r))∧w'=w:=by
 go_enter Tryz.func121,Tryz.ntmps121
 go_wp2
 all_goals
  go_ret
  refine⟨aU ?_,rfl⟩
  unfold bH
  rw[Bool.eq_iff_iff]
  simp
  omega
set_option maxHeartbeats 1000000 in
theorem Jm (r:Int) (w:World) :
  Calls Tryz.prog 123 #[.int .i32 r] w fun e w'=>e=.returned (.bool (isDigit r))∧w'=w:=by
 go_enter Tryz.func123,Tryz.ntmps123
 go_wp2
 all_goals
  go_ret
  refine⟨aU ?_,rfl⟩
  unfold isDigit
  rw[Bool.eq_iff_iff]
  simp
  omega
theorem Pf (s:ByteArray) (w:World) (h:s.size≤70368744177664) :
  ∃ c w',(convert 9 210 (.string s)).run Tryz.prog w=.ok (.slice (some ⟨w.heap.size,0,none⟩) (runes s).length c) w'∧Mr w' w.heap.size (runes s)∧(runes s).length≤c∧Below w.heap.size w w':=by
 have hl:=yP s
 have hr:=run_runes_of_string (P:=Tryz.prog) w 9 210 21 s Tryz.underlying9 Tryz.underlying210 Tryz.underlying21 (by rw[Cu];simp;omega)
 rw[Cu]at hr
 simp only[List.size_toArray,List.length_map]at hr
 refine⟨_,_,hr,?_,grownCap_ge _ _ _ _,((Below.refl _ _).drew).alloc (by simp) _⟩
 intro j z hj
 have hlt:=(List.getElem?_eq_some_iff.1 hj).1
 have e:(w.drew.alloc (.cells (((runes s).map (Value.int .i32)).toArray++Array.replicate (grownCap w (runes s).length 0 21 - (runes s).length) (.int .i32 0)) 21)).cell? ⟨w.drew.heap.size,j,none⟩=(((runes s).map (Value.int .i32)).toArray++Array.replicate (grownCap w (runes s).length 0 21 - (runes s).length) (.int .i32 0))[j]?:=World.cell?_alloc_new _ _ _ _
 have e2:w.drew.heap.size=w.heap.size:=rfl
 rw[e2]at e
 rw[e,Array.getElem?_append_left (by simpa using hlt)]
 simp[hj]
set_option maxHeartbeats 2000000 in
set_option maxRecDepth 20000 in
theorem Jn (s:ByteArray) (w:World) (hT:qI w) (h:s.size≤70368744177664) :
  Calls Tryz.prog 134 #[.string s] w fun e w'=>
   (if Lib.validD s.data.toList=true then ∃ g c,e=.returned (.tuple #[.slice (some ⟨g,0,none⟩) (runes s).length c,.bool true])∧Mr w' g (runes s)∧(runes s).length≤c
    else e=.returned (.tuple #[.slice none 0 0,.bool false]))∧Below w.heap.size w w':=by
 have hv:=utf8_ValidString s w (by omega) hT
 obtain⟨V,hV⟩:∃ V,Lib.validD s.data.toList=V:=⟨_,rfl⟩
 rw[hV]at hv ⊢
 cases V with
 | false=>
  go_enter Tryz.func134,Tryz.ntmps134
  go_wp2_with fail
  refine hv.mono ?_
  rintro e w1 ⟨rfl,hb⟩
  go_wp2_with fail
  go_ret2
  exact⟨rfl,hb⟩
 | true=>
  go_enter Tryz.func134,Tryz.ntmps134
  go_wp2_with fail
  refine hv.mono ?_
  rintro e w1 ⟨rfl,hb⟩
  obtain⟨c,w2,hr,hH,hc,hb2⟩:=Pf s w1 h
  go_wp2_with fail
  go_ret2
  exact⟨⟨_,c,rfl,hH,hc⟩,hb.trans (hb2.mono hb.size)⟩
def isName (s:ByteArray):Bool:=Lib.validD s.data.toList&&nameOf (runes s)
set_option maxHeartbeats 2000000 in
theorem Pg (s:ByteArray) (w:World) (hT:qI w) (h:s.size≤70368744177664) :
  Calls Tryz.prog 91 #[.string s] w fun e w'=>e=.returned (.bool (isName s))∧Below w.heap.size w w':=by
 have hR:=Jn s w hT h
 have hrl:=yP s
 unfold isName
 obtain⟨V,hV⟩:∃ V,Lib.validD s.data.toList=V:=⟨_,rfl⟩
 rw[hV]at hR ⊢
 cases V with
 | false=>
  simp only[Bool.false_eq_true,if_false]at hR
  rw[Bool.false_and]
  go_enter Tryz.func91,Tryz.ntmps91
  go_wp2_with fail
  refine hR.mono ?_
  rintro e w1 ⟨rfl,hb⟩
  go_wp2_with fail
  go_ret
  exact⟨rfl,hb⟩
 | true=>
  simp only[if_true]at hR
  rw[Bool.true_and]
  generalize runes s=l at *
  have HR:Hid (Calls Tryz.prog 134 #[.string s] w fun e w'=>(∃ g c,e=.returned (.tuple #[.slice (some ⟨g,0,none⟩) l.length c,.bool true])∧Mr w' g l∧l.length≤c)∧Below w.heap.size w w'):=hR
  clear hR hV
  obtain⟨n,hn⟩:∃ n,l.length=n:=⟨_,rfl⟩
  have HN:Hid (l.length=n):=hn
  rw[hn]at hrl
  clear hn
  have dR:Hid (nameOf l=(decide (1≤n∧n≤40)&&bH (l.headD 0)&&l.all aK)):=by
   refine(?_:nameOf l=_)
   unfold nameOf;rw[HN.out]
  by_cases h0:n=0
  ·have HV:Hid (nameOf l=false):=by
    refine(?_:nameOf l=false)
    rw[dR.out,decide_eq_false (by omega)];simp
   clear dR
   go_enter Tryz.func91,Tryz.ntmps91
   go_wp2_with fail
   refine HR.out.mono ?_
   rintro e w1 ⟨⟨g,c,rfl,hH,hc⟩,hb⟩
   rw[HN.out,h0]
   clear hH
   go_wp2_with fail
   go_ret
   exact⟨aU HV.out.symm,hb⟩
  ·by_cases h40:40<n
   ·have HV:Hid (nameOf l=false):=by
     refine(?_:nameOf l=false)
     rw[dR.out,decide_eq_false (by omega)];simp
    clear dR
    go_enter Tryz.func91,Tryz.ntmps91
    go_wp2_with fail
    refine HR.out.mono ?_
    rintro e w1 ⟨⟨g,c,rfl,hH,hc⟩,hb⟩
    rw[HN.out]
    clear hH hc
    go_wp2_with fail
    go_ret
    exact⟨aU HV.out.symm,hb⟩
   ·obtain⟨z0,hz0⟩:∃ z,l[0]? = some z:=⟨_,List.getElem?_eq_getElem (by have:=HN.out;omega)⟩
    have hhd:l.headD 0=z0:=by
     cases l with
     | nil=>simp at hz0
     | cons a t=>simpa using hz0
    obtain⟨L0,hL0⟩:∃ L0,bH z0=L0:=⟨_,rfl⟩
    have Pi:Hid (nameOf l=(L0&&l.all aK)):=by
     refine(?_:nameOf l=_)
     rw[dR.out,decide_eq_true (by omega),hhd,hL0];simp
    have HLe:=fun W=>tS z0 W
    rw[hL0]at HLe
    clear dR hhd hL0
    cases L0 with
    | false=>
     have HV:Hid (nameOf l=false):=by
      refine(?_:nameOf l=false)
      rw[Pi.out];simp
     go_enter Tryz.func91,Tryz.ntmps91
     go_wp2_with fail
     refine HR.out.mono ?_
     rintro e w1 ⟨⟨g,c,rfl,hH,hc⟩,hb⟩
     have hc0:=hH 0 z0 hz0
     rw[HN.out]
     rw[HN.out]at hc
     clear hH
     go_wp2_with fail
     refine(HLe _).mono ?_
     rintro e w2 ⟨rfl,rfl⟩
     go_wp2_with fail
     go_ret
     exact⟨aU HV.out.symm,hb⟩
    | true=>
     have HV:Hid (nameOf l=l.all aK):=by
      refine(?_:nameOf l=l.all aK)
      rw[Pi.out];simp
     clear Pi
     go_enter Tryz.func91,Tryz.ntmps91
     go_wp2_with fail
     refine HR.out.mono ?_
     rintro e w1 ⟨⟨g,c,rfl,hH,hc⟩,hb⟩
     have hc0:=hH 0 z0 hz0
     rw[HN.out]
     rw[HN.out]at hc
     have HH:Hid (Mr w1 g l):=hH
     have HB:Hid (Below w.heap.size w w1):=hb
     clear hH hb hz0
     go_wp2_with fail
     refine(HLe _).mono ?_
     rintro e w2 ⟨rfl,rfl⟩
     clear hc0 HLe
     go_wp2_with fail
     go_loop [32] (fun i=>∃ k:Nat,k≤n∧i=.int .i64 k∧l.all aK=(l.drop k).all aK) (fun i=>n - (intOf i).toNat)
     case atStart=>exact⟨0,by omega,rfl,rfl⟩
     case round=>
      obtain⟨k,hk,rfl,hall⟩:=hrel
      have HA:Hid (l.all aK=(l.drop k).all aK):=hall
      clear hall
      by_cases hlt:k<n
      ·obtain⟨z,hz⟩:∃ z,l[k]? = some z:=⟨_,List.getElem?_eq_getElem (by have:=HN.out;omega)⟩
       have hcell:=HH.out k z hz
       have HS:Hid (l.all aK=(aK z&&(l.drop (k+1)).all aK)):=by
        refine(?_:l.all aK=_)
        rw[HA.out,Sc hz]
       clear hz HA
       obtain⟨Lz,hLz⟩:∃ Lz,bH z=Lz:=⟨_,rfl⟩
       obtain⟨Dz,hDz⟩:∃ Dz,isDigit z=Dz:=⟨_,rfl⟩
       have hle:=fun W=>tS z W
       have hdi:=fun W=>Jm z W
       rw[hLz]at hle
       rw[hDz]at hdi
       have sR:Hid (aK z=(Lz || Dz || decide (z=95))):=by
        refine(?_:aK z=_)
        unfold aK;rw[hLz,hDz]
       clear hLz hDz
       cases Lz with
       | true=>
        have HX:Hid (l.all aK=(l.drop (k+1)).all aK):=by
         refine(?_:l.all aK=_)
         rw[HS.out,sR.out];simp
        clear HS sR
        go_wp2_with fail
        refine(hle _).mono ?_
        rintro e w2 ⟨rfl,rfl⟩
        go_wp2_with fail
        go_round
        case rel=>exact⟨k+1,by omega,by go_num,HX.out⟩
        case measure=>simp[intOf];omega
       | false=>
        cases Dz with
        | true=>
         have HX:Hid (l.all aK=(l.drop (k+1)).all aK):=by
          refine(?_:l.all aK=_)
          rw[HS.out,sR.out];simp
         clear HS sR
         go_wp2_with fail
         refine(hle _).mono ?_
         rintro e w2 ⟨rfl,rfl⟩
         go_wp2_with fail
         refine(hdi _).mono ?_
         rintro e w2 ⟨rfl,rfl⟩
         go_wp2_with fail
         go_round
         case rel=>exact⟨k+1,by omega,by go_num,HX.out⟩
         case measure=>simp[intOf];omega
        | false=>
         by_cases aEi:z=95
         ·subst aEi
          have HX:Hid (l.all aK=(l.drop (k+1)).all aK):=by
           refine(?_:l.all aK=_)
           rw[HS.out,sR.out];simp
          clear HS sR
          go_wp2_with fail
          refine(hle _).mono ?_
          rintro e w2 ⟨rfl,rfl⟩
          go_wp2_with fail
          refine(hdi _).mono ?_
          rintro e w2 ⟨rfl,rfl⟩
          go_wp2_with fail
          go_round
          case rel=>exact⟨k+1,by omega,by go_num,HX.out⟩
          case measure=>simp[intOf];omega
         ·have HX:Hid (nameOf l=false):=by
           refine(?_:nameOf l=false)
           rw[HV.out,HS.out,sR.out];simp[aEi]
          have h95:(z == 95)=false:=by simpa using aEi
          clear HS sR
          go_wp2_with fail
          refine(hle _).mono ?_
          rintro e w2 ⟨rfl,rfl⟩
          go_wp2_with fail
          refine(hdi _).mono ?_
          rintro e w2 ⟨rfl,rfl⟩
          go_wp2_with fail
          go_ret
          exact⟨aU HX.out.symm,HB.out⟩
      ·have HX:Hid (nameOf l=true):=by
        refine(?_:nameOf l=true)
        rw[HV.out,HA.out,List.drop_eq_nil_of_le (by have:=HN.out;omega)];rfl
       clear HA
       go_wp2_with fail
       go_ret
       exact⟨aU HX.out.symm,HB.out⟩
theorem nV (s:ByteArray):∀ (b pos:Nat),s.size≤pos+b→(∀ r∈sE s b pos,r≠65533)→Lib.validD (s.data.toList.drop pos)=true
 | b,pos,hb,h=>by
  by_cases hp:pos<s.size
  ·cases b with
   | zero=>omega
   | succ b=>
    have hne:s.data.toList.drop pos≠[]:=by
     intro e
     have:=congrArg List.length e
     rw[List.length_drop,List.length_nil]at this
     have:=bC s
     omega
    rw[qV s b pos hp]at h
    have hw:=width_pos s pos hp
    rw[Lib.validD_step _ hne,Lib.decodeL_drop,if_neg,List.drop_drop]
    ·exact nV s b (pos+(Utf8.decode s pos).2) (by omega) (fun r hr=>h r (List.mem_cons_of_mem _ hr))
    ·rintro⟨h1,_⟩
     have:=h _ List.mem_cons_self
     omega
  ·have e:s.data.toList.drop pos=[]:=List.drop_eq_nil_of_le (by rw[bC];omega)
   rw[e];rfl
theorem yE (s:ByteArray) (h:nameOf (runes s)=true):Lib.validD s.data.toList=true:=by
 have:=nV s s.size 0 (by omega) (fun r hr=>by
  have:=nH (vM h r hr)
  unfold two at this;omega)
 simpa using this
theorem Pj (s:ByteArray):isName s=nameOf (runes s):=by
 unfold isName
 by_cases h:nameOf (runes s)=true
 ·rw[h,yE s h];rfl
 ·rw[Bool.not_eq_true]at h
  rw[h,Bool.and_false]
/-! formed texts are short -/
theorem width_le (s:ByteArray) (pos:Nat):(Utf8.decode s pos).2≤4:=by
 simp only[Utf8.decode]
 repeat' split
 all_goals simp
theorem wP (s:ByteArray):∀ (b pos:Nat),s.size≤pos+b→s.size≤pos+4*(sE s b pos).length
 | 0,pos,h=>by omega
 | b+1,pos,h=>by
  by_cases hp:pos<s.size
  ·have hw:=width_le s pos
   have hw1:=width_pos s pos hp
   have ih:=wP s b (pos+(Utf8.decode s pos).2) (by omega)
   rw[qV s b pos hp,List.length_cons]
   omega
  ·omega
theorem zN (s:ByteArray) (h:nameOf (runes s)=true):s.size≤160:=by
 have h1:=wP s s.size 0 (by omega)
 unfold nameOf at h
 simp only[Bool.and_eq_true,decide_eq_true_iff]at h
 have h2:(sE s s.size 0).length≤40:=h.1.1.2
 omega
theorem Ms:∀ (L:List (List UInt8)),(∀ x∈L,x.length≤160)→(jn L).length≤161*L.length
 | [],_=>by simp[jn]
 | x :: t,h=>by
  have hx:=h x List.mem_cons_self
  have ih:=Ms t (fun y hy=>h y (List.mem_cons_of_mem _ hy))
  by_cases ht:t=[]
  ·subst ht;simp[jn];omega
  ·rw[Ln x t ht];simp;omega
set_option maxHeartbeats 1000000 in
theorem wQ (s:ByteArray) (w:World) (hT:qI w) (h:s.size≤70368744177664) :
  Calls Tryz.prog 48 #[.string s] w fun e w'=>e=.returned (.bool (bX s))∧Below w.heap.size w w':=by
 have hN:=Pg s w hT h
 have hR:=fun W=>yD s W
 rw[Pj]at hN
 unfold bX
 generalize nameOf (runes s)=N at *
 generalize gJ s.toList=R at *
 cases N with
 | false=>
  go_enter Tryz.func48,Tryz.ntmps48
  go_wp2_with fail
  refine hN.mono ?_
  rintro e w1 ⟨rfl,hb⟩
  go_wp2_with fail
  go_ret
  exact⟨rfl,hb⟩
 | true=>
  go_enter Tryz.func48,Tryz.ntmps48
  go_wp2_with fail
  refine hN.mono ?_
  rintro e w1 ⟨rfl,hb⟩
  go_wp2_with fail
  refine(hR _).mono ?_
  rintro e w2 ⟨rfl,rfl⟩
  go_wp2_with fail
  go_ret
  exact⟨aU (by simp),hb⟩
theorem Pk (s:ByteArray) (h8:(pieces s).length≤8) (h:bT s=true):s.size≤2000:=by
 unfold bT at h
 rw[List.all_eq_true]at h
 have hj:=Hu s.data.toList []
 have hsz:∀ x∈jC [] s.data.toList,x.length≤160:=by
  intro x hx
  have hp:=h ⟨x.toArray⟩ (by unfold pieces;exact List.mem_map_of_mem hx)
  unfold bX at hp
  simp only[Bool.and_eq_true]at hp
  have:=zN _ hp.1
  simpa [ByteArray.size]using this
 have h1:=Ms _ hsz
 rw[hj,List.nil_append,bC]at h1
 unfold pieces at h8
 rw[List.length_map]at h8
 omega
set_option maxHeartbeats 4000000 in
theorem Pm (s:ByteArray) (w:World) (hT:qI w) (hs:s.size≤70368744177664) :
  Calls Tryz.prog 45 #[.string s] w fun e w'=>cY s e w'∧Below w.heap.size w w':=by
 by_cases h2:s.size≤2000
 ·have hP:=Fh s w (by omega)
  have hpl:=jU s
  have h2':¬(2000:Int)<(s.size:Int):=by omega
  have Bf:Hid (∀ e w',(pieces s).length≤8→(bT s=true→∃ g c,e=.returned (.tuple #[.slice (some ⟨g,0,none⟩) (pieces s).length c,.bool true])∧rL w' g (pieces s)∧(pieces s).length≤c)→(bT s=false→e=.returned (.tuple #[.slice none 0 0,.bool false]))→cY s e w'):=by
   intro e w' h8 h1 h2
   unfold cY
   by_cases hp:bT s=true
   ·rw[if_pos ⟨h8,hp⟩];exact h1 hp
   ·rw[if_neg (fun h=>hp h.2)];exact h2 (by simpa using hp)
  have HNo:Hid (∀ e w',¬(pieces s).length≤8→e=.returned (.tuple #[.slice none 0 0,.bool false])→cY s e w'):=fun e w' h he=>qH (fun h'=>h h'.1) he
  have HAP:Hid (bT s=(pieces s).all bX):=rfl
  have HSZ:Hid (∀ x∈pieces s,x.size≤1048576):=fun x hx=>by have:=qE hx;omega
  generalize pieces s=xs at *
  generalize bT s=AP at *
  generalize cY s=PA at *
  go_enter Tryz.func45,Tryz.ntmps45
  go_wp2_with fail
  refine hP.mono ?_
  rintro e w1 ⟨⟨v,rfl,hown⟩,hb1⟩
  obtain⟨g,c,cc,rfl,hg,hgh,hc,hH⟩:=qG hown hpl.1
  have HH:Hid (rL w1 g xs):=hH
  have hT1:=dQ hT hb1
  clear hP hown hgh hH
  obtain⟨n,hn⟩:∃ n,xs.length=n:=⟨_,rfl⟩
  have HN:Hid (xs.length=n):=hn
  rw[hn]at hpl hc Bf HNo ⊢
  clear hn
  by_cases h8:n≤8
  ·have h8':¬(8:Int)<(n:Int):=by omega
   have aZg:=Bf
   go_wp2_with fail
   go_loopw [16] (fun i wr=>∃ k:Nat,k≤n∧i=.int .i64 k∧Below w1.heap.size w1 wr∧xs.all bX=(xs.drop k).all bX) (fun i _=>n - (intOf i).toNat)
   case atStart=>exact⟨0,by omega,rfl,Below.refl _ _,rfl⟩
   case round=>
    obtain⟨k,hk,rfl,hbw,hall⟩:=hrel
    have HA:Hid (xs.all bX=(xs.drop k).all bX):=hall
    clear hall
    have hTr:=dQ hT1 hbw
    have HB:Hid (Below w.heap.size w wr):=hb1.trans (hbw.mono hb1.size)
    have hsz:=HB.out.size
    by_cases hlt:k<n
    ·obtain⟨z,hz⟩:∃ z,xs[k]? = some z:=⟨_,List.getElem?_eq_getElem (by have:=HN.out;omega)⟩
     have hcell:wr.cell? ⟨g,k,none⟩=some (.string z):=zJ HH.out hbw k z hz
     have hzs:z.size≤1048576:=HSZ.out z (List.mem_of_getElem? hz)
     have Pd:Hid (xs.all bX=(bX z&&(xs.drop (k+1)).all bX)):=by
      refine(?_:_=_)
      rw[HA.out,zK hz]
     have Ma:=wQ z wr hTr (by omega)
     clear HA hz
     generalize bX z=PZ at *
     cases PZ with
     | false=>
      have HX:Hid (AP=false):=by
       refine(?_:AP=false)
       rw[HAP.out,Pd.out];simp
      go_wp2_with fail
      refine Ma.mono ?_
      rintro e w2 ⟨rfl,hb2⟩
      clear Ma
      go_wp2_with fail
      go_ret2
      refine⟨Bf.out _ _ h8 (fun h=>by rw[HX.out]at h;simp at h) (fun _=>rfl),HB.out.trans (hb2.mono hsz)⟩
     | true=>
      have HX:Hid (xs.all bX=(xs.drop (k+1)).all bX):=by
       refine(?_:_=_)
       rw[Pd.out];simp
      go_wp2_with fail
      refine Ma.mono ?_
      rintro e w2 ⟨rfl,hb2⟩
      have hb3:=hbw.trans (hb2.mono hbw.size)
      clear Ma hb2
      go_wp2_with fail
      go_roundw
      case rel=>exact⟨k+1,by omega,by go_num,hb3,HX.out⟩
      case measure=>simp[intOf];omega
    ·have HX:Hid (AP=true):=by
      refine(?_:AP=true)
      rw[HAP.out,HA.out,List.drop_eq_nil_of_le (by have:=HN.out;omega)];rfl
     have HH2:Hid (rL wr g xs):=zJ HH.out hbw
     clear HA
     go_wp2_with fail
     go_ret2
     refine⟨Bf.out _ _ h8 (fun _=>⟨_,_,rfl,HH2.out,hc⟩) (fun h=>by rw[HX.out]at h;simp at h),HB.out⟩
  ·have h8':(8:Int)<(n:Int):=by omega
   go_wp2_with fail
   go_ret2
   exact⟨HNo.out _ _ h8 rfl,hb1⟩
 ·have h2':(2000:Int)<(s.size:Int):=by omega
  have HP:Hid (∀ e w',e=.returned (.tuple #[.slice none 0 0,.bool false])→cY s e w'):=fun e w' he=>qH (fun h=>h2 (Pk s h.1 h.2)) he
  go_enter Tryz.func45,Tryz.ntmps45
  go_wp2_with fail
  go_ret2
  exact⟨HP.out _ _ rfl,Below.refl _ _⟩

set_option maxHeartbeats 1000000 in
theorem mG (l:List UInt8) (w:World) (hT:qI w) (h:l.length≤200000000) :
  Calls Tryz.prog 48 #[.string (aC l)] w fun e w'=>e=.returned (.bool (aZ l))∧Below w.heap.size w w':=by
 have:=wQ (aC l) w hT (by rw[aV];omega)
 rw[show bX (aC l)=aZ l by unfold bX aZ;rw[aH];rfl]at this
 exact this
theorem Pn (l:List UInt8) (w:World) (hT:qI w) (h:l.length≤200000000) :
  Calls Tryz.prog 45 #[.string (aC l)] w fun e w'=>(∃ ad n c,e=.returned (.tuple #[.slice ad n c,.bool (cF l)]))∧Below w.heap.size w w':=by
 refine(Pm (aC l) w hT (by rw[aV];omega)).mono fun e w' ⟨hA,hb⟩=>⟨?_,hb⟩
 have hq:=iG (aC l)
 rw[show (aC l).data.toList=l from rfl]at hq
 unfold cY at hA
 split at hA
 ·rename_i hc
  obtain⟨g,c,he,_⟩:=hA
  rw[hq,hc.2,decide_eq_true hc.1]
  exact⟨_,_,_,he⟩
 ·rename_i hc
  have:cF l=false:=by
   rw[hq]
   by_cases h8:(pieces (aC l)).length≤8
   ·have:bT (aC l)=false:=by
     cases hz:bT (aC l)with
     | false=>rfl
     | true=>exact absurd ⟨h8,hz⟩ hc
    rw[this];simp
   ·rw[decide_eq_false h8];rfl
  rw[this]
  exact⟨_,_,_,hA⟩
end Go.Proofs.YtpojeinddnjpfaaGreatDoor
