/-
  Walks and plain words (Pie2 PtE Shelf Tab Run Nam Val WtA).
-/
import Derived.Test.YteajlfgbmefncaaGreatDoorN11
import Derived.Deep.RegionWith
import Derived.Deep.RegionLaw
import Derived.Test.YteajlfgbmefncaaGreatDoorN5
import Derived.Shelf.Unicode.ValidAny
import Derived.Ground.NamesProg
import Derived.Shelf.LaysM
import Derived.Test.YteajlfgbmefncaaGreatDoorProg
import Derived.Below
import Derived.Test.YteajlfgbmefncaaGreatDoorN0
import Derived.WalkKit
import Derived.ProofKit
import Derived.Laws.IdiomStrings
import Derived.Lib.ValidLaws
import Derived.Lib.TrimUEq
import Derived.Deep.RegionHeldLaw
import Derived.Laws.Externs
import Derived.Lib.BufferKept
import Derived.Lib.FrozenHead2
import Derived.Lib.AppendIntMem
import Derived.Shelf.RegionOpenPlain
import Derived.Lib.ItoaMem
import Derived.Lib.ItoaLen
namespace Go.Proofs.YteajlfgbmefncaaGreatDoor
set_option linter.unusedVariables false
open Go.ChangeShapes Go.WideShapes Go.ChangeAt Go.RowKit

set_option maxHeartbeats 4000000 in
theorem piecesR_any (s:ByteArray) (w:World) (hs:s.size≤3000) :
  Calls Tryz.prog 60 #[.string s] w fun e w'=>(∃ v,e=.returned v∧OwnS w' w.heap.size v (pieces s))∧Below w.heap.size w w':=by
 have HP:Hid (pieces s=(pcs [] s.data.toList).map mkB):=rfl
 have hld:=len_data s
 have HL:Hid (s.data.toList.length=s.size):=hld
 clear hld
 go_enter Tryz.func60,Tryz.ntmps60
 go_wp2_with fail
 go_loopw [3,4] (fun o i wr=>∃ (k:Nat) (pre:List (List UInt8)) (cur:List UInt8),k≤s.size∧i=.int .i64 k∧OwnS wr w.heap.size o (pre.map mkB++[mkB cur])∧Below w.heap.size w wr∧pre.length≤k∧cur.length≤k∧pre++pcs cur (s.data.toList.drop k)=pcs [] s.data.toList) (fun _ i _=>s.size - (intOf i).toNat)
 case atStart=>exact⟨0,[],[],by omega,rfl,ownS_one w ⟨#[]⟩,(Below.refl _ w).alloc (Nat.le_refl _) _,by simp,by simp,rfl⟩
 case round=>
  obtain⟨k,pre,cur,hk,rfl,hown,hbw,hpl,hcl,hacc⟩:=hrel
  have HA:Hid (pre++pcs cur (s.data.toList.drop k)=pcs [] s.data.toList):=hacc
  clear hacc
  obtain⟨g,c,cc,rfl,hg,hgh,hc,hH⟩:=ownS_slice hown (by simp)
  have hszr:=hbw.size
  have hml:(pre.map mkB++[mkB cur]).length=pre.length+1:=by simp
  by_cases hlt:k<s.size
  ·have hdr:s.data.toList.drop k=s[k]'hlt :: s.data.toList.drop (k+1):=by
    rw[List.drop_eq_getElem_cons (by rw[HL.out];exact hlt)];rfl
   by_cases h46:s[k]'hlt=46
   ·have h46':(((s[k]'hlt).toNat:Int) == 46)=true:=by rw[h46];rfl
    have HX:Hid ((pre++[cur])++pcs [] (s.data.toList.drop (k+1))=pcs [] s.data.toList):=by
     refine(?_:_=_)
     have:=HA.out;rw[hdr,h46,pcs_dot]at this
     rw[←this];simp
    clear HA hdr h46
    go_wp2_with (at_builtin;refine wpS_push rfl _ _ rfl w.heap.size (.slice (some ⟨g,0,none⟩) (pre.map mkB++[mkB cur]).length c) (pre.map mkB++[mkB cur]) ⟨#[]⟩ rfl hown rfl (by rw[hml];omega) hszr ?_)
    intro v' wx hown' hb'
    obtain⟨g2,c2,cc2,rfl,_⟩:=ownS_slice hown' (by simp)
    go_wp2_with fail
    go_roundw
    case rel=>
     refine⟨k+1,pre++[cur],[],by omega,by go_num,?_,hbw.trans hb',by simp;omega,by simp,HX.out⟩
     simpa [mkB]using hown'
    case measure=>simp[intOf];omega
   ·have h46':(((s[k]'hlt).toNat:Int) == 46)=false:=by
     rw[beq_eq_false_iff_ne]
     intro e
     apply h46
     apply UInt8.toNat_inj.1
     show _=46
     omega
    have HX:Hid (pre++pcs (cur++[s[k]'hlt]) (s.data.toList.drop (k+1))=pcs [] s.data.toList):=by
     refine(?_:_=_)
     have:=HA.out;rw[hdr,pcs_on _ _ _ h46]at this
     exact this
    clear HA hdr h46
    have hcell:wr.cell? ⟨g,pre.length,none⟩=some (.string (mkB cur)):=hH pre.length (mkB cur) (by simp)
    have hfz:wr.frozen? ⟨g,pre.length,none⟩=false:=Lib.frozen_of_heap hgh _
    have HOS:Hid (∀ y,OwnS (wr.setCell ⟨g,pre.length,none⟩ (.string y)) w.heap.size (.slice (some ⟨g,0,none⟩) (pre.length+1) c) (pre.map mkB++[y])):=fun y=>by
     have:=ownS_set y hown
     simpa using this
    have HBS:Hid (∀ y,Below w.heap.size w (wr.setCell ⟨g,pre.length,none⟩ (.string y))):=fun y=>hbw.setCell (p:=⟨g,pre.length,none⟩) hg _
    have hcat:=cat_byte cur s k hlt
    have HCAT:Hid (mkB cur++s.extract k (k+1)=mkB (cur++[s[k]'hlt])):=hcat
    clear hcat hown hbw hgh hH
    rw[hml]
    rw[hml]at hc
    clear hml
    obtain⟨q,hq⟩:∃ q,pre.length=q:=⟨_,rfl⟩
    have HPL:Hid (pre.length≤k+1):=by
     refine(?_:pre.length≤k+1)
     omega
    rw[hq]at hpl hcell hfz HOS HBS ⊢
    clear hq
    have hsz2:(mkB cur).size≤3000:=by
     have:(mkB cur).size=cur.length:=by show cur.toArray.size=_;simp
     omega
    have HOS2:Hid (OwnS (wr.setCell ⟨g,q,none⟩ (.string (mkB (cur++[s[k]'hlt])))).drew w.heap.size (.slice (some ⟨g,0,none⟩) (q+1) c) (pre.map mkB++[mkB (cur++[s[k]'hlt])])):=HOS.out _
    have HBS2:Hid (Below w.heap.size w (wr.setCell ⟨g,q,none⟩ (.string (mkB (cur++[s[k]'hlt])))).drew):=(HBS.out _).drew
    generalize mkB cur=cb at *
    have hw1:IntKind.i64.wrap ((q:Int)+1 - 1)=(q:Int):=by rw[IntKind.wrap_i64];omega
    have hw2:=wQz k (by omega)
    have hq0:(0:Int)≤(q:Int):=by omega
    have hq1:(q:Int)<(q:Int)+1:=by omega
    have hk0:(0:Int)≤(k:Int):=by omega
    have hk1:(k:Int)≤(k:Int)+1:=by omega
    have hk2:(k:Int)+1≤(s.size:Int):=by omega
    go_wp2_with fail
    go_region
    rw[HCAT.out]
    go_wp2_with fail
    go_roundw
    case rel=>exact⟨k+1,pre,cur++[s[k]'hlt],by omega,by go_num,HOS2.out,HBS2.out,HPL.out,by simp;omega,HX.out⟩
    case measure=>simp[intOf];omega
  ·have HX:Hid (pre.map mkB++[mkB cur]=pieces s):=by
    refine(?_:_=_)
    have:=HA.out
    rw[List.drop_eq_nil_of_le (by have:=HL.out;omega),pcs_nil]at this
    rw[HP.out,←this];simp
   have hown2:=hown
   rw[HX.out]at hown2
   clear HA
   go_wp2_with fail
   go_ret
   refine⟨⟨_,rfl,?_⟩,hbw⟩
   rw[HX.out];exact hown2
open Go.Shelf
def PathAns (s:ByteArray) (e:Ending) (w':World):Prop:=
 if (pieces s).length≤8∧allPlain s=true then ∃ g c,e=.returned (.tuple #[.slice (some ⟨g,0,none⟩) (pieces s).length c,.bool true])∧HeldS w' g (pieces s)∧(pieces s).length≤c
 else e=.returned (.tuple #[.slice none 0 0,.bool false])
theorem pathAns_no {s:ByteArray} {e:Ending} {w':World} (h:¬((pieces s).length≤8∧allPlain s=true)) (he:e=.returned (.tuple #[.slice none 0 0,.bool false])):PathAns s e w':=by
 unfold PathAns;rw[if_neg h];exact he

set_option maxHeartbeats 4000000 in
theorem path_any (s:ByteArray) (w:World) (hs:s.size≤200000000) :
  Calls Tryz.prog 72 #[.string s] w fun e w'=>PathAns s e w'∧Below w.heap.size w w':=by
 have hSp:=splitN_any s w (by omega)
 have hpl:=pieces_len s
 by_cases h8:(pieces s).length≤8
 ·rw[splitB_few s h8]at hSp
  have hN:(pieces s).length≤min 9 (s.size+1):=by omega
  have hN2:min 9 (s.size+1)≤9:=by omega
  have HAns:Hid (∀ e w',(allPlain s=true→∃ g c,e=.returned (.tuple #[.slice (some ⟨g,0,none⟩) (pieces s).length c,.bool true])∧HeldS w' g (pieces s)∧(pieces s).length≤c)→(allPlain s=false→e=.returned (.tuple #[.slice none 0 0,.bool false]))→PathAns s e w'):=by
   intro e w' h1 h2
   unfold PathAns
   by_cases hp:allPlain s=true
   ·rw[if_pos ⟨h8,hp⟩];exact h1 hp
   ·rw[if_neg (fun h=>hp h.2)];exact h2 (by simpa using hp)
  have HAP:Hid (allPlain s=(pieces s).all isPlain):=rfl
  have HSZ:Hid (∀ x∈pieces s,x.size≤200000000):=fun x hx=>by have:=piece_size hx;omega
  generalize min 9 (s.size+1)=N at *
  generalize pieces s=xs at *
  generalize allPlain s=AP at *
  generalize PathAns s=PA at *
  obtain⟨n,hn⟩:∃ n,xs.length=n:=⟨_,rfl⟩
  have HN:Hid (xs.length=n):=hn
  rw[hn]at hSp h8 hN hpl HAns
  clear hn
  go_enter Tryz.func72,Tryz.ntmps72
  go_wp2_with fail
  refine hSp.mono ?_
  rintro e w1 ⟨rfl,hw1⟩
  have hg1:w1.heap[w.heap.size]? = some (.cells (Lib.cellsOf xs N) 9 (0,0)):=by rw[hw1];exact alloc_heap _ _
  have hb1:Below w.heap.size w w1:=by rw[hw1];exact(Below.refl _ w).alloc (Nat.le_refl _) _
  clear hw1 hSp
  have h8':¬(8:Int)<(n:Int):=by omega
  go_wp2_with fail
  go_loopw [14] (fun i wr=>∃ k:Nat,k≤n∧i=.int .i64 k∧wr.heap[w.heap.size]? = some (.cells (Lib.cellsOf xs N) 9 (0,0))∧Below w.heap.size w wr∧xs.all isPlain=(xs.drop k).all isPlain) (fun i _=>n - (intOf i).toNat)
  case atStart=>exact⟨0,by omega,rfl,hg1,hb1,rfl⟩
  case round=>
   clear hg1 hb1
   obtain⟨k,hk,rfl,hg,hbw,hall⟩:=hrel
   have HA:Hid (xs.all isPlain=(xs.drop k).all isPlain):=hall
   clear hall
   by_cases hlt:k<n
   ·obtain⟨z,hz⟩:∃ z,xs[k]? = some z:=⟨_,List.getElem?_eq_getElem (by have:=HN.out;omega)⟩
    have hcell:wr.cell? ⟨w.heap.size,k,none⟩=some (.string z):=by
     simp only[World.cell?,hg];exact cellsOf_get hz
    have hzs:z.size≤200000000:=HSZ.out z (List.mem_of_getElem? hz)
    have HAP2:Hid (xs.all isPlain=((nameOf (runes z)&&!resOf z.toList)&&(xs.drop (k+1)).all isPlain)):=by
     refine(?_:_=_)
     rw[HA.out,all_dropS hz,plain_of]
    have HZ:Hid ((Lib.cellsOf xs N)[k]? = some (.string z)):=cellsOf_get hz
    have hNm:=fun W=>name_any z W (by omega)
    have hRs:=fun W=>reservedD_any z W
    have hCl:=fun W=>cloneB_any z W (by omega)
    clear HA hz
    generalize nameOf (runes z)=NZ at *
    generalize resOf z.toList=RZ at *
    have HG:Hid (wr.heap[w.heap.size]? = some (.cells (Lib.cellsOf xs N) 9 (0,0))):=hg
    have hglt:w.heap.size<wr.heap.size:=blk_lt hg
    clear hg
    cases NZ with
    | false=>
     have HX:Hid (AP=false):=by
      refine(?_:AP=false)
      rw[HAP.out,HAP2.out];simp
     go_wp2_with fail
     refine(hNm _).mono ?_
     rintro e w2 ⟨rfl,hb2⟩
     clear hNm hRs hCl
     go_wp2_with fail
     go_ret2
     refine⟨HAns.out _ _ (fun h=>by rw[HX.out]at h;simp at h) (fun _=>rfl),hbw.trans (hb2.mono hbw.size)⟩
    | true=>
     cases RZ with
     | true=>
      have HX:Hid (AP=false):=by
       refine(?_:AP=false)
       rw[HAP.out,HAP2.out];simp
      go_wp2_with fail
      refine(hNm _).mono ?_
      rintro e w2 ⟨rfl,hb2⟩
      go_wp2_with fail
      refine(hRs _).mono ?_
      rintro e w3 ⟨rfl,rfl⟩
      clear hNm hRs hCl
      go_wp2_with fail
      go_ret2
      refine⟨HAns.out _ _ (fun h=>by rw[HX.out]at h;simp at h) (fun _=>rfl),hbw.trans (hb2.mono hbw.size)⟩
     | false=>
      have HX:Hid (xs.all isPlain=(xs.drop (k+1)).all isPlain):=by
       refine(?_:_=_)
       rw[HAP2.out];simp
      go_wp2_with fail
      refine(hNm _).mono ?_
      rintro e w2 ⟨rfl,hb2⟩
      have hb2':=hbw.trans (hb2.mono hbw.size)
      have hg2:w2.heap[w.heap.size]? = some (.cells (Lib.cellsOf xs N) 9 (0,0)):=by rw[hb2.block _ hglt];exact HG.out
      clear hb2
      go_wp2_with fail
      refine(hRs _).mono ?_
      rintro e w3 ⟨rfl,rfl⟩
      go_wp2_with fail
      refine(hCl _).mono ?_
      rintro e w4 ⟨rfl,hb4⟩
      have hg4:w4.heap[w.heap.size]? = some (.cells (Lib.cellsOf xs N) 9 (0,0)):=by rw[hb4.block _ (blk_lt hg2)];exact hg2
      have hb4':=hb2'.trans (hb4.mono hb2'.size)
      have hc4:w4.cell? ⟨w.heap.size,k,none⟩=some (.string z):=by simp only[World.cell?,hg4];exact HZ.out
      have hf4:w4.frozen? ⟨w.heap.size,k,none⟩=false:=Lib.frozen_of_heap hg4 k
      have hg5:=setSame w4 w.heap.size k _ _ _ hg4 HZ.out
      have hb5:=hb4'.setCell (p:=⟨w.heap.size,k,none⟩) (Nat.le_refl _) (.string z)
      have HG5:Hid ((w4.setCell ⟨w.heap.size,k,none⟩ (.string z)).heap[w.heap.size]? = some (.cells (Lib.cellsOf xs N) 9 (0,0))):=hg5
      clear hNm hRs hCl hb4 hg4 hg2 hg5 hb4' hb2'
      go_wp2_with fail
      go_roundw
      case rel=>exact⟨k+1,by omega,by go_num,HG5.out,hb5,HX.out⟩
      case measure=>simp[intOf];omega
   ·have HX:Hid (AP=true):=by
     refine(?_:AP=true)
     rw[HAP.out,HA.out,List.drop_eq_nil_of_le (by have:=HN.out;omega)];rfl
    have HH:Hid (HeldS wr w.heap.size xs):=by
     intro j x hj
     simp only[World.cell?,hg];exact cellsOf_get hj
    clear HA
    go_wp2_with fail
    go_ret2
    refine⟨HAns.out _ _ (fun _=>⟨_,_,rfl,HH.out,hN⟩) (fun h=>by rw[HX.out]at h;simp at h),hbw⟩
 ·have hm:=splitB_many s (by omega)
  generalize (Lib.splitB ⟨#[46]⟩ 0 (min 9 (s.size+1) - 1) s)=ys at *
  have hm':(8:Int)<(ys.length:Int):=by omega
  have HP:Hid (∀ e w',e=.returned (.tuple #[.slice none 0 0,.bool false])→PathAns s e w'):=fun e w' he=>pathAns_no (fun h=>h8 h.1) he
  clear hpl
  go_enter Tryz.func72,Tryz.ntmps72
  go_wp2_with fail
  refine hSp.mono ?_
  rintro e w1 ⟨rfl,hw1⟩
  have hb1:Below w.heap.size w w1:=by rw[hw1];exact(Below.refl _ w).alloc (Nat.le_refl _) _
  clear hw1 hSp
  go_wp2_with fail
  go_ret2
  exact⟨HP.out _ _ rfl,hb1⟩
theorem pathOK_pieces (s:ByteArray):pathOK s.data.toList=(decide ((pieces s).length≤8)&&allPlain s):=by
 unfold pathOK allPlain pieces
 rw[List.length_map,List.all_map]
 congr 1
 congr 1
 funext x
 show plainL x=isPlain ⟨x.toArray⟩
 unfold plainL isPlain
 rw[ByteArray.toList_eq]
def lays196_ren : Go.Shelf.Ren := ⟨fun | 196 => 108 | 259 => 125 | n => n, fun | 9 => 9 | 4 => 4 | 3 => 3 | 5 => 5 | 12 => 12 | 119 => 173 | 0 => 0 | 46 => 44 | 139 => 176 | 138 => 175 | 53 => 35 | n => n, fun | 3 => 0 | 4 => 1 | n => n⟩
theorem lays196 : Go.Proofs.Lays.n196 Tryz.prog lays196_ren := {
  mixed := by kernel_rfl
  f196 := Tryz.func108.trans (congrArg some (by kernel_rfl))
  f259 := Tryz.func125.trans (congrArg some (by kernel_rfl))
  t0 := Tryz.underlying0
  a0 := Tryz.isAgg0
  z0 := Tryz.sizeOf0
  v0 := Tryz.zeroValue0
  t3 := Tryz.underlying3
  a3 := Tryz.isAgg3
  z3 := Tryz.sizeOf3
  v3 := Tryz.zeroValue3
  t4 := Tryz.underlying4
  a4 := Tryz.isAgg4
  z4 := Tryz.sizeOf4
  v4 := Tryz.zeroValue4
  t5 := Tryz.underlying5
  a5 := Tryz.isAgg5
  z5 := Tryz.sizeOf5
  v5 := Tryz.zeroValue5
  t9 := Tryz.underlying9
  a9 := Tryz.isAgg9
  z9 := Tryz.sizeOf9
  v9 := Tryz.zeroValue9
  t12 := Tryz.underlying12
  a12 := Tryz.isAgg12
  z12 := Tryz.sizeOf12
  v12 := Tryz.zeroValue12
  t46 := Tryz.underlying44
  a46 := Tryz.isAgg44
  z46 := Tryz.sizeOf44
  v46 := Tryz.zeroValue44
  t53 := Tryz.underlying35
  a53 := Tryz.isAgg35
  z53 := Tryz.sizeOf35
  v53 := Tryz.zeroValue35
  t119 := Tryz.underlying173
  a119 := Tryz.isAgg173
  z119 := Tryz.sizeOf173
  t138 := Tryz.underlying175
  a138 := Tryz.isAgg175
  z138 := Tryz.sizeOf175
  v138 := Tryz.zeroValue175
  t139 := Tryz.underlying176
  a139 := Tryz.isAgg176
  z139 := Tryz.sizeOf176
  v139 := Tryz.zeroValue176
  g3 := by kernel_rfl
  g4 := by kernel_rfl }
open Go.RowKit Go.Lib in
theorem utf8_ValidString (s : ByteArray) (w : World) (hs : s.size ≤ 9223372036854775807) (hT : Lib.Utf8Tabs (lays196_ren.g 3) (lays196_ren.g 4) w) :
    Calls Tryz.prog 108 #[.string s] w fun e w' => e = .returned (.bool (Lib.validD s.data.toList)) ∧ Below w.heap.size w w' := Any.utf8_ValidString lays196 s w hs hT
def Tabs (w:World):Prop:=Lib.Utf8Tabs (lays196_ren.g 3) (lays196_ren.g 4) w
theorem tabs_below {w w':World} (h:Tabs w) (hb:RowKit.Below w.heap.size w w'):Tabs w':=Utf8Tabs_below h hb
def HeldR (w:World) (g:Nat) (rs:List Int):Prop:=∀ j z,rs[j]? = some z→w.cell? ⟨g,j,none⟩=some (.int .i32 z)
set_option maxHeartbeats 1000000 in
theorem letterR_any (r:Int) (w:World) :
  Calls Tryz.prog 89 #[.int .i32 r] w fun e w'=>e=.returned (.bool (isLetter r))∧w'=w:=by
 go_enter Tryz.func89,Tryz.ntmps89
 go_wp2
 all_goals
  go_ret
  refine⟨retB ?_,rfl⟩
  unfold isLetter
  rw[Bool.eq_iff_iff]
  simp
  omega
set_option maxHeartbeats 1000000 in
theorem digitR_any (r:Int) (w:World) :
  Calls Tryz.prog 90 #[.int .i32 r] w fun e w'=>e=.returned (.bool (isDigit r))∧w'=w:=by
 go_enter Tryz.func90,Tryz.ntmps90
 go_wp2
 all_goals
  go_ret
  refine⟨retB ?_,rfl⟩
  unfold isDigit
  rw[Bool.eq_iff_iff]
  simp
  omega
theorem run_runes (s:ByteArray) (w:World) (h:s.size≤70368744177664) :
  ∃ c w',(convert 9 164 (.string s)).run Tryz.prog w=.ok (.slice (some ⟨w.heap.size,0,none⟩) (runes s).length c) w'∧HeldR w' w.heap.size (runes s)∧(runes s).length≤c∧Below w.heap.size w w':=by
 have hl:=runes_len s
 have hr:=run_runes_of_string (P:=Tryz.prog) w 9 164 21 s Tryz.underlying9 Tryz.underlying164 Tryz.underlying21 (by rw[runes_eq];simp;omega)
 rw[runes_eq]at hr
 simp only[List.size_toArray,List.length_map]at hr
 refine⟨_,_,hr,?_,grownCap_ge _ _ _ _,((Below.refl _ _).drew).alloc (by simp) _⟩
 intro j z hj
 have hlt:=(List.getElem?_eq_some_iff.1 hj).1
 have e:(w.drew.alloc (.cells (((runes s).map (Value.int .i32)).toArray++Array.replicate (grownCap w (runes s).length 0 21 - (runes s).length) (.int .i32 0)) 21)).cell? ⟨w.drew.heap.size,j,none⟩=(((runes s).map (Value.int .i32)).toArray++Array.replicate (grownCap w (runes s).length 0 21 - (runes s).length) (.int .i32 0))[j]?:=World.cell?_alloc_new _ _ _ _
 have e2:w.drew.heap.size=w.heap.size:=rfl
 rw[e2]at e
 rw[e,Array.getElem?_append_left (by simpa using hlt)]
 simp[hj]
set_option maxHeartbeats 2000000 in
set_option maxRecDepth 20000 in
theorem runesR_any (s:ByteArray) (w:World) (hT:Tabs w) (h:s.size≤70368744177664) :
  Calls Tryz.prog 88 #[.string s] w fun e w'=>
   (if Lib.validD s.data.toList=true then ∃ g c,e=.returned (.tuple #[.slice (some ⟨g,0,none⟩) (runes s).length c,.bool true])∧HeldR w' g (runes s)∧(runes s).length≤c
    else e=.returned (.tuple #[.slice none 0 0,.bool false]))∧Below w.heap.size w w':=by
 have hv:=utf8_ValidString s w (by omega) hT
 obtain⟨V,hV⟩:∃ V,Lib.validD s.data.toList=V:=⟨_,rfl⟩
 rw[hV]at hv ⊢
 cases V with
 | false=>
  go_enter Tryz.func88,Tryz.ntmps88
  go_wp2_with fail
  refine hv.mono ?_
  rintro e w1 ⟨rfl,hb⟩
  go_wp2_with fail
  go_ret2
  exact⟨rfl,hb⟩
 | true=>
  go_enter Tryz.func88,Tryz.ntmps88
  go_wp2_with fail
  refine hv.mono ?_
  rintro e w1 ⟨rfl,hb⟩
  obtain⟨c,w2,hr,hH,hc,hb2⟩:=run_runes s w1 h
  go_wp2_with fail
  go_ret2
  exact⟨⟨_,c,rfl,hH,hc⟩,hb.trans (hb2.mono hb.size)⟩
def isName (s:ByteArray):Bool:=Lib.validD s.data.toList&&nameOf (runes s)
set_option maxHeartbeats 2000000 in
theorem nameR_any (s:ByteArray) (w:World) (hT:Tabs w) (h:s.size≤70368744177664) :
  Calls Tryz.prog 62 #[.string s] w fun e w'=>e=.returned (.bool (isName s))∧Below w.heap.size w w':=by
 have hR:=runesR_any s w hT h
 have hrl:=runes_len s
 unfold isName
 obtain⟨V,hV⟩:∃ V,Lib.validD s.data.toList=V:=⟨_,rfl⟩
 rw[hV]at hR ⊢
 cases V with
 | false=>
  simp only[Bool.false_eq_true,if_false]at hR
  rw[Bool.false_and]
  go_enter Tryz.func62,Tryz.ntmps62
  go_wp2_with fail
  refine hR.mono ?_
  rintro e w1 ⟨rfl,hb⟩
  go_wp2_with fail
  go_ret
  exact⟨rfl,hb⟩
 | true=>
  simp only[if_true]at hR
  rw[Bool.true_and]
  generalize runes s=l at *
  have HR:Hid (Calls Tryz.prog 88 #[.string s] w fun e w'=>(∃ g c,e=.returned (.tuple #[.slice (some ⟨g,0,none⟩) l.length c,.bool true])∧HeldR w' g l∧l.length≤c)∧Below w.heap.size w w'):=hR
  clear hR hV
  obtain⟨n,hn⟩:∃ n,l.length=n:=⟨_,rfl⟩
  have HN:Hid (l.length=n):=hn
  rw[hn]at hrl
  clear hn
  have HNO:Hid (nameOf l=(decide (1≤n∧n≤40)&&isLetter (l.headD 0)&&l.all nameRune)):=by
   refine(?_:nameOf l=_)
   unfold nameOf;rw[HN.out]
  by_cases h0:n=0
  ·have HV:Hid (nameOf l=false):=by
    refine(?_:nameOf l=false)
    rw[HNO.out,decide_eq_false (by omega)];simp
   clear HNO
   go_enter Tryz.func62,Tryz.ntmps62
   go_wp2_with fail
   refine HR.out.mono ?_
   rintro e w1 ⟨⟨g,c,rfl,hH,hc⟩,hb⟩
   rw[HN.out,h0]
   clear hH
   go_wp2_with fail
   go_ret
   exact⟨retB HV.out.symm,hb⟩
  ·by_cases h40:40<n
   ·have HV:Hid (nameOf l=false):=by
     refine(?_:nameOf l=false)
     rw[HNO.out,decide_eq_false (by omega)];simp
    clear HNO
    go_enter Tryz.func62,Tryz.ntmps62
    go_wp2_with fail
    refine HR.out.mono ?_
    rintro e w1 ⟨⟨g,c,rfl,hH,hc⟩,hb⟩
    rw[HN.out]
    clear hH hc
    go_wp2_with fail
    go_ret
    exact⟨retB HV.out.symm,hb⟩
   ·obtain⟨z0,hz0⟩:∃ z,l[0]? = some z:=⟨_,List.getElem?_eq_getElem (by have:=HN.out;omega)⟩
    have hhd:l.headD 0=z0:=by
     cases l with
     | nil=>simp at hz0
     | cons a t=>simpa using hz0
    obtain⟨L0,hL0⟩:∃ L0,isLetter z0=L0:=⟨_,rfl⟩
    have HNV:Hid (nameOf l=(L0&&l.all nameRune)):=by
     refine(?_:nameOf l=_)
     rw[HNO.out,decide_eq_true (by omega),hhd,hL0];simp
    have HLe:=fun W=>letterR_any z0 W
    rw[hL0]at HLe
    clear HNO hhd hL0
    cases L0 with
    | false=>
     have HV:Hid (nameOf l=false):=by
      refine(?_:nameOf l=false)
      rw[HNV.out];simp
     go_enter Tryz.func62,Tryz.ntmps62
     go_wp2_with fail
     refine HR.out.mono ?_
     rintro e w1 ⟨⟨g,c,rfl,hH,hc⟩,hb⟩
     have hc0:=hH 0 z0 hz0
     rw[HN.out]
     rw[HN.out]at hc
     clear hH
     go_wp2_with fail
     refine(HLe _).mono ?_
     rintro e w2 ⟨rfl,rfl⟩
     go_wp2_with fail
     go_ret
     exact⟨retB HV.out.symm,hb⟩
    | true=>
     have HV:Hid (nameOf l=l.all nameRune):=by
      refine(?_:nameOf l=l.all nameRune)
      rw[HNV.out];simp
     clear HNV
     go_enter Tryz.func62,Tryz.ntmps62
     go_wp2_with fail
     refine HR.out.mono ?_
     rintro e w1 ⟨⟨g,c,rfl,hH,hc⟩,hb⟩
     have hc0:=hH 0 z0 hz0
     rw[HN.out]
     rw[HN.out]at hc
     have HH:Hid (HeldR w1 g l):=hH
     have HB:Hid (Below w.heap.size w w1):=hb
     clear hH hb hz0
     go_wp2_with fail
     refine(HLe _).mono ?_
     rintro e w2 ⟨rfl,rfl⟩
     clear hc0 HLe
     go_wp2_with fail
     go_loop [32] (fun i=>∃ k:Nat,k≤n∧i=.int .i64 k∧l.all nameRune=(l.drop k).all nameRune) (fun i=>n - (intOf i).toNat)
     case atStart=>exact⟨0,by omega,rfl,rfl⟩
     case round=>
      obtain⟨k,hk,rfl,hall⟩:=hrel
      have HA:Hid (l.all nameRune=(l.drop k).all nameRune):=hall
      clear hall
      by_cases hlt:k<n
      ·obtain⟨z,hz⟩:∃ z,l[k]? = some z:=⟨_,List.getElem?_eq_getElem (by have:=HN.out;omega)⟩
       have hcell:=HH.out k z hz
       have HS:Hid (l.all nameRune=(nameRune z&&(l.drop (k+1)).all nameRune)):=by
        refine(?_:l.all nameRune=_)
        rw[HA.out,all_drop hz]
       clear hz HA
       obtain⟨Lz,hLz⟩:∃ Lz,isLetter z=Lz:=⟨_,rfl⟩
       obtain⟨Dz,hDz⟩:∃ Dz,isDigit z=Dz:=⟨_,rfl⟩
       have hle:=fun W=>letterR_any z W
       have hdi:=fun W=>digitR_any z W
       rw[hLz]at hle
       rw[hDz]at hdi
       have HNR:Hid (nameRune z=(Lz || Dz || decide (z=95))):=by
        refine(?_:nameRune z=_)
        unfold nameRune;rw[hLz,hDz]
       clear hLz hDz
       cases Lz with
       | true=>
        have HX:Hid (l.all nameRune=(l.drop (k+1)).all nameRune):=by
         refine(?_:l.all nameRune=_)
         rw[HS.out,HNR.out];simp
        clear HS HNR
        go_wp2_with fail
        refine(hle _).mono ?_
        rintro e w2 ⟨rfl,rfl⟩
        go_wp2_with fail
        go_round
        case rel=>exact⟨k+1,by omega,by go_num,HX.out⟩
        case measure=>simp[intOf];omega
       | false=>
        cases Dz with
        | true=>
         have HX:Hid (l.all nameRune=(l.drop (k+1)).all nameRune):=by
          refine(?_:l.all nameRune=_)
          rw[HS.out,HNR.out];simp
         clear HS HNR
         go_wp2_with fail
         refine(hle _).mono ?_
         rintro e w2 ⟨rfl,rfl⟩
         go_wp2_with fail
         refine(hdi _).mono ?_
         rintro e w2 ⟨rfl,rfl⟩
         go_wp2_with fail
         go_round
         case rel=>exact⟨k+1,by omega,by go_num,HX.out⟩
         case measure=>simp[intOf];omega
        | false=>
         by_cases hz95:z=95
         ·subst hz95
          have HX:Hid (l.all nameRune=(l.drop (k+1)).all nameRune):=by
           refine(?_:l.all nameRune=_)
           rw[HS.out,HNR.out];simp
          clear HS HNR
          go_wp2_with fail
          refine(hle _).mono ?_
          rintro e w2 ⟨rfl,rfl⟩
          go_wp2_with fail
          refine(hdi _).mono ?_
          rintro e w2 ⟨rfl,rfl⟩
          go_wp2_with fail
          go_round
          case rel=>exact⟨k+1,by omega,by go_num,HX.out⟩
          case measure=>simp[intOf];omega
         ·have HX:Hid (nameOf l=false):=by
           refine(?_:nameOf l=false)
           rw[HV.out,HS.out,HNR.out];simp[hz95]
          have h95:(z == 95)=false:=by simpa using hz95
          clear HS HNR
          go_wp2_with fail
          refine(hle _).mono ?_
          rintro e w2 ⟨rfl,rfl⟩
          go_wp2_with fail
          refine(hdi _).mono ?_
          rintro e w2 ⟨rfl,rfl⟩
          go_wp2_with fail
          go_ret
          exact⟨retB HX.out.symm,HB.out⟩
      ·have HX:Hid (nameOf l=true):=by
        refine(?_:nameOf l=true)
        rw[HV.out,HA.out,List.drop_eq_nil_of_le (by have:=HN.out;omega)];rfl
       clear HA
       go_wp2_with fail
       go_ret
       exact⟨retB HX.out.symm,HB.out⟩
theorem valid_of_runes (s:ByteArray):∀ (b pos:Nat),s.size≤pos+b→(∀ r∈rns s b pos,r≠65533)→Lib.validD (s.data.toList.drop pos)=true
 | b,pos,hb,h=>by
  by_cases hp:pos<s.size
  ·cases b with
   | zero=>omega
   | succ b=>
    have hne:s.data.toList.drop pos≠[]:=by
     intro e
     have:=congrArg List.length e
     rw[List.length_drop,List.length_nil]at this
     have:=len_data s
     omega
    rw[rns_step s b pos hp]at h
    have hw:=width_pos s pos hp
    rw[Lib.validD_step _ hne,Lib.decodeL_drop,if_neg,List.drop_drop]
    ·exact valid_of_runes s b (pos+(Utf8.decode s pos).2) (by omega) (fun r hr=>h r (List.mem_cons_of_mem _ hr))
    ·rintro⟨h1,_⟩
     have:=h _ List.mem_cons_self
     omega
  ·have e:s.data.toList.drop pos=[]:=List.drop_eq_nil_of_le (by rw[len_data];omega)
   rw[e];rfl
theorem valid_of_name (s:ByteArray) (h:nameOf (runes s)=true):Lib.validD s.data.toList=true:=by
 have:=valid_of_runes s s.size 0 (by omega) (fun r hr=>by
  have:=two_of_name (name_all h r hr)
  unfold two at this;omega)
 simpa using this
theorem isName_eq (s:ByteArray):isName s=nameOf (runes s):=by
 unfold isName
 by_cases h:nameOf (runes s)=true
 ·rw[h,valid_of_name s h];rfl
 ·rw[Bool.not_eq_true]at h
  rw[h,Bool.and_false]
/-! formed texts are short -/
theorem width_le (s:ByteArray) (pos:Nat):(Utf8.decode s pos).2≤4:=by
 simp only[Utf8.decode]
 repeat' split
 all_goals simp
theorem size_runes (s:ByteArray):∀ (b pos:Nat),s.size≤pos+b→s.size≤pos+4*(rns s b pos).length
 | 0,pos,h=>by omega
 | b+1,pos,h=>by
  by_cases hp:pos<s.size
  ·have hw:=width_le s pos
   have hw1:=width_pos s pos hp
   have ih:=size_runes s b (pos+(Utf8.decode s pos).2) (by omega)
   rw[rns_step s b pos hp,List.length_cons]
   omega
  ·omega
theorem name_size (s:ByteArray) (h:nameOf (runes s)=true):s.size≤160:=by
 have h1:=size_runes s s.size 0 (by omega)
 unfold nameOf at h
 simp only[Bool.and_eq_true,decide_eq_true_iff]at h
 have h2:(rns s s.size 0).length≤40:=h.1.1.2
 omega
theorem jn_size:∀ (L:List (List UInt8)),(∀ x∈L,x.length≤160)→(jn L).length≤161*L.length
 | [],_=>by simp[jn]
 | x :: t,h=>by
  have hx:=h x List.mem_cons_self
  have ih:=jn_size t (fun y hy=>h y (List.mem_cons_of_mem _ hy))
  by_cases ht:t=[]
  ·subst ht;simp[jn];omega
  ·rw[jn_cons x t ht];simp;omega
end Go.Proofs.YteajlfgbmefncaaGreatDoor
