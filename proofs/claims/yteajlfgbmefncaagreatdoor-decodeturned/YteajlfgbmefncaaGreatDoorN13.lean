/-
  Walks and plain words (RpA).
-/
import Derived.Test.YteajlfgbmefncaaGreatDoorN12
import Derived.Test.YteajlfgbmefncaaGreatDoorN5
namespace Go.Proofs.YteajlfgbmefncaaGreatDoor
set_option linter.unusedVariables false
open Go.ChangeShapes Go.WideShapes Go.ChangeAt Go.RowKit

set_option maxHeartbeats 1000000 in
theorem plainR_any (s:ByteArray) (w:World) (hT:Tabs w) (h:s.size≤70368744177664) :
  Calls Tryz.prog 36 #[.string s] w fun e w'=>e=.returned (.bool (isPlain s))∧Below w.heap.size w w':=by
 have hN:=nameR_any s w hT h
 have hR:=fun W=>reservedR_any s W
 rw[isName_eq]at hN
 unfold isPlain
 generalize nameOf (runes s)=N at *
 generalize resOf s.toList=R at *
 cases N with
 | false=>
  go_enter Tryz.func36,Tryz.ntmps36
  go_wp2_with fail
  refine hN.mono ?_
  rintro e w1 ⟨rfl,hb⟩
  go_wp2_with fail
  go_ret
  exact⟨rfl,hb⟩
 | true=>
  go_enter Tryz.func36,Tryz.ntmps36
  go_wp2_with fail
  refine hN.mono ?_
  rintro e w1 ⟨rfl,hb⟩
  go_wp2_with fail
  refine(hR _).mono ?_
  rintro e w2 ⟨rfl,rfl⟩
  go_wp2_with fail
  go_ret
  exact⟨retB (by simp),hb⟩
theorem path_size (s:ByteArray) (h8:(pieces s).length≤8) (h:allPlain s=true):s.size≤2000:=by
 unfold allPlain at h
 rw[List.all_eq_true]at h
 have hj:=jn_pcs s.data.toList []
 have hsz:∀ x∈pcs [] s.data.toList,x.length≤160:=by
  intro x hx
  have hp:=h ⟨x.toArray⟩ (by unfold pieces;exact List.mem_map_of_mem hx)
  unfold isPlain at hp
  simp only[Bool.and_eq_true]at hp
  have:=name_size _ hp.1
  simpa [ByteArray.size]using this
 have h1:=jn_size _ hsz
 rw[hj,List.nil_append,len_data]at h1
 unfold pieces at h8
 rw[List.length_map]at h8
 omega
set_option maxHeartbeats 4000000 in
theorem pathR_any (s:ByteArray) (w:World) (hT:Tabs w) (hs:s.size≤70368744177664) :
  Calls Tryz.prog 33 #[.string s] w fun e w'=>PathAns s e w'∧Below w.heap.size w w':=by
 by_cases h2:s.size≤2000
 ·have hP:=piecesR_any s w (by omega)
  have hpl:=pieces_len s
  have h2':¬(2000:Int)<(s.size:Int):=by omega
  have HAns:Hid (∀ e w',(pieces s).length≤8→(allPlain s=true→∃ g c,e=.returned (.tuple #[.slice (some ⟨g,0,none⟩) (pieces s).length c,.bool true])∧HeldS w' g (pieces s)∧(pieces s).length≤c)→(allPlain s=false→e=.returned (.tuple #[.slice none 0 0,.bool false]))→PathAns s e w'):=by
   intro e w' h8 h1 h2
   unfold PathAns
   by_cases hp:allPlain s=true
   ·rw[if_pos ⟨h8,hp⟩];exact h1 hp
   ·rw[if_neg (fun h=>hp h.2)];exact h2 (by simpa using hp)
  have HNo:Hid (∀ e w',¬(pieces s).length≤8→e=.returned (.tuple #[.slice none 0 0,.bool false])→PathAns s e w'):=fun e w' h he=>pathAns_no (fun h'=>h h'.1) he
  have HAP:Hid (allPlain s=(pieces s).all isPlain):=rfl
  have HSZ:Hid (∀ x∈pieces s,x.size≤1048576):=fun x hx=>by have:=piece_size hx;omega
  generalize pieces s=xs at *
  generalize allPlain s=AP at *
  generalize PathAns s=PA at *
  go_enter Tryz.func33,Tryz.ntmps33
  go_wp2_with fail
  refine hP.mono ?_
  rintro e w1 ⟨⟨v,rfl,hown⟩,hb1⟩
  obtain⟨g,c,cc,rfl,hg,hgh,hc,hH⟩:=ownS_slice hown hpl.1
  have HH:Hid (HeldS w1 g xs):=hH
  have hT1:=tabs_below hT hb1
  clear hP hown hgh hH
  obtain⟨n,hn⟩:∃ n,xs.length=n:=⟨_,rfl⟩
  have HN:Hid (xs.length=n):=hn
  rw[hn]at hpl hc HAns HNo ⊢
  clear hn
  by_cases h8:n≤8
  ·have h8':¬(8:Int)<(n:Int):=by omega
   have HAns2:=HAns
   go_wp2_with fail
   go_loopw [16] (fun i wr=>∃ k:Nat,k≤n∧i=.int .i64 k∧Below w1.heap.size w1 wr∧xs.all isPlain=(xs.drop k).all isPlain) (fun i _=>n - (intOf i).toNat)
   case atStart=>exact⟨0,by omega,rfl,Below.refl _ _,rfl⟩
   case round=>
    obtain⟨k,hk,rfl,hbw,hall⟩:=hrel
    have HA:Hid (xs.all isPlain=(xs.drop k).all isPlain):=hall
    clear hall
    have hTr:=tabs_below hT1 hbw
    have HB:Hid (Below w.heap.size w wr):=hb1.trans (hbw.mono hb1.size)
    have hsz:=HB.out.size
    by_cases hlt:k<n
    ·obtain⟨z,hz⟩:∃ z,xs[k]? = some z:=⟨_,List.getElem?_eq_getElem (by have:=HN.out;omega)⟩
     have hcell:wr.cell? ⟨g,k,none⟩=some (.string z):=heldS_old HH.out hbw k z hz
     have hzs:z.size≤1048576:=HSZ.out z (List.mem_of_getElem? hz)
     have HAP2:Hid (xs.all isPlain=(isPlain z&&(xs.drop (k+1)).all isPlain)):=by
      refine(?_:_=_)
      rw[HA.out,all_dropS hz]
     have hPl:=plainR_any z wr hTr (by omega)
     clear HA hz
     generalize isPlain z=PZ at *
     cases PZ with
     | false=>
      have HX:Hid (AP=false):=by
       refine(?_:AP=false)
       rw[HAP.out,HAP2.out];simp
      go_wp2_with fail
      refine hPl.mono ?_
      rintro e w2 ⟨rfl,hb2⟩
      clear hPl
      go_wp2_with fail
      go_ret2
      refine⟨HAns.out _ _ h8 (fun h=>by rw[HX.out]at h;simp at h) (fun _=>rfl),HB.out.trans (hb2.mono hsz)⟩
     | true=>
      have HX:Hid (xs.all isPlain=(xs.drop (k+1)).all isPlain):=by
       refine(?_:_=_)
       rw[HAP2.out];simp
      go_wp2_with fail
      refine hPl.mono ?_
      rintro e w2 ⟨rfl,hb2⟩
      have hb3:=hbw.trans (hb2.mono hbw.size)
      clear hPl hb2
      go_wp2_with fail
      go_roundw
      case rel=>exact⟨k+1,by omega,by go_num,hb3,HX.out⟩
      case measure=>simp[intOf];omega
    ·have HX:Hid (AP=true):=by
      refine(?_:AP=true)
      rw[HAP.out,HA.out,List.drop_eq_nil_of_le (by have:=HN.out;omega)];rfl
     have HH2:Hid (HeldS wr g xs):=heldS_old HH.out hbw
     clear HA
     go_wp2_with fail
     go_ret2
     refine⟨HAns.out _ _ h8 (fun _=>⟨_,_,rfl,HH2.out,hc⟩) (fun h=>by rw[HX.out]at h;simp at h),HB.out⟩
  ·have h8':(8:Int)<(n:Int):=by omega
   go_wp2_with fail
   go_ret2
   exact⟨HNo.out _ _ h8 rfl,hb1⟩
 ·have h2':(2000:Int)<(s.size:Int):=by omega
  have HP:Hid (∀ e w',e=.returned (.tuple #[.slice none 0 0,.bool false])→PathAns s e w'):=fun e w' he=>pathAns_no (fun h=>h2 (path_size s h.1 h.2)) he
  go_enter Tryz.func33,Tryz.ntmps33
  go_wp2_with fail
  go_ret2
  exact⟨HP.out _ _ rfl,Below.refl _ _⟩

set_option maxHeartbeats 1000000 in
theorem plainQ_any (l:List UInt8) (w:World) (hT:Tabs w) (h:l.length≤200000000) :
  Calls Tryz.prog 36 #[.string (mkB l)] w fun e w'=>e=.returned (.bool (plainL l))∧Below w.heap.size w w':=by
 have:=plainR_any (mkB l) w hT (by rw[mkB_size];omega)
 rw[show isPlain (mkB l)=plainL l by unfold isPlain plainL;rw[mkB_list];rfl]at this
 exact this
theorem pathA_any (l:List UInt8) (w:World) (hT:Tabs w) (h:l.length≤200000000) :
  Calls Tryz.prog 33 #[.string (mkB l)] w fun e w'=>(∃ ad n c,e=.returned (.tuple #[.slice ad n c,.bool (pathOK l)]))∧Below w.heap.size w w':=by
 refine(pathR_any (mkB l) w hT (by rw[mkB_size];omega)).mono fun e w' ⟨hA,hb⟩=>⟨?_,hb⟩
 have hq:=pathOK_pieces (mkB l)
 rw[show (mkB l).data.toList=l from rfl]at hq
 unfold PathAns at hA
 split at hA
 ·rename_i hc
  obtain⟨g,c,he,_⟩:=hA
  rw[hq,hc.2,decide_eq_true hc.1]
  exact⟨_,_,_,he⟩
 ·rename_i hc
  have:pathOK l=false:=by
   rw[hq]
   by_cases h8:(pieces (mkB l)).length≤8
   ·have:allPlain (mkB l)=false:=by
     cases hz:allPlain (mkB l)with
     | false=>rfl
     | true=>exact absurd ⟨h8,hz⟩ hc
    rw[this];simp
   ·rw[decide_eq_false h8];rfl
  rw[this]
  exact⟨_,_,_,hA⟩
end Go.Proofs.YteajlfgbmefncaaGreatDoor
