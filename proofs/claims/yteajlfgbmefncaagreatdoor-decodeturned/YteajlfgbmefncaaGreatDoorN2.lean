/-
  Walks and plain words (Num Mem Grown Cat Fmd).
-/
import Derived.Test.YteajlfgbmefncaaGreatDoorN1
import Derived.Laws.MakeOwn
import Derived.Laws.CopyRow
import Derived.Laws.CopyOwn
import Derived.Laws.IdiomCopy
import Derived.Test.YteajlfgbmefncaaGreatDoorRows
import Derived.Laws.AppendOwn
import Derived.Laws.AppendOwnNone
import Derived.OwnWalk
import Derived.ArgAppend
import Derived.Laws.BytesArg
import Derived.Laws.BytesString
import Derived.Laws.Concat
import Derived.Laws.Strings
namespace Go.Proofs.YteajlfgbmefncaaGreatDoor
set_option linter.unusedVariables false
open Go.ChangeShapes Go.WideShapes Go.ChangeAt Go.RowKit
set_option maxHeartbeats 1000000 in
theorem number_any (a:Option Addr) (len cap:Nat) (zs:List Int) (w:World) (hB:IsB w a len zs) (hl:len≤8) :
  Calls Tryz.prog 93 #[.slice a len cap] w fun e w'=>e=.returned (.int .u64 (low zs))∧w'=w:=by
 have HB:Hid (IsB w a len zs):=hB
 clear hB
 go_enter Tryz.func93,Tryz.ntmps93
 go_wp2
 go_loop [3,7] (fun x i=>∃ (k:Nat),k≤len∧i=.int .i64 k∧x=.int .u64 (low (zs.take k))) (fun _ i=>len - (intOf i).toNat)
 case atStart=>exact⟨0,by omega,rfl,rfl⟩
 case round=>
  obtain⟨k,hk,rfl,rfl⟩:=hrel
  by_cases hlt:k<len
  ·obtain⟨b,off,z,rfl,hcell,hz0,hz1,_,hat⟩:=isB_at HB.out hlt
   have HR:Hid _:=low_round HB.out hlt (by omega) hat hz0 hz1
   clear hat HB
   generalize low (zs.take k)=X at *
   go_wp2
   go_round
   case rel=>exact⟨k+1,by omega,by go_num,by rw[←HR.out]⟩
   case measure=>simp[intOf];omega
  ·have HE:Hid (low (zs.take k)=low zs):=by
    refine(?_:low (zs.take k)=low zs)
    rw[List.take_of_length_le (by have:=HB.out.1;omega)]
   clear HB
   go_wp2
   go_ret
   exact⟨ret_int HE.out,rfl⟩
def blk (w:World) (t:TypeId) (l:List Int):World:=w.alloc (.cells (l.map (Value.int .u8)).toArray t)

theorem blk_heap (w:World) (t:TypeId) (l:List Int):(blk w t l).heap[w.heap.size]? = some (.cells (l.map (Value.int .u8)).toArray t):=by
 show (w.heap.push _)[w.heap.size]? = _
 simp
theorem blk_cell (w:World) (t:TypeId) (l:List Int) {j:Nat} {z:Int} (h:l[j]? = some z):(blk w t l).cell? ⟨w.heap.size,j,none⟩=some (.int .u8 z):=by
 simp[World.cell?,blk_heap,h]
theorem blk_frozen (w:World) (t:TypeId) (l:List Int) (j:Nat):(blk w t l).frozen? ⟨w.heap.size,j,none⟩=false:=by
 simp[World.frozen?,blk_heap]
theorem blk_below (w:World) (t:TypeId) (l:List Int):Below w.heap.size w (blk w t l):=(Below.refl _ _).alloc (Nat.le_refl _) _
theorem blk_row (w:World) (t:TypeId) (l:List Int) (c:Array Value):(blk w t l).setRow w.heap.size c=w.alloc (.cells c t):=by
 cases w with
 | mk heap tape drawn os output=>
  show World.mk ((heap.push _).modify heap.size _) tape drawn os output=World.mk (heap.push _) tape drawn os output
  congr 1
  apply Array.ext
  ·simp
  ·intro k h1 h2
   simp only[Array.getElem_modify,Array.getElem_push]
   by_cases hk:heap.size=k
   ·subst hk;simp
   ·have hlt:k<heap.size:=by simp at h2;omega
    simp[hk,hlt]
theorem blk_set (w:World) (t:TypeId) (l:List Int) (j:Nat) (z:Int):(blk w t l).setCell ⟨w.heap.size,j,none⟩ (.int .u8 z)=blk w t (l.set j z):=by
 rw[setCell_eq_setRow _ _ _ _ _ _ _ (blk_heap w t l),blk_row]
 unfold blk
 congr 2
 simp[List.map_set]
theorem held_blk (w:World) (t:TypeId) (l:List Int) (h:∀ z∈l,0≤z∧z≤255):Held (blk w t l) w.heap.size 0 l:=
 ⟨fun j z hj=>by rw[Nat.zero_add];exact blk_cell w t l hj,h⟩
theorem isB_blk (w:World) (t:TypeId) (l:List Int) (h:∀ z∈l,0≤z∧z≤255) (hm:l.length≤281474976710656):IsB (blk w t l) (some ⟨w.heap.size,0,none⟩) l.length l:=
 ⟨rfl,hm,.inr ⟨_,_,rfl,held_blk w t l h⟩⟩
theorem cell_ltB {w:World} {b o:Nat} {v:Value} (h:w.cell? ⟨b,o,none⟩=some v):b<w.heap.size:=by
 by_cases hb:b<w.heap.size
 ·exact hb
 ·simp[World.cell?,Array.getElem?_eq_none (Nat.le_of_not_lt hb)]at h
theorem held_old {w w':World} {b off:Nat} {zs:List Int} (h:Held w b off zs) (hb:Below w.heap.size w w'):Held w' b off zs:=
 ⟨fun j z hj=>by have hc:=h.1 j z hj;rw[hb.cell (cell_ltB hc)];exact hc,h.2⟩
theorem isB_old {w w':World} {a:Option Addr} {len:Nat} {zs:List Int} (h:IsB w a len zs) (hb:Below w.heap.size w w'):IsB w' a len zs:=by
 obtain⟨h1,h2,h3⟩:=h
 refine⟨h1,h2,?_⟩
 rcases h3 with h3 | ⟨b,off,ha,hh⟩
 ·exact .inl h3
 ·exact .inr ⟨b,off,ha,held_old hh hb⟩
theorem isB_bytes {w:World} {a:Option Addr} {len:Nat} {zs:List Int} (h:IsB w a len zs):∀ z∈zs,0≤z∧z≤255:=by
 obtain⟨_,_,rfl | ⟨b,off,_,hh⟩⟩:=h
 ·simp
 ·exact hh.2
theorem add_off (b o j:Nat):(⟨b,o,none⟩:Addr).add j=⟨b,o+j,none⟩:=by unfold Addr.add;split <;> simp_all
theorem info5B:(Tryz.prog.info? 5).map (fun i=>(i.zero,i.size,i.bytes))=some (some (.int .u8 0),1,1):=by kernel_rfl

theorem made_u8 (n:Nat):madeCells (Value.int .u8 0).cells n=((List.replicate n (0:Int)).map (Value.int .u8)).toArray:=by
 apply Array.ext
 ·simp[madeCells]
 ·intro i h1 h2
  simp[madeCells,Value.cells,Nat.mod_one]
theorem grown_arith (l:List Int) (n:Nat):((List.replicate (l.length+n) (0:Int)).map (Value.int .u8)).toArray.toList.take 0++l.map (Value.int .u8)++((List.replicate (l.length+n) (0:Int)).map (Value.int .u8)).toArray.toList.drop (0+(l.map (Value.int .u8)).length)=(l++List.replicate n 0).map (Value.int .u8):=by
 simp[List.drop_replicate]

theorem run_make_u8 (w:World) (l n:Nat) (hl:l≤n) (h:n≤281474976710656) :
  (Instr.makeSlice 27 (.int .i64 (l:Int)) (.int .i64 (n:Int))).run Tryz.prog w=.ok (.slice (some ⟨w.heap.size,0,none⟩) l n) (blk w 5 (List.replicate n 0)):=by
 obtain⟨i0,hi,hz0,hz1,hz2⟩:=info_parts info5B
 have:=run_make (P:=Tryz.prog) w 27 5 i0 (.int .u8 0) Tryz.underlying27 hi hz0 .i64 .i64 l n (by omega) (by omega) (by rw[hz2];omega) (by omega)
 rw[this]
 simp only[Int.toNat_natCast,hz1,Nat.mul_one]
 rw[made_u8];rfl

theorem run_copy_u8 (w:World) (a:Option Addr) (len cap:Nat) (zs:List Int) (n dl dc:Nat) (ty:TypeId) (hB:IsB w a len zs) (hd:len≤dl) :
  (Builtin.copy_ #[27,27] ty #[.slice (some ⟨w.heap.size,0,none⟩) dl dc,.slice a len cap]).run Tryz.prog (blk w 5 (List.replicate (len+n) 0)) =
   .ok (goInt len) (blk w 5 (zs++List.replicate n 0)):=by
 have hs:(Tryz.prog.info? 5).map (·.size)=some 1:=by
  obtain⟨i0,hi,hz0,hz1,hz2⟩:=info_parts info5B
  rw[hi];simp[hz1]
 obtain⟨h1,h2,h3⟩:=isB_old hB (blk_below w 5 (List.replicate (len+n) 0))
 by_cases h0:len=0
 ·subst h0
  have hz:zs=[]:=by simpa using h1
  subst hz
  have:=run_copy_none (P:=Tryz.prog) (blk w 5 (List.replicate (0+n) 0)) 27 27 ty 5 (some ⟨w.heap.size,0,none⟩) a dl dc 0 cap Tryz.underlying27 hs (by simp)
  rw[this]
  simp
 ·rcases h3 with h3 | ⟨b,off,rfl,hh⟩
  ·subst h3;simp at h1;omega
  ·subst h1
   have:=run_copy_row Tryz.prog (blk w 5 (List.replicate (zs.length+n) 0)) 27 27 ty 5 w.heap.size 0 dl dc ⟨b,off,none⟩ zs.length cap
    ((List.replicate (zs.length+n) (0:Int)).map (Value.int .u8)).toArray 5 (zs.map (Value.int .u8)) Tryz.underlying27 hs (blk_heap w 5 _)
    (by rw[List.length_map];exact(Nat.min_eq_left hd).symm) (by
     intro j v hj
     rw[List.getElem?_map]at hj
     cases hq:zs[j]? with
     | none=>rw[hq]at hj;simp at hj
     | some z=>
      rw[hq]at hj
      simp at hj
      subst hj
      rw[add_off];exact hh.1 j z hq) (by simp) (by intro v hv;simp at hv;obtain⟨z,_,rfl⟩:=hv;rfl)
   rw[this,grown_arith,blk_row]
   simp[blk]
set_option maxHeartbeats 1000000 in
theorem grown_any (a:Option Addr) (len cap:Nat) (zs:List Int) (n:Nat) (w:World) (hB:IsB w a len zs) (hn:len+n≤281474976710656) :
  Calls Tryz.prog 128 #[.slice a len cap,.int .i64 n] w fun e w'=>
   e=.returned (.slice (some ⟨w.heap.size,0,none⟩) (len+n) (len+n))∧w'=blk w 5 (zs++List.replicate n 0):=by
 have hm:=run_make_u8 w (len+n) (len+n) (Nat.le_refl _) hn
 have hc:=fun ty=>run_copy_u8 w a len cap zs n (len+n) (len+n) ty hB (by omega)
 have hmax:len≤281474976710656:=hB.2.1
 clear hB
 rw[Int.natCast_add]at hm
 go_enter Tryz.func128,Tryz.ntmps128
 go_wp2
 go_ret
 exact⟨rfl,rfl⟩
def OwnB (w:World) (base:Nat) (v:Value) (xs:List Int):Prop:=w.ownsRow base 5 1 v xs.length (xs.map (Value.int .u8))

theorem own_isB {w:World} {base:Nat} {v:Value} {xs:List Int} (h:OwnB w base v xs) (hb:∀ z∈xs,0≤z∧z≤255) (hm:xs.length≤281474976710656) :
  ∃ a c,v=.slice a xs.length c∧IsB w a xs.length xs∧xs.length≤c∧(a=none→xs.length=0∧c=0):=by
 obtain⟨_,h2⟩:=h
 rcases h2 with ⟨rfl,h0⟩ | ⟨g,cap,cur,rfl,hg,hh,h3,h4,h5,h6⟩
 ·have hx:xs=[]:=List.eq_nil_of_length_eq_zero h0
  subst hx
  exact⟨none,0,rfl,⟨rfl,by simp,.inl rfl⟩,Nat.le_refl _,fun _=>⟨rfl,rfl⟩⟩
 ·refine⟨_,cap,rfl,⟨rfl,hm,.inr ⟨g,0,rfl,?_,hb⟩⟩,h3,fun h=>by simp at h⟩
  intro j z hj
  have hjl:j<xs.length:=by
   by_cases hjl:j<xs.length
   ·exact hjl
   ·rw[List.getElem?_eq_none (by omega)]at hj;simp at hj
  have e:cur.toList[j]? = some (.int .u8 z):=by
   have:(cur.toList.take (xs.length*1))[j]? = (xs.map (Value.int .u8))[j]?:=by rw[h6]
   rw[List.getElem?_take,if_pos (by omega),List.getElem?_map,hj]at this
   simpa using this
  rw[Nat.zero_add]
  simp only[World.cell?,hh]
  simpa using e
theorem isB_cells {w:World} {ad:Addr} {m:Nat} {zs:List Int} (h:IsB w (some ad) m zs):∀ j u,(zs.map (Value.int .u8))[j]? = some u→w.cell? (ad.add j)=some u:=by
 intro j u hj
 rw[List.getElem?_map]at hj
 obtain⟨_,_,rfl | ⟨b,off,hab,hh⟩⟩:=h
 ·simp at hj
 ·cases hq:zs[j]? with
  | none=>rw[hq]at hj;simp at hj
  | some z=>
   rw[hq]at hj
   simp at hj
   subst hj
   cases hab
   rw[add_off];exact hh.1 j z hq
theorem own_blockB {w:World} {base:Nat} {v:Value} {xs:List Int} (h:OwnB w base v xs):∀ k,v.ownBlock=some k→base≤k:=by
 intro k hk
 obtain⟨_,⟨rfl,_⟩ | ⟨g,cap,cur,rfl,hg,_⟩⟩:=h
 ·simp[Value.ownBlock]at hk
 ·simp[Value.ownBlock]at hk;omega
theorem own_blk (w:World) (l:List Int) (hm:l.length≤maxLen):OwnB (blk w 5 l) w.heap.size (.slice (some ⟨w.heap.size,0,none⟩) l.length l.length) l:=
 ⟨by simp,.inr ⟨_,_,_,rfl,Nat.le_refl _,blk_heap w 5 l,Nat.le_refl _,hm,by simp,by simpa using List.take_of_length_le (by simp)⟩⟩

theorem wpB_append {w:World} {ops:Array Oper} {rest:List Oper} {o:Oper} {a:Act} {Q:Exit→Act→World→Prop} (hgd:o.guard=none) (s x:Operand)
  (ho:o.op=.call { callee:=.builtin .append,args:=#[s,x],argTypes:=#[27,27] })
  (base:Nat) (v:Value) (xs:List Int) (hs:a.eval s=v) (hown:OwnB w base v xs)
  (ao:Option Addr) (m c:Nat) (zs:List Int) (hx:a.eval x=.slice ao m c) (hB:IsB w ao m zs) (hno:ao=none→m=0∧c=0)
  (hbd:xs.length+m≤140737488355328) (hbase:base≤w.heap.size)
  (h:∀ v' w',OwnB w' base v' (xs++zs)→w.grownBy w' v.ownBlock→wpList Tryz.prog ops Q rest (a.put o.dst v') w'):wpList Tryz.prog ops Q (o :: rest) a w:=by
 obtain⟨i0,hi,hz0,hz1,hz2⟩:=info_parts info5B
 cases ao with
 | none=>
  obtain⟨rfl,rfl⟩:=hno rfl
  have hz:zs=[]:=List.eq_nil_of_length_eq_zero hB.1
  subst hz
  refine wpList_append_own_none hgd s x 27 ho base 5 i0 1 Tryz.underlying27 hi v _ _ hs hown hx (h v w (by simpa using hown) (World.grownBy.refl _ _))
 | some ad=>
  refine wpList_append_own w hgd s x 27 ho base 5 i0 (.int .u8 0) 1 1 Tryz.underlying27 hi hz0 hz1 hz2 rfl (by decide) v _ _ hs hown ad m c (zs.map (Value.int .u8)) hx (by simp[hB.1]) (isB_cells hB)
   (by intro u hu;simp at hu;obtain⟨z,_,rfl⟩:=hu;rfl) (by unfold maxLen;omega) (by omega) hbase ?_
  intro v' w' h1 h2 _
  refine h v' w' ?_ h2
  unfold OwnB
  rw[List.length_append,hB.1,List.map_append]
  exact h1
def OwnE (w:World) (base:Nat) (v:Value) (xs:List Int):Prop:=OwnB w base v xs∨(xs=[]∧∃ g,v=.slice (some ⟨g,0,none⟩) 0 0)

theorem own_mono {w:World} {base base':Nat} {v:Value} {xs:List Int} (h:OwnB w base v xs) (hb:base'≤base):OwnB w base' v xs:=by
 obtain⟨h1,h2 | ⟨g,cap,cur,hv,hg,r⟩⟩:=h
 ·exact⟨h1,.inl h2⟩
 ·exact⟨h1,.inr ⟨g,cap,cur,hv,by omega,r⟩⟩
theorem own_old {w w':World} {base:Nat} {v:Value} {xs:List Int} (h:OwnB w base v xs) (hb:Below w.heap.size w w'):OwnB w' base v xs:=by
 obtain⟨h1,h2 | ⟨g,cap,cur,hv,hg,hh,r⟩⟩:=h
 ·exact⟨h1,.inl h2⟩
 ·exact⟨h1,.inr ⟨g,cap,cur,hv,hg,by rw[hb.block g (Array.getElem?_eq_some_iff.1 hh).1];exact hh,r⟩⟩
theorem own_nil (w:World) (base:Nat):OwnB w base (.slice none 0 0) []:=World.ownsRow_nil _ _ _ _
theorem runE_append (w:World) (ty:TypeId) (base:Nat) (v:Value) (xs:List Int) (hown:OwnE w base v xs)
  (ao:Option Addr) (m c:Nat) (zs:List Int) (hB:IsB w ao m zs) (hno:ao=none→m=0∧c=0)
  (hbd:xs.length+m≤140737488355328) (hbase:base≤w.heap.size) :
  ∃ v' w',(Builtin.append_ #[27,27] ty #[v,.slice ao m c]).run Tryz.prog w=.ok v' w'∧OwnE w' base v' (xs++zs)∧Below base w w':=by
 obtain⟨i0,hi,hz0,hz1,hz2⟩:=info_parts info5B
 have h1c:∀ u∈zs.map (Value.int .u8),u.oneCell'=true:=by intro u hu;simp at hu;obtain⟨z,_,rfl⟩:=hu;rfl
 rcases hown with hown | ⟨rfl,g,rfl⟩
 ·cases ao with
  | none=>
   obtain⟨rfl,rfl⟩:=hno rfl
   have hz:zs=[]:=List.eq_nil_of_length_eq_zero hB.1
   subst hz
   exact⟨v,w,run_append_owned_none (P:=Tryz.prog) (w:=w) base 27 ty 5 i0 1 Tryz.underlying27 hi v _ _ hown,by rw[List.append_nil];exact .inl hown,Below.refl _ _⟩
  | some ad=>
   obtain⟨v',w',hr,h2,h3,_⟩:=run_append_own (P:=Tryz.prog) w base 27 ty 5 i0 (.int .u8 0) 1 1 Tryz.underlying27 hi hz0 hz1 hz2 rfl (by decide) v _ _ hown ad m c (zs.map (Value.int .u8)) (by simp[hB.1]) (isB_cells hB) h1c (by unfold maxLen;omega) (by omega) hbase
   refine⟨v',w',hr,.inl ?_,(Below.refl _ _).grown h3 hbase (own_blockB hown)⟩
   unfold OwnB
   rw[List.length_append,hB.1,List.map_append]
   exact h2
 ·by_cases hm:m=0
  ·subst hm
   have hz:zs=[]:=List.eq_nil_of_length_eq_zero hB.1
   subst hz
   refine⟨.slice (some ⟨g,0,none⟩) 0 0,w,?_,.inr ⟨rfl,g,rfl⟩,Below.refl _ _⟩
   cases ao with
   | none=>
    obtain⟨_,rfl⟩:=hno rfl
    simp[Builtin.append_,run_underlying Tryz.underlying27,sizeOf,typeInfo,hi,Builtin.lenOf,Builtin.firstCells,storeCells]
   | some ad=>
    have:=run_append_room_cells (P:=Tryz.prog) w 27 ty 5 i0 Tryz.underlying27 hi g 0 0 0 ad 0 c [] (by simp) (by simp) (by simp) (Nat.le_refl _) (by simp) (by simp)
    exact this
  ·cases ao with
   | none=>have:=hno rfl;omega
   | some ad=>
    obtain⟨v',w',hr,h2,h3⟩:=run_append_arg_grows (P:=Tryz.prog) w 27 ty 5 i0 (.int .u8 0) 1 1 Tryz.underlying27 hi hz0 hz1 hz2 rfl (by decide) ⟨g,0,none⟩ 0 0 [] (by simp) (by simp) ad m c (zs.map (Value.int .u8)) (by simp[hB.1]) (isB_cells hB) (by omega) (by unfold maxLen;omega) (by omega)
    refine⟨v',w',hr,.inl ?_,(Below.refl _ _).grown h3 hbase (by intro k hk;simp at hk)⟩
    refine own_mono (base:=w.heap.size) ?_ hbase
    unfold OwnB
    rw[List.nil_append,hB.1]
    simpa using h2

theorem stepE_append {w:World} {ops:Array Oper} {o:Oper} {a:Act} {K:Act→World→Prop} {Q:Exit→Act→World→Prop} {E:Prop} (hgd:o.guard=none) (s x:Operand)
  (ho:o.op=.call { callee:=.builtin .append,args:=#[s,x],argTypes:=#[27,27] })
  (base:Nat) (v:Value) (xs:List Int) (hs:a.eval s=v) (hown:OwnE w base v xs)
  (ao:Option Addr) (m c:Nat) (zs:List Int) (hx:a.eval x=.slice ao m c) (hB:IsB w ao m zs) (hno:ao=none→m=0∧c=0)
  (hbd:xs.length+m≤140737488355328) (hbase:base≤w.heap.size)
  (h:∀ v' w',OwnE w' base v' (xs++zs)→Below base w w'→K (a.put o.dst v') w'):if Region.wanted o (yielded ops a.tmps)=true then Oper.wp Tryz.prog o a w K Q else E:=by
 have hw:Region.wanted o (yielded ops a.tmps)=true:=by simp[Region.wanted,hgd]
 rw[if_pos hw]
 obtain⟨v',w',hrun,h1,h2⟩:=runE_append w o.type base v xs hown ao m c zs hB hno hbd hbase
 unfold Oper.wp
 simp[execOp,ho,resolve,invoke,builtin,hs,hx,hrun,Result.andThen]
 exact h v' w' h1 h2
def fv (num ty n:Int) (a:Option Addr) (len cap:Nat):Value:=.agg #[.int .i64 num,.int .i64 ty,.int .u64 n,.slice a len cap]
def fmd (num ty n:Int) (len:Nat):Bool:=
 decide (1≤num∧num≤536870911∧(((ty=0∨ty=1)∧len=0)∨(ty=5∧len=0∧n<4294967296)∨(ty=2∧n=0)))
theorem ret_bool {a b:Bool} (h:a=b):Ending.returned (.bool a)=.returned (.bool b):=by rw[h]

end Go.Proofs.YteajlfgbmefncaaGreatDoor
