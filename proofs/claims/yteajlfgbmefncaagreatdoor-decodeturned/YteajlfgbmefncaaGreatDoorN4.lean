/-
  Walks and plain words (Con Rws TfR3 TfA).
-/
import Derived.Test.YteajlfgbmefncaaGreatDoorN2
import Derived.Laws.OwnMore
import Derived.Lib.AppendZeros
import Derived.Test.YteajlfgbmefncaaGreatDoorN3
import Derived.Maps.AppendAt
import Derived.Deep.DeepCutAuto
namespace Go.Proofs.YteajlfgbmefncaaGreatDoor
set_option linter.unusedVariables false
open Go.ChangeShapes Go.WideShapes Go.ChangeAt Go.RowKit

def Fits (w:World) (base:Nat) (v:Value) (xs:List Int) (n:Nat):Prop:=
 OwnB w base v xs∧((v=.slice none 0 0∧n=0)∨∃ g cap,v=.slice (some ⟨g,0,none⟩) xs.length cap∧n≤cap)

theorem runF_append (w:World) (ty:TypeId) (base:Nat) (v:Value) (xs:List Int) (n:Nat) (hf:Fits w base v xs n)
  (ao:Option Addr) (m c:Nat) (zs:List Int) (hB:IsB w ao m zs) (hno:ao=none→m=0∧c=0)
  (hbd:xs.length+m≤n) (hbase:base≤w.heap.size) :
  ∃ v' w',(Builtin.append_ #[27,27] ty #[v,.slice ao m c]).run Tryz.prog w=.ok v' w'∧Fits w' base v' (xs++zs) n∧Below base w w':=by
 obtain⟨i0,hi,hz0,hz1,hz2⟩:=info_parts info5B
 obtain⟨hown,hv⟩:=hf
 have h1c:∀ u∈zs.map (Value.int .u8),u.oneCell'=true:=by intro u hu;simp at hu;obtain⟨z,_,rfl⟩:=hu;rfl
 cases ao with
 | none=>
  obtain⟨rfl,rfl⟩:=hno rfl
  have hz:zs=[]:=List.eq_nil_of_length_eq_zero hB.1
  subst hz
  refine⟨v,w,run_append_owned_none (P:=Tryz.prog) (w:=w) base 27 ty 5 i0 1 Tryz.underlying27 hi v _ _ hown,?_,Below.refl _ _⟩
  rw[List.append_nil]
  exact⟨hown,hv⟩
 | some ad=>
  rcases hv with ⟨rfl,rfl⟩ | ⟨g,cap,rfl,hn⟩
  ·obtain rfl:m=0:=by omega
   have hz:zs=[]:=List.eq_nil_of_length_eq_zero hB.1
   subst hz
   obtain⟨v',w',hr,h2,h3,h4⟩:=run_append_own (P:=Tryz.prog) w base 27 ty 5 i0 (.int .u8 0) 1 1 Tryz.underlying27 hi hz0 hz1 hz2 rfl (by decide) _ _ _ hown ad 0 c [] (by simp) (by simp) (by simp) (by unfold maxLen;omega) (by omega) hbase
   obtain rfl:=h4.2 ⟨rfl,rfl⟩
   refine⟨_,w',hr,⟨?_,.inl ⟨rfl,rfl⟩⟩,(Below.refl _ _).grown h3 hbase (own_blockB hown)⟩
   rw[List.append_nil]at h2 ⊢
   exact h2
  ·obtain⟨w',hr,h2,h3⟩:=run_append_fits (P:=Tryz.prog) w base 27 ty 5 i0 1 Tryz.underlying27 hi hz1 g xs.length cap (xs.map (Value.int .u8)) hown ad m c (zs.map (Value.int .u8)) (by simp[hB.1]) (isB_cells hB) h1c (by omega)
   refine⟨_,w',hr,⟨?_,.inr ⟨g,cap,?_,hn⟩⟩,(Below.refl _ _).grown h3 hbase ?_⟩
   ·unfold OwnB
    rw[List.length_append,hB.1,List.map_append]
    exact h2
   ·rw[List.length_append,hB.1]
   ·intro k hk
    exact own_blockB hown k hk
theorem wpF_append {w:World} {ops:Array Oper} {rest:List Oper} {o:Oper} {a:Act} {Q:Exit→Act→World→Prop} (hgd:o.guard=none) (s x:Operand)
  (ho:o.op=.call { callee:=.builtin .append,args:=#[s,x],argTypes:=#[27,27] })
  (base:Nat) (v:Value) (xs:List Int) (n:Nat) (hs:a.eval s=v) (hown:Fits w base v xs n)
  (ao:Option Addr) (m c:Nat) (zs:List Int) (hx:a.eval x=.slice ao m c) (hB:IsB w ao m zs) (hno:ao=none→m=0∧c=0)
  (hbd:xs.length+m≤n) (hbase:base≤w.heap.size)
  (h:∀ v' w',Fits w' base v' (xs++zs) n→Below base w w'→wpList Tryz.prog ops Q rest (a.put o.dst v') w'):wpList Tryz.prog ops Q (o :: rest) a w:=by
 obtain⟨v',w',hrun,h1,h2⟩:=runF_append w o.type base v xs n hown ao m c zs hB hno hbd hbase
 refine wpList_plain hgd fun K hK=>?_
 unfold Oper.wp
 simp[execOp,ho,resolve,invoke,builtin,hs,hx,hrun,Result.andThen]
 exact hK _ _ (h v' w' h1 h2)

set_option maxHeartbeats 1000000 in
theorem growS_any (n:Nat) (w:World) (h:n≤281474976710656) :
  Calls Tryz.prog 131 #[.slice none 0 0,.int .i64 n] w fun e w'=>
   ∃ v',e=.returned v'∧Fits w' w.heap.size v' [] n∧Below w.heap.size w w':=by
 by_cases h0:n=0
 ·subst h0
  go_enter Tryz.func131,Tryz.ntmps131
  go_wp2_with fail
  go_ret
  exact⟨_,rfl,⟨own_nil _ _,.inl ⟨rfl,rfl⟩⟩,Below.refl _ _⟩
 ·obtain⟨i0,hi,hz0,hz1,hz2⟩:=info_parts info5B
  have hr:=fun ty=>Lib.run_append_nil_zeros (P:=Tryz.prog) w 27 3 ty 5 i0 (.int .u8 0) .i64 .i64 Tryz.underlying27 Tryz.underlying3 hi hz0 n (by omega) (by omega) (by omega) (by rw[hz2];omega)
  have hge:=grownCap_ge w n 0 5
  have hle:=grownCap_le_maxLen w n 0 5 (by unfold maxLen;omega)
  have HF:Hid (Fits (w.drew.alloc (.cells (Builtin.zeroCells (Value.int .u8 0).cells n++Builtin.zeroCells (Value.int .u8 0).cells (grownCap w n 0 5 - n)) 5)) w.heap.size (.slice (some ⟨w.heap.size,0,none⟩) 0 (grownCap w n 0 5)) [] n):=by
   refine(?_:Fits _ _ _ _ _)
   refine⟨World.ownsRow_made w.drew _ _ (by simp) hle ?_,.inr ⟨_,_,rfl,hge⟩⟩
   simp only[Array.size_append,size_zeroCells]
   show n*1+(grownCap w n 0 5 - n)*1=_
   omega
  have HB:Hid (Below w.heap.size w (w.drew.alloc (.cells (Builtin.zeroCells (Value.int .u8 0).cells n++Builtin.zeroCells (Value.int .u8 0).cells (grownCap w n 0 5 - n)) 5))):=
   ((Below.refl _ _).drew).alloc (by simp) _
  have hle2:(grownCap w n 0 5:Int)≤9223372036854775807:=by unfold maxLen at hle;omega
  generalize grownCap w n 0 5=G at *
  generalize w.drew.alloc (.cells (Builtin.zeroCells (Value.int .u8 0).cells n++Builtin.zeroCells (Value.int .u8 0).cells (G - n)) 5)=W at *
  clear hle hi hz0 hz1 hz2
  go_enter Tryz.func131,Tryz.ntmps131
  go_wp2_with (at_builtin;refine Lib.wpList_append_run _ rfl _ _ _ _ rfl _ _ rfl rfl _ _ (hr _) ?_)
  go_ret
  exact⟨_,rfl,HF.out,HB.out⟩

structure Row3 where
 a:Option Addr
 len:Nat
 cap:Nat
 zs:List Int
def RowOk (w:World) (r:Row3):Prop:=IsB w r.a r.len r.zs∧(r.a=none→r.len=0∧r.cap=0)
def total (rs:List Row3):Nat:=(rs.map (·.len)).sum
def joined (rs:List Row3):List Int:=rs.flatMap (·.zs)
theorem total_take {rs:List Row3} {k:Nat} {r:Row3} (h:rs[k]? = some r):total (rs.take (k+1))=total (rs.take k)+r.len:=by
 unfold total
 rw[List.take_add_one,h]
 simp
theorem joined_take {rs:List Row3} {k:Nat} {r:Row3} (h:rs[k]? = some r):joined (rs.take (k+1))=joined (rs.take k)++r.zs:=by
 unfold joined
 rw[List.take_add_one,h]
 simp
theorem total_le (rs:List Row3) (k:Nat):total (rs.take k)≤total rs:=by
 unfold total
 rw[show (rs.map (·.len)).sum=((rs.take k++rs.drop k).map (·.len)).sum by rw[List.take_append_drop],List.map_append,List.sum_append]
 omega
theorem joined_length {w:World}:∀ {rs:List Row3} (h:∀ r∈rs,RowOk w r),(joined rs).length=total rs
 | [],_=>rfl
 | r :: rs,h=>by
  have ih:=joined_length (w:=w) (rs:=rs) (fun x hx=>h x (List.mem_cons_of_mem _ hx))
  have hr:=(h r List.mem_cons_self).1.1
  unfold joined total at *
  simp only[List.flatMap_cons,List.length_append,List.map_cons,List.sum_cons]
  omega

set_option maxHeartbeats 2000000 in
theorem concat_any (rs:List Row3) (g N:Nat) (w:World) (hN:rs.length=N) (hN2:N≤1000) (hc:∀ k r,rs[k]? = some r→w.cell? ⟨g,k,none⟩=some (.slice r.a r.len r.cap))
  (hok:∀ r∈rs,RowOk w r) (ht:total rs≤281474976710656) :
  Calls Tryz.prog 118 #[.slice (some ⟨g,0,none⟩) N N] w fun e w'=>
   ∃ v',e=.returned v'∧OwnB w' w.heap.size v' (joined rs)∧Below w.heap.size w w':=by
 have HC:Hid (∀ k r,rs[k]? = some r→w.cell? ⟨g,k,none⟩=some (.slice r.a r.len r.cap)):=hc
 have HK:Hid (∀ r∈rs,RowOk w r):=hok
 have HN:Hid (rs.length=N):=hN
 have HT:Hid (total rs≤281474976710656):=ht
 clear hc hok hN ht
 go_enter Tryz.func118,Tryz.ntmps118
 go_wp2_with fail
 go_loop [3,11] (fun s i=>∃ (k t:Nat),k≤N∧total (rs.take k)=t∧i=.int .i64 k∧s=.int .i64 t) (fun _ i=>N - (intOf i).toNat)
 case atStart=>exact⟨0,0,by omega,rfl,rfl,rfl⟩
 case round=>
  obtain⟨k,t,hk,htk,rfl,rfl⟩:=hrel
  have HTK:Hid (total (rs.take k)=t):=htk
  clear htk
  have htl:t≤281474976710656:=by have:=HTK.out;have:=total_le rs k;have:=HT.out;omega
  by_cases hlt:k<N
  ·obtain⟨r,hr⟩:∃ r,rs[k]? = some r:=⟨_,List.getElem?_eq_getElem (by have:=HN.out;omega)⟩
   have hcell:=HC.out k r hr
   have HR:Hid (total (rs.take (k+1))=t+r.len):=by
    refine(?_:total (rs.take (k+1))=t+r.len)
    rw[total_take hr,HTK.out]
   have hrl:t+r.len≤281474976710656:=by have:=HR.out;have:=total_le rs (k+1);have:=HT.out;omega
   clear hr
   generalize r.len=rl at *
   generalize r.a=ra at *
   generalize r.cap=rc at *
   go_wp2_with fail
   go_round
   case rel=>exact⟨k+1,t+rl,by omega,HR.out,by go_num,by go_num⟩
   case measure=>simp[intOf];omega
  ·obtain rfl:k=N:=by omega
   have HTT:Hid (total rs=t):=by
    refine(?_:total rs=t)
    rw[←HTK.out,List.take_of_length_le (by have:=HN.out;omega)]
   clear HTK
   go_wp2_with fail
   refine(growS_any t _ htl).mono ?_
   rintro e w1 ⟨v1,rfl,hf1,hb1⟩
   have HF1:Hid (Fits w1 w.heap.size v1 [] t):=hf1
   have HB1:Hid (Below w.heap.size w w1):=hb1
   clear hf1 hb1
   go_wp2_with fail
   go_loopw [6,27] (fun v i wr=>∃ (q:Nat),q≤k∧i=.int .i64 q∧Fits wr w.heap.size v (joined (rs.take q)) t∧Below w.heap.size w wr) (fun _ i _=>k - (intOf i).toNat)
   case atStart=>exact⟨0,by omega,rfl,HF1.out,HB1.out⟩
   case round=>
    obtain⟨q,hq,rfl,hfq,hbq⟩:=hrel
    have HFQ:Hid (Fits wr w.heap.size u6 (joined (rs.take q)) t):=hfq
    have HBQ:Hid (Below w.heap.size w wr):=hbq
    have hszq:=hbq.size
    clear hfq hbq
    by_cases hlq:q<k
    ·obtain⟨r,hr⟩:∃ r,rs[q]? = some r:=⟨_,List.getElem?_eq_getElem (by have:=HN.out;omega)⟩
     have hcell:wr.cell? ⟨g,q,none⟩=some (.slice r.a r.len r.cap):=(HBQ.out.cell (cell_ltB (HC.out q r hr))).trans (HC.out q r hr)
     have HRK:Hid (RowOk w r):=HK.out r (List.mem_of_getElem? hr)
     have HJ:Hid (joined (rs.take (q+1))=joined (rs.take q)++r.zs):=joined_take hr
     have HLJ:Hid ((joined (rs.take q)).length+r.len≤t):=by
      refine(?_:(joined (rs.take q)).length+r.len≤t)
      rw[joined_length (w:=w) (fun x hx=>HK.out x (List.mem_of_mem_take hx)),←total_take hr,←HTT.out]
      exact total_le _ _
     clear hr
     have HRB:Hid (IsB wr r.a r.len r.zs):=isB_old HRK.out.1 HBQ.out
     have HRN:Hid (r.a=none→r.len=0∧r.cap=0):=HRK.out.2
     clear HRK
     generalize r.len=rl at *
     generalize r.a=ra at *
     generalize r.cap=rc at *
     generalize r.zs=rz at *
     go_wp2_with (at_builtin;refine wpF_append rfl (.tmp 31) (.tmp 32) rfl w.heap.size u6 (joined (rs.take q)) t rfl HFQ.out ra rl rc rz rfl HRB.out HRN.out HLJ.out hszq ?_;intro v2 w2 hf2 hb2)
     go_roundw
     case rel=>exact⟨q+1,by omega,by go_num,by rw[HJ.out];exact hf2,HBQ.out.trans hb2⟩
     case measure=>simp[intOf];omega
    ·obtain rfl:q=k:=by omega
     go_wp2_with fail
     go_ret
     refine⟨_,rfl,?_,HBQ.out⟩
     have:=HFQ.out.1
     rw[List.take_of_length_le (by have:=HN.out;omega)]at this
     exact this
structure FR where
 num:Int
 ty:Int
 n:Int
 a:Option Addr
 len:Nat
 cap:Nat
 d:List Int
def FR.cells (f:FR):List Value:=[.int .i64 f.num,.int .i64 f.ty,.int .u64 f.n,.slice f.a f.len f.cap]
def Row3.val (r:Row3):Value:=.slice r.a r.len r.cap
def FarB (w:World) (x y:Option Nat) (a:Option Addr) (len:Nat) (zs:List Int):Prop:=
 zs.length=len∧len≤281474976710656∧(zs=[]∨∃ b off,a=some ⟨b,off,none⟩∧Held w b off zs∧x≠some b∧y≠some b)
theorem FarB.isB {w:World} {x y:Option Nat} {a:Option Addr} {len:Nat} {zs:List Int} (h:FarB w x y a len zs):IsB w a len zs:=
 ⟨h.1,h.2.1,h.2.2.imp id fun ⟨b,off,h1,h2,_⟩=>⟨b,off,h1,h2⟩⟩
theorem FarB.old {w w':World} {x y:Option Nat} {a:Option Addr} {len:Nat} {zs:List Int} (h:FarB w x y a len zs) (hb:Below w.heap.size w w'):FarB w' x y a len zs:=
 ⟨h.1,h.2.1,h.2.2.imp id fun ⟨b,off,h1,h2,h3⟩=>⟨b,off,h1,held_old h2 hb,h3⟩⟩
theorem held_lt {w:World} {b off:Nat} {z:Int} {zs:List Int} (h:Held w b off (z :: zs)):b<w.heap.size:=cell_ltB (h.1 0 z rfl)
theorem held_grown {w w':World} {row:Option Nat} {b off:Nat} {zs:List Int} (h:Held w b off zs) (hg:w.grownBy w' row) (hne:row≠some b):Held w' b off zs:=
 ⟨fun j z hj=>by have hc:=h.1 j z hj;rw[World.cell?_of_block (hg.block b (cell_ltB hc) (fun e=>hne e.symm))];exact hc,h.2⟩
theorem FarB.grow1 {w w':World} {x x' y:Option Nat} {a:Option Addr} {len:Nat} {zs:List Int} (h:FarB w x y a len zs) (hg:w.grownBy w' x) (hx:x'=x∨x'=some w.heap.size):FarB w' x' y a len zs:=by
 refine⟨h.1,h.2.1,?_⟩
 rcases h.2.2 with h0 | ⟨b,off,h1,h2,h3,h4⟩
 ·exact .inl h0
 ·cases zs with
  | nil=>exact .inl rfl
  | cons z zs=>
   have hlt:=held_lt h2
   refine .inr ⟨b,off,h1,held_grown h2 hg h3,?_,h4⟩
   rcases hx with rfl | rfl
   ·exact h3
   ·simp;omega
theorem FarB.grow2 {w w':World} {x y y':Option Nat} {a:Option Addr} {len:Nat} {zs:List Int} (h:FarB w x y a len zs) (hg:w.grownBy w' y) (hx:y'=y∨y'=some w.heap.size):FarB w' x y' a len zs:=by
 refine⟨h.1,h.2.1,?_⟩
 rcases h.2.2 with h0 | ⟨b,off,h1,h2,h3,h4⟩
 ·exact .inl h0
 ·cases zs with
  | nil=>exact .inl rfl
  | cons z zs=>
   have hlt:=held_lt h2
   refine .inr ⟨b,off,h1,held_grown h2 hg h4,h3,?_⟩
   rcases hx with rfl | rfl
   ·exact h4
   ·simp;omega
theorem FarB.of_new {w:World} {B:Nat} {x y:Option Nat} {a:Option Addr} {len:Nat} {zs:List Int} (h:NewB w B a len zs) (hx:∀ k,x=some k→k<B) (hy:∀ k,y=some k→k<B):FarB w x y a len zs:=
 ⟨h.1,h.2.1,h.2.2.imp id fun ⟨b,off,h1,h2,h3⟩=>⟨b,off,h1,h3,fun e=>by have:=hx b e;omega,fun e=>by have:=hy b e;omega⟩⟩

theorem owns_old {w w':World} {base:Nat} {e:TypeId} {size:Nat} {v:Value} {n:Nat} {xs:List Value} (h:w.ownsRow base e size v n xs) (hb:Below w.heap.size w w'):w'.ownsRow base e size v n xs:=by
 obtain⟨h1,h2 | ⟨g,cap,cur,hv,hg,hh,r⟩⟩:=h
 ·exact⟨h1,.inl h2⟩
 ·exact⟨h1,.inr ⟨g,cap,cur,hv,hg,by rw[hb.block g (Array.getElem?_eq_some_iff.1 hh).1];exact hh,r⟩⟩
theorem owns_lt {w:World} {base:Nat} {e:TypeId} {size:Nat} {v:Value} {n:Nat} {xs:List Value} (h:w.ownsRow base e size v n xs):∀ k,v.ownBlock=some k→k<w.heap.size∧base≤k:=by
 intro k hk
 obtain⟨h1,⟨rfl,_⟩ | ⟨g,cap,cur,rfl,hg,hh,r⟩⟩:=h
 ·simp[Value.ownBlock]at hk
 ·simp[Value.ownBlock]at hk
  subst hk
  exact⟨(Array.getElem?_eq_some_iff.1 hh).1,hg⟩
theorem owns_grown {w w':World} {row:Option Nat} {base:Nat} {e:TypeId} {size:Nat} {v:Value} {n:Nat} {xs:List Value} (h:w.ownsRow base e size v n xs) (hg:w.grownBy w' row) (hne:∀ k,v.ownBlock=some k→row≠some k):w'.ownsRow base e size v n xs:=by
 obtain⟨h1,h2 | ⟨g,cap,cur,rfl,hgb,hh,r⟩⟩:=h
 ·exact⟨h1,.inl h2⟩
 ·have:=hne g (by simp[Value.ownBlock])
  exact⟨h1,.inr ⟨g,cap,cur,rfl,hgb,by rw[hg.block g (Array.getElem?_eq_some_iff.1 hh).1 (fun e=>this e.symm)];exact hh,r⟩⟩

structure SplSt (w:World) (B:Nat) (e:TypeId) (vF vR:Value) (fs:List FR) (rs:List Row3):Prop where
 ownF:w.ownsRow B e 4 vF fs.length (fs.flatMap FR.cells)
 ownR:w.ownsRow B 27 1 vR rs.length (rs.map Row3.val)
 apart:∀ k,vF.ownBlock=some k→vR.ownBlock≠some k
 farF:∀ f∈fs,FarB w vF.ownBlock vR.ownBlock f.a f.len f.d
 farR:∀ r∈rs,FarB w vF.ownBlock vR.ownBlock r.a r.len r.zs

theorem SplSt.nil (w:World) (B:Nat) (e:TypeId):SplSt w B e (.slice none 0 0) (.slice none 0 0) [] []:=
 ⟨World.ownsRow_nil _ _ _ _,World.ownsRow_nil _ _ _ _,by simp[Value.ownBlock],by simp,by simp⟩
theorem SplSt.old {w w':World} {B:Nat} {e:TypeId} {vF vR:Value} {fs:List FR} {rs:List Row3} (h:SplSt w B e vF vR fs rs) (hb:Below w.heap.size w w'):SplSt w' B e vF vR fs rs:=
 ⟨owns_old h.ownF hb,owns_old h.ownR hb,h.apart,fun f hf=>(h.farF f hf).old hb,fun r hr=>(h.farR r hr).old hb⟩
theorem SplSt.addF {w w':World} {B:Nat} {e:TypeId} {vF vR vF':Value} {fs:List FR} {rs:List Row3} (h:SplSt w B e vF vR fs rs) (f:FR) (hf:FarB w vF.ownBlock vR.ownBlock f.a f.len f.d)
  (ho:w'.ownsRow B e 4 vF' (fs.length+1) (fs.flatMap FR.cells++f.cells)) (hg:w.grownBy w' vF.ownBlock) (hx:vF'.ownBlock=vF.ownBlock∨vF'.ownBlock=some w.heap.size):SplSt w' B e vF' vR (fs++[f]) rs:=by
 refine⟨by simpa using ho,owns_grown h.ownR hg (fun k hk e=>h.apart k e hk),?_,?_,fun r hr=>(h.farR r hr).grow1 hg hx⟩
 ·intro k hk hr
  rcases hx with hx | hx
  ·exact h.apart k (hx▸hk) hr
  ·have:=(owns_lt h.ownR k hr).1
   rw[hx]at hk
   simp at hk
   omega
 ·intro f' hf'
  rcases List.mem_append.1 hf' with h1 | h1
  ·exact(h.farF f' h1).grow1 hg hx
  ·simp at h1
   subst h1
   exact hf.grow1 hg hx
theorem SplSt.addR {w w':World} {B:Nat} {e:TypeId} {vF vR vR':Value} {fs:List FR} {rs:List Row3} (h:SplSt w B e vF vR fs rs) (r:Row3) (hr:FarB w vF.ownBlock vR.ownBlock r.a r.len r.zs)
  (ho:w'.ownsRow B 27 1 vR' (rs.length+1) (rs.map Row3.val++[r.val])) (hg:w.grownBy w' vR.ownBlock) (hx:vR'.ownBlock=vR.ownBlock∨vR'.ownBlock=some w.heap.size):SplSt w' B e vF vR' fs (rs++[r]):=by
 refine⟨owns_grown h.ownF hg (fun k hk e=>h.apart k hk e),by simpa using ho,?_,fun f hf=>(h.farF f hf).grow2 hg hx,?_⟩
 ·intro k hk hrr
  rcases hx with hx | hx
  ·exact h.apart k hk (hx▸hrr)
  ·have:=(owns_lt h.ownF k hk).1
   rw[hx]at hrr
   simp at hrr
   omega
 ·intro r' hr'
  rcases List.mem_append.1 hr' with h1 | h1
  ·exact(h.farR r' h1).grow2 hg hx
  ·simp at h1
   subst h1
   exact hr.grow2 hg hx

theorem info22:(Tryz.prog.info? 27).map (fun i=>(i.zero,i.size,i.bytes))=some (some (.slice none 0 0),1,24):=by kernel_rfl
def FieldType (t e:TypeId):Prop:=Tryz.prog.underlying t=some (.slice e)∧(Tryz.prog.info? e).map (fun i=>(i.zero,i.size,i.bytes))=some (some (.agg #[.int .i64 0,.int .i64 0,.int .u64 0,.slice none 0 0]),4,48)

theorem runF1_append (w:World) (t e ty:TypeId) (hT:FieldType t e) (B:Nat) (vF vR:Value) (fs:List FR) (rs:List Row3) (h:SplSt w B e vF vR fs rs) (f:FR) (hf:FarB w vF.ownBlock vR.ownBlock f.a f.len f.d)
  (ad:Addr) (c:Nat) (hc:∀ j u,f.cells[j]? = some u→w.cell? (ad.add j)=some u) (hB:B≤w.heap.size) (hn:fs.length≤2097152) :
  ∃ vF' w',(Builtin.append_ #[t,t] ty #[vF,.slice (some ad) 1 c]).run Tryz.prog w=.ok vF' w'∧SplSt w' B e vF' vR (fs++[f]) rs∧Below B w w':=by
 obtain⟨i0,hi,hz0,hz1,hz2⟩:=info_parts hT.2
 obtain⟨v',w',hr,h1,h2,_,h4⟩:=run_append_own_at (P:=Tryz.prog) w B t ty e i0 _ 4 48 hT.1 hi hz0 hz1 hz2 rfl (by decide) vF fs.length _ h.ownF ad 1 c f.cells rfl hc (by intro u hu;simp[FR.cells]at hu;rcases hu with rfl | rfl | rfl | rfl <;> rfl) (by unfold maxLen;omega) (by omega) hB
 exact⟨v',w',hr,h.addF f hf h1 h2 h4,(Below.refl _ _).grown h2 hB (fun k hk=>(owns_lt h.ownF k hk).2)⟩
theorem runR1_append (w:World) (e ty:TypeId) (B:Nat) (vF vR:Value) (fs:List FR) (rs:List Row3) (h:SplSt w B e vF vR fs rs) (r:Row3) (hr:FarB w vF.ownBlock vR.ownBlock r.a r.len r.zs)
  (ad:Addr) (c:Nat) (hc:w.cell? (ad.add 0)=some r.val) (hB:B≤w.heap.size) (hn:rs.length≤2097152) :
  ∃ vR' w',(Builtin.append_ #[101,101] ty #[vR,.slice (some ad) 1 c]).run Tryz.prog w=.ok vR' w'∧SplSt w' B e vF vR' fs (rs++[r])∧Below B w w':=by
 obtain⟨i0,hi,hz0,hz1,hz2⟩:=info_parts info22
 obtain⟨v',w',hr2,h1,h2,_,h4⟩:=run_append_own_at (P:=Tryz.prog) w B 101 ty 27 i0 _ 1 24 Tryz.underlying101 hi hz0 hz1 hz2 rfl (by decide) vR rs.length _ h.ownR ad 1 c [r.val] rfl (by intro j u hj;cases j with | zero=>simp at hj;subst hj;exact hc | succ j=>simp at hj) (by intro u hu;simp at hu;subst hu;rfl) (by unfold maxLen;omega) (by omega) hB
 exact⟨v',w',hr2,h.addR r hr h1 h2 h4,(Below.refl _ _).grown h2 hB (fun k hk=>(owns_lt h.ownR k hk).2)⟩

theorem wpS_F {w:World} {ops:Array Oper} {rest:List Oper} {o:Oper} {a:Act} {Q:Exit→Act→World→Prop} (hgd:o.guard=none) (s x:Operand) (t e:TypeId)
  (ho:o.op=.call { callee:=.builtin .append,args:=#[s,x],argTypes:=#[t,t] }) (hT:FieldType t e) (B:Nat) (vF vR:Value) (fs:List FR) (rs:List Row3) (hs:a.eval s=vF) (h:SplSt w B e vF vR fs rs)
  (f:FR) (hf:FarB w vF.ownBlock vR.ownBlock f.a f.len f.d) (ad:Addr) (c:Nat) (hx:a.eval x=.slice (some ad) 1 c) (hc:∀ j u,f.cells[j]? = some u→w.cell? (ad.add j)=some u) (hB:B≤w.heap.size) (hn:fs.length≤2097152)
  (hk:∀ v' w',SplSt w' B e v' vR (fs++[f]) rs→Below B w w'→wpList Tryz.prog ops Q rest (a.put o.dst v') w'):wpList Tryz.prog ops Q (o :: rest) a w:=by
 obtain⟨v',w',hrun,h1,h2⟩:=runF1_append w t e o.type hT B vF vR fs rs h f hf ad c hc hB hn
 exact Lib.wpList_append_run _ hgd s x t t ho vF _ hs hx v' w' hrun (hk v' w' h1 h2)
theorem wpS_R {w:World} {ops:Array Oper} {rest:List Oper} {o:Oper} {a:Act} {Q:Exit→Act→World→Prop} (hgd:o.guard=none) (s x:Operand) (e:TypeId)
  (ho:o.op=.call { callee:=.builtin .append,args:=#[s,x],argTypes:=#[101,101] }) (B:Nat) (vF vR:Value) (fs:List FR) (rs:List Row3) (hs:a.eval s=vR) (h:SplSt w B e vF vR fs rs)
  (r:Row3) (hr:FarB w vF.ownBlock vR.ownBlock r.a r.len r.zs) (ad:Addr) (c:Nat) (hx:a.eval x=.slice (some ad) 1 c) (hc:w.cell? (ad.add 0)=some r.val) (hB:B≤w.heap.size) (hn:rs.length≤2097152)
  (hk:∀ v' w',SplSt w' B e vF v' fs (rs++[r])→Below B w w'→wpList Tryz.prog ops Q rest (a.put o.dst v') w'):wpList Tryz.prog ops Q (o :: rest) a w:=by
 obtain⟨v',w',hrun,h1,h2⟩:=runR1_append w e o.type B vF vR fs rs h r hr ad c hc hB hn
 exact Lib.wpList_append_run _ hgd s x 101 101 ho vR _ hs hx v' w' hrun (hk v' w' h1 h2)
theorem stepS_F {w:World} {ops:Array Oper} {o:Oper} {a:Act} {K:Act→World→Prop} {Q:Exit→Act→World→Prop} {E:Prop} (hgd:o.guard=none) (s x:Operand) (t e:TypeId)
  (ho:o.op=.call { callee:=.builtin .append,args:=#[s,x],argTypes:=#[t,t] }) (hT:FieldType t e) (B:Nat) (vF vR:Value) (fs:List FR) (rs:List Row3) (hs:a.eval s=vF) (h:SplSt w B e vF vR fs rs)
  (f:FR) (hf:FarB w vF.ownBlock vR.ownBlock f.a f.len f.d) (ad:Addr) (c:Nat) (hx:a.eval x=.slice (some ad) 1 c) (hc:∀ j u,f.cells[j]? = some u→w.cell? (ad.add j)=some u) (hB:B≤w.heap.size) (hn:fs.length≤2097152)
  (hk:∀ v' w',SplSt w' B e v' vR (fs++[f]) rs→Below B w w'→w.grownBy w' vF.ownBlock→K (a.put o.dst v') w'):if Region.wanted o (yielded ops a.tmps)=true then Oper.wp Tryz.prog o a w K Q else E:=by
 have hw:Region.wanted o (yielded ops a.tmps)=true:=by simp[Region.wanted,hgd]
 rw[if_pos hw]
 obtain⟨i0,hi,hz0,hz1,hz2⟩:=info_parts hT.2
 obtain⟨v',w',hr,h1,h2,_,h4⟩:=run_append_own_at (P:=Tryz.prog) w B t o.type e i0 _ 4 48 hT.1 hi hz0 hz1 hz2 rfl (by decide) vF fs.length _ h.ownF ad 1 c f.cells rfl hc (by intro u hu;simp[FR.cells]at hu;rcases hu with rfl | rfl | rfl | rfl <;> rfl) (by unfold maxLen;omega) (by omega) hB
 exact Lib.wp_append_run _ s x t t ho vF _ hs hx v' w' hr (hk v' w' (h.addF f hf h1 h2 h4) ((Below.refl _ _).grown h2 hB (fun k hk=>(owns_lt h.ownF k hk).2)) h2)
theorem stepS_R {w:World} {ops:Array Oper} {o:Oper} {a:Act} {K:Act→World→Prop} {Q:Exit→Act→World→Prop} {E:Prop} (hgd:o.guard=none) (s x:Operand) (e:TypeId)
  (ho:o.op=.call { callee:=.builtin .append,args:=#[s,x],argTypes:=#[101,101] }) (B:Nat) (vF vR:Value) (fs:List FR) (rs:List Row3) (hs:a.eval s=vR) (h:SplSt w B e vF vR fs rs)
  (r:Row3) (hr:FarB w vF.ownBlock vR.ownBlock r.a r.len r.zs) (ad:Addr) (c:Nat) (hx:a.eval x=.slice (some ad) 1 c) (hc:w.cell? (ad.add 0)=some r.val) (hB:B≤w.heap.size) (hn:rs.length≤2097152)
  (hk:∀ v' w',SplSt w' B e vF v' fs (rs++[r])→Below B w w'→K (a.put o.dst v') w'):if Region.wanted o (yielded ops a.tmps)=true then Oper.wp Tryz.prog o a w K Q else E:=by
 have hw:Region.wanted o (yielded ops a.tmps)=true:=by simp[Region.wanted,hgd]
 rw[if_pos hw]
 obtain⟨v',w',hrun,h1,h2⟩:=runR1_append w e o.type B vF vR fs rs h r hr ad c hc hB hn
 exact Lib.wp_append_run _ s x 101 101 ho vR _ hs hx v' w' hrun (hk v' w' h1 h2)
set_option maxRecDepth 20000 in
set_option maxHeartbeats 4000000 in
theorem takeFieldR_2zero (b off:Nat) (w:World) (N:Int) (k q:Nat)
  (HT:∀ W,Below w.heap.size w W→Calls Tryz.prog 92 #[.slice (some ⟨b,off,none⟩) (k+q) (k+q)] W fun e w'=>
   e=.returned (.tuple #[.int .u64 N,.int .i64 k,.int .i64 0])∧w'=W)
  (HT2:∀ W,Below w.heap.size w W→Calls Tryz.prog 92 #[.slice (some ⟨b,off+k,none⟩) q q] W fun e w'=>
   e=.returned (.tuple #[.int .u64 0,.int .i64 q,.int .i64 0])∧w'=W)
  (hN0:0≤N) (hN1:N≤18446744073709551615) (h1:1≤N / 8) (h2:N / 8≤536870911) (hty:N % 8=2) (hk10:k≤10) (hq10:q≤10) (hq:1≤q) :
  Calls Tryz.prog 64 #[.slice (some ⟨b,off,none⟩) (k+q) (k+q)] w fun e w'=>TfAns w w' e ⟨N / 8,2,0,[],k+q,0⟩:=by
 have HTT:Hid _:=HT
 have HTT2:Hid _:=HT2
 clear HT HT2
 have hck:¬k+q=k:=by omega
 go_enter Tryz.func64,Tryz.ntmps64
 go_wp2_with fail
 refine(HTT.out _ ((Below.refl _ _).alloc (Nat.le_refl _) _)).mono ?_
 rintro e w' ⟨rfl,rfl⟩
 clear HTT
 go_wp2_with fail
 refine(HTT2.out _ (((Below.refl _ _).alloc (Nat.le_refl _) _).alloc (by simp) _)).mono ?_
 rintro e w' ⟨rfl,rfl⟩
 clear HTT2
 go_wp2_with fail
 go_cut [] (fun wx=>∃ a3 c3,wx.cell? ⟨w.heap.size+1,0,none⟩=some (.int .i64 (N / 8))∧wx.cell? ⟨w.heap.size+1,1,none⟩=some (.int .i64 2)∧wx.cell? ⟨w.heap.size+1,2,none⟩=some (.int .u64 0)∧wx.cell? ⟨w.heap.size+1,3,none⟩=some (.slice a3 0 c3)∧
  (∀ o,o<4→∃ v,wx.cell? ⟨w.heap.size,o,none⟩=some v)∧(∀ o,wx.frozen? ⟨w.heap.size,o,none⟩=false)∧Below w.heap.size w wx∧w.heap.size+2≤wx.heap.size∧NoA a3 0 c3∧
  (∀ w',(∀ b o,w.heap.size+2≤b→w'.cell? ⟨b,o,none⟩=wx.cell? ⟨b,o,none⟩)→IsB w' a3 0 []))
 case first=>
  have hw0:IntKind.i64.wrap 0=0:=by decide
  have hw2:IntKind.i64.wrap ((k:Int)+(q:Int))=(k:Int)+(q:Int):=by rw[IntKind.wrap_i64];omega
  have hA3:0≤(k:Int)+(q:Int):=by omega
  have hmx:max ((k:Int)+(q:Int)) 0=(k:Int)+(q:Int):=by omega
  have hT2:((k:Int)+(q:Int)).toNat=k+q:=by omega
  have HBW:Hid (Below w.heap.size w ((w.alloc (.cells #[.int .i64 0,.int .i64 0,.int .u64 0,.slice none 0 0] 106)).alloc (.cells #[.int .i64 (N / 8),.int .i64 2,.int .u64 0,.slice none 0 0] 106)).drew):=(((Below.refl _ _).alloc (Nat.le_refl _) _).alloc (by simp) _).drew
  go_region_law (refine stepE_append rfl (.tmp 107) (.tmp 114) rfl (w.heap.size+2) (.slice none 0 0) [] rfl (.inl (own_nil _ _)) (some ⟨b,off,none⟩) 0 0 [] rfl ⟨rfl,by simp,.inl rfl⟩ (by simp) (by simp) (by simp) ?_;intro v3 w3 hown3 hb3;simp only[List.nil_append]at hown3;obtain⟨a3,c3,rfl,hno3,hst3⟩:=ownE_isB hown3 (by simp) (by simp);simp only[List.length_nil]at hno3 hst3 ⊢;have hb03:Below w.heap.size w w3:=HBW.out.trans (hb3.mono (by omega));obtain⟨hcc,hff⟩:=below_rules hb3;have hz3:w.heap.size+2≤w3.heap.size:=(by have:=hb3.size;simp at this;omega))
  all_goals
   have HCC:Hid (∀ b o,b<w.heap.size+2→w3.cell? ⟨b,o,none⟩=_):=hcc
   have HFF:Hid (∀ b o,b<w.heap.size+2→w3.frozen? ⟨b,o,none⟩=_):=hff
   have HST3:Hid _:=hst3
   have HN3:Hid _:=hno3
   clear hcc hff hst3 hno3 hw0 hw2 hA3 hmx hT2 hown3 hb3
   go_wp2_with fail
   go_meet
   have hcc:=HCC.out
   have hff:=HFF.out
   have hst3:=HST3.out
   have hno3:=HN3.out
   refine⟨a3,c3,?_,?_,?_,?_,?_,?_,hb03.setCell (by simp) _,by simpa using hz3,⟨fun h=>⟨rfl,(hno3.1 h).2⟩,hno3.2⟩,?_⟩
   ·rw[World.cell?_setCell_other _ _ _ _ (by simp),hcc _ _ (by omega)];simp
   ·rw[World.cell?_setCell_other _ _ _ _ (by simp),hcc _ _ (by omega)];simp
   ·rw[World.cell?_setCell_other _ _ _ _ (by simp),hcc _ _ (by omega)];simp
   ·refine World.cell?_setCell_same _ _ _ (u:=.slice none 0 0) ?_
    rw[hcc _ _ (by omega)];simp
   ·intro o ho
    rw[World.cell?_setCell_other _ _ _ _ (by simp),hcc _ _ (by omega)]
    match o,ho with
    | 0,_=>exact⟨_,by simp;rfl⟩
    | 1,_=>exact⟨_,by simp;rfl⟩
    | 2,_=>exact⟨_,by simp;rfl⟩
    | 3,_=>exact⟨_,by simp;rfl⟩
   ·intro o
    rw[World.frozen?_setCell,hff _ _ (by omega)];simp
   ·intro w' h
    exact hst3 w' (fun b o hb=>(h b o hb).trans (World.cell?_setCell_other _ _ _ _ (by simp <;> omega)))
 case rest=>
  obtain⟨a3,c3,e0,e1,e2,e3,hex,hfr,hbx,hzx,hno3,hst⟩:=hcut
  obtain⟨v0,r0⟩:=hex 0 (by omega)
  obtain⟨v1,r1⟩:=hex 1 (by omega)
  obtain⟨v2,r2⟩:=hex 2 (by omega)
  obtain⟨v3,r3⟩:=hex 3 (by omega)
  have HBX:Hid (Below w.heap.size w wc):=hbx
  have HST:Hid (∀ w',(∀ b o,w.heap.size+2≤b→w'.cell? ⟨b,o,none⟩=wc.cell? ⟨b,o,none⟩)→IsB w' a3 0 []):=hst
  have HN3:Hid (NoA a3 0 c3):=hno3
  clear hex hbx hst hno3
  go_wp2_with fail
  refine bodyPost_ret (v:=.tuple #[.agg #[.int .i64 (N / 8),.int .i64 2,.int .u64 0,.slice a3 0 c3],.int .i64 (k+q),.int .i64 0]) ?_ rfl ⟨a3,0,c3,rfl,?_,HN3.out,?_⟩
  ·simp[results,Tryz.results64,go_sem,r0,r1,r2,r3]
  ·refine stable_newB ?_
   intro w2 h2
   refine HST.out _ (fun b o hb=>?_)
   rw[h2 b o (by omega),World.cell?_setCell_other _ _ _ _ (by simp <;> omega),World.cell?_setCell_other _ _ _ _ (by simp <;> omega),World.cell?_setCell_other _ _ _ _ (by simp <;> omega),World.cell?_setCell_other _ _ _ _ (by simp <;> omega)]
  ·exact(((HBX.out.setCell (by simp) _).setCell (by simp) _).setCell (by simp) _).setCell (by simp) _
theorem dec_q:∀ (zs:List Int) (X:Int) (k:Nat),k≤9→0≤(dec X k zs).2.1∧(dec X k zs).2.1≤10
 | [],X,k,_=>by rw[dec_nil];simp
 | z :: zs,X,k,hk=>by
  by_cases hf:k=9∧1<z
  ·rw[dec_form _ _ _ _ hf.1 hf.2];simp
  ·by_cases h1:z<128
   ·rw[dec_end _ _ _ _ hf h1];simp only[];omega
   ·rw[dec_on _ _ _ _ hf (by omega)]
    exact dec_q zs _ (k+1) (by omega)
theorem dec_triple (zs:List Int):∃ N K E,dec 0 0 zs=(N,K,E):=⟨_,_,_,rfl⟩

theorem takeFieldR_len (a:Option Addr) (len cap:Nat) (zs:List Int) (w:World) (hB:IsB w a len zs) (hlc:len≤cap) (hcm:cap≤9223372036854775807) (hlm:len≤140737488351232) :
  Calls Tryz.prog 64 #[.slice a len cap] w fun e w'=>TfAns w w' e (tf zs):=by
 obtain⟨N,K,E,hd⟩:=dec_triple zs
 unfold tf
 rw[hd]
 simp only[]
 by_cases hE:E=0
 ·subst hE
  rw[if_neg (by simp)]
  obtain⟨hN0,hN1,hK0,hKl,hK10⟩:=dec_ok zs 0 0 N K (isB_bytes hB) (by simp) (by omega) (by simpa using hd)
  obtain⟨k,rfl⟩:=Int.eq_ofNat_of_zero_le (show 0≤K by omega)
  have hzl:=hB.1
  obtain⟨b,off,_,rfl,_⟩:=isB_at hB (show 0<len by omega)
  have HT:∀ W,Below w.heap.size w W→Calls Tryz.prog 92 #[.slice (some ⟨b,off,none⟩) len cap] W fun e w'=>
    e=.returned (.tuple #[.int .u64 N,.int .i64 k,.int .i64 0])∧w'=W:=by
   intro W hW
   have:=takeRB_any _ len cap zs W (isB_old hB hW)
   rw[hd]at this;exact this
  rw[Int.toNat_natCast]
  unfold tfBody
  by_cases hbad:N / 8<1∨536870911<N / 8∨¬(N % 8=0∨N % 8=1∨N % 8=2∨N % 8=5)
  ·rw[if_pos hbad]
   exact takeFieldR_form _ len cap zs w hB N k hd hN0 hN1 hbad
  ·rw[if_neg hbad]
   have h1:1≤N / 8:=by omega
   have h2:N / 8≤536870911:=by omega
   obtain⟨X,Q,F,hq⟩:=dec_triple (zs.drop k)
   have hQ:=dec_q (zs.drop k) 0 0 (by omega)
   rw[hq]at hQ ⊢
   simp only[]at hQ ⊢
   have HT2:∀ W,Below w.heap.size w W→Calls Tryz.prog 92 #[.slice (some (cutAt b off cap k)) (len - k) (cap - k)] W fun e w'=>
     e=.returned (.tuple #[.int .u64 X,.int .i64 Q,.int .i64 F])∧w'=W:=by
    intro W hW
    have:=takeRB_any _ (len - k) (cap - k) (zs.drop k) W (isB_cut (isB_old hB hW) hlc k (by omega))
    rw[hq]at this;exact this
   by_cases t0:N % 8=0
   ·rw[if_pos t0]
    exact takeFieldR_0 b off len cap zs w N k HT X Q F HT2 hN0 hN1 h1 h2 t0 (by omega) hlc (by omega) (by omega) hQ.1 hQ.2
   ·rw[if_neg t0]
    by_cases t2:N % 8=2
    ·rw[if_pos t2]
     by_cases hF:F=0
     ·subst hF
      rw[if_neg (by simp)]
      obtain⟨hX0,hX1,hQ0,hQl,_⟩:=dec_ok (zs.drop k) 0 0 X Q (fun z hz=>isB_bytes hB z (List.mem_of_mem_drop hz)) (by simp) (by omega) (by simpa using hq)
      obtain⟨q,rfl⟩:=Int.eq_ofNat_of_zero_le (show 0≤Q by omega)
      rw[List.length_drop]at hQl ⊢
      by_cases hs:((zs.length - k:Nat):Int) - (q:Int)<X
      ·rw[if_pos hs]
       exact takeFieldR_2short b off len cap w N k HT X q HT2 hN0 hN1 h1 h2 t2 (by omega) hlc (by omega) (by omega) (by omega) (by omega) hX0 hX1 (by omega)
      ·rw[if_neg hs]
       obtain⟨x,rfl⟩:=Int.eq_ofNat_of_zero_le hX0
       rw[Int.toNat_natCast,Int.toNat_natCast,List.drop_drop]
       by_cases hc2:cap=k+q
       ·obtain rfl:x=0:=by omega
        obtain rfl:len=k+q:=by omega
        subst hc2
        have:=takeFieldR_2zero b off w N k q HT (by
         intro W hW
         have h:=HT2 W hW
         rw[cutAt_in (by omega),show k+q - k=q by omega]at h
         simpa using h) hN0 hN1 h1 h2 t2 (by omega) (by omega) (by omega)
        simpa using this
       ·exact takeFieldR_2ok zs b off len cap w N k HT hB x q HT2 hN0 hN1 h1 h2 t2 (by omega) hlc hcm hlm (by omega) (by omega) (by omega) x rfl (by omega) hc2
     ·rw[if_pos (by simpa using hF)]
      exact takeFieldR_2err b off len cap w N k HT X Q F HT2 hN0 hN1 h1 h2 t2 (by omega) hlc (by omega) (by omega) hF
    ·rw[if_neg t2]
     by_cases t5:N % 8=5
     ·rw[if_pos t5]
      exact takeFieldR_5 b off len cap zs w N k hB HT hN0 hN1 h1 h2 t5 (by omega) hlc (by omega) (by omega)
     ·rw[if_neg t5]
      exact takeFieldR_1 b off len cap zs w N k hB HT hN0 hN1 h1 h2 (by omega) (by omega) hlc (by omega) (by omega)
 ·rw[if_pos (by simpa using hE)]
  exact takeFieldR_err a len cap zs w hB N K E hd hE
end Go.Proofs.YteajlfgbmefncaaGreatDoor
