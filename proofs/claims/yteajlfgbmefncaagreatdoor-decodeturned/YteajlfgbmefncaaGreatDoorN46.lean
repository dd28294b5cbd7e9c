/-
  Walks and plain words (UpS UpN UpB).
-/
import Derived.Test.YteajlfgbmefncaaGreatDoorN45
import Derived.Test.YteajlfgbmefncaaGreatDoorN10
import Derived.Test.YteajlfgbmefncaaGreatDoorN7
import Derived.Test.YteajlfgbmefncaaGreatDoorN22
namespace Go.Proofs.YteajlfgbmefncaaGreatDoor
set_option linter.unusedVariables false
open Go.ChangeShapes Go.WideShapes Go.ChangeAt Go.RowKit Go.Joins

set_option maxRecDepth 100000 in
theorem trodS2 {H:Type} {enc:TypeId × Value→H} {W:World} {t:TypeId} {f0 f1:Field} {fuel:Nat} {cs:List Value} {y:DataW H × List MemPlace} (ht:Tryz.prog.underlying t=some (.struct #[f0,f1])) (h:DataW.trod enc Tryz.prog W 0 (fun _=>true) true fuel t cs=some y) (hw:Wok2 y.1 t) :
  ∃ (y0 y1:DataW H × List MemPlace) (n:Nat),fuel=n+1∧cs.length=Tryz.prog.cellsOf t∧(DataW.trod enc Tryz.prog W 0 (fun _=>true) true n f0.type ((cs.drop f0.offset).take (Tryz.prog.cellsOf f0.type))=some y0∧Wok2 y0.1 f0.type)∧(DataW.trod enc Tryz.prog W 0 (fun _=>true) true n f1.type ((cs.drop f1.offset).take (Tryz.prog.cellsOf f1.type))=some y1∧Wok2 y1.1 f1.type):=by
 obtain⟨xs,n,hn,rfl,hl,hlen,hf⟩:=DataW.trod_struct ht h
 match xs,hlen with
 | [y0,y1],_=>exact⟨y0,y1,n,hn,hl,⟨by simpa using hf 0 f0 rfl,wok_struct ht hw 0 f0 y0.1 rfl rfl⟩,⟨by simpa using hf 1 f1 rfl,wok_struct ht hw 1 f1 y1.1 rfl rfl⟩⟩
theorem cI:Tryz.prog.cellsOf 3=1:=by kernel_rfl
theorem cB:Tryz.prog.cellsOf 4=1:=by kernel_rfl
theorem cS:Tryz.prog.cellsOf 9=1:=by kernel_rfl
set_option maxRecDepth 100000 in
theorem fd_of_trod {H:Type} {enc:TypeId × Value→H} {W:World} {fuel:Nat} {cs:List Value} {y:DataW H × List MemPlace} (h:DataW.trod enc Tryz.prog W 0 (fun _=>true) true fuel 51 cs=some y) (hw:Wok2 y.1 51) :
  ∃ x:FD,cs=fdrow x∧x.name.length≤N47:=by
 obtain⟨y0,y1,y2,y3,y4,n,_,hl,⟨h0,w0⟩,⟨h1,w1⟩,⟨h2,w2⟩,⟨h3,w3⟩,⟨h4,w4⟩⟩:=trodS5 Tryz.underlying51 h hw
 rw[show Tryz.prog.cellsOf 51=5 by kernel_rfl]at hl
 match cs,hl with
 | [c0,c1,c2,c3,c4],_=>
  dsimp only at h0 h1 h2 h3 h4
  simp only[cI,cB,cS,List.drop_zero,List.drop_succ_cons,List.take_succ_cons,List.take_zero]at h0 h1 h2 h3 h4
  obtain⟨a,e0,_,_⟩:=DataW.trod_int Tryz.underlying3 h0
  obtain⟨l1,e1,g1⟩:=str_of_trod h1 w1
  obtain⟨b,e2,_,_⟩:=DataW.trod_int Tryz.underlying3 h2
  obtain⟨c,e3,_⟩:=DataW.trod_bool Tryz.underlying4 h3
  obtain⟨d,e4,_,_⟩:=DataW.trod_int Tryz.underlying3 h4
  simp only[List.cons.injEq,and_true]at e0 e1 e2 e3 e4
  subst e0 e1 e2 e3 e4
  exact⟨⟨a,l1,b,c,d⟩,rfl,g1⟩
set_option maxRecDepth 100000 in
theorem vd_of_trod {H:Type} {enc:TypeId × Value→H} {W:World} {fuel:Nat} {cs:List Value} {y:DataW H × List MemPlace} (h:DataW.trod enc Tryz.prog W 0 (fun _=>true) true fuel 62 cs=some y) (hw:Wok2 y.1 62) :
  ∃ x:VD,cs=vdrow x∧x.name.length≤N47:=by
 obtain⟨y0,y1,n,_,hl,⟨h0,w0⟩,⟨h1,w1⟩⟩:=trodS2 Tryz.underlying62 h hw
 rw[show Tryz.prog.cellsOf 62=2 by kernel_rfl]at hl
 match cs,hl with
 | [c0,c1],_=>
  dsimp only at h0 h1
  simp only[cI,cS,List.drop_zero,List.drop_succ_cons,List.take_succ_cons,List.take_zero]at h0 h1
  obtain⟨l0,e0,g0⟩:=str_of_trod h0 w0
  obtain⟨a,e1,_,_⟩:=DataW.trod_int Tryz.underlying3 h1
  simp only[List.cons.injEq,and_true]at e0 e1
  subst e0 e1
  exact⟨⟨l0,a⟩,rfl,g0⟩
set_option maxRecDepth 100000 in
theorem td_of_trod {H:Type} {enc:TypeId × Value→H} {W:World} {fuel:Nat} {cs:List Value} {y:DataW H × List MemPlace} (h:DataW.trod enc Tryz.prog W 0 (fun _=>true) true fuel 64 cs=some y) (hw:Wok2 y.1 64) :
  ∃ x:TD,cs=tdrow x∧(x.name.length≤N47∧x.service.length≤N47):=by
 obtain⟨y0,y1,y2,y3,y4,n,_,hl,⟨h0,w0⟩,⟨h1,w1⟩,⟨h2,w2⟩,⟨h3,w3⟩,⟨h4,w4⟩⟩:=trodS5 Tryz.underlying64 h hw
 rw[show Tryz.prog.cellsOf 64=5 by kernel_rfl]at hl
 match cs,hl with
 | [c0,c1,c2,c3,c4],_=>
  dsimp only at h0 h1 h2 h3 h4
  simp only[cI,cS,List.drop_zero,List.drop_succ_cons,List.take_succ_cons,List.take_zero]at h0 h1 h2 h3 h4
  obtain⟨a,e0,_,_⟩:=DataW.trod_int Tryz.underlying3 h0
  obtain⟨l1,e1,g1⟩:=str_of_trod h1 w1
  obtain⟨l2,e2,g2⟩:=str_of_trod h2 w2
  obtain⟨c,e3,_,_⟩:=DataW.trod_int Tryz.underlying3 h3
  obtain⟨d,e4,_,_⟩:=DataW.trod_int Tryz.underlying3 h4
  simp only[List.cons.injEq,and_true]at e0 e1 e2 e3 e4
  subst e0 e1 e2 e3 e4
  exact⟨⟨a,l1,l2,c,d⟩,rfl,g2,g1⟩
theorem heldN_of {α β:Type} {nm:α→List UInt8} {kids:α→List β} {k:Nat} {row:β→List Value} {W:World} {v:Value} {ps:List (α × Value)}
  (h:RowsIn W (fun b=>b<W.heap.size) 2 (fun p:α × Value=>[.string (mkB (nm p.1)),p.2]) v ps) (hk:∀ p∈ps,RowsIn W (fun b=>b<W.heap.size) k row p.2 (kids p.1)) :
  HeldN nm kids k row W (fun b=>b<W.heap.size) v (ps.map Prod.fst):=by
 obtain⟨ad,c,hv,hc,hr⟩:=h
 refine⟨ad,c,by rw[List.length_map];exact hv,by rw[List.length_map];exact hc,?_⟩
 rcases hr with hr | ⟨g,o,ha,hg,hrow⟩
 ·left;rw[hr];rfl
 ·right
  refine⟨g,o,ha,hg,fun j x hj=>?_⟩
  rw[List.getElem?_map]at hj
  obtain⟨p,hp,rfl⟩:=Option.map_eq_some_iff.1 hj
  have hR:=hk p (List.mem_of_getElem? hp)
  obtain⟨ka,kc,hsl,hrest⟩:=hR
  refine⟨ka,kc,?_,?_,?_⟩
  ·have:=hrow j p hp 0 _ rfl;simpa [Nat.add_assoc]using this
  ·have:=hrow j p hp 1 _ rfl
   rw[←hsl];simpa [Nat.add_assoc]using this
  ·rw[←hsl];exact⟨ka,kc,hsl,hrest⟩
set_option maxRecDepth 100000 in
theorem ms_of_trod {H:Type} {enc:TypeId × Value→H} {W:World} {fuel:Nat} {cs:List Value} {y:DataW H × List MemPlace} (h:DataW.trod enc Tryz.prog W 0 (fun _=>true) true fuel 22 cs=some y) (hw:Wok2 y.1 22) :
  ∃ v xs,cs=[v]∧HeldM W (fun b=>b<W.heap.size) v xs∧xs.length≤N47∧∀ m∈xs,m.name.length≤N47∧m.fields.length≤N47∧∀ f∈m.fields,f.name.length≤N47:=by
 obtain⟨v,ps,rfl,hR,hlen,hfit⟩:=slice_rows (α:=MD × Value) 22 54 2 (fun p=>[.string (mkB p.1.name),p.2]) (fun p=>RowsIn W (fun b=>b<W.heap.size) 5 fdrow p.2 p.1.fields∧p.1.name.length≤N47∧p.1.fields.length≤N47∧∀ f∈p.1.fields,f.name.length≤N47)
  Tryz.underlying22 (by kernel_rfl) (by omega) (fun p=>rfl) (by rw[show Tryz.prog.bytesOf 54=40 by kernel_rfl];omega) (fun n hn cs y hq hwq=>by
   obtain⟨y0,y1,n2,_,hl,⟨h0,w0⟩,⟨h1,w1⟩⟩:=trodS2 Tryz.underlying54 hq hwq
   rw[show Tryz.prog.cellsOf 54=2 by kernel_rfl]at hl
   match cs,hl with
   | [c0,c1],_=>
    dsimp only at h0 h1
    simp only[cS,show Tryz.prog.cellsOf 52=1 by kernel_rfl,List.drop_zero,List.drop_succ_cons,List.take_succ_cons,List.take_zero]at h0 h1
    obtain⟨l0,e0,g0⟩:=str_of_trod h0 w0
    obtain⟨v1,fs,e1,R1,n1,f1⟩:=slice_rows 52 51 5 fdrow _ Tryz.underlying52 (by kernel_rfl) (by omega) (fun _=>rfl) (by rw[show Tryz.prog.bytesOf 51=48 by kernel_rfl];omega) (fun _ _ cs y h hw=>fd_of_trod h hw) h1 w1
    simp only[List.cons.injEq,and_true]at e0 e1
    subst e0 e1
    exact⟨(⟨l0,fs⟩,_),rfl,R1,g0,n1,f1⟩) h hw
 exact⟨v,ps.map Prod.fst,rfl,heldN_of hR fun p hp=>(hfit p hp).1,by rw[List.length_map];exact hlen,fun m hm=>by obtain⟨p,hp,rfl⟩:=List.mem_map.1 hm;exact(hfit p hp).2⟩
set_option maxRecDepth 100000 in
theorem es_of_trod {H:Type} {enc:TypeId × Value→H} {W:World} {fuel:Nat} {cs:List Value} {y:DataW H × List MemPlace} (h:DataW.trod enc Tryz.prog W 0 (fun _=>true) true fuel 23 cs=some y) (hw:Wok2 y.1 23) :
  ∃ v xs,cs=[v]∧HeldE W (fun b=>b<W.heap.size) v xs∧xs.length≤N47∧∀ m∈xs,m.name.length≤N47∧m.values.length≤N47∧∀ f∈m.values,f.name.length≤N47:=by
 obtain⟨v,ps,rfl,hR,hlen,hfit⟩:=slice_rows (α:=ED × Value) 23 60 2 (fun p=>[.string (mkB p.1.name),p.2]) (fun p=>RowsIn W (fun b=>b<W.heap.size) 2 vdrow p.2 p.1.values∧p.1.name.length≤N47∧p.1.values.length≤N47∧∀ f∈p.1.values,f.name.length≤N47)
  Tryz.underlying23 (by kernel_rfl) (by omega) (fun p=>rfl) (by rw[show Tryz.prog.bytesOf 60=40 by kernel_rfl];omega) (fun n hn cs y hq hwq=>by
   obtain⟨y0,y1,n2,_,hl,⟨h0,w0⟩,⟨h1,w1⟩⟩:=trodS2 Tryz.underlying60 hq hwq
   rw[show Tryz.prog.cellsOf 60=2 by kernel_rfl]at hl
   match cs,hl with
   | [c0,c1],_=>
    dsimp only at h0 h1
    simp only[cS,show Tryz.prog.cellsOf 58=1 by kernel_rfl,List.drop_zero,List.drop_succ_cons,List.take_succ_cons,List.take_zero]at h0 h1
    obtain⟨l0,e0,g0⟩:=str_of_trod h0 w0
    obtain⟨v1,fs,e1,R1,n1,f1⟩:=slice_rows 58 62 2 vdrow _ Tryz.underlying58 (by kernel_rfl) (by omega) (fun _=>rfl) (by rw[show Tryz.prog.bytesOf 62=24 by kernel_rfl];omega) (fun _ _ cs y h hw=>vd_of_trod h hw) h1 w1
    simp only[List.cons.injEq,and_true]at e0 e1
    subst e0 e1
    exact⟨(⟨l0,fs⟩,_),rfl,R1,g0,n1,f1⟩) h hw
 exact⟨v,ps.map Prod.fst,rfl,heldN_of hR fun p hp=>(hfit p hp).1,by rw[List.length_map];exact hlen,fun m hm=>by obtain⟨p,hp,rfl⟩:=List.mem_map.1 hm;exact(hfit p hp).2⟩
set_option maxRecDepth 100000 in
theorem open_schema {H:Type} {enc:TypeId × Value→H} {W:World} {r:Reach} {b0:Nat} {v:Value} {d:DataW H} {p:List MemPlace}
  (hv:Value.okWide Tryz.prog W r b0 26 v) (h:DataW.Trod enc Tryz.prog W 0 (fun _=>true) true 26 v d p) (hw:Wok2 d 26) :
  ∃ (a b c:Value) (s:SC),v=.agg #[a,b,c]∧HeldSc W (fun b=>b<W.heap.size) a b c s∧BigS s:=by
 obtain⟨xs,rfl,hsz⟩:=okWide_struct Tryz.underlying26 hv
 obtain⟨fuel,hf⟩:=h
 obtain⟨y0,y1,y2,n,_,hl,⟨h0,w0⟩,⟨h1,w1⟩,⟨h2,w2⟩⟩:=trodS3 Tryz.underlying26 hf hw
 rw[show Tryz.prog.cellsOf 26=3 by kernel_rfl]at hl
 obtain⟨l⟩:=xs
 simp only[Value.cells]at hl h0 h1 h2
 match l,hl with
 | [c0,c1,c2],_=>
  simp only[show Tryz.prog.cellsOf 22=1 by kernel_rfl,show Tryz.prog.cellsOf 23=1 by kernel_rfl,show Tryz.prog.cellsOf 24=1 by kernel_rfl,List.drop_zero,List.drop_succ_cons,List.take_succ_cons,List.take_zero]at h0 h1 h2
  obtain⟨v0,ms,e0,HM,n0,b0⟩:=ms_of_trod h0 w0
  obtain⟨v1,es,e1,HE,n1,b1⟩:=es_of_trod h1 w1
  obtain⟨v2,ts,e2,HT,n2,b2⟩:=slice_rows 24 64 5 tdrow _ Tryz.underlying24 (by kernel_rfl) (by omega) (fun _=>rfl) (by rw[show Tryz.prog.bytesOf 64=56 by kernel_rfl];omega) (fun _ _ cs y h hw=>td_of_trod h hw) h2 w2
  simp only[List.cons.injEq,and_true]at e0 e1 e2
  subst e0 e1 e2
  exact⟨_,_,_,⟨ms,es,ts⟩,rfl,⟨HM,HE,HT⟩,⟨n0,n1,n2⟩,b0,b1,b2⟩
set_option maxRecDepth 100000 in
theorem trodN7 {H:Type} {enc:TypeId × Value→H} {W:World} {t:TypeId} {f0 f1 f2 f3 f4 f5 f6:Field} {fuel:Nat} {cs:List Value} {y:DataW H × List MemPlace} (ht:Tryz.prog.underlying t=some (.struct #[f0,f1,f2,f3,f4,f5,f6])) (h:DataW.trod enc Tryz.prog W 0 (fun _=>true) true fuel t cs=some y) (hw:Wok2 y.1 t) :
  ∃ (y0 y1 y2 y3 y4 y5 y6:DataW H × List MemPlace) (n:Nat),fuel=n+1∧cs.length=Tryz.prog.cellsOf t∧(DataW.trod enc Tryz.prog W 0 (fun _=>true) true n f0.type ((cs.drop f0.offset).take (Tryz.prog.cellsOf f0.type))=some y0∧Wok2 y0.1 f0.type)∧(DataW.trod enc Tryz.prog W 0 (fun _=>true) true n f1.type ((cs.drop f1.offset).take (Tryz.prog.cellsOf f1.type))=some y1∧Wok2 y1.1 f1.type)∧(DataW.trod enc Tryz.prog W 0 (fun _=>true) true n f2.type ((cs.drop f2.offset).take (Tryz.prog.cellsOf f2.type))=some y2∧Wok2 y2.1 f2.type)∧(DataW.trod enc Tryz.prog W 0 (fun _=>true) true n f3.type ((cs.drop f3.offset).take (Tryz.prog.cellsOf f3.type))=some y3∧Wok2 y3.1 f3.type)∧(DataW.trod enc Tryz.prog W 0 (fun _=>true) true n f4.type ((cs.drop f4.offset).take (Tryz.prog.cellsOf f4.type))=some y4∧Wok2 y4.1 f4.type)∧(DataW.trod enc Tryz.prog W 0 (fun _=>true) true n f5.type ((cs.drop f5.offset).take (Tryz.prog.cellsOf f5.type))=some y5∧Wok2 y5.1 f5.type)∧(DataW.trod enc Tryz.prog W 0 (fun _=>true) true n f6.type ((cs.drop f6.offset).take (Tryz.prog.cellsOf f6.type))=some y6∧Wok2 y6.1 f6.type):=by
 obtain⟨xs,n,hn,rfl,hl,hlen,hf⟩:=DataW.trod_struct ht h
 match xs,hlen with
 | [y0,y1,y2,y3,y4,y5,y6],_=>exact⟨y0,y1,y2,y3,y4,y5,y6,n,hn,hl,⟨by simpa using hf 0 f0 rfl,wok_struct ht hw 0 f0 y0.1 rfl rfl⟩,⟨by simpa using hf 1 f1 rfl,wok_struct ht hw 1 f1 y1.1 rfl rfl⟩,⟨by simpa using hf 2 f2 rfl,wok_struct ht hw 2 f2 y2.1 rfl rfl⟩,⟨by simpa using hf 3 f3 rfl,wok_struct ht hw 3 f3 y3.1 rfl rfl⟩,⟨by simpa using hf 4 f4 rfl,wok_struct ht hw 4 f4 y4.1 rfl rfl⟩,⟨by simpa using hf 5 f5 rfl,wok_struct ht hw 5 f5 y5.1 rfl rfl⟩,⟨by simpa using hf 6 f6 rfl,wok_struct ht hw 6 f6 y6.1 rfl rfl⟩⟩
theorem cU64:Tryz.prog.cellsOf 35=1:=by kernel_rfl
theorem cI64:Tryz.prog.cellsOf 2=1:=by kernel_rfl
theorem cNF:Tryz.prog.cellsOf 36=1:=by kernel_rfl
theorem cNN:Tryz.prog.cellsOf 55=1:=by kernel_rfl
theorem fitG_up {bs bf:Nat} {w:World} {S:Nat→Prop}:∀ {f g:Nat},f≤g→∀ {x:Nd} {fs:Value},FitG bs bf f x→HeldG rawS w S f fs x.fields→FitG bs bf g x:=by
 intro f
 induction f with
 | zero=>
  intro g hg x fs hf h
  cases g with
  | zero=>exact hf
  | succ g=>exact⟨hf,by rw[h.1];exact Nat.zero_le _,fun p hp=>by rw[h.1]at hp;cases hp⟩
 | succ f ih=>
  intro g hg x fs hf h
  obtain⟨g,rfl⟩:∃ g',g=g'+1:=⟨g - 1,by omega⟩
  refine⟨hf.1,hf.2.1,fun p hp=>⟨(hf.2.2 p hp).1,fun y hy=>?_⟩⟩
  obtain⟨j,hj⟩:=List.getElem?_of_mem hp
  obtain⟨_,_,_,_,_,vs,_,hv⟩:=SlIn.at h hj
  obtain⟨k,hk⟩:=List.getElem?_of_mem hy
  obtain⟨_,_,_,_,_,fs2,_,h2⟩:=SlIn.at hv hk
  exact ih (by omega) ((hf.2.2 p hp).2 y hy) (h2 rfl)
def NodeFit (W:World) (n:Nat) (p:Nd × Value):Prop:=HeldG rawS W (fun b=>b<W.heap.size) n p.2 p.1.fields∧FitG 140737488355328 140737488355328 n p.1∧RngG n p.1
def FieldsIn (W:World) (n:Nat) (v:Value) (fl:List (Int × List Nd)):Prop:=HeldG rawS W (fun b=>b<W.heap.size) n v fl∧fl.length≤140737488355328∧∀ p∈fl,p.2.length≤140737488355328∧∀ y∈p.2,FitG 140737488355328 140737488355328 (n - 1) y∧RngG (n - 1) y
theorem FieldsIn.fit {W:World} {n:Nat} {v:Value} {fl:List (Int × List Nd)} (h:FieldsIn W n v fl) (x:Nd) (hx:x.fields=fl) (hs:x.s.length≤140737488355328):FitG 140737488355328 140737488355328 n x:=by
 cases n with
 | zero=>exact hs
 | succ n=>exact⟨hs,by rw[hx];exact h.2.1,by rw[hx];exact fun p hp=>⟨(h.2.2 p hp).1,fun y hy=>((h.2.2 p hp).2 y hy).1⟩⟩
theorem FieldsIn.rng {W:World} {n:Nat} {v:Value} {fl:List (Int × List Nd)} (h:FieldsIn W n v fl) (x:Nd) (hx:x.fields=fl) (hs:Rg1 x):RngG n x:=by
 cases n with
 | zero=>exact hs
 | succ n=>exact⟨hs,by rw[hx];exact fun p hp y hy=>((h.2.2 p hp).2 y hy).2⟩
theorem rngG_up {w:World} {S:Nat→Prop}:∀ {f g:Nat},f≤g→∀ {x:Nd} {fs:Value},RngG f x→HeldG rawS w S f fs x.fields→RngG g x:=by
 intro f
 induction f with
 | zero=>
  intro g hg x fs hf h
  cases g with
  | zero=>exact hf
  | succ g=>exact⟨hf,fun p hp=>by rw[h.1]at hp;cases hp⟩
 | succ f ih=>
  intro g hg x fs hf h
  obtain⟨g,rfl⟩:∃ g',g=g'+1:=⟨g - 1,by omega⟩
  refine⟨hf.1,fun p hp y hy=>?_⟩
  obtain⟨j,hj⟩:=List.getElem?_of_mem hp
  obtain⟨_,_,_,_,_,vs,_,hv⟩:=SlIn.at h hj
  obtain⟨k,hk⟩:=List.getElem?_of_mem hy
  obtain⟨_,_,_,_,_,fs2,_,h2⟩:=SlIn.at hv hk
  exact ih (by omega) (hf.2 p hp y hy) (h2 rfl)
set_option maxRecDepth 100000 in
theorem node_of_trod {H:Type} {enc:TypeId × Value→H} {W:World} (n:Nat) (ih:∀ m,m<n→∀ {cs:List Value} {y:DataW H × List MemPlace},DataW.trod enc Tryz.prog W 0 (fun _=>true) true m 36 cs=some y→Wok2 y.1 36→
   ∃ v fl,cs=[v]∧FieldsIn W m v fl) {cs:List Value} {y:DataW H × List MemPlace}
  (h:DataW.trod enc Tryz.prog W 0 (fun _=>true) true n 38 cs=some y) (hw:Wok2 y.1 38) :
  ∃ p:Nd × Value,cs=nrow p.1 p.2∧NodeFit W n p:=by
 obtain⟨y0,y1,y2,y3,y4,y5,y6,m,hm,hl,⟨h0,w0⟩,⟨h1,w1⟩,⟨h2,w2⟩,⟨h3,w3⟩,⟨h4,w4⟩,⟨h5,w5⟩,⟨h6,w6⟩⟩:=trodN7 Tryz.underlying38 h hw
 rw[show Tryz.prog.cellsOf 38=7 by kernel_rfl]at hl
 match cs,hl with
 | [c0,c1,c2,c3,c4,c5,c6],_=>
  dsimp only at h0 h1 h2 h3 h4 h5 h6
  simp only[cI,cB,cS,cU64,cI64,cNF,List.drop_zero,List.drop_succ_cons,List.take_succ_cons,List.take_zero]at h0 h1 h2 h3 h4 h5 h6
  obtain⟨kd,e0,_,_⟩:=DataW.trod_int Tryz.underlying3 h0
  obtain⟨nn,e1,_,r1⟩:=DataW.trod_int Tryz.underlying2 h1
  obtain⟨uu,e2,_,r2⟩:=DataW.trod_int Tryz.underlying35 h2
  obtain⟨b,e3,_⟩:=DataW.trod_bool Tryz.underlying4 h3
  obtain⟨ss,e4,g4⟩:=str_of_trod h4 w4
  obtain⟨ty,e5,_,_⟩:=DataW.trod_int Tryz.underlying3 h5
  obtain⟨v6,fl,e6,hF⟩:=ih m (by omega) h6 w6
  simp only[List.cons.injEq,and_true]at e0 e1 e2 e3 e4 e5 e6
  subst e0 e1 e2 e3 e4 e5 e6
  have hfit:=hF.fit ⟨kd,nn,uu,b,ss,ty,fl⟩ rfl g4
  exact⟨(⟨kd,nn,uu,b,ss,ty,fl⟩,_),rfl,HeldG.upTo (by omega) hF.1,fitG_up (by omega) hfit hF.1,rngG_up (by omega) (hF.rng ⟨kd,nn,uu,b,ss,ty,fl⟩ rfl ⟨bd_i64 r1,bd_u64 r2⟩) hF.1⟩
theorem slIn_of {α β:Type} {W:World} {S:Nat→Prop} {k:Nat} {row:α→List Value} {v:Value} {ps:List α} (h:RowsIn W S k row v ps) (g:α→β) (R:β→Nat→Nat→Prop) (hR:∀ p∈ps,∀ b o,Cells W b o (row p)→R (g p) b o):SlIn S k R v (ps.map g):=by
 obtain⟨ad,c,hv,hc,hr⟩:=h
 refine⟨ad,c,by rw[List.length_map];exact hv,by rw[List.length_map];exact hc,?_⟩
 rcases hr with hr | ⟨b,o,ha,hg,hrow⟩
 ·left;rw[hr];rfl
 ·right
  refine⟨b,o,ha,hg,fun j x hj=>?_⟩
  rw[List.getElem?_map]at hj
  obtain⟨p,hp,rfl⟩:=Option.map_eq_some_iff.1 hj
  refine hR p (List.mem_of_getElem? hp) _ _ fun i u hu=>?_
  have:=hrow j p hp i u hu
  rwa [Nat.add_assoc]
set_option maxRecDepth 100000 in
theorem fields_of_trod {H:Type} {enc:TypeId × Value→H} {W:World}:∀ (fuel:Nat) {cs:List Value} {y:DataW H × List MemPlace},DataW.trod enc Tryz.prog W 0 (fun _=>true) true fuel 36 cs=some y→Wok2 y.1 36→
  ∃ v fl,cs=[v]∧FieldsIn W fuel v fl:=by
 intro fuel
 induction fuel using Nat.strongRecOn with
 | _ fuel ih=>
  intro cs y h hw
  cases fuel with
  | zero=>simp[DataW.trod]at h
  | succ fuel=>
   obtain⟨v,ps,rfl,hR,hlen,hfit⟩:=slice_rows (α:=(Int × List Nd) × Value) 36 57 2 (fun p=>[.int .i64 p.1.1,p.2]) (fun p=>ValsG rawS W (fun b=>b<W.heap.size) fuel p.2 p.1.2∧p.1.2.length≤140737488355328∧∀ y∈p.1.2,FitG 140737488355328 140737488355328 fuel y∧RngG fuel y)
    Tryz.underlying36 (by kernel_rfl) (by omega) (fun p=>rfl) (by rw[show Tryz.prog.bytesOf 57=32 by kernel_rfl];omega) (fun n hn cs y hq hwq=>by
     have hn':n=fuel:=by omega
     subst hn'
     obtain⟨y0,y1,n2,hn2,hl,⟨h0,w0⟩,⟨h1,w1⟩⟩:=trodS2 Tryz.underlying57 hq hwq
     rw[show Tryz.prog.cellsOf 57=2 by kernel_rfl]at hl
     match cs,hl with
     | [c0,c1],_=>
      dsimp only at h0 h1
      simp only[cI,cNN,List.drop_zero,List.drop_succ_cons,List.take_succ_cons,List.take_zero]at h0 h1
      obtain⟨nu,e0,_,_⟩:=DataW.trod_int Tryz.underlying3 h0
      obtain⟨v1,qs,e1,R1,n1,f1⟩:=slice_rows (α:=Nd × Value) 55 38 7 (fun p=>nrow p.1 p.2) (fun p=>NodeFit W n p) Tryz.underlying55 (by kernel_rfl) (by omega) (fun _=>rfl) (by rw[show Tryz.prog.bytesOf 38=80 by kernel_rfl];omega) (fun k hk cs y h hw=>by
       obtain⟨p,hp,hpf⟩:=node_of_trod k (fun m hm=>ih m (by omega)) h hw
       exact⟨p,hp,HeldG.upTo (by omega) hpf.1,fitG_up (by omega) hpf.2.1 hpf.1,rngG_up (by omega) hpf.2.2 hpf.1⟩) h1 w1
      simp only[List.cons.injEq,and_true]at e0 e1
      subst e0 e1
      exact⟨((nu,qs.map Prod.fst),_),rfl,slIn_of R1 Prod.fst _ (fun p hp b o hc=>⟨p.2,hc,fun _=>(f1 p hp).1⟩),by rw[List.length_map];exact n1,fun y hy=>by obtain⟨p,hp,rfl⟩:=List.mem_map.1 hy;exact(f1 p hp).2⟩) h hw
   refine⟨v,ps.map Prod.fst,rfl,slIn_of hR Prod.fst _ (fun p hp b o hc=>⟨p.2,hc,(hfit p hp).1⟩),by rw[List.length_map];exact hlen,fun q hq=>?_⟩
   obtain⟨p,hp,rfl⟩:=List.mem_map.1 hq
   exact(hfit p hp).2
set_option maxRecDepth 100000 in
theorem open_node {H:Type} {enc:TypeId × Value→H} {W:World} {r:Reach} {b0:Nat} {v:Value} {d:DataW H} {p:List MemPlace}
  (hv:Value.okWide Tryz.prog W r b0 38 v) (h:DataW.Trod enc Tryz.prog W 0 (fun _=>true) true 38 v d p) (hw:Wok2 d 38) :
  ∃ (f:Nat) (x:Nd) (fs:Value),v=.agg #[.int .i64 x.kind,.int .i64 x.n,.int .u64 x.u,.bool x.b,.string (mkB x.s),.int .i64 x.type,fs]∧HeldG rawS W (fun b=>b<W.heap.size) f fs x.fields∧FitG 140737488355328 140737488355328 f x∧RngG f x:=by
 obtain⟨xs,rfl,hsz⟩:=okWide_struct Tryz.underlying38 hv
 obtain⟨fuel,hf⟩:=h
 obtain⟨q,hq,hqf⟩:=node_of_trod fuel (fun m _=>fields_of_trod m) hf hw
 obtain⟨l⟩:=xs
 simp only[Value.cells]at hq
 have hl:l=nrow q.1 q.2:=by simpa using hq
 subst hl
 exact⟨fuel,q.1,q.2,rfl,hqf.1,hqf.2⟩
theorem bd_u8B {a:Int} (w:(Lit.int .u8 a).wf=true):0≤a∧a≤255:=by
 simpa [Lit.wf,IntKind.min,IntKind.max,IntKind.bits,IntKind.signed]using w
set_option maxRecDepth 100000 in
theorem bs_of_trod {H:Type} {enc:TypeId × Value→H} {W:World} {fuel:Nat} {cs:List Value} {y:DataW H × List MemPlace} (h:DataW.trod enc Tryz.prog W 0 (fun _=>true) true fuel 27 cs=some y) (hw:Wok2 y.1 27) :
  ∃ a c zs,cs=[.slice a (zs:List Int).length c]∧BIn W (fun b=>b<W.heap.size) a c zs:=by
 obtain⟨v,zs,rfl,⟨ad,c,rfl,hlc,hr⟩,hlen,hfit⟩:=slice_rows (α:=Int) 27 5 1 (fun z=>[.int .u8 z]) (fun z=>0≤z∧z≤255) Tryz.underlying27 (by kernel_rfl) (by omega) (fun _=>rfl) (by rw[show Tryz.prog.bytesOf 5=1 by kernel_rfl];omega) (fun n hn cs y hq hwq=>by
  obtain⟨z,e,_,hz⟩:=DataW.trod_int Tryz.underlying5 hq
  exact⟨z,e,bd_u8B hz⟩) h hw
 have hno:(ad=none→zs.length=0∧c=0)∧c≤9223372036854775807:=by
  rcases DataW.trod_slice Tryz.underlying27 h with ⟨hcs,_⟩ | ⟨x,l,c',elems,rest,m,_,hcs,_,_,hl,hmx,_⟩
  ·simp only[List.cons.injEq,and_true]at hcs
   obtain⟨h1,h2,h3⟩:=Value.slice.inj hcs
   exact⟨fun _=>⟨h2,h3⟩,by omega⟩
  ·simp only[List.cons.injEq,and_true]at hcs
   obtain⟨h1,h2,h3⟩:=Value.slice.inj hcs
   exact⟨(fun h=>by rw[h]at h1;cases h1),by unfold maxLen at hmx;omega⟩
 refine⟨ad,c,zs,rfl,hlen,hno.1,?_,hlc,hno.2⟩
 rcases hr with hr | ⟨g,o,ha,hg,hrow⟩
 ·exact .inl hr
 ·refine .inr ⟨g,o,ha,hg,fun j z hj=>?_,hfit⟩
  have:=hrow j z hj 0 _ rfl
  simpa using this
set_option maxRecDepth 100000 in
theorem open_bytes {H:Type} {enc:TypeId × Value→H} {W:World} {r:Reach} {b0:Nat} {v:Value} {d:DataW H} {p:List MemPlace}
  (hv:Value.okWide Tryz.prog W r b0 27 v) (h:DataW.Trod enc Tryz.prog W 0 (fun _=>true) true 27 v d p) (hw:Wok2 d 27) :
  ∃ (a:Option Addr) (c:Nat) (zs:List Int),v=.slice a zs.length c∧BIn W (fun b=>b<W.heap.size) a c zs:=by
 obtain⟨a,len,cap,rfl⟩:=okWide_slice Tryz.underlying27 hv
 obtain⟨fuel,hf⟩:=h
 obtain⟨a',c',zs,e,hb⟩:=bs_of_trod hf hw
 have e2:Value.slice a len cap=.slice a' zs.length c':=by simpa [Value.cells]using e
 exact⟨a',c',zs,e2,hb⟩
end Go.Proofs.YteajlfgbmefncaaGreatDoor
