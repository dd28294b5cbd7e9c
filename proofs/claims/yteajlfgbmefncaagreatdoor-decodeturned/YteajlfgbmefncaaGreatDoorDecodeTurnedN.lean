/-
  For every schema, number of a message, node, place, byte and further bytes the law DecodeTurned answers true: a value's bytes, cut off, with one turned, or others behind, are judged as the document says.
-/
import Derived.Test.YteajlfgbmefncaaGreatDoorCards
import Derived.Test.YteajlfgbmefncaaGreatDoorTie
import Derived.WalkKit
import Derived.ProofKit
import Derived.OpenShut
import Derived.ShutString
import Derived.SizedLaws
import Derived.Below
import Derived.ChangeOld
import Derived.Lib.LaidIn
import Derived.Lib.LaidU8T
import Derived.Deep.DeepHandedRow
import Derived.Deep.DeepWitnessRowRef
import Derived.Deep.RegionWith
import Derived.Deep.RegionLaw
import Derived.Deep.DeepCutAuto
import Derived.Deep.RegionHeldLaw
import Derived.WalkSmall
import Derived.Stop.LaidErr
import Derived.Deep.DeepLaidRun
import Derived.Test.YteajlfgbmefncaaGreatDoorN45
import Derived.Test.YteajlfgbmefncaaGreatDoorN46
namespace Go.Proofs.YteajlfgbmefncaaGreatDoor.decodeTurned
open Go.Shelf
open Go.ChangeShapes Go.WideShapes Go.ChangeAt Go.RowKit
open Go.ChangeMaps (open_string shut_string)
set_option linter.unusedVariables false

theorem own:ownKnob Tryz.prog.godebug=none:=by kernel_rfl
theorem laidOut:laidOutB Tryz.prog=true:=by kernel_rfl

set_option maxHeartbeats 4000000 in
set_option maxRecDepth 20000 in
theorem walk (a0 b0 c0:Value) (s0:SC) (a1:Int) (f2:Nat) (x2:Nd) (fs2:Value) (a3:Int) (a4:Int) (a5:Option Addr) (c5:Nat) (zs5:List Int) (w:World) (hT:Tabs w) (h0:HeldSc w (fun b=>b<w.heap.size) a0 b0 c0 s0) (fw0:BigS s0) (w1:(Lit.int .i64 a1).wf=true) (h2:HeldG rawS w (fun b=>b<w.heap.size) f2 fs2 x2.fields) (fw2:FitG 140737488355328 140737488355328 f2 x2∧RngG f2 x2) (w3:(Lit.int .u64 a3).wf=true) (w4:(Lit.int .u8 a4).wf=true) (h5:BIn w (fun b=>b<w.heap.size) a5 c5 zs5) :
  Calls Tryz.prog 4 #[.agg #[a0,b0,c0],.int .i64 a1,.agg #[.int .i64 x2.kind,.int .i64 x2.n,.int .u64 x2.u,.bool x2.b,.string (mkB x2.s),.int .i64 x2.type,fs2],.int .u64 a3,.int .u8 a4,.slice a5 zs5.length c5] w fun e w'=>e=.returned (.bool true)∧Below w.heap.size w w':=by
 obtain⟨ma,mc,rfl⟩:=HeldN.isSl h0.1
 obtain⟨ea,ec,rfl⟩:=HeldN.isSl h0.2.1
 obtain⟨ta,tc,rfl⟩:=RowsIn.isSl h0.2.2
 obtain⟨xa,xc,rfl⟩:=HeldG.isSl h2
 obtain⟨x0,x1⟩:=bd_u64 w3
 obtain⟨y0,y1⟩:=bd_u8 w4
 exact decodeTurned_any ma ea ta _ _ _ mc ec tc s0 a1 f2 x2 xa _ xc w hT rfl rfl rfl fw0 h0 h2 fw2.1 fw2.2 a3 a4 x0 x1 y0 y1 a5 c5 zs5 h5

set_option maxRecDepth 100000 in
theorem contract (H:Type) (enc:TypeId × Value→H) (W:World) (base:Nat) (args:Array Value) (ds gs:List (DataW H)) (before:List MemPlace)
  (hval0:∀ (j:Nat) t v,Tryz.f4.params[j]? = some t→args[j]? = some v→Value.okWide Tryz.prog W .any base t v)
  (hW:DataW.Whole enc Tryz.prog Tryz.f4.params.toList Rows.decodeTurnedSpec.vars false W args.toList ds gs before) (hWt:(DataW.weightsEach Tryz.prog (Tryz.f4.params.toList++(OpenSpec.ofChange Rows.decodeTurnedSpec).bare.plain.varTypes Tryz.prog) (ds++gs)).all (·≤reachBytes)=true) (hL:laidMet Tryz.prog Rows.decodeTurnedRow.laid W) :
  Calls Tryz.prog 4 args W fun e W'=>∃ v,e=.returned v∧Rows.decodeTurnedSpec.post enc Tryz.prog Tryz.f4 false true false false W args v W':=by
 have hval:∀ (j:Nat) t v,Tryz.f4.params[j]? = some t→args[j]? = some v→Value.okWide Tryz.prog W .any base t v:=hval0
 have htT:Tabs W:=utf8Tabs_of_readsT (U8Types.of196 lays196) ⟨by kernel_rfl,by kernel_rfl,by kernel_rfl,by kernel_rfl,by kernel_rfl,by kernel_rfl,by kernel_rfl⟩ (Lib.laidMet.reads hL (.tail _ (.head _))) (Lib.laidMet.reads hL (.head _))
 have htab:Tabs W:=htT
 have hW':=hW
 obtain⟨p,q,hA0,hV,rfl,hfz,hnd⟩:=hW
 have hA:DataW.TrodAll enc Tryz.prog W 0 (fun _=>true) true Tryz.f4.params.toList args.toList ds p:=hA0
 have hwt:∀ n∈DataW.weightsEach Tryz.prog (Tryz.f4.params.toList++(OpenSpec.ofChange Rows.decodeTurnedSpec).bare.plain.varTypes Tryz.prog) (ds++gs),n≤140737488351232:=fun n hn=>of_decide_eq_true (List.all_eq_true.1 hWt n hn)
 rw[Tryz.params4]at hA hval hwt
 obtain⟨v0,vs0,d0,ds0,p0,q0,hargs,rfl,rfl,h0,r0⟩:=trodAll_cons hA
 obtain⟨v1,vs1,d1,ds1,p1,q1,rfl,rfl,rfl,h1,r1⟩:=trodAll_cons r0
 obtain⟨v2,vs2,d2,ds2,p2,q2,rfl,rfl,rfl,h2,r2⟩:=trodAll_cons r1
 obtain⟨v3,vs3,d3,ds3,p3,q3,rfl,rfl,rfl,h3,r3⟩:=trodAll_cons r2
 obtain⟨v4,vs4,d4,ds4,p4,q4,rfl,rfl,rfl,h4,r4⟩:=trodAll_cons r3
 obtain⟨v5,vs5,d5,ds5,p5,q5,rfl,rfl,rfl,h5,r5⟩:=trodAll_cons r4
 obtain⟨rfl,rfl,rfl⟩:=trodAll_nil r5
 obtain rfl:args=#[v0,v1,v2,v3,v4,v5]:=by cases args;simp_all
 obtain⟨rfl,rfl⟩:=trodVars_none hV
 have k0:=h0
 have lt0:∀ x∈p0,x.block<W.heap.size:=by obtain⟨m,hm⟩:=k0;exact DataW.trod_lt m _ _ _ hm
 obtain⟨a0,b0,c0,ss0,rfl,hh0,fw0⟩:=open_schema (hval 0 26 v0 rfl rfl) h0 (wok_each hwt 0 26 _ rfl rfl)
 have k1:=h1
 have lt1:∀ x∈p1,x.block<W.heap.size:=by obtain⟨m,hm⟩:=k1;exact DataW.trod_lt m _ _ _ hm
 obtain⟨a1,rfl,_,_,w1⟩:=open_int Tryz.underlying3 (hval 1 3 v1 rfl rfl) h1
 have k2:=h2
 have lt2:∀ x∈p2,x.block<W.heap.size:=by obtain⟨m,hm⟩:=k2;exact DataW.trod_lt m _ _ _ hm
 obtain⟨f2,x2,fs2,rfl,hh2,fw2⟩:=open_node (hval 2 38 v2 rfl rfl) h2 (wok_each hwt 2 38 _ rfl rfl)
 have k3:=h3
 have lt3:∀ x∈p3,x.block<W.heap.size:=by obtain⟨m,hm⟩:=k3;exact DataW.trod_lt m _ _ _ hm
 obtain⟨a3,rfl,_,_,w3⟩:=open_int Tryz.underlying44 (hval 3 44 v3 rfl rfl) h3
 have k4:=h4
 have lt4:∀ x∈p4,x.block<W.heap.size:=by obtain⟨m,hm⟩:=k4;exact DataW.trod_lt m _ _ _ hm
 obtain⟨a4,rfl,_,_,w4⟩:=open_int Tryz.underlying5 (hval 4 5 v4 rfl rfl) h4
 have k5:=h5
 have lt5:∀ x∈p5,x.block<W.heap.size:=by obtain⟨m,hm⟩:=k5;exact DataW.trod_lt m _ _ _ hm
 obtain⟨a5,c5,zs5,rfl,hh5⟩:=open_bytes (hval 5 27 v5 rfl rfl) h5 (wok_each hwt 5 27 _ rfl rfl)
 clear hA0 hval0
 refine(walk a0 b0 c0 ss0 a1 f2 x2 fs2 a3 a4 a5 c5 zs5 W htab hh0 fw0 w1 hh2 fw2 w3 w4 hh5).mono fun e W' ⟨he,bel⟩=>?_
 subst he
 exact⟨_,rfl,_,_,_,[],_,[],hW',trodAll_mk1 (shut_bool Tryz.underlying4 _),(trodAll_cons_mk (Below.trod laidOut (by kernel_rfl) (of_decide_eq_true (by kernel_rfl)) k0 bel lt0) (trodAll_cons_mk (Below.trod laidOut (by kernel_rfl) (of_decide_eq_true (by kernel_rfl)) k1 bel lt1) (trodAll_cons_mk (Below.trod laidOut (by kernel_rfl) (of_decide_eq_true (by kernel_rfl)) k2 bel lt2) (trodAll_cons_mk (Below.trod laidOut (by kernel_rfl) (of_decide_eq_true (by kernel_rfl)) k3 bel lt3) (trodAll_cons_mk (Below.trod laidOut (by kernel_rfl) (of_decide_eq_true (by kernel_rfl)) k4 bel lt4) (trodAll_cons_mk (Below.trod laidOut (by kernel_rfl) (of_decide_eq_true (by kernel_rfl)) k5 bel lt5) trodAll_mk0)))))),rfl,bel.frame _,fun h=>by cases h⟩

set_option maxRecDepth 100000 in
set_option maxHeartbeats 2000000 in
theorem wit_row (os:Os) {H:Type} (enc:TypeId × Value→H) :
  (OpenSpec.ofChange Rows.decodeTurnedSpec).preRow enc Tryz.prog Tryz.f4 Rows.decodeTurnedRow.domain false Rows.decodeTurnedRow.laid (({ World.holding Tryz.prog os ⟨#[],#[],[]⟩with heap:=(((((World.holding Tryz.prog os ⟨#[],#[],[]⟩).heap).modify 1 fun | .cells _ t frozen=>.cells (((List.range 16).flatMap fun i=>[Value.int .u8 (Lib.accLo i),Value.int .u8 (Lib.accHi i)]).toArray) t frozen | o=>o)).modify 0 fun | .cells _ t frozen=>.cells ((Lib.firstTab.map fun z=>Value.int .u8 z).toArray) t frozen | o=>o) }:World).forCall (fun _ _=>0) ⟨#[],#[.agg #[.slice none 0 0,.slice none 0 0,.slice none 0 0],.int .i64 0,.agg #[.int .i64 0,.int .i64 0,.int .u64 0,.bool false,.string ⟨#[]⟩,.int .i64 0,.slice none 0 0],.int .u64 0,.int .u8 0,.slice none 0 0],[]⟩).memory #[.agg #[.slice none 0 0,.slice none 0 0,.slice none 0 0],.int .i64 0,.agg #[.int .i64 0,.int .i64 0,.int .u64 0,.bool false,.string ⟨#[]⟩,.int .i64 0,.slice none 0 0],.int .u64 0,.int .u8 0,.slice none 0 0]:=by
 have hl:laidMet Tryz.prog Rows.decodeTurnedRow.laid (({ World.holding Tryz.prog os ⟨#[],#[],[]⟩with heap:=(((((World.holding Tryz.prog os ⟨#[],#[],[]⟩).heap).modify 1 fun | .cells _ t frozen=>.cells (((List.range 16).flatMap fun i=>[Value.int .u8 (Lib.accLo i),Value.int .u8 (Lib.accHi i)]).toArray) t frozen | o=>o)).modify 0 fun | .cells _ t frozen=>.cells ((Lib.firstTab.map fun z=>Value.int .u8 z).toArray) t frozen | o=>o) }:World).forCall (fun _ _=>0) ⟨#[],#[.agg #[.slice none 0 0,.slice none 0 0,.slice none 0 0],.int .i64 0,.agg #[.int .i64 0,.int .i64 0,.int .u64 0,.bool false,.string ⟨#[]⟩,.int .i64 0,.slice none 0 0],.int .u64 0,.int .u8 0,.slice none 0 0],[]⟩).memory:=
  (LaidIn.of_run (l:=Rows.decodeTurnedRow.laid) [1,0] 8 (by kernel_rfl) (by kernel_rfl) (by kernel_rfl) (by kernel_rfl)).met
 have hw:(DataW.whole enc Tryz.prog (({ World.holding Tryz.prog os ⟨#[],#[],[]⟩with heap:=(((((World.holding Tryz.prog os ⟨#[],#[],[]⟩).heap).modify 1 fun | .cells _ t frozen=>.cells (((List.range 16).flatMap fun i=>[Value.int .u8 (Lib.accLo i),Value.int .u8 (Lib.accHi i)]).toArray) t frozen | o=>o)).modify 0 fun | .cells _ t frozen=>.cells ((Lib.firstTab.map fun z=>Value.int .u8 z).toArray) t frozen | o=>o) }:World).forCall (fun _ _=>0) ⟨#[],#[.agg #[.slice none 0 0,.slice none 0 0,.slice none 0 0],.int .i64 0,.agg #[.int .i64 0,.int .i64 0,.int .u64 0,.bool false,.string ⟨#[]⟩,.int .i64 0,.slice none 0 0],.int .u64 0,.int .u8 0,.slice none 0 0],[]⟩).memory Tryz.f4.params.toList Rows.decodeTurnedSpec.vars false (#[.agg #[.slice none 0 0,.slice none 0 0,.slice none 0 0],.int .i64 0,.agg #[.int .i64 0,.int .i64 0,.int .u64 0,.bool false,.string ⟨#[]⟩,.int .i64 0,.slice none 0 0],.int .u64 0,.int .u8 0,.slice none 0 0]:Array Value).toList 8).map (fun x=>(x.1,x.2.1)) =
   some ([.agg [.nil,.nil,.nil],.lit (.int .i64 0),.agg [.lit (.int .i64 0),.lit (.int .i64 0),.lit (.int .u64 0),.lit (.bool false),.lit (.string []),.lit (.int .i64 0),.nil],.lit (.int .u64 0),.lit (.int .u8 0),.nil],[]):=by kernel_rfl
 obtain⟨⟨x1,x2,x3⟩,hx,hx1⟩:=Option.map_eq_some_iff.1 hw
 simp only[Prod.mk.injEq]at hx1
 obtain⟨rfl,rfl⟩:=hx1
 exact OpenSpec.preRow_of_cond 8 hx (by kernel_rfl) (fun k hk=>by cases hk) (by kernel_rfl) hl

set_option maxRecDepth 100000 in
set_option maxHeartbeats 2000000 in
theorem lifted (os:Os) (started:os.Started) (H:Type) (enc:TypeId × Value→H) (F:Stop.Interp) :
  ReturnsInHanded {} Tryz.checked os 4 .any ((OpenSpec.ofChange Rows.decodeTurnedSpec).preRow enc Tryz.prog Tryz.f4 Rows.decodeTurnedRow.domain false Rows.decodeTurnedRow.laid) (((OpenSpec.ofChange Rows.decodeTurnedSpec).at F).post enc Tryz.prog Tryz.f4 false true false false):=by
 refine returnsInHanded_of_row (C:=Tryz.checked) (s:=OpenSpec.ofChange Rows.decodeTurnedSpec) own started (by kernel_rfl) Tryz.func4
  (witness_row_atRef (enc:=enc) (C:=Tryz.checked) false ({ World.holding Tryz.prog os ⟨#[],#[],[]⟩with heap:=(((((World.holding Tryz.prog os ⟨#[],#[],[]⟩).heap).modify 1 fun | .cells _ t frozen=>.cells (((List.range 16).flatMap fun i=>[Value.int .u8 (Lib.accLo i),Value.int .u8 (Lib.accHi i)]).toArray) t frozen | o=>o)).modify 0 fun | .cells _ t frozen=>.cells ((Lib.firstTab.map fun z=>Value.int .u8 z).toArray) t frozen | o=>o) }) #[.agg #[.slice none 0 0,.slice none 0 0,.slice none 0 0],.int .i64 0,.agg #[.int .i64 0,.int .i64 0,.int .u64 0,.bool false,.string ⟨#[]⟩,.int .i64 0,.slice none 0 0],.int .u64 0,.int .u8 0,.slice none 0 0] rfl (by kernel_rfl) (by kernel_rfl) (by kernel_rfl) (wit_row os enc)) ?_
 intro W base args ds gs before hval hW _ _ hWt hL _ _
 exact contract H enc W base args ds gs before hval hW hWt hL

theorem said:Rows.DecodeTurnedSaid:=
 OpenClaim.holds_of_cond 4 Tryz.f4 rfl rfl rfl rfl rfl rfl rfl ⟨rfl,rfl,rfl,rfl,rfl⟩ rfl rfl rfl rfl rfl (by kernel_rfl) Tryz.func4 (by kernel_rfl)
  (of_decide_eq_true (by kernel_rfl)) (by unfold Func.isWrapper;first | (rw[if_pos (by decide +kernel)];kernel_rfl) | (rw[if_neg (by decide +kernel)];exact⟨rfl,rfl⟩))
  (fun os started H enc _ F=>by rw[OpenClaim.pre_eq_preRow];exact lifted os started H enc F)

theorem plain (f:FuncId) (fn:Func) (hf:Tryz.pinned.checked.prog.funcNamed Rows.decodeTurnedRow.func=some f) (hfn:Tryz.pinned.checked.prog.funcs[f]? = some fn) :
  true=Tryz.pinned.checked.prog.looks []∧∀ (j:Nat) t,fn.params[j]? = some t→Tryz.pinned.checked.prog.wantsStandIn t=false:=by
 obtain rfl:f=4:=Option.some.inj ((show Tryz.prog.funcNamed Rows.decodeTurnedRow.func=some 4 by kernel_rfl).symm.trans hf) |>.symm
 obtain rfl:fn=Tryz.f4:=(Option.some.inj (Tryz.func4.symm.trans hfn)).symm
 refine⟨by kernel_rfl,fun j t ht=>?_⟩
 rw[Tryz.params4]at ht
 have ht2:=Array.mem_of_getElem? ht
 simp only[List.mem_toArray,List.mem_cons,List.not_mem_nil,or_false]at ht2
 rcases ht2 with rfl | rfl | rfl | rfl | rfl | rfl
 ·exact(show Tryz.prog.wantsStandIn 26=false by kernel_rfl)
 ·exact(show Tryz.prog.wantsStandIn 3=false by kernel_rfl)
 ·exact(show Tryz.prog.wantsStandIn 38=false by kernel_rfl)
 ·exact(show Tryz.prog.wantsStandIn 44=false by kernel_rfl)
 ·exact(show Tryz.prog.wantsStandIn 5=false by kernel_rfl)
 ·exact(show Tryz.prog.wantsStandIn 27=false by kernel_rfl)

theorem proved:Rows.DecodeTurnedCardSaid:=
 Claim7.holds_tied_plain_at .later [] _ _ _ _ said (fun _ h=>by cases h) (by kernel_rfl) (fun _ h=>by cases h) decodeTurned_row_tie rfl ⟨rfl,rfl⟩ (by kernel_rfl) rfl plain (by kernel_rfl)
end Go.Proofs.YteajlfgbmefncaaGreatDoor.decodeTurned
namespace Go.Proofs.YteajlfgbmefncaaGreatDoor
theorem decodeTurned_holds:Rows.DecodeTurnedCardSaid:=decodeTurned.proved
end Go.Proofs.YteajlfgbmefncaaGreatDoor
