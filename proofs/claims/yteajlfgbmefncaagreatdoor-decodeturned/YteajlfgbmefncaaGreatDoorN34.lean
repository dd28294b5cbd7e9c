/-
  Walks and plain words (DcB DeX).
-/
import Derived.Test.YteajlfgbmefncaaGreatDoorN32
import Derived.Test.YteajlfgbmefncaaGreatDoorN21
import Derived.Test.YteajlfgbmefncaaGreatDoorN33
import Derived.Test.YteajlfgbmefncaaGreatDoorN11
namespace Go.Proofs.YteajlfgbmefncaaGreatDoor
set_option linter.unusedVariables false
open Go.ChangeShapes Go.WideShapes Go.ChangeAt Go.RowKit

theorem run_strT (T:TypeId) (hT:Tryz.prog.underlying T=some .string) (w:World) (a:Option Addr) (len cap:Nat) (zs:List Int) (hB:IsB w a len zs) :
  (convert 27 T (.slice a len cap)).run Tryz.prog w=.ok (.string (mkB (u8s zs))) w:=by
 have e:mkB (u8s zs)=strOfNums zs:=rfl
 rw[e]
 obtain⟨h1,h2,h3⟩:=hB
 by_cases h0:len=0
 ·subst h0
  have hz:zs=[]:=List.eq_nil_of_length_eq_zero h1
  subst hz
  cases a with
  | none=>exact run_convert_bytes_nil w 27 5 Tryz.underlying27 Tryz.underlying5 0 cap T hT
  | some x=>
   rw[run_convert_bytes_string w 27 T 5 (some x) 0 cap Tryz.underlying27 Tryz.underlying5 hT,
    run_bytesToString w x 0 cap [] (by simpa using run_loadCells_list (P:=Tryz.prog) w x [] (by simp))]
   rfl
 ·rcases h3 with rfl | ⟨b,off,rfl,hh⟩
  ·simp at h1;omega
  ·refine run_convert_bytes_arg w 27 5 Tryz.underlying27 Tryz.underlying5 b off len cap zs h1 ?_ T hT
   intro i hi
   have:zs[i]? = some (zs.getD i 0):=by
    rw[List.getD_eq_getElem?_getD,List.getElem?_eq_getElem (by omega)];rfl
   exact hh.1 i _ this
def MAns (f:Nat) (r:Except Int Nd) (w:World) (e:Ending) (w':World):Prop:=match r with
 | .error x=>x≠0∧e=.returned (.tuple #[.nilIface,.int .i64 x])∧Below w.heap.size w w'
 | .ok y=>∃ v,e=.returned (.tuple #[v,.int .i64 0])∧HeldV w' (fun b=>w.heap.size≤b∧b<w'.heap.size) f v y∧Below w.heap.size w w'
def decB (rec:Int→List Int→Except Int Nd) (fd:FD) (d:List Int):Except Int Nd:=
 if fd.kind=10 then rec fd.type d else if fd.kind=5 then (if valB (u8s d) then .ok (strD 4 d) else .error 13) else .ok (strD 5 d)
def oneE:Except Int Nd→Except Int (List Nd)
 | .error e=>.error e
 | .ok y=>.ok [y]
theorem decV_bytes {rec:Int→List Int→Except Int Nd} {fd:FD} {x:WF} (h:isNum fd.kind=false):decV rec fd x=oneE (decB rec fd x.d):=by
 unfold decV decB
 rw[if_neg (by rw[h];simp)]
 by_cases h10:fd.kind=10
 ·rw[if_pos h10,if_pos h10];cases rec fd.type x.d <;> rfl
 ·rw[if_neg h10,if_neg h10]
  by_cases h5:fd.kind=5
  ·rw[if_pos h5,if_pos h5]
   cases valB (u8s x.d) <;> rfl
  ·rw[if_neg h5,if_neg h5];rfl
def ValC (w:World):Prop:=∀ (W:World) (a:Option Addr) (len cap:Nat) (zs:List Int),Below w.heap.size w W→IsB W a len zs→len≤cap→cap≤9223372036854775807→len≤100000→Calls Tryz.prog 68 #[.slice a len cap] W fun e w'=>e=.returned (.bool (valB (u8s zs)))∧Below W.heap.size W w'
def MsgC (ma ea ta:Option Addr) (nm ne nt mc ec tc:Nat) (f:Nat) (t dep:Int) (rec:Int→List Int→Except Int Nd) (w:World):Prop:=∀ (W:World) (a:Option Addr) (len cap:Nat) (zs:List Int),Below w.heap.size w W→IsB W a len zs→len≤cap→cap≤9223372036854775807→len≤100000→Calls Tryz.prog 15 #[.agg #[.slice ma nm mc,.slice ea ne ec,.slice ta nt tc],.int .i64 t,.slice a len cap,.int .i64 dep] W fun e w'=>MAns f (rec t zs) W e w'
theorem ValC.mv {w W:World} (h:ValC w) (hW:Below w.heap.size w W):ValC W:=fun W2 a len cap zs hb=>h W2 a len cap zs (hW.trans (hb.mono hW.size))
theorem MsgC.mv {ma ea ta:Option Addr} {nm ne nt mc ec tc f:Nat} {t dep:Int} {rec:Int→List Int→Except Int Nd} {w W:World} (h:MsgC ma ea ta nm ne nt mc ec tc f t dep rec w) (hW:Below w.heap.size w W):MsgC ma ea ta nm ne nt mc ec tc f t dep rec W:=fun W2 a len cap zs hb=>h W2 a len cap zs (hW.trans (hb.mono hW.size))
set_option maxHeartbeats 8000000 in
set_option maxRecDepth 20000 in
theorem ofBytes_any (ma ea ta:Option Addr) (nm ne nt mc ec tc:Nat) (fd:FD) (dep:Int) (f:Nat) (rec:Int→List Int→Except Int Nd) (a:Option Addr) (len cap:Nat) (zs:List Int) (w:World) (hdep:0≤dep∧dep≤100) (hB:IsB w a len zs) (hlc:len≤cap) (hcm:cap≤9223372036854775807) (hlm:len≤100000) (hval:fd.kind=5→ValC w) (hmsg:fd.kind=10→MsgC ma ea ta nm ne nt mc ec tc f fd.type (dep+1) rec w) :
  Calls Tryz.prog 82 #[.agg #[.slice ma nm mc,.slice ea ne ec,.slice ta nt tc],.agg #[.int .i64 fd.num,.string (mkB fd.name),.int .i64 fd.kind,.bool fd.rep,.int .i64 fd.type],.slice a len cap,.int .i64 dep] w fun e w'=>MAns f (decB rec fd zs) w e w':=by
 obtain⟨Y,hY,hC,hb,hYs⟩:=box_new w #[.slice ma nm mc,.slice ea ne ec,.slice ta nt tc] 26
 obtain⟨V,hV',hD,hVb,hVs⟩:=box_new Y #[.int .i64 fd.num,.string (mkB fd.name),.int .i64 fd.kind,.bool fd.rep,.int .i64 fd.type] 51
 have HY:=hQz hY
 have HV:=hQz hV'
 rw[hYs]at hD
 have hC2:=(hVb.block _ (by omega)).trans hC
 have hBV:=hb.trans (hVb.mono hb.size)
 have HBV:=hQz hBV
 have hVl:w.heap.size+2=V.heap.size:=by omega
 have s0:=cell_at hC2 0 rfl
 have s1:=cell_at hC2 1 rfl
 have s2:=cell_at hC2 2 rfl
 have q0:=cell_at hD 0 rfl
 have q1:=cell_at hD 1 rfl
 have q2:=cell_at hD 2 rfl
 have q3:=cell_at hD 3 rfl
 have q4:=cell_at hD 4 rfl
 have hIV:IsB V a len zs:=isB_old hB hBV
 obtain⟨K,hK⟩:∃ K,fd.kind=K:=⟨_,rfl⟩
 rw[hK]at q2 hval hmsg
 by_cases h10:K=10
 ·have hm:=hmsg h10 V a len cap zs hBV hIV hlc hcm hlm
  have HDB:Hid (decB rec fd zs=rec fd.type zs):=by
   refine(?_:_=_)
   unfold decB;rw[hK,if_pos h10]
  rw[HDB.out]
  have hw1:IntKind.i64.wrap (dep+1)=dep+1:=by rw[IntKind.wrap_i64];omega
  generalize rec fd.type zs=R at *
  subst h10
  clear hval hmsg HDB hIV hB hY hC hb hYs hV' hD hVb hVs hC2 hBV hK
  go_enter Tryz.func82,Tryz.ntmps82
  go_upto_region 1 with fail
  rw[HY.out,HV.out]
  go_wp2_with fail
  refine hm.mono ?_
  intro e W hans
  clear hm s0 s1 s2 q0 q1 q2 q3 q4
  cases R with
  | error x=>
   obtain⟨h0,rfl,hb⟩:=hans
   go_wp2_with fail
   go_ret2
   exact⟨h0,rfl,HBV.out.trans (hb.mono HBV.out.size)⟩
  | ok y=>
   obtain⟨v,rfl,hv,hb⟩:=hans
   have hs:=hb.size
   go_wp2_with fail
   go_ret2
   exact⟨v,rfl,hv.mv (fun _ _=>rfl) (fun b hb=>⟨by have:=hb.1;omega,hb.2⟩),HBV.out.trans (hb.mono HBV.out.size)⟩
 have d10:(K == 10)=false:=by simp[h10]
 by_cases h5:K=5
 ·have hm:=hval h5 V a len cap zs hBV hIV hlc hcm hlm
  have HDB:Hid (decB rec fd zs=if valB (u8s zs) then .ok (strD 4 zs) else .error 13):=by
   refine(?_:_=_)
   unfold decB;rw[hK,if_neg h10,if_pos h5]
  rw[HDB.out]
  have hst:=fun W (hW:Below V.heap.size V W)=>run_strT 71 Tryz.underlying71 W a len cap zs (isB_old hIV hW)
  generalize valB (u8s zs)=R at *
  subst h5
  clear hval hmsg HDB hIV hB hY hC hb hYs hV' hD hVb hVs hC2 hBV hK h10
  go_enter Tryz.func82,Tryz.ntmps82
  go_upto_region 1 with fail
  rw[HY.out,HV.out]
  go_wp2_with fail
  refine hm.mono ?_
  rintro e W ⟨rfl,hb⟩
  have hs9:=hst W hb
  clear hm hst s0 s1 s2 q0 q1 q2 q3 q4
  have hbw:=HBV.out.trans (hb.mono HBV.out.size)
  cases R with
  | false=>
   go_wp2_with fail
   go_ret2
   exact⟨by decide,rfl,hbw⟩
  | true=>
   go_wp2_with fail
   go_ret2
   exact⟨_,rfl,⟨.nilFunc,rfl,fun h=>absurd h (by simp[strD])⟩,hbw⟩
 ·have HDB:Hid (decB rec fd zs=.ok (strD 5 zs)):=by
   refine(?_:_=_)
   unfold decB;rw[hK,if_neg h10,if_neg h5]
  rw[HDB.out]
  have d5:(K == 5)=false:=by simp[h5]
  have hst:=run_strT 72 Tryz.underlying72 V a len cap zs hIV
  clear hval hmsg HDB hIV hB hY hC hb hYs hV' hD hVb hVs hC2 hBV hK
  go_enter Tryz.func82,Tryz.ntmps82
  go_upto_region 1 with fail
  rw[HY.out,HV.out]
  go_wp2_with fail
  go_ret2
  exact⟨_,rfl,⟨.nilFunc,rfl,fun h=>absurd h (by simp[strD])⟩,HBV.out⟩
set_option maxHeartbeats 8000000 in
set_option maxRecDepth 20000 in
theorem ofField_any (ma ea ta:Option Addr) (nm ne nt mc ec tc:Nat) (fd:FD) (dep:Int) (f:Nat) (rec:Int→List Int→Except Int Nd) (x:WF) (da:Option Addr) (dc:Nat) (w:World) (hdep:0≤dep∧dep≤100) (hn:0≤x.n∧x.n≤18446744073709551615) (hB:BIn w (fun b=>b<w.heap.size) da dc x.d) (hlm:x.d.length≤100000) (hval:fd.kind=5→ValC w) (hmsg:fd.kind=10→MsgC ma ea ta nm ne nt mc ec tc f fd.type (dep+1) rec w) :
  Calls Tryz.prog 54 #[.agg #[.slice ma nm mc,.slice ea ne ec,.slice ta nt tc],.agg #[.int .i64 fd.num,.string (mkB fd.name),.int .i64 fd.kind,.bool fd.rep,.int .i64 fd.type],.agg #[.int .i64 x.num,.int .i64 x.ty,.int .u64 x.n,.slice da x.d.length dc],.int .i64 dep] w fun e w'=>VsAns f (decV rec fd x) w e w':=by
 obtain⟨Y,hY,hC,hb,hYs⟩:=box_new w #[.slice ma nm mc,.slice ea ne ec,.slice ta nt tc] 26
 obtain⟨V,hV',hD,hVb,hVs⟩:=box_new Y #[.int .i64 fd.num,.string (mkB fd.name),.int .i64 fd.kind,.bool fd.rep,.int .i64 fd.type] 51
 have HY:=hQz hY
 have HV:=hQz hV'
 rw[hYs]at hD
 have hC2:=(hVb.block _ (by omega)).trans hC
 have hBV:=hb.trans (hVb.mono hb.size)
 have HBV:=hQz hBV
 have hVl:w.heap.size+2=V.heap.size:=by omega
 have s0:=cell_at hC2 0 rfl
 have s1:=cell_at hC2 1 rfl
 have s2:=cell_at hC2 2 rfl
 have q0:=cell_at hD 0 rfl
 have q1:=cell_at hD 1 rfl
 have q2:=cell_at hD 2 rfl
 have q3:=cell_at hD 3 rfl
 have q4:=cell_at hD 4 rfl
 obtain⟨Z,hZ',hE,hZb,hZs⟩:=box_new V #[.int .i64 x.num,.int .i64 x.ty,.int .u64 x.n,.slice da x.d.length dc] 123
 have HZ:=hQz hZ'
 have hBZ:=hBV.trans (hZb.mono hBV.size)
 have HBZ:=hQz hBZ
 have hZl:w.heap.size+3=Z.heap.size:=by omega
 have hC3:=(hZb.block _ (by omega)).trans hC2
 have hD3:=(hZb.block _ (by omega)).trans hD
 clear s0 s1 s2 q0 q1 q2 q3 q4
 have s0:=cell_at hC3 0 rfl
 have s1:=cell_at hC3 1 rfl
 have s2:=cell_at hC3 2 rfl
 have q0:=cell_at hD3 0 rfl
 have q1:=cell_at hD3 1 rfl
 have q2:=cell_at hD3 2 rfl
 have q3:=cell_at hD3 3 rfl
 have q4:=cell_at hD3 4 rfl
 have p0:=cell_at hE 0 rfl
 have p1:=cell_at hE 1 rfl
 have p2:=cell_at hE 2 rfl
 have p3:=cell_at hE 3 rfl
 have hBI:BIn Z (fun b=>b<Z.heap.size) da dc x.d:=hB.mv (fun b hb=>hBZ.block b hb) (fun b hb=>by have hb':b<w.heap.size:=hb;omega)
 have hin:=isNumD_any fd.kind Z
 cases hk:isNum fd.kind
 case false=>
  have hm:=ofBytes_any ma ea ta nm ne nt mc ec tc fd dep f rec da x.d.length dc x.d Z hdep hBI.isB hBI.2.2.2.1 hBI.2.2.2.2 hlm (fun h=>(hval h).mv hBZ) (fun h=>(hmsg h).mv hBZ)
  rw[decV_bytes hk]
  rw[hk]at hin
  generalize decB rec fd x.d=R at *
  clear hval hmsg hY hC hb hYs hV' hD hVb hVs hC2 hBV hBZ hC3 hD3 hE hZ' hZb hZs hB HBV hBI hk
  go_enter Tryz.func54,Tryz.ntmps54
  go_upto_region 1 with fail
  rw[HY.out,HV.out,HZ.out]
  go_wp2_with fail
  refine hin.mono ?_
  rintro e w9 ⟨rfl,h9⟩
  have h9:=h9.symm
  subst h9
  clear hin
  go_wp2_with fail
  refine hm.mono ?_
  intro e W hans
  clear hm s0 s1 s2 q0 q1 q2 q3 q4 p0 p1 p2 p3
  cases R with
  | error er=>
   obtain⟨h0,rfl,hb⟩:=hans
   obtain⟨A,hA,hAC,hAb,hAs⟩:=box_new W #[.nilIface] 31
   have HA:=hQz hA
   have HBA:=hQz (HBZ.out.trans ((hb.trans (hAb.mono hb.size)).mono HBZ.out.size))
   clear hA hAC hAb hAs hb
   go_wp2_with fail
   rw[HA.out]
   go_ret2
   exact⟨h0,⟨_,rfl⟩,HBA.out⟩
  | ok y=>
   obtain⟨v,rfl,hv,hb⟩:=hans
   have hs:=hb.size
   have hfm:=val_form hv
   obtain⟨A,hA,hAC,hAb,hAs⟩:=box_new W #[v] 31
   have HA:=hQz hA
   have HBA:=hQz (HBZ.out.trans ((hb.trans (hAb.mono hb.size)).mono HBZ.out.size))
   have HVN:=hQz (vals_new (f:=f) (W:=W) (S:=fun b=>w.heap.size≤b∧b<A.heap.size) hAC ⟨by omega,by omega⟩ (hv.mv (fun b hb=>hAb.block b hb.2) (fun b hb=>⟨by have:=hb.1;omega,by have:=hb.2;omega⟩)))
   clear hAC hAb hAs hb hv hA
   rcases hfm with rfl | ⟨U,u,rfl⟩
   all_goals
    go_wp2_with fail
    rw[HA.out]
    go_ret2
    exact⟨_,_,rfl,(fun h=>by cases h),HVN.out,HBA.out⟩
 case true=>
  rw[hk]at hin
  have HDV:Hid (decV rec fd x=if x.ty=2 then unpR fd.kind x.d else .ok [numD fd.kind x.n]):=by
   refine(?_:_=_)
   unfold decV;rw[if_pos hk];split <;> rfl
  rw[HDV.out]
  by_cases h2:x.ty=2
  ·rw[if_pos h2]
   have hm:=unpacked_any fd.kind f da x.d.length dc x.d Z hBI.isB hBI.2.2.2.1 hBI.2.2.2.2 hlm
   generalize unpR fd.kind x.d=R at *
   rw[h2]at p1
   clear hval hmsg hY hC hb hYs hV' hD hVb hVs hC2 hBV hBZ hC3 hD3 hE hZ' hZb hZs hB HBV hBI hk HDV h2
   go_enter Tryz.func54,Tryz.ntmps54
   go_upto_region 1 with fail
   rw[HY.out,HV.out,HZ.out]
   go_wp2_with fail
   refine hin.mono ?_
   rintro e w9 ⟨rfl,h9⟩
   have h9:=h9.symm
   subst h9
   clear hin
   go_wp2_with fail
   refine hm.mono ?_
   intro e W hans
   clear hm s0 s1 s2 q0 q1 q2 q3 q4 p0 p1 p2 p3
   cases R with
   | error er=>
    obtain⟨h0,⟨v,rfl⟩,hb⟩:=hans
    have HBA:=hQz (HBZ.out.trans (hb.mono HBZ.out.size))
    clear hb
    go_wp2_with fail
    go_ret2
    exact⟨h0,⟨_,rfl⟩,HBA.out⟩
   | ok l=>
    obtain⟨a,c,rfl,hnl,hv,hb⟩:=hans
    have HBA:=hQz (HBZ.out.trans (hb.mono HBZ.out.size))
    have HVN:=hQz (ValsG.mv (w':=W) (S':=fun b=>w.heap.size≤b∧b<W.heap.size) (fun _ _=>rfl) (fun b hb=>⟨by have:=hb.1;omega,hb.2⟩) hv)
    clear hb hv
    go_wp2_with fail
    go_ret2
    exact⟨_,_,rfl,hnl,HVN.out,HBA.out⟩
  ·rw[if_neg h2]
   have d2:(x.ty == 2)=false:=by simp[h2]
   have hm:=ofNumber_any fd.kind x.n Z hn.1 hn.2
   obtain⟨U,u,hV⟩:=ival_num fd.kind x.n
   have hk7:=numD_kind fd.kind x.n
   have hv:HeldV Z (fun b=>w.heap.size≤b∧b<Z.heap.size) f (.iface U u) (numD fd.kind x.n):=⟨.nilFunc,hV.symm,fun h=>absurd h hk7⟩
   rw[hV]at hm
   generalize numD fd.kind x.n=N at *
   obtain⟨A,hA,hAC,hAb,hAs⟩:=box_new Z #[.iface U u] 31
   have HA:=hQz hA
   have HBA:=hQz (HBZ.out.trans (hAb.mono HBZ.out.size))
   have HVN:=hQz (vals_new (f:=f) (W:=Z) (S:=fun b=>w.heap.size≤b∧b<A.heap.size) hAC ⟨by omega,by omega⟩ (hv.mv (fun b hb=>hAb.block b hb.2) (fun b hb=>⟨hb.1,by have:=hb.2;omega⟩)))
   clear hval hmsg hY hC hb hYs hV' hD hVb hVs hC2 hBV hBZ hC3 hD3 hE hZ' hZb hZs hB HBV hBI hk HDV hAC hAb hAs hv hA hV hk7
   go_enter Tryz.func54,Tryz.ntmps54
   go_upto_region 1 with fail
   rw[HY.out,HV.out,HZ.out]
   go_wp2_with fail
   refine hin.mono ?_
   rintro e w9 ⟨rfl,h9⟩
   have h9:=h9.symm
   subst h9
   clear hin
   go_wp2_with fail
   refine hm.mono ?_
   rintro e w9 ⟨rfl,h9⟩
   have h9:=h9.symm
   subst h9
   clear hm s0 s1 s2 q0 q1 q2 q3 q4 p0 p1 p2 p3
   go_wp2_with fail
   rw[HA.out]
   go_ret2
   exact⟨_,_,rfl,(fun h=>by cases h),HVN.out,HBA.out⟩
def RcAns (f:Nat) (R:Except Int Nd) (w:World) (e:Ending) (w':World):Prop:=∃ (a0 a1 a2:Int) (a3:Bool) (a4:ByteArray) (a5:Int) (sa:Option Addr) (sl sc:Nat) (er:Int),e=.returned (.tuple #[.agg #[.int .i64 a0,.int .i64 a1,.int .u64 a2,.bool a3,.string a4,.int .i64 a5,.slice sa sl sc],.int .i64 er])∧
 (match R with
 | .error x=>x≠0∧er=x
 | .ok y=>er=0∧y.kind=7∧∃ fsr,[.int .i64 a0,.int .i64 a1,.int .u64 a2,.bool a3,.string a4,.int .i64 a5,.slice sa sl sc]=clS.row y fsr∧HeldG clS w' (fun b=>w.heap.size≤b∧b<w'.heap.size) f fsr y.fields)∧Below w.heap.size w w'
def RvAns (f:Nat) (R:Except Int (List Nd)) (w:World) (e:Ending) (w':World):Prop:=∃ (sa:Option Addr) (sl sc:Nat) (er:Int),e=.returned (.tuple #[.slice sa sl sc,.int .i64 er])∧
 (match R with
 | .error x=>x≠0∧er=x
 | .ok l=>er=0∧l.length=sl∧(l=[]→sa=none∧sc=0)∧ValsG clS w' (fun b=>w.heap.size≤b∧b<w'.heap.size) f (.slice sa sl sc) l)∧Below w.heap.size w w'
theorem nds_new {f:Nat} {A:World} {y:Nd} {B:Nat} {S:Nat→Prop} {r:List Value} {fsr:Value} (hA:A.heap[B]? = some (.cells r.toArray 38 (0,0))) (hr:r=clS.row y fsr) (hB:S B) (hv:y.kind=7→HeldG clS A S f fsr y.fields):ValsG clS A S f (.slice (some ⟨B,0,none⟩) 1 1) [y]:=by
 refine⟨_,_,rfl,Nat.le_refl _,.inr ⟨B,0,rfl,hB,fun j x hj=>?_⟩⟩
 have hj0:j=0:=by
  have:=(List.getElem?_eq_some_iff.1 hj).1
  simp at this;omega
 subst hj0
 have e:y=x:=by simpa using hj
 subst e
 refine⟨fsr,fun i u hu=>?_,fun hk=>hv (by simpa [clS]using hk)⟩
 rw[←hr]at hu
 simp only[World.cell?,hA]
 simpa [clS]using hu
theorem nds_row (x:Nd) (hk:x.kind=4∨x.kind=5) (fs:Value):clS.row x fs=[.int .i64 x.kind,.int .i64 0,.int .u64 0,.bool false,.string (mkB x.s),.int .i64 0,.slice none 0 0]:=by
 rcases hk with h | h <;> simp[clS,crow,nrow,cn,h]
def RecC (ma ea ta:Option Addr) (nm ne nt mc ec tc:Nat) (f:Nat) (t dep:Int) (rec:Int→List Int→Except Int Nd) (w:World):Prop:=∀ (W:World) (a:Option Addr) (len cap:Nat) (zs:List Int),Below w.heap.size w W→SlS W a len cap zs→cap≤9223372036854775807→len≤100000→Calls Tryz.prog 18 #[.agg #[.slice ma nm mc,.slice ea ne ec,.slice ta nt tc],.int .i64 t,.slice a len cap,.int .i64 (dep+1)] W fun e w'=>RcAns f (rec t zs) W e w'
theorem RecC.mv {ma ea ta:Option Addr} {nm ne nt mc ec tc f:Nat} {t dep:Int} {rec:Int→List Int→Except Int Nd} {w W:World} (h:RecC ma ea ta nm ne nt mc ec tc f t dep rec w) (hW:Below w.heap.size w W):RecC ma ea ta nm ne nt mc ec tc f t dep rec W:=fun W2 a len cap zs hb=>h W2 a len cap zs (hW.trans (hb.mono hW.size))
set_option maxHeartbeats 16000000 in
set_option maxRecDepth 20000 in
theorem readR9_any (ma ea ta:Option Addr) (nm ne nt mc ec tc:Nat) (fd:FD) (dep:Int) (f:Nat) (rec:Int→List Int→Except Int Nd) (x:WF) (a:Option Addr) (len cap:Nat) (w:World) (hkd:1≤fd.kind∧fd.kind≤10) (hdep:0≤dep∧dep≤100) (hB:SlS w a len cap x.d) (hcm:cap≤9223372036854775807) (hlm:len≤100000) (hn:0≤x.n∧x.n≤18446744073709551615) (hval:fd.kind=5→ValC w) (hrec:fd.kind=10→RecC ma ea ta nm ne nt mc ec tc f fd.type dep rec w) :
  Calls Tryz.prog 40 #[.agg #[.slice ma nm mc,.slice ea ne ec,.slice ta nt tc],.agg #[.int .i64 fd.num,.string (mkB fd.name),.int .i64 fd.kind,.bool fd.rep,.int .i64 fd.type],.agg #[.int .i64 x.num,.int .i64 x.ty,.int .u64 x.n,.slice a len cap],.int .i64 dep] w fun e w'=>RvAns f (decV rec fd x) w e w':=by
 obtain⟨Y,hY,hC,hb,hYs⟩:=box_new w #[.slice ma nm mc,.slice ea ne ec,.slice ta nt tc] 26
 obtain⟨U,hU',hE,hUb,hUs⟩:=box_new Y #[.int .i64 fd.num,.string (mkB fd.name),.int .i64 fd.kind,.bool fd.rep,.int .i64 fd.type] 51
 obtain⟨V,hV',hD,hVb,hVs⟩:=box_new U #[.int .i64 x.num,.int .i64 x.ty,.int .u64 x.n,.slice a len cap] 106
 have HY:=hQz hY
 have HV:=hQz hV'
 rw[hYs]at hE
 rw[hUs,hYs]at hD
 have hC2:=(hVb.block _ (by omega)).trans ((hUb.block _ (by omega)).trans hC)
 have hE2:=(hVb.block _ (by omega)).trans hE
 have hBV:=hb.trans ((hUb.trans (hVb.mono hUb.size)).mono hb.size)
 have HBV:=hQz hBV
 have hVl:w.heap.size+3=V.heap.size:=by omega
 have s0:=cell_at hC2 0 rfl
 have s1:=cell_at hC2 1 rfl
 have s2:=cell_at hC2 2 rfl
 have q2:=cell_at hE2 2 rfl
 have q4:=cell_at hE2 4 rfl
 have p1:=cell_at hD 1 rfl
 have p2:=cell_at hD 2 rfl
 have p3:=cell_at hD 3 rfl
 have HPX:Hid (∀ W,Below V.heap.size V W→W.cell? ⟨w.heap.size+2,3,none⟩=some (.slice a len cap)):=fun W hW=>(hW.cell (by simp;omega)).trans p3
 have hIV:SlS V a len cap x.d:=slS_old hB hBV
 obtain⟨xnum,xty,xn,xd⟩:=x
 dsimp only at *
 obtain⟨R,hR⟩:∃ R,decV rec fd ⟨xnum,xty,xn,xd⟩=R:=⟨_,rfl⟩
 rw[hR]
 unfold decV at hR
 dsimp only at hR
 obtain⟨K,hK⟩:∃ K,fd.kind=K:=⟨_,rfl⟩
 rw[hK]at q2 hval hrec hkd hR hU' ⊢
 have HU:=hQz hU'
 by_cases h10:K=10
 ·have hm:=hrec h10 V a len cap xd hBV hIV hcm hlm
  rw[if_neg (by rw[h10];decide),if_pos h10]at hR
  have HR:=hQz hR
  have hw1:IntKind.i64.wrap (dep+1)=dep+1:=by rw[IntKind.wrap_i64];omega
  generalize rec fd.type xd=R0 at *
  subst h10
  clear hval hR hIV hB hY hC hb hYs hU' hE hUb hUs hV' hD hVb hVs hC2 hE2 hBV hK hrec
  go_enter Tryz.func40,Tryz.ntmps40
  go_upto_region 1 with fail
  rw[HY.out,HU.out,HV.out]
  go_wp2_with fail
  refine hm.mono ?_
  rintro e W ⟨a0,a1,a2,a3,a4,a5,sa,sl,sc,er,rfl,hans,hbW⟩
  clear hm s0 s1 s2 q2 q4 p1 p2 p3
  have HAN:=hQz hans
  have HBW:=hQz (HBV.out.trans (hbW.mono HBV.out.size))
  have hWs:=hbW.size
  clear hans hbW
  obtain⟨Q,hQ,hQc,hQb,hQs⟩:=box_new W #[.int .i64 a0,.int .i64 a1,.int .u64 a2,.bool a3,.string a4,.int .i64 a5,.slice sa sl sc] 38
  have HQ:=hQz hQ
  have HQB:Hid (Below W.heap.size W Q):=hQb
  have HQC:=hQz hQc
  have HQZ:Hid (W.heap.size+1=Q.heap.size):=hQs.symm
  clear hQ hQc hQb hQs
  go_upto_region 3 with fail
  rw[HQ.out]
  have r0:=cell_at HQC.out 0 rfl
  have r1:=cell_at HQC.out 1 rfl
  have r2:=cell_at HQC.out 2 rfl
  have r3:=cell_at HQC.out 3 rfl
  have r4:=cell_at HQC.out 4 rfl
  have r5:=cell_at HQC.out 5 rfl
  have r6:=cell_at HQC.out 6 rfl
  go_wp2_with fail
  go_ret2
  refine⟨some ⟨Q.heap.size,0,none⟩,1,1,er,rfl,?_,(HBW.out.trans (HQB.out.mono HBW.out.size)).alloc (by have:=HBW.out.size;have:=HQZ.out;omega) _⟩
  have hA:=alloc_heap_new Q (.cells #[.int .i64 a0,.int .i64 a1,.int .u64 a2,.bool a3,.string a4,.int .i64 a5,.slice sa sl sc] 38)
  rw[←HR.out]
  have h9:=HAN.out
  cases R0 with
  | error e=>exact h9
  | ok y=>
   obtain⟨h0,h7,fsr,hrow,hh⟩:=h9
   have hqz:=HQZ.out
   refine⟨h0,rfl,fun h=>absurd h (by simp),nds_new (fsr:=fsr) hA hrow ⟨by have:=HBV.out.size;omega,by simp⟩ fun _=>HeldG.mv (fun b hb=>(alloc_heap_old _ _ _ (by have:=hb.2;omega)).trans (HQB.out.block b hb.2)) (fun b hb=>⟨by have:=hb.1;have:=HBV.out.size;omega,by simp;have:=hb.2;omega⟩) hh⟩
 have d10:(K == 10)=false:=by simp[h10]
 by_cases h5:K=5
 ·have hm:=hval h5 V a len cap xd hBV hIV.1 hIV.2.1 hcm hlm
  rw[if_neg (by rw[h5];decide),if_neg h10,if_pos h5]at hR
  have hst:=fun W (hW:Below V.heap.size V W)=>run_strT 9 Tryz.underlying9 W a len cap xd (isB_old hIV.1 hW)
  have hAN:∀ W,Below w.heap.size w W→RvAns f (.ok [strD 4 xd]) w (.returned (.tuple #[.slice (some ⟨W.heap.size,0,none⟩) 1 1,.int .i64 0])) (W.alloc (.cells #[.int .i64 4,.int .i64 0,.int .u64 0,.bool false,.string (mkB (u8s xd)),.int .i64 0,.slice none 0 0] 38)):=fun W hW=>⟨_,1,1,0,rfl,⟨rfl,rfl,fun h=>absurd h (by simp),nds_new (r:=[.int .i64 4,.int .i64 0,.int .u64 0,.bool false,.string (mkB (u8s xd)),.int .i64 0,.slice none 0 0]) (fsr:=.slice none 0 0) (alloc_heap_new _ _) (nds_row (strD 4 xd) (by unfold strD;simp) _).symm ⟨hW.size,by simp⟩ fun h=>absurd h (by simp[strD])⟩,hW.alloc hW.size _⟩
  have HAN:=hQz hAN
  clear hAN
  generalize valB (u8s xd)=b at *
  subst h5
  clear hval hIV hB hY hC hb hYs hU' hE hUb hUs hV' hD hVb hVs hC2 hE2 hBV hK hrec h10
  go_enter Tryz.func40,Tryz.ntmps40
  go_upto_region 1 with fail
  rw[HY.out,HU.out,HV.out]
  go_wp2_with fail
  refine hm.mono ?_
  rintro e W ⟨rfl,hb⟩
  have hs9:=hst W hb
  have c3:=HPX.out W hb
  clear hm hst s0 s1 s2 q2 q4 p1 p2 p3
  have HBW:=hQz (HBV.out.trans (hb.mono HBV.out.size))
  clear hb
  subst hR
  cases b with
  | false=>
   go_wp2_with fail
   go_ret2
   exact⟨none,0,0,13,rfl,⟨by decide,rfl⟩,HBW.out⟩
  | true=>
   go_wp2_with fail
   go_ret2
   exact HAN.out W HBW.out
 have d5:(K == 5)=false:=by simp[h5]
 by_cases h6:K=6
 ·rw[if_neg (by rw[h6];decide),if_neg h10,if_neg h5]at hR
  have hst:=fun W (hW:Below V.heap.size V W)=>run_strT 9 Tryz.underlying9 W a len cap xd (isB_old hIV.1 hW)
  have hs9:=hst V (Below.refl _ _)
  have hAN:∀ W,Below w.heap.size w W→RvAns f (.ok [strD 5 xd]) w (.returned (.tuple #[.slice (some ⟨W.heap.size,0,none⟩) 1 1,.int .i64 0])) (W.alloc (.cells #[.int .i64 5,.int .i64 0,.int .u64 0,.bool false,.string (mkB (u8s xd)),.int .i64 0,.slice none 0 0] 38)):=fun W hW=>⟨_,1,1,0,rfl,⟨rfl,rfl,fun h=>absurd h (by simp),nds_new (r:=[.int .i64 5,.int .i64 0,.int .u64 0,.bool false,.string (mkB (u8s xd)),.int .i64 0,.slice none 0 0]) (fsr:=.slice none 0 0) (alloc_heap_new _ _) (nds_row (strD 5 xd) (by unfold strD;simp) _).symm ⟨hW.size,by simp⟩ fun h=>absurd h (by simp[strD])⟩,hW.alloc hW.size _⟩
  have HAN:=hQz hAN
  clear hAN
  subst h6
  clear hval hst hIV hB hY hC hb hYs hU' hE hUb hUs hV' hD hVb hVs hC2 hE2 hBV hK hrec h10 h5
  go_enter Tryz.func40,Tryz.ntmps40
  go_upto_region 1 with fail
  rw[HY.out,HU.out,HV.out]
  subst hR
  go_wp2_with fail
  go_ret2
  exact HAN.out V HBV.out
 have d6:(K == 6)=false:=by simp[h6]
 have hnk:NumK K:=by unfold NumK;omega
 rw[if_pos (by unfold isNum;exact decide_eq_true ⟨h5,h6,h10⟩)]at hR
 by_cases hty:xty=2
 ·subst hty
  rw[if_pos rfl]at hR
  have hm:=unpackR_any K f a len cap xd V hnk hIV hcm hlm
  generalize unpack K xd=b at *
  clear hval hIV hB hY hC hb hYs hU' hE hUb hUs hV' hD hVb hVs hC2 hE2 hBV hK hrec h10 h5 h6
  go_enter Tryz.func40,Tryz.ntmps40
  go_upto_region 1 with fail
  rw[HY.out,HU.out,HV.out]
  subst hR
  go_wp2_with fail
  refine hm.mono ?_
  intro e W hans
  clear hm s0 s1 s2 q2 q4 p1 p2 p3
  cases b with
  | none=>
   obtain⟨rfl,hb⟩:=hans
   have HBW:=hQz (HBV.out.trans (hb.mono HBV.out.size))
   clear hb
   go_wp2_with fail
   go_ret2
   exact⟨none,0,0,2,rfl,⟨by decide,rfl⟩,HBW.out⟩
  | some l=>
   obtain⟨la,lc,rfl,hnl,hv,hb⟩:=hans
   have HNL:=hQz hnl
   clear hnl
   have HBW:=hQz (HBV.out.trans (hb.mono HBV.out.size))
   have HVV:=hQz hv
   clear hb hv
   go_wp2_with fail
   go_ret2
   exact⟨la,l.length,lc,0,rfl,⟨rfl,rfl,HNL.out,ValsG.mv (fun _ _=>rfl) (fun b hb=>⟨by have:=hb.1;have:=HBV.out.size;omega,hb.2⟩) HVV.out⟩,HBW.out⟩
 ·have dty:(xty == 2)=false:=by simp[hty]
  rw[if_neg hty]at hR
  have hm:=valueR_any K xn V hnk hn.1 hn.2
  have HRW:=hQz (num_row K xn (.slice none 0 0))
  have HY7:=hQz (numD_kind K xn)
  generalize numD K xn=b at *
  unfold numC at hm
  clear hval hIV hB hY hC hb hYs hU' hE hUb hUs hV' hD hVb hVs hC2 hE2 hBV hK hrec h10 h5 h6 hty
  go_enter Tryz.func40,Tryz.ntmps40
  go_upto_region 1 with fail
  rw[HY.out,HU.out,HV.out]
  subst hR
  go_wp2_with fail
  refine hm.mono ?_
  rintro e W ⟨rfl,hb⟩
  clear hm s0 s1 s2 q2 q4 p1 p2 p3
  have HBW:=hQz (HBV.out.trans (hb.mono HBV.out.size))
  clear hb
  go_wp2_with fail
  go_ret2
  exact⟨_,1,1,0,rfl,⟨rfl,rfl,fun h=>absurd h (by simp),nds_new (r:=[.int .i64 b.kind,.int .i64 b.n,.int .u64 b.u,.bool b.b,.string ⟨#[]⟩,.int .i64 0,.slice none 0 0]) (fsr:=.slice none 0 0) (alloc_heap_new _ _) HRW.out.symm ⟨HBW.out.size,by simp⟩ fun h=>absurd h HY7.out⟩,HBW.out.alloc HBW.out.size _⟩
end Go.Proofs.YteajlfgbmefncaaGreatDoor
