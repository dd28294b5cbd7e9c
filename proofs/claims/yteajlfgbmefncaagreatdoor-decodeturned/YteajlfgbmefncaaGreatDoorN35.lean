/-
  Walks and plain words (DcV DcJ DcK).
-/
import Derived.Test.YteajlfgbmefncaaGreatDoorN34
import Derived.Test.YteajlfgbmefncaaGreatDoorN23
namespace Go.Proofs.YteajlfgbmefncaaGreatDoor
set_option linter.unusedVariables false
open Go.ChangeShapes Go.WideShapes Go.ChangeAt Go.RowKit

theorem decV_len {rec:Int→List Int→Except Int Nd} {fd:FD} {x:WF} (hb:IsBs x.d) {l:List Nd} (h:decV rec fd x=.ok l):l.length≤x.d.length+1:=by
 cases hk:isNum fd.kind with
 | false=>
  rw[decV_bytes hk]at h
  cases hd:decB rec fd x.d with
  | error e=>rw[hd]at h;cases h
  | ok y=>
   rw[hd]at h
   have:l=[y]:=by injection h with h;exact h.symm
   rw[this];simp
 | true=>
  unfold decV at h
  rw[if_pos hk]at h
  split at h
  ·cases hu:unpack fd.kind x.d with
   | none=>rw[hu]at h;cases h
   | some l'=>
    rw[hu]at h
    have:l=l':=by injection h with h;exact h.symm
    have h2:=unpack_len _ (Nat.le_refl _) hb hu
    rw[this];omega
  ·have:l=[numD fd.kind x.n]:=by injection h with h;exact h.symm
   rw[this];simp
set_option maxHeartbeats 16000000 in
set_option maxRecDepth 20000 in
theorem fieldValues_any (ma ea ta:Option Addr) (nm ne nt mc ec tc:Nat) (fd:FD) (dep:Int) (f:Nat) (rec:Int→List Int→Except Int Nd) (ad:Option Addr) (n c:Nat) (ws:List WF) (w:World) (hdep:0≤dep∧dep≤100) (hn:ws.length=n) (hn1:n≤100000) (hW:WfIn w (fun b=>b<w.heap.size) (.slice ad n c) ws) (hok:∀ x∈ws,(0≤x.n∧x.n≤18446744073709551615)∧x.d.length≤100000) (hval:fd.kind=5→ValC w) (hmsg:fd.kind=10→MsgC ma ea ta nm ne nt mc ec tc f fd.type (dep+1) rec w) :
  Calls Tryz.prog 27 #[.agg #[.slice ma nm mc,.slice ea ne ec,.slice ta nt tc],.agg #[.int .i64 fd.num,.string (mkB fd.name),.int .i64 fd.kind,.bool fd.rep,.int .i64 fd.type],.slice ad n c,.int .i64 dep] w fun e w'=>VsAns f (decVs rec fd ws) w e w':=by
 obtain⟨Y,hY,hC,hb,hYs⟩:=box_new w #[.slice ma nm mc,.slice ea ne ec,.slice ta nt tc] 26
 obtain⟨V,hV',hD,hVb,hVs⟩:=box_new Y #[.int .i64 fd.num,.string (mkB fd.name),.int .i64 fd.kind,.bool fd.rep,.int .i64 fd.type] 51
 have HY:=hQz hY
 have HV:=hQz hV'
 rw[hYs]at hD
 have hC2:=(hVb.block _ (by omega)).trans hC
 have hBV:=hb.trans (hVb.mono hb.size)
 have HBV:=hQz hBV
 have hVl:w.heap.size+2=V.heap.size:=by omega
 have s0:=cell_at hC2 0 rfl
 have s1:=cell_at hC2 1 rfl
 have s2:=cell_at hC2 2 rfl
 have q0:=cell_at hD 0 rfl
 have q1:=cell_at hD 1 rfl
 have q2:=cell_at hD 2 rfl
 have q3:=cell_at hD 3 rfl
 have q4:=cell_at hD 4 rfl
 have hC2':=hC2
 clear s0 s1 s2 q0 q1 q2 q3 q4
 have HCA:=hQz hC2
 have HDA:=hQz hD
 have HVAL:Hid (fd.kind=5→ValC V):=fun h=>(hval h).mv hBV
 have HMSG:Hid (fd.kind=10→MsgC ma ea ta nm ne nt mc ec tc f fd.type (dep+1) rec V):=fun h=>(hmsg h).mv hBV
 have HWI:=hQz hW
 have HN:=hQz hn
 have HOK:=hQz hok
 clear hval hmsg hW hn hok hY hC hb hYs hV' hD hVb hVs hC2 hBV hC2'
 go_enter Tryz.func27,Tryz.ntmps27
 go_upto_region 1 with fail
 rw[HY.out,HV.out]
 go_wp2_with fail
 go_loopw [10,17] (fun ov i wr=>∃ (k:Nat) (o':Value) (vs:List Nd) (rs:List (List Value)),o'=ov∧i=.int .i64 (k:Int)∧k≤n∧vs.length≤k*100001∧exL (decV rec fd) (ws.take k)=.ok vs∧Below V.heap.size V wr∧Gr (VRs valS f) wr V.heap.size 31 1 o' vs rs∧(vs=[]→o'=.slice none 0 0)) (fun _ i _=>n - (intOf i).toNat)
 case atStart=>exact⟨0,_,[],[],rfl,rfl,Nat.zero_le _,Nat.le_refl _,rfl,Below.refl _ _,Gr.nil _ _ _ _ _,fun _=>rfl⟩
 case round=>
  generalize wr=w1 at *
  obtain⟨k,o',vs,rs,rfl,rfl,hk,hvl,hex,hbel,hgr,hnil⟩:=hrel
  obtain⟨oa,oc,hov⟩:=own_slice hgr.own
  obtain⟨m,hm⟩:∃ m,vs.length=m:=⟨_,rfl⟩
  rw[hm]at hov hvl
  subst hov
  have HNIL:=hQz hnil
  have HBE:=hQz hbel
  have HGR:=hQz hgr
  have HM:=hQz hm
  have HEX:=hQz hex
  have hws:=hbel.size
  have hBw:=HBV.out.trans (hbel.mono HBV.out.size)
  have HBW:=hQz hBw
  have HFB:Hid (∀ b,(Value.slice oa m oc).ownBlock=some b→V.heap.size≤b∧b<w1.heap.size):=hgr.blk
  clear hgr hm hex hnil
  by_cases hkn:k<n
  ·obtain⟨x,hx⟩:∃ x,ws[k]? = some x:=⟨_,List.getElem?_eq_getElem (by have:=HN.out;omega)⟩
   obtain⟨g,go,gc,hsl,hg,da,dc,hcl,hbi⟩:=SlIn.at HWI.out hx
   rw[HN.out]at hsl
   obtain⟨rfl,rfl⟩:=slice_two hsl
   have hgN:g<w.heap.size:=hg
   have hcl2:=hcl.old (hBw.block g hgN)
   have HXX:=hQz hx
   obtain⟨hxn,hxl⟩:=HOK.out x (List.mem_of_getElem? hx)
   have HBS:Hid (IsBs x.d):=fun z hz=>isB_bytes hbi.isB z hz
   have e0:w1.cell? ⟨g,go+k*4,none⟩=some (.int .i64 x.num):=by have:=hcl2 0 _ rfl;simpa using this
   have e1:w1.cell? ⟨g,go+k*4+1,none⟩=some (.int .i64 x.ty):=by have:=hcl2 1 _ rfl;simpa using this
   have e2:w1.cell? ⟨g,go+k*4+2,none⟩=some (.int .u64 x.n):=by have:=hcl2 2 _ rfl;simpa using this
   have e3:w1.cell? ⟨g,go+k*4+3,none⟩=some (.slice da x.d.length dc):=by have:=hcl2 3 _ rfl;simpa using this
   have hk0:(0:Int)≤(k:Int):=by omega
   have hk1:(k:Int)<(n:Int):=by omega
   have hwk:=wQz k (by omega)
   obtain⟨X,hX,hXC,hXb,hXs⟩:=box_new w1 #[.int .i64 x.num,.int .i64 x.ty,.int .u64 x.n,.slice da x.d.length dc] 123
   have HX:=hQz hX
   have hBX:=hBw.trans (hXb.mono hBw.size)
   have hVX:=hbel.trans (hXb.mono hws)
   have HVX:=hQz hVX
   have hcA:=(hVX.block w.heap.size (by omega)).trans HCA.out
   have hdA:=(hVX.block (w.heap.size+1) (by omega)).trans HDA.out
   have s0:=cell_at hcA 0 rfl
   have s1:=cell_at hcA 1 rfl
   have s2:=cell_at hcA 2 rfl
   have q0:=cell_at hdA 0 rfl
   have q1:=cell_at hdA 1 rfl
   have q2:=cell_at hdA 2 rfl
   have q3:=cell_at hdA 3 rfl
   have q4:=cell_at hdA 4 rfl
   have p0:=cell_at hXC 0 rfl
   have p1:=cell_at hXC 1 rfl
   have p2:=cell_at hXC 2 rfl
   have p3:=cell_at hXC 3 rfl
   have hcall:=ofField_any ma ea ta nm ne nt mc ec tc fd dep f rec x da dc X hdep hxn (hbi.mv (fun b hb=>hBX.block b hb) (fun b hb=>by have hb':b<w.heap.size:=hb;have:=hBX.size;omega)) hxl (fun h=>(HVAL.out h).mv hVX) (fun h=>(HMSG.out h).mv hVX)
   have hXl:w1.heap.size+1=X.heap.size:=by omega
   clear hsl hg hcl hbi hcl2 hx hX hXC hXb hXs hcA hdA hVX hBX hBw hbel hxn
   go_upto_region 5 with fail
   rw[HX.out]
   clear e0 e1 e2 e3
   go_wp2_with fail
   refine hcall.mono ?_
   intro e W5 hans
   clear hcall s0 s1 s2 q0 q1 q2 q3 q4 p0 p1 p2 p3
   cases hR:decV rec fd x with
   | error er=>
    rw[hR]at hans
    obtain⟨h0,⟨v,rfl⟩,hb⟩:=hans
    have HRES:Hid (decVs rec fd ws=.error er):=exL_err HXX.out HEX.out hR
    have hE2:(er == 0)=false:=by simp[h0]
    have hE3:(er != 0)=true:=by simp[h0]
    have HBA:=hQz (HBV.out.trans ((HVX.out.trans (hb.mono HVX.out.size)).mono HBV.out.size))
    clear hb hR
    go_wp2_with fail
    go_ret2
    rw[HRES.out]
    exact⟨h0,⟨_,rfl⟩,HBA.out⟩
   | ok l=>
    rw[hR]at hans
    obtain⟨va,vc,rfl,hnl,hv,hb⟩:=hans
    have HST:=hQz (exL_step HXX.out HEX.out hR)
    have hll:=decV_len HBS.out hR
    have hb5:=hb.size
    have HB5:=hQz (HVX.out.trans (hb.mono HVX.out.size))
    have HGX:Hid (Gr (VRs valS f) W5 V.heap.size 31 1 (.slice oa m oc) vs rs):=HGR.out.keep (mvsV valS f) (fun b h1 h2=>by
     have hw1:Below w1.heap.size w1 W5:=by
      have h3:Below w1.heap.size w1 X:=by rw[←HX.out];exact(Below.refl _ _).alloc (Nat.le_refl _) _
      exact h3.trans (hb.mono h3.size)
     exact hw1.block b h2) (by omega)
    have HOW:Hid (W5.ownsRow V.heap.size 31 1 (.slice oa m oc) m (rs.flatMap id)):=by
     refine(?_:World.ownsRow _ _ _ _ _ _ _)
     have:=HGX.out.own
     rw[HM.out]at this
     exact this
    clear hb hR
    by_cases hl0:l=[]
    ·subst hl0
     obtain⟨rfl,rfl⟩:=hnl rfl
     clear hnl hv
     have hm2:m≤(k+1)*100001:=Nat.le_trans hvl (Nat.mul_le_mul_right _ (by omega))
     have hb0:V.heap.size≤W5.heap.size:=by omega
     obtain⟨i0,hi0,hz0,hz1,hz2⟩:=info_parts infoVV
     go_wp2_with (at_builtin;refine wpList_append_own_none rfl _ _ _ rfl V.heap.size 31 i0 1 Tryz.underlying77 hi0 (.slice oa m oc) m (rs.flatMap id) rfl HOW.out rfl ?_)
     go_wp2_with fail
     go_roundw
     case rel=>exact⟨k+1,_,vs,rs,rfl,by go_num,by omega,(by rw[HM.out];exact hm2),by have:=HST.out;rw[List.append_nil]at this;exact this,HB5.out,HGX.out,HNIL.out⟩
     case measure=>simp[intOf];omega
    ·obtain⟨ad5,c5,hsl5,hlc5,h0 | ⟨g5,o5,rfl,hg5,hc5⟩⟩:=hv
     ·exact absurd h0 hl0
     obtain⟨q,hq⟩:∃ q,l.length=q:=⟨_,rfl⟩
     have HQ:=hQz hq
     have hq0:0<q:=by rw[←hq];exact List.length_pos_iff.2 hl0
     rw[hq]at hsl5 hll ⊢
     obtain⟨rfl,rfl⟩:=slice_two hsl5
     obtain⟨qs,g1,g2,g3,g4,gg5,g6⟩:=vals_rows (w:=W5) (S:=fun b=>X.heap.size≤b∧b<W5.heap.size) (f:=f) (g:=g5) (ys:=l) (o:=o5) fun j y hj=>by
      obtain⟨fs,h1,h2⟩:=hc5 j y hj
      exact⟨fs,by have h1':=h1;have hk1:valS.k=1:=rfl;rw[hk1,Nat.mul_one]at h1';exact h1',fun hk=>h2 (by simp[valS,hk])⟩
     have G1:=hQz g1
     have G2:=hQz g2
     have G3:=hQz g3
     have G4:=hQz g4
     have G5:=hQz gg5
     have G6:=hQz g6
     clear g1 g2 g3 g4 gg5 g6 hc5 hsl5 hq hnl
     have hb0:V.heap.size≤W5.heap.size:=by omega
     have hm3:m+q≤(k+1)*100001:=by rw[Nat.add_mul];omega
     have hmb:m+q≤20000000000:=by omega
     go_wp2_with (at_builtin;refine wpushL (T:=31) (base:=V.heap.size) (n:=m) (v:=.slice oa m oc) (xs:=rs.flatMap id) Tryz.underlying77 infoVV rfl (by decide) HOW.out hb0 ⟨g5,o5,none⟩ q _ (qs.flatMap id) (by rw[G6.out,HQ.out,Nat.mul_one]) G5.out (fun j u hu=>by rw[add_zero];exact G4.out j u hu) hq0 rfl _ _ rfl rfl rfl (by unfold maxLen;omega) (by omega) ?_;intro g6 cap6 W6 hown6 hgr6 hat6 hlt6)
     have HG6:Hid (Gr (VRs valS f) W6 V.heap.size 31 1 (.slice (some ⟨g6,0,none⟩) (m+q) cap6) (vs++l) (rs++qs)):=HGX.out.pushN (mvsV valS f) G1.out G2.out (fun j y r h1 h2=>mvsV valS f _ _ _ _ _ _ (G3.out j y r h1 h2) (fun _ _=>rfl) (fun b hb=>⟨by have:=hb.1;omega,hb.2,fun e=>by have:=(HFB.out b e).2;have:=hb.1;omega⟩)) HM.out HQ.out hown6 hgr6 hat6
     have HB6:Hid (Below V.heap.size V W6):=HB5.out.grown hgr6 (by omega) (fun b hb=>(HFB.out b hb).1)
     clear hown6 hgr6 hat6 hlt6
     go_wp2_with fail
     go_roundw
     case rel=>exact⟨k+1,_,vs++l,_,rfl,by go_num,by omega,(by rw[List.length_append,HM.out,HQ.out];exact hm3),HST.out,HB6.out,HG6.out,fun h=>absurd (List.append_eq_nil_iff.1 h).2 hl0⟩
     case measure=>simp[intOf];omega
  ·have hkn':¬(k:Int)<(n:Int):=by omega
   have hre:decVs rec fd ws=.ok vs:=by
    have h1:=HEX.out
    rw[List.take_of_length_le (by have:=HN.out;omega)]at h1
    exact h1
   have HRE:=hQz hre
   have HVS:=hQz (HGR.out.vals (s:=valS) (fun b=>w.heap.size≤b∧b<w1.heap.size) (fun b h1 h2=>⟨by omega,h2⟩))
   have HNL:Hid (vs=[]→oa=none∧oc=0):=by
    refine(?_:_→_)
    intro h
    have h0:=Value.slice.inj (HNIL.out h)
    exact⟨h0.1,h0.2.2⟩
   clear hre
   go_wp2_with fail
   go_ret2
   rw[HRE.out]
   exact⟨oa,oc,by rw[HM.out];rfl,HNL.out,by rw[HM.out];exact HVS.out,HBW.out⟩
theorem flat_bnd {l:List WF} (h:∀ x∈l,x.d.length≤100000):(l.flatMap WF.d).length≤l.length*100000:=by
 induction l with
 | nil=>simp
 | cons x t ih=>
  have h1:=h x List.mem_cons_self
  have h2:=ih fun y hy=>h y (List.mem_cons_of_mem _ hy)
  rw[List.flatMap_cons,List.length_append,List.length_cons,Nat.add_mul]
  omega
set_option maxHeartbeats 16000000 in
set_option maxRecDepth 20000 in
theorem joined_any (ad:Option Addr) (n c:Nat) (ws:List WF) (w:World) (hn:ws.length=n) (hn1:n≤100000) (hW:WfIn w (fun b=>b<w.heap.size) (.slice ad n c) ws) (hok:∀ x∈ws,x.d.length≤100000) :
  Calls Tryz.prog 55 #[.slice ad n c] w fun e w'=>BAns (ws.flatMap WF.d) w e w':=by
 have HWI:=hQz hW
 have HN:=hQz hn
 have HOK:=hQz hok
 clear hW hn hok
 go_enter Tryz.func55,Tryz.ntmps55
 go_wp2_with fail
 go_loopw [3,8] (fun ov i wr=>∃ (k:Nat) (o':Value),o'=ov∧i=.int .i64 (k:Int)∧k≤n∧Below w.heap.size w wr∧OwnB wr w.heap.size o' ((ws.take k).flatMap WF.d)) (fun _ i _=>n - (intOf i).toNat)
 case atStart=>exact⟨0,_,rfl,rfl,Nat.zero_le _,Below.refl _ _,own_nil _ _⟩
 case round=>
  generalize wr=w1 at *
  obtain⟨k,o',rfl,rfl,hk,hbel,hown⟩:=hrel
  have HBE:=hQz hbel
  have HOW:=hQz hown
  have hws:=hbel.size
  have hlen:((ws.take k).flatMap WF.d).length≤10000000000:=by
   have h1:=flat_bnd (l:=ws.take k) fun x hx=>HOK.out x (List.mem_of_mem_take hx)
   rw[List.length_take]at h1
   have h2:min k ws.length*100000≤100000*100000:=Nat.mul_le_mul_right _ (by omega)
   omega
  clear hown
  by_cases hkn:k<n
  ·obtain⟨x,hx⟩:∃ x,ws[k]? = some x:=⟨_,List.getElem?_eq_getElem (by have:=HN.out;omega)⟩
   obtain⟨g,go,gc,hsl,hg,da,dc,hcl,hbi⟩:=SlIn.at HWI.out hx
   rw[HN.out]at hsl
   obtain⟨rfl,rfl⟩:=slice_two hsl
   have hgN:g<w.heap.size:=hg
   have hcl2:=hcl.old (hbel.block g hgN)
   have HTK:=hQz (flat_snocB WF.d hx)
   have hxl:=HOK.out x (List.mem_of_getElem? hx)
   have e0:w1.cell? ⟨g,go+k*4,none⟩=some (.int .i64 x.num):=by have:=hcl2 0 _ rfl;simpa using this
   have e1:w1.cell? ⟨g,go+k*4+1,none⟩=some (.int .i64 x.ty):=by have:=hcl2 1 _ rfl;simpa using this
   have e2:w1.cell? ⟨g,go+k*4+2,none⟩=some (.int .u64 x.n):=by have:=hcl2 2 _ rfl;simpa using this
   have e3:w1.cell? ⟨g,go+k*4+3,none⟩=some (.slice da x.d.length dc):=by have:=hcl2 3 _ rfl;simpa using this
   have hk0:(0:Int)≤(k:Int):=by omega
   have hk1:(k:Int)<(n:Int):=by omega
   have hwk:=wQz k (by omega)
   obtain⟨X,hX,hXC,hXb,hXs⟩:=box_new w1 #[.int .i64 x.num,.int .i64 x.ty,.int .u64 x.n,.slice da x.d.length dc] 123
   have HX:=hQz hX
   have hBX:=hbel.trans (hXb.mono hws)
   have HBX:=hQz hBX
   have HOX:Hid (OwnB X w.heap.size o' ((ws.take k).flatMap WF.d)):=own_old HOW.out hXb
   have hbX:BIn X (fun b=>b<X.heap.size) da dc x.d:=hbi.mv (fun b hb=>hBX.block b hb) (fun b hb=>by have hb':b<w.heap.size:=hb;have:=hBX.size;omega)
   have HIX:=hQz hbX.isB
   have HNX:=hQz hbX.2.1
   have p3:=cell_at hXC 3 rfl
   have hXl:w.heap.size≤X.heap.size:=hBX.size
   clear hsl hg hcl hbi hcl2 hx hX hXC hXb hXs hBX hbX hbel
   go_upto_region 5 with fail
   rw[HX.out]
   clear e0 e1 e2 e3
   go_wp2_with (at_builtin;refine wpB_at rfl _ _ rfl w.heap.size o' _ rfl HOX.out da x.d.length dc x.d rfl HIX.out HNX.out (by omega) hXl ?_;intro v6 W6 hown6 hgr6 hat6)
   have HO6:Hid (OwnB W6 w.heap.size v6 ((ws.take (k+1)).flatMap WF.d)):=by
    refine(?_:OwnB _ _ _ _)
    rw[HTK.out];exact hown6
   have HB6:Hid (Below w.heap.size w W6):=HBX.out.grown hgr6 (by omega) (fun b hb=>own_blockB HOX.out b hb)
   clear hown6 hgr6 hat6 p3
   go_wp2_with fail
   go_roundw
   case rel=>exact⟨k+1,_,rfl,by go_num,by omega,HB6.out,HO6.out⟩
   case measure=>simp[intOf];omega
  ·have hkn':¬(k:Int)<(n:Int):=by omega
   have hte:ws.take k=ws:=List.take_of_length_le (by have:=HN.out;omega)
   rw[hte]at HOW hlen
   have hbs:IsBs (ws.flatMap WF.d):=fun z hz=>by
    obtain⟨x,hx,hz⟩:=List.mem_flatMap.1 hz
    obtain⟨j,hj⟩:=List.getElem?_of_mem hx
    obtain⟨_,_,_,_,_,_,_,_,hbi⟩:=SlIn.at HWI.out hj
    exact isB_bytes hbi.isB z hz
   obtain⟨J,hJ⟩:∃ J,ws.flatMap WF.d=J:=⟨_,rfl⟩
   have HJ:=hQz hJ
   rw[hJ]at HOW hbs hlen
   obtain⟨a,cc,hv,hbi⟩:=own_BIn HOW.out hbs (by omega)
   subst hv
   have HBI:=hQz hbi
   clear hte hbs hbi hJ
   go_wp2_with fail
   go_ret
   rw[HJ.out]
   exact⟨a,cc,rfl,HBI.out,HBE.out⟩
def WRo (w0:World) (w:World) (S:Nat→Prop) (x:WF) (r:List Value):Prop:=∃ a c,r=[.int .i64 x.num,.int .i64 x.ty,.int .u64 x.n,.slice a x.d.length c]∧BIn w0 (fun b=>b<w0.heap.size) a c x.d
theorem mvsO (w0:World):Mvs (WRo w0):=fun w w' S S' x r h _ _=>h
theorem Gr.olds {w0 w:World} {base:Nat} {T:TypeId} {v:Value} {l:List WF} {rs:List (List Value)} (h:Gr (WRo w0) w base T 4 v l rs) (hb:Below w0.heap.size w0 w):WfIn w (fun b=>b<w.heap.size) v l:=by
 refine SlIn.imp (h.held (fun b=>b<w.heap.size) fun b hb=>(h.blk b hb).2) (fun _ h=>h) fun x g o hg hx=>?_
 obtain⟨r,hc,a,c,rfl,hd⟩:=hx
 exact⟨a,c,hc,hd.mv (fun b hb'=>hb.block b hb') (fun b hb'=>by have h1:b<w0.heap.size:=hb';have:=hb.size;omega)⟩
def RdAns (l:List WF) (w:World) (e:Ending) (w':World):Prop:=∃ ad c,e=.returned (.slice ad l.length c)∧WfIn w' (fun b=>b<w'.heap.size) (.slice ad l.length c) l∧Below w.heap.size w w'
theorem ownL_step {fd:FD} {l:List WF} {k:Nat} {x:WF} (h:l[k]? = some x):ownL fd (l.take (k+1))=ownL fd (l.take k)++(if decide (x.num=fd.num)=true then [x] else []):=by
 unfold ownL
 rw[show l.take (k+1)=l.take k++[x] from take_snoc h,List.filter_append]
 congr 1
 cases hd:decide (x.num=fd.num) <;> simp[hd]
theorem wfIn_one {w:World} {S:Nat→Prop} {B:Nat} {x:WF} {a:Option Addr} {c:Nat} (hB:w.heap[B]? = some (.cells #[.int .i64 x.num,.int .i64 x.ty,.int .u64 x.n,.slice a x.d.length c] 123 (0,0))) (hS:S B) (hd:BIn w S a c x.d):WfIn w S (.slice (some ⟨B,0,none⟩) 1 1) [x]:=by
 refine⟨_,_,rfl,Nat.le_refl _,.inr ⟨B,0,rfl,hS,fun j y hj=>?_⟩⟩
 have hj0:j=0:=by
  have:=(List.getElem?_eq_some_iff.1 hj).1
  simp at this;omega
 subst hj0
 have e:x=y:=by simpa using hj
 subst e
 refine⟨a,c,fun i u hu=>?_,hd⟩
 simp only[World.cell?,hB]
 simpa using hu
set_option maxHeartbeats 16000000 in
set_option maxRecDepth 20000 in
theorem toRead_any (fd:FD) (ad:Option Addr) (n c:Nat) (l:List WF) (w:World) (hn:l.length=n) (hn1:n≤100000) (hW:WfIn w (fun b=>b<w.heap.size) (.slice ad n c) l) (hok:∀ x∈l,x.d.length≤100000) :
  Calls Tryz.prog 28 #[.agg #[.int .i64 fd.num,.string (mkB fd.name),.int .i64 fd.kind,.bool fd.rep,.int .i64 fd.type],.slice ad n c] w fun e w'=>RdAns (toRead fd l) w e w':=by
 obtain⟨V,hV',hD,hVb,hVs⟩:=box_new w #[.int .i64 fd.num,.string (mkB fd.name),.int .i64 fd.kind,.bool fd.rep,.int .i64 fd.type] 51
 have HV:=hQz hV'
 have HDA:=hQz hD
 have HBV:=hQz hVb
 have hVl:w.heap.size+1=V.heap.size:=by omega
 have HWI:=hQz hW
 have HN:=hQz hn
 have HOK:=hQz hok
 clear hW hn hok hV' hD hVb hVs
 go_enter Tryz.func28,Tryz.ntmps28
 go_upto_region 1 with fail
 rw[HV.out]
 go_wp2_with fail
 go_loopw [5,11] (fun ov i wr=>∃ (k:Nat) (o':Value) (rs:List (List Value)),o'=ov∧i=.int .i64 (k:Int)∧k≤n∧Below V.heap.size V wr∧Gr (WRo w) wr V.heap.size 123 4 o' (ownL fd (l.take k)) rs) (fun _ i _=>n - (intOf i).toNat)
 case atStart=>exact⟨0,_,[],rfl,rfl,Nat.zero_le _,Below.refl _ _,Gr.nil _ _ _ _ _⟩
 case round=>
  generalize wr=w1 at *
  obtain⟨k,o',rs,rfl,rfl,hk,hbel,hgr⟩:=hrel
  obtain⟨oa,oc,hov⟩:=own_slice hgr.own
  obtain⟨m,hm⟩:∃ m,(ownL fd (l.take k)).length=m:=⟨_,rfl⟩
  rw[hm]at hov
  subst hov
  have hmk:m≤100000:=by
   have h1:(ownL fd (l.take k)).length≤(l.take k).length:=List.length_filter_le _ _
   rw[List.length_take]at h1
   omega
  have HM:=hQz hm
  have HBE:=hQz hbel
  have HGR:=hQz hgr
  have hws:=hbel.size
  have hBw:=HBV.out.trans (hbel.mono HBV.out.size)
  have HBW:=hQz hBw
  have HFB:Hid (∀ b,(Value.slice oa m oc).ownBlock=some b→V.heap.size≤b∧b<w1.heap.size):=hgr.blk
  have hdA:=(hbel.block w.heap.size (by omega)).trans HDA.out
  clear hgr hm
  by_cases hkn:k<n
  ·obtain⟨x,hx⟩:∃ x,l[k]? = some x:=⟨_,List.getElem?_eq_getElem (by have:=HN.out;omega)⟩
   obtain⟨g,go,gc,hsl,hg,da,dc,hcl,hbi⟩:=SlIn.at HWI.out hx
   rw[HN.out]at hsl
   obtain⟨rfl,rfl⟩:=slice_two hsl
   have hgN:g<w.heap.size:=hg
   have hcl2:=hcl.old (hBw.block g hgN)
   have HTK:=hQz (ownL_step (fd:=fd) hx)
   have HBI:=hQz hbi
   have e0:w1.cell? ⟨g,go+k*4,none⟩=some (.int .i64 x.num):=by have:=hcl2 0 _ rfl;simpa using this
   have e1:w1.cell? ⟨g,go+k*4+1,none⟩=some (.int .i64 x.ty):=by have:=hcl2 1 _ rfl;simpa using this
   have e2:w1.cell? ⟨g,go+k*4+2,none⟩=some (.int .u64 x.n):=by have:=hcl2 2 _ rfl;simpa using this
   have e3:w1.cell? ⟨g,go+k*4+3,none⟩=some (.slice da x.d.length dc):=by have:=hcl2 3 _ rfl;simpa using this
   have hk0:(0:Int)≤(k:Int):=by omega
   have hk1:(k:Int)<(n:Int):=by omega
   have hwk:=wQz k (by omega)
   obtain⟨X,hX,hXC,hXb,hXs⟩:=box_new w1 #[.int .i64 x.num,.int .i64 x.ty,.int .u64 x.n,.slice da x.d.length dc] 123
   have HX:=hQz hX
   have hVX:=hbel.trans (hXb.mono hws)
   have HVX:=hQz hVX
   have hdX:=(hXb.block _ (by omega)).trans hdA
   have q0:=cell_at hdX 0 rfl
   have p0:=cell_at hXC 0 rfl
   have p1:=cell_at hXC 1 rfl
   have p2:=cell_at hXC 2 rfl
   have p3:=cell_at hXC 3 rfl
   have HGX:Hid (Gr (WRo w) X V.heap.size 123 4 (.slice oa m oc) (ownL fd (l.take k)) rs):=HGR.out.keep (mvsO w) (fun b _ hb=>hXb.block b hb) hXb.size
   have hXl:w1.heap.size+1=X.heap.size:=by omega
   clear hsl hg hcl hbi hcl2 hx hX hXC hXb hXs hBw hVX hdX hdA hbel
   go_upto_region 5 with fail
   rw[HX.out]
   clear e0 e1 e2 e3
   by_cases hnum:x.num=fd.num
   ·have d1:(x.num == fd.num)=true:=by simp[hnum]
    have HNUM:=hQz hnum
    clear hnum
    obtain⟨A,hA,hAC,hAb,hAs⟩:=box_new X #[.int .i64 x.num,.int .i64 x.ty,.int .u64 x.n,.slice da x.d.length dc] 123
    have HA:=hQz hA
    have HGA:Hid (Gr (WRo w) A V.heap.size 123 4 (.slice oa m oc) (ownL fd (l.take k)) rs):=HGX.out.keep (mvsO w) (fun b _ hb=>hAb.block b hb) hAb.size
    have HOW:Hid (A.ownsRow V.heap.size 123 4 (.slice oa m oc) m (rs.flatMap id)):=by
     refine(?_:World.ownsRow _ _ _ _ _ _ _)
     have:=HGA.out.own
     rw[HM.out]at this
     exact this
    have HAC:=hQz hAC
    have HBA:=hQz (HVX.out.trans (hAb.mono HVX.out.size))
    have hAl:V.heap.size≤A.heap.size:=by omega
    clear hA hAC hAb hAs
    go_wp2_with (at_builtin;rw[HA.out];refine row_pushL (T:=123) (t:=83) Tryz.underlying83 infoWF rfl (by decide) HOW.out hAl [.int .i64 x.num,.int .i64 x.ty,.int .u64 x.n,.slice da x.d.length dc] rfl (by simp[Value.oneCell']) X.heap.size HAC.out rfl _ _ rfl rfl rfl (by unfold maxLen;omega) (by omega) ?_;intro g6 cap6 W6 hown6 hgr6 hat6 hlt6)
    have HG6:Hid (Gr (WRo w) W6 V.heap.size 123 4 (.slice (some ⟨g6,0,none⟩) (m+1) cap6) (ownL fd (l.take (k+1))) (rs++[[.int .i64 x.num,.int .i64 x.ty,.int .u64 x.n,.slice da x.d.length dc]])):=by
     refine(?_:Gr _ _ _ _ _ _ _ _)
     rw[HTK.out,if_pos (decide_eq_true HNUM.out)]
     exact HGA.out.push (mvsO w) (x:=x) (r:=[.int .i64 x.num,.int .i64 x.ty,.int .u64 x.n,.slice da x.d.length dc]) rfl ⟨da,dc,rfl,HBI.out⟩ HM.out hown6 hgr6 hat6
    have HB6:Hid (Below V.heap.size V W6):=HBA.out.grown hgr6 (by omega) (fun b hb=>(HFB.out b hb).1)
    clear hown6 hgr6 hat6 hlt6 p0 p1 p2 p3 q0
    go_wp2_with fail
    go_roundw
    case rel=>exact⟨k+1,_,_,rfl,by go_num,by omega,HB6.out,HG6.out⟩
    case measure=>simp[intOf];omega
   ·have d1:(x.num == fd.num)=false:=by simp[hnum]
    have HG6:Hid (Gr (WRo w) X V.heap.size 123 4 (.slice oa m oc) (ownL fd (l.take (k+1))) rs):=by
     refine(?_:Gr _ _ _ _ _ _ _ _)
     rw[HTK.out,if_neg (by simp[hnum]),List.append_nil]
     exact HGX.out
    go_wp2_with fail
    go_roundw
    case rel=>exact⟨k+1,_,_,rfl,by go_num,by omega,HVX.out,HG6.out⟩
    case measure=>simp[intOf];omega
  ·have hkn':¬(k:Int)<(n:Int):=by omega
   have hte:l.take k=l:=List.take_of_length_le (by have:=HN.out;omega)
   rw[hte]at HGR HM
   have hWo:=HGR.out.olds hBw
   rw[show (Value.slice oa m oc)=.slice oa m oc from rfl]at hWo
   have HWO:=hQz hWo
   have q2:=cell_at hdA 2 rfl
   have q3:=cell_at hdA 3 rfl
   by_cases hsm:fd.rep=true∨m<2
   ·have HRD:Hid (toRead fd l=ownL fd l):=by
     refine(?_:_=_)
     unfold toRead;rw[HM.out,if_pos hsm]
    clear hte hWo hdA hBw hbel
    cases hrep:fd.rep with
    | true=>
     rw[hrep]at q3
     clear hrep hsm
     go_wp2_with fail
     go_ret
     rw[HRD.out]
     exact⟨oa,oc,by rw[HM.out];rfl,by rw[HM.out];exact HWO.out,HBW.out⟩
    | false=>
     rw[hrep]at q3 hsm
     have hm2:m<2:=hsm.resolve_left (fun h=>by cases h)
     have hm3:(m:Int)<2:=by omega
     clear hrep hsm
     go_wp2_with fail
     go_ret
     rw[HRD.out]
     exact⟨oa,oc,by rw[HM.out];rfl,by rw[HM.out];exact HWO.out,HBW.out⟩
   ·have hrep:fd.rep=false:=by
     cases h:fd.rep
     ·rfl
     ·exact absurd (.inl h) hsm
    have hm2:2≤m:=by
     rcases Nat.lt_or_ge m 2 with h | h
     ·exact absurd (.inr h) hsm
     ·exact h
    have hm3:¬(m:Int)<2:=by omega
    rw[hrep]at q3
    obtain⟨x,hx⟩:∃ x,(ownL fd l)[m - 1]? = some x:=⟨_,List.getElem?_eq_getElem (by have:=HM.out;omega)⟩
    have HRD:Hid (toRead fd l=[⟨x.num,x.ty,x.n,if fd.kind=10 then (ownL fd l).flatMap WF.d else x.d⟩]):=by
     refine(?_:_=_)
     unfold toRead
     have e:(ownL fd l).getLast? = some x:=by rw[List.getLast?_eq_getElem?,HM.out];exact hx
     rw[HM.out,if_neg (by rw[hrep];simp;omega),e]
    obtain⟨g,go,gc,hsl,hg,da,dc,hcl,hbi⟩:=SlIn.at hWo hx
    rw[HM.out]at hsl
    obtain⟨rfl,rfl⟩:=slice_two hsl
    have e0:w1.cell? ⟨g,go+(m - 1)*4,none⟩=some (.int .i64 x.num):=by have:=hcl 0 _ rfl;simpa using this
    have e1:w1.cell? ⟨g,go+(m - 1)*4+1,none⟩=some (.int .i64 x.ty):=by have:=hcl 1 _ rfl;simpa using this
    have e2:w1.cell? ⟨g,go+(m - 1)*4+2,none⟩=some (.int .u64 x.n):=by have:=hcl 2 _ rfl;simpa using this
    have e3:w1.cell? ⟨g,go+(m - 1)*4+3,none⟩=some (.slice da x.d.length dc):=by have:=hcl 3 _ rfl;simpa using this
    have hwm:IntKind.i64.wrap ((m:Int) - 1)=((m - 1:Nat):Int):=by rw[IntKind.wrap_i64];omega
    have hm4:(0:Int)≤((m - 1:Nat):Int):=by omega
    have hm5:((m - 1:Nat):Int)<(m:Int):=by omega
    obtain⟨X,hX,hXC,hXb,hXs⟩:=box_new w1 #[.int .i64 x.num,.int .i64 x.ty,.int .u64 x.n,.slice da x.d.length dc] 123
    have HX:=hQz hX
    have HXC:=hQz hXC
    have HXB:=hQz hXb
    have HBX:=hQz (hBw.trans (hXb.mono hBw.size))
    have r2:X.cell? ⟨w.heap.size,2,none⟩=some (.int .i64 fd.kind):=(hXb.cell (by simp;omega)).trans q2
    have HDI:Hid (BIn X (fun b=>b<X.heap.size) da dc x.d):=hbi.mv (fun b hb=>hXb.block b hb) (fun b hb=>by have hb':b<w1.heap.size:=hb;omega)
    have HWX:Hid (WfIn X (fun b=>b<X.heap.size) (.slice (some ⟨g,go,none⟩) m oc) (ownL fd l)):=by
     refine(?_:WfIn _ _ _ _)
     exact SlIn.imp hWo (fun b hb=>by have hb':b<w1.heap.size:=hb;omega) (fun y g o hg hy=>by
     obtain⟨a,c,h1,h2⟩:=hy
     exact⟨a,c,h1.old (hXb.block g hg),h2.mv (fun b hb=>hXb.block b hb) (fun b hb=>by have hb':b<w1.heap.size:=hb;omega)⟩)
    have hXl:w1.heap.size+1=X.heap.size:=by omega
    have HOKL:Hid (∀ x∈ownL fd l,x.d.length≤100000):=fun x hx=>HOK.out x (List.mem_filter.1 hx).1
    clear hte hWo hdA hBw hbel hx hsl hg hcl hbi hsm hX hXC hXb hXs
    go_upto_region 11 with fail
    rw[HX.out]
    clear e0 e1 e2 e3 q2 q3
    by_cases h10:fd.kind=10
    ·rw[if_pos h10]at HRD
     rw[h10]at r2
     clear h10 hrep
     have hj:=joined_any (some ⟨g,go,none⟩) m oc (ownL fd l) X HM.out (by omega) HWX.out HOKL.out
     go_wp2_with fail
     refine hj.mono ?_
     rintro e W ⟨ja,jc,rfl,hjb,hWb⟩
     have hWs:=hWb.size
     have hWC:=(hWb.block w1.heap.size (by omega)).trans HXC.out
     have c3:=cell_at hWC 3 rfl
     have f3:W.frozen? ⟨w1.heap.size,3,none⟩=false:=frz_at hWC 3
     obtain⟨J,hJ⟩:∃ J,(ownL fd l).flatMap WF.d=J:=⟨_,rfl⟩
     rw[hJ]at hjb HRD ⊢
     obtain⟨Q,hQ⟩:∃ Q,W.setCell ⟨w1.heap.size,3,none⟩ (.slice ja J.length jc)=Q:=⟨_,rfl⟩
     have hQC:Q.heap[w1.heap.size]? = some (.cells #[.int .i64 x.num,.int .i64 x.ty,.int .u64 x.n,.slice ja J.length jc] 123 (0,0)):=by rw[←hQ];exact setCell_heap hWC _
     have hQo:∀ b,b≠w1.heap.size→Q.heap[b]? = W.heap[b]?:=fun b hb=>by rw[←hQ];exact Below.heap_setCell _ _ _ _ hb
     have hQs:Q.heap.size=W.heap.size:=by rw[←hQ];simp
     have hQb:Below w1.heap.size W Q:=by rw[←hQ];exact(Below.refl _ _).setCell (p:=⟨w1.heap.size,3,none⟩) (Nat.le_refl _) _
     have HQ:=hQz hQ
     have hBQ:Below w1.heap.size w1 Q:=HXB.out.trans ((hWb.mono (by omega)).trans hQb)
     have t0:=cell_at hQC 0 rfl
     have t1:=cell_at hQC 1 rfl
     have t2:=cell_at hQC 2 rfl
     have t3:=cell_at hQC 3 rfl
     obtain⟨A,hA,hAC,hAb,hAs⟩:=box_new Q #[.int .i64 x.num,.int .i64 x.ty,.int .u64 x.n,.slice ja J.length jc] 123
     have HA:=hQz hA
     have HRES:Hid (RdAns [⟨x.num,x.ty,x.n,J⟩] w (.returned (.slice (some ⟨W.heap.size,0,none⟩) 1 1)) A):=by
      rw[←hQs]
      have hBA:Below w.heap.size w A:=HBW.out.trans ((hBQ.trans (hAb.mono hBQ.size)).mono HBW.out.size)
      refine⟨_,_,rfl,wfIn_one (x:=⟨x.num,x.ty,x.n,J⟩) hAC (by omega) (hjb.mv (fun b hb=>(hAb.block b (by rw[hQs];exact hb.2)).trans (hQo b (by have:=hb.1;omega))) (fun b hb=>by have:=hb.2;show b<A.heap.size;omega)),hBA⟩
     clear hjb hWb hWC hJ hQ hQC hQo hQb hBQ hA hAC hAb hj r2
     go_upto_region 13 with fail
     rw[HQ.out]
     clear c3 f3
     go_wp2_with fail
     rw[HA.out]
     try go_wp2_with fail
     go_ret
     rw[HRD.out]
     exact HRES.out
    ·rw[if_neg h10]at HRD
     have d10:(fd.kind == 10)=false:=by simp[h10]
     clear hrep
     have t0:=cell_at HXC.out 0 rfl
     have t1:=cell_at HXC.out 1 rfl
     have t2:=cell_at HXC.out 2 rfl
     have t3:=cell_at HXC.out 3 rfl
     obtain⟨A,hA,hAC,hAb,hAs⟩:=box_new X #[.int .i64 x.num,.int .i64 x.ty,.int .u64 x.n,.slice da x.d.length dc] 123
     have HA:=hQz hA
     have HRES:Hid (RdAns [⟨x.num,x.ty,x.n,x.d⟩] w (.returned (.slice (some ⟨X.heap.size,0,none⟩) 1 1)) A):=by
      refine⟨_,_,rfl,wfIn_one (x:=⟨x.num,x.ty,x.n,x.d⟩) hAC (by omega) (HDI.out.mv (fun b hb=>hAb.block b hb) (fun b hb=>by have hb':b<X.heap.size:=hb;show b<A.heap.size;omega)),HBX.out.trans (hAb.mono HBX.out.size)⟩
     clear hA hAC hAb hAs
     go_wp2_with fail
     rw[HA.out]
     try go_wp2_with fail
     go_ret
     rw[HRD.out]
     exact HRES.out
end Go.Proofs.YteajlfgbmefncaaGreatDoor
