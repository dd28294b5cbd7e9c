/-
  Walks and plain words (EnQ).
-/
import Derived.Test.YteajlfgbmefncaaGreatDoorN22
import Derived.Lib.AppendStr
namespace Go.Proofs.YteajlfgbmefncaaGreatDoor
set_option linter.unusedVariables false
open Go.ChangeShapes Go.WideShapes Go.ChangeAt Go.RowKit

theorem flat_take {α β:Type} (g:α→List β) (l:List α) (k:Nat):((l.take k).flatMap g).length≤(l.flatMap g).length:=by
 have h:l.flatMap g=(l.take k).flatMap g++(l.drop k).flatMap g:=by rw[←List.flatMap_append,List.take_append_drop]
 rw[h,List.length_append]
 omega
theorem flat_snocB {α β:Type} (g:α→List β) {l:List α} {k:Nat} {y:α} (h:l[k]? = some y):(l.take (k+1)).flatMap g=(l.take k).flatMap g++g y:=by
 rw[show l.take (k+1)=l.take k++[y] from take_snoc h,List.flatMap_append]
 simp
theorem fbytes_ok (num ty n:Int) {d:List Int} (hd:∀ z∈d,0≤z∧z≤255):∀ z∈fbytes num ty n d,0≤z∧z≤255:=by
 intro z hz
 unfold fbytes at hz
 rcases List.mem_append.1 hz with hz | hz
 ·exact vint_bytes _ z hz
 ·split at hz
  ·exact vint_bytes _ z hz
  ·split at hz
   ·exact lob_bytes _ _ z hz
   ·split at hz
    ·exact lob_bytes _ _ z hz
    ·rcases List.mem_append.1 hz with hz | hz
     ·exact vint_bytes _ z hz
     ·exact hd z hz
theorem fbytes_d (num n:Int) (d:List Int):d.length≤(fbytes num 2 n d).length:=by
 unfold fbytes
 simp
 omega
theorem wire_ok {rec:Nd→List Int} {fd:FD} {vs:List Nd} (hr:∀ y∈vs,∀ z∈rec y,0≤z∧z≤255):∀ x∈wireL rec fd vs,∀ z∈x.d,0≤z∧z≤255:=by
 intro x hx
 unfold wireL at hx
 split at hx
 ·have e:x=⟨fd.num,2,0,packL fd.kind vs⟩:=by simpa using hx
  subst e
  exact pack_ok _ _
 ·obtain⟨y,hy,rfl⟩:=List.mem_map.1 hx
  unfold singW
  split
  ·intro z hz;cases hz
  ·exact hr y hy
theorem msgB_ok (ms:List MD):∀ (f:Nat) (x:Nd),∀ z∈msgB ms f x,0≤z∧z≤255
 | 0,x=>ints_ok _
 | f+1,x=>by
  intro z hz
  unfold msgB at hz
  rcases List.mem_append.1 hz with hz | hz
  ·obtain⟨p,hp,hz⟩:=List.mem_flatMap.1 hz
   unfold fldB at hz
   split at hz
   ·cases hz
   ·obtain⟨q,hq,hz⟩:=List.mem_flatMap.1 hz
    refine fbytes_ok _ _ _ (wire_ok (fun y hy=>?_) q hq) z hz
    unfold contB
    split
    ·exact ints_ok _
    ·split
     ·exact msgB_ok ms f y
     ·intro z hz;cases hz
  ·exact ints_ok _ z hz
theorem wire_fmd {rec:Nd→List Int} {fd:FD} {vs:List Nd} (h1:1≤fd.num) (h2:fd.num≤536870911) (hy:∀ y∈vs,Rg1 y) (h7:∀ y∈vs,fd.kind=7→numP 7 y<4294967296) :
  ∀ x∈wireL rec fd vs,fmd x.num x.ty x.n x.d.length=true∧0≤x.n∧x.n≤18446744073709551615∧x.d.length≤x.bytes.length:=by
 intro x hx
 unfold wireL at hx
 split at hx
 ·have e:x=⟨fd.num,2,0,packL fd.kind vs⟩:=by simpa using hx
  subst e
  refine⟨?_,by simp,by simp,fbytes_d _ _ _⟩
  unfold fmd
  exact decide_eq_true ⟨h1,h2,.inr (.inr ⟨rfl,rfl⟩)⟩
 ·obtain⟨y,hm,rfl⟩:=List.mem_map.1 hx
  unfold singW
  split
  ·have hn:=num_rg fd.kind (hy y hm)
   refine⟨?_,hn.1,hn.2,Nat.zero_le _⟩
   unfold fmd
   refine decide_eq_true ⟨h1,h2,?_⟩
   dsimp only
   by_cases h7':fd.kind=7
   ·rw[if_pos h7']
    exact .inr (.inl ⟨rfl,rfl,by rw[h7'];exact h7 y hm h7'⟩)
   ·rw[if_neg h7']
    by_cases h8:fd.kind=8
    ·rw[if_pos h8];exact .inl ⟨.inr rfl,rfl⟩
    ·rw[if_neg h8];exact .inl ⟨.inl rfl,rfl⟩
  ·refine⟨?_,by simp,by simp,fbytes_d _ _ _⟩
   unfold fmd
   exact decide_eq_true ⟨h1,h2,.inr (.inr ⟨rfl,rfl⟩)⟩
theorem wire_count (rec:Nd→List Int) (fd:FD) (vs:List Nd):(wireL rec fd vs).length≤vs.length+1:=by
 unfold wireL
 split
 ·simp
 ·rw[List.length_map];omega
theorem wpB_at {w:World} {ops:Array Oper} {rest:List Oper} {o:Oper} {a:Act} {Q:Exit→Act→World→Prop} (hgd:o.guard=none) (s x:Operand)
  (ho:o.op=.call { callee:=.builtin .append,args:=#[s,x],argTypes:=#[27,27] })
  (base:Nat) (v:Value) (xs:List Int) (hs:a.eval s=v) (hown:OwnB w base v xs)
  (ao:Option Addr) (m c:Nat) (zs:List Int) (hx:a.eval x=.slice ao m c) (hB:IsB w ao m zs) (hno:ao=none→m=0∧c=0)
  (hbd:xs.length+m≤140737488355328) (hbase:base≤w.heap.size)
  (h:∀ v' w',OwnB w' base v' (xs++zs)→w.grownBy w' v.ownBlock→(v'.ownBlock=v.ownBlock∨v'.ownBlock=some w.heap.size)→wpList Tryz.prog ops Q rest (a.put o.dst v') w'):wpList Tryz.prog ops Q (o :: rest) a w:=by
 obtain⟨i0,hi,hz0,hz1,hz2⟩:=info_parts info5B
 cases ao with
 | none=>
  obtain⟨rfl,rfl⟩:=hno rfl
  have hz:zs=[]:=List.eq_nil_of_length_eq_zero hB.1
  subst hz
  refine wpList_append_own_none hgd s x 27 ho base 5 i0 1 Tryz.underlying27 hi v _ _ hs hown hx (h v w (by simpa using hown) (World.grownBy.refl _ _) (.inl rfl))
 | some ad=>
  refine wpList_append_own_at w hgd s x 27 ho base 5 i0 (.int .u8 0) 1 1 Tryz.underlying27 hi hz0 hz1 hz2 rfl (by decide) v _ _ hs hown ad m c (zs.map (Value.int .u8)) hx (by simp[hB.1]) (isB_cells hB)
   (by intro u hu;simp at hu;obtain⟨z,_,rfl⟩:=hu;rfl) (by unfold maxLen;omega) (by omega) hbase ?_
  intro v' w' h1 h2 _ h4
  refine h v' w' ?_ h2 h4
  unfold OwnB
  rw[List.length_append,hB.1,List.map_append]
  exact h1
theorem str_ints (l:List UInt8):Lib.strCells (mkB l)=(ints l).map (Value.int .u8):=by
 unfold Lib.strCells ints mkB
 simp
theorem wpB_str {w:World} {ops:Array Oper} {rest:List Oper} {o:Oper} {a:Act} {Q:Exit→Act→World→Prop} (hgd:o.guard=none) (s x:Operand)
  (ho:o.op=.call { callee:=.builtin .append,args:=#[s,x],argTypes:=#[27,9] })
  (base:Nat) (v:Value) (xs:List Int) (hs:a.eval s=v) (hown:OwnB w base v xs) (l:List UInt8) (hx:a.eval x=.string (mkB l))
  (hbd:xs.length+l.length≤140737488355328) (hbase:base≤w.heap.size)
  (h:∀ v' w',OwnB w' base v' (xs++ints l)→w.grownBy w' v.ownBlock→wpList Tryz.prog ops Q rest (a.put o.dst v') w'):wpList Tryz.prog ops Q (o :: rest) a w:=by
 obtain⟨i0,hi,hz0,hz1,hz2⟩:=info_parts info5B
 refine Lib.wpList_append_own_string w hgd s x 27 9 ho base 5 i0 Tryz.underlying27 Tryz.underlying9 hi hz0 hz1 hz2 v _ _ hs hown (mkB l) hx (by rw[mkB_size];unfold maxLen;omega) (by rw[mkB_size];omega) hbase ?_
 intro v' w' h1 h2 _
 refine h v' w' ?_ h2
 unfold OwnB
 rw[List.length_append,ints_len,List.map_append,←str_ints,←mkB_size l]
 exact h1
set_option maxHeartbeats 64000000 in
set_option maxRecDepth 20000 in
theorem msgB_any (ma ea ta:Option Addr) (nm ne nt mc ec tc:Nat) (ms:List MD) (hnm:ms.length=nm) (hml:∀ m∈ms,m.fields.length≤100000):∀ (f:Nat) (x:Nd) (fs:Value) (w:World),EncG ms f x→RngG f x→FitG 100000 10000 f x→bndN f x≤1000000000→HeldM w (fun b=>b<w.heap.size) (.slice ma nm mc) ms→HeldG valS w (fun b=>b<w.heap.size) f fs x.fields→
  Calls Tryz.prog 71 #[.agg #[.slice ma nm mc,.slice ea ne ec,.slice ta nt tc],.agg #[.int .i64 x.type,fs,.string (mkB x.s)]] w fun e w'=>BAns (msgB ms f x) w e w':=by
 intro f
 induction f using Nat.strongRecOn with
 | _ f ih=>
 intro x fs w henc hrng hfit hbnd hHM hHG
 obtain⟨xa,xc,rfl⟩:=HeldG.isSl hHG
 obtain⟨R,hR⟩:∃ R,msgB ms f x=R:=⟨_,rfl⟩
 have hRL:=msg_len f x henc hrng (by omega)
 have HROK:=hQz (msgB_ok ms f x)
 rw[hR]at hRL HROK ⊢
 obtain⟨xkind,xn,xu,xb,xs,xt,fl⟩:=x
 dsimp only at hHG ⊢
 obtain⟨n,hn⟩:∃ n,fl.length=n:=⟨_,rfl⟩
 have HN:=hQz hn
 rw[hn]at hHG ⊢
 have ht:=henc.one
 dsimp only at ht
 obtain⟨q,hq⟩:∃ q:Nat,xt=(q:Int):=⟨xt.toNat,by omega⟩
 subst hq
 have hqn:q<ms.length:=by omega
 obtain⟨md,hmd⟩:∃ md,ms[q]? = some md:=⟨_,List.getElem?_eq_getElem hqn⟩
 have HFO:Hid (fieldsOf ms (q:Int)=md.fields):=by
  refine(?_:_=_)
  unfold fieldsOf
  rw[Int.toNat_natCast,hmd]
 have HML:Hid (md.fields.length≤100000):=hml md (List.mem_of_getElem? hmd)
 obtain⟨fb,hfb⟩:∃ g,fldB (contB (msgB ms (f - 1))) md.fields=g:=⟨_,rfl⟩
 have HFB:=hQz hfb
 have HRE:Hid (fl.flatMap fb++ints xs=R):=by
  refine(?_:_=_)
  rw[←hR]
  cases f with
  | zero=>
   have h0:fl=[]:=hHG.1
   rw[h0];rfl
  | succ f=>
   unfold msgB
   rw[HFO.out,←hfb]
   rfl
 have HRL:Hid (R.length≤1000000000):=Nat.le_trans hRL hbnd
 have hxs:xs.length≤100000:=hfit.s
 have HHG:=hQz hHG
 have HFIT:=hQz hfit
 have HENC:=hQz henc
 have HRNG:=hQz hrng
 have HBND:=hQz hbnd
 have HIH:=hQz ih
 have HHM:=hQz hHM
 obtain⟨g,oo,c0,ka,kc,hsl,hg,e0,e1,hrow⟩:=HeldN.at hHM (W:=w) (fun b hb=>rfl) hmd
 rw[hnm]at hsl
 obtain⟨rfl,rfl⟩:=slice_two hsl
 obtain⟨mname,mfs⟩:=md
 dsimp only at hrow e0 e1 HML HFB HFO hfb
 obtain⟨nf,hnf⟩:∃ n,mfs.length=n:=⟨_,rfl⟩
 have HNF:=hQz hnf
 rw[hnf]at hrow e1 HML
 have HROW:=hQz hrow
 have hgN:g<w.heap.size:=hg
 have hq0:(0:Int)≤(q:Int):=by omega
 have hq1:(q:Int)<(nm:Int):=by omega
 obtain⟨Y,hY,hC,hb,hYs⟩:=box_new w #[.slice (some ⟨g,oo,none⟩) nm mc,.slice ea ne ec,.slice ta nt tc] 26
 obtain⟨V,hV',hD,hVb,hVs⟩:=box_new Y #[.int .i64 (q:Int),.slice xa n xc,.string (mkB xs)] 76
 have HY:=hQz hY
 have HV:=hQz hV'
 rw[hYs]at hD
 have hC2:=(hVb.block _ (by omega)).trans hC
 have hBV:=hb.trans (hVb.mono hb.size)
 have HBV:=hQz hBV
 have hVl:w.heap.size+2=V.heap.size:=by omega
 have s0:∀ W,Below V.heap.size V W→W.cell? ⟨w.heap.size,0,none⟩=some (.slice (some ⟨g,oo,none⟩) nm mc):=fun W hW=>(hW.cell (by simp;omega)).trans (cell_at hC2 0 rfl)
 have s1:∀ W,Below V.heap.size V W→W.cell? ⟨w.heap.size,1,none⟩=some (.slice ea ne ec):=fun W hW=>(hW.cell (by simp;omega)).trans (cell_at hC2 1 rfl)
 have s2:∀ W,Below V.heap.size V W→W.cell? ⟨w.heap.size,2,none⟩=some (.slice ta nt tc):=fun W hW=>(hW.cell (by simp;omega)).trans (cell_at hC2 2 rfl)
 have m0:∀ W,Below V.heap.size V W→W.cell? ⟨w.heap.size+1,0,none⟩=some (.int .i64 (q:Int)):=fun W hW=>(hW.cell (by simp;omega)).trans (cell_at hD 0 rfl)
 have m2:∀ W,Below V.heap.size V W→W.cell? ⟨w.heap.size+1,2,none⟩=some (.string (mkB xs)):=fun W hW=>(hW.cell (by simp;omega)).trans (cell_at hD 2 rfl)
 have d0:∀ W,Below V.heap.size V W→W.cell? ⟨g,oo+q*2,none⟩=some (.string (mkB mname)):=fun W hW=>(hW.cell (by simp;omega)).trans ((hBV.cell (by simpa using hgN)).trans e0)
 have d1:∀ W,Below V.heap.size V W→W.cell? ⟨g,oo+q*2+1,none⟩=some (.slice ka nf kc):=fun W hW=>(hW.cell (by simp;omega)).trans ((hBV.cell (by simpa using hgN)).trans e1)
 have v1:=cell_at hD 1 rfl
 clear hn hHG hfit ih hC hb hYs hY hmd hqn hHM hR hRL hfb hnf hrow hsl hg e0 e1 henc hrng hbnd ht hV' hVb hVs hC2 hD hBV
 go_enter Tryz.func71,Tryz.ntmps71
 go_upto_region 1 with fail
 rw[HY.out,HV.out]
 go_wp2_with fail
 clear v1
 go_loopw [5,15] (fun ov i wr=>∃ (j:Nat) (o':Value),o'=ov∧i=.int .i64 (j:Int)∧j≤n∧Below V.heap.size V wr∧OwnB wr V.heap.size o' ((fl.take j).flatMap fb)) (fun _ i _=>n - (intOf i).toNat)
 case atStart=>exact⟨0,_,rfl,rfl,Nat.zero_le _,Below.refl _ _,own_nil _ _⟩
 case round=>
  generalize wr=w1 at *
  obtain⟨j,o',rfl,rfl,hj,hbel,hown⟩:=hrel
  have HBE:=hQz hbel
  have HOW:=hQz hown
  have hBw:=HBV.out.trans (hbel.mono HBV.out.size)
  have HBW:=hQz hBw
  have hws:=hbel.size
  have HOB:Hid (∀ b,o'.ownBlock=some b→b<w1.heap.size):=by
   refine(?_:∀ b,_→_)
   intro b hb
   obtain⟨_,⟨rfl,_⟩ | ⟨g',cap,cur,rfl,hg',hh,_⟩⟩:=hown
   ·simp[Value.ownBlock]at hb
   ·have e:g'=b:=by simpa [Value.ownBlock]using hb
    subst e
    exact(Array.getElem?_eq_some_iff.1 hh).1
  clear hown
  by_cases hjn:j<n
  ·obtain⟨y,hy⟩:∃ y,fl[j]? = some y:=⟨_,List.getElem?_eq_getElem (by have:=HN.out;omega)⟩
   obtain⟨f',g2,go,gc,va,vc,hf',hsl,hg2,e0,e1,hvals⟩:=HeldG.at HHG.out (W:=w1) (fun b hb=>hBw.block b hb) hy
   subst hf'
   rw[HN.out]at hsl
   obtain⟨rfl,rfl⟩:=slice_two hsl
   have hym:=List.mem_of_getElem? hy
   have HTK:=hQz (flat_snocB fb hy)
   have HLE:Hid (((fl.take j).flatMap fb).length+(fb y).length≤1000000000):=by
    refine(?_:(_:Nat)≤_)
    have h1:=flat_take fb fl (j+1)
    rw[HTK.out,List.length_append]at h1
    have h2:=HRL.out
    rw[←HRE.out,List.length_append]at h2
    omega
   obtain⟨hfl1,hfl2⟩:=HFIT.out.2.2 y hym
   obtain⟨fd,hfd,⟨hfn1,hfn2⟩,hgk⟩:=HENC.out.2 y hym
   have hn1:n≤10000:=by have h1:=HFIT.out.2.1;have h2:=HN.out;dsimp only at h1;omega
   have hrg:=HRNG.out.2 y hym
   have hby:bndN f'=bndN f':=rfl
   have HBY:Hid (∀ c∈y.2,bndN f' c≤1000000000):=by
    refine(?_:∀ c∈y.2,_)
    intro c hc
    have h1:bndN f' c+30≤sumL (fun y=>bndN f' y+30) y.2:=sumL_mem (g:=fun y=>bndN f' y+30) hc
    have h2:30+sumL (fun y=>bndN f' y+30) y.2≤sumL (fun p:Int × List Nd=>30+sumL (fun y=>bndN f' y+30) p.2) fl:=sumL_mem (g:=fun p:Int × List Nd=>30+sumL (fun y=>bndN f' y+30) p.2) hym
    have h3:=HBND.out
    unfold bndN at h3
    dsimp only at h3
    omega
   rw[HFO.out]at hfd
   obtain⟨ynum,ys⟩:=y
   dsimp only at hvals e0 e1 hfl1 hfl2 hfd hgk hrg HBY
   obtain⟨l,hl⟩:∃ l,wireL (contB (msgB ms f')) fd ys=l:=⟨_,rfl⟩
   have HFY:Hid (fb (ynum,ys)=l.flatMap WF.bytes):=by
    refine(?_:_=_)
    rw[←HFB.out,←hl]
    unfold fldB
    dsimp only
    rw[hfd]
    rfl
   rw[HFY.out]at HTK HLE
   have HWM:=hQz (wire_fmd (rec:=contB (msgB ms f')) (fd:=fd) (vs:=ys) hfn1 hfn2 (fun y hy=>(hrg y hy).one) (fun y hy=>(hgk y hy).1))
   rw[hl]at HWM
   have HLC:Hid (l.length≤20000):=by
    refine(?_:(_:Nat)≤_)
    have:=wire_count (contB (msgB ms f')) fd ys
    rw[hl]at this
    omega
   obtain⟨mv,hmv⟩:∃ n,ys.length=n:=⟨_,rfl⟩
   rw[hmv]at e1 hvals hfl1
   have HWF:Hid (∀ W,Below w.heap.size w W→Calls Tryz.prog 97 #[.agg #[.slice (some ⟨g,oo,none⟩) nm mc,.slice ea ne ec,.slice ta nt tc],.agg #[.int .i64 fd.num,.string (mkB fd.name),.int .i64 fd.kind,.bool fd.rep,.int .i64 fd.type],.slice va mv vc] W fun e w'=>WlAns l W e w'):=by
    refine(?_:∀ W,_→_)
    intro W hW
    rw[←hl]
    refine wireF_any (some ⟨g,oo,none⟩) ea ta nm ne nt mc ec tc fd va mv vc ys f' (contB (msgB ms f')) W hmv (by omega) (ValsG.mv (fun b hb=>hW.block b hb) (fun b hb=>by have hb':b<w.heap.size:=hb;have:=hW.size;omega) hvals) (fun y hy=>(hrg y hy).one) (fun c cfs W2 hc hW2 hcg=>?_)
    have hW3:=hW.trans (hW2.mono hW.size)
    refine single_any _ _ _ _ _ _ _ _ _ fd c cfs (contB (msgB ms f')) W2 (hrg c hc).one (fun _ W4 hW4=>?_)
    have hW5:=hW3.trans (hW4.mono hW3.size)
    have hcf:=hfl2 c hc
    exact contents_any _ _ _ _ _ _ _ _ _ c cfs (msgB ms f' c) W4 hcf.s (fun h7=>by obtain⟨a,cc,h⟩:=HeldG.isSl (hcg h7);exact⟨a,_,cc,h⟩) (fun h7 W6 hW6=>by
     have hW7:=hW5.trans (hW6.mono hW5.size)
     have hW8:=hW4.trans (hW6.mono hW4.size)
     exact HIH.out f' (by omega) c cfs W6 ((hgk c hc).2 h7) (hrg c hc) hcf (HBY.out c hc) ((HeldN.old HHM.out fun b hb=>hW7.block b hb).more fun b hb=>by have hb':b<w.heap.size:=hb;have:=hW7.size;omega) (HeldG.mv (fun b hb=>hW8.block b hb) (fun b hb=>by have hb':b<W2.heap.size:=hb;have:=hW8.size;omega) (hcg h7)))
   have HDF:Hid (∀ W,Below w.heap.size w W→Calls Tryz.prog 98 #[.agg #[.string (mkB mname),.slice ka nf kc],.int .i64 ynum] W fun e w'=>e=.returned (.agg #[.int .i64 fd.num,.string (mkB fd.name),.int .i64 fd.kind,.bool fd.rep,.int .i64 fd.type])∧Below W.heap.size W w'):=by
    refine(?_:∀ W,_→_)
    intro W hW
    exact defn_any mname ka nf kc mfs ynum fd W HNF.out HML.out ((RowsIn.old HROW.out fun b hb=>hW.block b hb).more fun b hb=>by have hb':b<w.heap.size:=hb;have:=hW.size;omega) hfd
   have hj0:(0:Int)≤(j:Int):=by omega
   have hj1:(j:Int)<(n:Int):=by omega
   have hwq:=wQz j (by omega)
   have hg2N:g2<w.heap.size:=hg2
   clear hsl hy hym hvals hmv hfl2 hfl1 hg2 hfd hgk hrg hby HFY hl HIH
   have hC:(w1.alloc (.cells #[.int .i64 ynum,.slice va mv vc] 79)).heap[w1.heap.size]? = some (.cells #[.int .i64 ynum,.slice va mv vc] 79 (0,0)):=alloc_heap_new _ _
   have hCb:Below w1.heap.size w1 (w1.alloc (.cells #[.int .i64 ynum,.slice va mv vc] 79)):=(Below.refl _ w1).alloc (Nat.le_refl _) _
   go_upto_region 5 with fail
   generalize (w1.alloc (.cells #[.int .i64 ynum,.slice va mv vc] 79))=X at *
   have hXs:w1.heap.size+1≤X.heap.size:=by have:=(Array.getElem?_eq_some_iff.1 hC).1;omega
   have HX1:=hQz hCb
   have hXV:Below V.heap.size V X:=hbel.trans (hCb.mono hws)
   have HWX:Hid (∀ W,Below X.heap.size X W→Below w.heap.size w W):=by
    refine(?_:∀ W,_→_)
    intro W hW
    exact HBV.out.trans ((hXV.trans (hW.mono hXV.size)).mono HBV.out.size)
   have HVX:Hid (∀ W,Below X.heap.size X W→Below V.heap.size V W):=fun W hW=>hXV.trans (hW.mono hXV.size)
   have x0:∀ W,Below X.heap.size X W→W.cell? ⟨w1.heap.size,0,none⟩=some (.int .i64 ynum):=fun W hW=>(hW.cell (by simp;omega)).trans (cell_at hC 0 rfl)
   have x1:∀ W,Below X.heap.size X W→W.cell? ⟨w1.heap.size,1,none⟩=some (.slice va mv vc):=fun W hW=>(hW.cell (by simp;omega)).trans (cell_at hC 1 rfl)
   have a0:∀ W,Below X.heap.size X W→W.cell? ⟨w.heap.size,0,none⟩=some (.slice (some ⟨g,oo,none⟩) nm mc):=fun W hW=>s0 W (HVX.out W hW)
   have a1:∀ W,Below X.heap.size X W→W.cell? ⟨w.heap.size,1,none⟩=some (.slice ea ne ec):=fun W hW=>s1 W (HVX.out W hW)
   have a2:∀ W,Below X.heap.size X W→W.cell? ⟨w.heap.size,2,none⟩=some (.slice ta nt tc):=fun W hW=>s2 W (HVX.out W hW)
   have b0:∀ W,Below X.heap.size X W→W.cell? ⟨w.heap.size+1,0,none⟩=some (.int .i64 (q:Int)):=fun W hW=>m0 W (HVX.out W hW)
   have f0:∀ W,Below X.heap.size X W→W.cell? ⟨g,oo+q*2,none⟩=some (.string (mkB mname)):=fun W hW=>d0 W (HVX.out W hW)
   have f1:∀ W,Below X.heap.size X W→W.cell? ⟨g,oo+q*2+1,none⟩=some (.slice ka nf kc):=fun W hW=>d1 W (HVX.out W hW)
   have hS0:Below X.heap.size X X.drew:=(Below.refl _ _).drew
   have HS9:=hQz s0
   have HS8:=hQz s1
   have HS7:=hQz s2
   clear hC hCb e0 e1 hXV hBw hbel s0 s1 s2 m0 d0 d1
   refine wp_region_held_drew (S:=fun W=>Below X.heap.size X W) (by kernel_rfl) hS0 (fun _=>?_)
   refine T_on 0 (.agg #[.slice (some ⟨g,oo,none⟩) nm mc,.slice ea ne ec,.slice ta nt tc]) rfl (by kernel_rfl) (fun _ _ _ h=>h) hS0 (fun W hW=>by have c0:=a0 W hW;have c1:=a1 W hW;have c2:=a2 W hW;go_simp) ?_
   refine T_on 1 (.pointer (some ⟨w.heap.size,0,none⟩)) rfl (by kernel_rfl) (fun _ _ _ h=>h) hS0 (fun W hW=>by go_simp) ?_
   refine T_on 2 (.slice (some ⟨g,oo,none⟩) nm mc) rfl (by kernel_rfl) (fun _ _ _ h=>h) hS0 (fun W hW=>by have c0:=a0 W hW;have c1:=a1 W hW;have c2:=a2 W hW;go_simp) ?_
   refine T_on 3 (.pointer (some ⟨w.heap.size+1,0,none⟩)) rfl (by kernel_rfl) (fun _ _ _ h=>h) hS0 (fun W hW=>by go_simp) ?_
   refine T_on 4 (.int .i64 (q:Int)) rfl (by kernel_rfl) (fun _ _ _ h=>h) hS0 (fun W hW=>by have c:=b0 W hW;go_simp) ?_
   refine T_on 5 (.pointer (some ⟨g,oo+q*2,none⟩)) rfl (by kernel_rfl) (fun _ _ _ h=>h) hS0 (fun W hW=>by go_simp) ?_
   refine T_on 6 (.agg #[.string (mkB mname),.slice ka nf kc]) rfl (by kernel_rfl) (fun _ _ _ h=>h) hS0 (fun W hW=>by have c:=f0 W hW;have c2:=f1 W hW;go_simp) ?_
   refine T_on 7 (.pointer (some ⟨w1.heap.size,0,none⟩)) rfl (by kernel_rfl) (fun _ _ _ h=>h) hS0 (fun W hW=>by go_simp) ?_
   refine T_on 8 (.int .i64 ynum) rfl (by kernel_rfl) (fun _ _ _ h=>h) hS0 (fun W hW=>by have c:=x0 W hW;go_simp) ?_
   refine T_on 10 (.pointer (some ⟨w1.heap.size,1,none⟩)) rfl (by kernel_rfl) (fun _ _ _ h=>h) hS0 (fun W hW=>by go_simp) ?_
   refine T_on 11 (.slice va mv vc) rfl (by kernel_rfl) (fun _ _ _ h=>h) hS0 (fun W hW=>by have c:=x1 W hW;go_simp) ?_
   refine T_on 14 (.int .i64 0) rfl (by kernel_rfl) (fun _ _ _ h=>h) hS0 (fun W hW=>by go_simp) ?_
   refine T_call 9 (by kernel_rfl) rfl (fun K hK=>?_)
   go_simp
   refine(HDF.out _ (HWX.out _ hS0)).mono ?_
   rintro e U1 ⟨rfl,hb1⟩
   have hS1:=hS0.trans (hb1.mono hS0.size)
   clear hS0 hb1
   have hS0:=hS1
   clear hS1
   dsimp only
   refine hK.out _ _ hS0 (fun _=>?_)
   clear hK K
   refine T_call 12 (by kernel_rfl) rfl (fun K hK=>?_)
   go_simp
   refine(HWF.out _ (HWX.out _ hS0)).mono ?_
   rintro e U2 ⟨la,lc,rfl,hwl,hb2⟩
   have hS1:=hS0.trans (hb2.mono hS0.size)
   have HWL:Hid (WfIn U2 (fun b=>X.heap.size≤b∧b<U2.heap.size) (.slice la l.length lc) l):=by
    refine(?_:WfIn _ _ _ _)
    exact SlIn.imp hwl (fun b hb=>⟨by have:=hb.1;have:=hS0.size;omega,hb.2⟩) (fun x g o hg hx=>by
     obtain⟨a,c,h1,h2⟩:=hx
     exact⟨a,c,h1,h2.mv (fun _ _=>rfl) (fun b hb=>⟨by have:=hb.1;have:=hS0.size;omega,hb.2⟩)⟩)
   clear hS0 hb2 hwl
   have hS0:=hS1
   clear hS1
   dsimp only
   refine hK.out _ _ hS0 (fun _=>?_)
   clear hK K
   refine T_on 13 (.int .i64 (l.length:Int)) rfl (by kernel_rfl) (fun _ _ _ h=>h) hS0 (fun W hW=>by go_simp) ?_
   refine wpAnyH_done (by kernel_rfl) ?_ _
   go_simp
   have HS2:=hQz hS0
   have hU2s:=hS0.size
   have HVU:Hid (Below V.heap.size V U2):=HVX.out _ hS0
   have HOU:Hid (OwnB U2 V.heap.size o' ((fl.take j).flatMap fb)):=own_old (own_old HOW.out HX1.out) HS2.out
   clear hS0 x0 x1 a0 a1 a2 b0 f0 f1 HWF HDF HOW
   go_wp2_with fail
   go_loopw [5,33] (fun ov i wr=>∃ (p:Nat) (o2:Value),o2=ov∧i=.int .i64 (p:Int)∧p≤l.length∧Below V.heap.size V wr∧U2.heap.size≤wr.heap.size∧(∀ b,w1.heap.size≤b→b<U2.heap.size→wr.heap[b]? = U2.heap[b]?)∧(∀ b,o2.ownBlock=some b→b<w1.heap.size∨U2.heap.size≤b)∧OwnB wr V.heap.size o2 ((fl.take j).flatMap fb++(l.take p).flatMap WF.bytes)) (fun _ i _=>l.length - (intOf i).toNat)
   case atStart=>exact⟨0,_,rfl,rfl,Nat.zero_le _,HVU.out,Nat.le_refl _,fun _ _ _=>rfl,fun b hb=>.inl (HOB.out b hb),by simpa using HOU.out⟩
   case round=>
    generalize wr=w2 at *
    obtain⟨p,o2,rfl,rfl,hp,hb2,hs2,hk2,hob,hown⟩:=hrel
    have HB2:=hQz hb2
    have HK2:=hQz hk2
    have HOB2:=hQz hob
    have HOW2:=hQz hown
    clear hk2 hob hown
    by_cases hpn:p<l.length
    ·obtain⟨x,hx⟩:∃ x,l[p]? = some x:=⟨_,List.getElem?_eq_getElem hpn⟩
     obtain⟨g3,o3,c3,hsl3,hg3,xa',xc',hcl,hbi⟩:=SlIn.at HWL.out hx
     obtain⟨rfl,rfl⟩:=slice_two hsl3
     obtain⟨hfm,hn0,hn1,hdl⟩:=HWM.out x (List.mem_of_getElem? hx)
     have HTP:=hQz (flat_snocB WF.bytes hx)
     have HL2:Hid (((fl.take j).flatMap fb++(l.take p).flatMap WF.bytes).length+x.bytes.length≤1000000000):=by
      refine(?_:(_:Nat)≤_)
      have h1:=flat_take WF.bytes l (p+1)
      rw[HTP.out,List.length_append]at h1
      have h2:=HLE.out
      rw[List.length_append]
      omega
     obtain⟨xnum,xty,xnn,xd⟩:=x
     dsimp only at hcl hbi hfm hn0 hn1 hdl
     have hcl2:=hcl.old (HK2.out g3 (by have:=hg3.1;omega) hg3.2)
     have y0:w2.cell? ⟨g3,o3+p*4,none⟩=some (.int .i64 xnum):=by have:=hcl2 0 _ rfl;simpa using this
     have y1:w2.cell? ⟨g3,o3+p*4+1,none⟩=some (.int .i64 xty):=by have:=hcl2 1 _ rfl;simpa using this
     have y2:w2.cell? ⟨g3,o3+p*4+2,none⟩=some (.int .u64 xnn):=by have:=hcl2 2 _ rfl;simpa using this
     have y3:w2.cell? ⟨g3,o3+p*4+3,none⟩=some (.slice xa' xd.length xc'):=by have:=hcl2 3 _ rfl;simpa using this
     have HBI:Hid (BIn w2 (fun b=>b<w2.heap.size) xa' xc' xd):=hbi.mv (fun b hb=>HK2.out b (by have:=hb.1;omega) hb.2) (fun b hb=>by have:=hb.2;omega)
     have hp0:(0:Int)≤(p:Int):=by omega
     have hp1:(p:Int)<(l.length:Int):=by omega
     have hwp:IntKind.i64.wrap ((p:Int)+1)=(p:Int)+1:=by rw[IntKind.wrap_i64];have h3:=HLC.out;omega
     clear hsl3 hx hg3 hcl hbi hcl2
     have hC:(w2.alloc (.cells #[.int .i64 xnum,.int .i64 xty,.int .u64 xnn,.slice xa' xd.length xc'] 123)).heap[w2.heap.size]? = some (.cells #[.int .i64 xnum,.int .i64 xty,.int .u64 xnn,.slice xa' xd.length xc'] 123 (0,0)):=alloc_heap_new _ _
     have hCb:Below w2.heap.size w2 (w2.alloc (.cells #[.int .i64 xnum,.int .i64 xty,.int .u64 xnn,.slice xa' xd.length xc'] 123)):=(Below.refl _ w2).alloc (Nat.le_refl _) _
     go_upto_region 8 with fail
     generalize (w2.alloc (.cells #[.int .i64 xnum,.int .i64 xty,.int .u64 xnn,.slice xa' xd.length xc'] 123))=A at *
     have hAs:w2.heap.size+1≤A.heap.size:=by have:=(Array.getElem?_eq_some_iff.1 hC).1;omega
     have HA:=hQz hCb
     have z0:=cell_at hC 0 rfl
     have z1:=cell_at hC 1 rfl
     have z2:=cell_at hC 2 rfl
     have z3:=cell_at hC 3 rfl
     have hbA:=HBI.out.mv (w':=A) (S':=fun b=>b<A.heap.size) (fun b hb=>hCb.block b hb) (fun b hb=>by have hb':b<w2.heap.size:=hb;omega)
     have happ:=appendW_ok none xa' 0 0 xd.length xc' [] xd xnum xty xnn A (isB_nil A) (fun _=>⟨rfl,rfl⟩) hbA.isB hbA.2.1 hn0 hn1 hfm (by have:=hbA.1;omega)
     rw[List.nil_append]at happ
     unfold fv at happ
     have hbok:∀ z∈xd,0≤z∧z≤255:=by
      rcases hbA.2.2.1 with h | ⟨b,off,_,_,h⟩
      ·rw[h];intro z hz;cases hz
      ·exact h.2
     have HFO2:=hQz (fbytes_ok xnum xty xnn hbok)
     clear hC hCb y0 y1 y2 y3 hbA hbok
     go_wp2_with fail
     refine happ.mono ?_
     rintro e W ⟨v',rfl,hov,hbW⟩
     have hWs:=hbW.size
     have HB3:=hQz (HA.out.trans (hbW.mono (by omega)))
     obtain⟨ab,cb,rfl,hI9,_,hno9⟩:=own_isB hov HFO2.out (by have:=HL2.out;unfold WF.bytes at this;dsimp only at this;omega)
     have HI9:=hQz hI9
     have HN9:=hQz hno9
     have HO3:Hid (OwnB W V.heap.size o2 ((fl.take j).flatMap fb++(l.take p).flatMap WF.bytes)):=own_old HOW2.out HB3.out
     have hVW:V.heap.size≤W.heap.size:=by have:=HB2.out.size;omega
     clear happ hov hbW hI9 hno9 z0 z1 z2 z3
     go_wp2_with (at_builtin;refine wpB_at rfl _ _ rfl V.heap.size o2 ((fl.take j).flatMap fb++(l.take p).flatMap WF.bytes) rfl HO3.out ab (fbytes xnum xty xnn xd).length cb (fbytes xnum xty xnn xd) rfl HI9.out HN9.out (by have:=HL2.out;unfold WF.bytes at this ⊢;dsimp only at this;omega) hVW ?_)
     intro v5 w5 hown5 hgr5 hat5
     have HB5:Hid (Below V.heap.size V w5):=(HB2.out.trans (HB3.out.mono HB2.out.size)).grown hgr5 hVW (fun b hb=>own_blockB HO3.out b hb)
     have hw5:=hgr5.size
     have HK5:Hid (∀ b,w1.heap.size≤b→b<U2.heap.size→w5.heap[b]? = U2.heap[b]?):=by
      refine(?_:∀ b,_→_→_)
      intro b h1 h2
      refine(hgr5.block b (by omega) (fun e=>?_)).trans ((HB3.out.block b (by omega)).trans (HK2.out b h1 h2))
      rcases HOB2.out b e.symm with h | h <;> omega
     have HOB5:Hid (∀ b,v5.ownBlock=some b→b<w1.heap.size∨U2.heap.size≤b):=by
      refine(?_:∀ b,_→_)
      intro b hb
      rcases hat5 with h | h
      ·exact HOB2.out b (by rw[←h];exact hb)
      ·rw[h]at hb
       have e:W.heap.size=b:=by simpa using hb
       right;omega
     have HO5:Hid (OwnB w5 V.heap.size v5 ((fl.take j).flatMap fb++(l.take (p+1)).flatMap WF.bytes)):=by
      refine(?_:OwnB _ _ _ _)
      rw[HTP.out]
      exact hown5
     have hs5:U2.heap.size≤w5.heap.size:=by omega
     clear hown5 hgr5 hat5
     try go_wp2_with fail
     go_roundw
     case rel=>exact⟨p+1,_,rfl,by go_num,by omega,HB5.out,hs5,HK5.out,HOB5.out,HO5.out⟩
     case measure=>simp[intOf];omega
    ·have hpn':¬(p:Int)<(l.length:Int):=by omega
     have hte:l.take p=l:=List.take_of_length_le (by omega)
     rw[hte,←HTK.out]at HOW2
     clear hte hb2
     go_wp2_with fail
     go_roundw
     case rel=>exact⟨j+1,_,rfl,by go_num,by omega,HB2.out,HOW2.out⟩
     case measure=>simp[intOf];omega
  ·have hjn':¬(j:Int)<(n:Int):=by omega
   have hte:fl.take j=fl:=List.take_of_length_le (by have:=HN.out;omega)
   rw[hte]at HOW
   have c2:=m2 w1 hbel
   have HLL:Hid ((fl.flatMap fb).length+xs.length≤1000000000):=by
    refine(?_:(_:Nat)≤_)
    have h2:=HRL.out
    rw[←HRE.out,List.length_append,ints_len]at h2
    omega
   clear hte hbel hBw s0 s1 s2 m0 m2 d0 d1
   go_wp2_with (at_builtin;refine wpB_str rfl _ _ rfl V.heap.size o' (fl.flatMap fb) rfl HOW.out xs rfl (by have:=HLL.out;omega) hws ?_)
   intro v5 w5 hown5 hgr5
   have hB5:Below V.heap.size V w5:=HBE.out.grown hgr5 hws (fun b hb=>own_blockB HOW.out b hb)
   rw[HRE.out]at hown5
   obtain⟨ab,cb,rfl,hbi⟩:=own_BIn hown5 HROK.out (by have:=HRL.out;omega)
   have HRES:Hid (BAns R w (.returned (.slice ab R.length cb)) w5):=⟨ab,cb,rfl,hbi.mv (fun _ _=>rfl) (fun b hb=>⟨by have:=hb.1;omega,hb.2⟩),HBV.out.trans (hB5.mono HBV.out.size)⟩
   clear hown5 hgr5 hB5 hbi c2
   try go_wp2_with fail
   go_ret
   exact HRES.out
end Go.Proofs.YteajlfgbmefncaaGreatDoor
