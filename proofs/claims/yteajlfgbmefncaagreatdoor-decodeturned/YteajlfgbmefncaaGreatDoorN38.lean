/-
  Walks and plain words (DtM VkQ).
-/
import Derived.Test.YteajlfgbmefncaaGreatDoorN34
import Derived.Test.YteajlfgbmefncaaGreatDoorN37
import Derived.Test.YteajlfgbmefncaaGreatDoorN6
import Derived.Test.YteajlfgbmefncaaGreatDoorN14
import Derived.BigQuiet
import Derived.Deep.QuietTactic
import Derived.Deep.Cut
import Derived.Deep.DeepCutAuto
import Derived.Deep.RegionHeldLaw
namespace Go.Proofs.YteajlfgbmefncaaGreatDoor
set_option linter.unusedVariables false
open Go.ChangeShapes Go.WideShapes Go.ChangeAt Go.RowKit

theorem infoFR:(Tryz.prog.info? 106).map (fun i=>(i.zero,i.size,i.bytes))=some (some (.agg #[.int .i64 0,.int .i64 0,.int .u64 0,.slice none 0 0]),4,48):=by kernel_rfl
def ownK (fs:List FD) (fd:FD) (l:List WF):List WF:=l.filter fun x=>decide (x.num=fd.num)&&knownP fs fd.num x.ty
theorem ownK_step {fs:List FD} {fd:FD} {l:List WF} {k:Nat} {x:WF} (h:l[k]? = some x):ownK fs fd (l.take (k+1))=ownK fs fd (l.take k)++(if (decide (x.num=fd.num)&&knownP fs fd.num x.ty)=true then [x] else []):=by
 unfold ownK
 rw[show l.take (k+1)=l.take k++[x] from take_snoc h,List.filter_append]
 congr 1
 cases hd:(decide (x.num=fd.num)&&knownP fs fd.num x.ty) <;> simp[hd]
theorem ownK_eq (fs:List FD) (fd:FD) (D:List (TF × List Int)):ownK fs fd (D.map wfOf)=ownL fd (knownL fs D):=by
 unfold ownK ownL knownL
 rw[List.filter_map,List.filter_map,List.filter_filter]
 congr 1
 apply List.filter_congr
 intro p hp
 show (decide (p.1.num=fd.num)&&knownP fs fd.num p.1.ty)=(decide (p.1.num=fd.num)&&knownP fs p.1.num p.1.ty)
 by_cases h:p.1.num=fd.num
 ·rw[h]
 ·rw[decide_eq_false h];rfl
theorem toRead_none {fd:FD} {l:List WF} (h:ownL fd l=[]):toRead fd l=[]:=by
 unfold toRead
 rw[if_pos (.inr (by rw[h];decide)),h]
theorem toRead_rep {fd:FD} {l:List WF} (h:fd.rep=true):toRead fd l=ownL fd l:=if_pos (.inl h)
theorem toRead_one {fd:FD} {l o:List WF} {x:WF} {n:Nat} (hr:fd.rep=false) (ho:ownL fd l=o) (hn:o.length=n+1) (hx:o[n]? = some x):toRead fd l=[⟨x.num,x.ty,x.n,if fd.kind=10 then o.flatMap WF.d else x.d⟩]:=by
 unfold toRead
 rw[ho]
 by_cases h2:n=0
 ·subst h2
  rw[if_pos (.inr (by omega))]
  obtain⟨y,hy⟩:∃ y,o=[y]:=by
   cases o with
   | nil=>simp at hn
   | cons y t=>
    have:t=[]:=List.eq_nil_of_length_eq_zero (by simpa using hn)
    exact⟨y,by rw[this]⟩
  subst hy
  have e:y=x:=by simpa using hx
  subst e
  cases y
  simp
 ·rw[if_neg (by rw[hr];simp;omega),List.getLast?_eq_getElem?,hn]
  simp only[Nat.add_sub_cancel,hx]
theorem read_le {fs:List FD} {fd:FD} {D:List (TF × List Int)} {zs:List Int} (hP:∀ p∈D,PieceOK p) (hf:(D.flatMap fun p=>p.2)=zs):(toRead fd (knownL fs D)).length≤zs.length∧∀ x∈toRead fd (knownL fs D),x.d.length≤zs.length:=by
 have h1:=known_sum (fs:=fs) hP hf
 have h2:=read_sum (fd:=fd) (l:=knownL fs D)
 refine⟨?_,fun x hx=>?_⟩
 ·have h3:sumL (fun _:WF=>1) (toRead fd (knownL fs D))≤sumL (fun x:WF=>x.d.length+1) (toRead fd (knownL fs D)):=sumL_le fun x _=>by omega
  rw[sumL_const]at h3
  omega
 ·have h3:=sumL_mem (g:=fun x:WF=>x.d.length+1) hx
  omega
theorem own_flat {fs:List FD} {fd:FD} {D:List (TF × List Int)} {zs:List Int} (hP:∀ p∈D,PieceOK p) (hf:(D.flatMap fun p=>p.2)=zs) (k:Nat):(((ownL fd (knownL fs D)).take k).flatMap WF.d).length≤zs.length:=by
 have h1:=known_sum (fs:=fs) hP hf
 have h2:=sumL_own (fun x:WF=>x.d.length+1) fd (knownL fs D)
 have h3:=sumL_append (fun x:WF=>x.d.length) ((ownL fd (knownL fs D)).take k) ((ownL fd (knownL fs D)).drop k)
 rw[List.take_append_drop]at h3
 have h4:sumL (fun x:WF=>x.d.length) (ownL fd (knownL fs D))≤sumL (fun x:WF=>x.d.length+1) (ownL fd (knownL fs D)):=sumL_le fun x _=>by omega
 rw[flatLen]
 omega
theorem decRF_none {rec:Int→List Int→Except Int Nd} {known:List WF} {fd:FD} (h:ownL fd known=[]):decRF rec known fd=.ok []:=by
 unfold decRF decVs
 rw[toRead_none h]
 rfl
theorem decRF_ok {rec:Int→List Int→Except Int Nd} {known:List WF} {fd:FD} {l:List Nd} (h:decVs rec fd (toRead fd known)=.ok l):decRF rec known fd=.ok (if keepD fd l=true then [(fd.num,l)] else []):=by
 unfold decRF
 rw[h]
theorem decRF_err {rec:Int→List Int→Except Int Nd} {known:List WF} {fd:FD} {e:Int} (h:decVs rec fd (toRead fd known)=.error e):decRF rec known fd=.error e:=by
 unfold decRF
 rw[h]
theorem decRF_len {rec:Int→List Int→Except Int Nd} {known:List WF} {l:List FD} {fl:List (Int × List Nd)} (h:exL (decRF rec known) l=.ok fl):fl.length≤l.length:=by
 have h1:=exL_len (c:=fun _=>1) (fun x _ b hb=>by
  unfold decRF at hb
  cases hv:decVs rec x (toRead x known)with
  | error e=>rw[hv]at hb;cases hb
  | ok m=>
   rw[hv]at hb
   have e:(if keepD x m=true then [(x.num,m)] else [])=b:=by injection hb
   rw[←e]
   split <;> simp) h
 rwa [sumL_const]at h1
theorem mkB_apR (a b:List UInt8):mkB (a++b)=mkB a++mkB b:=by
 apply ByteArray.ext
 show (a++b).toArray=(mkB a++mkB b).data
 rw[ByteArray.data_append]
 simp[mkB]
theorem mkB_szR (l:List UInt8):(mkB l).size=l.length:=by show l.toArray.size=_;simp
theorem u8s_app (a b:List Int):u8s (a++b)=u8s a++u8s b:=by unfold u8s;rw[List.map_append]
theorem unkn_str {fs:List FD} {D:List (TF × List Int)} {k:Nat} {p:TF × List Int} (h:D[k]? = some p) (hk:isKn fs p=false):mkB (u8s (unknL fs (D.take (k+1))))=mkB (u8s (unknL fs (D.take k)))++mkB (u8s p.2):=by
 rw[unkn_step h,hk,if_neg (by simp),u8s_app,mkB_apR]
theorem unkn_same {fs:List FD} {D:List (TF × List Int)} {k:Nat} {p:TF × List Int} (h:D[k]? = some p) (hk:isKn fs p=true):unknL fs (D.take (k+1))=unknL fs (D.take k):=by
 rw[unkn_step h,hk,if_pos rfl,List.append_nil]
def RawIn (w:World) (a:Option Addr) (D:List (TF × List Int)):Prop:=∀ (k:Nat) (p:TF × List Int),D[k]? = some p→∃ g ra rl rc,a=some ⟨g,0,none⟩∧g<w.heap.size∧w.cell? ⟨g,k,none⟩=some (.slice ra rl rc)∧IsB w ra rl p.2
theorem raw_split {w:World} {B:Nat} {e:TypeId} {vF vR:Value} {xs:List FR} {ps:List Row3} {D:List (TF × List Int)} (h:SplSt w B e vF vR xs ps) (hR:FitsR ps D):∃ aR cR,vR=.slice aR D.length cR∧D.length≤cR∧RawIn w aR D:=by
 obtain⟨aF,cF,aR,cR,_,rfl,hlF,hlR,hcF,hcR⟩:=st_shapes h
 have hl:ps.length=D.length:=hR.len
 rw[hl]at hlR ⊢
 refine⟨aR,cR,rfl,hlR,fun k p hp=>?_⟩
 obtain⟨r,p',hr,hp',hrz⟩:=fitsR_at hR k (List.getElem?_eq_some_iff.1 hp).1
 have hpp:p'=p:=Option.some.inj (hp'.symm.trans hp)
 subst hpp
 obtain⟨g,ha,h1,h2,h3⟩:=hcR k r hr
 exact⟨g,r.a,r.len,r.cap,ha,h3,h1,by rw[←hrz];exact h2⟩
theorem wf_split {w:World} {B:Nat} {e:TypeId} {vF vR:Value} {xs:List FR} {ps:List Row3} {D:List (TF × List Int)} (h:SplSt w B e vF vR xs ps) (hF:FitsF xs D) (hl:∀ p∈D,p.1.data.length≤1000000):∃ aF cF,vF=.slice aF D.length cF∧WfIn w (fun b=>b<w.heap.size) (.slice aF D.length cF) (D.map wfOf):=by
 obtain⟨aF,cF,aR,cR,rfl,_,hlF,hlR,hcF,hcR⟩:=st_shapes h
 have hln:xs.length=D.length:=hF.len
 rw[hln]at hlF ⊢
 refine⟨aF,cF,rfl,aF,cF,by rw[List.length_map],by rw[List.length_map];exact hlF,?_⟩
 by_cases h0:D=[]
 ·left;rw[h0];rfl
 ·right
  obtain⟨f0,hf0⟩:∃ f,xs[0]? = some f:=⟨_,List.getElem?_eq_getElem (by rw[hln];exact List.length_pos_iff.2 h0)⟩
  obtain⟨g,ha,_,_,_,_,_,hg⟩:=hcF 0 f0 hf0
  refine⟨g,0,ha,hg,fun j x hx=>?_⟩
  have hj:j<D.length:=by
   have:=(List.getElem?_eq_some_iff.1 hx).1
   rwa [List.length_map]at this
  obtain⟨f,p,hf,hp,hsay⟩:=fits_at hF j hj
  have h1:f.num=p.1.num:=congrArg (fun t=>t.1) hsay
  have h2:f.ty=p.1.ty:=congrArg (fun t=>t.2.1) hsay
  have h3:f.n=p.1.n:=congrArg (fun t=>t.2.2.1) hsay
  have h4:f.d=p.1.data:=congrArg (fun t=>t.2.2.2) hsay
  have hxe:x=⟨f.num,f.ty,f.n,f.d⟩:=by
   rw[List.getElem?_map,hp]at hx
   have e:wfOf p=x:=by simpa using hx
   rw[←e,h1,h2,h3,h4];rfl
  subst hxe
  obtain⟨g',ha',e0,e1,e2,e3,hI,_⟩:=hcF j f hf
  have hgg:g'=g:=by
   rw[ha]at ha'
   injection ha' with ha'
   injection ha' with ha' _
   exact ha'.symm
  subst hgg
  have hdl:f.d.length=f.len:=hI.1
  refine⟨f.a,f.cap,fun i u hu=>?_,?_⟩
  ·dsimp only at hu ⊢
   rw[hdl]at hu
   rcases i with _ | _ | _ | _ | i
   ·have:Value.int .i64 f.num=u:=by simpa using hu
    rw[←this];simpa using e0
   ·have:Value.int .i64 f.ty=u:=by simpa using hu
    rw[←this];simpa [Nat.add_assoc]using e1
   ·have:Value.int .u64 f.n=u:=by simpa using hu
    rw[←this];simpa [Nat.add_assoc]using e2
   ·have:Value.slice f.a f.len f.cap=u:=by simpa using hu
    rw[←this];simpa [Nat.add_assoc]using e3
   ·simp at hu
  ·have:=hl p (List.mem_of_getElem? hp)
   exact bin_of hI (hF.2 f (List.mem_of_getElem? hf)) (by rw[←hdl,h4];omega)
theorem wfIn_oneR {w:World} {S:Nat→Prop} {B:Nat} {x:WF} {a:Option Addr} {c:Nat} (hB:w.heap[B]? = some (.cells #[.int .i64 x.num,.int .i64 x.ty,.int .u64 x.n,.slice a x.d.length c] 106 (0,0))) (hS:S B) (hd:BIn w S a c x.d):WfIn w S (.slice (some ⟨B,0,none⟩) 1 1) [x]:=by
 refine⟨_,_,rfl,Nat.le_refl _,.inr ⟨B,0,rfl,hS,fun j y hj=>?_⟩⟩
 have hj0:j=0:=by
  have:=(List.getElem?_eq_some_iff.1 hj).1
  simp at this;omega
 subst hj0
 have e:x=y:=by simpa using hj
 subst e
 refine⟨a,c,fun i u hu=>?_,hd⟩
 simp only[World.cell?,hB]
 simpa using hu
theorem ownE_keepR {w w':World} {base:Nat} {v:Value} {xs:List Int} (h:OwnE w base v xs) (hk:∀ g,base≤g→w'.heap[g]? = w.heap[g]?):OwnE w' base v xs:=h.imp (fun h=>own_keep h fun b hb=>hk b (own_blockB h b hb)) id
theorem ownE_sl {w:World} {base:Nat} {v:Value} {xs:List Int} (h:OwnE w base v xs):∃ a n c,v=.slice a n c:=by
 rcases h with h | ⟨_,g,rfl⟩
 ·obtain⟨a,c,hv⟩:=own_slice h
  exact⟨a,_,c,hv⟩
 ·exact⟨_,_,_,rfl⟩
theorem decR_kind {ms:List MD}:∀ {f:Nat} {t:Int} {zs:List Int} {y:Nd},decR ms f t zs=.ok y→y.kind=7
 | 0,t,zs,y,h=>by cases h
 | f+1,t,zs,y,h=>by
  unfold decR at h
  cases hs:split zs with
  | none=>rw[hs]at h;cases h
  | some D=>
   rw[hs]at h
   dsimp only at h
   cases he:exL (decRF (decR ms f) (knownL (fieldsOf ms t) D)) (fieldsOf ms t)with
   | error e=>rw[he]at h;cases h
   | ok fl=>
    rw[he]at h
    injection h with h
    rw[←h]
theorem numD_kinds (k n:Int):1≤(numD k n).kind∧(numD k n).kind≤7:=by
 unfold numD
 repeat' split
 all_goals simp
theorem decV_kinds {rec:Int→List Int→Except Int Nd} {fd:FD} {x:WF} {l:List Nd} (hb:IsBs x.d) (hrec:∀ y,rec fd.type x.d=.ok y→y.kind=7) (h:decV rec fd x=.ok l):∀ y∈l,1≤y.kind∧y.kind≤7:=by
 intro y hy
 unfold decV at h
 split at h
 ·split at h
  ·cases hu:unpack fd.kind x.d with
   | none=>rw[hu]at h;cases h
   | some m=>
    rw[hu]at h
    injection h with h
    subst h
    obtain⟨n,rfl,_⟩:=unpack_of x.d.length (Nat.le_refl _) hb hu y hy
    exact numD_kinds _ _
  ·injection h with h
   subst h
   have e:y=numD fd.kind x.n:=by simpa using hy
   rw[e];exact numD_kinds _ _
 ·split at h
  ·cases hr:rec fd.type x.d with
   | error e=>rw[hr]at h;cases h
   | ok z=>
    rw[hr]at h
    injection h with h
    subst h
    have e:y=z:=by simpa using hy
    have:=hrec z hr
    rw[e];omega
  ·split at h
   ·split at h
    ·injection h with h
     subst h
     have e:y=strD 4 x.d:=by simpa using hy
     rw[e];simp[strD]
    ·cases h
   ·injection h with h
    subst h
    have e:y=strD 5 x.d:=by simpa using hy
    rw[e];simp[strD]
theorem bin_slS {w:World} {S:Nat→Prop} {a:Option Addr} {c:Nat} {zs:List Int} (h:BIn w S a c zs):SlS w a zs.length c zs:=⟨h.isB,h.2.2.2.1,h.2.1⟩
theorem nrow_len (y:Nd) (fs:Value):(clS.row y fs).length=7:=rfl
theorem nrow_one (y:Nd) (fs:Value) (hf:fs.oneCell'=true):∀ u∈clS.row y fs,u.oneCell'=true:=by
 intro u hu
 have h:u=.int .i64 (cn y).kind∨u=.int .i64 (cn y).n∨u=.int .u64 (cn y).u∨u=.bool (cn y).b∨u=.string (mkB (cn y).s)∨u=.int .i64 (cn y).type∨u=if y.kind=7 then fs else .slice none 0 0:=by
  simpa [clS,crow,nrow]using hu
 rcases h with rfl | rfl | rfl | rfl | rfl | rfl | rfl
 all_goals first
  | rfl
  | (split;exact hf;rfl)
theorem nds_rows {w:World} {S:Nat→Prop} {f g:Nat}:∀ {ys:List Nd} {o:Nat},(∀ (j:Nat) (y:Nd),ys[j]? = some y→∃ fs,Cells w g (o+j*7) (clS.row y fs)∧(y.kind=7→HeldG clS w S f fs y.fields))→
  ∃ qs:List (List Value),qs.length=ys.length∧(∀ q∈qs,q.length=7)∧(∀ (j:Nat) (y:Nd) (q:List Value),ys[j]? = some y→qs[j]? = some q→VRs clS f w S y q)∧(∀ (j:Nat) (u:Value),(qs.flatMap id)[j]? = some u→w.cell? ⟨g,o+j,none⟩=some u)∧(∀ u∈qs.flatMap id,u.oneCell'=true)∧(qs.flatMap id).length=ys.length*7
 | [],o,h=>⟨[],rfl,(fun q hq=>by cases hq),(fun j y q hy=>by simp at hy),(fun j u hu=>by simp at hu),(fun u hu=>by simp at hu),rfl⟩
 | y :: t,o,h=>by
  obtain⟨fs,h1,h2⟩:=h 0 y rfl
  obtain⟨qs,g1,g2,g3,g4,g5,g6⟩:=nds_rows (ys:=t) (o:=o+7) fun j x hx=>by
   obtain⟨fs,h1,h2⟩:=h (j+1) x (by simpa using hx)
   exact⟨fs,by rw[show o+7+j*7=o+(j+1)*7 by omega];exact h1,h2⟩
  have h1':Cells w g o (clS.row y fs):=by simpa using h1
  have hone:∃ fs',clS.row y fs=clS.row y fs'∧fs'.oneCell'=true∧(y.kind=7→HeldG clS w S f fs' y.fields):=by
   by_cases h7:y.kind=7
   ·obtain⟨a,c,he⟩:=HeldG.isSl (h2 h7)
    exact⟨fs,rfl,by rw[he];rfl,h2⟩
   ·refine⟨.slice none 0 0,?_,rfl,fun h=>absurd h h7⟩
    simp[clS,h7]
  obtain⟨fs',hrw,ho1,hh⟩:=hone
  rw[hrw]at h1'
  refine⟨clS.row y fs' :: qs,by simp[g1],?_,?_,?_,?_,by rw[List.flatMap_cons,List.length_append,g6,List.length_cons];show 7+t.length*7=(t.length+1)*7;omega⟩
  ·intro q hq
   rcases List.mem_cons.1 hq with rfl | hq
   ·exact nrow_len _ _
   ·exact g2 q hq
  ·intro j x q hx hq
   cases j with
   | zero=>
    have e1:y=x:=by simpa using hx
    have e2:clS.row y fs'=q:=by simpa using hq
    subst e1 e2
    exact⟨fs',rfl,fun hk=>hh (by simpa [clS]using hk)⟩
   | succ j=>exact g3 j x q (by simpa using hx) (by simpa using hq)
  ·intro j u hu
   rw[List.flatMap_cons]at hu
   rcases Nat.lt_or_ge j 7 with hj | hj
   ·rw[List.getElem?_append_left (by show j<7;exact hj)]at hu
    exact h1' j u hu
   ·rw[List.getElem?_append_right (by show 7≤j;exact hj)]at hu
    have:=g4 (j - 7) u hu
    rw[show o+j=o+7+(j - 7)by omega];exact this
  ·intro u hu
   rw[List.flatMap_cons]at hu
   rcases List.mem_append.1 hu with hu | hu
   ·exact nrow_one y fs' ho1 u hu
   ·exact g5 u hu
theorem twoN_first (w:World) (o o':Obj):((w.alloc o).alloc o').drew.heap[w.heap.size]? = some o:=by
 show ((w.heap.push o).push o')[w.heap.size]? = some o
 simp[Array.getElem?_push]
theorem twoN_second (w:World) (o o':Obj):((w.alloc o).alloc o').drew.heap[w.heap.size+1]? = some o':=by
 show ((w.heap.push o).push o')[w.heap.size+1]? = some o'
 rw[Array.getElem?_push]
 simp
def ClF (w:World) (S:Nat→Prop) (f:Nat) (v:Value) (ln:Nat) (x:Nd):Prop:=(x.kind=7→HeldG clS w S f v x.fields∧x.fields.length=ln)∧(x.kind≠7→ln=0)
theorem ClF.mv {w w':World} {S S':Nat→Prop} (hb:∀ b,S b→w'.heap[b]? = w.heap[b]?) (hS:∀ b,S b→S' b) {f:Nat} {v:Value} {ln:Nat} {x:Nd} (h:ClF w S f v ln x):ClF w' S' f v ln x:=⟨fun h7=>⟨HeldG.mv hb hS (h.1 h7).1,(h.1 h7).2⟩,h.2⟩
set_option maxHeartbeats 32000000 in
set_option maxRecDepth 20000 in
theorem sameN_any:∀ (f:Nat) (x z:Nd) (la1 la2:Option Addr) (ln lc1 lc2:Nat) (w:World),z=cn x→FitG 100000 10000 f x→ClF w (fun b=>b<w.heap.size) f (.slice la1 ln lc1) ln x→ClF w (fun b=>b<w.heap.size) f (.slice la2 ln lc2) ln x→
  Calls Tryz.prog 9 #[.agg #[.int .i64 z.kind,.int .i64 z.n,.int .u64 z.u,.bool z.b,.string (mkB z.s),.int .i64 z.type,.slice la1 ln lc1],.agg #[.int .i64 z.kind,.int .i64 z.n,.int .u64 z.u,.bool z.b,.string (mkB z.s),.int .i64 z.type,.slice la2 ln lc2]] w fun e w'=>e=.returned (.bool true)∧Below w.heap.size w w':=by
 intro f
 induction f using Nat.strongRecOn with
 | _ f ih=>
 intro x z la1 la2 ln lc1 lc2 w hz hfit h1 h2
 obtain⟨zk,zn,zu,zb,zs,zt,zf⟩:=z
 dsimp only
 obtain⟨Y,hY,hC,hb,hYs⟩:=box_new w #[.int .i64 zk,.int .i64 zn,.int .u64 zu,.bool zb,.string (mkB zs),.int .i64 zt,.slice la1 ln lc1] 38
 obtain⟨V,hV,hD,hVb,hVs⟩:=box_new Y #[.int .i64 zk,.int .i64 zn,.int .u64 zu,.bool zb,.string (mkB zs),.int .i64 zt,.slice la2 ln lc2] 38
 rw[hYs]at hD
 have HY:=hQz hY
 have HV:=hQz hV
 have hBV:=hb.trans (hVb.mono hb.size)
 have HBV:=hQz hBV
 have hCV:=(hVb.block _ (by omega)).trans hC
 have HCV:=hQz hCV
 have HDV:=hQz hD
 have hVl:w.heap.size+2≤V.heap.size:=by omega
 have HIH:=hQz ih
 have HFIT:=hQz hfit
 have H1:=hQz h1
 have H2:=hQz h2
 have a0:=cell_at hCV 0 rfl
 have a1:=cell_at hCV 1 rfl
 have a2:=cell_at hCV 2 rfl
 have a3:=cell_at hCV 3 rfl
 have a4:=cell_at hCV 4 rfl
 have a5:=cell_at hCV 5 rfl
 have a6:=cell_at hCV 6 rfl
 have b0:=cell_at hD 0 rfl
 have b1:=cell_at hD 1 rfl
 have b2:=cell_at hD 2 rfl
 have b3:=cell_at hD 3 rfl
 have b4:=cell_at hD 4 rfl
 have b5:=cell_at hD 5 rfl
 have b6:=cell_at hD 6 rfl
 clear hC hY hb hYs hV hD hVb hVs hCV hBV ih hfit h1 h2 hz
 go_enter Tryz.func9,Tryz.ntmps9
 go_upto_region 1 with fail
 rw[HY.out,HV.out]
 go_wp2_with fail
 clear a0 a1 a2 a3 a4 a5 a6 b0 b1 b2 b3 b4 b5 b6
 go_loopw [61] (fun i wr=>∃ (k:Nat),i=.int .i64 (k:Int)∧k≤ln∧Below V.heap.size V wr) (fun i _=>ln - (intOf i).toNat)
 case atStart=>exact⟨0,rfl,Nat.zero_le _,Below.refl _ _⟩
 case round=>
  generalize wr=w1 at *
  obtain⟨k,rfl,hkl,hbel⟩:=hrel
  have HBE:=hQz hbel
  have hBw:=HBV.out.trans (hbel.mono HBV.out.size)
  have HBW:=hQz hBw
  have hws:=hbel.size
  by_cases hkn:k<ln
  ·have hk7:x.kind=7:=by
    apply Classical.byContradiction
    intro h
    have:=H1.out.2 h
    omega
   obtain⟨hG1,hl1⟩:=H1.out.1 hk7
   obtain⟨hG2,_⟩:=H2.out.1 hk7
   obtain⟨y,hy⟩:∃ y,x.fields[k]? = some y:=⟨_,List.getElem?_eq_getElem (by omega)⟩
   obtain⟨f',g1,o1,d1,va1,vc1,hf',hsl1,hg1,e1_0,e1_1,hv1⟩:=HeldG.at hG1 (W:=w1) (fun b hb=>hBw.block b hb) hy
   obtain⟨f2,g2,o2,d2,va2,vc2,hf2,hsl2,hg2,e2_0,e2_1,hv2⟩:=HeldG.at hG2 (W:=w1) (fun b hb=>hBw.block b hb) hy
   subst hf'
   have hff:f2=f':=by omega
   subst hff
   rw[hl1]at hsl1 hsl2
   obtain⟨hs1,hs2⟩:=slice_two hsl1
   obtain⟨hs3,hs4⟩:=slice_two hsl2
   obtain⟨hfl1,hfl2⟩:=HFIT.out.2.2 y (List.mem_of_getElem? hy)
   have hln:ln≤10000:=by have h1:=HFIT.out.2.1;omega
   obtain⟨ynum,ys⟩:=y
   dsimp only at e1_0 e1_1 e2_0 e2_1 hv1 hv2 hfl1 hfl2
   obtain⟨mv,hmv⟩:∃ n,ys.length=n:=⟨_,rfl⟩
   have HMV:=hQz hmv
   rw[hmv]at e1_1 e2_1 hv1 hv2 hfl1
   have HFL2:=hQz hfl2
   have HVA1:=hQz hv1
   have HVA2:=hQz hv2
   have hg1N:g1<w.heap.size:=hg1
   have hg2N:g2<w.heap.size:=hg2
   have hc1:=(hbel.block _ (by omega)).trans HCV.out
   have hc2:=(hbel.block _ (by omega)).trans HDV.out
   rw[hs1]at hc1
   rw[hs3]at hc2
   have q0:∀ W,Below w1.heap.size w1 W→W.cell? ⟨w.heap.size,6,none⟩=some (.slice (some ⟨g1,o1,none⟩) ln lc1):=fun W hW=>(hW.cell (by simp;omega)).trans (cell_at hc1 6 rfl)
   have q1:∀ W,Below w1.heap.size w1 W→W.cell? ⟨w.heap.size+1,6,none⟩=some (.slice (some ⟨g2,o2,none⟩) ln lc2):=fun W hW=>(hW.cell (by simp;omega)).trans (cell_at hc2 6 rfl)
   have k1_0:∀ W,Below w1.heap.size w1 W→W.cell? ⟨g1,o1+k*2,none⟩=some (.int .i64 ynum):=fun W hW=>(hW.cell (by simp;omega)).trans e1_0
   have k1_1:∀ W,Below w1.heap.size w1 W→W.cell? ⟨g1,o1+k*2+1,none⟩=some (.slice va1 mv vc1):=fun W hW=>(hW.cell (by simp;omega)).trans e1_1
   have k2_0:∀ W,Below w1.heap.size w1 W→W.cell? ⟨g2,o2+k*2,none⟩=some (.int .i64 ynum):=fun W hW=>(hW.cell (by simp;omega)).trans e2_0
   have k2_1:∀ W,Below w1.heap.size w1 W→W.cell? ⟨g2,o2+k*2+1,none⟩=some (.slice va2 mv vc2):=fun W hW=>(hW.cell (by simp;omega)).trans e2_1
   have hk0:(0:Int)≤(k:Int):=by omega
   have hk1:(k:Int)<(ln:Int):=by omega
   have hwq:=wQz k (by omega)
   have hbr:Below w1.heap.size w1 w1.drew:=(Below.refl _ _).drew
   have hbb:∀ o o',Below w1.heap.size w1 ((w1.alloc o).alloc o').drew:=fun o o'=>(((Below.refl _ w1).alloc (Nat.le_refl _) o).alloc (by simp) o').drew
   have hba:∀ o,Below w1.heap.size w1 (w1.alloc o).drew:=fun o=>((Below.refl _ w1).alloc (Nat.le_refl _) o).drew
   clear hsl1 hsl2 hs1 hs2 hs3 hs4 hy hg1 hg2 hv1 hv2 hmv hfl2 hc1 hc2 e1_0 e1_1 e2_0 e2_1 hG1 hG2 hl1 hk7 hbel hBw
   go_upto_region 6 with fail
   go_cut [6,7] (fun s6 s7 wx=>∃ D1 D2:Nat,s6=.pointer (some ⟨D1,0,none⟩)∧s7=.pointer (some ⟨D2,0,none⟩)∧wx.heap[D1]? = some (.cells #[.int .i64 ynum,.slice va1 mv vc1] 57 (0,0))∧wx.heap[D2]? = some (.cells #[.int .i64 ynum,.slice va2 mv vc2] 57 (0,0))∧Below w1.heap.size w1 wx)
   case first=>
    clear HIH
    go_region_held_law (fun W=>Below w1.heap.size w1 W) (first | with_reducible exact hbr | with_reducible exact hba _ | with_reducible exact hbb _ _) (fail)
    all_goals go_wp2_with fail
    all_goals go_meet
    ·exact⟨w1.heap.size,w1.heap.size+1,rfl,rfl,twoN_first _ _ _,twoN_second _ _ _,hbb _ _⟩
    ·exact⟨w1.heap.size+1,w1.heap.size,rfl,rfl,twoN_second _ _ _,twoN_first _ _ _,hbb _ _⟩
   case rest=>
   obtain⟨D1,D2,rfl,rfl,hD1,hD2,hbX⟩:=hcut
   generalize wc=X at *
   have HD1:=hQz hD1
   have HD2:=hQz hD2
   have hd1:=(Array.getElem?_eq_some_iff.1 hD1).1
   have hd2:=(Array.getElem?_eq_some_iff.1 hD2).1
   have HVX:=hQz (HBE.out.trans (hbX.mono hws))
   have HBX:=hQz (HBW.out.trans (hbX.mono HBW.out.size))
   have x1_0:=cell_at hD1 0 rfl
   have x1_1:=cell_at hD1 1 rfl
   have x2_0:=cell_at hD2 0 rfl
   have x2_1:=cell_at hD2 1 rfl
   clear hD1 hD2 hbX hbr hba hbb q0 q1 k1_0 k1_1 k2_0 k2_1
   go_wp2_with fail
   clear x1_0 x1_1 x2_0 x2_1
   go_loopw [91] (fun i wr=>∃ (a:Nat),i=.int .i64 (a:Int)∧a≤mv∧Below X.heap.size X wr) (fun i _=>mv - (intOf i).toNat)
   case atStart=>exact⟨0,rfl,Nat.zero_le _,Below.refl _ _⟩
   case round=>
    generalize wr=w3 at *
    obtain⟨a,rfl,hal,hbel⟩:=hrel
    have HB3:=hQz hbel
    have hBw3:=HBX.out.trans (hbel.mono HBX.out.size)
    have HBW3:=hQz hBw3
    have h3s:=hbel.size
    by_cases han:a<mv
    ·obtain⟨c,hc⟩:∃ c,ys[a]? = some c:=⟨_,List.getElem?_eq_getElem (by have:=HMV.out;omega)⟩
     have HKC:∀ (g o c2:Nat) (va:Option Addr) (vc:Nat),True:=fun _ _ _ _ _=>trivial
     obtain⟨g3,o3,c3,fs3,hsl3,hg3,hcl3,hh3⟩:=ValsG.at HVA1.out hc
     obtain⟨g4,o4,c4,fs4,hsl4,hg4,hcl4,hh4⟩:=ValsG.at HVA2.out hc
     rw[HMV.out]at hsl3 hsl4
     obtain⟨rfl,rfl⟩:=slice_two hsl3
     obtain⟨rfl,rfl⟩:=slice_two hsl4
     have hg3N:g3<w.heap.size:=hg3
     have hg4N:g4<w.heap.size:=hg4
     have hcl3':=hcl3.old (hBw3.block g3 hg3N)
     have hcl4':=hcl4.old (hBw3.block g4 hg4N)
     have hfitc:=HFL2.out c (List.mem_of_getElem? hc)
     obtain⟨m,sa3,sa4,sc3,sc4,hL3,hL4,HC3,HC4⟩:∃ (m:Nat) (sa3 sa4:Option Addr) (sc3 sc4:Nat),(if c.kind=7 then fs3 else .slice none 0 0)=.slice sa3 m sc3∧(if c.kind=7 then fs4 else .slice none 0 0)=.slice sa4 m sc4∧ClF w (fun b=>b<w.heap.size) f2 (.slice sa3 m sc3) m c∧ClF w (fun b=>b<w.heap.size) f2 (.slice sa4 m sc4) m c:=by
      by_cases h7:c.kind=7
      ·rw[if_pos h7,if_pos h7]
       have q3:=hh3 (by simpa [clS]using h7)
       have q4:=hh4 (by simpa [clS]using h7)
       obtain⟨u3,v3,e3⟩:=HeldG.isSl q3
       obtain⟨u4,v4,e4⟩:=HeldG.isSl q4
       refine⟨c.fields.length,u3,u4,v3,v4,e3,e4,⟨fun _=>⟨?_,rfl⟩,fun h=>absurd h7 h⟩,⟨fun _=>⟨?_,rfl⟩,fun h=>absurd h7 h⟩⟩
       ·rw[←e3];exact q3
       ·rw[←e4];exact q4
      ·rw[if_neg h7,if_neg h7]
       exact⟨0,none,none,0,0,rfl,rfl,⟨fun h=>absurd h h7,fun _=>rfl⟩,⟨fun h=>absurd h h7,fun _=>rfl⟩⟩
     obtain⟨zc,hzc⟩:∃ z,z=cn c:=⟨_,rfl⟩
     have hr3:clS.row c fs3=nrow zc (.slice sa3 m sc3):=by
      show nrow (cn c) (if c.kind=7 then fs3 else .slice none 0 0)=_
      rw[hL3,hzc]
     have hr4:clS.row c fs4=nrow zc (.slice sa4 m sc4):=by
      show nrow (cn c) (if c.kind=7 then fs4 else .slice none 0 0)=_
      rw[hL4,hzc]
     rw[hr3]at hcl3'
     rw[hr4]at hcl4'
     have hcall:∀ W,Below w3.heap.size w3 W→Calls Tryz.prog 9 #[.agg #[.int .i64 zc.kind,.int .i64 zc.n,.int .u64 zc.u,.bool zc.b,.string (mkB zc.s),.int .i64 zc.type,.slice sa3 m sc3],.agg #[.int .i64 zc.kind,.int .i64 zc.n,.int .u64 zc.u,.bool zc.b,.string (mkB zc.s),.int .i64 zc.type,.slice sa4 m sc4]] W fun e w'=>e=.returned (.bool true)∧Below w3.heap.size w3 w':=fun W hW=>by
      have hw:=hBw3.trans (hW.mono hBw3.size)
      exact(HIH.out f2 (by omega) c zc sa3 sa4 m sc3 sc4 W hzc hfitc (HC3.mv (fun b hb=>hw.block b hb) (fun b hb=>by have hb':b<w.heap.size:=hb;have:=hw.size;omega)) (HC4.mv (fun b hb=>hw.block b hb) (fun b hb=>by have hb':b<w.heap.size:=hb;have:=hw.size;omega))).mono fun e w' ⟨h1,h2⟩=>⟨h1,hW.trans (h2.mono hW.size)⟩
     obtain⟨ck,cnn,cu,cb,cs,ct,cf⟩:=zc
     dsimp only at hcall
     have y0:∀ W,Below w3.heap.size w3 W→W.cell? ⟨g3,o3+a*7,none⟩=some (.int .i64 ck):=fun W hW=>(hW.cell (by simp;have:=hBw3.size;omega)).trans (by have:=hcl3' 0 _ rfl;simpa [clS]using this)
     have y1:∀ W,Below w3.heap.size w3 W→W.cell? ⟨g3,o3+a*7+1,none⟩=some (.int .i64 cnn):=fun W hW=>(hW.cell (by simp;have:=hBw3.size;omega)).trans (by have:=hcl3' 1 _ rfl;simpa [clS]using this)
     have y2:∀ W,Below w3.heap.size w3 W→W.cell? ⟨g3,o3+a*7+2,none⟩=some (.int .u64 cu):=fun W hW=>(hW.cell (by simp;have:=hBw3.size;omega)).trans (by have:=hcl3' 2 _ rfl;simpa [clS]using this)
     have y3:∀ W,Below w3.heap.size w3 W→W.cell? ⟨g3,o3+a*7+3,none⟩=some (.bool cb):=fun W hW=>(hW.cell (by simp;have:=hBw3.size;omega)).trans (by have:=hcl3' 3 _ rfl;simpa [clS]using this)
     have y4:∀ W,Below w3.heap.size w3 W→W.cell? ⟨g3,o3+a*7+4,none⟩=some (.string (mkB cs)):=fun W hW=>(hW.cell (by simp;have:=hBw3.size;omega)).trans (by have:=hcl3' 4 _ rfl;simpa [clS]using this)
     have y5:∀ W,Below w3.heap.size w3 W→W.cell? ⟨g3,o3+a*7+5,none⟩=some (.int .i64 ct):=fun W hW=>(hW.cell (by simp;have:=hBw3.size;omega)).trans (by have:=hcl3' 5 _ rfl;simpa [clS]using this)
     have y6:∀ W,Below w3.heap.size w3 W→W.cell? ⟨g3,o3+a*7+6,none⟩=some (.slice sa3 m sc3):=fun W hW=>(hW.cell (by simp;have:=hBw3.size;omega)).trans (by have:=hcl3' 6 _ rfl;simpa [clS]using this)
     have x0:∀ W,Below w3.heap.size w3 W→W.cell? ⟨g4,o4+a*7,none⟩=some (.int .i64 ck):=fun W hW=>(hW.cell (by simp;have:=hBw3.size;omega)).trans (by have:=hcl4' 0 _ rfl;simpa [clS]using this)
     have x1:∀ W,Below w3.heap.size w3 W→W.cell? ⟨g4,o4+a*7+1,none⟩=some (.int .i64 cnn):=fun W hW=>(hW.cell (by simp;have:=hBw3.size;omega)).trans (by have:=hcl4' 1 _ rfl;simpa [clS]using this)
     have x2:∀ W,Below w3.heap.size w3 W→W.cell? ⟨g4,o4+a*7+2,none⟩=some (.int .u64 cu):=fun W hW=>(hW.cell (by simp;have:=hBw3.size;omega)).trans (by have:=hcl4' 2 _ rfl;simpa [clS]using this)
     have x3:∀ W,Below w3.heap.size w3 W→W.cell? ⟨g4,o4+a*7+3,none⟩=some (.bool cb):=fun W hW=>(hW.cell (by simp;have:=hBw3.size;omega)).trans (by have:=hcl4' 3 _ rfl;simpa [clS]using this)
     have x4:∀ W,Below w3.heap.size w3 W→W.cell? ⟨g4,o4+a*7+4,none⟩=some (.string (mkB cs)):=fun W hW=>(hW.cell (by simp;have:=hBw3.size;omega)).trans (by have:=hcl4' 4 _ rfl;simpa [clS]using this)
     have x5:∀ W,Below w3.heap.size w3 W→W.cell? ⟨g4,o4+a*7+5,none⟩=some (.int .i64 ct):=fun W hW=>(hW.cell (by simp;have:=hBw3.size;omega)).trans (by have:=hcl4' 5 _ rfl;simpa [clS]using this)
     have x6:∀ W,Below w3.heap.size w3 W→W.cell? ⟨g4,o4+a*7+6,none⟩=some (.slice sa4 m sc4):=fun W hW=>(hW.cell (by simp;have:=hBw3.size;omega)).trans (by have:=hcl4' 6 _ rfl;simpa [clS]using this)
     have hD1:=(hbel.block _ hd1).trans HD1.out
     have hD2:=(hbel.block _ hd2).trans HD2.out
     have p1:∀ W,Below w3.heap.size w3 W→W.cell? ⟨D1,1,none⟩=some (.slice (some ⟨g3,o3,none⟩) mv vc1):=fun W hW=>(hW.cell (by simp;omega)).trans (cell_at hD1 1 rfl)
     have p2:∀ W,Below w3.heap.size w3 W→W.cell? ⟨D2,1,none⟩=some (.slice (some ⟨g4,o4,none⟩) mv vc2):=fun W hW=>(hW.cell (by simp;omega)).trans (cell_at hD2 1 rfl)
     have ha0:(0:Int)≤(a:Int):=by omega
     have ha1:(a:Int)<(mv:Int):=by omega
     have hwa:=wQz a (by omega)
     have hS0:Below w3.heap.size w3 w3.drew:=(Below.refl _ _).drew
     clear hsl3 hsl4 hg3 hg4 hc hcl3 hcl4 hcl3' hcl4' hh3 hh4 hfitc hL3 hL4 HC3 HC4 hzc hr3 hr4 hbel hBw3 hD1 hD2 HKC
     go_upto_region 12 with fail
     go_cut [105] (fun v wx=>v=.bool false∧Below w3.heap.size w3 wx)
     case first=>
      clear HIH
      refine wp_region_held_drew (S:=fun W=>Below w3.heap.size w3 W) (by kernel_rfl) hS0 (fun _=>?_)
      refine T_on 0 (.pointer (some ⟨D1,1,none⟩)) rfl (by kernel_rfl) (fun _ _ _ h=>h) hS0 (fun W hW=>by go_simp) ?_
      refine T_on 1 (.slice (some ⟨g3,o3,none⟩) mv vc1) rfl (by kernel_rfl) (fun _ _ _ h=>h) hS0 (fun W hW=>by have c:=p1 W hW;go_simp) ?_
      refine T_on 2 (.int .i64 (a:Int)) rfl (by kernel_rfl) (fun _ _ _ h=>h) hS0 (fun W hW=>by go_simp) ?_
      refine T_on 3 (.pointer (some ⟨g3,o3+a*7,none⟩)) rfl (by kernel_rfl) (fun _ _ _ h=>h) hS0 (fun W hW=>by go_simp) ?_
      refine T_on 4 (.agg #[.int .i64 ck,.int .i64 cnn,.int .u64 cu,.bool cb,.string (mkB cs),.int .i64 ct,.slice sa3 m sc3]) rfl (by kernel_rfl) (fun _ _ _ h=>h) hS0 (fun W hW=>by have c0:=y0 W hW;have c1:=y1 W hW;have c2:=y2 W hW;have c3:=y3 W hW;have c4:=y4 W hW;have c5:=y5 W hW;have c6:=y6 W hW;go_simp) ?_
      refine T_on 5 (.pointer (some ⟨D2,1,none⟩)) rfl (by kernel_rfl) (fun _ _ _ h=>h) hS0 (fun W hW=>by go_simp) ?_
      refine T_on 6 (.slice (some ⟨g4,o4,none⟩) mv vc2) rfl (by kernel_rfl) (fun _ _ _ h=>h) hS0 (fun W hW=>by have c:=p2 W hW;go_simp) ?_
      refine T_on 7 (.int .i64 (a:Int)) rfl (by kernel_rfl) (fun _ _ _ h=>h) hS0 (fun W hW=>by go_simp) ?_
      refine T_on 8 (.pointer (some ⟨g4,o4+a*7,none⟩)) rfl (by kernel_rfl) (fun _ _ _ h=>h) hS0 (fun W hW=>by go_simp) ?_
      refine T_on 9 (.agg #[.int .i64 ck,.int .i64 cnn,.int .u64 cu,.bool cb,.string (mkB cs),.int .i64 ct,.slice sa4 m sc4]) rfl (by kernel_rfl) (fun _ _ _ h=>h) hS0 (fun W hW=>by have c0:=x0 W hW;have c1:=x1 W hW;have c2:=x2 W hW;have c3:=x3 W hW;have c4:=x4 W hW;have c5:=x5 W hW;have c6:=x6 W hW;go_simp) ?_
      refine T_call 10 (by kernel_rfl) rfl (fun K hK=>?_)
      go_simp
      refine(hcall _ hS0).mono ?_
      rintro e W9 ⟨rfl,hW9⟩
      clear hS0
      have hS0:=hW9
      clear hW9
      dsimp only
      refine hK.out _ _ hS0 (fun _=>?_)
      clear hK K
      refine T_on 11 (.bool false) rfl (by kernel_rfl) (fun _ _ _ h=>h) hS0 (fun W hW=>by go_simp) ?_
      refine wpAnyH_done (by kernel_rfl) ?_ _
      go_simp
      go_wp2_with fail
      go_meet
      exact⟨rfl,hS0⟩
     case rest=>
     obtain⟨rfl,hS1⟩:=hcut
     generalize wc=W5 at *
     have HXR:=hQz (HB3.out.trans (hS1.mono h3s))
     clear hS0 hS1 hcall p1 p2 y0 x0 y1 x1 y2 x2 y3 x3 y4 x4 y5 x5 y6 x6 HIH
     go_wp2_with fail
     go_roundw
     case rel=>exact⟨a+1,by go_num,by omega,HXR.out⟩
     case measure=>simp[intOf];omega
    ·have han':¬(a:Int)<(mv:Int):=by omega
     have HVR:=hQz (HVX.out.trans (hbel.mono HVX.out.size))
     clear hbel hBw3 HIH
     go_wp2_with fail
     go_roundw
     case rel=>exact⟨k+1,by go_num,by omega,HVR.out⟩
     case measure=>simp[intOf];omega
  ·have hkn':¬(k:Int)<(ln:Int):=by omega
   clear hbel hBw HIH
   go_wp2_with fail
   go_ret
   exact⟨rfl,HBW.out⟩
end Go.Proofs.YteajlfgbmefncaaGreatDoor
