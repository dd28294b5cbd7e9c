/-
  Walks and plain words (DcP).
-/
import Derived.Test.YteajlfgbmefncaaGreatDoorN35
import Derived.Test.YteajlfgbmefncaaGreatDoorN20
import Derived.Test.YteajlfgbmefncaaGreatDoorN18
namespace Go.Proofs.YteajlfgbmefncaaGreatDoor
set_option linter.unusedVariables false
open Go.ChangeShapes Go.WideShapes Go.ChangeAt Go.RowKit

theorem bin_of {w:World} {a:Option Addr} {len c:Nat} {zs:List Int} (h:IsB w a len zs) (hn:NoA a len c) (hl:len≤140737488355328):BIn w (fun b=>b<w.heap.size) a c zs:=by
 obtain⟨h1,h2,h3⟩:=h
 refine⟨by omega,fun h=>by have:=hn.1 h;omega,?_,by have:=hn.2.1;omega,hn.2.2⟩
 rcases h3 with h3 | ⟨b,off,ha,hh⟩
 ·exact .inl h3
 ·cases zs with
  | nil=>exact .inl rfl
  | cons z t=>exact .inr ⟨b,off,ha,cell_ltB (hh.1 0 z rfl),hh⟩
theorem Gr.farO {w0 w w':World} {base:Nat} {T:TypeId} {k:Nat} {v:Value} {xs:List WF} {rs:List (List Value)} {row:Option Nat} (h:Gr (WRo w0) w base T k v xs rs) (hg:w.grownBy w' row) (hne:∀ b,v.ownBlock=some b→row≠some b):Gr (WRo w0) w' base T k v xs rs:=
 ⟨owns_grown h.own hg hne,h.len,h.row,fun j x r h1 h2=>h.kids j x r h1 h2⟩
theorem known_step {fs:List FD} {D:List (TF × List Int)} {k:Nat} {p:TF × List Int} (h:D[k]? = some p):knownL fs (D.take (k+1))=knownL fs (D.take k)++(if isKn fs p=true then [wfOf p] else []):=by
 unfold knownL
 rw[show D.take (k+1)=D.take k++[p] from take_snoc h,List.filter_append,List.map_append]
 congr 1
 cases hd:isKn fs p <;> simp[hd]
theorem unkn_step {fs:List FD} {D:List (TF × List Int)} {k:Nat} {p:TF × List Int} (h:D[k]? = some p):unknL fs (D.take (k+1))=unknL fs (D.take k)++(if isKn fs p=true then [] else p.2):=by
 unfold unknL
 rw[show D.take (k+1)=D.take k++[p] from take_snoc h,List.filter_append,List.flatMap_append]
 congr 1
 cases hd:isKn fs p <;> simp[hd]
theorem unkn_len (fs:List FD) (D:List (TF × List Int)) (k:Nat):(unknL fs (D.take k)).length≤(D.flatMap fun p=>p.2).length:=by
 unfold unknL
 rw[flatLen,flatLen]
 have h1:=sumL_filter (fun p:TF × List Int=>p.2.length) (fun p=>!isKn fs p) (D.take k)
 have h2:sumL (fun p:TF × List Int=>p.2.length) (D.take k)≤sumL (fun p=>p.2.length) D:=by
  have h3:=sumL_append (fun p:TF × List Int=>p.2.length) (D.take k) (D.drop k)
  rw[List.take_append_drop]at h3
  omega
 omega
theorem piece_le {D:List (TF × List Int)} {p:TF × List Int} (h:p∈D):p.2.length≤(D.flatMap fun p=>p.2).length:=by
 rw[flatLen]
 exact sumL_mem (g:=fun p:TF × List Int=>p.2.length) h
def PtAns (fs:List FD) (zs:List Int) (w:World) (e:Ending) (w':World):Prop:=match split zs with
 | none=>e=.returned (.tuple #[.slice none 0 0,.string ⟨#[]⟩,.int .i64 2])∧Below w.heap.size w w'
 | some D=>∃ ad c,e=.returned (.tuple #[.slice ad (knownL fs D).length c,.string (mkB (u8s (unknL fs D))),.int .i64 0])∧WfIn w' (fun b=>b<w'.heap.size) (.slice ad (knownL fs D).length c) (knownL fs D)∧Below w.heap.size w w'
set_option maxHeartbeats 32000000 in
set_option maxRecDepth 20000 in
theorem parted_any (nn:List UInt8) (fa:Option Addr) (n fc:Nat) (fs:List FD) (a:Option Addr) (len cap:Nat) (zs:List Int) (w:World) (hn:fs.length=n) (hl:n≤100000) (hH:RowsIn w (fun b=>b<w.heap.size) 5 fdrow (.slice fa n fc) fs) (hB:IsB w a len zs) (hlc:len≤cap) (hcm:cap≤9223372036854775807) (hlm:len≤100000) :
  Calls Tryz.prog 26 #[.agg #[.string (mkB nn),.slice fa n fc],.slice a len cap] w fun e w'=>PtAns fs zs w e w':=by
 obtain⟨V,hV,hC,hb,hVs⟩:=box_new w #[.string (mkB nn),.slice fa n fc] 54
 have HV:=hQz hV
 have HBV:=hQz hb
 have HCV:=hQz hC
 have hVl:w.heap.size+1≤V.heap.size:=by omega
 have h:=splitW_any a len cap zs V (isB_old hB hb) hlc hcm (by omega)
 have HKN:Hid (∀ (num ty:Int) (W:World),Below w.heap.size w W→Calls Tryz.prog 53 #[.agg #[.string (mkB nn),.slice fa n fc],.int .i64 num,.int .i64 ty] W fun e w'=>e=.returned (.bool (knownP fs num ty))∧Below W.heap.size W w'):=by
  refine(?_:∀ (num ty:Int) (W:World),_→_)
  intro num ty W hW
  exact knownP_any nn fa n fc fs num ty W hn hl ((RowsIn.old hH fun b h=>hW.block b h).more fun b h=>by have:=hW.size;omega)
 have HZB:Hid (IsBs zs):=fun z hz=>isB_bytes hB z hz
 have HZL:Hid (zs.length=len):=hB.1
 clear hn hH hC hV hb hVs hB
 go_enter Tryz.func26,Tryz.ntmps26
 go_upto_region 1 with fail
 rw[HV.out]
 go_wp2_with fail
 refine h.mono ?_
 intro e W1 hans
 clear h
 cases hsp:split zs with
 | none=>
  rw[hsp]at hans
  obtain⟨rfl,hb1⟩:=hans
  have HB1:=hQz (HBV.out.trans (hb1.mono HBV.out.size))
  have HSP:=hQz hsp
  clear hsp hb1
  go_wp2_with fail
  go_ret3
  unfold PtAns
  rw[HSP.out]
  exact⟨rfl,HB1.out⟩
 | some D=>
  rw[hsp]at hans
  obtain⟨vF,vR,xs,ps,rfl,hst,hFF,hFR,hb1⟩:=hans
  obtain⟨aF,cF,aR,cR,rfl,rfl,hlF,hlR,hcF,hcR⟩:=st_shapes hst
  have HB1:=hQz (HBV.out.trans (hb1.mono HBV.out.size))
  have HC1:Hid (W1.heap[w.heap.size]? = some (.cells #[.string (mkB nn),.slice fa n fc] 54 (0,0))):=(hb1.block _ (by omega)).trans HCV.out
  have HCF:=hQz hcF
  have HCR:=hQz hcR
  have HFF:=hQz hFF
  have HFR:=hQz hFR
  have HSP:=hQz hsp
  have HPO:=hQz (split_ok _ (Nat.le_refl _) HZB.out hsp)
  have HFL:Hid ((D.flatMap fun p=>p.2)=zs):=split_flat zs D hsp
  obtain⟨m,hm⟩:∃ m,xs.length=m:=⟨_,rfl⟩
  have HM:Hid (D.length=m):=by
   refine(?_:_=_)
   rw[←hm,hFF.len]
  have hmr:ps.length=m:=by rw[hFR.len];exact HM.out
  have hmb:m≤100000:=by
   have h1:=spl_len _ _ D HZB.out hsp
   have:=HM.out
   have:=HZL.out
   omega
  rw[hm]at hlF ⊢
  rw[hmr]at hlR ⊢
  have h1s:w.heap.size+1≤W1.heap.size:=by have:=hb1.size;omega
  clear hst hFF hFR hb1 hcF hcR hsp hm hmr HBV HCV hVl
  go_wp2_with fail
  go_loopw [10,11,25] (fun kv uv i wr=>∃ (k:Nat) (kn un:Value) (rs:List (List Value)),kn=kv∧un=uv∧i=.int .i64 (k:Int)∧k≤m∧Below W1.heap.size W1 wr∧Gr (WRo W1) wr W1.heap.size 123 4 kn (knownL fs (D.take k)) rs∧OwnB wr W1.heap.size un (unknL fs (D.take k))∧(∀ b,kn.ownBlock=some b→un.ownBlock≠some b)) (fun _ _ i _=>m - (intOf i).toNat)
  case atStart=>exact⟨0,_,_,[],rfl,rfl,rfl,Nat.zero_le _,Below.refl _ _,Gr.nil _ _ _ _ _,own_nil _ _,fun b h=>by simp[Value.ownBlock]at h⟩
  case round=>
   generalize wr=w1 at *
   obtain⟨k,kn,un,rs,rfl,rfl,rfl,hk,hbel,hgr,hou,hap⟩:=hrel
   obtain⟨oa,oc,hov⟩:=own_slice hgr.own
   obtain⟨q,hq⟩:∃ q,(knownL fs (D.take k)).length=q:=⟨_,rfl⟩
   rw[hq]at hov
   subst hov
   have hqk:q≤100000:=by
    have h1:(knownL fs (D.take k)).length≤(D.take k).length:=by unfold knownL;rw[List.length_map];exact List.length_filter_le _ _
    rw[List.length_take]at h1
    omega
   have HQ:=hQz hq
   have HBE:=hQz hbel
   have HGR:=hQz hgr
   have HOU:=hQz hou
   have HAP:=hQz hap
   have HBW:=hQz (HB1.out.trans (hbel.mono HB1.out.size))
   have hws:=hbel.size
   have hul:(unknL fs (D.take k)).length≤100000:=by
    have h1:=unkn_len fs D k
    rw[HFL.out,HZL.out]at h1
    omega
   have HKB:Hid (∀ b,(Value.slice oa q oc).ownBlock=some b→W1.heap.size≤b∧b<w1.heap.size):=hgr.blk
   clear hgr hou hap hq
   by_cases hkn:k<m
   ·obtain⟨f,p,hf,hp,hsay⟩:=fits_at HFF.out k (by have:=HM.out;omega)
    obtain⟨r,p',hr,hp',hrz⟩:=fitsR_at HFR.out k (by have:=HM.out;omega)
    have hpp:p'=p:=Option.some.inj (hp'.symm.trans hp)
    subst hpp
    obtain⟨g,hag,e0,e1,e2,e3,hfI,hg⟩:=HCF.out k f hf
    subst hag
    obtain⟨g2,hag2,e4,hrI,hg2⟩:=HCR.out k r hr
    subst hag2
    have hno:=HFF.out.2 f (List.mem_of_getElem? hf)
    have hnr:=HFR.out.2 r (List.mem_of_getElem? hr)
    have hP:=HPO.out p' (List.mem_of_getElem? hp)
    have hple:=piece_le (List.mem_of_getElem? hp)
    rw[HFL.out,HZL.out]at hple
    have h1:f.num=p'.1.num:=congrArg (fun t=>t.1) hsay
    have h2:f.ty=p'.1.ty:=congrArg (fun t=>t.2.1) hsay
    have h3:f.n=p'.1.n:=congrArg (fun t=>t.2.2.1) hsay
    have h4:f.d=p'.1.data:=congrArg (fun t=>t.2.2.2) hsay
    have hdl:f.len≤100000:=by
     have:=hfI.1
     rw[h4]at this
     have:=hP.dl
     omega
    have hbi:=bin_of hfI hno (by omega)
    have HTK:=hQz (known_step (fs:=fs) hp)
    have HTU:=hQz (unkn_step (fs:=fs) hp)
    have HIK:Hid (isKn fs p'=knownP fs f.num f.ty):=by
     refine(?_:_=_)
     unfold isKn;rw[h1,h2]
    have HWO:Hid (wfOf p'=⟨f.num,f.ty,f.n,f.d⟩):=by
     refine(?_:_=_)
     unfold wfOf;rw[h1,h2,h3,h4]
    have HRZ:=hQz hrz
    rw[hrz]at hrI
    have HRI:Hid (∀ W,Below W1.heap.size W1 W→IsB W r.a r.len p'.2):=fun W hW=>isB_old hrI hW
    have HNR:=hQz hnr
    have HFI:Hid (f.d.length=f.len):=hfI.1
    have hrb:r.len≤100000:=by have:=hrI.1;omega
    have e0:w1.cell? ⟨g,k*4,none⟩=some (.int .i64 f.num):=by rw[hbel.cell hg];exact e0
    have e1:w1.cell? ⟨g,k*4+1,none⟩=some (.int .i64 f.ty):=by rw[hbel.cell hg];exact e1
    have e2:w1.cell? ⟨g,k*4+2,none⟩=some (.int .u64 f.n):=by rw[hbel.cell hg];exact e2
    have e3:w1.cell? ⟨g,k*4+3,none⟩=some (.slice f.a f.len f.cap):=by rw[hbel.cell hg];exact e3
    have E4:Hid (∀ W,Below W1.heap.size W1 W→W.cell? ⟨g2,k,none⟩=some (.slice r.a r.len r.cap)):=fun W hW=>(hW.cell hg2).trans e4
    have HBI:=hQz hbi
    have hk0:(0:Int)≤(k:Int):=by omega
    have hk1:(k:Int)<(m:Int):=by omega
    have hwk:=wQz k (by omega)
    have hc1:=(hbel.block _ (by omega)).trans HC1.out
    have hKn:=HKN.out f.num f.ty
    obtain⟨B,hB⟩:∃ B,knownP fs f.num f.ty=B:=⟨_,rfl⟩
    rw[hB]at HIK
    simp only[hB]at hKn
    rw[HIK.out]at HTK HTU
    rw[HWO.out]at HTK
    clear hf hp hsay hp' hr hrz hrI hfI hno hnr hP hbi h1 h2 h3 h4 e4 hB HIK HWO
    obtain⟨fnum,fty,fn,fa',flen,fcap,fd⟩:=f
    dsimp only at e0 e1 e2 e3 hKn HBI HTK HFI hdl
    obtain⟨ra,rlen,rcap,rzs⟩:=r
    dsimp only at HRI HNR E4 HRZ hrb
    obtain⟨X,hX,hXC,hXb,hXs⟩:=box_new w1 #[.int .i64 fnum,.int .i64 fty,.int .u64 fn,.slice fa' flen fcap] 123
    have HX:=hQz hX
    have hBX:=HBW.out.trans (hXb.mono (by omega))
    have hWX:=hbel.trans (hXb.mono hws)
    have hcX:=(hXb.block _ (by omega)).trans hc1
    have HXC:=hQz hXC
    have HWX:=hQz hWX
    have l0:=cell_at hXC 0 rfl
    have l1:=cell_at hXC 1 rfl
    have d0:=cell_at hcX 0 rfl
    have d1:=cell_at hcX 1 rfl
    have h:=hKn X hBX
    have hX1:Below w1.heap.size w1 X:=hXb
    have HX1:=hQz hX1
    have hXl:w1.heap.size+1=X.heap.size:=by omega
    clear hX hXC hXb hXs hcX hc1 hKn hBX hWX hbel hX1
    go_upto_region 9 with fail
    rw[HX.out]
    clear e0 e1 e2 e3
    go_wp2_with fail
    refine h.mono ?_
    rintro e W2 ⟨rfl,hb2⟩
    have h2s:=hb2.size
    have HB12:=hQz (HX1.out.trans (hb2.mono HX1.out.size))
    have HW2:=hQz (HWX.out.trans (hb2.mono HWX.out.size))
    have hC2:=(hb2.block w1.heap.size (by omega)).trans HXC.out
    clear hb2 h l0 l1 d0 d1
    cases B
    case true=>
     rw[if_pos rfl]at HTK HTU
     rw[List.append_nil]at HTU
     have t0:=cell_at hC2 0 rfl
     have t1:=cell_at hC2 1 rfl
     have t2:=cell_at hC2 2 rfl
     have t3:=cell_at hC2 3 rfl
     obtain⟨A,hA,hAC,hAb,hAs⟩:=box_new W2 #[.int .i64 fnum,.int .i64 fty,.int .u64 fn,.slice fa' flen fcap] 123
     have HA:=hQz hA
     have HAC:=hQz hAC
     have h1A:=HB12.out.trans (hAb.mono HB12.out.size)
     have HGA:Hid (Gr (WRo W1) A W1.heap.size 123 4 (.slice oa q oc) (knownL fs (D.take k)) rs):=HGR.out.keep (mvsO W1) (fun b _ hb=>h1A.block b hb) h1A.size
     have HOA:Hid (OwnB A W1.heap.size un (unknL fs (D.take k))):=own_old HOU.out h1A
     have HOW:Hid (A.ownsRow W1.heap.size 123 4 (.slice oa q oc) q (rs.flatMap id)):=by
      refine(?_:World.ownsRow _ _ _ _ _ _ _)
      have:=HGA.out.own
      rw[HQ.out]at this
      exact this
     have HBA:=hQz (HW2.out.trans (hAb.mono HW2.out.size))
     have hAl:W1.heap.size≤A.heap.size:=HBA.out.size
     have hA1:=h1A.size
     clear hA hAC hAb hAs h1A hC2 E4 HRI HNR
     go_wp2_with (at_builtin;rw[HA.out];refine row_pushL (T:=123) (t:=83) Tryz.underlying83 infoWF rfl (by decide) HOW.out hAl [.int .i64 fnum,.int .i64 fty,.int .u64 fn,.slice fa' flen fcap] rfl (by simp[Value.oneCell']) W2.heap.size HAC.out rfl _ _ rfl rfl rfl (by unfold maxLen;omega) (by omega) ?_;intro g6 cap6 W6 hown6 hgr6 hat6 hlt6)
     have HG6:Hid (Gr (WRo W1) W6 W1.heap.size 123 4 (.slice (some ⟨g6,0,none⟩) (q+1) cap6) (knownL fs (D.take (k+1))) (rs++[[.int .i64 fnum,.int .i64 fty,.int .u64 fn,.slice fa' flen fcap]])):=by
      refine(?_:Gr _ _ _ _ _ _ _ _)
      rw[HTK.out]
      exact HGA.out.push (mvsO W1) (x:=⟨fnum,fty,fn,fd⟩) (r:=[.int .i64 fnum,.int .i64 fty,.int .u64 fn,.slice fa' flen fcap]) rfl ⟨fa',fcap,by dsimp only;rw[HFI.out],HBI.out⟩ HQ.out hown6 hgr6 hat6
     have HO6:Hid (OwnB W6 W1.heap.size un (unknL fs (D.take (k+1)))):=by
      refine(?_:OwnB _ _ _ _)
      rw[HTU.out]
      exact owns_grown HOA.out hgr6 (fun b hb e=>HAP.out b e hb)
     have HB6:Hid (Below W1.heap.size W1 W6):=HBA.out.grown hgr6 (by omega) (fun b hb=>(HKB.out b hb).1)
     have HA6:Hid (∀ b,(Value.slice (some ⟨g6,0,none⟩) (q+1) cap6).ownBlock=some b→un.ownBlock≠some b):=by
      refine(?_:∀ b,_→_)
      intro b hb
      have e:g6=b:=by simpa [Value.ownBlock]using hb
      subst e
      rcases hat6 with h | h
      ·exact HAP.out g6 h
      ·intro e2
       have:=(owns_lt HOA.out g6 e2).1
       omega
     clear hown6 hgr6 hat6 hlt6 t0 t1 t2 t3
     go_wp2_with fail
     go_roundw
     case rel=>exact⟨k+1,_,_,_,rfl,rfl,by go_num,by omega,HB6.out,HG6.out,HO6.out,HA6.out⟩
     case measure=>simp[intOf];omega
    case false=>
     rw[if_neg (by simp)]at HTK HTU
     rw[List.append_nil]at HTK
     have e4:=E4.out W2 HW2.out
     have hI:=HRI.out W2 HW2.out
     have HII:=hQz hI
     have HG2:Hid (Gr (WRo W1) W2 W1.heap.size 123 4 (.slice oa q oc) (knownL fs (D.take k)) rs):=HGR.out.keep (mvsO W1) (fun b _ hb=>HB12.out.block b hb) HB12.out.size
     have HO2:Hid (OwnB W2 W1.heap.size un (unknL fs (D.take k))):=own_old HOU.out HB12.out
     have hW2l:W1.heap.size≤W2.heap.size:=HW2.out.size
     clear hI hC2 E4 HRI
     go_wp2_with (at_builtin;refine wpB_at rfl _ _ rfl W1.heap.size un _ rfl HO2.out ra rlen rcap p'.2 rfl HII.out HNR.out.1 (by omega) hW2l ?_;intro v6 W6 hown6 hgr6 hat6)
     have HO6:Hid (OwnB W6 W1.heap.size v6 (unknL fs (D.take (k+1)))):=by
      refine(?_:OwnB _ _ _ _)
      rw[HTU.out];exact hown6
     have HG6:Hid (Gr (WRo W1) W6 W1.heap.size 123 4 (.slice oa q oc) (knownL fs (D.take (k+1))) rs):=by
      refine(?_:Gr _ _ _ _ _ _ _ _)
      rw[HTK.out]
      exact HG2.out.farO hgr6 HAP.out
     have HB6:Hid (Below W1.heap.size W1 W6):=HW2.out.grown hgr6 (by omega) (fun b hb=>own_blockB HO2.out b hb)
     have HA6:Hid (∀ b,(Value.slice oa q oc).ownBlock=some b→v6.ownBlock≠some b):=by
      refine(?_:∀ b,_→_)
      intro b hb e2
      rcases hat6 with h | h
      ·rw[h]at e2;exact HAP.out b hb e2
      ·rw[h]at e2
       have e3:W2.heap.size=b:=by simpa using e2
       have:=(HKB.out b hb).2
       have:=HB12.out.size
       omega
     clear hown6 hgr6 hat6 e4
     go_wp2_with fail
     go_roundw
     case rel=>exact⟨k+1,_,_,_,rfl,rfl,by go_num,by omega,HB6.out,HG6.out,HO6.out,HA6.out⟩
     case measure=>simp[intOf];omega
   ·have hkn':¬(k:Int)<(m:Int):=by omega
    have hte:D.take k=D:=List.take_of_length_le (by have:=HM.out;omega)
    rw[hte]at HGR HOU HQ hul
    have hWo:=HGR.out.olds HBE.out
    have hub:IsBs (unknL fs D):=fun z hz=>by
     unfold unknL at hz
     obtain⟨p,hp,hz⟩:=List.mem_flatMap.1 hz
     exact(HPO.out p (List.mem_filter.1 hp).1).bs z hz
    obtain⟨ua,uc,hu,hui⟩:=own_BIn HOU.out hub (by omega)
    subst hu
    have hst:∀ W,Below w1.heap.size w1 W→(convert 27 9 (.slice ua (unknL fs D).length uc)).run Tryz.prog W=.ok (.string (mkB (u8s (unknL fs D)))) W:=fun W hW=>run_strT 9 Tryz.underlying9 W ua (unknL fs D).length uc (unknL fs D) (isB_old hui.isB hW)
    have HRES:Hid (∀ W,Below w1.heap.size w1 W→PtAns fs zs w (.returned (.tuple #[.slice oa q oc,.string (mkB (u8s (unknL fs D))),.int .i64 0])) W):=by
     refine(?_:∀ W,_→_)
     intro W hW
     unfold PtAns
     rw[HSP.out]
     refine⟨oa,oc,by rw[HQ.out],?_,HBW.out.trans (hW.mono HBW.out.size)⟩
     rw[HQ.out]
     refine SlIn.imp hWo (fun b hb=>by have hb':b<w1.heap.size:=hb;have:=hW.size;omega) (fun y g o hg hy=>?_)
     obtain⟨a,c,h1,h2⟩:=hy
     exact⟨a,c,h1.old (hW.block g hg),h2.mv (fun b hb=>hW.block b hb) (fun b hb=>by have hb':b<w1.heap.size:=hb;have:=hW.size;omega)⟩
    generalize unknL fs D=U at *
    clear hte hWo hub hui hbel
    go_upto_region 13 with fail
    have hS0:Below w1.heap.size w1 w1.drew:=(Below.refl _ _).drew
    refine wp_region_held_drew (S:=fun W=>Below w1.heap.size w1 W) (by kernel_rfl) hS0 (fun _=>?_)
    refine T_on 0 (.slice oa q oc) rfl (by kernel_rfl) (fun _ _ _ h=>h) hS0 (fun W hW=>by go_simp) ?_
    refine T_on 1 (.slice ua U.length uc) rfl (by kernel_rfl) (fun _ _ _ h=>h) hS0 (fun W hW=>by go_simp) ?_
    refine T_on 2 (.string (mkB (u8s U))) rfl (by kernel_rfl) (fun _ _ _ h=>h) hS0 (fun W hW=>by have c:=hst W hW;go_simp) ?_
    refine T_on 3 (.slice oa q oc) rfl (by kernel_rfl) (fun _ _ _ h=>h) hS0 (fun W hW=>by go_simp) ?_
    refine T_on 4 (.string (mkB (u8s U))) rfl (by kernel_rfl) (fun _ _ _ h=>h) hS0 (fun W hW=>by go_simp) ?_
    refine T_on 5 (.int .i64 0) rfl (by kernel_rfl) (fun _ _ _ h=>h) hS0 (fun W hW=>by go_simp) ?_
    refine wpAnyH_done (by kernel_rfl) ?_ _
    go_simp
    try go_wp2_with fail
    go_ret3
    exact HRES.out _ hS0
end Go.Proofs.YteajlfgbmefncaaGreatDoor
