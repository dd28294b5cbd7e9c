/-
  Walks and plain words (SxC).
-/
import Derived.Test.YtpojeinddnjpfaaGreatDoorM0
import Derived.Test.YtpojeinddnjpfaaGreatDoorM32
import Derived.Deep.Cut
import Derived.Deep.DeepCutAuto
namespace Go.Proofs.YtpojeinddnjpfaaGreatDoor
set_option linter.unusedVariables false
open Go.ChangeShapes Go.WideShapes Go.ChangeAt Go.RowKit

def aGa (x:List UInt8):List Value:=[.string (aC x)]
def xG (res:Option Sy) (e:Ending):Prop:=
 (∃ s:Sy,res=some s∧e=.returned (.tuple #[.agg #[.string (aC s.1),.int .i64 s.2],.bool true]))∨(res=none∧e=.returned (.tuple #[.agg #[.string ⟨#[]⟩,.int .i64 0],.bool false]))
def MX (f:Nat) (S:Nat→Prop) (res:Option Dc) (w':World) (xk:Int) (xs:ByteArray) (xl xc:Int) (jZ:Option Addr) (uC kA:Nat) (fC:Option Addr) (uD fD:Nat) (kB:Option Addr) (uE kC:Nat) (kD:Option Addr) (uF kE:Nat) (b:Bool):Prop:=
 (b=true∧∃ d:Dc,res=some d∧xk=d.kind∧xs=aC d.name∧xl=d.line∧xc=d.col∧uC=d.fields.length∧uD=d.values.length∧uE=d.methods.length∧uF=d.inner.length∧Kids f w' S (.slice jZ uC kA) (.slice fC uD fD) (.slice kB uE kC) (.slice kD uF kE) d)∨(b=false∧res=none)
theorem MX.old {f:Nat} {S:Nat→Prop} {res:Option Dc} {w' w2:World} {xk:Int} {xs:ByteArray} {xl xc:Int} {jZ:Option Addr} {uC kA:Nat} {fC:Option Addr} {uD fD:Nat} {kB:Option Addr} {uE kC:Nat} {kD:Option Addr} {uF kE:Nat} {b:Bool} (h:MX f S res w' xk xs xl xc jZ uC kA fC uD fD kB uE kC kD uF kE b) (ho:∀ k,S k→w2.heap[k]? = w'.heap[k]?):MX f S res w2 xk xs xl xc jZ uC kA fC uD fD kB uE kC kD uF kE b:=by
 rcases h with ⟨h1,d,h2,h3,h4,h5,h6,h7,h8,h9,h10,h11⟩ | h
 ·exact .inl ⟨h1,d,h2,h3,h4,h5,h6,h7,h8,h9,h10,h11.old ho⟩
 ·exact .inr h
def tC (f:Nat) (S:Nat→Prop) (res:Option Dc) (e:Ending) (w':World):Prop:=
 ∃ (xk:Int) (xs:ByteArray) (xl xc:Int) (jZ:Option Addr) (uC kA:Nat) (fC:Option Addr) (uD fD:Nat) (kB:Option Addr) (uE kC:Nat) (kD:Option Addr) (uF kE:Nat) (b:Bool),e=.returned (.tuple #[.agg #[.int .i64 xk,.string xs,.int .i64 xl,.int .i64 xc,.slice jZ uC kA,.slice fC uD fD,.slice kB uE kC,.slice kD uF kE],.bool b])∧MX f S res w' xk xs xl xc jZ uC kA fC uD fD kB uE kC kD uF kE b
theorem Ge {W W6:World} {o:Obj} (h:Below (W.alloc o).heap.size (W.alloc o) W6):W6.heap[W.heap.size]? = some o:=(h.block _ (by simp)).trans (alloc_heap_new _ _)
theorem xF.one {f:Nat} {S:Nat→Prop} {res:Option Dc} {e:Ending} {w':World} (h:xF f S res e w'):tC f S res e w':=by
 rcases h with ⟨d,fa,fc,va,vc,ma,mc,ia,ic,h1,h2,h3⟩ | ⟨h1,h2⟩
 ·exact⟨_,_,_,_,_,_,_,_,_,_,_,_,_,_,_,_,true,h2,.inl ⟨rfl,d,h1,rfl,rfl,rfl,rfl,rfl,rfl,rfl,rfl,h3⟩⟩
 ·exact⟨_,_,_,_,_,_,_,_,_,_,_,_,_,_,_,_,false,h2,.inr ⟨rfl,h1⟩⟩
theorem uG {f:Nat} {top:List Dc} {a:List UInt8} {ds:List Dc} {n:List UInt8} {w:World} {S:Nat→Prop} {v:Value} (hH:aM f w S v top) (hF:iV f top) {d:Dc} (h:dH f top a ds n=some d):d.inner.length≤100000:=by
 unfold dH at h
 split at h
 ·cases hf:bZ f [] top (a++n)with
  | none=>rw[hf]at h;cases h
  | some z=>
   obtain⟨z1,z2⟩:=z
   have:=(oK f top [] (a++n) w S v hH hF (by simp) z1 z2 hf).1
   rw[hf]at h
   dsimp only at h
   split at h
   ·cases h;exact this
   ·cases h
 ·cases h
set_option maxHeartbeats 16000000 in
set_option maxRecDepth 20000 in
theorem Kl (f:Nat) (top:List Dc) (tv:Value) (d:Dc) (fa:Option Addr) (fc:Nat) (va:Option Addr) (vc:Nat) (ma:Option Addr) (mc:Nat) (ia:Option Addr) (ic:Nat) (wh:List UInt8) (ns:List (List UInt8)) (nv:Value) (S:Nat→Prop) (w:World) (hct:mO (f+1) top≤100000) (hfit:iV (f+1) top) (mP:lL (f+1) top) (hdl:d.inner.length≤100000)
  (hwl:wh.length+200000001*ns.length≤1500000000000) (hnl:∀ x∈ns,x.length≤200000000) (hT:aM (f+1) w S tv top) (hK:Kids (f+1) w S (.slice fa d.fields.length fc) (.slice va d.values.length vc) (.slice ma d.methods.length mc) (.slice ia d.inner.length ic) d) (hN:RowsIn w (fun b=>b<w.heap.size) 1 aGa nv ns) (hS:∀ b,S b→b<w.heap.size) :
  Calls Tryz.prog 175 #[.agg #[.string ⟨#[]⟩,tv],.agg #[.int .i64 d.kind,.string (aC d.name),.int .i64 d.line,.int .i64 d.col,.slice fa d.fields.length fc,.slice va d.values.length vc,.slice ma d.methods.length mc,.slice ia d.inner.length ic],.string (aC wh),nv] w fun e w'=>xG (eU (f+1) top d wh ns) e∧Below w.heap.size w w':=by
 obtain⟨ta,tc,rfl⟩:=hT.eI
 obtain⟨na,nc,rfl,hnc,hN⟩:=hN
 have jS:(((w.alloc (.cells #[.string ⟨#[]⟩,.slice ta top.length tc] 173)).alloc (.cells #[.int .i64 d.kind,.string (aC d.name),.int .i64 d.line,.int .i64 d.col,.slice fa d.fields.length fc,.slice va d.values.length vc,.slice ma d.methods.length mc,.slice ia d.inner.length ic] 69)).alloc (.cells #[.string ⟨#[]⟩,.int .i64 0] 115)).heap[w.heap.size]? = some (.cells #[.string ⟨#[]⟩,.slice ta top.length tc] 173 (0,0)):=by
  rw[aD _ _ _ (by simp <;> omega),aD _ _ _ (by simp)];exact alloc_heap_new _ _
 have hV1:(((w.alloc (.cells #[.string ⟨#[]⟩,.slice ta top.length tc] 173)).alloc (.cells #[.int .i64 d.kind,.string (aC d.name),.int .i64 d.line,.int .i64 d.col,.slice fa d.fields.length fc,.slice va d.values.length vc,.slice ma d.methods.length mc,.slice ia d.inner.length ic] 69)).alloc (.cells #[.string ⟨#[]⟩,.int .i64 0] 115)).heap[w.heap.size+1]? = some (.cells #[.int .i64 d.kind,.string (aC d.name),.int .i64 d.line,.int .i64 d.col,.slice fa d.fields.length fc,.slice va d.values.length vc,.slice ma d.methods.length mc,.slice ia d.inner.length ic] 69 (0,0)):=by
  rw[aD _ _ _ (by simp)]
  have:=alloc_heap_new (w.alloc (.cells #[.string ⟨#[]⟩,.slice ta top.length tc] 173)) (.cells #[.int .i64 d.kind,.string (aC d.name),.int .i64 d.line,.int .i64 d.col,.slice fa d.fields.length fc,.slice va d.values.length vc,.slice ma d.methods.length mc,.slice ia d.inner.length ic] 69)
  simpa using this
 have hV2:(((w.alloc (.cells #[.string ⟨#[]⟩,.slice ta top.length tc] 173)).alloc (.cells #[.int .i64 d.kind,.string (aC d.name),.int .i64 d.line,.int .i64 d.col,.slice fa d.fields.length fc,.slice va d.values.length vc,.slice ma d.methods.length mc,.slice ia d.inner.length ic] 69)).alloc (.cells #[.string ⟨#[]⟩,.int .i64 0] 115)).heap[w.heap.size+2]? = some (.cells #[.string ⟨#[]⟩,.int .i64 0] 115 (0,0)):=by
  have:=alloc_heap_new ((w.alloc (.cells #[.string ⟨#[]⟩,.slice ta top.length tc] 173)).alloc (.cells #[.int .i64 d.kind,.string (aC d.name),.int .i64 d.line,.int .i64 d.col,.slice fa d.fields.length fc,.slice va d.values.length vc,.slice ma d.methods.length mc,.slice ia d.inner.length ic] 69)) (.cells #[.string ⟨#[]⟩,.int .i64 0] 115)
  simpa using this
 have dO:Below w.heap.size w (((w.alloc (.cells #[.string ⟨#[]⟩,.slice ta top.length tc] 173)).alloc (.cells #[.int .i64 d.kind,.string (aC d.name),.int .i64 d.line,.int .i64 d.col,.slice fa d.fields.length fc,.slice va d.values.length vc,.slice ma d.methods.length mc,.slice ia d.inner.length ic] 69)).alloc (.cells #[.string ⟨#[]⟩,.int .i64 0] 115)):=(((Below.refl _ w).alloc (Nat.le_refl _) _).alloc (by simp) _).alloc (by simp <;> omega) _
 have iH:w.heap.size+3≤(((w.alloc (.cells #[.string ⟨#[]⟩,.slice ta top.length tc] 173)).alloc (.cells #[.int .i64 d.kind,.string (aC d.name),.int .i64 d.line,.int .i64 d.col,.slice fa d.fields.length fc,.slice va d.values.length vc,.slice ma d.methods.length mc,.slice ia d.inner.length ic] 69)).alloc (.cells #[.string ⟨#[]⟩,.int .i64 0] 115)).heap.size:=by simp
 obtain⟨RES,hR⟩:∃ r,eU (f+1) top d wh ns=r:=⟨_,rfl⟩
 have HR:=aB hR
 rw[hR]
 obtain⟨n,hn⟩:∃ n,ns.length=n:=⟨_,rfl⟩
 have HN:=aB hn
 rw[hn]at hwl ⊢
 have HT:=aB hT
 have HS:=aB hS
 have Yi:=aB hN
 have HNL:=aB hnl
 have HK:=aB hK
 clear hR hT hS hN hn hnl hK
 go_enter Tryz.func175,Tryz.ntmps175
 go_upto_region 1 with fail
 generalize (((w.alloc (.cells #[.string ⟨#[]⟩,.slice ta top.length tc] 173)).alloc (.cells #[.int .i64 d.kind,.string (aC d.name),.int .i64 d.line,.int .i64 d.col,.slice fa d.fields.length fc,.slice va d.values.length vc,.slice ma d.methods.length mc,.slice ia d.inner.length ic] 69)).alloc (.cells #[.string ⟨#[]⟩,.int .i64 0] 115))=V at *
 have mV:=aB jS
 have kI:=aB hV1
 have Mw:=aB hV2
 have Bz:=aB dO
 have HKV:Hid (Kids (f+1) V S (.slice fa d.fields.length fc) (.slice va d.values.length vc) (.slice ma d.methods.length mc) (.slice ia d.inner.length ic) d):=HK.out.old fun b hb=>dO.block b (HS.out b hb)
 have HPE:Hid (n≤7500):=by refine(?_:n≤7500);omega
 clear jS hV1 hV2 dO
 go_wp2_with fail
 go_loopw [2,16] (fun ww i wr=>∃ (j:Nat) (wh:List UInt8) (d:Dc) (fa:Option Addr) (fc:Nat) (va:Option Addr) (vc:Nat) (ma:Option Addr) (mc:Nat) (ia:Option Addr) (ic:Nat),ww=.string (aC wh)∧i=.int .i64 (j:Int)∧j≤n∧Below w.heap.size w wr∧w.heap.size+3≤wr.heap.size∧wr.heap[w.heap.size]? = some (.cells #[.string ⟨#[]⟩,.slice ta top.length tc] 173 (0,0))∧wr.heap[w.heap.size+1]? = some (.cells #[.int .i64 d.kind,.string (aC d.name),.int .i64 d.line,.int .i64 d.col,.slice fa d.fields.length fc,.slice va d.values.length vc,.slice ma d.methods.length mc,.slice ia d.inner.length ic] 69 (0,0))∧wr.heap[w.heap.size+2]? = some (.cells #[.string ⟨#[]⟩,.int .i64 0] 115 (0,0))∧Kids (f+1) wr S (.slice fa d.fields.length fc) (.slice va d.values.length vc) (.slice ma d.methods.length mc) (.slice ia d.inner.length ic) d∧d.inner.length≤100000∧wh.length+200000001*(n - j)≤1500000000000∧eU (f+1) top d wh (ns.drop j)=RES) (fun _ i _=>n - (intOf i).toNat)
 case atStart=>exact⟨0,wh,d,fa,fc,va,vc,ma,mc,ia,ic,rfl,rfl,by omega,Bz.out,iH,mV.out,kI.out,Mw.out,HKV.out,hdl,by omega,HR.out⟩
 case round=>
  clear hdl hwl HKV HK HR mV kI Mw Bz iH
  obtain⟨j,Cr,d1,Gf,pfc,Gg,Gh,Gi,Gj,Cb,Cc,rfl,rfl,hj,hbq,hs1,hx0,hx1,hx2,hkq,hdl,hwl,hfo⟩:=hrel
  generalize wr=w1 at *
  have HX0:=aB hx0
  have Hs:=aB hx1
  have Yj:=aB hx2
  have dN:=aB hbq
  have HKQ:=aB hkq
  have Zl:=aB hfo
  clear hx0 hx1 hx2 hbq hkq hfo
  by_cases hjn:j<n
  ·obtain⟨nm,hnm⟩:∃ x,ns[j]? = some x:=⟨_,List.getElem?_eq_getElem (by have:=HN.out;omega)⟩
   have hdr:ns.drop j=nm :: ns.drop (j+1):=by
    rw[List.drop_eq_getElem_cons (by have:=HN.out;omega),(List.getElem?_eq_some_iff.1 hnm).2]
   have hnl:=HNL.out nm (List.mem_of_getElem? hnm)
   have hF1:=Zl.out
   rw[hdr]at hF1
   have hF1:(match dH (f+1) top (Cr++[46]) d1.inner nm with | some x=>eU (f+1) top x (Cr++46 :: nm) (ns.drop (j+1)) | none=>none)=RES:=hF1
   rcases Yi.out with h0 | ⟨gn,on,rfl,hgn,hrow⟩
   ·rw[h0]at hnm;simp at hnm
   have aVa:gn<w.heap.size:=hgn
   have en:w1.cell? ⟨gn,on+j,none⟩=some (.string (aC nm)):=by
    rw[dN.out.cell aVa]
    have:=hrow j nm hnm 0 _ rfl
    simpa using this
   have hj0:(0:Int)≤(j:Int):=by omega
   have hj1:(j:Int)<(n:Int):=by omega
   have hwq:IntKind.i64.wrap ((j:Int)+1)=(j:Int)+1:=by have:=HPE.out;rw[IntKind.wrap_i64];omega
   have hsw:=dN.out.size
   have hIn:=fun W=>xE d1 Gf pfc Gg Gh Gi Gj Cb Cc Cr W (by omega)
   have hMe:=fun (W:World) (hW:Below w1.heap.size w1 W)=>zY f top (.slice ta top.length tc) (Cr++[46]) d1.inner (.slice Cb d1.inner.length Cc) nm S W hct hfit mP hdl (by simp;omega) hnl
    (aM.old (fun b hb=>(hW.block b (by have:=HS.out b hb;omega)).trans (dN.out.block b (HS.out b hb))) HT.out) (aM.old (fun b hb=>hW.block b (by have:=HS.out b hb;omega)) HKQ.out.2.2.2) (fun b hb=>by have:=HS.out b hb;have:=hW.size;omega)
   have hsm:∀ x,dH (f+1) top (Cr++[46]) d1.inner nm=some x→x.inner.length≤100000:=fun x hx=>uG HT.out hfit hx
   obtain⟨MR,hMR⟩:∃ r,dH (f+1) top (Cr++[46]) d1.inner nm=r:=⟨_,rfl⟩
   rw[hMR]at hMe hF1 hsm
   have HF1:=aB hF1
   have Vk:=aB hsm
   obtain⟨M,hM⟩:∃ M,Cr++[46]=M:=⟨_,rfl⟩
   rw[hM]at hIn hMe
   have HIN:=aB hIn
   have HME:=aB hMe
   clear hrow hdr hnm hF1 hsm hMR hIn hMe
   have l0:∀ W:World,(W.heap[w.heap.size]? = some (.cells #[.string ⟨#[]⟩,.slice ta top.length tc] 173 (0,0))∧W.heap[w.heap.size+1]? = some (.cells #[.int .i64 d1.kind,.string (aC d1.name),.int .i64 d1.line,.int .i64 d1.col,.slice Gf d1.fields.length pfc,.slice Gg d1.values.length Gh,.slice Gi d1.methods.length Gj,.slice Cb d1.inner.length Cc] 69 (0,0)))→W.cell? ⟨w.heap.size+1,0,none⟩=some (.int .i64 d1.kind):=fun W h=>by simp[World.cell?,h.2]
   have l1:∀ W:World,(W.heap[w.heap.size]? = some (.cells #[.string ⟨#[]⟩,.slice ta top.length tc] 173 (0,0))∧W.heap[w.heap.size+1]? = some (.cells #[.int .i64 d1.kind,.string (aC d1.name),.int .i64 d1.line,.int .i64 d1.col,.slice Gf d1.fields.length pfc,.slice Gg d1.values.length Gh,.slice Gi d1.methods.length Gj,.slice Cb d1.inner.length Cc] 69 (0,0)))→W.cell? ⟨w.heap.size+1,1,none⟩=some (.string (aC d1.name)):=fun W h=>by simp[World.cell?,h.2]
   have l2:∀ W:World,(W.heap[w.heap.size]? = some (.cells #[.string ⟨#[]⟩,.slice ta top.length tc] 173 (0,0))∧W.heap[w.heap.size+1]? = some (.cells #[.int .i64 d1.kind,.string (aC d1.name),.int .i64 d1.line,.int .i64 d1.col,.slice Gf d1.fields.length pfc,.slice Gg d1.values.length Gh,.slice Gi d1.methods.length Gj,.slice Cb d1.inner.length Cc] 69 (0,0)))→W.cell? ⟨w.heap.size+1,2,none⟩=some (.int .i64 d1.line):=fun W h=>by simp[World.cell?,h.2]
   have l3:∀ W:World,(W.heap[w.heap.size]? = some (.cells #[.string ⟨#[]⟩,.slice ta top.length tc] 173 (0,0))∧W.heap[w.heap.size+1]? = some (.cells #[.int .i64 d1.kind,.string (aC d1.name),.int .i64 d1.line,.int .i64 d1.col,.slice Gf d1.fields.length pfc,.slice Gg d1.values.length Gh,.slice Gi d1.methods.length Gj,.slice Cb d1.inner.length Cc] 69 (0,0)))→W.cell? ⟨w.heap.size+1,3,none⟩=some (.int .i64 d1.col):=fun W h=>by simp[World.cell?,h.2]
   have l4:∀ W:World,(W.heap[w.heap.size]? = some (.cells #[.string ⟨#[]⟩,.slice ta top.length tc] 173 (0,0))∧W.heap[w.heap.size+1]? = some (.cells #[.int .i64 d1.kind,.string (aC d1.name),.int .i64 d1.line,.int .i64 d1.col,.slice Gf d1.fields.length pfc,.slice Gg d1.values.length Gh,.slice Gi d1.methods.length Gj,.slice Cb d1.inner.length Cc] 69 (0,0)))→W.cell? ⟨w.heap.size+1,4,none⟩=some (.slice Gf d1.fields.length pfc):=fun W h=>by simp[World.cell?,h.2]
   have l5:∀ W:World,(W.heap[w.heap.size]? = some (.cells #[.string ⟨#[]⟩,.slice ta top.length tc] 173 (0,0))∧W.heap[w.heap.size+1]? = some (.cells #[.int .i64 d1.kind,.string (aC d1.name),.int .i64 d1.line,.int .i64 d1.col,.slice Gf d1.fields.length pfc,.slice Gg d1.values.length Gh,.slice Gi d1.methods.length Gj,.slice Cb d1.inner.length Cc] 69 (0,0)))→W.cell? ⟨w.heap.size+1,5,none⟩=some (.slice Gg d1.values.length Gh):=fun W h=>by simp[World.cell?,h.2]
   have l6:∀ W:World,(W.heap[w.heap.size]? = some (.cells #[.string ⟨#[]⟩,.slice ta top.length tc] 173 (0,0))∧W.heap[w.heap.size+1]? = some (.cells #[.int .i64 d1.kind,.string (aC d1.name),.int .i64 d1.line,.int .i64 d1.col,.slice Gf d1.fields.length pfc,.slice Gg d1.values.length Gh,.slice Gi d1.methods.length Gj,.slice Cb d1.inner.length Cc] 69 (0,0)))→W.cell? ⟨w.heap.size+1,6,none⟩=some (.slice Gi d1.methods.length Gj):=fun W h=>by simp[World.cell?,h.2]
   have l7:∀ W:World,(W.heap[w.heap.size]? = some (.cells #[.string ⟨#[]⟩,.slice ta top.length tc] 173 (0,0))∧W.heap[w.heap.size+1]? = some (.cells #[.int .i64 d1.kind,.string (aC d1.name),.int .i64 d1.line,.int .i64 d1.col,.slice Gf d1.fields.length pfc,.slice Gg d1.values.length Gh,.slice Gi d1.methods.length Gj,.slice Cb d1.inner.length Cc] 69 (0,0)))→W.cell? ⟨w.heap.size+1,7,none⟩=some (.slice Cb d1.inner.length Cc):=fun W h=>by simp[World.cell?,h.2]
   have m0:∀ W:World,(W.heap[w.heap.size]? = some (.cells #[.string ⟨#[]⟩,.slice ta top.length tc] 173 (0,0))∧W.heap[w.heap.size+1]? = some (.cells #[.int .i64 d1.kind,.string (aC d1.name),.int .i64 d1.line,.int .i64 d1.col,.slice Gf d1.fields.length pfc,.slice Gg d1.values.length Gh,.slice Gi d1.methods.length Gj,.slice Cb d1.inner.length Cc] 69 (0,0)))→W.cell? ⟨w.heap.size,0,none⟩=some (.string ⟨#[]⟩):=fun W h=>by simp[World.cell?,h.1]
   have m1:∀ W:World,(W.heap[w.heap.size]? = some (.cells #[.string ⟨#[]⟩,.slice ta top.length tc] 173 (0,0))∧W.heap[w.heap.size+1]? = some (.cells #[.int .i64 d1.kind,.string (aC d1.name),.int .i64 d1.line,.int .i64 d1.col,.slice Gf d1.fields.length pfc,.slice Gg d1.values.length Gh,.slice Gi d1.methods.length Gj,.slice Cb d1.inner.length Cc] 69 (0,0)))→W.cell? ⟨w.heap.size,1,none⟩=some (.slice ta top.length tc):=fun W h=>by simp[World.cell?,h.1]
   have Gk:Hid (∀ W:World,Below w1.heap.size w1 W→W.heap[w.heap.size]? = some (.cells #[.string ⟨#[]⟩,.slice ta top.length tc] 173 (0,0))∧W.heap[w.heap.size+1]? = some (.cells #[.int .i64 d1.kind,.string (aC d1.name),.int .i64 d1.line,.int .i64 d1.col,.slice Gf d1.fields.length pfc,.slice Gg d1.values.length Gh,.slice Gi d1.methods.length Gj,.slice Cb d1.inner.length Cc] 69 (0,0))):=fun W hW=>⟨(hW.block _ (by omega)).trans HX0.out,(hW.block _ (by omega)).trans Hs.out⟩
   have fE:Hid (∀ W:World,Below w1.heap.size w1 W→Calls Tryz.prog 174 #[.agg #[.string ⟨#[]⟩,.slice ta top.length tc],.agg #[.string (aC M),.slice Cb d1.inner.length Cc],.string (aC nm)] W fun e w'=>tC (f+1) S MR e w'∧Below W.heap.size W w'):=fun W hW=>(HME.out W hW).mono fun e w' h=>⟨h.1.one,h.2⟩
   have hk0:w1.drew.heap[w.heap.size]? = some (.cells #[.string ⟨#[]⟩,.slice ta top.length tc] 173 (0,0))∧w1.drew.heap[w.heap.size+1]? = some (.cells #[.int .i64 d1.kind,.string (aC d1.name),.int .i64 d1.line,.int .i64 d1.col,.slice Gf d1.fields.length pfc,.slice Gg d1.values.length Gh,.slice Gi d1.methods.length Gj,.slice Cb d1.inner.length Cc] 69 (0,0)):=Gk.out w1 (Below.refl _ _)
   have zM:(aC M).size≤1500000000000:=by rw[aV,←hM];simp;omega
   have hMl:M.length=Cr.length+1:=by rw[←hM];simp
   have s1:=Ga (aC Cr) ⟨#[46]⟩ 1500000000000 (by rw[aV];omega) (by show _+1≤_;omega)
   have e1:aC Cr++⟨#[46]⟩=aC M:=by rw[←hM];exact(kU Cr [46]).symm
   rw[e1]at s1
   have s2:=Ga (aC M) (aC nm) 1500000000000 zM (by rw[aV];omega)
   rw[←kU]at s2
   obtain⟨M2,hM2⟩:∃ x,M++nm=x:=⟨_,rfl⟩
   have hMM:Cr++46 :: nm=M2:=by rw[←hM2,←hM];simp
   have aMf:M2.length=Cr.length+1+nm.length:=by rw[←hM2,List.length_append,hMl]
   rw[hM2]at s2
   rw[hMM]at HF1
   have HL2:=aB aMf
   clear hM hM2 hMM e1 zM hMl aMf
   go_upto_region 4 with fail
   have hbr:Below w1.heap.size w1 w1.drew:=(Below.refl _ _).drew
   have hba:∀ o,Below w1.heap.size w1 (w1.alloc o).drew:=fun o=>((Below.refl _ w1).alloc (Nat.le_refl _) o).drew
   have hka:∀ o,(w1.alloc o).drew.heap[w.heap.size]? = some (.cells #[.string ⟨#[]⟩,.slice ta top.length tc] 173 (0,0))∧(w1.alloc o).drew.heap[w.heap.size+1]? = some (.cells #[.int .i64 d1.kind,.string (aC d1.name),.int .i64 d1.line,.int .i64 d1.col,.slice Gf d1.fields.length pfc,.slice Gg d1.values.length Gh,.slice Gi d1.methods.length Gj,.slice Cb d1.inner.length Cc] 69 (0,0)):=fun o=>Gk.out _ (hba o)
   have HKC:Hid (∀ W:World,Below w1.heap.size w1 W→∀ D,w1.heap.size≤D→∀ x0 x1 x2 x3 x4 x5 x6 x7:Value,((((((((W.setCell ⟨D,0,none⟩ x0).setCell ⟨D,1,none⟩ x1).setCell ⟨D,2,none⟩ x2).setCell ⟨D,3,none⟩ x3).setCell ⟨D,4,none⟩ x4).setCell ⟨D,5,none⟩ x5).setCell ⟨D,6,none⟩ x6).setCell ⟨D,7,none⟩ x7).heap[w.heap.size]? = some (.cells #[.string ⟨#[]⟩,.slice ta top.length tc] 173 (0,0))∧((((((((W.setCell ⟨D,0,none⟩ x0).setCell ⟨D,1,none⟩ x1).setCell ⟨D,2,none⟩ x2).setCell ⟨D,3,none⟩ x3).setCell ⟨D,4,none⟩ x4).setCell ⟨D,5,none⟩ x5).setCell ⟨D,6,none⟩ x6).setCell ⟨D,7,none⟩ x7).heap[w.heap.size+1]? = some (.cells #[.int .i64 d1.kind,.string (aC d1.name),.int .i64 d1.line,.int .i64 d1.col,.slice Gf d1.fields.length pfc,.slice Gg d1.values.length Gh,.slice Gi d1.methods.length Gj,.slice Cb d1.inner.length Cc] 69 (0,0))):=fun W hW D hD x0 x1 x2 x3 x4 x5 x6 x7=>Gk.out _ ((((((((hW.setCell (p:=⟨D,0,none⟩) hD _).setCell (p:=⟨D,1,none⟩) hD _).setCell (p:=⟨D,2,none⟩) hD _).setCell (p:=⟨D,3,none⟩) hD _).setCell (p:=⟨D,4,none⟩) hD _).setCell (p:=⟨D,5,none⟩) hD _).setCell (p:=⟨D,6,none⟩) hD _).setCell (p:=⟨D,7,none⟩) hD _)
   go_cut [12,13] (fun s12 s13 wx=>∃ (D:Nat) (xk:Int) (xs:ByteArray) (xl xc:Int) (jZ:Option Addr) (uC kA:Nat) (fC:Option Addr) (uD fD:Nat) (kB:Option Addr) (uE kC:Nat) (kD:Option Addr) (uF kE:Nat) (b:Bool),s12=.pointer (some ⟨D,0,none⟩)∧s13=.bool b∧wx.heap[D]? = some (.cells #[.int .i64 xk,.string xs,.int .i64 xl,.int .i64 xc,.slice jZ uC kA,.slice fC uD fD,.slice kB uE kC,.slice kD uF kE] 69 (0,0))∧Below w1.heap.size w1 wx∧w1.heap.size≤D∧MX (f+1) S MR wx xk xs xl xc jZ uC kA fC uD fD kB uE kC kD uF kE b)
   case first=>
    go_region_held_law (fun W=>W.heap[w.heap.size]? = some (.cells #[.string ⟨#[]⟩,.slice ta top.length tc] 173 (0,0))∧W.heap[w.heap.size+1]? = some (.cells #[.int .i64 d1.kind,.string (aC d1.name),.int .i64 d1.line,.int .i64 d1.col,.slice Gf d1.fields.length pfc,.slice Gg d1.values.length Gh,.slice Gi d1.methods.length Gj,.slice Cb d1.inner.length Cc] 69 (0,0))) (first | with_reducible exact hk0 | with_reducible exact hka _ | with_reducible exact hk5 | with_reducible exact hk6 | with_reducible exact aVc _ | with_reducible exact aGb _ | with_reducible exact HKC.out _ hb6 _ hb5.size _ _ _ _ _ _ _ _ | with_reducible exact HKC.out _ hb6 _ (Nat.le_refl _) _ _ _ _ _ _ _ _) (first
     | (go_at_call 200;refine(HIN.out _).mono ?_;rintro e W5 ⟨rfl,gT⟩;have hb5:Below w1.heap.size w1 W5:=(by first | exact hbr.trans gT | exact(hba _).trans (gT.mono (by simp)));have hk5:=Gk.out W5 hb5;have aVc:=fun o=>Gk.out (W5.alloc o) (hb5.alloc hb5.size o);first | (have dF:=uB (o:=.cells z8 69) gT) | skip)
     | (go_at_call 174;refine(fE.out _ (by first | with_reducible exact hb5 | with_reducible exact hb5.alloc hb5.size _)).mono ?_;rintro e W6 ⟨⟨xk,xs,xl,xc,jZ,uC,kA,fC,uD,fD,kB,uE,kC,kD,uF,kE,b,rfl,hx⟩,Gl⟩;have hb6:Below w1.heap.size w1 W6:=(by first | exact hb5.trans (Gl.mono hb5.size) | exact(hb5.alloc hb5.size _).trans (Gl.mono (by have:=hb5.size;simp;omega)));have hk6:=Gk.out W6 hb6;have aGb:=fun o=>Gk.out (W6.alloc o) (hb6.alloc hb6.size o);first | (have In:W6.heap[W5.heap.size]? = some (.cells z8 69 (0,0)):=Ge (o:=.cells z8 69) Gl;have HZ6:=aB In;obtain⟨z0c,z1c,z2c,z3c,z4c,z5c,z6c,z7c,z0f,z1f,z2f,z3f,z4f,z5f,z6f,z7f⟩:=rW In;clear In) | (have In:W6.heap[w1.heap.size]? = some (.cells z8 69 (0,0)):=(Gl.block _ (aN dF)).trans dF;have HZ6:=aB In;obtain⟨z0c,z1c,z2c,z3c,z4c,z5c,z6c,z7c,z0f,z1f,z2f,z3f,z4f,z5f,z6f,z7f⟩:=rW In;clear In dF) | skip))
    all_goals go_wp2_with fail
    all_goals go_meet
    ·exact⟨W6.heap.size,xk,xs,xl,xc,jZ,uC,kA,fC,uD,fD,kB,uE,kC,kD,uF,kE,b,rfl,rfl,alloc_heap_new _ _,hb6.alloc hb6.size _,hb6.size,hx.old fun k hk=>aD _ _ _ (by have:=HS.out k hk;have:=hb6.size;omega)⟩
    ·obtain⟨Y,hY,y8,yo,yz,yb⟩:=dC HZ6.out (.int .i64 xk) (.string xs) (.int .i64 xl) (.int .i64 xc) (.slice jZ uC kA) (.slice fC uD fD) (.slice kB uE kC) (.slice kD uF kE)
     rw[hY]
     exact⟨W5.heap.size,xk,xs,xl,xc,jZ,uC,kA,fC,uD,fD,kB,uE,kC,kD,uF,kE,b,rfl,rfl,y8,hb6.trans (yb.mono hb5.size),hb5.size,hx.old fun k hk=>yo k (by have:=HS.out k hk;have:=hb5.size;omega)⟩
    ·obtain⟨Y,hY,y8,yo,yz,yb⟩:=dC HZ6.out (.int .i64 xk) (.string xs) (.int .i64 xl) (.int .i64 xc) (.slice jZ uC kA) (.slice fC uD fD) (.slice kB uE kC) (.slice kD uF kE)
     rw[hY]
     exact⟨w1.heap.size,xk,xs,xl,xc,jZ,uC,kA,fC,uD,fD,kB,uE,kC,kD,uF,kE,b,rfl,rfl,y8,hb6.trans (yb.mono (Nat.le_refl _)),Nat.le_refl _,hx.old fun k hk=>yo k (by have:=HS.out k hk;omega)⟩
   case rest=>
    obtain⟨D,xk,xs,xl,xc,jZ,uC,kA,fC,uD,fD,kB,uE,kC,kD,uF,kE,b,rfl,rfl,hD,hbX,hDg,hx⟩:=hcut
    generalize wc=X at *
    have oY:=aB hbX
    have HD:=aB hD
    have HWX:Hid (Below w.heap.size w X):=dN.out.trans (hbX.mono dN.out.size)
    have aVd:=aB (Gk.out X hbX).1
    have yJ:=aB (Gk.out X hbX).2
    have Qo:Hid (X.heap[w.heap.size+2]? = some (.cells #[.string ⟨#[]⟩,.int .i64 0] 115 (0,0))):=(hbX.block _ (by omega)).trans Yj.out
    have hsX:=hbX.size
    clear l0 l1 l2 l3 l4 l5 l6 l7 m0 m1 hk0 hbr hba hka hD hbX en
    rcases hx with ⟨rfl,d2,hMR,rfl,rfl,rfl,rfl,rfl,rfl,rfl,rfl,hkd⟩ | ⟨rfl,hMR⟩
    ·have qT:Hid (eU (f+1) top d2 M2 (ns.drop (j+1))=RES):=by have:=HF1.out;rw[hMR]at this;exact this
     have HDL:Hid (d2.inner.length≤100000):=Vk.out d2 hMR
     have eO:=aB hkd
     clear hMR hkd
     have l0:=aA HD.out 0 rfl
     have l1:=aA HD.out 1 rfl
     have l2:=aA HD.out 2 rfl
     have l3:=aA HD.out 3 rfl
     have l4:=aA HD.out 4 rfl
     have l5:=aA HD.out 5 rfl
     have l6:=aA HD.out 6 rfl
     have l7:=aA HD.out 7 rfl
     have k0:=aA yJ.out 0 rfl
     have k1:=aA yJ.out 1 rfl
     have k2:=aA yJ.out 2 rfl
     have k3:=aA yJ.out 3 rfl
     have k4:=aA yJ.out 4 rfl
     have k5:=aA yJ.out 5 rfl
     have k6:=aA yJ.out 6 rfl
     have k7:=aA yJ.out 7 rfl
     have kf:∀ j,X.frozen? ⟨w.heap.size+1,j,none⟩=false:=fun j=>by simp[World.frozen?,yJ.out]
     have f0:=kf 0
     have f1:=kf 1
     have f2:=kf 2
     have f3:=kf 3
     have f4:=kf 4
     have f5:=kf 5
     have f6:=kf 6
     have f7:=kf 7
     obtain⟨Y,hY,y8,yo,yz,yb⟩:=dC yJ.out (.int .i64 d2.kind) (.string (aC d2.name)) (.int .i64 d2.line) (.int .i64 d2.col) (.slice jZ d2.fields.length kA) (.slice fC d2.values.length fD) (.slice kB d2.methods.length kC) (.slice kD d2.inner.length kE)
     have Wv:=aB hY
     have HY8:=aB y8
     have zO:Hid (Y.heap[w.heap.size]? = some (.cells #[.string ⟨#[]⟩,.slice ta top.length tc] 173 (0,0))):=(yo _ (by omega)).trans aVd.out
     have HY2:Hid (Y.heap[w.heap.size+2]? = some (.cells #[.string ⟨#[]⟩,.int .i64 0] 115 (0,0))):=(yo _ (by omega)).trans Qo.out
     have nC:Hid (Below w.heap.size w Y):=HWX.out.trans (yb.mono (by omega))
     have HYS:Hid (w.heap.size+3≤Y.heap.size):=by refine(?_:w.heap.size+3≤Y.heap.size);rw[yz];omega
     have yA:Hid (Kids (f+1) Y S (.slice jZ d2.fields.length kA) (.slice fC d2.values.length fD) (.slice kB d2.methods.length kC) (.slice kD d2.inner.length kE) d2):=eO.out.old fun k hk=>yo k (by have:=HS.out k hk;omega)
     clear hY y8 yo yz yb
     go_wp2_with fail
     rw[Wv.out]
     go_roundw
     case rel=>exact⟨j+1,M2,d2,jZ,kA,fC,fD,kB,kC,kD,kE,rfl,by go_num,by omega,nC.out,HYS.out,zO.out,HY8.out,HY2.out,yA.out,HDL.out,by have:=HL2.out;omega,qT.out⟩
     case measure=>simp[intOf];omega
    ·have qR:Hid (RES=none):=by have:=HF1.out;rw[hMR]at this;exact this.symm
     have k0:=aA Qo.out 0 rfl
     have k1:=aA Qo.out 1 rfl
     have f0:=aF Qo.out 0
     have f1:=aF Qo.out 1
     have hg2:=aG (aG (j:=0) Qo.out (.string ⟨#[]⟩)) (j:=1) (.int .i64 0)
     have HG2:=aB hg2
     have HB2:Hid (Below w.heap.size w ((X.setCell ⟨w.heap.size+2,0,none⟩ (.string ⟨#[]⟩)).setCell ⟨w.heap.size+2,1,none⟩ (.int .i64 0))):=(HWX.out.setCell (p:=⟨w.heap.size+2,0,none⟩) (by show w.heap.size≤w.heap.size+2;omega) _).setCell (p:=⟨w.heap.size+2,1,none⟩) (by show w.heap.size≤w.heap.size+2;omega) _
     clear hg2
     go_wp2_with fail
     have g2:=HG2.out
     have hb2:=HB2.out
     clear HG2 HB2
     generalize ((X.setCell ⟨w.heap.size+2,0,none⟩ (.string ⟨#[]⟩)).setCell ⟨w.heap.size+2,1,none⟩ (.int .i64 0))=Z at *
     have r0:=aA g2 0 rfl
     have r1:=aA g2 1 rfl
     exact bodyPost_ret (v:=.tuple #[.agg #[.string ⟨#[]⟩,.int .i64 0],.bool false]) (by simp[results,Tryz.results175,go_sem,r0,r1]) rfl ⟨.inr ⟨qR.out,rfl⟩,hb2⟩
  ·have sZ:¬(j:Int)<(n:Int):=by omega
   have oI:Hid (RES=some (Cr,d1.kind)):=by have:=Zl.out;rw[List.drop_eq_nil_of_le (by have:=HN.out;omega)]at this;exact this.symm
   have e0:=aA Hs.out 0 rfl
   have k0:=aA Yj.out 0 rfl
   have k1:=aA Yj.out 1 rfl
   have f0:=aF Yj.out 0
   have f1:=aF Yj.out 1
   have hg2:=aG (aG (j:=0) Yj.out (.string (aC Cr))) (j:=1) (.int .i64 d1.kind)
   have HG2:=aB hg2
   have HB2:Hid (Below w.heap.size w ((w1.setCell ⟨w.heap.size+2,0,none⟩ (.string (aC Cr))).setCell ⟨w.heap.size+2,1,none⟩ (.int .i64 d1.kind))):=(dN.out.setCell (p:=⟨w.heap.size+2,0,none⟩) (by show w.heap.size≤w.heap.size+2;omega) _).setCell (p:=⟨w.heap.size+2,1,none⟩) (by show w.heap.size≤w.heap.size+2;omega) _
   clear hg2
   go_wp2_with fail
   have g2:=HG2.out
   have hb2:=HB2.out
   clear HG2 HB2
   generalize ((w1.setCell ⟨w.heap.size+2,0,none⟩ (.string (aC Cr))).setCell ⟨w.heap.size+2,1,none⟩ (.int .i64 d1.kind))=Z at *
   have r0:=aA g2 0 rfl
   have r1:=aA g2 1 rfl
   exact bodyPost_ret (v:=.tuple #[.agg #[.string (aC Cr),.int .i64 d1.kind],.bool true]) (by simp[results,Tryz.results175,go_sem,r0,r1]) rfl ⟨.inl ⟨_,oI.out,rfl⟩,hb2⟩
end Go.Proofs.YtpojeinddnjpfaaGreatDoor
namespace Go.Proofs.YtpojeinddnjpfaaGreatDoor
set_option linter.unusedVariables false
open Go.ChangeShapes Go.WideShapes Go.ChangeAt Go.RowKit

theorem Km (g n c:Nat) (h1:1≤n) (hc:n≤c):∃ ad c',((c=1∧ad=some ⟨g,0,none⟩∧c'=0)∨(¬c=1∧ad=some (⟨g,1,none⟩:Addr)∧c'=c - 1))∧n - 1≤c'∧(n=1∨ad=some ⟨g,1,none⟩):=by
 by_cases h:c=1
 ·exact⟨_,_,.inl ⟨h,rfl,rfl⟩,by omega,.inl (by omega)⟩
 ·exact⟨_,_,.inr ⟨h,rfl,rfl⟩,by omega,.inr rfl⟩
end Go.Proofs.YtpojeinddnjpfaaGreatDoor
namespace Go.Proofs.YtpojeinddnjpfaaGreatDoor
set_option linter.unusedVariables false
open Go.ChangeShapes Go.WideShapes Go.ChangeAt Go.RowKit

def SX (res:Option Sy) (s:ByteArray) (k:Int) (b:Bool):Prop:=(b=true∧∃ y:Sy,res=some y∧s=aC y.1∧k=y.2)∨(b=false∧res=none∧s=⟨#[]⟩∧k=0)
theorem xG.one {res:Option Sy} {e:Ending} (h:xG res e):∃ s k b,e=.returned (.tuple #[.agg #[.string s,.int .i64 k],.bool b])∧SX res s k b:=by
 rcases h with ⟨y,h1,h2⟩ | ⟨h1,h2⟩
 ·exact⟨_,_,true,h2,.inl ⟨rfl,y,h1,rfl,rfl⟩⟩
 ·exact⟨_,_,false,h2,.inr ⟨rfl,h1,rfl,rfl⟩⟩
theorem SX.ans {res:Option Sy} {s:ByteArray} {k:Int} {b:Bool} (h:SX res s k b):xG res (.returned (.tuple #[.agg #[.string s,.int .i64 k],.bool b])):=by
 rcases h with ⟨rfl,y,h1,rfl,rfl⟩ | ⟨rfl,h1,rfl,rfl⟩
 ·exact .inl ⟨y,h1,rfl⟩
 ·exact .inr ⟨h1,rfl⟩
theorem Cd {f:Nat} {top:List Dc} {sc:List UInt8} {w:World} {S:Nat→Prop} {v:Value} (hH:aM (f+1) w S v top) (hF:iV (f+1) top) {rs:List Rm} (h:gM (f+1) top sc=some rs):∀ r∈rs,r.1.length≤sc.length+1∧r.2.length≤100000:=by
 unfold gM at h
 split at h
 ·cases h
  intro r hr
  rw[List.mem_singleton.1 hr]
  exact⟨by simp,hF.1⟩
 ·cases hf:bZ (f+1) [] top sc with
  | none=>rw[hf]at h;cases h
  | some z=>
   obtain⟨z1,z2⟩:=z
   obtain⟨q1,q2⟩:=oK (f+1) top [] sc w S v hH hF (by simp) z1 z2 hf
   rw[hf]at h
   dsimp only at h
   split at h
   ·cases h
    intro r hr
    rcases List.mem_cons.1 hr with rfl | hr
    ·exact⟨by simp,q1⟩
    ·have:=q2 r hr;exact⟨by omega,this.2⟩
   ·cases h
theorem aMj {base:Nat} {w W:World} {v:Value} {xs:List jG} (h:w.ownsRow base 173 2 v xs.length (xs.flatMap dJ)) (hW:∀ b,v.ownBlock=some b→W.heap[b]? = w.heap[b]?) {q:Nat} {x:jG} (hx:xs[q]? = some x) :
  ∃ g c,v=.slice (some ⟨g,0,none⟩) xs.length c∧g<w.heap.size∧W.cell? ⟨g,q*2,none⟩=some (.string (aC x.1))∧W.cell? ⟨g,q*2+1,none⟩=some x.2.1:=by
 have hq:=(List.getElem?_eq_some_iff.1 hx).1
 obtain⟨kl,⟨ku,k0⟩ | ⟨g,cap,cur,ku,hg,hh,h3,h4,h5,h6⟩⟩:=h
 ·omega
 ·have hb:=hW g (by rw[ku];rfl)
  have key:∀ i u,(dJ x)[i]? = some u→i<2→W.cell? ⟨g,q*2+i,none⟩=some u:=by
   intro i u hu hi
   have e:=rA (k:=2) (row:=dJ) (fun _=>rfl) xs q x i hi hx
   rw[←h6,List.getElem?_take,if_pos (by omega),hu]at e
   rw[World.cell?_of_block hb]
   simp only[World.cell?,hh]
   simpa using e
  exact⟨g,cap,ku,(Array.getElem?_eq_some_iff.1 hh).1,key 0 _ rfl (by decide),key 1 _ rfl (by decide)⟩
set_option maxHeartbeats 16000000 in
set_option maxRecDepth 20000 in
theorem Gm (f:Nat) (top:List Dc) (tv:Value) (sc path:List UInt8) (S:Nat→Prop) (w:World) (hct:mO (f+1) top≤100000) (hfit:iV (f+1) top) (mP:lL (f+1) top) (hsl:sc.length≤1000000000000) (hpl:path.length≤200000000)
    (hT:aM (f+1) w S tv top) (hS:∀ b,S b→b<w.heap.size) :
    Calls Tryz.prog 142 #[tv,.string (aC sc),.string (aC path)] w fun e w'=>xG (iN (f+1) top sc path) e∧Below w.heap.size w w':=by
  obtain⟨ta,tc,rfl⟩:=hT.eI
  have jS:(w.alloc (.cells #[.string ⟨#[]⟩,.int .i64 0] 115)).heap[w.heap.size]? = some (.cells #[.string ⟨#[]⟩,.int .i64 0] 115 (0,0)):=alloc_heap_new _ _
  have dO:Below w.heap.size w (w.alloc (.cells #[.string ⟨#[]⟩,.int .i64 0] 115)):=(Below.refl _ w).alloc (Nat.le_refl _) _
  have iH:w.heap.size+1≤(w.alloc (.cells #[.string ⟨#[]⟩,.int .i64 0] 115)).heap.size:=by simp
  obtain⟨RES,hR⟩:∃ r,iN (f+1) top sc path=r:=⟨_,rfl⟩
  have HR:=aB hR
  rw[hR]
  have HT:=aB hT
  have HS:=aB hS
  have hpo:=iG (aC path)
  have hpn:=(jU (aC path)).1
  have hpz:∀ x∈pieces (aC path),x.size≤path.length:=fun x hx=>by have:=qE hx;rw[aV]at this;exact this
  have hpp:pieces (aC path)=(jC [] path).map aC:=rfl
  have HPO:Hid (cF path=(decide ((pieces (aC path)).length≤8)&&bT (aC path))):=hpo
  have HPZ:=aB hpz
  have HPP:=aB hpp
  have hPa:=fun W=>wO (aC path) W (by rw[aV];exact hpl)
  have HPN:=aB hpn
  clear hR hT hS hpo hpz hpp hpn
  go_enter Tryz.func142,Tryz.ntmps142
  go_upto_region 1 with fail
  generalize (w.alloc (.cells #[.string ⟨#[]⟩,.int .i64 0] 115))=V at *
  have mV:=aB jS
  have Bz:=aB dO
  clear jS dO
  go_wp2_with fail
  refine(hPa _).mono ?_
  rintro e W1 ⟨dW,hb1⟩
  have HB1:=aB hb1
  have HW1:Hid (Below w.heap.size w W1):=Bz.out.trans (hb1.mono Bz.out.size)
  have HZ1:Hid (W1.heap[w.heap.size]? = some (.cells #[.string ⟨#[]⟩,.int .i64 0] 115 (0,0))):=(hb1.block _ (by omega)).trans mV.out
  have hs1:w.heap.size+1≤W1.heap.size:=by have:=hb1.size;omega
  clear hPa hb1
  unfold cY at dW
  by_cases hok:(pieces (aC path)).length≤8∧bT (aC path)=true
  case neg=>
    rw[if_neg hok]at dW
    subst dW
    have qR:Hid (RES=none):=by
      refine(?_:_=_)
      rw[←HR.out]
      unfold iN
      rw[if_neg]
      intro h
      rw[HPO.out,Bool.and_eq_true,decide_eq_true_iff]at h
      exact hok h
    clear hok
    have k0:=aA HZ1.out 0 rfl
    have k1:=aA HZ1.out 1 rfl
    have f0:=aF HZ1.out 0
    have f1:=aF HZ1.out 1
    have hg2:=aG (aG (j:=0) HZ1.out (.string ⟨#[]⟩)) (j:=1) (.int .i64 0)
    have HG2:=aB hg2
    have HB2:Hid (Below w.heap.size w ((W1.setCell ⟨w.heap.size,0,none⟩ (.string ⟨#[]⟩)).setCell ⟨w.heap.size,1,none⟩ (.int .i64 0))):=(HW1.out.setCell (p:=⟨w.heap.size,0,none⟩) (Nat.le_refl _) _).setCell (p:=⟨w.heap.size,1,none⟩) (Nat.le_refl _) _
    clear hg2
    go_wp2_with fail
    have g2:=HG2.out
    have hb2:=HB2.out
    clear HG2 HB2
    generalize ((W1.setCell ⟨w.heap.size,0,none⟩ (.string ⟨#[]⟩)).setCell ⟨w.heap.size,1,none⟩ (.int .i64 0))=Z at *
    have r0:=aA g2 0 rfl
    have r1:=aA g2 1 rfl
    exact bodyPost_ret (v:=.tuple #[.agg #[.string ⟨#[]⟩,.int .i64 0],.bool false]) (by simp[results,Tryz.results142,go_sem,r0,r1]) rfl ⟨.inr ⟨qR.out,rfl⟩,hb2⟩
  case pos=>
    rw[if_pos hok]at dW
    have hpt:cF path=true:=by rw[HPO.out,Bool.and_eq_true,decide_eq_true_iff];exact hok
    have h8:=hok.1
    obtain⟨gn,cn,rfl,hHS,hcn⟩:=dW
    obtain⟨nms,hns⟩:∃ l,jC [] path=l:=⟨_,rfl⟩
    have hpm:pieces (aC path)=nms.map aC:=by rw[HPP.out,hns]
    have hgn:gn<W1.heap.size:=by
      have h1:=HPN.out
      have hx:∃ x,(pieces (aC path))[0]? = some x:=⟨_,List.getElem?_eq_getElem (by omega)⟩
      obtain⟨x,hx⟩:=hx
      exact jD (hHS 0 x hx)
    have hcell:∀ (j:Nat) (x:List UInt8),nms[j]? = some x→W1.cell? ⟨gn,j,none⟩=some (.string (aC x)):=fun j x hx=>hHS j (aC x) (by rw[hpm,List.getElem?_map,hx];rfl)
    have hnl:∀ x∈nms,x.length≤200000000:=fun x hx=>by
      have:=HPZ.out (aC x) (by rw[hpm];exact List.mem_map_of_mem hx)
      rw[aV]at this;omega
    have hlen:(pieces (aC path)).length=nms.length:=by rw[hpm,List.length_map]
    have hne:=HPN.out
    rw[hlen]at h8 hcn hne ⊢
    cases nms with
    | nil=>simp at hne
    | cons n0 nt=>
    have HRF:Hid ((match gM (f+1) top sc with | some rs=>iF (f+1) top n0 nt rs | none=>none)=RES):=by
      refine(?_:_=_)
      rw[←HR.out]
      unfold iN
      rw[if_pos hpt,hns]
      rfl
    have hn0:=hnl n0 List.mem_cons_self
    have HN0:Hid (n0≠[]):=fun e=>by
      have h1:=hok.2
      unfold bT at h1
      rw[hpm,e,List.map_cons,List.all_cons,Bool.and_eq_true]at h1
      have h2:=h1.1
      revert h2
      decide +kernel
    have Rz:Hid (∀ x∈nt,x.length≤200000000):=fun x hx=>hnl x (List.mem_cons_of_mem _ hx)
    have HC0:=aB (hcell 0 n0 rfl)
    have HCJ:Hid (∀ (j:Nat) (x:List UInt8),nt[j]? = some x→W1.cell? ⟨gn,j+1,none⟩=some (.string (aC x))):=fun j x hx=>hcell (j+1) x (by simpa using hx)
    obtain⟨n,hn⟩:∃ n,(n0 :: nt).length=n:=⟨_,rfl⟩
    have hnt:nt.length=n - 1:=by rw[←hn];simp
    rw[hn]at h8 hcn hne ⊢
    have HNL:=aB hnt
    obtain⟨zV,zW,htl,htc,hta⟩:=Km gn n cn hne hcn
    have HTL:=aB htl
    have HTA:=aB hta
    have hX0:(W1.alloc (.cells #[.string ⟨#[]⟩,.slice ta top.length tc] 173)).heap[W1.heap.size]? = some (.cells #[.string ⟨#[]⟩,.slice ta top.length tc] 173 (0,0)):=alloc_heap_new _ _
    have hXb:Below W1.heap.size W1 (W1.alloc (.cells #[.string ⟨#[]⟩,.slice ta top.length tc] 173)):=(Below.refl _ W1).alloc (Nat.le_refl _) _
    clear hpt hok hns hpm hHS hcell hnl hlen hn HPO HPZ HPP HPN hnt hta htl
    go_upto_region 5 with fail
    generalize (W1.alloc (.cells #[.string ⟨#[]⟩,.slice ta top.length tc] 173))=X1 at *
    have m0:=aA hX0 0 rfl
    have m1:=aA hX0 1 rfl
    have HX0:=aB hX0
    have HXb:=aB hXb
    have hlX:=aN hX0
    have HWX:Hid (Below w.heap.size w X1):=HW1.out.trans (hXb.mono HW1.out.size)
    have hA:=Kk f top (.slice ta top.length tc) sc S X1 hct hfit mP hsl (aM.old (fun b hb=>HWX.out.block b (HS.out b hb)) HT.out) (fun b hb=>by have:=HS.out b hb;have:=hXb.size;omega)
    have hsm:=fun rs (h:gM (f+1) top sc=some rs)=>Cd HT.out hfit h
    obtain⟨AR,hAR⟩:∃ r,gM (f+1) top sc=r:=⟨_,rfl⟩
    rw[hAR]at hA HRF hsm
    have Vk:=aB hsm
    clear hX0 hXb hAR hsm
    go_wp2_with fail
    refine hA.mono ?_
    rintro e W2 ⟨dW,hb2⟩
    have HB2:=aB hb2
    have HW2:Hid (Below w.heap.size w W2):=HWX.out.trans (hb2.mono HWX.out.size)
    have HZ2:Hid (W2.heap[w.heap.size]? = some (.cells #[.string ⟨#[]⟩,.int .i64 0] 115 (0,0))):=(hb2.block _ (by have:=HXb.out.size;omega)).trans ((HXb.out.block _ (by omega)).trans HZ1.out)
    have HR2:Hid (W2.heap[W1.heap.size]? = some (.cells #[.string ⟨#[]⟩,.slice ta top.length tc] 173 (0,0))):=(hb2.block _ hlX).trans HX0.out
    have Hl:Hid (∀ a v,a.block=gn→W1.cell? a=some v→W2.cell? a=some v):=fun a v ha h=>by
      rw[hb2.cell (by rw[ha];have:=HXb.out.size;omega),HXb.out.cell (by rw[ha];exact hgn)];exact h
    have hs2:W1.heap.size+1≤W2.heap.size:=by have:=hb2.size;omega
    clear hA hb2 m0 m1
    rcases dW with ⟨rs,rv,R,hres,rfl,hown,hmap,oJ,hRl⟩ | ⟨hres,rfl⟩
    case inr=>
      have qR:Hid (RES=none):=by have:=HRF.out;rw[hres]at this;exact this.symm
      clear hres
      have k0:=aA HZ2.out 0 rfl
      have k1:=aA HZ2.out 1 rfl
      have f0:=aF HZ2.out 0
      have f1:=aF HZ2.out 1
      have hg2:=aG (aG (j:=0) HZ2.out (.string ⟨#[]⟩)) (j:=1) (.int .i64 0)
      have HG2:=aB hg2
      have HB2:Hid (Below w.heap.size w ((W2.setCell ⟨w.heap.size,0,none⟩ (.string ⟨#[]⟩)).setCell ⟨w.heap.size,1,none⟩ (.int .i64 0))):=(HW2.out.setCell (p:=⟨w.heap.size,0,none⟩) (Nat.le_refl _) _).setCell (p:=⟨w.heap.size,1,none⟩) (Nat.le_refl _) _
      clear hg2
      go_wp2_with fail
      have g2:=HG2.out
      have hb2:=HB2.out
      clear HG2 HB2
      generalize ((W2.setCell ⟨w.heap.size,0,none⟩ (.string ⟨#[]⟩)).setCell ⟨w.heap.size,1,none⟩ (.int .i64 0))=Z at *
      have r0:=aA g2 0 rfl
      have r1:=aA g2 1 rfl
      exact bodyPost_ret (v:=.tuple #[.agg #[.string ⟨#[]⟩,.int .i64 0],.bool false]) (by simp[results,Tryz.results142,go_sem,r0,r1]) rfl ⟨.inr ⟨qR.out,rfl⟩,hb2⟩
    case inl=>
      have oI:Hid (iF (f+1) top n0 nt rs=RES):=by have:=HRF.out;rw[hres]at this;exact this
      have HSR:=aB (Vk.out rs hres)
      have HOW:=aB hown
      have Yl:=aB hmap
      have Ww:=aB oJ
      obtain⟨ra,rc,By⟩:=aO hown
      subst By
      obtain⟨m,hm⟩:∃ m,R.length=m:=⟨_,rfl⟩
      have HMN:=aB hm
      rw[hm]at hRl ⊢
      clear hres hown hmap oJ hm
      go_wp2_with fail
      go_loopw [37] (fun i wr=>∃ j:Nat,i=.int .i64 (j:Int)∧j≤m∧Below W2.heap.size W2 wr∧iF (f+1) top n0 nt (rs.drop j)=RES) (fun i _=>m - (intOf i).toNat)
      case atStart=>exact⟨0,rfl,by omega,Below.refl _ _,oI.out⟩
      case round=>
        generalize wr=w1 at *
        obtain⟨j,rfl,hj,hbq,hse⟩:=hrel
        have dN:=aB hbq
        have HSE:=aB hse
        have HWQ:Hid (Below w.heap.size w w1):=HW2.out.trans (hbq.mono HW2.out.size)
        have HZQ:Hid (w1.heap[w.heap.size]? = some (.cells #[.string ⟨#[]⟩,.int .i64 0] 115 (0,0))):=(hbq.block _ (by omega)).trans HZ2.out
        have zR:=hbq.size
        clear hbq hse
        by_cases hjm:j<m
        · obtain⟨p,hp⟩:∃ p,R[j]? = some p:=⟨_,List.getElem?_eq_getElem (by have:=HMN.out;omega)⟩
          have hrj:rs[j]? = some (p.1,p.2.2):=by rw[←Yl.out,List.getElem?_map,hp];rfl
          have hdr:rs.drop j=(p.1,p.2.2) :: rs.drop (j+1):=by
            rw[List.drop_eq_getElem_cons (List.getElem?_eq_some_iff.1 hrj).1,(List.getElem?_eq_some_iff.1 hrj).2]
          have hsr:=HSR.out _ (List.mem_of_getElem? hrj)
          have hpa:p.1.length≤sc.length+1:=hsr.1
          have hpd:p.2.2.length≤100000:=hsr.2
          have hS1:=HSE.out
          rw[hdr]at hS1
          have hS1:(match dH (f+1) top p.1 p.2.2 n0 with | some d=>eU (f+1) top d (p.1++n0) nt | none=>iF (f+1) top n0 nt (rs.drop (j+1)))=RES:=hS1
          have hhp:=Ww.out p (List.mem_of_getElem? hp)
          obtain⟨pa,pc,hpv⟩:=hhp.eI
          obtain⟨gr,cr,By,hgr,r0,r1⟩:=aMj HOW.out (W:=w1) (fun b hb=>dN.out.block b (aE HOW.out b hb).2) hp
          rw[HMN.out]at By
          obtain⟨rfl,rfl⟩:ra=some ⟨gr,0,none⟩∧rc=cr:=by
            injection By with h1 _ h3
            exact⟨h1,h3⟩
          rw[hpv]at r1 hhp
          have HHP:=aB hhp
          have hj0:(0:Int)≤(j:Int):=by omega
          have hj1:(j:Int)<(m:Int):=by omega
          have hwq:=eE j (by omega)
          have hY:(w1.alloc (.cells #[.string (aC p.1),.slice pa p.2.2.length pc] 173)).heap[w1.heap.size]? = some (.cells #[.string (aC p.1),.slice pa p.2.2.length pc] 173 (0,0)):=alloc_heap_new _ _
          have gE:Below w1.heap.size w1 (w1.alloc (.cells #[.string (aC p.1),.slice pa p.2.2.length pc] 173)):=(Below.refl _ w1).alloc (Nat.le_refl _) _
          obtain⟨MR,hMR⟩:∃ r,dH (f+1) top p.1 p.2.2 n0=r:=⟨_,rfl⟩
          have aMk:∀ x,MR=some x→x.inner.length≤100000:=fun x hx=>uG HT.out hfit (hMR.trans hx)
          have aMl:=aB aMk
          have hMe:=fun (W:World) (hW:Below w.heap.size w W) (hW2:∀ b,S b→W.heap[b]? = W2.heap[b]?)=>zY f top (.slice ta top.length tc) p.1 p.2.2 (.slice pa p.2.2.length pc) n0 S W hct hfit mP hpd (by omega) hn0
            (aM.old (fun b hb=>hW.block b (HS.out b hb)) HT.out) (aM.old hW2 HHP.out) (fun b hb=>by have:=HS.out b hb;have:=hW.size;omega)
          rw[hMR]at hMe hS1
          have HME:=aB hMe
          have pE:=aB hS1
          clear hp hrj hdr hsr hS1 hhp hpv By hMR aMk hMe HSE
          go_upto_region 11 with fail
          generalize (w1.alloc (.cells #[.string (aC p.1),.slice pa p.2.2.length pc] 173))=Y at *
          have HYC:=aB hY
          have nC:=aB gE
          have hsY:=gE.size
          have hlY:=aN hY
          have HWY:Hid (Below w.heap.size w Y):=HWQ.out.trans (gE.mono HWQ.out.size)
          have Gk:Hid (∀ W:World,Below Y.heap.size Y W→W.heap[W1.heap.size]? = some (.cells #[.string ⟨#[]⟩,.slice ta top.length tc] 173 (0,0))∧W.heap[w1.heap.size]? = some (.cells #[.string (aC p.1),.slice pa p.2.2.length pc] 173 (0,0))∧W.cell? ⟨gn,0,none⟩=some (.string (aC n0))):=fun W hW=>⟨(hW.block _ (by omega)).trans ((nC.out.block _ (by omega)).trans ((dN.out.block _ (by omega)).trans HR2.out)),(hW.block _ hlY).trans HYC.out,by
            rw[hW.cell (show gn<Y.heap.size by omega),nC.out.cell (show gn<w1.heap.size by omega),dN.out.cell (show gn<W2.heap.size by omega)]
            exact Hl.out _ _ rfl HC0.out⟩
          have fE:Hid (∀ W:World,Below Y.heap.size Y W→Calls Tryz.prog 174 #[.agg #[.string ⟨#[]⟩,.slice ta top.length tc],.agg #[.string (aC p.1),.slice pa p.2.2.length pc],.string (aC n0)] W fun e w'=>tC (f+1) S MR e w'∧Below W.heap.size W w'):=fun W hW=>(HME.out W (HWY.out.trans (hW.mono HWY.out.size)) (fun b hb=>(hW.block b (by have:=HS.out b hb;have:=HWY.out.size;omega)).trans ((nC.out.block b (by have:=HS.out b hb;have:=HWQ.out.size;omega)).trans (dN.out.block b (by have:=HS.out b hb;have:=HW2.out.size;omega))))).mono fun e w' h=>⟨h.1.one,h.2⟩
          have a0:∀ W:World,(W.heap[W1.heap.size]? = some (.cells #[.string ⟨#[]⟩,.slice ta top.length tc] 173 (0,0))∧W.heap[w1.heap.size]? = some (.cells #[.string (aC p.1),.slice pa p.2.2.length pc] 173 (0,0))∧W.cell? ⟨gn,0,none⟩=some (.string (aC n0)))→W.cell? ⟨W1.heap.size,0,none⟩=some (.string ⟨#[]⟩):=fun W h=>by simp[World.cell?,h.1]
          have a1:∀ W:World,(W.heap[W1.heap.size]? = some (.cells #[.string ⟨#[]⟩,.slice ta top.length tc] 173 (0,0))∧W.heap[w1.heap.size]? = some (.cells #[.string (aC p.1),.slice pa p.2.2.length pc] 173 (0,0))∧W.cell? ⟨gn,0,none⟩=some (.string (aC n0)))→W.cell? ⟨W1.heap.size,1,none⟩=some (.slice ta top.length tc):=fun W h=>by simp[World.cell?,h.1]
          have a2:∀ W:World,(W.heap[W1.heap.size]? = some (.cells #[.string ⟨#[]⟩,.slice ta top.length tc] 173 (0,0))∧W.heap[w1.heap.size]? = some (.cells #[.string (aC p.1),.slice pa p.2.2.length pc] 173 (0,0))∧W.cell? ⟨gn,0,none⟩=some (.string (aC n0)))→W.cell? ⟨w1.heap.size,0,none⟩=some (.string (aC p.1)):=fun W h=>by simp[World.cell?,h.2.1]
          have a3:∀ W:World,(W.heap[W1.heap.size]? = some (.cells #[.string ⟨#[]⟩,.slice ta top.length tc] 173 (0,0))∧W.heap[w1.heap.size]? = some (.cells #[.string (aC p.1),.slice pa p.2.2.length pc] 173 (0,0))∧W.cell? ⟨gn,0,none⟩=some (.string (aC n0)))→W.cell? ⟨w1.heap.size,1,none⟩=some (.slice pa p.2.2.length pc):=fun W h=>by simp[World.cell?,h.2.1]
          have a4:∀ W:World,(W.heap[W1.heap.size]? = some (.cells #[.string ⟨#[]⟩,.slice ta top.length tc] 173 (0,0))∧W.heap[w1.heap.size]? = some (.cells #[.string (aC p.1),.slice pa p.2.2.length pc] 173 (0,0))∧W.cell? ⟨gn,0,none⟩=some (.string (aC n0)))→W.cell? ⟨gn,0,none⟩=some (.string (aC n0)):=fun W h=>h.2.2
          have hne0:(0:Int)<(n:Int):=by omega
          have hbr:Below Y.heap.size Y Y.drew:=(Below.refl _ _).drew
          have hba:∀ o,Below Y.heap.size Y (Y.alloc o).drew:=fun o=>((Below.refl _ Y).alloc (Nat.le_refl _) o).drew
          have hk0:=Gk.out Y.drew hbr
          have hka:=fun o=>Gk.out _ (hba o)
          have HKC:Hid (∀ W:World,Below Y.heap.size Y W→∀ D,Y.heap.size≤D→∀ x0 x1 x2 x3 x4 x5 x6 x7:Value,((((((((W.setCell ⟨D,0,none⟩ x0).setCell ⟨D,1,none⟩ x1).setCell ⟨D,2,none⟩ x2).setCell ⟨D,3,none⟩ x3).setCell ⟨D,4,none⟩ x4).setCell ⟨D,5,none⟩ x5).setCell ⟨D,6,none⟩ x6).setCell ⟨D,7,none⟩ x7).heap[W1.heap.size]? = some (.cells #[.string ⟨#[]⟩,.slice ta top.length tc] 173 (0,0))∧((((((((W.setCell ⟨D,0,none⟩ x0).setCell ⟨D,1,none⟩ x1).setCell ⟨D,2,none⟩ x2).setCell ⟨D,3,none⟩ x3).setCell ⟨D,4,none⟩ x4).setCell ⟨D,5,none⟩ x5).setCell ⟨D,6,none⟩ x6).setCell ⟨D,7,none⟩ x7).heap[w1.heap.size]? = some (.cells #[.string (aC p.1),.slice pa p.2.2.length pc] 173 (0,0))∧((((((((W.setCell ⟨D,0,none⟩ x0).setCell ⟨D,1,none⟩ x1).setCell ⟨D,2,none⟩ x2).setCell ⟨D,3,none⟩ x3).setCell ⟨D,4,none⟩ x4).setCell ⟨D,5,none⟩ x5).setCell ⟨D,6,none⟩ x6).setCell ⟨D,7,none⟩ x7).cell? ⟨gn,0,none⟩=some (.string (aC n0))):=fun W hW D hD x0 x1 x2 x3 x4 x5 x6 x7=>Gk.out _ ((((((((hW.setCell (p:=⟨D,0,none⟩) hD _).setCell (p:=⟨D,1,none⟩) hD _).setCell (p:=⟨D,2,none⟩) hD _).setCell (p:=⟨D,3,none⟩) hD _).setCell (p:=⟨D,4,none⟩) hD _).setCell (p:=⟨D,5,none⟩) hD _).setCell (p:=⟨D,6,none⟩) hD _).setCell (p:=⟨D,7,none⟩) hD _)
          clear hY gE r0 r1
          go_cut [14,15] (fun s14 s15 wx=>∃ (D:Nat) (xk:Int) (xs:ByteArray) (xl xc:Int) (jZ:Option Addr) (uC kA:Nat) (fC:Option Addr) (uD fD:Nat) (kB:Option Addr) (uE kC:Nat) (kD:Option Addr) (uF kE:Nat) (b:Bool),s14=.pointer (some ⟨D,0,none⟩)∧s15=.bool b∧wx.heap[D]? = some (.cells #[.int .i64 xk,.string xs,.int .i64 xl,.int .i64 xc,.slice jZ uC kA,.slice fC uD fD,.slice kB uE kC,.slice kD uF kE] 69 (0,0))∧Below Y.heap.size Y wx∧Y.heap.size≤D∧MX (f+1) S MR wx xk xs xl xc jZ uC kA fC uD fD kB uE kC kD uF kE b)
          case first=>
            go_region_held_law (fun W=>W.heap[W1.heap.size]? = some (.cells #[.string ⟨#[]⟩,.slice ta top.length tc] 173 (0,0))∧W.heap[w1.heap.size]? = some (.cells #[.string (aC p.1),.slice pa p.2.2.length pc] 173 (0,0))∧W.cell? ⟨gn,0,none⟩=some (.string (aC n0))) (first | with_reducible exact hk0 | with_reducible exact hka _ | with_reducible exact hk6 | with_reducible exact aGb _ | with_reducible exact HKC.out _ hb6 _ (Nat.le_refl _) _ _ _ _ _ _ _ _) (first
              | (go_at_call 174;refine(fE.out _ (by first | with_reducible exact hbr | with_reducible exact hba _)).mono ?_;rintro e W6 ⟨⟨xk,xs,xl,xc,jZ,uC,kA,fC,uD,fD,kB,uE,kC,kD,uF,kE,b,rfl,hx⟩,Gl⟩;have hb6:Below Y.heap.size Y W6:=(by first | exact hbr.trans Gl | exact(hba _).trans (Gl.mono (by simp)));have hk6:=Gk.out W6 hb6;have aGb:=fun o=>Gk.out (W6.alloc o) (hb6.alloc hb6.size o);first | (have In:=uB (o:=.cells z8 69) Gl;have HZ6:=aB In;obtain⟨z0c,z1c,z2c,z3c,z4c,z5c,z6c,z7c,z0f,z1f,z2f,z3f,z4f,z5f,z6f,z7f⟩:=rW In;clear In) | skip))
            all_goals go_wp2_with fail
            all_goals go_meet
            all_goals first
              | (obtain⟨Z,hZ,z8',yo,yz,yb⟩:=dC HZ6.out (.int .i64 xk) (.string xs) (.int .i64 xl) (.int .i64 xc) (.slice jZ uC kA) (.slice fC uD fD) (.slice kB uE kC) (.slice kD uF kE)
                 rw[hZ]
                 exact⟨Y.heap.size,xk,xs,xl,xc,jZ,uC,kA,fC,uD,fD,kB,uE,kC,kD,uF,kE,b,rfl,rfl,z8',hb6.trans (yb.mono (Nat.le_refl _)),Nat.le_refl _,hx.old fun k hk=>yo k (by have:=HS.out k hk;have:=HWY.out.size;omega)⟩)
              | exact⟨W6.heap.size,xk,xs,xl,xc,jZ,uC,kA,fC,uD,fD,kB,uE,kC,kD,uF,kE,b,rfl,rfl,alloc_heap_new _ _,hb6.alloc hb6.size _,hb6.size,hx.old fun k hk=>aD _ _ _ (by have:=HS.out k hk;have:=hb6.size;have:=HWY.out.size;omega)⟩
          case rest=>
            obtain⟨D,xk,xs,xl,xc,jZ,uC,kA,fC,uD,fD,kB,uE,kC,kD,uF,kE,b,rfl,rfl,hD,hbX,hDg,hx⟩:=hcut
            generalize wc=X at *
            have oY:=aB hbX
            have HD:=aB hD
            have HXW:Hid (Below w.heap.size w X):=HWY.out.trans (hbX.mono HWY.out.size)
            have hkX:=Gk.out X hbX
            have hsX:=hbX.size
            have hlD:=aN hD
            clear a0 a1 a2 a3 a4 hk0 hka hbr hba hD hbX
            rcases hx with ⟨rfl,d2,hMR,rfl,rfl,rfl,rfl,rfl,rfl,rfl,rfl,hkd⟩ | ⟨rfl,hMR⟩
            · have qT:Hid (eU (f+1) top d2 (p.1++n0) nt=RES):=by have:=pE.out;rw[hMR]at this;exact this
              have HDL:Hid (d2.inner.length≤100000):=aMl.out d2 hMR
              have eO:=aB hkd
              have aAx:Hid (∀ W:World,Below X.heap.size X W→W.heap[W1.heap.size]? = some (.cells #[.string ⟨#[]⟩,.slice ta top.length tc] 173 (0,0))∧W.heap[w1.heap.size]? = some (.cells #[.string (aC p.1),.slice pa p.2.2.length pc] 173 (0,0))∧W.cell? ⟨gn,0,none⟩=some (.string (aC n0))∧W.heap[D]? = some (.cells #[.int .i64 d2.kind,.string (aC d2.name),.int .i64 d2.line,.int .i64 d2.col,.slice jZ d2.fields.length kA,.slice fC d2.values.length fD,.slice kB d2.methods.length kC,.slice kD d2.inner.length kE] 69 (0,0))):=fun W hW=>⟨(hW.block _ (by omega)).trans hkX.1,(hW.block _ (by omega)).trans hkX.2.1,by rw[hW.cell (show gn<X.heap.size by omega)];exact hkX.2.2,(hW.block _ hlD).trans HD.out⟩
              have s3:=Ga (aC p.1) (aC n0) 1000000000001 (by rw[aV];omega) (by rw[aV];omega)
              rw[←kU]at s3
              have hFo:=fun (W:World) (hW:Below X.heap.size X W)=>Kl f top (.slice ta top.length tc) d2 jZ kA fC fD kB kC kD kE (p.1++n0) nt (.slice zV (n - 1) zW) S W hct hfit mP HDL.out (by have h1:=HNL.out;rw[List.length_append];omega) Rz.out (aM.old (fun b hb=>(hW.block b (by have:=HS.out b hb;have:=HXW.out.size;omega)).trans (HXW.out.block b (HS.out b hb))) HT.out) (eO.out.old fun b hb=>hW.block b (by have:=HS.out b hb;have:=HXW.out.size;omega))
                ⟨zV,zW,by rw[HNL.out],by rw[HNL.out];exact htc,by
                  rcases HTA.out with h1 | h1
                  · left
                    have h2:=HNL.out
                    exact List.eq_nil_of_length_eq_zero (by omega)
                  · right
                    refine⟨gn,1,h1,by have:=hW.size;omega,fun j x hx i u hu=>?_⟩
                    have hi:i=0:=by have:=(List.getElem?_eq_some_iff.1 hu).1;simp[aGa]at this;exact this
                    subst hi
                    have hu:u=.string (aC x):=by simpa [aGa]using hu.symm
                    rw[hu,hW.cell (show gn<X.heap.size by omega),oY.out.cell (show gn<Y.heap.size by omega),nC.out.cell (show gn<w1.heap.size by omega),dN.out.cell (show gn<W2.heap.size by omega)]
                    have:=Hl.out _ _ rfl (HCJ.out j x hx)
                    rw[show 1+(j*1+0)=j+1 by omega]
                    exact this⟩ (fun b hb=>by have:=HS.out b hb;have:=HXW.out.size;have:=hW.size;omega)
              obtain⟨P0,hP0⟩:∃ x,p.1++n0=x:=⟨_,rfl⟩
              rw[hP0]at hFo s3 qT
              rw[qT.out]at hFo
              have Zl:Hid (∀ W:World,Below X.heap.size X W→Calls Tryz.prog 175 #[.agg #[.string ⟨#[]⟩,.slice ta top.length tc],.agg #[.int .i64 d2.kind,.string (aC d2.name),.int .i64 d2.line,.int .i64 d2.col,.slice jZ d2.fields.length kA,.slice fC d2.values.length fD,.slice kB d2.methods.length kC,.slice kD d2.inner.length kE],.string (aC P0),.slice zV (n - 1) zW] W fun e w'=>(∃ s k b,e=.returned (.tuple #[.agg #[.string s,.int .i64 k],.bool b])∧SX RES s k b)∧Below W.heap.size W w'):=fun W hW=>(hFo W hW).mono fun e w' h=>⟨h.1.one,h.2⟩
              have HZX:Hid (∀ W:World,Below X.heap.size X W→W.heap[w.heap.size]? = some (.cells #[.string ⟨#[]⟩,.int .i64 0] 115 (0,0))):=fun W hW=>(hW.block _ (by omega)).trans ((oY.out.block _ (by omega)).trans ((nC.out.block _ (by omega)).trans HZQ.out))
              have a0:∀ W:World,(W.heap[W1.heap.size]? = some (.cells #[.string ⟨#[]⟩,.slice ta top.length tc] 173 (0,0))∧W.heap[w1.heap.size]? = some (.cells #[.string (aC p.1),.slice pa p.2.2.length pc] 173 (0,0))∧W.cell? ⟨gn,0,none⟩=some (.string (aC n0))∧W.heap[D]? = some (.cells #[.int .i64 d2.kind,.string (aC d2.name),.int .i64 d2.line,.int .i64 d2.col,.slice jZ d2.fields.length kA,.slice fC d2.values.length fD,.slice kB d2.methods.length kC,.slice kD d2.inner.length kE] 69 (0,0)))→W.cell? ⟨W1.heap.size,0,none⟩=some (.string ⟨#[]⟩):=fun W h=>by simp[World.cell?,h.1]
              have a1:∀ W:World,(W.heap[W1.heap.size]? = some (.cells #[.string ⟨#[]⟩,.slice ta top.length tc] 173 (0,0))∧W.heap[w1.heap.size]? = some (.cells #[.string (aC p.1),.slice pa p.2.2.length pc] 173 (0,0))∧W.cell? ⟨gn,0,none⟩=some (.string (aC n0))∧W.heap[D]? = some (.cells #[.int .i64 d2.kind,.string (aC d2.name),.int .i64 d2.line,.int .i64 d2.col,.slice jZ d2.fields.length kA,.slice fC d2.values.length fD,.slice kB d2.methods.length kC,.slice kD d2.inner.length kE] 69 (0,0)))→W.cell? ⟨W1.heap.size,1,none⟩=some (.slice ta top.length tc):=fun W h=>by simp[World.cell?,h.1]
              have a2:∀ W:World,(W.heap[W1.heap.size]? = some (.cells #[.string ⟨#[]⟩,.slice ta top.length tc] 173 (0,0))∧W.heap[w1.heap.size]? = some (.cells #[.string (aC p.1),.slice pa p.2.2.length pc] 173 (0,0))∧W.cell? ⟨gn,0,none⟩=some (.string (aC n0))∧W.heap[D]? = some (.cells #[.int .i64 d2.kind,.string (aC d2.name),.int .i64 d2.line,.int .i64 d2.col,.slice jZ d2.fields.length kA,.slice fC d2.values.length fD,.slice kB d2.methods.length kC,.slice kD d2.inner.length kE] 69 (0,0)))→W.cell? ⟨w1.heap.size,0,none⟩=some (.string (aC p.1)):=fun W h=>by simp[World.cell?,h.2.1]
              have a4:∀ W:World,(W.heap[W1.heap.size]? = some (.cells #[.string ⟨#[]⟩,.slice ta top.length tc] 173 (0,0))∧W.heap[w1.heap.size]? = some (.cells #[.string (aC p.1),.slice pa p.2.2.length pc] 173 (0,0))∧W.cell? ⟨gn,0,none⟩=some (.string (aC n0))∧W.heap[D]? = some (.cells #[.int .i64 d2.kind,.string (aC d2.name),.int .i64 d2.line,.int .i64 d2.col,.slice jZ d2.fields.length kA,.slice fC d2.values.length fD,.slice kB d2.methods.length kC,.slice kD d2.inner.length kE] 69 (0,0)))→W.cell? ⟨gn,0,none⟩=some (.string (aC n0)):=fun W h=>h.2.2.1
              have b0:∀ W:World,(W.heap[W1.heap.size]? = some (.cells #[.string ⟨#[]⟩,.slice ta top.length tc] 173 (0,0))∧W.heap[w1.heap.size]? = some (.cells #[.string (aC p.1),.slice pa p.2.2.length pc] 173 (0,0))∧W.cell? ⟨gn,0,none⟩=some (.string (aC n0))∧W.heap[D]? = some (.cells #[.int .i64 d2.kind,.string (aC d2.name),.int .i64 d2.line,.int .i64 d2.col,.slice jZ d2.fields.length kA,.slice fC d2.values.length fD,.slice kB d2.methods.length kC,.slice kD d2.inner.length kE] 69 (0,0)))→W.cell? ⟨D,0,none⟩=some (.int .i64 d2.kind):=fun W h=>by simp[World.cell?,h.2.2.2]
              have b1:∀ W:World,(W.heap[W1.heap.size]? = some (.cells #[.string ⟨#[]⟩,.slice ta top.length tc] 173 (0,0))∧W.heap[w1.heap.size]? = some (.cells #[.string (aC p.1),.slice pa p.2.2.length pc] 173 (0,0))∧W.cell? ⟨gn,0,none⟩=some (.string (aC n0))∧W.heap[D]? = some (.cells #[.int .i64 d2.kind,.string (aC d2.name),.int .i64 d2.line,.int .i64 d2.col,.slice jZ d2.fields.length kA,.slice fC d2.values.length fD,.slice kB d2.methods.length kC,.slice kD d2.inner.length kE] 69 (0,0)))→W.cell? ⟨D,1,none⟩=some (.string (aC d2.name)):=fun W h=>by simp[World.cell?,h.2.2.2]
              have b2:∀ W:World,(W.heap[W1.heap.size]? = some (.cells #[.string ⟨#[]⟩,.slice ta top.length tc] 173 (0,0))∧W.heap[w1.heap.size]? = some (.cells #[.string (aC p.1),.slice pa p.2.2.length pc] 173 (0,0))∧W.cell? ⟨gn,0,none⟩=some (.string (aC n0))∧W.heap[D]? = some (.cells #[.int .i64 d2.kind,.string (aC d2.name),.int .i64 d2.line,.int .i64 d2.col,.slice jZ d2.fields.length kA,.slice fC d2.values.length fD,.slice kB d2.methods.length kC,.slice kD d2.inner.length kE] 69 (0,0)))→W.cell? ⟨D,2,none⟩=some (.int .i64 d2.line):=fun W h=>by simp[World.cell?,h.2.2.2]
              have b3:∀ W:World,(W.heap[W1.heap.size]? = some (.cells #[.string ⟨#[]⟩,.slice ta top.length tc] 173 (0,0))∧W.heap[w1.heap.size]? = some (.cells #[.string (aC p.1),.slice pa p.2.2.length pc] 173 (0,0))∧W.cell? ⟨gn,0,none⟩=some (.string (aC n0))∧W.heap[D]? = some (.cells #[.int .i64 d2.kind,.string (aC d2.name),.int .i64 d2.line,.int .i64 d2.col,.slice jZ d2.fields.length kA,.slice fC d2.values.length fD,.slice kB d2.methods.length kC,.slice kD d2.inner.length kE] 69 (0,0)))→W.cell? ⟨D,3,none⟩=some (.int .i64 d2.col):=fun W h=>by simp[World.cell?,h.2.2.2]
              have b4:∀ W:World,(W.heap[W1.heap.size]? = some (.cells #[.string ⟨#[]⟩,.slice ta top.length tc] 173 (0,0))∧W.heap[w1.heap.size]? = some (.cells #[.string (aC p.1),.slice pa p.2.2.length pc] 173 (0,0))∧W.cell? ⟨gn,0,none⟩=some (.string (aC n0))∧W.heap[D]? = some (.cells #[.int .i64 d2.kind,.string (aC d2.name),.int .i64 d2.line,.int .i64 d2.col,.slice jZ d2.fields.length kA,.slice fC d2.values.length fD,.slice kB d2.methods.length kC,.slice kD d2.inner.length kE] 69 (0,0)))→W.cell? ⟨D,4,none⟩=some (.slice jZ d2.fields.length kA):=fun W h=>by simp[World.cell?,h.2.2.2]
              have b5:∀ W:World,(W.heap[W1.heap.size]? = some (.cells #[.string ⟨#[]⟩,.slice ta top.length tc] 173 (0,0))∧W.heap[w1.heap.size]? = some (.cells #[.string (aC p.1),.slice pa p.2.2.length pc] 173 (0,0))∧W.cell? ⟨gn,0,none⟩=some (.string (aC n0))∧W.heap[D]? = some (.cells #[.int .i64 d2.kind,.string (aC d2.name),.int .i64 d2.line,.int .i64 d2.col,.slice jZ d2.fields.length kA,.slice fC d2.values.length fD,.slice kB d2.methods.length kC,.slice kD d2.inner.length kE] 69 (0,0)))→W.cell? ⟨D,5,none⟩=some (.slice fC d2.values.length fD):=fun W h=>by simp[World.cell?,h.2.2.2]
              have b6:∀ W:World,(W.heap[W1.heap.size]? = some (.cells #[.string ⟨#[]⟩,.slice ta top.length tc] 173 (0,0))∧W.heap[w1.heap.size]? = some (.cells #[.string (aC p.1),.slice pa p.2.2.length pc] 173 (0,0))∧W.cell? ⟨gn,0,none⟩=some (.string (aC n0))∧W.heap[D]? = some (.cells #[.int .i64 d2.kind,.string (aC d2.name),.int .i64 d2.line,.int .i64 d2.col,.slice jZ d2.fields.length kA,.slice fC d2.values.length fD,.slice kB d2.methods.length kC,.slice kD d2.inner.length kE] 69 (0,0)))→W.cell? ⟨D,6,none⟩=some (.slice kB d2.methods.length kC):=fun W h=>by simp[World.cell?,h.2.2.2]
              have b7:∀ W:World,(W.heap[W1.heap.size]? = some (.cells #[.string ⟨#[]⟩,.slice ta top.length tc] 173 (0,0))∧W.heap[w1.heap.size]? = some (.cells #[.string (aC p.1),.slice pa p.2.2.length pc] 173 (0,0))∧W.cell? ⟨gn,0,none⟩=some (.string (aC n0))∧W.heap[D]? = some (.cells #[.int .i64 d2.kind,.string (aC d2.name),.int .i64 d2.line,.int .i64 d2.col,.slice jZ d2.fields.length kA,.slice fC d2.values.length fD,.slice kB d2.methods.length kC,.slice kD d2.inner.length kE] 69 (0,0)))→W.cell? ⟨D,7,none⟩=some (.slice kD d2.inner.length kE):=fun W h=>by simp[World.cell?,h.2.2.2]
              have hbr:Below X.heap.size X X.drew:=(Below.refl _ _).drew
              have hk0:=aAx.out X.drew hbr
              have lB:Hid (∀ (W:World) (x y:Value),Below X.heap.size X W→((W.setCell ⟨w.heap.size,0,none⟩ x).setCell ⟨w.heap.size,1,none⟩ y).heap[W1.heap.size]? = some (.cells #[.string ⟨#[]⟩,.slice ta top.length tc] 173 (0,0))∧((W.setCell ⟨w.heap.size,0,none⟩ x).setCell ⟨w.heap.size,1,none⟩ y).heap[w1.heap.size]? = some (.cells #[.string (aC p.1),.slice pa p.2.2.length pc] 173 (0,0))∧((W.setCell ⟨w.heap.size,0,none⟩ x).setCell ⟨w.heap.size,1,none⟩ y).cell? ⟨gn,0,none⟩=some (.string (aC n0))∧((W.setCell ⟨w.heap.size,0,none⟩ x).setCell ⟨w.heap.size,1,none⟩ y).heap[D]? = some (.cells #[.int .i64 d2.kind,.string (aC d2.name),.int .i64 d2.line,.int .i64 d2.col,.slice jZ d2.fields.length kA,.slice fC d2.values.length fD,.slice kB d2.methods.length kC,.slice kD d2.inner.length kE] 69 (0,0))):=fun W x y hW=>by
                have hh:∀ b,b≠w.heap.size→((W.setCell ⟨w.heap.size,0,none⟩ x).setCell ⟨w.heap.size,1,none⟩ y).heap[b]? = W.heap[b]?:=fun b hb=>by rw[Below.heap_setCell _ _ _ _ hb,Below.heap_setCell _ _ _ _ hb]
                obtain⟨h1,h2,h3,h4⟩:=aAx.out W hW
                have hgw:gn≠w.heap.size:=fun e=>by
                  rw[e]at h3
                  have hz:=HZX.out W hW
                  simp only[World.cell?,hz]at h3
                  have h5:aC n0=⟨#[]⟩:=by simpa using h3.symm
                  exact HN0.out (by simpa [aC]using h5)
                exact⟨(hh _ (by omega)).trans h1,(hh _ (by omega)).trans h2,by rw[World.cell?_of_block (hh gn hgw)];exact h3,(hh _ (by omega)).trans h4⟩
              clear hkX hMR hkd hFo hP0 Gk fE HKC HME pE aMl HCJ HTA Hl HC0 Ww HSR HOW Yl HMN HRF oI Vk HB2 HB1 hwq hj0 hj1
              have h13:=HTL.out
              rcases h13 with ⟨rfl,rfl,rfl⟩ | ⟨hc1,rfl,rfl⟩
              · obtain rfl:n=1:=by omega
                go_wp2_with fail
                go_region_held_law (fun W=>W.heap[W1.heap.size]? = some (.cells #[.string ⟨#[]⟩,.slice ta top.length tc] 173 (0,0))∧W.heap[w1.heap.size]? = some (.cells #[.string (aC p.1),.slice pa p.2.2.length pc] 173 (0,0))∧W.cell? ⟨gn,0,none⟩=some (.string (aC n0))∧W.heap[D]? = some (.cells #[.int .i64 d2.kind,.string (aC d2.name),.int .i64 d2.line,.int .i64 d2.col,.slice jZ d2.fields.length kA,.slice fC d2.values.length fD,.slice kB d2.methods.length kC,.slice kD d2.inner.length kE] 69 (0,0))) (first | with_reducible exact hk0 | with_reducible exact hk7 | with_reducible exact lB.out _ _ _ Rt) (first
                  | (go_at_call 175;refine(Zl.out _ (by with_reducible exact hbr)).mono ?_;rintro e W7 ⟨⟨s,k,b,rfl,hx⟩,aGd⟩;have Rt:Below X.heap.size X W7:=hbr.trans aGd;have hk7:=aAx.out W7 Rt;have Xb:=HZX.out W7 Rt;have c0:W7.cell? ⟨w.heap.size,0,none⟩=some (.string ⟨#[]⟩):=(by simp[World.cell?,Xb]);have c1:W7.cell? ⟨w.heap.size,1,none⟩=some (.int .i64 0):=(by simp[World.cell?,Xb]);have c2:W7.frozen? ⟨w.heap.size,0,none⟩=false:=(by simp[World.frozen?,Xb]);have c3:W7.frozen? ⟨w.heap.size,1,none⟩=false:=(by simp[World.frozen?,Xb])))
                all_goals go_wp2_with fail
                all_goals
                  have g2:=aG (aG (j:=0) Xb (.string s)) (j:=1) (.int .i64 k)
                  have hb2:Below w.heap.size w ((W7.setCell ⟨w.heap.size,0,none⟩ (.string s)).setCell ⟨w.heap.size,1,none⟩ (.int .i64 k)):=((HXW.out.trans (Rt.mono HXW.out.size)).setCell (p:=⟨w.heap.size,0,none⟩) (Nat.le_refl _) _).setCell (p:=⟨w.heap.size,1,none⟩) (Nat.le_refl _) _
                  generalize ((W7.setCell ⟨w.heap.size,0,none⟩ (.string s)).setCell ⟨w.heap.size,1,none⟩ (.int .i64 k))=Z at *
                  have r0:=aA g2 0 rfl
                  have r1:=aA g2 1 rfl
                  exact bodyPost_ret (v:=.tuple #[.agg #[.string s,.int .i64 k],.bool b]) (by simp[results,Tryz.results142,go_sem,r0,r1]) rfl ⟨hx.ans,hb2⟩
              · have hn1':(1:Int)≤(n:Int):=by omega
                go_wp2_with fail
                go_region_held_law (fun W=>W.heap[W1.heap.size]? = some (.cells #[.string ⟨#[]⟩,.slice ta top.length tc] 173 (0,0))∧W.heap[w1.heap.size]? = some (.cells #[.string (aC p.1),.slice pa p.2.2.length pc] 173 (0,0))∧W.cell? ⟨gn,0,none⟩=some (.string (aC n0))∧W.heap[D]? = some (.cells #[.int .i64 d2.kind,.string (aC d2.name),.int .i64 d2.line,.int .i64 d2.col,.slice jZ d2.fields.length kA,.slice fC d2.values.length fD,.slice kB d2.methods.length kC,.slice kD d2.inner.length kE] 69 (0,0))) (first | with_reducible exact hk0 | with_reducible exact hk7 | with_reducible exact lB.out _ _ _ Rt) (first
                  | (go_at_call 175;refine(Zl.out _ (by with_reducible exact hbr)).mono ?_;rintro e W7 ⟨⟨s,k,b,rfl,hx⟩,aGd⟩;have Rt:Below X.heap.size X W7:=hbr.trans aGd;have hk7:=aAx.out W7 Rt;have Xb:=HZX.out W7 Rt;have c0:W7.cell? ⟨w.heap.size,0,none⟩=some (.string ⟨#[]⟩):=(by simp[World.cell?,Xb]);have c1:W7.cell? ⟨w.heap.size,1,none⟩=some (.int .i64 0):=(by simp[World.cell?,Xb]);have c2:W7.frozen? ⟨w.heap.size,0,none⟩=false:=(by simp[World.frozen?,Xb]);have c3:W7.frozen? ⟨w.heap.size,1,none⟩=false:=(by simp[World.frozen?,Xb])))
                all_goals go_wp2_with fail
                all_goals
                  have g2:=aG (aG (j:=0) Xb (.string s)) (j:=1) (.int .i64 k)
                  have hb2:Below w.heap.size w ((W7.setCell ⟨w.heap.size,0,none⟩ (.string s)).setCell ⟨w.heap.size,1,none⟩ (.int .i64 k)):=((HXW.out.trans (Rt.mono HXW.out.size)).setCell (p:=⟨w.heap.size,0,none⟩) (Nat.le_refl _) _).setCell (p:=⟨w.heap.size,1,none⟩) (Nat.le_refl _) _
                  generalize ((W7.setCell ⟨w.heap.size,0,none⟩ (.string s)).setCell ⟨w.heap.size,1,none⟩ (.int .i64 k))=Z at *
                  have r0:=aA g2 0 rfl
                  have r1:=aA g2 1 rfl
                  exact bodyPost_ret (v:=.tuple #[.agg #[.string s,.int .i64 k],.bool b]) (by simp[results,Tryz.results142,go_sem,r0,r1]) rfl ⟨hx.ans,hb2⟩
            · have HS2:Hid (iF (f+1) top n0 nt (rs.drop (j+1))=RES):=by have:=pE.out;rw[hMR]at this;exact this
              have HBN:Hid (Below W2.heap.size W2 X):=dN.out.trans ((nC.out.trans (oY.out.mono nC.out.size)).mono dN.out.size)
              clear hMR hkX
              go_wp2_with fail
              go_roundw
              case rel=>exact⟨j+1,by go_num,by omega,HBN.out,HS2.out⟩
              case measure=>simp[intOf];omega
        · have bEu:¬(j:Int)<(m:Int):=by omega
          have qR:Hid (RES=none):=by
            have:=HSE.out
            have hl:rs.length=m:=by rw[←Yl.out,List.length_map];exact HMN.out
            rw[List.drop_eq_nil_of_le (by omega)]at this
            exact this.symm
          have k0:=aA HZQ.out 0 rfl
          have k1:=aA HZQ.out 1 rfl
          have f0:=aF HZQ.out 0
          have f1:=aF HZQ.out 1
          have hg2:=aG (aG (j:=0) HZQ.out (.string ⟨#[]⟩)) (j:=1) (.int .i64 0)
          have HG2:=aB hg2
          have HB2:Hid (Below w.heap.size w ((w1.setCell ⟨w.heap.size,0,none⟩ (.string ⟨#[]⟩)).setCell ⟨w.heap.size,1,none⟩ (.int .i64 0))):=(HWQ.out.setCell (p:=⟨w.heap.size,0,none⟩) (Nat.le_refl _) _).setCell (p:=⟨w.heap.size,1,none⟩) (Nat.le_refl _) _
          clear hg2
          go_wp2_with fail
          have g2:=HG2.out
          have hb2:=HB2.out
          clear HG2 HB2
          generalize ((w1.setCell ⟨w.heap.size,0,none⟩ (.string ⟨#[]⟩)).setCell ⟨w.heap.size,1,none⟩ (.int .i64 0))=Z at *
          have r0:=aA g2 0 rfl
          have r1:=aA g2 1 rfl
          exact bodyPost_ret (v:=.tuple #[.agg #[.string ⟨#[]⟩,.int .i64 0],.bool false]) (by simp[results,Tryz.results142,go_sem,r0,r1]) rfl ⟨.inr ⟨qR.out,rfl⟩,hb2⟩
end Go.Proofs.YtpojeinddnjpfaaGreatDoor
namespace Go.Proofs.YtpojeinddnjpfaaGreatDoor
set_option linter.unusedVariables false
open Go.ChangeShapes Go.WideShapes Go.ChangeAt Go.RowKit

end Go.Proofs.YtpojeinddnjpfaaGreatDoor
