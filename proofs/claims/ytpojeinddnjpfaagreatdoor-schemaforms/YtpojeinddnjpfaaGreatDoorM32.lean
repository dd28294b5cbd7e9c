/-
  Walks and plain words (SxB).
-/
import Derived.Test.YtpojeinddnjpfaaGreatDoorM0
import Derived.Test.YtpojeinddnjpfaaGreatDoorM31
import Derived.Test.YtpojeinddnjpfaaGreatDoorM29
import Derived.Lib.SlicesS
namespace Go.Proofs.YtpojeinddnjpfaaGreatDoor
set_option linter.unusedVariables false
open Go.ChangeShapes Go.WideShapes Go.ChangeAt Go.RowKit

theorem aAu {a b:List UInt8} (h:¬a=b):aC a≠aC b:=fun e=>h (by simpa [aC]using e)
theorem xC {a b:List UInt8} (h:¬a=b):((aC a).toList == (aC b).toList)=false:=(Lib.bytes_beq_false_iff _ _).2 (aAu h)
abbrev jG:=List UInt8 × Value × List Dc
def dJ (p:jG):List Value:=[.string (aC p.1),p.2.1]
theorem Wt:(Tryz.prog.info? 173).map (fun i=>(i.zero,i.size,i.bytes))=some (some (.agg #[.string ⟨#[]⟩,.slice none 0 0]),2,40):=by kernel_rfl
theorem xD {base:Nat} {v:Value} {xs:List jG} (wy:World) (x:jG) (bk:Nat) (hp:wy.ownsRow base 173 2 v xs.length (xs.flatMap dJ)∧wy.heap[bk]? = some (.cells (dJ x).toArray 173 (0,0))∧base≤wy.heap.size) (hone:x.2.1.oneCell'=true)
  {Post:Nat→Nat→World→Prop} (hpost:∀ g cap W,W.ownsRow base 173 2 (.slice (some ⟨g,0,none⟩) (xs.length+1) cap) (xs++[x]).length ((xs++[x]).flatMap dJ)→wy.grownBy W v.ownBlock→Post g cap W)
  {ops:Array Oper} {o:Oper} {a:Act} {K:Act→World→Prop} {Q:Exit→Act→World→Prop} {E:Prop} (hgd:o.guard=none) (s' x':Operand)
  (ho:o.op=.call { callee:=.builtin .append,args:=#[s',x'],argTypes:=#[237,237] }) (hs:a.eval s'=v) (hx:a.eval x'=.slice (some ⟨bk,0,none⟩) 1 1) (hbd:xs.length≤100000)
  (hk:∀ g cap W,Post g cap W→K (a.put o.dst (.slice (some ⟨g,0,none⟩) (xs.length+1) cap)) W) :
  if Region.wanted o (yielded ops a.tmps)=true then Oper.wp Tryz.prog o a wy K Q else E:=by
 obtain⟨i0,hi0,hz0,hz1,hz2⟩:=info_parts Wt
 obtain⟨h,hB,hb0⟩:=hp
 refine step_append_lies _ hgd s' x' 237 ho base 173 i0 _ 2 40 Tryz.underlying237 hi0 hz0 hz1 hz2 rfl (by decide) v xs.length (xs.flatMap dJ) hs h ⟨bk,0,none⟩ 1 1 (dJ x) hx rfl ?_ (by intro u hu;simp only[dJ,List.mem_cons,List.not_mem_nil,or_false]at hu;rcases hu with rfl | rfl <;> first | rfl | exact hone) (by decide) (by unfold maxLen;omega) (by omega) hb0 _ rfl ?_
 ·exact World.news_of_block (cs:=(dJ x).toArray) (t:=173) (fr:=(0,0)) hB
 ·intro g cap W hown hg hat hlt
  refine hk g cap W (hpost g cap W ?_ hg)
  rw[List.length_append,List.flatMap_append]
  simpa using hown
theorem Gc {w:World} {base base':Nat} {E:TypeId} {k n:Nat} {v:Value} {xs:List Value} (h:w.ownsRow base E k v n xs) (hb:base'≤base):w.ownsRow base' E k v n xs:=by
 obtain⟨h1,h2 | ⟨g,cap,cur,hv,hg,h⟩⟩:=h
 ·exact⟨h1,.inl h2⟩
 ·exact⟨h1,.inr ⟨g,cap,cur,hv,by omega,h⟩⟩
def Wu (f N:Nat) (w:World) (S:Nat→Prop) (res:Option (Dc × List Rm)) (e:Ending) (w':World):Prop:=
 (∃ (d:Dc) (rs:List Rm) (fa:Option Addr) (fc:Nat) (va:Option Addr) (vc:Nat) (ma:Option Addr) (mc:Nat) (ia:Option Addr) (ic:Nat) (rv:Value) (R:List jG),res=some (d,rs)∧e=.returned (.tuple #[.agg #[.int .i64 d.kind,.string (aC d.name),.int .i64 d.line,.int .i64 d.col,.slice fa d.fields.length fc,.slice va d.values.length vc,.slice ma d.methods.length mc,.slice ia d.inner.length ic],rv,.bool true])∧Kids f w' S (.slice fa d.fields.length fc) (.slice va d.values.length vc) (.slice ma d.methods.length mc) (.slice ia d.inner.length ic) d∧
   w'.ownsRow w.heap.size 173 2 rv R.length (R.flatMap dJ)∧R.map (fun p:jG=>((p.1,p.2.2):Rm))=rs∧(∀ p∈R,aM f w' S p.2.1 p.2.2)∧R.length≤N)∨
 (res=none∧e=.returned (.tuple #[.agg #[.int .i64 0,.string ⟨#[]⟩,.int .i64 0,.int .i64 0,.slice none 0 0,.slice none 0 0,.slice none 0 0,.slice none 0 0],.slice none 0 0,.bool false]))
theorem aAv (rec:List UInt8→List Dc→Option (Dc × List Rm)) (a:List UInt8) (all:List Dc) (wh:List UInt8):Jb rec a all wh []=none:=rfl
set_option maxHeartbeats 16000000 in
set_option maxRecDepth 20000 in
theorem zX:∀ (f:Nat) (ds:List Dc) (v:Value) (a wh:List UInt8) (S:Nat→Prop) (w:World),mO f ds≤100000→iV f ds→lL f ds→a.length≤wh.length→wh.length≤4000000000000→aM f w S v ds→(∀ b,S b→b<w.heap.size)→
  Calls Tryz.prog 199 #[.agg #[.string (aC a),v],.string (aC wh)] w fun e w'=>Wu f (mO f ds) w S (bZ f a ds wh) e w'∧Below w.heap.size w w':=by
 intro f
 induction f with
 | zero=>
  rintro ds v a wh S w _ _ _ hal hwl ⟨rfl,ad,c,rfl⟩ hS
  go_enter Tryz.func199,Tryz.ntmps199
  go_upto_region 1 with fail
  have jS:((w.alloc (.cells #[.string (aC a),.slice ad 0 c] 173)).alloc (.cells #[.int .i64 0,.string ⟨#[]⟩,.int .i64 0,.int .i64 0,.slice none 0 0,.slice none 0 0,.slice none 0 0,.slice none 0 0] 69)).heap[w.heap.size]? = some (.cells #[.string (aC a),.slice ad 0 c] 173 (0,0)):=by
   rw[aD _ _ _ (by simp)];exact alloc_heap_new _ _
  have hV1:((w.alloc (.cells #[.string (aC a),.slice ad 0 c] 173)).alloc (.cells #[.int .i64 0,.string ⟨#[]⟩,.int .i64 0,.int .i64 0,.slice none 0 0,.slice none 0 0,.slice none 0 0,.slice none 0 0] 69)).heap[w.heap.size+1]? = some (.cells #[.int .i64 0,.string ⟨#[]⟩,.int .i64 0,.int .i64 0,.slice none 0 0,.slice none 0 0,.slice none 0 0,.slice none 0 0] 69 (0,0)):=by
   have:=alloc_heap_new (w.alloc (.cells #[.string (aC a),.slice ad 0 c] 173)) (.cells #[.int .i64 0,.string ⟨#[]⟩,.int .i64 0,.int .i64 0,.slice none 0 0,.slice none 0 0,.slice none 0 0,.slice none 0 0] 69)
   simpa using this
  have dO:Below w.heap.size w ((w.alloc (.cells #[.string (aC a),.slice ad 0 c] 173)).alloc (.cells #[.int .i64 0,.string ⟨#[]⟩,.int .i64 0,.int .i64 0,.slice none 0 0,.slice none 0 0,.slice none 0 0,.slice none 0 0] 69)):=((Below.refl _ w).alloc (Nat.le_refl _) _).alloc (by simp) _
  have iH:((w.alloc (.cells #[.string (aC a),.slice ad 0 c] 173)).alloc (.cells #[.int .i64 0,.string ⟨#[]⟩,.int .i64 0,.int .i64 0,.slice none 0 0,.slice none 0 0,.slice none 0 0,.slice none 0 0] 69)).heap.size=w.heap.size+2:=by simp
  generalize ((w.alloc (.cells #[.string (aC a),.slice ad 0 c] 173)).alloc (.cells #[.int .i64 0,.string ⟨#[]⟩,.int .i64 0,.int .i64 0,.slice none 0 0,.slice none 0 0,.slice none 0 0,.slice none 0 0] 69))=V at *
  have c0:=aA jS 0 rfl
  have c1:=aA jS 1 rfl
  have mV:=aB jS
  have kI:=aB hV1
  have Bz:=aB dO
  have Yk:=aB iH
  clear jS hV1 dO iH
  obtain⟨A,hA⟩:∃ A,a.length=A:=⟨_,rfl⟩
  rw[hA]at hal
  have za:(aC a).size=A:=by rw[aV,hA]
  have hsl:=Nc wh A hal
  have hA0:(0:Int)≤(A:Int):=by omega
  have hex:(aC wh).extract A (aC wh).size=aC (wh.drop A):=Bx wh A
  have hA1:(A:Int)≤((aC wh).size:Int):=by rw[aV];omega
  go_wp2_with fail
  go_loopw [22] (fun i wr=>i=.int .i64 0∧wr=V) (fun _ _=>0)
  case atStart=>exact⟨rfl,rfl⟩
  case round=>
   obtain⟨rfl,hwr⟩:=hrel
   subst hwr
   have k0:=aA kI.out 0 rfl
   have k1:=aA kI.out 1 rfl
   have k2:=aA kI.out 2 rfl
   have k3:=aA kI.out 3 rfl
   have k4:=aA kI.out 4 rfl
   have k5:=aA kI.out 5 rfl
   have k6:=aA kI.out 6 rfl
   have k7:=aA kI.out 7 rfl
   have kf:∀ j,wr.frozen? ⟨w.heap.size+1,j,none⟩=false:=fun j=>by simp[World.frozen?,kI.out]
   have f0:=kf 0
   have f1:=kf 1
   have f2:=kf 2
   have f3:=kf 3
   have f4:=kf 4
   have f5:=kf 5
   have f6:=kf 6
   have f7:=kf 7
   obtain⟨Y,hY,y8,yo,yz,yb⟩:=dC kI.out (.int .i64 0) (.string ⟨#[]⟩) (.int .i64 0) (.int .i64 0) (.slice none 0 0) (.slice none 0 0) (.slice none 0 0) (.slice none 0 0)
   have HY:Hid (Below w.heap.size w Y):=Bz.out.trans (yb.mono (by omega))
   have Wv:=aB hY
   have r0:=aA y8 0 rfl
   have r1:=aA y8 1 rfl
   have r2:=aA y8 2 rfl
   have r3:=aA y8 3 rfl
   have r4:=aA y8 4 rfl
   have r5:=aA y8 5 rfl
   have r6:=aA y8 6 rfl
   have r7:=aA y8 7 rfl
   clear hY y8 yo yz yb
   go_wp2_with fail
   rw[Wv.out]
   refine bodyPost_ret (v:=.tuple #[.agg #[.int .i64 0,.string ⟨#[]⟩,.int .i64 0,.int .i64 0,.slice none 0 0,.slice none 0 0,.slice none 0 0,.slice none 0 0],.slice none 0 0,.bool false]) (by simp[results,Tryz.results199,go_sem,r0,r1,r2,r3,r4,r5,r6,r7]) rfl ?_
   exact⟨.inr ⟨rfl,rfl⟩,HY.out⟩
 | succ f ih=>
  intro ds v a wh S w hf hfit mP hal hwl hH hS
  obtain⟨ad,c,rfl⟩:=hH.eI
  have HH:=aB hH
  have rQ:=aB hfit
  have HTX:=aB mP
  have HS:=aB hS
  have hlen:=hfit.1
  obtain⟨n,hn⟩:∃ n,ds.length=n:=⟨_,rfl⟩
  have HN:=aB hn
  obtain⟨RES,hR⟩:∃ r,bZ (f+1) a ds wh=r:=⟨_,rfl⟩
  have HR:=aB hR
  rw[hn]at hlen ⊢
  rw[hR]
  clear hH hfit mP hS hn hR
  go_enter Tryz.func199,Tryz.ntmps199
  go_upto_region 1 with fail
  have jS:((w.alloc (.cells #[.string (aC a),.slice ad n c] 173)).alloc (.cells #[.int .i64 0,.string ⟨#[]⟩,.int .i64 0,.int .i64 0,.slice none 0 0,.slice none 0 0,.slice none 0 0,.slice none 0 0] 69)).heap[w.heap.size]? = some (.cells #[.string (aC a),.slice ad n c] 173 (0,0)):=by
   rw[aD _ _ _ (by simp)];exact alloc_heap_new _ _
  have hV1:((w.alloc (.cells #[.string (aC a),.slice ad n c] 173)).alloc (.cells #[.int .i64 0,.string ⟨#[]⟩,.int .i64 0,.int .i64 0,.slice none 0 0,.slice none 0 0,.slice none 0 0,.slice none 0 0] 69)).heap[w.heap.size+1]? = some (.cells #[.int .i64 0,.string ⟨#[]⟩,.int .i64 0,.int .i64 0,.slice none 0 0,.slice none 0 0,.slice none 0 0,.slice none 0 0] 69 (0,0)):=by
   have:=alloc_heap_new (w.alloc (.cells #[.string (aC a),.slice ad n c] 173)) (.cells #[.int .i64 0,.string ⟨#[]⟩,.int .i64 0,.int .i64 0,.slice none 0 0,.slice none 0 0,.slice none 0 0,.slice none 0 0] 69)
   simpa using this
  have dO:Below w.heap.size w ((w.alloc (.cells #[.string (aC a),.slice ad n c] 173)).alloc (.cells #[.int .i64 0,.string ⟨#[]⟩,.int .i64 0,.int .i64 0,.slice none 0 0,.slice none 0 0,.slice none 0 0,.slice none 0 0] 69)):=((Below.refl _ w).alloc (Nat.le_refl _) _).alloc (by simp) _
  have iH:((w.alloc (.cells #[.string (aC a),.slice ad n c] 173)).alloc (.cells #[.int .i64 0,.string ⟨#[]⟩,.int .i64 0,.int .i64 0,.slice none 0 0,.slice none 0 0,.slice none 0 0,.slice none 0 0] 69)).heap.size=w.heap.size+2:=by simp
  generalize ((w.alloc (.cells #[.string (aC a),.slice ad n c] 173)).alloc (.cells #[.int .i64 0,.string ⟨#[]⟩,.int .i64 0,.int .i64 0,.slice none 0 0,.slice none 0 0,.slice none 0 0,.slice none 0 0] 69))=V at *
  have c0:=aA jS 0 rfl
  have c1:=aA jS 1 rfl
  have mV:=aB jS
  have kI:=aB hV1
  have Bz:=aB dO
  have Yk:=aB iH
  clear jS hV1 dO iH
  obtain⟨A,hA⟩:∃ A,a.length=A:=⟨_,rfl⟩
  rw[hA]at hal
  have za:(aC a).size=A:=by rw[aV,hA]
  have zw:(aC wh).size=wh.length:=aV wh
  obtain⟨rest,hrest⟩:∃ r,wh.drop A=r:=⟨_,rfl⟩
  have hsl:=Nc wh A hal
  have hA0:(0:Int)≤(A:Int):=by omega
  have hex:(aC wh).extract A wh.length=aC (wh.drop A):=by have:=Bx wh A;rw[zw]at this;exact this
  rw[hrest]at hsl hex
  have hA1:(A:Int)≤(wh.length:Int):=by omega
  have sC:=aB hA
  have qS:=aB hrest
  clear hA hrest
  go_wp2_with fail
  clear hsl hex c0 c1
  go_loopw [22] (fun i wr=>∃ j:Nat,i=.int .i64 (j:Int)∧j≤n∧Below V.heap.size V wr∧Jb (fun a' ds'=>bZ f a' ds' wh) a ds wh (ds.drop j)=RES) (fun i _=>n - (intOf i).toNat)
  case atStart=>exact⟨0,rfl,by omega,Below.refl _ _,HR.out⟩
  case round=>
   generalize wr=w1 at *
   obtain⟨j,rfl,hj,hbq,hgo⟩:=hrel
   have dN:=aB hbq
   have HGO:=aB hgo
   have hs1:w.heap.size+2≤w1.heap.size:=by have:=hbq.size;rw[Yk.out]at this;exact this
   have HBw:Hid (Below w.heap.size w w1):=Bz.out.trans (hbq.mono Bz.out.size)
   have HX0:Hid (w1.heap[w.heap.size]? = some (.cells #[.string (aC a),.slice ad n c] 173 (0,0))):=(hbq.block _ (by rw[Yk.out];omega)).trans mV.out
   have Hs:Hid (w1.heap[w.heap.size+1]? = some (.cells #[.int .i64 0,.string ⟨#[]⟩,.int .i64 0,.int .i64 0,.slice none 0 0,.slice none 0 0,.slice none 0 0,.slice none 0 0] 69 (0,0))):=(hbq.block _ (by rw[Yk.out];omega)).trans kI.out
   clear hbq hgo
   by_cases hjn:j<n
   ·obtain⟨d,hd⟩:∃ d,ds[j]? = some d:=⟨_,List.getElem?_eq_getElem (by have:=HN.out;omega)⟩
    have hdm:=List.mem_of_getElem? hd
    have Ye:=rQ.out.2 d hdm
    have htd:=HTX.out d hdm
    have hn1:=htd.1
    have hdr:ds.drop j=d :: ds.drop (j+1):=by
     rw[List.drop_eq_getElem_cons (by have:=HN.out;omega),(List.getElem?_eq_some_iff.1 hd).2]
    have hci:mO f d.inner+1≤mO (f+1) ds:=by have h1:=Bv f ds hd;unfold ctD at h1;omega
    have hG1:=HGO.out
    rw[hdr,rF,sC.out,qS.out]at hG1
    have HG1:=aB hG1
    obtain⟨g,o,c0,fa,fc,va,vc,ma,mc,ia,ic,hsl,hg,e0,e1,e2,e3,e4,e5,e6,e7,kd⟩:=jF HH.out (W:=w1) (fun b hb=>HBw.out.block b (HS.out b hb)) hd
    rw[HN.out]at hsl
    obtain⟨rfl,rfl⟩:ad=some ⟨g,o,none⟩∧c=c0:=by
     injection hsl with h1 _ h3
     exact⟨h1,h3⟩
    have hgw:g<w.heap.size:=HS.out g hg
    have eO:=aB kd
    have hj0:(0:Int)≤(j:Int):=by omega
    have hj1:(j:Int)<(n:Int):=by omega
    have hwq:=eE j (by omega)
    have hY:(w1.alloc (.cells #[.int .i64 d.kind,.string (aC d.name),.int .i64 d.line,.int .i64 d.col,.slice fa d.fields.length fc,.slice va d.values.length vc,.slice ma d.methods.length mc,.slice ia d.inner.length ic] 69)).heap[w1.heap.size]? = some (.cells #[.int .i64 d.kind,.string (aC d.name),.int .i64 d.line,.int .i64 d.col,.slice fa d.fields.length fc,.slice va d.values.length vc,.slice ma d.methods.length mc,.slice ia d.inner.length ic] 69 (0,0)):=alloc_heap_new _ _
    have gE:Below w1.heap.size w1 (w1.alloc (.cells #[.int .i64 d.kind,.string (aC d.name),.int .i64 d.line,.int .i64 d.col,.slice fa d.fields.length fc,.slice va d.values.length vc,.slice ma d.methods.length mc,.slice ia d.inner.length ic] 69)):=(Below.refl _ w1).alloc (Nat.le_refl _) _
    clear hd hdm hdr hG1 hsl kd HGO
    go_upto_region 5 with fail
    generalize (w1.alloc (.cells #[.int .i64 d.kind,.string (aC d.name),.int .i64 d.line,.int .i64 d.col,.slice fa d.fields.length fc,.slice va d.values.length vc,.slice ma d.methods.length mc,.slice ia d.inner.length ic] 69))=Y at *
    have hlY:=aN hY
    have nC:=aB gE
    have HYC:=aB hY
    have zO:Hid (Y.heap[w.heap.size]? = some (.cells #[.string (aC a),.slice (some ⟨g,o,none⟩) n c] 173 (0,0))):=(gE.block _ (by omega)).trans HX0.out
    have uM:Hid (Y.heap[w.heap.size+1]? = some (.cells #[.int .i64 0,.string ⟨#[]⟩,.int .i64 0,.int .i64 0,.slice none 0 0,.slice none 0 0,.slice none 0 0,.slice none 0 0] 69 (0,0))):=(gE.block _ (by omega)).trans Hs.out
    have Ki:Hid (Below w.heap.size w Y):=HBw.out.trans (gE.mono HBw.out.size)
    have hsY:=gE.size
    have y1:=aA hY 1 rfl
    clear e0 e1 e2 e3 e4 e5 e6 e7 hY gE
    by_cases h1:d.name=rest
    ·subst h1
     have oI:Hid (RES=some (d,[(a,ds)])):=by have:=HG1.out;rw[if_pos rfl]at this;exact this.symm
     go_upto_region 6 with fail
     have l0:∀ W:World,(W.heap[w1.heap.size]? = some (.cells #[.int .i64 d.kind,.string (aC d.name),.int .i64 d.line,.int .i64 d.col,.slice fa d.fields.length fc,.slice va d.values.length vc,.slice ma d.methods.length mc,.slice ia d.inner.length ic] 69 (0,0))∧W.heap[w.heap.size]? = some (.cells #[.string (aC a),.slice (some ⟨g,o,none⟩) n c] 173 (0,0)))→W.cell? ⟨w1.heap.size,0,none⟩=some (.int .i64 d.kind):=fun W h=>by simp[World.cell?,h.1]
     have l1:∀ W:World,(W.heap[w1.heap.size]? = some (.cells #[.int .i64 d.kind,.string (aC d.name),.int .i64 d.line,.int .i64 d.col,.slice fa d.fields.length fc,.slice va d.values.length vc,.slice ma d.methods.length mc,.slice ia d.inner.length ic] 69 (0,0))∧W.heap[w.heap.size]? = some (.cells #[.string (aC a),.slice (some ⟨g,o,none⟩) n c] 173 (0,0)))→W.cell? ⟨w1.heap.size,1,none⟩=some (.string (aC d.name)):=fun W h=>by simp[World.cell?,h.1]
     have l2:∀ W:World,(W.heap[w1.heap.size]? = some (.cells #[.int .i64 d.kind,.string (aC d.name),.int .i64 d.line,.int .i64 d.col,.slice fa d.fields.length fc,.slice va d.values.length vc,.slice ma d.methods.length mc,.slice ia d.inner.length ic] 69 (0,0))∧W.heap[w.heap.size]? = some (.cells #[.string (aC a),.slice (some ⟨g,o,none⟩) n c] 173 (0,0)))→W.cell? ⟨w1.heap.size,2,none⟩=some (.int .i64 d.line):=fun W h=>by simp[World.cell?,h.1]
     have l3:∀ W:World,(W.heap[w1.heap.size]? = some (.cells #[.int .i64 d.kind,.string (aC d.name),.int .i64 d.line,.int .i64 d.col,.slice fa d.fields.length fc,.slice va d.values.length vc,.slice ma d.methods.length mc,.slice ia d.inner.length ic] 69 (0,0))∧W.heap[w.heap.size]? = some (.cells #[.string (aC a),.slice (some ⟨g,o,none⟩) n c] 173 (0,0)))→W.cell? ⟨w1.heap.size,3,none⟩=some (.int .i64 d.col):=fun W h=>by simp[World.cell?,h.1]
     have l4:∀ W:World,(W.heap[w1.heap.size]? = some (.cells #[.int .i64 d.kind,.string (aC d.name),.int .i64 d.line,.int .i64 d.col,.slice fa d.fields.length fc,.slice va d.values.length vc,.slice ma d.methods.length mc,.slice ia d.inner.length ic] 69 (0,0))∧W.heap[w.heap.size]? = some (.cells #[.string (aC a),.slice (some ⟨g,o,none⟩) n c] 173 (0,0)))→W.cell? ⟨w1.heap.size,4,none⟩=some (.slice fa d.fields.length fc):=fun W h=>by simp[World.cell?,h.1]
     have l5:∀ W:World,(W.heap[w1.heap.size]? = some (.cells #[.int .i64 d.kind,.string (aC d.name),.int .i64 d.line,.int .i64 d.col,.slice fa d.fields.length fc,.slice va d.values.length vc,.slice ma d.methods.length mc,.slice ia d.inner.length ic] 69 (0,0))∧W.heap[w.heap.size]? = some (.cells #[.string (aC a),.slice (some ⟨g,o,none⟩) n c] 173 (0,0)))→W.cell? ⟨w1.heap.size,5,none⟩=some (.slice va d.values.length vc):=fun W h=>by simp[World.cell?,h.1]
     have l6:∀ W:World,(W.heap[w1.heap.size]? = some (.cells #[.int .i64 d.kind,.string (aC d.name),.int .i64 d.line,.int .i64 d.col,.slice fa d.fields.length fc,.slice va d.values.length vc,.slice ma d.methods.length mc,.slice ia d.inner.length ic] 69 (0,0))∧W.heap[w.heap.size]? = some (.cells #[.string (aC a),.slice (some ⟨g,o,none⟩) n c] 173 (0,0)))→W.cell? ⟨w1.heap.size,6,none⟩=some (.slice ma d.methods.length mc):=fun W h=>by simp[World.cell?,h.1]
     have l7:∀ W:World,(W.heap[w1.heap.size]? = some (.cells #[.int .i64 d.kind,.string (aC d.name),.int .i64 d.line,.int .i64 d.col,.slice fa d.fields.length fc,.slice va d.values.length vc,.slice ma d.methods.length mc,.slice ia d.inner.length ic] 69 (0,0))∧W.heap[w.heap.size]? = some (.cells #[.string (aC a),.slice (some ⟨g,o,none⟩) n c] 173 (0,0)))→W.cell? ⟨w1.heap.size,7,none⟩=some (.slice ia d.inner.length ic):=fun W h=>by simp[World.cell?,h.1]
     have m0:∀ W:World,(W.heap[w1.heap.size]? = some (.cells #[.int .i64 d.kind,.string (aC d.name),.int .i64 d.line,.int .i64 d.col,.slice fa d.fields.length fc,.slice va d.values.length vc,.slice ma d.methods.length mc,.slice ia d.inner.length ic] 69 (0,0))∧W.heap[w.heap.size]? = some (.cells #[.string (aC a),.slice (some ⟨g,o,none⟩) n c] 173 (0,0)))→W.cell? ⟨w.heap.size,0,none⟩=some (.string (aC a)):=fun W h=>by simp[World.cell?,h.2]
     have m1:∀ W:World,(W.heap[w1.heap.size]? = some (.cells #[.int .i64 d.kind,.string (aC d.name),.int .i64 d.line,.int .i64 d.col,.slice fa d.fields.length fc,.slice va d.values.length vc,.slice ma d.methods.length mc,.slice ia d.inner.length ic] 69 (0,0))∧W.heap[w.heap.size]? = some (.cells #[.string (aC a),.slice (some ⟨g,o,none⟩) n c] 173 (0,0)))→W.cell? ⟨w.heap.size,1,none⟩=some (.slice (some ⟨g,o,none⟩) n c):=fun W h=>by simp[World.cell?,h.2]
     have hk0:Y.drew.heap[w1.heap.size]? = some (.cells #[.int .i64 d.kind,.string (aC d.name),.int .i64 d.line,.int .i64 d.col,.slice fa d.fields.length fc,.slice va d.values.length vc,.slice ma d.methods.length mc,.slice ia d.inner.length ic] 69 (0,0))∧Y.drew.heap[w.heap.size]? = some (.cells #[.string (aC a),.slice (some ⟨g,o,none⟩) n c] 173 (0,0)):=⟨HYC.out,zO.out⟩
     have hka:∀ (W:World) (ob:Obj),(W.heap[w1.heap.size]? = some (.cells #[.int .i64 d.kind,.string (aC d.name),.int .i64 d.line,.int .i64 d.col,.slice fa d.fields.length fc,.slice va d.values.length vc,.slice ma d.methods.length mc,.slice ia d.inner.length ic] 69 (0,0))∧W.heap[w.heap.size]? = some (.cells #[.string (aC a),.slice (some ⟨g,o,none⟩) n c] 173 (0,0)))→(W.alloc ob).heap[w1.heap.size]? = some (.cells #[.int .i64 d.kind,.string (aC d.name),.int .i64 d.line,.int .i64 d.col,.slice fa d.fields.length fc,.slice va d.values.length vc,.slice ma d.methods.length mc,.slice ia d.inner.length ic] 69 (0,0))∧(W.alloc ob).heap[w.heap.size]? = some (.cells #[.string (aC a),.slice (some ⟨g,o,none⟩) n c] 173 (0,0)):=fun W ob h=>⟨by rw[aD _ _ _ (aN h.1)];exact h.1,by rw[aD _ _ _ (aN h.2)];exact h.2⟩
     have hks:∀ (W:World) (i:Nat) (x:Value),(W.heap[w1.heap.size]? = some (.cells #[.int .i64 d.kind,.string (aC d.name),.int .i64 d.line,.int .i64 d.col,.slice fa d.fields.length fc,.slice va d.values.length vc,.slice ma d.methods.length mc,.slice ia d.inner.length ic] 69 (0,0))∧W.heap[w.heap.size]? = some (.cells #[.string (aC a),.slice (some ⟨g,o,none⟩) n c] 173 (0,0)))→(W.setCell ⟨w.heap.size+1,i,none⟩ x).heap[w1.heap.size]? = some (.cells #[.int .i64 d.kind,.string (aC d.name),.int .i64 d.line,.int .i64 d.col,.slice fa d.fields.length fc,.slice va d.values.length vc,.slice ma d.methods.length mc,.slice ia d.inner.length ic] 69 (0,0))∧(W.setCell ⟨w.heap.size+1,i,none⟩ x).heap[w.heap.size]? = some (.cells #[.string (aC a),.slice (some ⟨g,o,none⟩) n c] 173 (0,0)):=fun W i x h=>⟨by rw[Below.heap_setCell _ _ _ _ (by show w1.heap.size≠w.heap.size+1;omega)];exact h.1,by rw[Below.heap_setCell _ _ _ _ (by show w.heap.size≠w.heap.size+1;omega)];exact h.2⟩
     have HA1:Hid (∀ o,(Y.alloc o).heap[w.heap.size+1]? = some (.cells #[.int .i64 0,.string ⟨#[]⟩,.int .i64 0,.int .i64 0,.slice none 0 0,.slice none 0 0,.slice none 0 0,.slice none 0 0] 69 (0,0))):=fun o=>by rw[aD _ _ _ (show w.heap.size+1<Y.heap.size from aN uM.out)];exact uM.out
     have k0:=aA uM.out 0 rfl
     have q0:∀ o,(Y.alloc o).cell? ⟨w.heap.size+1,0,none⟩=some (.int .i64 0):=fun o=>by have:=HA1.out o;simp[World.cell?,this]
     have k1:=aA uM.out 1 rfl
     have q1:∀ o,(Y.alloc o).cell? ⟨w.heap.size+1,1,none⟩=some (.string ⟨#[]⟩):=fun o=>by have:=HA1.out o;simp[World.cell?,this]
     have k2:=aA uM.out 2 rfl
     have q2:∀ o,(Y.alloc o).cell? ⟨w.heap.size+1,2,none⟩=some (.int .i64 0):=fun o=>by have:=HA1.out o;simp[World.cell?,this]
     have k3:=aA uM.out 3 rfl
     have q3:∀ o,(Y.alloc o).cell? ⟨w.heap.size+1,3,none⟩=some (.int .i64 0):=fun o=>by have:=HA1.out o;simp[World.cell?,this]
     have k4:=aA uM.out 4 rfl
     have q4:∀ o,(Y.alloc o).cell? ⟨w.heap.size+1,4,none⟩=some (.slice none 0 0):=fun o=>by have:=HA1.out o;simp[World.cell?,this]
     have k5:=aA uM.out 5 rfl
     have q5:∀ o,(Y.alloc o).cell? ⟨w.heap.size+1,5,none⟩=some (.slice none 0 0):=fun o=>by have:=HA1.out o;simp[World.cell?,this]
     have k6:=aA uM.out 6 rfl
     have q6:∀ o,(Y.alloc o).cell? ⟨w.heap.size+1,6,none⟩=some (.slice none 0 0):=fun o=>by have:=HA1.out o;simp[World.cell?,this]
     have k7:=aA uM.out 7 rfl
     have q7:∀ o,(Y.alloc o).cell? ⟨w.heap.size+1,7,none⟩=some (.slice none 0 0):=fun o=>by have:=HA1.out o;simp[World.cell?,this]
     have kf:∀ j,Y.frozen? ⟨w.heap.size+1,j,none⟩=false:=fun j=>by simp[World.frozen?,uM.out]
     have qf:∀ o j,(Y.alloc o).frozen? ⟨w.heap.size+1,j,none⟩=false:=fun o j=>by have:=HA1.out o;simp[World.frozen?,this]
     have f0:=kf 0
     have p0:=fun o=>qf o 0
     have f1:=kf 1
     have p1:=fun o=>qf o 1
     have f2:=kf 2
     have p2:=fun o=>qf o 2
     have f3:=kf 3
     have p3:=fun o=>qf o 3
     have f4:=kf 4
     have p4:=fun o=>qf o 4
     have f5:=kf 5
     have p5:=fun o=>qf o 5
     have f6:=kf 6
     have p6:=fun o=>qf o 6
     have f7:=kf 7
     have p7:=fun o=>qf o 7
     have b0:Y.cell? ⟨w1.heap.size,0,none⟩=some (.int .i64 d.kind):=l0 Y hk0
     have b1:Y.cell? ⟨w1.heap.size,1,none⟩=some (.string (aC d.name)):=l1 Y hk0
     have b2:Y.cell? ⟨w1.heap.size,2,none⟩=some (.int .i64 d.line):=l2 Y hk0
     have b3:Y.cell? ⟨w1.heap.size,3,none⟩=some (.int .i64 d.col):=l3 Y hk0
     have b4:Y.cell? ⟨w1.heap.size,4,none⟩=some (.slice fa d.fields.length fc):=l4 Y hk0
     have b5:Y.cell? ⟨w1.heap.size,5,none⟩=some (.slice va d.values.length vc):=l5 Y hk0
     have b6:Y.cell? ⟨w1.heap.size,6,none⟩=some (.slice ma d.methods.length mc):=l6 Y hk0
     have b7:Y.cell? ⟨w1.heap.size,7,none⟩=some (.slice ia d.inner.length ic):=l7 Y hk0
     have b8:Y.cell? ⟨w.heap.size,0,none⟩=some (.string (aC a)):=m0 Y hk0
     have b9:Y.cell? ⟨w.heap.size,1,none⟩=some (.slice (some ⟨g,o,none⟩) n c):=m1 Y hk0
     go_region
     all_goals go_wp2_with fail
     all_goals clear l0 l1 l2 l3 l4 l5 l6 l7 m0 m1 hka hks k0 k1 k2 k3 k4 k5 k6 k7 q0 q1 q2 q3 q4 q5 q6 q7 kf qf f0 f1 f2 f3 f4 f5 f6 f7 p0 p1 p2 p3 p4 p5 p6 p7 b0 b1 b2 b3 b4 b5 b6 b7 b8 b9
     ·obtain⟨Y2,hY2,y8,yo,yz,yb⟩:=dC uM.out (.int .i64 d.kind) (.string (aC d.name)) (.int .i64 d.line) (.int .i64 d.col) (.slice fa d.fields.length fc) (.slice va d.values.length vc) (.slice ma d.methods.length mc) (.slice ia d.inner.length ic)
      rw[hY2]
      have z8:(Y2.alloc (.cells #[.string (aC a),.slice (some ⟨g,o,none⟩) n c] 173)).heap[w.heap.size+1]? = some (.cells #[.int .i64 d.kind,.string (aC d.name),.int .i64 d.line,.int .i64 d.col,.slice fa d.fields.length fc,.slice va d.values.length vc,.slice ma d.methods.length mc,.slice ia d.inner.length ic] 69 (0,0)):=by rw[aD _ _ _ (aN y8)];exact y8
      have zr:(Y2.alloc (.cells #[.string (aC a),.slice (some ⟨g,o,none⟩) n c] 173)).heap[Y.heap.size]? = some (.cells #[.string (aC a),.slice (some ⟨g,o,none⟩) n c] 173 (0,0)):=by rw[←yz];exact alloc_heap_new _ _
      have zb:Below w.heap.size w (Y2.alloc (.cells #[.string (aC a),.slice (some ⟨g,o,none⟩) n c] 173)):=(Ki.out.trans (yb.mono (by omega))).alloc (by rw[yz];exact Ki.out.size) _
      generalize Y2.alloc (.cells #[.string (aC a),.slice (some ⟨g,o,none⟩) n c] 173)=Z at *
      have r0:=aA z8 0 rfl
      have r1:=aA z8 1 rfl
      have r2:=aA z8 2 rfl
      have r3:=aA z8 3 rfl
      have r4:=aA z8 4 rfl
      have r5:=aA z8 5 rfl
      have r6:=aA z8 6 rfl
      have r7:=aA z8 7 rfl
      have Rw:Hid (Kids (f+1) Z.drew S (.slice fa d.fields.length fc) (.slice va d.values.length vc) (.slice ma d.methods.length mc) (.slice ia d.inner.length ic) d):=(eO.out.old (w':=Z.drew) fun b hb=>(zb.block b (HS.out b hb)).trans (HBw.out.block b (HS.out b hb)).symm).up
      have HHZ:Hid (aM (f+1) Z.drew S (.slice (some ⟨g,o,none⟩) n c) ds):=by
       refine(?_:aM _ _ _ _ _)
       have:=aM.old (w':=Z.drew) (fun b hb=>zb.block b (HS.out b hb)) HH.out
       rw[HN.out]at this
       exact this
      have HOZ:Hid (Z.drew.ownsRow w.heap.size 173 2 (.slice (some ⟨Y.heap.size,0,none⟩) 1 1) [((a,.slice (some ⟨g,o,none⟩) n c,ds):jG)].length ([((a,.slice (some ⟨g,o,none⟩) n c,ds):jG)].flatMap dJ)):=⟨rfl,.inr ⟨Y.heap.size,1,#[.string (aC a),.slice (some ⟨g,o,none⟩) n c],rfl,Ki.out.size,zr,Nat.le_refl _,by unfold maxLen;omega,rfl,rfl⟩⟩
      exact bodyPost_ret (v:=.tuple #[.agg #[.int .i64 d.kind,.string (aC d.name),.int .i64 d.line,.int .i64 d.col,.slice fa d.fields.length fc,.slice va d.values.length vc,.slice ma d.methods.length mc,.slice ia d.inner.length ic],.slice (some ⟨Y.heap.size,0,none⟩) 1 1,.bool true]) (by simp[results,Tryz.results199,go_sem,r0,r1,r2,r3,r4,r5,r6,r7]) rfl ⟨.inl ⟨d,_,fa,fc,va,vc,ma,mc,ia,ic,_,[(a,.slice (some ⟨g,o,none⟩) n c,ds)],oI.out,rfl,Rw.out,HOZ.out,rfl,fun p hp=>by rw[List.mem_singleton.1 hp];exact HHZ.out,by show 1≤_;omega⟩,zb.drew⟩
     ·obtain⟨Z,hZ,z8,yo,yz,yb⟩:=dC (HA1.out (.cells #[.string (aC a),.slice (some ⟨g,o,none⟩) n c] 173)) (.int .i64 d.kind) (.string (aC d.name)) (.int .i64 d.line) (.int .i64 d.col) (.slice fa d.fields.length fc) (.slice va d.values.length vc) (.slice ma d.methods.length mc) (.slice ia d.inner.length ic)
      rw[hZ]
      have zr:Z.heap[Y.heap.size]? = some (.cells #[.string (aC a),.slice (some ⟨g,o,none⟩) n c] 173 (0,0)):=by rw[yo _ (by omega)];exact alloc_heap_new _ _
      have zb:Below w.heap.size w Z:=(Ki.out.alloc Ki.out.size _).trans (yb.mono (by omega))
      have r0:=aA z8 0 rfl
      have r1:=aA z8 1 rfl
      have r2:=aA z8 2 rfl
      have r3:=aA z8 3 rfl
      have r4:=aA z8 4 rfl
      have r5:=aA z8 5 rfl
      have r6:=aA z8 6 rfl
      have r7:=aA z8 7 rfl
      have Rw:Hid (Kids (f+1) Z.drew S (.slice fa d.fields.length fc) (.slice va d.values.length vc) (.slice ma d.methods.length mc) (.slice ia d.inner.length ic) d):=(eO.out.old (w':=Z.drew) fun b hb=>(zb.block b (HS.out b hb)).trans (HBw.out.block b (HS.out b hb)).symm).up
      have HHZ:Hid (aM (f+1) Z.drew S (.slice (some ⟨g,o,none⟩) n c) ds):=by
       refine(?_:aM _ _ _ _ _)
       have:=aM.old (w':=Z.drew) (fun b hb=>zb.block b (HS.out b hb)) HH.out
       rw[HN.out]at this
       exact this
      have HOZ:Hid (Z.drew.ownsRow w.heap.size 173 2 (.slice (some ⟨Y.heap.size,0,none⟩) 1 1) [((a,.slice (some ⟨g,o,none⟩) n c,ds):jG)].length ([((a,.slice (some ⟨g,o,none⟩) n c,ds):jG)].flatMap dJ)):=⟨rfl,.inr ⟨Y.heap.size,1,#[.string (aC a),.slice (some ⟨g,o,none⟩) n c],rfl,Ki.out.size,zr,Nat.le_refl _,by unfold maxLen;omega,rfl,rfl⟩⟩
      exact bodyPost_ret (v:=.tuple #[.agg #[.int .i64 d.kind,.string (aC d.name),.int .i64 d.line,.int .i64 d.col,.slice fa d.fields.length fc,.slice va d.values.length vc,.slice ma d.methods.length mc,.slice ia d.inner.length ic],.slice (some ⟨Y.heap.size,0,none⟩) 1 1,.bool true]) (by simp[results,Tryz.results199,go_sem,r0,r1,r2,r3,r4,r5,r6,r7]) rfl ⟨.inl ⟨d,_,fa,fc,va,vc,ma,mc,ia,ic,_,[(a,.slice (some ⟨g,o,none⟩) n c,ds)],oI.out,rfl,Rw.out,HOZ.out,rfl,fun p hp=>by rw[List.mem_singleton.1 hp];exact HHZ.out,by show 1≤_;omega⟩,zb.drew⟩
    ·have Ry:=aB h1
     have t':=xC h1
     have t'':=beq_eq_false_iff_ne.2 h1
     obtain⟨D,hD⟩:∃ D,d.name.length=D:=⟨_,rfl⟩
     have zn:(aC d.name).size=D:=by rw[aV,hD]
     have hD1:D≤200000000:=by rw[←hD];exact hn1
     have s1:=Ga (aC d.name) ⟨#[46]⟩ 200000000 (by omega) (by show _+1≤_;omega)
     have hHP:=strings_HasPrefix (aC rest) (aC d.name++⟨#[46]⟩) Y
     have eP:Lib.hasPrefix (aC rest).data.toList (aC d.name++⟨#[46]⟩).data.toList=headed d.name rest:=by
      show List.isPrefixOf (aC d.name++aC [46]).data.toList rest=_
      rw[←kU];rfl
     rw[eP]at hHP
     have hG2:=HG1.out
     rw[if_neg h1]at hG2
     have hhr:=mE d.name rest
     have HHR:=aB hhr
     obtain⟨hb,hhb⟩:∃ b,headed d.name rest=b:=⟨_,rfl⟩
     rw[hhb]at hHP hG2 HHR
     have HG2:=aB hG2
     have HD:=aB hD
     have HFD:=aB Ye
     have HTD:=aB htd
     clear eP hhb hG2 hhr hD Ye htd h1 HG1
     go_wp2_with fail
     refine hHP.mono ?_
     rintro e Y9 ⟨rfl,h9⟩
     have h9:=h9.symm
     subst h9
     clear hHP s1 t' t''
     cases hb
     ·have aUc:=aB (dN.out.trans (nC.out.mono dN.out.size))
      have Gb:Hid (Jb (fun a' ds'=>bZ f a' ds' wh) a ds wh (ds.drop (j+1))=RES):=by have:=HG2.out;rw[if_neg (by decide)]at this;exact this
      go_wp2_with fail
      go_roundw
      case rel=>exact⟨j+1,by go_num,by omega,aUc.out,Gb.out⟩
      case measure=>simp[intOf];omega
     ·have Gb:Hid ((match bZ f (wh.take (A+D+1)) d.inner wh with | some (x,o)=>some (x,o++[(a,ds)]) | none=>Jb (fun a' ds'=>bZ f a' ds' wh) a ds wh (ds.drop (j+1)))=RES):=by
       have:=HG2.out
       rw[if_pos rfl,HD.out]at this
       exact this
      have hK:A+D+1≤wh.length:=by
       obtain⟨r',hr'⟩:=HHR.out.1 rfl
       have h2:=congrArg List.length qS.out
       rw[List.length_drop,hr',List.length_append,HD.out,List.length_cons]at h2
       omega
      have hsl2:=aDb wh (A+D+1) hK
      obtain⟨M,hM⟩:∃ M,wh.take (A+D+1)=M:=⟨_,rfl⟩
      have hMl:M.length≤wh.length:=by rw[←hM,List.length_take];omega
      have aUd:(aC wh).extract 0 (A+D+1)=aC M:=by rw[Bw,hM]
      rw[hM]at Gb hsl2
      rw[show (((A+D+1:Nat)):Int)=(A:Int)+(D:Int)+1 by omega]at hsl2
      have htn:((A:Int)+(D:Int)+1).toNat=A+D+1:=by omega
      have hw1:IntKind.i64.wrap ((A:Int)+(D:Int))=(A:Int)+(D:Int):=by rw[IntKind.wrap_i64];omega
      have hw2:IntKind.i64.wrap ((A:Int)+(D:Int)+1)=(A:Int)+(D:Int)+1:=by rw[IntKind.wrap_i64];omega
      have hK0:(0:Int)≤(A:Int)+(D:Int)+1:=by omega
      have hK1:(A:Int)+(D:Int)+1≤(wh.length:Int):=by omega
      have yb0:=aA zO.out 0 rfl
      have y7:=aA HYC.out 7 rfl
      have fO:=ih d.inner (.slice ia d.inner.length ic) M wh S Y (by omega) HFD.out.2.2.2 HTD.out.2.2.2.2 hMl hwl (aM.old (fun b hb=>nC.out.block b (by have:=HS.out b hb;omega)) eO.out.2.2.2) (fun b hb=>by have:=HS.out b hb;omega)
      obtain⟨RS,hRS⟩:∃ r,bZ f M d.inner wh=r:=⟨_,rfl⟩
      rw[hRS]at fO Gb
      clear hM hRS
      go_wp2_with fail
      refine fO.mono ?_
      rintro e W3 ⟨dW,hb3⟩
      have HB3:=aB hb3
      have HW3:Hid (Below w.heap.size w W3):=Ki.out.trans (hb3.mono Ki.out.size)
      have hs3:=hb3.size
      have vJ:Hid (W3.heap[w.heap.size]? = some (.cells #[.string (aC a),.slice (some ⟨g,o,none⟩) n c] 173 (0,0))):=(hb3.block _ (aN zO.out)).trans zO.out
      have H31:Hid (W3.heap[w.heap.size+1]? = some (.cells #[.int .i64 0,.string ⟨#[]⟩,.int .i64 0,.int .i64 0,.slice none 0 0,.slice none 0 0,.slice none 0 0,.slice none 0 0] 69 (0,0))):=(hb3.block _ (aN uM.out)).trans uM.out
      clear fO hb3 hsl2 aUd htn hw1 hw2 hK0 hK1 yb0 y7
      rcases dW with ⟨d2,uP,hfa,hfc,hva,sD,hma,hmc,hia,hic,rv,R,hres,rfl,hk2,hown2,hmap,oJ,hRl⟩ | ⟨hres,rfl⟩
      ·have oI:Hid (RES=some (d2,uP++[(a,ds)])):=by have:=Gb.out;rw[hres]at this;exact this.symm
       have Ie:=aB hk2
       have HO2:=aB hown2
       have Yl:=aB hmap
       have Ww:=aB oJ
       obtain⟨ra,rc,By⟩:=aO hown2
       subst By
       clear hres hk2 hown2 hmap oJ
       have hC:(W3.alloc (.cells #[.int .i64 d2.kind,.string (aC d2.name),.int .i64 d2.line,.int .i64 d2.col,.slice hfa d2.fields.length hfc,.slice hva d2.values.length sD,.slice hma d2.methods.length hmc,.slice hia d2.inner.length hic] 69)).heap[W3.heap.size]? = some (.cells #[.int .i64 d2.kind,.string (aC d2.name),.int .i64 d2.line,.int .i64 d2.col,.slice hfa d2.fields.length hfc,.slice hva d2.values.length sD,.slice hma d2.methods.length hmc,.slice hia d2.inner.length hic] 69 (0,0)):=alloc_heap_new _ _
       have bG:Below W3.heap.size W3 (W3.alloc (.cells #[.int .i64 d2.kind,.string (aC d2.name),.int .i64 d2.line,.int .i64 d2.col,.slice hfa d2.fields.length hfc,.slice hva d2.values.length sD,.slice hma d2.methods.length hmc,.slice hia d2.inner.length hic] 69)):=(Below.refl _ W3).alloc (Nat.le_refl _) _
       have Js:=aB (HO2.out.alloc (.cells #[.int .i64 d2.kind,.string (aC d2.name),.int .i64 d2.line,.int .i64 d2.col,.slice hfa d2.fields.length hfc,.slice hva d2.values.length sD,.slice hma d2.methods.length hmc,.slice hia d2.inner.length hic] 69))
       go_upto_region 11 with fail
       generalize (W3.alloc (.cells #[.int .i64 d2.kind,.string (aC d2.name),.int .i64 d2.line,.int .i64 d2.col,.slice hfa d2.fields.length hfc,.slice hva d2.values.length sD,.slice hma d2.methods.length hmc,.slice hia d2.inner.length hic] 69))=Y3 at *
       have H40:Hid (Y3.heap[w.heap.size]? = some (.cells #[.string (aC a),.slice (some ⟨g,o,none⟩) n c] 173 (0,0))):=(bG.block _ (aN vJ.out)).trans vJ.out
       have Sa:Hid (Y3.heap[w.heap.size+1]? = some (.cells #[.int .i64 0,.string ⟨#[]⟩,.int .i64 0,.int .i64 0,.slice none 0 0,.slice none 0 0,.slice none 0 0,.slice none 0 0] 69 (0,0))):=(bG.block _ (aN H31.out)).trans H31.out
       have Wa:Hid (Below w.heap.size w Y3):=HW3.out.trans (bG.mono HW3.out.size)
       have hs4:=bG.size
       have vC:=aN hC
       have HC:=aB hC
       have l0:=aA hC 0 rfl
       have l1:=aA hC 1 rfl
       have l2:=aA hC 2 rfl
       have l3:=aA hC 3 rfl
       have l4:=aA hC 4 rfl
       have l5:=aA hC 5 rfl
       have l6:=aA hC 6 rfl
       have l7:=aA hC 7 rfl
       have m0:=aA H40.out 0 rfl
       have m1:=aA H40.out 1 rfl
       have HA1:Hid (∀ o,(Y3.alloc o).heap[w.heap.size+1]? = some (.cells #[.int .i64 0,.string ⟨#[]⟩,.int .i64 0,.int .i64 0,.slice none 0 0,.slice none 0 0,.slice none 0 0,.slice none 0 0] 69 (0,0))):=fun o=>by rw[aD _ _ _ (aN Sa.out)];exact Sa.out
       have HA2:Hid (∀ o,(Y3.alloc o).heap[W3.heap.size]? = some (.cells #[.int .i64 d2.kind,.string (aC d2.name),.int .i64 d2.line,.int .i64 d2.col,.slice hfa d2.fields.length hfc,.slice hva d2.values.length sD,.slice hma d2.methods.length hmc,.slice hia d2.inner.length hic] 69 (0,0))):=fun o=>by rw[aD _ _ _ (aN HC.out)];exact HC.out
       have k0:=aA Sa.out 0 rfl
       have q0:∀ o,(Y3.alloc o).cell? ⟨w.heap.size+1,0,none⟩=some (.int .i64 0):=fun o=>by have:=HA1.out o;simp[World.cell?,this]
       have k1:=aA Sa.out 1 rfl
       have q1:∀ o,(Y3.alloc o).cell? ⟨w.heap.size+1,1,none⟩=some (.string ⟨#[]⟩):=fun o=>by have:=HA1.out o;simp[World.cell?,this]
       have k2:=aA Sa.out 2 rfl
       have q2:∀ o,(Y3.alloc o).cell? ⟨w.heap.size+1,2,none⟩=some (.int .i64 0):=fun o=>by have:=HA1.out o;simp[World.cell?,this]
       have k3:=aA Sa.out 3 rfl
       have q3:∀ o,(Y3.alloc o).cell? ⟨w.heap.size+1,3,none⟩=some (.int .i64 0):=fun o=>by have:=HA1.out o;simp[World.cell?,this]
       have k4:=aA Sa.out 4 rfl
       have q4:∀ o,(Y3.alloc o).cell? ⟨w.heap.size+1,4,none⟩=some (.slice none 0 0):=fun o=>by have:=HA1.out o;simp[World.cell?,this]
       have k5:=aA Sa.out 5 rfl
       have q5:∀ o,(Y3.alloc o).cell? ⟨w.heap.size+1,5,none⟩=some (.slice none 0 0):=fun o=>by have:=HA1.out o;simp[World.cell?,this]
       have k6:=aA Sa.out 6 rfl
       have q6:∀ o,(Y3.alloc o).cell? ⟨w.heap.size+1,6,none⟩=some (.slice none 0 0):=fun o=>by have:=HA1.out o;simp[World.cell?,this]
       have k7:=aA Sa.out 7 rfl
       have q7:∀ o,(Y3.alloc o).cell? ⟨w.heap.size+1,7,none⟩=some (.slice none 0 0):=fun o=>by have:=HA1.out o;simp[World.cell?,this]
       have x0:∀ o,(Y3.alloc o).cell? ⟨W3.heap.size,0,none⟩=some (.int .i64 d2.kind):=fun o=>by have:=HA2.out o;simp[World.cell?,this]
       have x1:∀ o,(Y3.alloc o).cell? ⟨W3.heap.size,1,none⟩=some (.string (aC d2.name)):=fun o=>by have:=HA2.out o;simp[World.cell?,this]
       have x2:∀ o,(Y3.alloc o).cell? ⟨W3.heap.size,2,none⟩=some (.int .i64 d2.line):=fun o=>by have:=HA2.out o;simp[World.cell?,this]
       have x3:∀ o,(Y3.alloc o).cell? ⟨W3.heap.size,3,none⟩=some (.int .i64 d2.col):=fun o=>by have:=HA2.out o;simp[World.cell?,this]
       have x4:∀ o,(Y3.alloc o).cell? ⟨W3.heap.size,4,none⟩=some (.slice hfa d2.fields.length hfc):=fun o=>by have:=HA2.out o;simp[World.cell?,this]
       have x5:∀ o,(Y3.alloc o).cell? ⟨W3.heap.size,5,none⟩=some (.slice hva d2.values.length sD):=fun o=>by have:=HA2.out o;simp[World.cell?,this]
       have x6:∀ o,(Y3.alloc o).cell? ⟨W3.heap.size,6,none⟩=some (.slice hma d2.methods.length hmc):=fun o=>by have:=HA2.out o;simp[World.cell?,this]
       have x7:∀ o,(Y3.alloc o).cell? ⟨W3.heap.size,7,none⟩=some (.slice hia d2.inner.length hic):=fun o=>by have:=HA2.out o;simp[World.cell?,this]
       have kf:∀ j,Y3.frozen? ⟨w.heap.size+1,j,none⟩=false:=fun j=>by simp[World.frozen?,Sa.out]
       have qf:∀ o j,(Y3.alloc o).frozen? ⟨w.heap.size+1,j,none⟩=false:=fun o j=>by have:=HA1.out o;simp[World.frozen?,this]
       have f0:=kf 0
       have p0:=fun o=>qf o 0
       have f1:=kf 1
       have p1:=fun o=>qf o 1
       have f2:=kf 2
       have p2:=fun o=>qf o 2
       have f3:=kf 3
       have p3:=fun o=>qf o 3
       have f4:=kf 4
       have p4:=fun o=>qf o 4
       have f5:=kf 5
       have p5:=fun o=>qf o 5
       have f6:=kf 6
       have p6:=fun o=>qf o 6
       have f7:=kf 7
       have p7:=fun o=>qf o 7
       have HPA:Hid ((∀ wy:World,wy=(Y3.alloc (.cells #[.string (aC a),.slice (some ⟨g,o,none⟩) n c] 173)).drew→wy.ownsRow Y.heap.size 173 2 (.slice ra R.length rc) R.length (R.flatMap dJ)∧wy.heap[Y3.heap.size]? = some (.cells (dJ ((a,.slice (some ⟨g,o,none⟩) n c,ds):jG)).toArray 173 (0,0))∧Y.heap.size≤wy.heap.size)∧(∀ wy:World,wy=(Y3.alloc (.cells #[.string (aC a),.slice (some ⟨g,o,none⟩) n c] 173)).drew→∀ g2 cap2 W,W.ownsRow Y.heap.size 173 2 (.slice (some ⟨g2,0,none⟩) (R.length+1) cap2) (R++[((a,.slice (some ⟨g,o,none⟩) n c,ds):jG)]).length ((R++[((a,.slice (some ⟨g,o,none⟩) n c,ds):jG)]).flatMap dJ)→wy.grownBy W (Value.slice ra R.length rc).ownBlock→(fun (g2 cap2:Nat) (W:World)=>W.ownsRow Y.heap.size 173 2 (.slice (some ⟨g2,0,none⟩) (R.length+1) cap2) (R++[((a,.slice (some ⟨g,o,none⟩) n c,ds):jG)]).length ((R++[((a,.slice (some ⟨g,o,none⟩) n c,ds):jG)]).flatMap dJ)∧Below w.heap.size w W∧W.heap[w.heap.size+1]? = some (.cells #[.int .i64 0,.string ⟨#[]⟩,.int .i64 0,.int .i64 0,.slice none 0 0,.slice none 0 0,.slice none 0 0,.slice none 0 0] 69 (0,0))∧W.heap[W3.heap.size]? = some (.cells #[.int .i64 d2.kind,.string (aC d2.name),.int .i64 d2.line,.int .i64 d2.col,.slice hfa d2.fields.length hfc,.slice hva d2.values.length sD,.slice hma d2.methods.length hmc,.slice hia d2.inner.length hic] 69 (0,0))) g2 cap2 W)):=by
        refine(?_:_∧_)
        obtain⟨Z,hZ⟩:∃ Z,(Y3.alloc (.cells #[.string (aC a),.slice (some ⟨g,o,none⟩) n c] 173)).drew=Z:=⟨_,rfl⟩
        have zo:Z.ownsRow Y.heap.size 173 2 (.slice ra R.length rc) R.length (R.flatMap dJ):=by rw[←hZ];exact(Js.out.alloc _).drew
        have zr:Z.heap[Y3.heap.size]? = some (.cells #[.string (aC a),.slice (some ⟨g,o,none⟩) n c] 173 (0,0)):=by rw[←hZ];exact alloc_heap_new Y3 _
        have zs:Y.heap.size≤Z.heap.size:=by rw[←hZ];show Y.heap.size≤(Y3.heap.push _).size;simp;omega
        have zb:Below w.heap.size w Z:=by rw[←hZ];exact(Wa.out.alloc Wa.out.size _).drew
        have z8:Z.heap[w.heap.size+1]? = some (.cells #[.int .i64 0,.string ⟨#[]⟩,.int .i64 0,.int .i64 0,.slice none 0 0,.slice none 0 0,.slice none 0 0,.slice none 0 0] 69 (0,0)):=by rw[←hZ];exact HA1.out _
        have zc:Z.heap[W3.heap.size]? = some (.cells #[.int .i64 d2.kind,.string (aC d2.name),.int .i64 d2.line,.int .i64 d2.col,.slice hfa d2.fields.length hfc,.slice hva d2.values.length sD,.slice hma d2.methods.length hmc,.slice hia d2.inner.length hic] 69 (0,0)):=by rw[←hZ];exact HA2.out _
        have key:(Z.ownsRow Y.heap.size 173 2 (.slice ra R.length rc) R.length (R.flatMap dJ)∧Z.heap[Y3.heap.size]? = some (.cells (dJ ((a,.slice (some ⟨g,o,none⟩) n c,ds):jG)).toArray 173 (0,0))∧Y.heap.size≤Z.heap.size)∧Below w.heap.size w Z∧Z.heap[w.heap.size+1]? = some (.cells #[.int .i64 0,.string ⟨#[]⟩,.int .i64 0,.int .i64 0,.slice none 0 0,.slice none 0 0,.slice none 0 0,.slice none 0 0] 69 (0,0)):=⟨⟨zo,zr,zs⟩,zb,z8⟩
        refine⟨fun wy e=>by rw[e,hZ];exact key.1,fun wy e g2 cap2 W h1 h2=>⟨h1,?_,?_,?_⟩⟩
        ·rw[e,hZ]at h2
         exact key.2.1.grown h2 (by have:=Ki.out.size;have:=key.1.2.2;omega) (fun b hb=>by have:=(aE Js.out b hb).1;have:=Ki.out.size;omega)
        ·rw[e,hZ]at h2
         rw[h2.block _ (aN key.2.2) (fun e2=>by have:=(aE Js.out _ e2.symm).1;omega)];exact key.2.2
        ·rw[e,hZ]at h2
         rw[h2.block _ (aN zc) (fun e2=>by have:=(aE HO2.out _ e2.symm).2;omega)];exact zc
       have HPB:Hid ((∀ wy:World,wy=(((((((((Y3.setCell ⟨w.heap.size+1,0,none⟩ (.int .i64 d2.kind)).setCell ⟨w.heap.size+1,1,none⟩ (.string (aC d2.name))).setCell ⟨w.heap.size+1,2,none⟩ (.int .i64 d2.line)).setCell ⟨w.heap.size+1,3,none⟩ (.int .i64 d2.col)).setCell ⟨w.heap.size+1,4,none⟩ (.slice hfa d2.fields.length hfc)).setCell ⟨w.heap.size+1,5,none⟩ (.slice hva d2.values.length sD)).setCell ⟨w.heap.size+1,6,none⟩ (.slice hma d2.methods.length hmc)).setCell ⟨w.heap.size+1,7,none⟩ (.slice hia d2.inner.length hic)).alloc (.cells #[.string (aC a),.slice (some ⟨g,o,none⟩) n c] 173)).drew→wy.ownsRow Y.heap.size 173 2 (.slice ra R.length rc) R.length (R.flatMap dJ)∧wy.heap[Y3.heap.size]? = some (.cells (dJ ((a,.slice (some ⟨g,o,none⟩) n c,ds):jG)).toArray 173 (0,0))∧Y.heap.size≤wy.heap.size)∧(∀ wy:World,wy=(((((((((Y3.setCell ⟨w.heap.size+1,0,none⟩ (.int .i64 d2.kind)).setCell ⟨w.heap.size+1,1,none⟩ (.string (aC d2.name))).setCell ⟨w.heap.size+1,2,none⟩ (.int .i64 d2.line)).setCell ⟨w.heap.size+1,3,none⟩ (.int .i64 d2.col)).setCell ⟨w.heap.size+1,4,none⟩ (.slice hfa d2.fields.length hfc)).setCell ⟨w.heap.size+1,5,none⟩ (.slice hva d2.values.length sD)).setCell ⟨w.heap.size+1,6,none⟩ (.slice hma d2.methods.length hmc)).setCell ⟨w.heap.size+1,7,none⟩ (.slice hia d2.inner.length hic)).alloc (.cells #[.string (aC a),.slice (some ⟨g,o,none⟩) n c] 173)).drew→∀ g2 cap2 W,W.ownsRow Y.heap.size 173 2 (.slice (some ⟨g2,0,none⟩) (R.length+1) cap2) (R++[((a,.slice (some ⟨g,o,none⟩) n c,ds):jG)]).length ((R++[((a,.slice (some ⟨g,o,none⟩) n c,ds):jG)]).flatMap dJ)→wy.grownBy W (Value.slice ra R.length rc).ownBlock→(fun (g2 cap2:Nat) (W:World)=>W.ownsRow Y.heap.size 173 2 (.slice (some ⟨g2,0,none⟩) (R.length+1) cap2) (R++[((a,.slice (some ⟨g,o,none⟩) n c,ds):jG)]).length ((R++[((a,.slice (some ⟨g,o,none⟩) n c,ds):jG)]).flatMap dJ)∧Below w.heap.size w W∧W.heap[w.heap.size+1]? = some (.cells #[.int .i64 d2.kind,.string (aC d2.name),.int .i64 d2.line,.int .i64 d2.col,.slice hfa d2.fields.length hfc,.slice hva d2.values.length sD,.slice hma d2.methods.length hmc,.slice hia d2.inner.length hic] 69 (0,0))) g2 cap2 W)):=by
        refine(?_:_∧_)
        obtain⟨Z0,hZ0,z80,yo,yz,yb⟩:=dC (w:=Y3) Sa.out (.int .i64 d2.kind) (.string (aC d2.name)) (.int .i64 d2.line) (.int .i64 d2.col) (.slice hfa d2.fields.length hfc) (.slice hva d2.values.length sD) (.slice hma d2.methods.length hmc) (.slice hia d2.inner.length hic)
        have yz:Z0.heap.size=Y3.heap.size:=yz
        obtain⟨Z,hZ⟩:∃ Z,(((((((((Y3.setCell ⟨w.heap.size+1,0,none⟩ (.int .i64 d2.kind)).setCell ⟨w.heap.size+1,1,none⟩ (.string (aC d2.name))).setCell ⟨w.heap.size+1,2,none⟩ (.int .i64 d2.line)).setCell ⟨w.heap.size+1,3,none⟩ (.int .i64 d2.col)).setCell ⟨w.heap.size+1,4,none⟩ (.slice hfa d2.fields.length hfc)).setCell ⟨w.heap.size+1,5,none⟩ (.slice hva d2.values.length sD)).setCell ⟨w.heap.size+1,6,none⟩ (.slice hma d2.methods.length hmc)).setCell ⟨w.heap.size+1,7,none⟩ (.slice hia d2.inner.length hic)).alloc (.cells #[.string (aC a),.slice (some ⟨g,o,none⟩) n c] 173)).drew=Z:=⟨_,rfl⟩
        have Wx:(Z0.alloc (.cells #[.string (aC a),.slice (some ⟨g,o,none⟩) n c] 173)).drew=Z:=by rw[←hZ0];exact hZ
        have zo:Z.ownsRow Y.heap.size 173 2 (.slice ra R.length rc) R.length (R.flatMap dJ):=by rw[←Wx];exact(World.ownsRow.alloc (aR Js.out fun b hb=>yo b (by have:=(aE Js.out b hb).1;omega)) _).drew
        have zr:Z.heap[Y3.heap.size]? = some (.cells #[.string (aC a),.slice (some ⟨g,o,none⟩) n c] 173 (0,0)):=by rw[←Wx,←yz];exact alloc_heap_new Z0 _
        have zs:Y.heap.size≤Z.heap.size:=by rw[←Wx];show Y.heap.size≤(Z0.heap.push _).size;simp;omega
        have zb:Below w.heap.size w Z:=by rw[←Wx];exact((Wa.out.trans (yb.mono (by omega))).alloc (by rw[yz];exact Wa.out.size) _).drew
        have z8:Z.heap[w.heap.size+1]? = some (.cells #[.int .i64 d2.kind,.string (aC d2.name),.int .i64 d2.line,.int .i64 d2.col,.slice hfa d2.fields.length hfc,.slice hva d2.values.length sD,.slice hma d2.methods.length hmc,.slice hia d2.inner.length hic] 69 (0,0)):=by rw[←Wx];show (Z0.alloc (.cells #[.string (aC a),.slice (some ⟨g,o,none⟩) n c] 173)).heap[_]? = _;rw[aD _ _ _ (aN z80)];exact z80
        have key:(Z.ownsRow Y.heap.size 173 2 (.slice ra R.length rc) R.length (R.flatMap dJ)∧Z.heap[Y3.heap.size]? = some (.cells (dJ ((a,.slice (some ⟨g,o,none⟩) n c,ds):jG)).toArray 173 (0,0))∧Y.heap.size≤Z.heap.size)∧Below w.heap.size w Z∧Z.heap[w.heap.size+1]? = some (.cells #[.int .i64 d2.kind,.string (aC d2.name),.int .i64 d2.line,.int .i64 d2.col,.slice hfa d2.fields.length hfc,.slice hva d2.values.length sD,.slice hma d2.methods.length hmc,.slice hia d2.inner.length hic] 69 (0,0)):=⟨⟨zo,zr,zs⟩,zb,z8⟩
        refine⟨fun wy e=>by rw[e,hZ];exact key.1,fun wy e g2 cap2 W h1 h2=>⟨h1,?_,?_⟩⟩
        ·rw[e,hZ]at h2
         exact key.2.1.grown h2 (by have:=Ki.out.size;have:=key.1.2.2;omega) (fun b hb=>by have:=(aE Js.out b hb).1;have:=Ki.out.size;omega)
        ·rw[e,hZ]at h2
         rw[h2.block _ (aN key.2.2) (fun e2=>by have:=(aE Js.out _ e2.symm).1;omega)];exact key.2.2
       have HPC:Hid ((∀ wy:World,wy=(((((((((Y3.alloc (.cells #[.string (aC a),.slice (some ⟨g,o,none⟩) n c] 173)).setCell ⟨w.heap.size+1,0,none⟩ (.int .i64 d2.kind)).setCell ⟨w.heap.size+1,1,none⟩ (.string (aC d2.name))).setCell ⟨w.heap.size+1,2,none⟩ (.int .i64 d2.line)).setCell ⟨w.heap.size+1,3,none⟩ (.int .i64 d2.col)).setCell ⟨w.heap.size+1,4,none⟩ (.slice hfa d2.fields.length hfc)).setCell ⟨w.heap.size+1,5,none⟩ (.slice hva d2.values.length sD)).setCell ⟨w.heap.size+1,6,none⟩ (.slice hma d2.methods.length hmc)).setCell ⟨w.heap.size+1,7,none⟩ (.slice hia d2.inner.length hic)).drew→wy.ownsRow Y.heap.size 173 2 (.slice ra R.length rc) R.length (R.flatMap dJ)∧wy.heap[Y3.heap.size]? = some (.cells (dJ ((a,.slice (some ⟨g,o,none⟩) n c,ds):jG)).toArray 173 (0,0))∧Y.heap.size≤wy.heap.size)∧(∀ wy:World,wy=(((((((((Y3.alloc (.cells #[.string (aC a),.slice (some ⟨g,o,none⟩) n c] 173)).setCell ⟨w.heap.size+1,0,none⟩ (.int .i64 d2.kind)).setCell ⟨w.heap.size+1,1,none⟩ (.string (aC d2.name))).setCell ⟨w.heap.size+1,2,none⟩ (.int .i64 d2.line)).setCell ⟨w.heap.size+1,3,none⟩ (.int .i64 d2.col)).setCell ⟨w.heap.size+1,4,none⟩ (.slice hfa d2.fields.length hfc)).setCell ⟨w.heap.size+1,5,none⟩ (.slice hva d2.values.length sD)).setCell ⟨w.heap.size+1,6,none⟩ (.slice hma d2.methods.length hmc)).setCell ⟨w.heap.size+1,7,none⟩ (.slice hia d2.inner.length hic)).drew→∀ g2 cap2 W,W.ownsRow Y.heap.size 173 2 (.slice (some ⟨g2,0,none⟩) (R.length+1) cap2) (R++[((a,.slice (some ⟨g,o,none⟩) n c,ds):jG)]).length ((R++[((a,.slice (some ⟨g,o,none⟩) n c,ds):jG)]).flatMap dJ)→wy.grownBy W (Value.slice ra R.length rc).ownBlock→(fun (g2 cap2:Nat) (W:World)=>W.ownsRow Y.heap.size 173 2 (.slice (some ⟨g2,0,none⟩) (R.length+1) cap2) (R++[((a,.slice (some ⟨g,o,none⟩) n c,ds):jG)]).length ((R++[((a,.slice (some ⟨g,o,none⟩) n c,ds):jG)]).flatMap dJ)∧Below w.heap.size w W∧W.heap[w.heap.size+1]? = some (.cells #[.int .i64 d2.kind,.string (aC d2.name),.int .i64 d2.line,.int .i64 d2.col,.slice hfa d2.fields.length hfc,.slice hva d2.values.length sD,.slice hma d2.methods.length hmc,.slice hia d2.inner.length hic] 69 (0,0))) g2 cap2 W)):=by
        refine(?_:_∧_)
        obtain⟨Z0,hZ0,z80,yo,yz,yb⟩:=dC (w:=Y3.alloc (.cells #[.string (aC a),.slice (some ⟨g,o,none⟩) n c] 173)) (HA1.out _) (.int .i64 d2.kind) (.string (aC d2.name)) (.int .i64 d2.line) (.int .i64 d2.col) (.slice hfa d2.fields.length hfc) (.slice hva d2.values.length sD) (.slice hma d2.methods.length hmc) (.slice hia d2.inner.length hic)
        have yz:Z0.heap.size=Y3.heap.size+1:=by rw[yz];simp
        obtain⟨Z,hZ⟩:∃ Z,(((((((((Y3.alloc (.cells #[.string (aC a),.slice (some ⟨g,o,none⟩) n c] 173)).setCell ⟨w.heap.size+1,0,none⟩ (.int .i64 d2.kind)).setCell ⟨w.heap.size+1,1,none⟩ (.string (aC d2.name))).setCell ⟨w.heap.size+1,2,none⟩ (.int .i64 d2.line)).setCell ⟨w.heap.size+1,3,none⟩ (.int .i64 d2.col)).setCell ⟨w.heap.size+1,4,none⟩ (.slice hfa d2.fields.length hfc)).setCell ⟨w.heap.size+1,5,none⟩ (.slice hva d2.values.length sD)).setCell ⟨w.heap.size+1,6,none⟩ (.slice hma d2.methods.length hmc)).setCell ⟨w.heap.size+1,7,none⟩ (.slice hia d2.inner.length hic)).drew=Z:=⟨_,rfl⟩
        have Wx:Z0.drew=Z:=by rw[←hZ0];exact hZ
        have zo:Z.ownsRow Y.heap.size 173 2 (.slice ra R.length rc) R.length (R.flatMap dJ):=by rw[←Wx];exact World.ownsRow.drew (aR (Js.out.alloc _) fun b hb=>yo b (by have:=(aE Js.out b hb).1;omega))
        have zr:Z.heap[Y3.heap.size]? = some (.cells #[.string (aC a),.slice (some ⟨g,o,none⟩) n c] 173 (0,0)):=by rw[←Wx];exact(yo _ (by omega)).trans (alloc_heap_new _ _)
        have zs:Y.heap.size≤Z.heap.size:=by rw[←Wx];show _≤Z0.heap.size;omega
        have zb:Below w.heap.size w Z:=by rw[←Wx];exact((Wa.out.alloc Wa.out.size _).trans (yb.mono (by omega))).drew
        have z8:Z.heap[w.heap.size+1]? = some (.cells #[.int .i64 d2.kind,.string (aC d2.name),.int .i64 d2.line,.int .i64 d2.col,.slice hfa d2.fields.length hfc,.slice hva d2.values.length sD,.slice hma d2.methods.length hmc,.slice hia d2.inner.length hic] 69 (0,0)):=by rw[←Wx];exact z80
        have key:(Z.ownsRow Y.heap.size 173 2 (.slice ra R.length rc) R.length (R.flatMap dJ)∧Z.heap[Y3.heap.size]? = some (.cells (dJ ((a,.slice (some ⟨g,o,none⟩) n c,ds):jG)).toArray 173 (0,0))∧Y.heap.size≤Z.heap.size)∧Below w.heap.size w Z∧Z.heap[w.heap.size+1]? = some (.cells #[.int .i64 d2.kind,.string (aC d2.name),.int .i64 d2.line,.int .i64 d2.col,.slice hfa d2.fields.length hfc,.slice hva d2.values.length sD,.slice hma d2.methods.length hmc,.slice hia d2.inner.length hic] 69 (0,0)):=⟨⟨zo,zr,zs⟩,zb,z8⟩
        refine⟨fun wy e=>by rw[e,hZ];exact key.1,fun wy e g2 cap2 W h1 h2=>⟨h1,?_,?_⟩⟩
        ·rw[e,hZ]at h2
         exact key.2.1.grown h2 (by have:=Ki.out.size;have:=key.1.2.2;omega) (fun b hb=>by have:=(aE Js.out b hb).1;have:=Ki.out.size;omega)
        ·rw[e,hZ]at h2
         rw[h2.block _ (aN key.2.2) (fun e2=>by have:=(aE Js.out _ e2.symm).1;omega)];exact key.2.2
       clear hC bG
       go_region_law (first
        | (refine xD _ ((a,.slice (some ⟨g,o,none⟩) n c,ds):jG) Y3.heap.size (HPA.out.1 _ (by with_reducible rfl)) rfl (HPA.out.2 _ (by with_reducible rfl)) rfl _ _ rfl rfl rfl (by omega) ?_;rintro g2 cap2 W4 ⟨ho4,hb4,h84,hu4⟩;obtain⟨z0c,z1c,z2c,z3c,z4c,z5c,z6c,z7c,z0f,z1f,z2f,z3f,z4f,z5f,z6f,z7f⟩:=rW h84;have u0:W4.cell? ⟨W3.heap.size,0,none⟩=some (.int .i64 d2.kind):=(by simp[World.cell?,hu4]);have u1:W4.cell? ⟨W3.heap.size,1,none⟩=some (.string (aC d2.name)):=(by simp[World.cell?,hu4]);have u2:W4.cell? ⟨W3.heap.size,2,none⟩=some (.int .i64 d2.line):=(by simp[World.cell?,hu4]);have u3:W4.cell? ⟨W3.heap.size,3,none⟩=some (.int .i64 d2.col):=(by simp[World.cell?,hu4]);have u4:W4.cell? ⟨W3.heap.size,4,none⟩=some (.slice hfa d2.fields.length hfc):=(by simp[World.cell?,hu4]);have u5:W4.cell? ⟨W3.heap.size,5,none⟩=some (.slice hva d2.values.length sD):=(by simp[World.cell?,hu4]);have u6:W4.cell? ⟨W3.heap.size,6,none⟩=some (.slice hma d2.methods.length hmc):=(by simp[World.cell?,hu4]);have u7:W4.cell? ⟨W3.heap.size,7,none⟩=some (.slice hia d2.inner.length hic):=(by simp[World.cell?,hu4]))
        | (refine xD _ ((a,.slice (some ⟨g,o,none⟩) n c,ds):jG) Y3.heap.size (HPB.out.1 _ (by with_reducible rfl)) rfl (HPB.out.2 _ (by with_reducible rfl)) rfl _ _ rfl rfl rfl (by omega) ?_;rintro g2 cap2 W4 ⟨ho4,hb4,h84⟩)
        | (refine xD _ ((a,.slice (some ⟨g,o,none⟩) n c,ds):jG) Y3.heap.size (HPC.out.1 _ (by with_reducible rfl)) rfl (HPC.out.2 _ (by with_reducible rfl)) rfl _ _ rfl rfl rfl (by omega) ?_;rintro g2 cap2 W4 ⟨ho4,hb4,h84⟩))
       all_goals go_wp2_with fail
       all_goals
        obtain⟨Z,hZ,z8,yo,yz,yb⟩:=dC h84 (.int .i64 d2.kind) (.string (aC d2.name)) (.int .i64 d2.line) (.int .i64 d2.col) (.slice hfa d2.fields.length hfc) (.slice hva d2.values.length sD) (.slice hma d2.methods.length hmc) (.slice hia d2.inner.length hic)
        rw[hZ]
        have hwY:=Ki.out.size
        have zb:Below w.heap.size w Z:=hb4.trans (yb.mono (by omega))
        have r0:=aA z8 0 rfl
        have r1:=aA z8 1 rfl
        have r2:=aA z8 2 rfl
        have r3:=aA z8 3 rfl
        have r4:=aA z8 4 rfl
        have r5:=aA z8 5 rfl
        have r6:=aA z8 6 rfl
        have r7:=aA z8 7 rfl
        have hold:∀ b,S b→Z.heap[b]? = W3.heap[b]?:=fun b hb=>(zb.block b (HS.out b hb)).trans (HW3.out.block b (HS.out b hb)).symm
        have Rw:Hid (Kids (f+1) Z S (.slice hfa d2.fields.length hfc) (.slice hva d2.values.length sD) (.slice hma d2.methods.length hmc) (.slice hia d2.inner.length hic) d2):=(Ie.out.old hold).up
        have HHZ:Hid (aM (f+1) Z S (.slice (some ⟨g,o,none⟩) n c) ds):=by
         refine(?_:aM _ _ _ _ _)
         have:=aM.old (w':=Z) (fun b hb=>zb.block b (HS.out b hb)) HH.out
         rw[HN.out]at this
         exact this
        have HOZ:Hid (Z.ownsRow w.heap.size 173 2 (.slice (some ⟨g2,0,none⟩) (R.length+1) cap2) (R++[((a,.slice (some ⟨g,o,none⟩) n c,ds):jG)]).length ((R++[((a,.slice (some ⟨g,o,none⟩) n c,ds):jG)]).flatMap dJ)):=Gc (aR ho4 fun b hb=>yo b (by have:=(aE ho4 b hb).1;omega)) hwY
        have HMZ:Hid ((R++[((a,.slice (some ⟨g,o,none⟩) n c,ds):jG)]).map (fun p:jG=>((p.1,p.2.2):Rm))=uP++[(a,ds)]):=by
         refine(?_:_=_)
         rw[List.map_append,Yl.out];rfl
        have aUw:Hid (∀ p∈R++[((a,.slice (some ⟨g,o,none⟩) n c,ds):jG)],aM (f+1) Z S p.2.1 p.2.2):=fun p hp=>by
         rcases List.mem_append.1 hp with hp | hp
         ·exact(aM.old hold (Ww.out p hp)).up
         ·rw[List.mem_singleton.1 hp];exact HHZ.out
        exact bodyPost_ret (v:=.tuple #[.agg #[.int .i64 d2.kind,.string (aC d2.name),.int .i64 d2.line,.int .i64 d2.col,.slice hfa d2.fields.length hfc,.slice hva d2.values.length sD,.slice hma d2.methods.length hmc,.slice hia d2.inner.length hic],.slice (some ⟨g2,0,none⟩) (R.length+1) cap2,.bool true]) (by simp[results,Tryz.results199,go_sem,r0,r1,r2,r3,r4,r5,r6,r7]) rfl ⟨.inl ⟨d2,_,hfa,hfc,hva,sD,hma,hmc,hia,hic,_,R++[((a,.slice (some ⟨g,o,none⟩) n c,ds):jG)],oI.out,rfl,Rw.out,HOZ.out,HMZ.out,aUw.out,by rw[List.length_append];show R.length+1≤_;omega⟩,zb⟩
      ·have HG4:Hid (Jb (fun a' ds'=>bZ f a' ds' wh) a ds wh (ds.drop (j+1))=RES):=by have:=Gb.out;rw[hres]at this;exact this
       have aUx:Hid (Below V.heap.size V (W3.alloc (.cells #[.int .i64 0,.string ⟨#[]⟩,.int .i64 0,.int .i64 0,.slice none 0 0,.slice none 0 0,.slice none 0 0,.slice none 0 0] 69))):=((dN.out.trans (nC.out.mono dN.out.size)).trans (HB3.out.mono (by have h1:=dN.out.size;omega))).alloc (by have h1:=dN.out.size;omega) _
       go_wp2_with fail
       go_roundw
       case rel=>exact⟨j+1,by go_num,by omega,aUx.out,HG4.out⟩
       case measure=>simp[intOf];omega
   ·have sZ:¬(j:Int)<(n:Int):=by omega
    have oI:Hid (RES=none):=by have:=HGO.out;rw[List.drop_eq_nil_of_le (by have:=HN.out;omega),aAv]at this;exact this.symm
    have k0:=aA Hs.out 0 rfl
    have k1:=aA Hs.out 1 rfl
    have k2:=aA Hs.out 2 rfl
    have k3:=aA Hs.out 3 rfl
    have k4:=aA Hs.out 4 rfl
    have k5:=aA Hs.out 5 rfl
    have k6:=aA Hs.out 6 rfl
    have k7:=aA Hs.out 7 rfl
    have kf:∀ j,w1.frozen? ⟨w.heap.size+1,j,none⟩=false:=fun j=>by simp[World.frozen?,Hs.out]
    have f0:=kf 0
    have f1:=kf 1
    have f2:=kf 2
    have f3:=kf 3
    have f4:=kf 4
    have f5:=kf 5
    have f6:=kf 6
    have f7:=kf 7
    obtain⟨Y,hY,y8,yo,yz,yb⟩:=dC Hs.out (.int .i64 0) (.string ⟨#[]⟩) (.int .i64 0) (.int .i64 0) (.slice none 0 0) (.slice none 0 0) (.slice none 0 0) (.slice none 0 0)
    have HY:Hid (Below w.heap.size w Y):=HBw.out.trans (yb.mono (by omega))
    have Wv:=aB hY
    have r0:=aA y8 0 rfl
    have r1:=aA y8 1 rfl
    have r2:=aA y8 2 rfl
    have r3:=aA y8 3 rfl
    have r4:=aA y8 4 rfl
    have r5:=aA y8 5 rfl
    have r6:=aA y8 6 rfl
    have r7:=aA y8 7 rfl
    clear hY y8 yo yz yb
    go_wp2_with fail
    rw[Wv.out]
    refine bodyPost_ret (v:=.tuple #[.agg #[.int .i64 0,.string ⟨#[]⟩,.int .i64 0,.int .i64 0,.slice none 0 0,.slice none 0 0,.slice none 0 0,.slice none 0 0],.slice none 0 0,.bool false]) (by simp[results,Tryz.results199,go_sem,r0,r1,r2,r3,r4,r5,r6,r7]) rfl ?_
    exact⟨.inr ⟨oI.out,rfl⟩,HY.out⟩
end Go.Proofs.YtpojeinddnjpfaaGreatDoor
namespace Go.Proofs.YtpojeinddnjpfaaGreatDoor
set_option linter.unusedVariables false
open Go.ChangeShapes Go.WideShapes Go.ChangeAt Go.RowKit

theorem vK:aC []=⟨#[]⟩:=rfl
set_option maxHeartbeats 4000000 in
theorem Ql (d:Dc) (fa:Option Addr) (fc:Nat) (va:Option Addr) (vc:Nat) (ma:Option Addr) (mc:Nat) (ia:Option Addr) (ic:Nat) (nm:List UInt8) (cp:Nat) (w:World) (hc:w.cell? ⟨cp,0,none⟩=some (.string (aC nm))) :
  Calls Tryz.prog 201 #[.agg #[.int .i64 d.kind,.string (aC d.name),.int .i64 d.line,.int .i64 d.col,.slice fa d.fields.length fc,.slice va d.values.length vc,.slice ma d.methods.length mc,.slice ia d.inner.length ic],.pointer (some ⟨cp,0,none⟩)] w fun e w'=>e=.returned (.bool (decide (d.name=nm)))∧Below w.heap.size w w':=by
 have hlc:=jD hc
 obtain⟨RB,hRB⟩:∃ b,decide (d.name=nm)=b:=⟨_,rfl⟩
 rw[hRB]
 have HRB:=aB hRB
 clear hRB
 have hV:(w.alloc (.cells #[.int .i64 d.kind,.string (aC d.name),.int .i64 d.line,.int .i64 d.col,.slice fa d.fields.length fc,.slice va d.values.length vc,.slice ma d.methods.length mc,.slice ia d.inner.length ic] 69)).heap[w.heap.size]? = some (.cells #[.int .i64 d.kind,.string (aC d.name),.int .i64 d.line,.int .i64 d.col,.slice fa d.fields.length fc,.slice va d.values.length vc,.slice ma d.methods.length mc,.slice ia d.inner.length ic] 69 (0,0)):=alloc_heap_new _ _
 have hb:Below w.heap.size w (w.alloc (.cells #[.int .i64 d.kind,.string (aC d.name),.int .i64 d.line,.int .i64 d.col,.slice fa d.fields.length fc,.slice va d.values.length vc,.slice ma d.methods.length mc,.slice ia d.inner.length ic] 69)):=(Below.refl _ w).alloc (Nat.le_refl _) _
 go_enter Tryz.func201,Tryz.ntmps201
 go_upto_region 1 with fail
 generalize (w.alloc (.cells #[.int .i64 d.kind,.string (aC d.name),.int .i64 d.line,.int .i64 d.col,.slice fa d.fields.length fc,.slice va d.values.length vc,.slice ma d.methods.length mc,.slice ia d.inner.length ic] 69))=V at *
 have c0:V.cell? ⟨cp,0,none⟩=some (.string (aC nm)):=by rw[hb.cell hlc];exact hc
 have c1:=aA hV 1 rfl
 have HB:=aB hb
 clear hV hb hc
 by_cases h1:d.name=nm
 ·obtain rfl:RB=true:=by rw[←HRB.out];exact decide_eq_true h1
  rw[h1]at c1
  clear h1
  go_wp2_with fail
  go_ret
  exact⟨rfl,HB.out⟩
 ·obtain rfl:RB=false:=by rw[←HRB.out];exact decide_eq_false h1
  have t':=xC h1
  have t'':=beq_eq_false_iff_ne.2 h1
  go_wp2_with fail
  go_ret
  exact⟨rfl,HB.out⟩
set_option maxHeartbeats 8000000 in
set_option maxRecDepth 20000 in
theorem Kj (f:Nat) (ds:List Dc) (v:Value) (nm:List UInt8) (cp:Nat) (S:Nat→Prop) (w:World) (hc:w.cell? ⟨cp,0,none⟩=some (.string (aC nm))) (hl:ds.length≤100000) (hH:aM (f+1) w S v ds) (hS:∀ b,S b→b<w.heap.size) :
  Calls Tryz.prog 218 #[v,.func (.func 201) #[] #[.pointer (some ⟨cp,0,none⟩)]] w fun e w'=>(∃ r:Int,e=.returned (.int .i64 r)∧decide (0≤r)=ds.any (fun d=>decide (d.name=nm)))∧Below w.heap.size w w':=by
 obtain⟨ad,c,rfl⟩:=hH.eI
 have HH:=aB hH
 have HS:=aB hS
 have hlc:=jD hc
 have HC:=aB hc
 obtain⟨n,hn⟩:∃ n,ds.length=n:=⟨_,rfl⟩
 have HN:=aB hn
 obtain⟨RES,hR⟩:∃ r,ds.any (fun d=>decide (d.name=nm))=r:=⟨_,rfl⟩
 have HR:=aB hR
 rw[hn]at hl ⊢
 rw[hR]
 clear hH hS hc hn hR
 go_enter Tryz.func218,Tryz.ntmps218
 go_wp2_with fail
 go_loopw [8] (fun i wr=>∃ j:Nat,i=.int .i64 (j:Int)∧j≤n∧Below w.heap.size w wr∧(ds.drop j).any (fun d=>decide (d.name=nm))=RES) (fun i _=>n - (intOf i).toNat)
 case atStart=>exact⟨0,rfl,by omega,Below.refl _ _,HR.out⟩
 case round=>
  obtain⟨j,rfl,hj,hbq,hany⟩:=hrel
  have dN:=aB hbq
  have Wy:=aB hany
  have hsw:=hbq.size
  clear hbq hany
  by_cases hjn:j<n
  ·obtain⟨d,hd⟩:∃ d,ds[j]? = some d:=⟨_,List.getElem?_eq_getElem (by have:=HN.out;omega)⟩
   have hdr:ds.drop j=d :: ds.drop (j+1):=by
    rw[List.drop_eq_getElem_cons (by have:=HN.out;omega),(List.getElem?_eq_some_iff.1 hd).2]
   have hA:=Wy.out
   rw[hdr,List.any_cons]at hA
   obtain⟨g,o,c0,fa,fc,va,vc,ma,mc,ia,ic,hsl,hg,e0,e1,e2,e3,e4,e5,e6,e7,kd⟩:=jF HH.out (W:=wr) (fun b hb=>dN.out.block b (HS.out b hb)) hd
   rw[HN.out]at hsl
   obtain⟨rfl,rfl⟩:ad=some ⟨g,o,none⟩∧c=c0:=by
    injection hsl with h1 _ h3
    exact⟨h1,h3⟩
   have hj0:(0:Int)≤(j:Int):=by omega
   have hj1:(j:Int)<(n:Int):=by omega
   have hwq:=eE j (by omega)
   have fP:=Ql d fa fc va vc ma mc ia ic nm cp wr (by rw[dN.out.cell hlc];exact HC.out)
   obtain⟨b,hb⟩:∃ b,decide (d.name=nm)=b:=⟨_,rfl⟩
   rw[hb]at fP hA
   have HA:=aB hA
   clear hd hdr hsl kd hA hb
   go_wp2_with fail
   refine fP.mono ?_
   rintro e Y ⟨rfl,gE⟩
   have cE:=aB (dN.out.trans (gE.mono hsw))
   clear fP gE e0 e1 e2 e3 e4 e5 e6 e7
   cases b with
   | true=>
    have qS:Hid (RES=true):=by have:=HA.out;rw[Bool.true_or]at this;exact this.symm
    go_wp2_with fail
    go_ret
    exact⟨⟨_,rfl,by rw[qS.out];exact decide_eq_true hj0⟩,cE.out⟩
   | false=>
    go_wp2_with fail
    go_roundw
    case rel=>exact⟨j+1,by go_num,by omega,cE.out,by have:=HA.out;rw[Bool.false_or]at this;exact this⟩
    case measure=>simp[intOf];omega
  ·have sZ:¬(j:Int)<(n:Int):=by omega
   have HRF:Hid (RES=false):=by have:=Wy.out;rw[List.drop_eq_nil_of_le (by have:=HN.out;omega)]at this;exact this.symm
   go_wp2_with fail
   go_ret
   exact⟨⟨_,rfl,by rw[HRF.out];decide⟩,dN.out⟩
set_option maxHeartbeats 4000000 in
theorem Ca (f:Nat) (ds:List Dc) (v:Value) (nm:List UInt8) (cp:Nat) (S:Nat→Prop) (w:World) (hc:w.cell? ⟨cp,0,none⟩=some (.string (aC nm))) (hl:ds.length≤100000) (hH:aM (f+1) w S v ds) (hS:∀ b,S b→b<w.heap.size) :
  Calls Tryz.prog 202 #[v,.func (.func 201) #[] #[.pointer (some ⟨cp,0,none⟩)]] w fun e w'=>e=.returned (.bool (ds.any (fun d=>decide (d.name=nm))))∧Below w.heap.size w w':=by
 have h:=Kj f ds v nm cp S w hc hl hH hS
 obtain⟨ad,c,rfl⟩:=hH.eI
 have H:=aB h
 generalize ds.any (fun d=>decide (d.name=nm))=RES at *
 clear hc hl hH hS h
 go_enter Tryz.func202,Tryz.ntmps202
 go_wp2_with fail
 refine H.out.mono ?_
 rintro e w1 ⟨⟨r,rfl,hr⟩,hb⟩
 have HR:=aB hr
 clear hr
 go_wp2_with fail
 go_ret
 exact⟨by rw[←HR.out];rfl,hb⟩
end Go.Proofs.YtpojeinddnjpfaaGreatDoor
namespace Go.Proofs.YtpojeinddnjpfaaGreatDoor
set_option linter.unusedVariables false
open Go.ChangeShapes Go.WideShapes Go.ChangeAt Go.RowKit

set_option maxHeartbeats 4000000 in
theorem xE (d:Dc) (fa:Option Addr) (fc:Nat) (va:Option Addr) (vc:Nat) (ma:Option Addr) (mc:Nat) (ia:Option Addr) (ic:Nat) (wh:List UInt8) (w:World) (hw:wh.length≤4000000000000) :
  Calls Tryz.prog 200 #[.agg #[.int .i64 d.kind,.string (aC d.name),.int .i64 d.line,.int .i64 d.col,.slice fa d.fields.length fc,.slice va d.values.length vc,.slice ma d.methods.length mc,.slice ia d.inner.length ic],.string (aC wh)] w fun e w'=>e=.returned (.agg #[.string (aC (wh++[46])),.slice ia d.inner.length ic])∧Below w.heap.size w w':=by
 have s1:=Ga (aC wh) ⟨#[46]⟩ 4000000000000 (by rw[aV];exact hw) (by show _+1≤_;omega)
 have e1:aC wh++⟨#[46]⟩=aC (wh++[46]):=(kU wh [46]).symm
 rw[e1]at s1
 generalize wh++[46]=M at *
 clear e1
 have jS:((w.alloc (.cells #[.int .i64 d.kind,.string (aC d.name),.int .i64 d.line,.int .i64 d.col,.slice fa d.fields.length fc,.slice va d.values.length vc,.slice ma d.methods.length mc,.slice ia d.inner.length ic] 69)).alloc (.cells #[.string ⟨#[]⟩,.slice none 0 0] 173)).heap[w.heap.size]? = some (.cells #[.int .i64 d.kind,.string (aC d.name),.int .i64 d.line,.int .i64 d.col,.slice fa d.fields.length fc,.slice va d.values.length vc,.slice ma d.methods.length mc,.slice ia d.inner.length ic] 69 (0,0)):=by
  rw[aD _ _ _ (by simp)];exact alloc_heap_new _ _
 have hV1:((w.alloc (.cells #[.int .i64 d.kind,.string (aC d.name),.int .i64 d.line,.int .i64 d.col,.slice fa d.fields.length fc,.slice va d.values.length vc,.slice ma d.methods.length mc,.slice ia d.inner.length ic] 69)).alloc (.cells #[.string ⟨#[]⟩,.slice none 0 0] 173)).heap[w.heap.size+1]? = some (.cells #[.string ⟨#[]⟩,.slice none 0 0] 173 (0,0)):=by
  have:=alloc_heap_new (w.alloc (.cells #[.int .i64 d.kind,.string (aC d.name),.int .i64 d.line,.int .i64 d.col,.slice fa d.fields.length fc,.slice va d.values.length vc,.slice ma d.methods.length mc,.slice ia d.inner.length ic] 69)) (.cells #[.string ⟨#[]⟩,.slice none 0 0] 173)
  simpa using this
 have dO:Below w.heap.size w ((w.alloc (.cells #[.int .i64 d.kind,.string (aC d.name),.int .i64 d.line,.int .i64 d.col,.slice fa d.fields.length fc,.slice va d.values.length vc,.slice ma d.methods.length mc,.slice ia d.inner.length ic] 69)).alloc (.cells #[.string ⟨#[]⟩,.slice none 0 0] 173)):=((Below.refl _ w).alloc (Nat.le_refl _) _).alloc (by simp) _
 go_enter Tryz.func200,Tryz.ntmps200
 go_upto_region 1 with fail
 generalize ((w.alloc (.cells #[.int .i64 d.kind,.string (aC d.name),.int .i64 d.line,.int .i64 d.col,.slice fa d.fields.length fc,.slice va d.values.length vc,.slice ma d.methods.length mc,.slice ia d.inner.length ic] 69)).alloc (.cells #[.string ⟨#[]⟩,.slice none 0 0] 173))=V at *
 have c7:=aA jS 7 rfl
 have k0:=aA hV1 0 rfl
 have k1:=aA hV1 1 rfl
 have f0:=aF hV1 0
 have f1:=aF hV1 1
 have g2:=aG (aG (j:=0) hV1 (.string (aC M))) (j:=1) (.slice ia d.inner.length ic)
 have hb2:Below w.heap.size w ((V.setCell ⟨w.heap.size+1,0,none⟩ (.string (aC M))).setCell ⟨w.heap.size+1,1,none⟩ (.slice ia d.inner.length ic)):=(dO.setCell (p:=⟨w.heap.size+1,0,none⟩) (by show w.heap.size≤w.heap.size+1;omega) _).setCell (p:=⟨w.heap.size+1,1,none⟩) (by show w.heap.size≤w.heap.size+1;omega) _
 have HB2:=aB hb2
 have HG2:=aB g2
 clear jS hV1 dO hb2 g2
 go_wp2_with fail
 have g2:=HG2.out
 have hb2:=HB2.out
 clear HG2 HB2
 generalize ((V.setCell ⟨w.heap.size+1,0,none⟩ (.string (aC M))).setCell ⟨w.heap.size+1,1,none⟩ (.slice ia d.inner.length ic))=Z at *
 have r0:=aA g2 0 rfl
 have r1:=aA g2 1 rfl
 exact bodyPost_ret (v:=.agg #[.string (aC M),.slice ia d.inner.length ic]) (by simp[results,Tryz.results200,go_sem,r0,r1]) rfl ⟨rfl,hb2⟩
def xF (f:Nat) (S:Nat→Prop) (res:Option Dc) (e:Ending) (w':World):Prop:=
 (∃ (d:Dc) (fa:Option Addr) (fc:Nat) (va:Option Addr) (vc:Nat) (ma:Option Addr) (mc:Nat) (ia:Option Addr) (ic:Nat),res=some d∧e=.returned (.tuple #[.agg #[.int .i64 d.kind,.string (aC d.name),.int .i64 d.line,.int .i64 d.col,.slice fa d.fields.length fc,.slice va d.values.length vc,.slice ma d.methods.length mc,.slice ia d.inner.length ic],.bool true])∧Kids f w' S (.slice fa d.fields.length fc) (.slice va d.values.length vc) (.slice ma d.methods.length mc) (.slice ia d.inner.length ic) d)∨
 (res=none∧e=.returned (.tuple #[.agg #[.int .i64 0,.string ⟨#[]⟩,.int .i64 0,.int .i64 0,.slice none 0 0,.slice none 0 0,.slice none 0 0,.slice none 0 0],.bool false]))
set_option maxHeartbeats 16000000 in
set_option maxRecDepth 20000 in
theorem zY (f:Nat) (top:List Dc) (tv:Value) (a:List UInt8) (ds:List Dc) (v:Value) (nm:List UInt8) (S:Nat→Prop) (w:World) (hct:mO (f+1) top≤100000) (hfit:iV (f+1) top) (mP:lL (f+1) top) (hdl:ds.length≤100000) (hal:a.length≤2000000000000) (hnl:nm.length≤200000000)
  (hT:aM (f+1) w S tv top) (hH:aM (f+1) w S v ds) (hS:∀ b,S b→b<w.heap.size) :
  Calls Tryz.prog 174 #[.agg #[.string ⟨#[]⟩,tv],.agg #[.string (aC a),v],.string (aC nm)] w fun e w'=>xF (f+1) S (dH (f+1) top a ds nm) e w'∧Below w.heap.size w w':=by
 obtain⟨ta,tc,rfl⟩:=hT.eI
 obtain⟨ad,c,rfl⟩:=hH.eI
 have jS:((((w.alloc (.cells #[.string ⟨#[]⟩,.slice ta top.length tc] 173)).alloc (.cells #[.string (aC a),.slice ad ds.length c] 173)).alloc (.cells #[.string (aC nm)] 9)).alloc (.cells #[.int .i64 0,.string ⟨#[]⟩,.int .i64 0,.int .i64 0,.slice none 0 0,.slice none 0 0,.slice none 0 0,.slice none 0 0] 69)).heap[w.heap.size]? = some (.cells #[.string ⟨#[]⟩,.slice ta top.length tc] 173 (0,0)):=by
  rw[aD _ _ _ (by simp <;> omega),aD _ _ _ (by simp <;> omega),aD _ _ _ (by simp)];exact alloc_heap_new _ _
 have hV1:((((w.alloc (.cells #[.string ⟨#[]⟩,.slice ta top.length tc] 173)).alloc (.cells #[.string (aC a),.slice ad ds.length c] 173)).alloc (.cells #[.string (aC nm)] 9)).alloc (.cells #[.int .i64 0,.string ⟨#[]⟩,.int .i64 0,.int .i64 0,.slice none 0 0,.slice none 0 0,.slice none 0 0,.slice none 0 0] 69)).heap[w.heap.size+1]? = some (.cells #[.string (aC a),.slice ad ds.length c] 173 (0,0)):=by
  rw[aD _ _ _ (by simp <;> omega),aD _ _ _ (by simp)]
  have:=alloc_heap_new (w.alloc (.cells #[.string ⟨#[]⟩,.slice ta top.length tc] 173)) (.cells #[.string (aC a),.slice ad ds.length c] 173)
  simpa using this
 have hV2:((((w.alloc (.cells #[.string ⟨#[]⟩,.slice ta top.length tc] 173)).alloc (.cells #[.string (aC a),.slice ad ds.length c] 173)).alloc (.cells #[.string (aC nm)] 9)).alloc (.cells #[.int .i64 0,.string ⟨#[]⟩,.int .i64 0,.int .i64 0,.slice none 0 0,.slice none 0 0,.slice none 0 0,.slice none 0 0] 69)).heap[w.heap.size+2]? = some (.cells #[.string (aC nm)] 9 (0,0)):=by
  rw[aD _ _ _ (by simp)]
  have:=alloc_heap_new ((w.alloc (.cells #[.string ⟨#[]⟩,.slice ta top.length tc] 173)).alloc (.cells #[.string (aC a),.slice ad ds.length c] 173)) (.cells #[.string (aC nm)] 9)
  simpa using this
 have hV3:((((w.alloc (.cells #[.string ⟨#[]⟩,.slice ta top.length tc] 173)).alloc (.cells #[.string (aC a),.slice ad ds.length c] 173)).alloc (.cells #[.string (aC nm)] 9)).alloc (.cells #[.int .i64 0,.string ⟨#[]⟩,.int .i64 0,.int .i64 0,.slice none 0 0,.slice none 0 0,.slice none 0 0,.slice none 0 0] 69)).heap[w.heap.size+3]? = some (.cells #[.int .i64 0,.string ⟨#[]⟩,.int .i64 0,.int .i64 0,.slice none 0 0,.slice none 0 0,.slice none 0 0,.slice none 0 0] 69 (0,0)):=by
  have:=alloc_heap_new (((w.alloc (.cells #[.string ⟨#[]⟩,.slice ta top.length tc] 173)).alloc (.cells #[.string (aC a),.slice ad ds.length c] 173)).alloc (.cells #[.string (aC nm)] 9)) (.cells #[.int .i64 0,.string ⟨#[]⟩,.int .i64 0,.int .i64 0,.slice none 0 0,.slice none 0 0,.slice none 0 0,.slice none 0 0] 69)
  simpa using this
 have dO:Below w.heap.size w ((((w.alloc (.cells #[.string ⟨#[]⟩,.slice ta top.length tc] 173)).alloc (.cells #[.string (aC a),.slice ad ds.length c] 173)).alloc (.cells #[.string (aC nm)] 9)).alloc (.cells #[.int .i64 0,.string ⟨#[]⟩,.int .i64 0,.int .i64 0,.slice none 0 0,.slice none 0 0,.slice none 0 0,.slice none 0 0] 69)):=((((Below.refl _ w).alloc (Nat.le_refl _) _).alloc (by simp) _).alloc (by simp <;> omega) _).alloc (by simp <;> omega) _
 have iH:((((w.alloc (.cells #[.string ⟨#[]⟩,.slice ta top.length tc] 173)).alloc (.cells #[.string (aC a),.slice ad ds.length c] 173)).alloc (.cells #[.string (aC nm)] 9)).alloc (.cells #[.int .i64 0,.string ⟨#[]⟩,.int .i64 0,.int .i64 0,.slice none 0 0,.slice none 0 0,.slice none 0 0,.slice none 0 0] 69)).heap.size=w.heap.size+4:=by simp
 have hmf:∀ (fn:Fn) (first cap:Array Value) (W:World),(Instr.makeFunc fn first cap).run Tryz.prog W=.ok (.func fn first cap) W:=fun _ _ _ _=>rfl
 obtain⟨RES,hR⟩:∃ r,dH (f+1) top a ds nm=r:=⟨_,rfl⟩
 have HR:=aB hR
 rw[hR]
 have HT:=aB hT
 have HH:=aB hH
 have HS:=aB hS
 clear hR hT hH hS
 go_enter Tryz.func174,Tryz.ntmps174
 go_upto_region 1 with fail
 generalize ((((w.alloc (.cells #[.string ⟨#[]⟩,.slice ta top.length tc] 173)).alloc (.cells #[.string (aC a),.slice ad ds.length c] 173)).alloc (.cells #[.string (aC nm)] 9)).alloc (.cells #[.int .i64 0,.string ⟨#[]⟩,.int .i64 0,.int .i64 0,.slice none 0 0,.slice none 0 0,.slice none 0 0,.slice none 0 0] 69))=V at *
 have mV:=aB jS
 have kI:=aB hV1
 have Mw:=aB hV2
 have HV3:=aB hV3
 have Bz:=aB dO
 have Yk:=aB iH
 have c1:=aA hV1 1 rfl
 have hC:=Ca f ds (.slice ad ds.length c) nm (w.heap.size+2) S V (by simp[World.cell?,hV2]) hdl (aM.old (fun b hb=>dO.block b (HS.out b hb)) HH.out) (fun b hb=>by have:=HS.out b hb;omega)
 obtain⟨b,hb⟩:∃ b,ds.any (fun d=>decide (d.name=nm))=b:=⟨_,rfl⟩
 rw[hb]at hC
 have Wy:=aB hb
 clear jS hV1 hV2 hV3 dO iH hb
 go_wp2_with fail
 refine hC.mono ?_
 rintro e W1 ⟨rfl,hb1⟩
 have hs1:w.heap.size+4≤W1.heap.size:=by have:=hb1.size;rw[Yk.out]at this;exact this
 have HX0:Hid (W1.heap[w.heap.size]? = some (.cells #[.string ⟨#[]⟩,.slice ta top.length tc] 173 (0,0))):=(hb1.block _ (by rw[Yk.out];omega)).trans mV.out
 have Hs:Hid (W1.heap[w.heap.size+1]? = some (.cells #[.string (aC a),.slice ad ds.length c] 173 (0,0))):=(hb1.block _ (by rw[Yk.out];omega)).trans kI.out
 have Yj:Hid (W1.heap[w.heap.size+2]? = some (.cells #[.string (aC nm)] 9 (0,0))):=(hb1.block _ (by rw[Yk.out];omega)).trans Mw.out
 have Wz:Hid (W1.heap[w.heap.size+3]? = some (.cells #[.int .i64 0,.string ⟨#[]⟩,.int .i64 0,.int .i64 0,.slice none 0 0,.slice none 0 0,.slice none 0 0,.slice none 0 0] 69 (0,0))):=(hb1.block _ (by rw[Yk.out];omega)).trans HV3.out
 have HW1:Hid (Below w.heap.size w W1):=Bz.out.trans (hb1.mono Bz.out.size)
 clear hC hb1 c1 hmf
 cases b with
 | false=>
  have qR:Hid (RES=none):=by
   refine(?_:_=_)
   rw[←HR.out];unfold dH;rw[Wy.out];rfl
  have k0:=aA Wz.out 0 rfl
  have k1:=aA Wz.out 1 rfl
  have k2:=aA Wz.out 2 rfl
  have k3:=aA Wz.out 3 rfl
  have k4:=aA Wz.out 4 rfl
  have k5:=aA Wz.out 5 rfl
  have k6:=aA Wz.out 6 rfl
  have k7:=aA Wz.out 7 rfl
  have kf:∀ j,W1.frozen? ⟨w.heap.size+3,j,none⟩=false:=fun j=>by simp[World.frozen?,Wz.out]
  have f0:=kf 0
  have f1:=kf 1
  have f2:=kf 2
  have f3:=kf 3
  have f4:=kf 4
  have f5:=kf 5
  have f6:=kf 6
  have f7:=kf 7
  obtain⟨Y,hY,y8,yo,yz,yb⟩:=dC Wz.out (.int .i64 0) (.string ⟨#[]⟩) (.int .i64 0) (.int .i64 0) (.slice none 0 0) (.slice none 0 0) (.slice none 0 0) (.slice none 0 0)
  have HY:Hid (Below w.heap.size w Y):=HW1.out.trans (yb.mono (by omega))
  have Wv:=aB hY
  have r0:=aA y8 0 rfl
  have r1:=aA y8 1 rfl
  have r2:=aA y8 2 rfl
  have r3:=aA y8 3 rfl
  have r4:=aA y8 4 rfl
  have r5:=aA y8 5 rfl
  have r6:=aA y8 6 rfl
  have r7:=aA y8 7 rfl
  clear hY y8 yo yz yb
  go_wp2_with fail
  rw[Wv.out]
  refine bodyPost_ret (v:=.tuple #[.agg #[.int .i64 0,.string ⟨#[]⟩,.int .i64 0,.int .i64 0,.slice none 0 0,.slice none 0 0,.slice none 0 0,.slice none 0 0],.bool false]) (by simp[results,Tryz.results174,go_sem,r0,r1,r2,r3,r4,r5,r6,r7]) rfl ?_
  exact⟨.inr ⟨qR.out,rfl⟩,HY.out⟩
 | true=>
  have m0:=aA HX0.out 0 rfl
  have m1:=aA HX0.out 1 rfl
  have m2:=aA Hs.out 0 rfl
  have m3:=aA Yj.out 0 rfl
  have s1:=Ga (aC a) (aC nm) 2000000000000 (by rw[aV];exact hal) (by rw[aV];omega)
  rw[←kU]at s1
  have hF:=zX (f+1) top (.slice ta top.length tc) [] (a++nm) S W1 hct hfit mP (by simp) (by rw[List.length_append];omega) (aM.old (fun b hb=>HW1.out.block b (HS.out b hb)) HT.out) (fun b hb=>by have:=HS.out b hb;omega)
  rw[vK]at hF
  have hM:(match bZ (f+1) [] top (a++nm)with | some (d,_)=>if d.kind=1∨d.kind=2 then some d else none | none=>none)=RES:=by
   rw[←HR.out];unfold dH;rw[Wy.out];rfl
  obtain⟨P,hP⟩:∃ P,a++nm=P:=⟨_,rfl⟩
  rw[hP]at hF s1 hM
  obtain⟨FR,hFR⟩:∃ r,bZ (f+1) [] top P=r:=⟨_,rfl⟩
  rw[hFR]at hF hM
  have HM:=aB hM
  clear hM hP hFR
  go_wp2_with fail
  refine hF.mono ?_
  rintro e W2 ⟨dW,hb2⟩
  have HB2:=aB hb2
  have HW2:Hid (Below w.heap.size w W2):=HW1.out.trans (hb2.mono HW1.out.size)
  have hs2:w.heap.size+4≤W2.heap.size:=by have:=hb2.size;omega
  have Wa:Hid (W2.heap[w.heap.size+3]? = some (.cells #[.int .i64 0,.string ⟨#[]⟩,.int .i64 0,.int .i64 0,.slice none 0 0,.slice none 0 0,.slice none 0 0,.slice none 0 0] 69 (0,0))):=(hb2.block _ (by omega)).trans Wz.out
  clear hF hb2 m0 m1 m2 m3 s1
  rcases dW with ⟨d,rs,fa,fc,va,vc,ma,mc,ia,ic,rv,R,hres,rfl,hk,hown,-,-,-⟩ | ⟨hres,rfl⟩
  ·have eO:=aB hk
   obtain⟨ra,rc,By⟩:=aO hown
   subst By
   have fE:Hid ((if d.kind=1∨d.kind=2 then some d else none)=RES):=by have:=HM.out;rw[hres]at this;exact this
   have hC:(W2.alloc (.cells #[.int .i64 d.kind,.string (aC d.name),.int .i64 d.line,.int .i64 d.col,.slice fa d.fields.length fc,.slice va d.values.length vc,.slice ma d.methods.length mc,.slice ia d.inner.length ic] 69)).heap[W2.heap.size]? = some (.cells #[.int .i64 d.kind,.string (aC d.name),.int .i64 d.line,.int .i64 d.col,.slice fa d.fields.length fc,.slice va d.values.length vc,.slice ma d.methods.length mc,.slice ia d.inner.length ic] 69 (0,0)):=alloc_heap_new _ _
   have bG:Below W2.heap.size W2 (W2.alloc (.cells #[.int .i64 d.kind,.string (aC d.name),.int .i64 d.line,.int .i64 d.col,.slice fa d.fields.length fc,.slice va d.values.length vc,.slice ma d.methods.length mc,.slice ia d.inner.length ic] 69)):=(Below.refl _ W2).alloc (Nat.le_refl _) _
   clear hres hk hown
   go_upto_region 5 with fail
   generalize (W2.alloc (.cells #[.int .i64 d.kind,.string (aC d.name),.int .i64 d.line,.int .i64 d.col,.slice fa d.fields.length fc,.slice va d.values.length vc,.slice ma d.methods.length mc,.slice ia d.inner.length ic] 69))=Y at *
   have HY:=aB (HW2.out.trans (bG.mono HW2.out.size))
   have HZ3:Hid (Y.heap[w.heap.size+3]? = some (.cells #[.int .i64 0,.string ⟨#[]⟩,.int .i64 0,.int .i64 0,.slice none 0 0,.slice none 0 0,.slice none 0 0,.slice none 0 0] 69 (0,0))):=(bG.block _ (by omega)).trans Wa.out
   have yA:Hid (Kids (f+1) Y S (.slice fa d.fields.length fc) (.slice va d.values.length vc) (.slice ma d.methods.length mc) (.slice ia d.inner.length ic) d):=eO.out.old fun b hb=>bG.block b (by have:=HS.out b hb;omega)
   have l0:=aA hC 0 rfl
   have l1:=aA hC 1 rfl
   have l2:=aA hC 2 rfl
   have l3:=aA hC 3 rfl
   have l4:=aA hC 4 rfl
   have l5:=aA hC 5 rfl
   have l6:=aA hC 6 rfl
   have l7:=aA hC 7 rfl
   clear hC bG
   by_cases Xa:d.kind=1∨d.kind=2
   ·have oI:Hid (RES=some d):=by have:=fE.out;rw[if_pos Xa]at this;exact this.symm
    have k0:=aA HZ3.out 0 rfl
    have k1:=aA HZ3.out 1 rfl
    have k2:=aA HZ3.out 2 rfl
    have k3:=aA HZ3.out 3 rfl
    have k4:=aA HZ3.out 4 rfl
    have k5:=aA HZ3.out 5 rfl
    have k6:=aA HZ3.out 6 rfl
    have k7:=aA HZ3.out 7 rfl
    have kf:∀ j,Y.frozen? ⟨w.heap.size+3,j,none⟩=false:=fun j=>by simp[World.frozen?,HZ3.out]
    have f0:=kf 0
    have f1:=kf 1
    have f2:=kf 2
    have f3:=kf 3
    have f4:=kf 4
    have f5:=kf 5
    have f6:=kf 6
    have f7:=kf 7
    obtain⟨Z,hZ,z8,yo,yz,yb⟩:=dC HZ3.out (.int .i64 d.kind) (.string (aC d.name)) (.int .i64 d.line) (.int .i64 d.col) (.slice fa d.fields.length fc) (.slice va d.values.length vc) (.slice ma d.methods.length mc) (.slice ia d.inner.length ic)
    have HB:Hid (Below w.heap.size w Z):=HY.out.trans (yb.mono (by omega))
    have Rw:Hid (Kids (f+1) Z S (.slice fa d.fields.length fc) (.slice va d.values.length vc) (.slice ma d.methods.length mc) (.slice ia d.inner.length ic) d):=yA.out.old fun b hb=>yo b (by have:=HS.out b hb;omega)
    have HZE:=aB hZ
    have r0:=aA z8 0 rfl
    have r1:=aA z8 1 rfl
    have r2:=aA z8 2 rfl
    have r3:=aA z8 3 rfl
    have r4:=aA z8 4 rfl
    have r5:=aA z8 5 rfl
    have r6:=aA z8 6 rfl
    have r7:=aA z8 7 rfl
    clear hZ z8 yo yz yb
    rcases Xa with h1 | h2
    ·rw[h1]at l0
     go_wp2_with fail
     rw[←h1,HZE.out]
     refine bodyPost_ret (v:=.tuple #[.agg #[.int .i64 d.kind,.string (aC d.name),.int .i64 d.line,.int .i64 d.col,.slice fa d.fields.length fc,.slice va d.values.length vc,.slice ma d.methods.length mc,.slice ia d.inner.length ic],.bool true]) (by simp[results,Tryz.results174,go_sem,r0,r1,r2,r3,r4,r5,r6,r7]) rfl ?_
     exact⟨.inl ⟨d,fa,fc,va,vc,ma,mc,ia,ic,oI.out,rfl,Rw.out⟩,HB.out⟩
    ·rw[h2]at l0
     go_wp2_with fail
     rw[←h2,HZE.out]
     refine bodyPost_ret (v:=.tuple #[.agg #[.int .i64 d.kind,.string (aC d.name),.int .i64 d.line,.int .i64 d.col,.slice fa d.fields.length fc,.slice va d.values.length vc,.slice ma d.methods.length mc,.slice ia d.inner.length ic],.bool true]) (by simp[results,Tryz.results174,go_sem,r0,r1,r2,r3,r4,r5,r6,r7]) rfl ?_
     exact⟨.inl ⟨d,fa,fc,va,vc,ma,mc,ia,ic,oI.out,rfl,Rw.out⟩,HB.out⟩
   ·have qR:Hid (RES=none):=by have:=fE.out;rw[if_neg Xa]at this;exact this.symm
    have h1:¬d.kind=1:=fun e=>Xa (.inl e)
    have h2:¬d.kind=2:=fun e=>Xa (.inr e)
    have h1':(d.kind != 1)=true:=bne_iff_ne.2 h1
    have h2':(d.kind != 2)=true:=bne_iff_ne.2 h2
    have k0:=aA HZ3.out 0 rfl
    have k1:=aA HZ3.out 1 rfl
    have k2:=aA HZ3.out 2 rfl
    have k3:=aA HZ3.out 3 rfl
    have k4:=aA HZ3.out 4 rfl
    have k5:=aA HZ3.out 5 rfl
    have k6:=aA HZ3.out 6 rfl
    have k7:=aA HZ3.out 7 rfl
    have kf:∀ j,Y.frozen? ⟨w.heap.size+3,j,none⟩=false:=fun j=>by simp[World.frozen?,HZ3.out]
    have f0:=kf 0
    have f1:=kf 1
    have f2:=kf 2
    have f3:=kf 3
    have f4:=kf 4
    have f5:=kf 5
    have f6:=kf 6
    have f7:=kf 7
    obtain⟨Y,hY,y8,yo,yz,yb⟩:=dC HZ3.out (.int .i64 0) (.string ⟨#[]⟩) (.int .i64 0) (.int .i64 0) (.slice none 0 0) (.slice none 0 0) (.slice none 0 0) (.slice none 0 0)
    have HY:Hid (Below w.heap.size w Y):=HY.out.trans (yb.mono (by omega))
    have Wv:=aB hY
    have r0:=aA y8 0 rfl
    have r1:=aA y8 1 rfl
    have r2:=aA y8 2 rfl
    have r3:=aA y8 3 rfl
    have r4:=aA y8 4 rfl
    have r5:=aA y8 5 rfl
    have r6:=aA y8 6 rfl
    have r7:=aA y8 7 rfl
    clear hY y8 yo yz yb
    go_wp2_with fail
    rw[Wv.out]
    refine bodyPost_ret (v:=.tuple #[.agg #[.int .i64 0,.string ⟨#[]⟩,.int .i64 0,.int .i64 0,.slice none 0 0,.slice none 0 0,.slice none 0 0,.slice none 0 0],.bool false]) (by simp[results,Tryz.results174,go_sem,r0,r1,r2,r3,r4,r5,r6,r7]) rfl ?_
    exact⟨.inr ⟨qR.out,rfl⟩,HY.out⟩
  ·have qR:Hid (RES=none):=by have:=HM.out;rw[hres]at this;exact this.symm
   have hZ3:(W2.alloc (.cells #[.int .i64 0,.string ⟨#[]⟩,.int .i64 0,.int .i64 0,.slice none 0 0,.slice none 0 0,.slice none 0 0,.slice none 0 0] 69)).heap[w.heap.size+3]? = some (.cells #[.int .i64 0,.string ⟨#[]⟩,.int .i64 0,.int .i64 0,.slice none 0 0,.slice none 0 0,.slice none 0 0,.slice none 0 0] 69 (0,0)):=by rw[aD _ _ _ (by omega)];exact Wa.out
   have hYb:Below w.heap.size w (W2.alloc (.cells #[.int .i64 0,.string ⟨#[]⟩,.int .i64 0,.int .i64 0,.slice none 0 0,.slice none 0 0,.slice none 0 0,.slice none 0 0] 69)):=HW2.out.alloc HW2.out.size _
   clear hres
   go_upto_region 5 with fail
   generalize (W2.alloc (.cells #[.int .i64 0,.string ⟨#[]⟩,.int .i64 0,.int .i64 0,.slice none 0 0,.slice none 0 0,.slice none 0 0,.slice none 0 0] 69))=Y at *
   have HZ3:=aB hZ3
   have HYb:=aB hYb
   clear hZ3 hYb
   have k0:=aA HZ3.out 0 rfl
   have k1:=aA HZ3.out 1 rfl
   have k2:=aA HZ3.out 2 rfl
   have k3:=aA HZ3.out 3 rfl
   have k4:=aA HZ3.out 4 rfl
   have k5:=aA HZ3.out 5 rfl
   have k6:=aA HZ3.out 6 rfl
   have k7:=aA HZ3.out 7 rfl
   have kf:∀ j,Y.frozen? ⟨w.heap.size+3,j,none⟩=false:=fun j=>by simp[World.frozen?,HZ3.out]
   have f0:=kf 0
   have f1:=kf 1
   have f2:=kf 2
   have f3:=kf 3
   have f4:=kf 4
   have f5:=kf 5
   have f6:=kf 6
   have f7:=kf 7
   obtain⟨Y,hY,y8,yo,yz,yb⟩:=dC HZ3.out (.int .i64 0) (.string ⟨#[]⟩) (.int .i64 0) (.int .i64 0) (.slice none 0 0) (.slice none 0 0) (.slice none 0 0) (.slice none 0 0)
   have HY:Hid (Below w.heap.size w Y):=HYb.out.trans (yb.mono (by omega))
   have Wv:=aB hY
   have r0:=aA y8 0 rfl
   have r1:=aA y8 1 rfl
   have r2:=aA y8 2 rfl
   have r3:=aA y8 3 rfl
   have r4:=aA y8 4 rfl
   have r5:=aA y8 5 rfl
   have r6:=aA y8 6 rfl
   have r7:=aA y8 7 rfl
   clear hY y8 yo yz yb
   go_wp2_with fail
   rw[Wv.out]
   refine bodyPost_ret (v:=.tuple #[.agg #[.int .i64 0,.string ⟨#[]⟩,.int .i64 0,.int .i64 0,.slice none 0 0,.slice none 0 0,.slice none 0 0,.slice none 0 0],.bool false]) (by simp[results,Tryz.results174,go_sem,r0,r1,r2,r3,r4,r5,r6,r7]) rfl ?_
   exact⟨.inr ⟨qR.out,rfl⟩,HY.out⟩
end Go.Proofs.YtpojeinddnjpfaaGreatDoor
namespace Go.Proofs.YtpojeinddnjpfaaGreatDoor
set_option linter.unusedVariables false
open Go.ChangeShapes Go.WideShapes Go.ChangeAt Go.RowKit

theorem aAw {base b2:Nat} {wx:World} {v u:Value} {xs ys:List jG} (h:wx.ownsRow base 173 2 v xs.length (xs.flatMap dJ)) (hb0:base≤wx.heap.size) (k:wx.ownsRow b2 173 2 u ys.length (ys.flatMap dJ)) (hone:∀ y∈ys,y.2.1.oneCell'=true)
  {ops:Array Oper} {rest:List Oper} {o:Oper} {a:Act} {Q:Exit→Act→World→Prop} (hgd:o.guard=none) (s' x':Operand)
  (ho:o.op=.call { callee:=.builtin .append,args:=#[s',x'],argTypes:=#[237,237] }) (hs:a.eval s'=v) (hx:a.eval x'=u) (hbd:xs.length+ys.length≤1000000)
  (hk:∀ v' W,W.ownsRow base 173 2 v' (xs++ys).length ((xs++ys).flatMap dJ)→wx.grownBy W v.ownBlock→wpList Tryz.prog ops Q rest (a.put o.dst v') W) :
  wpList Tryz.prog ops Q (o :: rest) a wx:=by
 obtain⟨i0,hi0,hz0,hz1,hz2⟩:=info_parts Wt
 obtain⟨kl,⟨ku,k0⟩ | ⟨g,cap,cur,ku,hg,hh,h3,h4,h5,h6⟩⟩:=k
 ·refine wpList_append_own_none hgd s' x' 237 ho base 173 i0 2 Tryz.underlying237 hi0 v xs.length _ hs h (hx.trans ku) ?_
  have:ys=[]:=List.eq_nil_of_length_eq_zero k0
  subst this
  refine hk v wx (by rw[List.append_nil];exact h) (World.grownBy.refl _ _)
 ·refine wpList_append_own_at _ hgd s' x' 237 ho base 173 i0 _ 2 40 Tryz.underlying237 hi0 hz0 hz1 hz2 rfl (by decide) v xs.length _ hs h ⟨g,0,none⟩ ys.length cap (ys.flatMap dJ) (hx.trans ku) kl ?_ ?_ (by unfold maxLen;omega) (by omega) hb0 ?_
  ·intro j y hy
   rw[←h6]at hy
   have hadd:(⟨g,0,none⟩:Addr).add j=⟨g,j,none⟩:=by unfold Addr.add;split <;> simp_all
   rw[hadd]
   rw[List.getElem?_take]at hy
   split at hy
   ·simp only[World.cell?,hh]
    simpa using hy
   ·cases hy
  ·intro y hy
   obtain⟨p,hp,hy⟩:=List.mem_flatMap.1 hy
   simp only[dJ,List.mem_cons,List.not_mem_nil,or_false]at hy
   rcases hy with rfl | rfl
   ·rfl
   ·exact hone p hp
  ·intro v' W hown hgr _ hat
   refine hk v' W ?_ hgr
   rw[List.length_append,List.flatMap_append]
   exact hown
theorem Qm {f:Nat} {w:World} {S:Nat→Prop} {v:Value} {ds:List Dc} (h:aM (f+1) w S v ds) (hf:iV (f+1) ds) {d:Dc} (hd:d∈ds):d.inner.length≤100000:=by
 obtain⟨j,hj⟩:=List.getElem?_of_mem hd
 obtain⟨_,_,_,_,_,_,_,_,_,_,_,_,_,_,_,_,_,_,_,_,_,kd⟩:=jF h (W:=w) (fun _ _=>rfl) hj
 cases f with
 | zero=>have:=kd.2.2.2.1;rw[this];simp
 | succ f=>exact(hf.2 d hd).2.2.2.1
theorem oK:∀ (f:Nat) (ds:List Dc) (a wh:List UInt8) (w:World) (S:Nat→Prop) (v:Value),aM f w S v ds→iV f ds→a.length≤wh.length→∀ (d:Dc) (rs:List Rm),bZ f a ds wh=some (d,rs)→
  d.inner.length≤100000∧∀ p∈rs,p.1.length≤wh.length∧p.2.length≤100000:=by
 intro f
 induction f with
 | zero=>intro ds a wh w S v _ _ _ d rs h;cases h
 | succ f ih=>
  intro ds a wh w S v hH hF hal d rs h
  rw[nS]at h
  have key:∀ t:List Dc,(∀ x∈t,x∈ds)→∀ (d:Dc) (rs:List Rm),Jb (fun a' ds'=>bZ f a' ds' wh) a ds wh t=some (d,rs)→d.inner.length≤100000∧∀ p∈rs,p.1.length≤wh.length∧p.2.length≤100000:=by
   intro t
   induction t with
   | nil=>intro _ d rs h;cases h
   | cons x t iht=>
    intro ht d rs h
    have hx:=ht x List.mem_cons_self
    have ht':∀ y∈t,y∈ds:=fun y hy=>ht y (List.mem_cons_of_mem _ hy)
    rw[rF]at h
    split at h
    ·cases h
     exact⟨Qm hH hF hx,fun p hp=>by rw[List.mem_singleton.1 hp];exact⟨hal,hF.1⟩⟩
    ·split at h
     ·obtain⟨j,hj⟩:=List.getElem?_of_mem hx
      obtain⟨_,_,_,_,_,_,_,_,_,_,_,_,_,_,_,_,_,_,_,_,_,kd⟩:=jF hH (W:=w) (fun _ _=>rfl) hj
      cases hf:bZ f (wh.take (a.length+x.name.length+1)) x.inner wh with
      | none=>rw[hf]at h;exact iht ht' d rs h
      | some z=>
       obtain⟨z1,z2⟩:=z
       have hlt:(wh.take (a.length+x.name.length+1)).length≤wh.length:=by rw[List.length_take];omega
       obtain⟨q1,q2⟩:=ih x.inner _ wh w S _ kd.2.2.2 (hF.2 x hx).2.2.2 hlt z1 z2 hf
       rw[hf]at h
       cases h
       refine⟨q1,fun p hp=>?_⟩
       rcases List.mem_append.1 hp with hp | hp
       ·exact q2 p hp
       ·rw[List.mem_singleton.1 hp];exact⟨hal,hF.1⟩
     ·exact iht ht' d rs h
  exact key ds (fun _ h=>h) d rs h
def Qn (f:Nat) (w:World) (S:Nat→Prop) (res:Option (List Rm)) (e:Ending) (w':World):Prop:=
 (∃ (rs:List Rm) (rv:Value) (R:List jG),res=some rs∧e=.returned (.tuple #[rv,.bool true])∧w'.ownsRow w.heap.size 173 2 rv R.length (R.flatMap dJ)∧R.map (fun p:jG=>((p.1,p.2.2):Rm))=rs∧(∀ p∈R,aM f w' S p.2.1 p.2.2)∧R.length≤200000)∨
 (res=none∧e=.returned (.tuple #[.slice none 0 0,.bool false]))
set_option maxHeartbeats 16000000 in
set_option maxRecDepth 20000 in
theorem Kk (f:Nat) (top:List Dc) (tv:Value) (sc:List UInt8) (S:Nat→Prop) (w:World) (hct:mO (f+1) top≤100000) (hfit:iV (f+1) top) (mP:lL (f+1) top) (hsl:sc.length≤1000000000000)
  (hT:aM (f+1) w S tv top) (hS:∀ b,S b→b<w.heap.size) :
  Calls Tryz.prog 173 #[.agg #[.string ⟨#[]⟩,tv],.string (aC sc)] w fun e w'=>Qn (f+1) w S (gM (f+1) top sc) e w'∧Below w.heap.size w w':=by
 obtain⟨ta,tc,rfl⟩:=hT.eI
 have jS:(w.alloc (.cells #[.string ⟨#[]⟩,.slice ta top.length tc] 173)).heap[w.heap.size]? = some (.cells #[.string ⟨#[]⟩,.slice ta top.length tc] 173 (0,0)):=alloc_heap_new _ _
 have dO:Below w.heap.size w (w.alloc (.cells #[.string ⟨#[]⟩,.slice ta top.length tc] 173)):=(Below.refl _ w).alloc (Nat.le_refl _) _
 have iH:(w.alloc (.cells #[.string ⟨#[]⟩,.slice ta top.length tc] 173)).heap.size=w.heap.size+1:=by simp
 have Gd:w.heap.size+1≤(w.alloc (.cells #[.string ⟨#[]⟩,.slice ta top.length tc] 173)).heap.size:=by rw[iH];omega
 clear iH
 obtain⟨RES,hR⟩:∃ r,gM (f+1) top sc=r:=⟨_,rfl⟩
 have HR:=aB hR
 rw[hR]
 have HT:=aB hT
 have HS:=aB hS
 clear hR hT hS
 go_enter Tryz.func173,Tryz.ntmps173
 go_upto_region 1 with fail
 generalize (w.alloc (.cells #[.string ⟨#[]⟩,.slice ta top.length tc] 173))=V at *
 have mV:=aB jS
 have Bz:=aB dO
 have m0:=aA jS 0 rfl
 have m1:=aA jS 1 rfl
 clear jS dO
 by_cases h0:sc=[]
 ·subst h0
  have oI:Hid (RES=some [([],top)]):=HR.out.symm
  have HO:Hid ((V.alloc (.cells #[.string ⟨#[]⟩,.slice ta top.length tc] 173)).ownsRow w.heap.size 173 2 (.slice (some ⟨V.heap.size,0,none⟩) 1 1) [(([],.slice ta top.length tc,top):jG)].length ([(([],.slice ta top.length tc,top):jG)].flatMap dJ)):=⟨rfl,.inr ⟨V.heap.size,1,#[.string ⟨#[]⟩,.slice ta top.length tc],rfl,by omega,alloc_heap_new _ _,Nat.le_refl _,by unfold maxLen;omega,rfl,rfl⟩⟩
  have HB:Hid (Below w.heap.size w (V.alloc (.cells #[.string ⟨#[]⟩,.slice ta top.length tc] 173))):=Bz.out.alloc Bz.out.size _
  have Ww:Hid (aM (f+1) (V.alloc (.cells #[.string ⟨#[]⟩,.slice ta top.length tc] 173)) S (.slice ta top.length tc) top):=aM.old (fun b hb=>HB.out.block b (HS.out b hb)) HT.out
  rw[vK]
  go_wp2_with fail
  go_ret2
  exact⟨.inl ⟨_,_,[([],.slice ta top.length tc,top)],oI.out,rfl,HO.out,rfl,fun p hp=>by rw[List.mem_singleton.1 hp];exact Ww.out,by simp⟩,HB.out⟩
 ·have t':((aC sc).toList == (aC []).toList)=false:=xC h0
  rw[vK]at t'
  have t'':=beq_eq_false_iff_ne.2 h0
  have t3:(aC sc).toList.isEmpty=false:=by rw[aH];simpa [List.isEmpty_iff]using h0
  have hF:=zX (f+1) top (.slice ta top.length tc) [] sc S V hct hfit mP (by simp) (by omega) (aM.old (fun b hb=>Bz.out.block b (HS.out b hb)) HT.out) (fun b hb=>by have:=HS.out b hb;omega)
  rw[vK]at hF
  have hsm:=oK (f+1) top [] sc w S _ HT.out hfit (by simp)
  have hM:(match bZ (f+1) [] top sc with | some (d,o)=>if d.kind=1 then some ((sc++[46],d.inner) :: o) else none | none=>none)=RES:=by
   rw[←HR.out];unfold gM;rw[if_neg h0];rfl
  obtain⟨FR,hFR⟩:∃ r,bZ (f+1) [] top sc=r:=⟨_,rfl⟩
  rw[hFR]at hF hM hsm
  have HM:=aB hM
  have Vk:=aB hsm
  clear hM hFR hsm h0
  go_wp2_with fail
  refine hF.mono ?_
  rintro e W2 ⟨dW,hb2⟩
  have HW2:Hid (Below w.heap.size w W2):=Bz.out.trans (hb2.mono Bz.out.size)
  have hs2:w.heap.size+1≤W2.heap.size:=by have:=hb2.size;omega
  clear hF hb2 m0 m1 t' t'' t3
  rcases dW with ⟨d,rs,fa,fc,va,vc,ma,mc,ia,ic,rv,R,hres,rfl,hk,hown,hmap,oJ,hRl⟩ | ⟨hres,rfl⟩
  ·have eO:=aB hk
   obtain⟨ra,rc,By⟩:=aO hown
   subst By
   have fE:Hid ((if d.kind=1 then some ((sc++[46],d.inner) :: rs) else none)=RES):=by have:=HM.out;rw[hres]at this;exact this
   have HOW:=aB hown
   have Yl:=aB hmap
   have Ww:=aB oJ
   have hC:(W2.alloc (.cells #[.int .i64 d.kind,.string (aC d.name),.int .i64 d.line,.int .i64 d.col,.slice fa d.fields.length fc,.slice va d.values.length vc,.slice ma d.methods.length mc,.slice ia d.inner.length ic] 69)).heap[W2.heap.size]? = some (.cells #[.int .i64 d.kind,.string (aC d.name),.int .i64 d.line,.int .i64 d.col,.slice fa d.fields.length fc,.slice va d.values.length vc,.slice ma d.methods.length mc,.slice ia d.inner.length ic] 69 (0,0)):=alloc_heap_new _ _
   have bG:Below W2.heap.size W2 (W2.alloc (.cells #[.int .i64 d.kind,.string (aC d.name),.int .i64 d.line,.int .i64 d.col,.slice fa d.fields.length fc,.slice va d.values.length vc,.slice ma d.methods.length mc,.slice ia d.inner.length ic] 69)):=(Below.refl _ W2).alloc (Nat.le_refl _) _
   have uI:=aB (HOW.out.alloc (.cells #[.int .i64 d.kind,.string (aC d.name),.int .i64 d.line,.int .i64 d.col,.slice fa d.fields.length fc,.slice va d.values.length vc,.slice ma d.methods.length mc,.slice ia d.inner.length ic] 69))
   clear hres hk hown hmap oJ
   go_upto_region 4 with fail
   generalize (W2.alloc (.cells #[.int .i64 d.kind,.string (aC d.name),.int .i64 d.line,.int .i64 d.col,.slice fa d.fields.length fc,.slice va d.values.length vc,.slice ma d.methods.length mc,.slice ia d.inner.length ic] 69))=Y at *
   have HY:=aB (HW2.out.trans (bG.mono HW2.out.size))
   have HCB:=aB bG
   have hsY:=bG.size
   have l0:=aA hC 0 rfl
   have l1:=aA hC 1 rfl
   have l2:=aA hC 2 rfl
   have l3:=aA hC 3 rfl
   have l4:=aA hC 4 rfl
   have l5:=aA hC 5 rfl
   have l6:=aA hC 6 rfl
   have l7:=aA hC 7 rfl
   clear hC bG
   by_cases h1:d.kind=1
   ·have oI:Hid (RES=some ((sc++[46],d.inner) :: rs)):=by have:=fE.out;rw[if_pos h1]at this;exact this.symm
    have hIn:=xE d fa fc va vc ma mc ia ic sc Y (by omega)
    rw[h1]at l0 hIn
    have hMl:(sc++[46]).length=sc.length+1:=by simp
    obtain⟨M,hM⟩:∃ M,sc++[46]=M:=⟨_,rfl⟩
    rw[hM]at hIn oI
    clear hM hMl
    go_wp2_with fail
    refine hIn.mono ?_
    rintro e W5 ⟨rfl,hb5⟩
    have HW5:Hid (Below w.heap.size w W5):=HY.out.trans (hb5.mono HY.out.size)
    have hs5:=hb5.size
    have HO5:Hid ((W5.alloc (.cells #[.string (aC M),.slice ia d.inner.length ic] 173)).ownsRow W5.heap.size 173 2 (.slice (some ⟨W5.heap.size,0,none⟩) 1 1) [((M,.slice ia d.inner.length ic,d.inner):jG)].length ([((M,.slice ia d.inner.length ic,d.inner):jG)].flatMap dJ)):=⟨rfl,.inr ⟨W5.heap.size,1,#[.string (aC M),.slice ia d.inner.length ic],rfl,Nat.le_refl _,alloc_heap_new _ _,Nat.le_refl _,by unfold maxLen;omega,rfl,rfl⟩⟩
    have HR5:Hid ((W5.alloc (.cells #[.string (aC M),.slice ia d.inner.length ic] 173)).ownsRow V.heap.size 173 2 (.slice ra R.length rc) R.length (R.flatMap dJ)):=World.ownsRow.alloc (aR uI.out fun b hb=>hb5.block b (aE uI.out b hb).2) _
    have Px:Hid (Below w.heap.size w (W5.alloc (.cells #[.string (aC M),.slice ia d.inner.length ic] 173))):=HW5.out.alloc HW5.out.size _
    have HOLD:Hid (∀ b,S b→(W5.alloc (.cells #[.string (aC M),.slice ia d.inner.length ic] 173)).heap[b]? = W2.heap[b]?):=fun b hb=>(Px.out.block b (HS.out b hb)).trans (HW2.out.block b (HS.out b hb)).symm
    have hone:∀ y∈R,y.2.1.oneCell'=true:=fun y hy=>by
     obtain⟨_,_,e⟩:=(Ww.out y hy).eI
     rw[e];rfl
    clear hIn hb5 l0 l1 l2 l3 l4 l5 l6 l7
    go_wp2_with (at_builtin;refine aAw HO5.out (by simp) HR5.out hone rfl _ _ rfl rfl rfl (by show 1+R.length≤_;omega) ?_)
    intro v6 W6 hown6 jA
    have HO6:Hid (W6.ownsRow W5.heap.size 173 2 v6 (((M,.slice ia d.inner.length ic,d.inner):jG) :: R).length ((((M,.slice ia d.inner.length ic,d.inner):jG) :: R).flatMap dJ)):=by
     refine(?_:World.ownsRow _ _ _ _ _ _ _)
     first | exact hown6 | simpa using hown6
    have HB6:Hid (Below w.heap.size w W6):=Px.out.grown jA Px.out.size (fun b hb=>by have:=(aE HO5.out b hb).1;have:=HW5.out.size;omega)
    have aDg:Hid (∀ b,S b→W6.heap[b]? = W2.heap[b]?):=fun b hb=>(HB6.out.block b (HS.out b hb)).trans (HW2.out.block b (HS.out b hb)).symm
    have HO7:=aB (Gc HO6.out HW5.out.size)
    have HHD:Hid (aM (f+1) W6 S (.slice ia d.inner.length ic) d.inner):=aM.old aDg.out eO.out.2.2.2
    have HHR:Hid (∀ p∈(((M,.slice ia d.inner.length ic,d.inner):jG) :: R),aM (f+1) W6 S p.2.1 p.2.2):=fun p hp=>by
     rcases List.mem_cons.1 hp with rfl | hp
     ·exact HHD.out
     ·exact aM.old aDg.out (Ww.out p hp)
    obtain⟨qa,qc,hqv⟩:=aO HO6.out
    subst hqv
    clear hown6 jA
    go_wp2_with fail
    go_ret2
    exact⟨.inl ⟨_,_,((M,.slice ia d.inner.length ic,d.inner):jG) :: R,oI.out,rfl,HO7.out,by rw[List.map_cons,Yl.out],HHR.out,by rw[List.length_cons];omega⟩,HB6.out⟩
   ·have qR:Hid (RES=none):=by have:=fE.out;rw[if_neg h1]at this;exact this.symm
    have h1':(d.kind != 1)=true:=bne_iff_ne.2 h1
    go_wp2_with fail
    go_ret2
    exact⟨.inr ⟨qR.out,rfl⟩,HY.out⟩
  ·have qR:Hid (RES=none):=by have:=HM.out;rw[hres]at this;exact this.symm
   have HYb:Hid (Below w.heap.size w (W2.alloc (.cells #[.int .i64 0,.string ⟨#[]⟩,.int .i64 0,.int .i64 0,.slice none 0 0,.slice none 0 0,.slice none 0 0,.slice none 0 0] 69))):=HW2.out.alloc HW2.out.size _
   clear hres
   go_wp2_with fail
   go_ret2
   exact⟨.inr ⟨qR.out,rfl⟩,HYb.out⟩
end Go.Proofs.YtpojeinddnjpfaaGreatDoor
