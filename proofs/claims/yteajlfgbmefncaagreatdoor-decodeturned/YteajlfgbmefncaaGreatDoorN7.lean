/-
  Walks and plain words (VnN EnW AFix Fby EnM).
-/
import Derived.Test.YteajlfgbmefncaaGreatDoorN6
import Derived.Test.YteajlfgbmefncaaGreatDoorN2
import Derived.Test.YteajlfgbmefncaaGreatDoorN1
namespace Go.Proofs.YteajlfgbmefncaaGreatDoor
set_option linter.unusedVariables false

def defP (y:Nd):Bool:=if y.kind=1 then decide (y.n=0) else if y.kind=2 then decide (y.u=0) else if y.kind=3 then !y.b else if y.kind=4∨y.kind=5 then decide (y.s=[]) else if y.kind=6 then decide (IntKind.i32.wrap y.n=0) else false
def zeroR (z:Nd):Bool:=decide (z.kind≠7)&&(decide (z.n=0)&&(decide (z.u=0)&&(!z.b&&decide (z.s=[]))))
theorem zero_eq {y:Nd} (h1:1≤y.kind) (h2:y.kind≤7):zeroR (cn y)=defP y:=by
 obtain⟨kind,n,u,b,s,type,fields⟩:=y
 simp only at h1 h2
 rcases(by omega:kind=1∨kind=2∨kind=3∨kind=4∨kind=5∨kind=6∨kind=7)with rfl | rfl | rfl | rfl | rfl | rfl | rfl <;>
  simp[zeroR,cn,defP]
def fieldsOf (ms:List MD) (t:Int):List FD:=match ms[t.toNat]? with
 | none=>[]
 | some m=>m.fields
def keepB (fs:List FD) (p:Int × List Nd):Bool:=(match firstF fs p.1 with
 | none=>false
 | some f=>f.rep) || !(match p.2[0]? with
 | none=>true
 | some y=>defP y)
def keptL (ms:List MD) (g:Nd→Nd) (t:Int) (l:List (Int × List Nd)):List (Int × List Nd):=(l.filter (keepB (fieldsOf ms t))).map fun p=>(p.1,p.2.map g)
def normN (ms:List MD):Nat→Nd→Nd
 | 0,x=>x
 | f+1,x=>if x.kind=7 then ⟨x.kind,x.n,x.u,x.b,x.s,x.type,keptL ms (normN ms f) x.type x.fields⟩ else x
def normF (ms:List MD):Nat→Nd→Nd
 | 0=>id
 | f+1=>normN ms f
theorem keptL_step {ms:List MD} {g:Nd→Nd} {t:Int} {l:List (Int × List Nd)} {k:Nat} {p:Int × List Nd} (h:l[k]? = some p):keptL ms g t (l.take (k+1))=keptL ms g t (l.take k)++(if keepB (fieldsOf ms t) p=true then [(p.1,p.2.map g)] else []):=by
 unfold keptL
 rw[show l.take (k+1)=l.take k++[p] from take_snoc h,List.filter_append,List.map_append]
 congr 1
 cases hk:keepB (fieldsOf ms t) p <;> simp[hk]
def GoodT (ms:List MD):Nat→Nd→Prop
 | 0,x=>0≤x.type∧x.type<(ms.length:Int)
 | f+1,x=>(0≤x.type∧x.type<(ms.length:Int))∧∀ p∈x.fields,(∃ (i:Nat) (fd:FD),isFirst (fieldsOf ms x.type) p.1 i fd)∧p.2≠[]∧∀ y∈p.2,(1≤y.kind∧y.kind≤7)∧(y.kind=7→GoodT ms f y)
theorem isFirst_of:∀ {fs:List FD} {num:Int} {f:FD},firstF fs num=some f→∃ i,isFirst fs num i f
 | x :: t,num,f,h=>by
  rw[firstF]at h
  split at h
  ·rename_i hx
   cases h
   exact⟨0,rfl,hx,fun j g hj=>absurd hj (Nat.not_lt_zero _)⟩
  ·rename_i hx
   obtain⟨i,h1,h2,h3⟩:=isFirst_of h
   refine⟨i+1,by simpa using h1,h2,fun j g hj hg=>?_⟩
   cases j with
   | zero=>
    have e:x=g:=by simpa using hg
    rw[←e];exact hx
   | succ j=>exact h3 j g (by omega) (by simpa using hg)
theorem val_kind {rec:Int→Nd→Bool} {f:FD} {y:Nd} (hr:∀ t y,rec t y=true→y.kind=7) (h:valP rec f y=true):1≤y.kind∧y.kind≤7:=by
 unfold valP at h
 split at h
 ·have:=hr _ _ h;omega
 ·unfold kindB at h
  repeat' split at h
  all_goals first
   | (have:=of_decide_eq_true h;omega)
   | (rw[Bool.and_eq_true]at h;have:=of_decide_eq_true h.1;omega)
   | cases h
theorem good_of_fit {ms:List MD} (hk:∀ m∈ms,∀ x∈m.fields,x.kind=10→0≤x.type∧x.type<(ms.length:Int)):∀ (f:Nat) (dep t:Int) (x:Nd),0≤t→t<(ms.length:Int)→fitP ms f dep t x=true→x.kind=7∧GoodT ms f x:=by
 intro f
 induction f with
 | zero=>
  intro dep t x h0 h1 h
  rw[fitP_eq,topP,Bool.and_eq_true,decide_eq_true_eq]at h
  obtain⟨⟨hk7,ht,_⟩,_⟩:=h
  exact⟨hk7,by rw[ht];exact h0,by rw[ht];exact h1⟩
 | succ f ih=>
  intro dep t x h0 h1 h
  rw[fitP_eq,topP,Bool.and_eq_true,decide_eq_true_eq]at h
  obtain⟨⟨hk7,ht,_⟩,hb⟩:=h
  refine⟨hk7,⟨by rw[ht];exact h0,by rw[ht];exact h1⟩,fun p hp=>?_⟩
  unfold fieldsOf
  rw[ht]
  cases hm:ms[t.toNat]? with
  | none=>rw[hm]at hb;cases hb
  | some m=>
   rw[hm]at hb
   simp only at hb
   unfold bodyP at hb
   rw[Bool.and_eq_true]at hb
   obtain⟨j,hj⟩:=List.getElem?_of_mem hp
   have h2:=allA_iff.1 hb.1 j p hj
   rw[Bool.and_eq_true]at h2
   have h3:=h2.2
   unfold fldP at h3
   cases hf:firstF m.fields p.1 with
   | none=>rw[hf]at h3;cases h3
   | some fd=>
    rw[hf]at h3
    simp only[Bool.and_eq_true]at h3
    obtain⟨h4,_,h5⟩:=h3
    refine⟨?_,?_,fun y hy=>?_⟩
    ·obtain⟨i,hi⟩:=isFirst_of hf
     exact⟨i,fd,hi⟩
    ·intro e;rw[e]at h4;cases h4
    ·obtain⟨a,ha⟩:=List.getElem?_of_mem hy
     have h6:=allA_iff.1 h5 a y ha
     have hr:∀ t y,recP ms dep (f+1) t y=true→y.kind=7:=fun t y h=>by
      have h':fitP ms f (dep+1) t y=true:=h
      rw[fitP_eq,topP,Bool.and_eq_true,decide_eq_true_eq]at h'
      exact h'.1.1
     refine⟨val_kind hr h6,fun hy7=>?_⟩
     unfold valP at h6
     split at h6
     ·rename_i h10
      obtain⟨q0,q1⟩:=hk m (List.mem_of_getElem? hm) fd (firstF_some hf).1 h10
      exact(ih (dep+1) fd.type y q0 q1 h6).2
     ·unfold kindB at h6
      rw[hy7]at h6
      repeat' split at h6
      all_goals simp at h6
def Rg1 (x:Nd):Prop:=(-9223372036854775808≤x.n∧x.n≤9223372036854775807)∧0≤x.u∧x.u≤18446744073709551615
def RngG:Nat→Nd→Prop
 | 0,x=>Rg1 x
 | f+1,x=>Rg1 x∧∀ p∈x.fields,∀ y∈p.2,RngG f y
theorem RngG.one {f:Nat} {x:Nd} (h:RngG f x):Rg1 x:=by
 cases f with
 | zero=>exact h
 | succ f=>exact h.1
def sumL {α:Type} (g:α→Nat):List α→Nat
 | []=>0
 | a :: l=>g a+sumL g l
theorem sumL_append {α:Type} (g:α→Nat) (l m:List α):sumL g (l++m)=sumL g l+sumL g m:=by
 induction l with
 | nil=>simp[sumL]
 | cons a l ih=>rw[List.cons_append,sumL,sumL,ih];omega
theorem sumL_le {α:Type} {g h:α→Nat} {l:List α} (H:∀ a∈l,g a≤h a):sumL g l≤sumL h l:=by
 induction l with
 | nil=>exact Nat.le_refl _
 | cons a l ih=>
  have h1:=H a List.mem_cons_self
  have h2:=ih fun b hb=>H b (List.mem_cons_of_mem _ hb)
  rw[sumL,sumL];omega
theorem sumL_mul {α:Type} (g:α→Nat) (c:Nat) (l:List α):sumL (fun a=>c*g a) l=c*sumL g l:=by
 induction l with
 | nil=>rfl
 | cons a l ih=>rw[sumL,sumL,ih,Nat.mul_add]
theorem sumL_mem {α:Type} {g:α→Nat} {l:List α} {a:α} (h:a∈l):g a≤sumL g l:=by
 induction l with
 | nil=>cases h
 | cons b l ih=>
  rw[sumL]
  rcases List.mem_cons.1 h with rfl | h
  ·omega
  ·have:=ih h;omega
theorem sumL_map {α β:Type} (g:β→Nat) (h:α→β) (l:List α):sumL g (l.map h)=sumL (fun a=>g (h a)) l:=by
 induction l with
 | nil=>rfl
 | cons a l ih=>rw[List.map_cons,sumL,sumL,ih]
theorem sumL_filter {α:Type} (g:α→Nat) (p:α→Bool) (l:List α):sumL g (l.filter p)≤sumL g l:=by
 induction l with
 | nil=>exact Nat.le_refl _
 | cons a l ih=>
  rw[List.filter_cons]
  split
  ·rw[sumL,sumL];omega
  ·rw[sumL];omega
theorem flatLen {α β:Type} (g:α→List β) (l:List α):(l.flatMap g).length=sumL (fun a=>(g a).length) l:=by
 induction l with
 | nil=>rfl
 | cons a l ih=>rw[List.flatMap_cons,List.length_append,ih,sumL]
def wtN:Nat→Nd→Nat
 | 0,x=>x.s.length / 100+1
 | f+1,x=>x.s.length / 100+1+sumL (fun p=>1+sumL (wtN f) p.2) x.fields
def bndN:Nat→Nd→Nat
 | 0,x=>x.s.length
 | f+1,x=>x.s.length+sumL (fun p=>30+sumL (fun y=>bndN f y+30) p.2) x.fields
theorem bnd_wt:∀ (f:Nat) (x:Nd),bndN f x+30≤200*wtN f x
 | 0,x=>by unfold bndN wtN;omega
 | f+1,x=>by
  have h:sumL (fun p:Int × List Nd=>30+sumL (fun y=>bndN f y+30) p.2) x.fields≤sumL (fun p:Int × List Nd=>200*(1+sumL (wtN f) p.2)) x.fields:=sumL_le fun p hp=>by
   have h2:sumL (fun y=>bndN f y+30) p.2≤sumL (fun y=>200*wtN f y) p.2:=sumL_le fun y hy=>bnd_wt f y
   rw[sumL_mul]at h2
   omega
  rw[sumL_mul]at h
  unfold bndN wtN
  omega
open Go.ChangeShapes Go.WideShapes Go.ChangeAt Go.RowKit
def lob (n:Int):Nat→List Int
 | 0=>[]
 | k+1=>lob n k++[n / 2 ^ (8*k) % 256]
theorem lob_length (n:Int) (k:Nat):(lob n k).length=k:=by
 induction k with
 | zero=>rfl
 | succ k ih=>simp[lob,ih]
theorem lob_bytes (n:Int) (k:Nat):∀ z∈lob n k,0≤z∧z≤255:=by
 induction k with
 | zero=>simp[lob]
 | succ k ih=>
  intro z hz
  simp only[lob,List.mem_append,List.mem_singleton]at hz
  rcases hz with hz | rfl
  ·exact ih z hz
  ·omega
theorem afix_step (w:World) (zs:List Int) (n:Int) (s k:Nat) (h:k<s) (len:Nat) (hl:zs.length=len) :
  (blk w 5 (zs++(lob n k++List.replicate (s - k) 0))).setCell ⟨w.heap.size,len+k,none⟩ (.int .u8 (n / 2 ^ (8*k) % 256))=blk w 5 (zs++(lob n (k+1)++List.replicate (s - (k+1)) 0)):=by
 rw[blk_set]
 congr 1
 subst hl
 obtain⟨m,hm⟩:∃ m,s - k=m+1:=⟨s - k - 1,by omega⟩
 have hm2:s - (k+1)=m:=by omega
 rw[hm,hm2,List.set_append_right _ _ (by omega),List.set_append_right _ _ (by rw[lob_length];omega),lob_length]
 simp[lob,List.replicate_succ]
theorem afix_at (zs:List Int) (n:Int) (s k:Nat) (h:k<s) (len:Nat) (hl:zs.length=len) :
  (zs++(lob n k++List.replicate (s - k) 0))[len+k]? = some 0:=by
 subst hl
 rw[List.getElem?_append_right (by omega),List.getElem?_append_right (by rw[lob_length];omega),lob_length]
 rw[show zs.length+k - zs.length - k=0 by omega]
 obtain⟨m,hm⟩:∃ m,s - k=m+1:=⟨s - k - 1,by omega⟩
 simp[hm,List.replicate_succ]

set_option maxHeartbeats 1000000 in
theorem afixed_any (a:Option Addr) (len cap:Nat) (zs:List Int) (n:Int) (s:Nat) (w:World) (hB:IsB w a len zs) (hn0:0≤n) (hn1:n≤18446744073709551615) (hs:s≤8) (hl:len≤140737488351232) :
  Calls Tryz.prog 130 #[.slice a len cap,.int .u64 n,.int .i64 s] w fun e w'=>
   e=.returned (.slice (some ⟨w.heap.size,0,none⟩) (len+s) (len+s))∧w'=blk w 5 (zs++lob n s):=by
 have HB:Hid (IsB w a len zs):=hB
 have hzl:Hid (zs.length=len):=hB.1
 clear hB
 go_enter Tryz.func130,Tryz.ntmps130
 go_wp2_with fail
 refine(grown_any _ _ _ zs s _ HB.out (by omega)).mono ?_
 rintro e w' ⟨rfl,rfl⟩
 clear HB
 go_wp2_with fail
 go_loopw [13] (fun i wr=>∃ k:Nat,k≤s∧i=.int .i64 k∧wr=blk w 5 (zs++(lob n k++List.replicate (s - k) 0))) (fun i _=>s - (intOf i).toNat)
 case atStart=>exact⟨0,by omega,rfl,by simp[lob]⟩
 case round=>
  obtain⟨k,hk,rfl,hwr⟩:=hrel
  have HW:Hid (wr=blk w 5 (zs++(lob n k++List.replicate (s - k) 0))):=hwr
  clear hwr
  by_cases hlt:k<s
  ·have hcell:wr.cell? ⟨w.heap.size,len+k,none⟩=some (.int .u8 0):=by
    rw[HW.out];exact blk_cell w 5 _ (afix_at zs n s k hlt len hzl.out)
   have hfro:wr.frozen? ⟨w.heap.size,len+k,none⟩=false:=by
    rw[HW.out];exact blk_frozen w 5 _ _
   go_wp2
   go_roundw
   case rel=>exact⟨k+1,by omega,by go_num,by rw[HW.out];exact afix_step w zs n s k hlt len hzl.out⟩
   case measure=>simp[intOf];omega
  ·obtain rfl:k=s:=by omega
   go_wp2
   go_ret
   exact⟨rfl,by rw[HW.out];simp⟩
set_option maxHeartbeats 1000000 in
theorem append32_any (a:Option Addr) (len cap:Nat) (zs:List Int) (n:Int) (w:World) (hB:IsB w a len zs) (hn0:0≤n) (hn1:n≤4294967295) (hl:len≤140737488351232) :
  Calls Tryz.prog 117 #[.slice a len cap,.int .u32 n] w fun e w'=>
   e=.returned (.slice (some ⟨w.heap.size,0,none⟩) (len+4) (len+4))∧w'=blk w 5 (zs++lob n 4):=by
 have HB:Hid (IsB w a len zs):=hB
 clear hB
 go_enter Tryz.func117,Tryz.ntmps117
 go_wp2_with fail
 refine(afixed_any _ _ _ zs n 4 _ HB.out (by omega) (by omega) (by omega) hl).mono ?_
 rintro e w' ⟨rfl,rfl⟩
 go_wp2_with fail
 go_ret
 exact⟨rfl,rfl⟩
set_option maxHeartbeats 1000000 in
theorem append64_any (a:Option Addr) (len cap:Nat) (zs:List Int) (n:Int) (w:World) (hB:IsB w a len zs) (hn0:0≤n) (hn1:n≤18446744073709551615) (hl:len≤140737488351232) :
  Calls Tryz.prog 116 #[.slice a len cap,.int .u64 n] w fun e w'=>
   e=.returned (.slice (some ⟨w.heap.size,0,none⟩) (len+8) (len+8))∧w'=blk w 5 (zs++lob n 8):=by
 have HB:Hid (IsB w a len zs):=hB
 clear hB
 go_enter Tryz.func116,Tryz.ntmps116
 go_wp2_with fail
 refine(afixed_any _ _ _ zs n 8 _ HB.out (by omega) (by omega) (by omega) hl).mono ?_
 rintro e w' ⟨rfl,rfl⟩
 go_wp2_with fail
 go_ret
 exact⟨rfl,rfl⟩
def fbytes (num ty n:Int) (d:List Int):List Int:=
 vint (8*num+ty).toNat++(if ty=0 then vint n.toNat else if ty=1 then lob n 8 else if ty=5 then lob n 4 else vint d.length++d)
def zigI (n:Int):Int:=if n<0 then -2*n - 1 else 2*n
def numP (k:Int) (y:Nd):Int:=
 if y.kind=1 then (if k=3 then zigI y.n else IntKind.u64.wrap y.n) else if y.kind=2 then y.u else if y.kind=6 then IntKind.u64.wrap (IntKind.i32.wrap y.n) else if y.kind=3 then (if y.b then 1 else 0) else 0
def isNum (k:Int):Bool:=decide (k≠5∧k≠6∧k≠10)
def nbytes (k n:Int):List Int:=if k=7 then lob (n % 4294967296) 4 else if k=8 then lob n 8 else vint n.toNat
def packL (k:Int) (vs:List Nd):List Int:=vs.flatMap fun v=>nbytes k (numP k v)
structure WF where
 num:Int
 ty:Int
 n:Int
 d:List Int
def WF.bytes (x:WF):List Int:=fbytes x.num x.ty x.n x.d
def singW (rec:Nd→List Int) (fd:FD) (v:Nd):WF:=if isNum fd.kind then ⟨fd.num,if fd.kind=7 then 5 else if fd.kind=8 then 1 else 0,numP fd.kind v,[]⟩ else ⟨fd.num,2,0,rec v⟩
def wireL (rec:Nd→List Int) (fd:FD) (vs:List Nd):List WF:=if fd.rep&&isNum fd.kind then [⟨fd.num,2,0,packL fd.kind vs⟩] else vs.map (singW rec fd)
def contB (msg:Nd→List Int) (v:Nd):List Int:=if v.kind=4∨v.kind=5 then ints v.s else if v.kind=7 then msg v else []
def fldB (rec:Nd→List Int) (fs:List FD) (p:Int × List Nd):List Int:=match firstF fs p.1 with
 | none=>[]
 | some fd=>(wireL rec fd p.2).flatMap WF.bytes
def msgB (ms:List MD):Nat→Nd→List Int
 | 0,y=>ints y.s
 | f+1,y=>(y.fields.flatMap (fldB (contB (msgB ms f)) (fieldsOf ms y.type)))++ints y.s
theorem num_rg (k:Int) {y:Nd} (h:Rg1 y):0≤numP k y∧numP k y≤18446744073709551615:=by
 obtain⟨⟨h1,h2⟩,h3,h4⟩:=h
 unfold numP zigI
 repeat' split
 all_goals first
  | omega
  | (rw[IntKind.wrap_u64];omega)
theorem vint_le (n:Int) (h:n≤18446744073709551615):(vint n.toNat).length≤10:=vint_ten (by omega)
theorem fby_len (num ty n:Int) (d:List Int) (h1:num≤536870911) (h2:ty≤5) (hn:n≤18446744073709551615) (hd:d.length≤140737488355328):(fbytes num ty n d).length≤d.length+20:=by
 unfold fbytes
 have h3:=vint_le (8*num+ty) (by omega)
 rw[List.length_append]
 repeat' split
 ·have:=vint_le n hn;omega
 ·rw[lob_length];omega
 ·rw[lob_length];omega
 ·have:=vint_ten (n:=d.length) (by omega)
  rw[List.length_append];omega
def EncG (ms:List MD):Nat→Nd→Prop
 | 0,x=>x.kind=7∧0≤x.type∧x.type<(ms.length:Int)
 | f+1,x=>(x.kind=7∧0≤x.type∧x.type<(ms.length:Int))∧∀ p∈x.fields,∃ fd,firstF (fieldsOf ms x.type) p.1=some fd∧(1≤fd.num∧fd.num≤536870911)∧∀ y∈p.2,(fd.kind=7→numP 7 y<4294967296)∧(y.kind=7→EncG ms f y)
theorem EncG.one {ms:List MD} {f:Nat} {x:Nd} (h:EncG ms f x):x.kind=7∧0≤x.type∧x.type<(ms.length:Int):=by
 cases f with
 | zero=>exact h
 | succ f=>exact h.1
def NumOK (ms:List MD):Prop:=∀ m∈ms,∀ x∈m.fields,(1≤x.num∧x.num≤536870911)∧(x.kind=10→0≤x.type∧x.type<(ms.length:Int))
theorem encG_of {ms:List MD} (hk:NumOK ms):∀ (f:Nat) (dep t:Int) (x:Nd),0≤t→t<(ms.length:Int)→fitP ms f dep t x=true→EncG ms f x:=by
 intro f
 induction f with
 | zero=>
  intro dep t x h0 h1 h
  rw[fitP_eq,topP,Bool.and_eq_true,decide_eq_true_eq]at h
  obtain⟨⟨hk7,ht,_⟩,_⟩:=h
  exact⟨hk7,by rw[ht];exact h0,by rw[ht];exact h1⟩
 | succ f ih=>
  intro dep t x h0 h1 h
  rw[fitP_eq,topP,Bool.and_eq_true,decide_eq_true_eq]at h
  obtain⟨⟨hk7,ht,_⟩,hb⟩:=h
  refine⟨⟨hk7,by rw[ht];exact h0,by rw[ht];exact h1⟩,fun p hp=>?_⟩
  unfold fieldsOf
  rw[ht]
  cases hm:ms[t.toNat]? with
  | none=>rw[hm]at hb;cases hb
  | some m=>
   rw[hm]at hb
   simp only at hb
   unfold bodyP at hb
   rw[Bool.and_eq_true]at hb
   obtain⟨j,hj⟩:=List.getElem?_of_mem hp
   have h2:=allA_iff.1 hb.1 j p hj
   rw[Bool.and_eq_true]at h2
   have h3:=h2.2
   unfold fldP at h3
   cases hf:firstF m.fields p.1 with
   | none=>rw[hf]at h3;cases h3
   | some fd=>
    rw[hf]at h3
    simp only[Bool.and_eq_true]at h3
    obtain⟨h4,_,h5⟩:=h3
    obtain⟨hnum,hty⟩:=hk m (List.mem_of_getElem? hm) fd (firstF_some hf).1
    refine⟨fd,rfl,hnum,fun y hy=>?_⟩
    obtain⟨a,ha⟩:=List.getElem?_of_mem hy
    have h6:=allA_iff.1 h5 a y ha
    unfold valP at h6
    split at h6
    ·rename_i h10
     exact⟨fun h=>by omega,fun _=>ih (dep+1) fd.type y (hty h10).1 (hty h10).2 h6⟩
    ·refine⟨fun h7=>?_,fun h7=>?_⟩
     ·rw[h7]at h6
      unfold kindB at h6
      simp at h6
      unfold numP
      simp[h6.1,h6.2]
     ·unfold kindB at h6
      rw[h7]at h6
      repeat' split at h6
      all_goals simp at h6
theorem sing_len {ms:List MD} {rec:Nd→List Int} {fd:FD} {y:Nd} {B:Nat} (h0:1≤fd.num) (h1:fd.num≤536870911) (hy:Rg1 y) (hr:(rec y).length≤B) (hB:B≤140737488355328):(singW rec fd y).bytes.length≤B+20:=by
 unfold singW WF.bytes
 have ht:(if fd.kind=7 then (5:Int) else if fd.kind=8 then 1 else 0)≤5:=by
  repeat' split
  all_goals omega
 split
 ·have:=fby_len fd.num (if fd.kind=7 then 5 else if fd.kind=8 then 1 else 0) (numP fd.kind y) [] h1 ht (num_rg _ hy).2 (by simp)
  rw[List.length_nil]at this
  dsimp only
  omega
 ·have:=fby_len fd.num 2 0 (rec y) h1 (by omega) (by omega) (by omega)
  dsimp only
  omega
theorem nby_len (k n:Int) (hn:n≤18446744073709551615):(nbytes k n).length≤10:=by
 unfold nbytes
 repeat' split
 ·rw[lob_length];omega
 ·rw[lob_length];omega
 ·exact vint_le n hn
theorem pack_len (k:Int) (vs:List Nd) (h:∀ y∈vs,Rg1 y):(packL k vs).length≤sumL (fun _=>10) vs:=by
 unfold packL
 rw[flatLen]
 exact sumL_le fun y hy=>nby_len _ _ (num_rg k (h y hy)).2
theorem wire_len {rec:Nd→List Int} {fd:FD} {vs:List Nd} {g:Nd→Nat} (h0:1≤fd.num) (h1:fd.num≤536870911) (hy:∀ y∈vs,Rg1 y) (hr:∀ y∈vs,(rec y).length≤g y) (hB:sumL (fun y=>g y+30) vs≤140737488355328) :
  ((wireL rec fd vs).flatMap WF.bytes).length≤30+sumL (fun y=>g y+30) vs:=by
 unfold wireL
 split
 ·have h2:=pack_len fd.kind vs hy
  have h3:sumL (fun _=>10) vs≤sumL (fun y=>g y+30) vs:=sumL_le fun y _=>by omega
  have:=fby_len fd.num 2 0 (packL fd.kind vs) h1 (by omega) (by omega) (by omega)
  simp only[List.flatMap_cons,List.flatMap_nil,List.append_nil,WF.bytes]
  omega
 ·rw[List.flatMap_map,flatLen]
  have:sumL (fun a=>(singW rec fd a).bytes.length) vs≤sumL (fun y=>g y+30) vs:=sumL_le fun y h=>by
   have h4:g y+30≤sumL (fun y=>g y+30) vs:=sumL_mem (g:=fun y=>g y+30) h
   have:=sing_len (ms:=[]) h0 h1 (hy y h) (hr y h) (by omega)
   omega
  omega
theorem cont_len {ms:List MD} {f:Nat} {y:Nd} (h:y.kind=7→(msgB ms f y).length≤bndN f y):(contB (msgB ms f) y).length≤bndN f y:=by
 have hs:y.s.length≤bndN f y:=by cases f <;> unfold bndN <;> omega
 unfold contB
 repeat' split
 ·rw[ints_len];exact hs
 ·exact h (by assumption)
 ·exact Nat.zero_le _
theorem msg_len {ms:List MD}:∀ (f:Nat) (x:Nd),EncG ms f x→RngG f x→bndN f x≤140737488355328→(msgB ms f x).length≤bndN f x
 | 0,x,he,hr,hb=>by unfold msgB bndN;rw[ints_len];exact Nat.le_refl _
 | f+1,x,he,hr,hb=>by
  unfold msgB
  unfold bndN at hb ⊢
  rw[List.length_append,ints_len,flatLen]
  have:sumL (fun a=>(fldB (contB (msgB ms f)) (fieldsOf ms x.type) a).length) x.fields≤sumL (fun p=>30+sumL (fun y=>bndN f y+30) p.2) x.fields:=sumL_le fun p hp=>by
   obtain⟨fd,h1,⟨h2,h3⟩,h4⟩:=he.2 p hp
   unfold fldB
   rw[h1]
   have hp2:30+sumL (fun y=>bndN f y+30) p.2≤sumL (fun p:Int × List Nd=>30+sumL (fun y=>bndN f y+30) p.2) x.fields:=sumL_mem (g:=fun p:Int × List Nd=>30+sumL (fun y=>bndN f y+30) p.2) hp
   refine wire_len (g:=bndN f) h2 h3 (fun y hy=>(hr.2 p hp y hy).one) (fun y hy=>cont_len fun h7=>?_) (by omega)
   have hy2:bndN f y+30≤sumL (fun y=>bndN f y+30) p.2:=sumL_mem (g:=fun y=>bndN f y+30) hy
   exact msg_len f y ((h4 y hy).2 h7) (hr.2 p hp y hy) (by omega)
  omega
theorem norm_kind (ms:List MD) (f:Nat) (x:Nd):(normN ms f x).kind=x.kind:=by
 cases f with
 | zero=>rfl
 | succ f=>unfold normN;split <;> rfl
theorem norm_else (ms:List MD) (f:Nat) (x:Nd) (h:x.kind≠7):normN ms f x=x:=by
 cases f with
 | zero=>rfl
 | succ f=>unfold normN;rw[if_neg h]
theorem norm_msg (ms:List MD) (f:Nat) (x:Nd) (h:x.kind=7):normN ms (f+1) x=⟨x.kind,x.n,x.u,x.b,x.s,x.type,keptL ms (normN ms f) x.type x.fields⟩:=by rw[normN,if_pos h]
theorem kept_mem {ms:List MD} {g:Nd→Nd} {t:Int} {l:List (Int × List Nd)} {q:Int × List Nd} (h:q∈keptL ms g t l):∃ p∈l,keepB (fieldsOf ms t) p=true∧q=(p.1,p.2.map g):=by
 unfold keptL at h
 obtain⟨p,hp,rfl⟩:=List.mem_map.1 h
 rw[List.mem_filter]at hp
 exact⟨p,hp.1,hp.2,rfl⟩
theorem norm_bnd (ms:List MD):∀ (f:Nat) (x:Nd),bndN f (normN ms f x)≤bndN f x
 | 0,x=>Nat.le_refl _
 | f+1,x=>by
  by_cases h:x.kind=7
  ·rw[norm_msg ms f x h]
   unfold bndN keptL
   dsimp only
   rw[sumL_map]
   dsimp only
   have h2:sumL (fun p:Int × List Nd=>30+sumL (fun y=>bndN f y+30) (p.2.map (normN ms f))) (x.fields.filter (keepB (fieldsOf ms x.type)))≤sumL (fun p=>30+sumL (fun y=>bndN f y+30) p.2) (x.fields.filter (keepB (fieldsOf ms x.type))):=sumL_le fun p _=>by
    rw[sumL_map]
    have:=sumL_le (l:=p.2) (g:=fun a=>bndN f (normN ms f a)+30) (h:=fun y=>bndN f y+30) fun y _=>by have:=norm_bnd ms f y;omega
    omega
   have h3:=sumL_filter (fun p:Int × List Nd=>30+sumL (fun y=>bndN f y+30) p.2) (keepB (fieldsOf ms x.type)) x.fields
   omega
  ·rw[norm_else ms _ x h];exact Nat.le_refl _
theorem norm_rng (ms:List MD):∀ (f:Nat) (x:Nd),RngG f x→RngG f (normN ms f x)
 | 0,x,h=>h
 | f+1,x,h=>by
  by_cases h7:x.kind=7
  ·rw[norm_msg ms f x h7]
   refine⟨h.1,fun q hq y hy=>?_⟩
   obtain⟨p,hp,_,rfl⟩:=kept_mem hq
   obtain⟨z,hz,rfl⟩:=List.mem_map.1 hy
   exact norm_rng ms f z (h.2 p hp z hz)
  ·rw[norm_else ms _ x h7];exact h
theorem norm_fitG (ms:List MD) {bs bf:Nat}:∀ (f:Nat) (x:Nd),FitG bs bf f x→FitG bs bf f (normN ms f x)
 | 0,x,h=>h
 | f+1,x,h=>by
  by_cases h7:x.kind=7
  ·rw[norm_msg ms f x h7]
   refine⟨h.1,?_,fun q hq=>?_⟩
   ·refine Nat.le_trans ?_ h.2.1
    unfold keptL
    rw[List.length_map]
    exact List.length_filter_le _ _
   ·obtain⟨p,hp,_,rfl⟩:=kept_mem hq
    refine⟨by rw[List.length_map];exact(h.2.2 p hp).1,fun y hy=>?_⟩
    obtain⟨z,hz,rfl⟩:=List.mem_map.1 hy
    exact norm_fitG ms f z ((h.2.2 p hp).2 z hz)
  ·rw[norm_else ms _ x h7];exact h
def RiseF:Int→List (Int × List Nd)→Prop
 | _,[]=>True
 | a,p :: l=>a<p.1∧RiseF p.1 l
theorem rise_lt {a b:Int} (h:b≤a):∀ {l:List (Int × List Nd)},RiseF a l→RiseF b l
 | [],_=>trivial
 | p :: l,h2=>⟨by have:=h2.1;omega,h2.2⟩
theorem rise_filter {p:Int × List Nd→Bool}:∀ {a:Int} {l:List (Int × List Nd)},RiseF a l→RiseF a (l.filter p)
 | a,[],h=>trivial
 | a,q :: l,h=>by
  rw[List.filter_cons]
  split
  ·exact⟨h.1,rise_filter h.2⟩
  ·exact rise_filter (rise_lt (Int.le_of_lt h.1) h.2)
theorem rise_map {g:List Nd→List Nd}:∀ {a:Int} {l:List (Int × List Nd)},RiseF a l→RiseF a (l.map fun p=>(p.1,g p.2))
 | a,[],h=>trivial
 | a,q :: l,h=>⟨h.1,rise_map h.2⟩
def prevA (a:Int) (fl:List (Int × List Nd)):Nat→Int
 | 0=>a
 | k+1=>match fl[k]? with
  | some f=>f.1
  | none=>0
theorem rise_iff:∀ {a:Int} {l:List (Int × List Nd)},RiseF a l↔∀ (k:Nat) (y:Int × List Nd),l[k]? = some y→prevA a l k<y.1
 | a,[]=>⟨fun _ k y h=>by simp at h,fun _=>trivial⟩
 | a,q :: l=>by
  refine⟨fun h k y hk=>?_,fun h=>⟨h 0 q rfl,rise_iff.2 fun k y hk=>?_⟩⟩
  ·cases k with
   | zero=>
    have e:q=y:=by simpa using hk
    rw[←e];exact h.1
   | succ k=>
    have:=rise_iff.1 h.2 k y (by simpa using hk)
    cases k with
    | zero=>simpa [prevA]using this
    | succ k=>simpa [prevA]using this
  ·have:=h (k+1) y (by simpa using hk)
   cases k with
   | zero=>simpa [prevA]using this
   | succ k=>simpa [prevA]using this
theorem prev_eq (fl:List (Int × List Nd)) (k:Nat):prevF fl k=prevA 0 fl k:=by cases k <;> rfl
theorem norm_fit {ms:List MD} (hk:NumOK ms):∀ (f:Nat) (dep t:Int) (x:Nd),0≤t→t<(ms.length:Int)→fitP ms f dep t x=true→fitP ms f dep t (normN ms f x)=true:=by
 intro f
 induction f with
 | zero=>intro dep t x h0 h1 h;exact h
 | succ f ih=>
  intro dep t x h0 h1 h
  have hall:=h
  rw[fitP_eq,topP,Bool.and_eq_true,decide_eq_true_eq]at h
  obtain⟨⟨hk7,ht,hdep⟩,hb⟩:=h
  rw[norm_msg ms f x hk7,fitP_eq,topP,Bool.and_eq_true,decide_eq_true_eq]
  refine⟨⟨hk7,ht,hdep⟩,?_⟩
  cases hm:ms[t.toNat]? with
  | none=>rw[hm]at hb;cases hb
  | some m=>
   rw[hm]at hb
   simp only at hb ⊢
   unfold bodyP at hb ⊢
   rw[Bool.and_eq_true]at hb ⊢
   refine⟨?_,hb.2⟩
   dsimp only
   have hrise:RiseF 0 x.fields:=rise_iff.2 fun k y hy=>by
    have h2:=allA_iff.1 hb.1 k y hy
    rw[Bool.and_eq_true]at h2
    rw[←prev_eq]
    exact of_decide_eq_true h2.1
   have hrise2:RiseF 0 (keptL ms (normN ms f) x.type x.fields):=rise_map (g:=fun l=>l.map (normN ms f)) (rise_filter hrise)
   refine allA_iff.2 fun k q hq=>?_
   rw[Bool.and_eq_true]
   refine⟨by rw[prev_eq];exact decide_eq_true (rise_iff.1 hrise2 k q hq),?_⟩
   obtain⟨p,hp,hkeep,rfl⟩:=kept_mem (List.mem_of_getElem? hq)
   obtain⟨j,hj⟩:=List.getElem?_of_mem hp
   have h2:=allA_iff.1 hb.1 j p hj
   rw[Bool.and_eq_true]at h2
   have h3:=h2.2
   unfold fldP at h3 ⊢
   dsimp only
   cases hf:firstF m.fields p.1 with
   | none=>rw[hf]at h3;cases h3
   | some fd=>
    rw[hf]at h3
    simp only[Bool.and_eq_true,List.length_map]at h3 ⊢
    refine⟨h3.1,h3.2.1,allA_iff.2 fun a z hz=>?_⟩
    rw[List.getElem?_map]at hz
    obtain⟨y,hy,rfl⟩:=Option.map_eq_some_iff.1 hz
    have h6:=allA_iff.1 h3.2.2 a y hy
    obtain⟨hnum,hty⟩:=hk m (List.mem_of_getElem? hm) fd (firstF_some hf).1
    unfold valP at h6 ⊢
    split
    ·rename_i h10
     rw[if_pos h10]at h6
     exact ih (dep+1) fd.type y (hty h10).1 (hty h10).2 h6
    ·rename_i h10
     rw[if_neg h10]at h6
     by_cases h7:y.kind=7
     ·unfold kindB at h6
      rw[h7]at h6
      repeat' split at h6
      all_goals simp at h6
     ·rw[norm_else ms f y h7];exact h6
end Go.Proofs.YteajlfgbmefncaaGreatDoor
