/-
  Walks and plain words (DcM DeV SpM VkT Wfm ShB).
-/
import Derived.Test.YteajlfgbmefncaaGreatDoorN7
import Derived.Test.YteajlfgbmefncaaGreatDoorN6
import Derived.Test.YteajlfgbmefncaaGreatDoorN5
import Derived.Test.YteajlfgbmefncaaGreatDoorN2
import Derived.Handy
import Derived.Shelf.Strconv.Itoa0
import Derived.Shelf.Bytes.SlClone
import Derived.Shelf.LaysM
import Derived.Ground.NamesProg
import Derived.Test.YteajlfgbmefncaaGreatDoorProg
namespace Go.Proofs.YteajlfgbmefncaaGreatDoor
set_option linter.unusedVariables false

def u8s (zs:List Int):List UInt8:=zs.map fun z=>UInt8.ofNat z.toNat
theorem u8s_len (zs:List Int):(u8s zs).length=zs.length:=by unfold u8s;simp
theorem ints_u8s:∀ {zs:List Int},(∀ z∈zs,0≤z∧z≤255)→ints (u8s zs)=zs
 | [],h=>rfl
 | z :: t,h=>by
  have h1:=h z List.mem_cons_self
  have h2:=ints_u8s (zs:=t) fun y hy=>h y (List.mem_cons_of_mem _ hy)
  unfold ints u8s at h2 ⊢
  rw[List.map_cons,List.map_cons,h2]
  congr 1
  have e:z.toNat % 256=z.toNat:=Nat.mod_eq_of_lt (by omega)
  rw[UInt8.toNat_ofNat',e]
  omega
def exL {α β:Type} (g:α→Except Int (List β)):List α→Except Int (List β)
 | []=>.ok []
 | x :: t=>match g x with
  | .error e=>.error e
  | .ok l=>match exL g t with
   | .error e=>.error e
   | .ok m=>.ok (l++m)
def andThen {β:Type} (a b:Except Int (List β)):Except Int (List β):=match a with
 | .error e=>.error e
 | .ok l=>match b with
  | .error e=>.error e
  | .ok m=>.ok (l++m)
theorem andThen_assoc {β:Type} (a b c:Except Int (List β)):andThen (andThen a b) c=andThen a (andThen b c):=by
 cases a with
 | error e=>rfl
 | ok l=>cases b with
  | error e=>rfl
  | ok m=>cases c with
   | error e=>rfl
   | ok n=>unfold andThen;simp
theorem exL_cons {α β:Type} (g:α→Except Int (List β)) (x:α) (t:List α):exL g (x :: t)=andThen (g x) (exL g t):=rfl
theorem exL_append {α β:Type} (g:α→Except Int (List β)) (l m:List α):exL g (l++m)=andThen (exL g l) (exL g m):=by
 induction l with
 | nil=>
  show exL g m=andThen (.ok []) (exL g m)
  cases exL g m <;> rfl
 | cons x t ih=>rw[List.cons_append,exL_cons,exL_cons,ih,andThen_assoc]
theorem exL_one {α β:Type} (g:α→Except Int (List β)) (x:α):exL g [x]=g x:=by
 unfold exL
 cases g x with
 | error e=>rfl
 | ok l=>simp[exL]
theorem exL_step {α β:Type} {g:α→Except Int (List β)} {l:List α} {j:Nat} {x:α} {a b:List β} (hx:l[j]? = some x) (ha:exL g (l.take j)=.ok a) (hb:g x=.ok b):exL g (l.take (j+1))=.ok (a++b):=by
 rw[take_snoc hx,exL_append,ha,exL_one,hb];rfl
theorem exL_err {α β:Type} {g:α→Except Int (List β)} {l:List α} {j:Nat} {x:α} {a:List β} {e:Int} (hx:l[j]? = some x) (ha:exL g (l.take j)=.ok a) (hb:g x=.error e):exL g l=.error e:=by
 have h:l=l.take j++(x :: l.drop (j+1)):=by
  have h1:=List.take_append_drop (j+1) l
  rw[take_snoc hx,List.append_assoc]at h1
  exact h1.symm
 rw[h,exL_append,ha,exL_cons,hb];rfl
theorem exL_mem {α β:Type} {g:α→Except Int (List β)}:∀ {l:List α} {a:List β} {y:β},exL g l=.ok a→y∈a→∃ x b,x∈l∧g x=.ok b∧y∈b
 | [],a,y,h,hy=>by
  have:a=[]:=by injection h with h;exact h.symm
  rw[this]at hy;cases hy
 | x :: t,a,y,h,hy=>by
  rw[exL_cons]at h
  cases hg:g x with
  | error e=>rw[hg]at h;cases h
  | ok b=>
   cases ht:exL g t with
   | error e=>rw[hg,ht]at h;cases h
   | ok m=>
    rw[hg,ht]at h
    have ha:a=b++m:=by injection h with h;exact h.symm
    rw[ha]at hy
    rcases List.mem_append.1 hy with hy | hy
    ·exact⟨x,b,List.mem_cons_self,hg,hy⟩
    ·obtain⟨x',b',h1,h2,h3⟩:=exL_mem ht hy
     exact⟨x',b',List.mem_cons_of_mem _ h1,h2,h3⟩
def zagI (n:Int):Int:=if n % 2=0 then n / 2 else -(n / 2) - 1
def numD (k n:Int):Nd:=
 if k=1 then ⟨1,IntKind.i64.wrap n,0,false,[],0,[]⟩ else if k=3 then ⟨1,zagI n,0,false,[],0,[]⟩ else if k=4 then ⟨3,0,0,decide (n≠0),[],0,[]⟩ else if k=9 then ⟨6,IntKind.i32.wrap n,0,false,[],0,[]⟩ else ⟨2,0,n,false,[],0,[]⟩
def takeN (k:Int) (zs:List Int):Int × Int × Int:=
 if k=7 then (if zs.length<4 then (0,4,5) else (low (zs.take 4),4,0)) else if k=8 then (if zs.length<8 then (0,8,5) else (low (zs.take 8),8,0)) else dec 0 0 zs
def unpk (k:Int):Nat→List Int→Option (List Nd)
 | _,[]=>some []
 | 0,_ :: _=>none
 | f+1,z :: zs=>if (takeN k (z :: zs)).2.2≠0 then none else (unpk k f ((z :: zs).drop (takeN k (z :: zs)).2.1.toNat)).map (numD k (takeN k (z :: zs)).1 :: ·)
def unpack (k:Int) (zs:List Int):Option (List Nd):=unpk k zs.length zs
theorem takeN_k (k:Int) (zs:List Int) (hb:∀ z∈zs,0≤z∧z≤255) (h:(takeN k zs).2.2=0):1≤(takeN k zs).2.1∧(takeN k zs).2.1≤zs.length:=by
 unfold takeN at h ⊢
 split at h
 ·rename_i hk;rw[if_pos hk]
  split at h
  ·simp at h
  ·rename_i hl;rw[if_neg hl];dsimp only;omega
 ·rename_i hk;rw[if_neg hk]
  split at h
  ·rename_i hk;rw[if_pos hk]
   split at h
   ·simp at h
   ·rename_i hl;rw[if_neg hl];dsimp only;omega
  ·rename_i hk;rw[if_neg hk]
   obtain⟨N,K,E,hd⟩:=dec_triple zs
   rw[hd]at h ⊢
   dsimp only at h ⊢
   subst h
   obtain⟨_,_,h0,h1,_⟩:=dec_ok zs 0 0 N K hb (by simp) (by omega) (by simpa using hd)
   omega
theorem unpk_more (k:Int):∀ (f g:Nat) (zs:List Int),(∀ z∈zs,0≤z∧z≤255)→zs.length≤f→zs.length≤g→unpk k f zs=unpk k g zs
 | f,g,[],hb,h1,h2=>by cases f <;> cases g <;> rfl
 | 0,g,z :: zs,hb,h1,h2=>by simp at h1
 | f+1,0,z :: zs,hb,h1,h2=>by simp at h2
 | f+1,g+1,z :: zs,hb,h1,h2=>by
  unfold unpk
  split
  ·rfl
  ·rename_i he
   have hk:=takeN_k k (z :: zs) hb (by omega)
   have hl:((z :: zs).drop (takeN k (z :: zs)).2.1.toNat).length≤zs.length:=by
    rw[List.length_drop,List.length_cons];omega
   rw[List.length_cons]at h1 h2
   rw[unpk_more k f g _ (fun y hy=>hb y (List.mem_of_mem_drop hy)) (by omega) (by omega)]
theorem unpack_nil (k:Int):unpack k []=some []:=rfl
theorem unpack_err {k:Int} {zs:List Int} (hne:zs≠[]) (h:(takeN k zs).2.2≠0):unpack k zs=none:=by
 cases zs with
 | nil=>exact absurd rfl hne
 | cons z zs=>show unpk k (zs.length+1) (z :: zs)=none;unfold unpk;rw[if_pos h]
theorem unpack_on {k:Int} {zs:List Int} (hb:∀ z∈zs,0≤z∧z≤255) (hne:zs≠[]) (h:(takeN k zs).2.2=0):unpack k zs=(unpack k (zs.drop (takeN k zs).2.1.toNat)).map (numD k (takeN k zs).1 :: ·):=by
 cases zs with
 | nil=>exact absurd rfl hne
 | cons z zs=>
  have hk:=takeN_k k (z :: zs) hb h
  show unpk k (zs.length+1) (z :: zs)=_
  unfold unpk
  rw[if_neg (by omega)]
  unfold unpack
  rw[unpk_more k zs.length _ _ (fun y hy=>hb y (List.mem_of_mem_drop hy)) (by rw[List.length_drop,List.length_cons];omega) (Nat.le_refl _)]
def wfOf (p:TF × List Int):WF:=⟨p.1.num,p.1.ty,p.1.n,p.1.data⟩
def isKn (fs:List FD) (p:TF × List Int):Bool:=knownP fs p.1.num p.1.ty
def knownL (fs:List FD) (D:List (TF × List Int)):List WF:=(D.filter (isKn fs)).map wfOf
def unknL (fs:List FD) (D:List (TF × List Int)):List Int:=(D.filter fun p=>!isKn fs p).flatMap fun p=>p.2
def ownL (fd:FD) (l:List WF):List WF:=l.filter fun x=>decide (x.num=fd.num)
def toRead (fd:FD) (l:List WF):List WF:=if fd.rep=true∨(ownL fd l).length<2 then ownL fd l else match (ownL fd l).getLast? with
 | none=>[]
 | some x=>[⟨x.num,x.ty,x.n,if fd.kind=10 then (ownL fd l).flatMap WF.d else x.d⟩]
def strD (k:Int) (zs:List Int):Nd:=⟨k,0,0,false,u8s zs,0,[]⟩
def decV (rec:Int→List Int→Except Int Nd) (fd:FD) (x:WF):Except Int (List Nd):=
 if isNum fd.kind then (if x.ty=2 then (match unpack fd.kind x.d with
   | none=>.error 2
   | some l=>.ok l) else .ok [numD fd.kind x.n])
 else if fd.kind=10 then (match rec fd.type x.d with
   | .error e=>.error e
   | .ok y=>.ok [y])
 else if fd.kind=5 then (if valB (u8s x.d) then .ok [strD 4 x.d] else .error 13) else .ok [strD 5 x.d]
def decVs (rec:Int→List Int→Except Int Nd) (fd:FD) (l:List WF):Except Int (List Nd):=exL (decV rec fd) l
def decF (rec:Int→List Int→Except Int Nd) (known:List WF) (fd:FD):Except Int (List (Int × List Nd)):=match decVs rec fd (toRead fd known)with
 | .error e=>.error e
 | .ok l=>.ok (if l.length=0 then [] else [(fd.num,l)])
def decM (ms:List MD):Nat→Int→List Int→Except Int Nd
 | 0,t,zs=>.error 8
 | f+1,t,zs=>match split zs with
  | none=>.error 2
  | some D=>match exL (decF (decM ms f) (knownL (fieldsOf ms t) D)) (fieldsOf ms t)with
   | .error e=>.error e
   | .ok fl=>.ok ⟨7,0,0,false,u8s (unknL (fieldsOf ms t) D),t,fl⟩
open Go.ChangeShapes Go.WideShapes Go.ChangeAt Go.RowKit
set_option maxHeartbeats 1000000 in
theorem zagR_any (n:Int) (w:World) (h1:0≤n) (h2:n≤18446744073709551615):Calls Tryz.prog 96 #[.int .u64 n] w fun e w'=>e=.returned (.int .i64 (zagI n))∧w'=w:=by
 have e2:IntKind.i64.wrap (n / 2)=n / 2:=by rw[IntKind.wrap_i64];omega
 rcases(by omega:n % 2=0∨n % 2=1)with h | h
 ·have e:zagI n=n / 2:=if_pos h
  rw[e]
  clear e
  have hb:(n % 2 == 1)=false:=by rw[h];decide
  clear h
  go_enter Tryz.func96,Tryz.ntmps96
  go_wp2
  go_ret
  exact⟨rfl,rfl⟩
 ·have e:zagI n=-(n / 2) - 1:=if_neg (by omega)
  rw[e]
  clear e
  have hb:(n % 2 == 1)=true:=by rw[h];decide
  clear h
  have e3:IntKind.i64.wrap (-(n / 2))=-(n / 2):=by rw[IntKind.wrap_i64];omega
  have e4:IntKind.i64.wrap (-(n / 2) - 1)=-(n / 2) - 1:=by rw[IntKind.wrap_i64];omega
  go_enter Tryz.func96,Tryz.ntmps96
  go_wp2
  go_ret
  exact⟨rfl,rfl⟩
def numC (x:Nd):Value:=.agg #[.int .i64 x.kind,.int .i64 x.n,.int .u64 x.u,.bool x.b,.string ⟨#[]⟩,.int .i64 0,.slice none 0 0]
theorem ret_agg {a b:Value} (h:a=b):Ending.returned a=.returned b:=by rw[h]
def NumK (k:Int):Prop:=k=1∨k=2∨k=3∨k=4∨k=7∨k=8∨k=9
set_option maxHeartbeats 4000000 in
theorem valueR_any (k n:Int) (w:World) (hk:NumK k) (h1:0≤n) (h2:n≤18446744073709551615) :
  Calls Tryz.prog 70 #[.int .i64 k,.int .u64 n] w fun e w'=>e=.returned (numC (numD k n))∧Below w.heap.size w w':=by
 have hko:=fun wx=>kindOf_any k wx
 have hz:=fun wx=>zagR_any n wx h1 h2
 rcases hk with rfl | rfl | rfl | rfl | rfl | rfl | rfl
 ·go_enter Tryz.func70,Tryz.ntmps70
  go_wp2_with fail
  refine(hko _).mono ?_
  rintro e w1 ⟨rfl,rfl⟩
  go_wp2_with fail
  refine bodyPost_ret (v:=.agg #[.int .i64 (kindOf 1),.int .i64 (wrap64 n),.int .u64 0,.bool false,.string ⟨#[]⟩,.int .i64 0,.slice none 0 0]) (by simp[results,Tryz.results70,go_sem]) rfl ?_
  exact⟨ret_agg (by rw[←IntWalk.i64_left];rfl),((Below.refl _ _).alloc (Nat.le_refl _) _).alloc (by simp) _⟩
 ·go_enter Tryz.func70,Tryz.ntmps70
  go_wp2_with fail
  refine(hko _).mono ?_
  rintro e w1 ⟨rfl,rfl⟩
  go_wp2_with fail
  refine bodyPost_ret (v:=.agg #[.int .i64 (kindOf 2),.int .i64 0,.int .u64 n,.bool false,.string ⟨#[]⟩,.int .i64 0,.slice none 0 0]) (by simp[results,Tryz.results70,go_sem]) rfl ?_
  exact⟨ret_agg (rfl),((Below.refl _ _).alloc (Nat.le_refl _) _).alloc (by simp) _⟩
 ·go_enter Tryz.func70,Tryz.ntmps70
  go_wp2_with fail
  refine(hko _).mono ?_
  rintro e w1 ⟨rfl,rfl⟩
  go_wp2_with fail
  refine(hz _).mono ?_
  rintro e w2 ⟨rfl,rfl⟩
  go_wp2_with fail
  refine bodyPost_ret (v:=.agg #[.int .i64 (kindOf 3),.int .i64 (zagI n),.int .u64 0,.bool false,.string ⟨#[]⟩,.int .i64 0,.slice none 0 0]) (by simp[results,Tryz.results70,go_sem]) rfl ?_
  exact⟨ret_agg (rfl),((Below.refl _ _).alloc (Nat.le_refl _) _).alloc (by simp) _⟩
 ·obtain⟨B,hB⟩:∃ B,(n != 0)=B:=⟨_,rfl⟩
  have e:numC (numD 4 n)=.agg #[.int .i64 (kindOf 4),.int .i64 0,.int .u64 0,.bool B,.string ⟨#[]⟩,.int .i64 0,.slice none 0 0]:=by
   rw[←hB]
   by_cases hn:n=0
   ·subst hn;rfl
   ·have e1:(n != 0)=true:=bne_iff_ne.2 hn
    have e2:decide (n≠0)=true:=decide_eq_true hn
    rw[e1]
    show Value.agg #[.int .i64 3,.int .i64 0,.int .u64 0,.bool (decide (n≠0)),.string ⟨#[]⟩,.int .i64 0,.slice none 0 0]=_
    rw[e2]
    rfl
  rw[e]
  clear e
  go_enter Tryz.func70,Tryz.ntmps70
  go_wp2_with fail
  refine(hko _).mono ?_
  rintro e w1 ⟨rfl,rfl⟩
  go_wp2_with fail
  refine bodyPost_ret (v:=.agg #[.int .i64 (kindOf 4),.int .i64 0,.int .u64 0,.bool B,.string ⟨#[]⟩,.int .i64 0,.slice none 0 0]) (by simp[results,Tryz.results70,go_sem]) rfl ?_
  exact⟨ret_agg (rfl),((Below.refl _ _).alloc (Nat.le_refl _) _).alloc (by simp) _⟩
 ·go_enter Tryz.func70,Tryz.ntmps70
  go_wp2_with fail
  refine(hko _).mono ?_
  rintro e w1 ⟨rfl,rfl⟩
  go_wp2_with fail
  refine bodyPost_ret (v:=.agg #[.int .i64 (kindOf 7),.int .i64 0,.int .u64 n,.bool false,.string ⟨#[]⟩,.int .i64 0,.slice none 0 0]) (by simp[results,Tryz.results70,go_sem]) rfl ?_
  exact⟨ret_agg (rfl),((Below.refl _ _).alloc (Nat.le_refl _) _).alloc (by simp) _⟩
 ·go_enter Tryz.func70,Tryz.ntmps70
  go_wp2_with fail
  refine(hko _).mono ?_
  rintro e w1 ⟨rfl,rfl⟩
  go_wp2_with fail
  refine bodyPost_ret (v:=.agg #[.int .i64 (kindOf 8),.int .i64 0,.int .u64 n,.bool false,.string ⟨#[]⟩,.int .i64 0,.slice none 0 0]) (by simp[results,Tryz.results70,go_sem]) rfl ?_
  exact⟨ret_agg (rfl),((Below.refl _ _).alloc (Nat.le_refl _) _).alloc (by simp) _⟩
 ·go_enter Tryz.func70,Tryz.ntmps70
  go_wp2_with fail
  refine(hko _).mono ?_
  rintro e w1 ⟨rfl,rfl⟩
  go_wp2_with fail
  refine bodyPost_ret (v:=.agg #[.int .i64 (kindOf 9),.int .i64 (wrap64 (wrap32 n)),.int .u64 0,.bool false,.string ⟨#[]⟩,.int .i64 0,.slice none 0 0]) (by simp[results,Tryz.results70,go_sem]) rfl ?_
  exact⟨ret_agg (by have e:wrap64 (wrap32 n)=IntKind.i32.wrap n:=(by rw[IntKind.wrap_i32];unfold wrap64 wrap32;omega);rw[e];rfl),((Below.refl _ _).alloc (Nat.le_refl _) _).alloc (by simp) _⟩
theorem cells_at:∀ (fs:List FR) (k j:Nat) (f:FR),fs[k]? = some f→j<4→(fs.flatMap FR.cells)[k*4+j]? = f.cells[j]?
 | [],k,j,f,h,_=>by simp at h
 | f0 :: fs,0,j,f,h,hj=>by
  simp at h
  subst h
  rw[List.flatMap_cons,Nat.zero_mul,Nat.zero_add,List.getElem?_append_left (by simp[FR.cells];omega)]
 | f0 :: fs,k+1,j,f,h,hj=>by
  have h':fs[k]? = some f:=by simpa using h
  rw[List.flatMap_cons,List.getElem?_append_right (by simp[FR.cells];omega)]
  rw[show (k+1)*4+j - f0.cells.length=k*4+j by simp[FR.cells];omega]
  exact cells_at fs k j f h' hj
theorem owns_slice {w:World} {base:Nat} {e:TypeId} {size:Nat} {v:Value} {n:Nat} {xs:List Value} (h:w.ownsRow base e size v n xs) :
  ∃ a c,v=.slice a n c∧n≤c∧(n=0∨∃ g,a=some ⟨g,0,none⟩∧∀ j u,j<n*size→xs[j]? = some u→w.cell? ⟨g,j,none⟩=some u):=by
 obtain⟨h1,⟨rfl,rfl⟩ | ⟨g,cap,cur,rfl,hg,hh,h3,h4,h5,h6⟩⟩:=h
 ·exact⟨none,0,rfl,Nat.le_refl _,.inl rfl⟩
 ·refine⟨_,cap,rfl,h3,.inr ⟨g,rfl,fun j u hj hu=>?_⟩⟩
  have:cur.toList[j]? = some u:=by
   have h7:(cur.toList.take (n*size))[j]? = some u:=by rw[h6];exact hu
   rw[List.getElem?_take,if_pos hj]at h7
   exact h7
  simp only[World.cell?,hh]
  simpa using this
theorem st_shapes {w:World} {B:Nat} {e:TypeId} {vF vR:Value} {fs:List FR} {rs:List Row3} (h:SplSt w B e vF vR fs rs) :
  ∃ aF cF aR cR,vF=.slice aF fs.length cF∧vR=.slice aR rs.length cR∧fs.length≤cF∧rs.length≤cR∧
   (∀ k f,fs[k]? = some f→∃ g,aF=some ⟨g,0,none⟩∧w.cell? ⟨g,k*4,none⟩=some (.int .i64 f.num)∧w.cell? ⟨g,k*4+1,none⟩=some (.int .i64 f.ty)∧w.cell? ⟨g,k*4+2,none⟩=some (.int .u64 f.n)∧w.cell? ⟨g,k*4+3,none⟩=some (.slice f.a f.len f.cap)∧IsB w f.a f.len f.d∧g<w.heap.size)∧
   (∀ k r,rs[k]? = some r→∃ g,aR=some ⟨g,0,none⟩∧w.cell? ⟨g,k,none⟩=some (.slice r.a r.len r.cap)∧IsB w r.a r.len r.zs∧g<w.heap.size):=by
 obtain⟨aF,cF,hF,hlF,hcF⟩:=owns_slice h.ownF
 obtain⟨aR,cR,hR,hlR,hcR⟩:=owns_slice h.ownR
 refine⟨aF,cF,aR,cR,hF,hR,hlF,hlR,?_,?_⟩
 ·intro k f hk
  have hlt:k<fs.length:=(List.getElem?_eq_some_iff.1 hk).1
  rcases hcF with h0 | ⟨g,rfl,hc⟩
  ·omega
  ·have c0:=hc (k*4+0) _ (by omega) ((cells_at fs k 0 f hk (by omega)).trans rfl)
   have c1:=hc (k*4+1) _ (by omega) ((cells_at fs k 1 f hk (by omega)).trans rfl)
   have c2:=hc (k*4+2) _ (by omega) ((cells_at fs k 2 f hk (by omega)).trans rfl)
   have c3:=hc (k*4+3) _ (by omega) ((cells_at fs k 3 f hk (by omega)).trans rfl)
   exact⟨g,rfl,c0,c1,c2,c3,(h.farF f (List.mem_of_getElem? hk)).isB,cell_ltB c0⟩
 ·intro k r hk
  have hlt:k<rs.length:=(List.getElem?_eq_some_iff.1 hk).1
  rcases hcR with h0 | ⟨g,rfl,hc⟩
  ·omega
  ·have c0:=hc k (.slice r.a r.len r.cap) (by omega) (by rw[List.getElem?_map,hk];rfl)
   exact⟨g,rfl,c0,(h.farR r (List.mem_of_getElem? hk)).isB,cell_ltB c0⟩

theorem spl_flat:∀ (n:Nat) (zs:List Int) (D:List (TF × List Int)),spl n zs=some D→(D.flatMap fun p=>p.2)=zs
 | n,[],D,h=>by rw[spl_nil]at h;simp at h;subst h;rfl
 | 0,z :: zs,D,h=>by simp[spl]at h
 | n+1,z :: zs,D,h=>by
  by_cases he:(tf (z :: zs)).e=0
  ·rw[spl_on n _ (by simp) he]at h
   obtain⟨D',h1,rfl⟩:=Option.map_eq_some_iff.1 h
   rw[List.flatMap_cons,spl_flat n _ D' h1]
   exact List.take_append_drop _ _
  ·rw[spl_err _ _ (by simp) he]at h;simp at h
theorem split_flat (zs:List Int) (D:List (TF × List Int)) (h:split zs=some D):(D.flatMap fun p=>p.2)=zs:=spl_flat _ zs D h
theorem fits_at {fs:List FR} {D:List (TF × List Int)} (h:FitsF fs D) (k:Nat) (hk:k<D.length):∃ f p,fs[k]? = some f∧D[k]? = some p∧f.says=p.1.says:=by
 have hl:=h.len
 refine⟨fs[k],D[k],List.getElem?_eq_getElem (by omega),List.getElem?_eq_getElem hk,?_⟩
 have:=congrArg (·[k]?) h.1
 simp only[List.getElem?_map,List.getElem?_eq_getElem hk,List.getElem?_eq_getElem (show k<fs.length by omega),Option.map_some]at this
 simpa using this
theorem fitsR_at {rs:List Row3} {D:List (TF × List Int)} (h:FitsR rs D) (k:Nat) (hk:k<D.length):∃ r p,rs[k]? = some r∧D[k]? = some p∧r.zs=p.2:=by
 have hl:=h.len
 refine⟨rs[k],D[k],List.getElem?_eq_getElem (by omega),List.getElem?_eq_getElem hk,?_⟩
 have:=congrArg (·[k]?) h.1
 simp only[List.getElem?_map,List.getElem?_eq_getElem hk,List.getElem?_eq_getElem (show k<rs.length by omega),Option.map_some]at this
 simpa using this
theorem spl_len:∀ (n:Nat) (zs:List Int) (D:List (TF × List Int)),(∀ z∈zs,0≤z∧z≤255)→spl n zs=some D→D.length≤zs.length
 | n,[],D,hb,h=>by rw[spl_nil]at h;simp at h;subst h;simp
 | 0,z :: zs,D,hb,h=>by simp[spl]at h
 | n+1,z :: zs,D,hb,h=>by
  by_cases he:(tf (z :: zs)).e=0
  ·rw[spl_on n _ (by simp) he]at h
   obtain⟨D',h1,rfl⟩:=Option.map_eq_some_iff.1 h
   have hk:=tf_k (z :: zs) hb he
   have:=spl_len n _ D' (fun z hz=>hb z (List.mem_of_mem_drop hz)) h1
   rw[List.length_drop]at this
   simp only[List.length_cons]at *
   omega
  ·rw[spl_err _ _ (by simp) he]at h;simp at h
theorem ta_hit {P:Program} (T X:TypeId) (d:TypeDesc) (v:Value) (W:World) (hu:P.underlying T=some d) (hd:∀ m,d≠.interface m):(Instr.typeAssert (.iface T v) X T true).run P W=.ok (.tuple #[v,.bool true]) W:=by
 cases d <;> first | (exact absurd rfl (hd _)) | simp[Instr.typeAssert,run_underlying hu]
theorem ta_miss {P:Program} (T U X:TypeId) (d:TypeDesc) (v z:Value) (W:World) (hu:P.underlying T=some d) (hd:∀ m,d≠.interface m) (hU:U≠T) (hz:(P.info? T).map (fun i=>i.zero)=some (some z)):(Instr.typeAssert (.iface U v) X T true).run P W=.ok (.tuple #[z,.bool false]) W:=by
 obtain⟨i,hi,hz⟩:=Option.map_eq_some_iff.1 hz
 cases d <;> first | (exact absurd rfl (hd _)) | simp[Instr.typeAssert,run_underlying hu,hU,zeroValue,typeInfo,hi,hz]
theorem ta_nil {P:Program} (T X:TypeId) (d:TypeDesc) (z:Value) (W:World) (hu:P.underlying T=some d) (hd:∀ m,d≠.interface m) (hz:(P.info? T).map (fun i=>i.zero)=some (some z)):(Instr.typeAssert .nilIface X T true).run P W=.ok (.tuple #[z,.bool false]) W:=by
 obtain⟨i,hi,hz⟩:=Option.map_eq_some_iff.1 hz
 cases d <;> first | (exact absurd rfl (hd _)) | simp[Instr.typeAssert,run_underlying hu,zeroValue,typeInfo,hi,hz]
theorem ta_any (K:Int) (T:TypeId) (d:TypeDesc) (z:Value) (inn:Nd→Value→Value) (y:Nd) (fs:Value) (hu:Tryz.prog.underlying T=some d) (hd:∀ m,d≠.interface m) (hz:(Tryz.prog.info? T).map (fun i=>i.zero)=some (some z))
  (hit:∀ y fs,y.kind=K→ival y fs=.iface T (inn y fs)) (miss:∀ y fs,y.kind≠K→(∃ U v,ival y fs=.iface U v∧U≠T)∨ival y fs=.nilIface) (W:World) :
  (Instr.typeAssert (ival y fs) 31 T true).run Tryz.prog W=.ok (.tuple #[if y.kind=K then inn y fs else z,.bool (decide (y.kind=K))]) W:=by
 by_cases h:y.kind=K
 ·rw[if_pos h,decide_eq_true h,hit y fs h];exact ta_hit T _ d _ W hu hd
 ·rw[if_neg h,decide_eq_false h]
  rcases miss y fs h with ⟨U,v,e,hU⟩ | e
  ·rw[e];exact ta_miss T U _ d _ z W hu hd hU hz
  ·rw[e];exact ta_nil T _ d z W hu hd hz
theorem ival_cases (y:Nd) (fs:Value):(y.kind=1∧ival y fs=.iface 68 (.int .i64 y.n))∨(y.kind=2∧ival y fs=.iface 69 (.int .u64 y.u))∨(y.kind=3∧ival y fs=.iface 70 (.bool y.b))∨(y.kind=4∧ival y fs=.iface 71 (.string (mkB y.s)))∨
  (y.kind=5∧ival y fs=.iface 72 (.string (mkB y.s)))∨(y.kind=6∧ival y fs=.iface 73 (.int .i32 (IntKind.i32.wrap y.n)))∨(y.kind=7∧ival y fs=.iface 76 (.agg #[.int .i64 y.type,fs,.string (mkB y.s)]))∨((y.kind<1∨7<y.kind)∧ival y fs=.nilIface):=by
 unfold ival
 by_cases h1:y.kind=1
 ·left;rw[if_pos h1];exact⟨h1,rfl⟩
 by_cases h2:y.kind=2
 ·right;left;rw[if_neg h1,if_pos h2];exact⟨h2,rfl⟩
 by_cases h3:y.kind=3
 ·right;right;left;rw[if_neg h1,if_neg h2,if_pos h3];exact⟨h3,rfl⟩
 by_cases h4:y.kind=4
 ·right;right;right;left;rw[if_neg h1,if_neg h2,if_neg h3,if_pos h4];exact⟨h4,rfl⟩
 by_cases h5:y.kind=5
 ·right;right;right;right;left;rw[if_neg h1,if_neg h2,if_neg h3,if_neg h4,if_pos h5];exact⟨h5,rfl⟩
 by_cases h6:y.kind=6
 ·right;right;right;right;right;left;rw[if_neg h1,if_neg h2,if_neg h3,if_neg h4,if_neg h5,if_pos h6];exact⟨h6,rfl⟩
 by_cases h7:y.kind=7
 ·right;right;right;right;right;right;left;rw[if_neg h1,if_neg h2,if_neg h3,if_neg h4,if_neg h5,if_neg h6,if_pos h7];exact⟨h7,rfl⟩
 ·right;right;right;right;right;right;right;rw[if_neg h1,if_neg h2,if_neg h3,if_neg h4,if_neg h5,if_neg h6,if_neg h7];exact⟨by omega,rfl⟩
theorem taInt (y:Nd) (fs:Value) (W:World):(Instr.typeAssert (ival y fs) 31 68 true).run Tryz.prog W=.ok (.tuple #[if y.kind=1 then .int .i64 y.n else .int .i64 0,.bool (decide (y.kind=1))]) W:=
 ta_any 1 68 (.int .i64) (.int .i64 0) (fun y _=>.int .i64 y.n) y fs (by kernel_rfl) (fun m h=>by cases h) (by kernel_rfl)
  (fun y fs h=>by rcases ival_cases y fs with ⟨k,e⟩ | ⟨k,e⟩ | ⟨k,e⟩ | ⟨k,e⟩ | ⟨k,e⟩ | ⟨k,e⟩ | ⟨k,e⟩ | ⟨k,e⟩ <;> first | exact e | omega)
  (fun y fs h=>by rcases ival_cases y fs with ⟨k,e⟩ | ⟨k,e⟩ | ⟨k,e⟩ | ⟨k,e⟩ | ⟨k,e⟩ | ⟨k,e⟩ | ⟨k,e⟩ | ⟨k,e⟩ <;> first | exact absurd k h | exact .inl ⟨_,_,e,by decide⟩ | exact .inr e) W
theorem taUint (y:Nd) (fs:Value) (W:World):(Instr.typeAssert (ival y fs) 31 69 true).run Tryz.prog W=.ok (.tuple #[if y.kind=2 then .int .u64 y.u else .int .u64 0,.bool (decide (y.kind=2))]) W:=
 ta_any 2 69 (.int .u64) (.int .u64 0) (fun y _=>.int .u64 y.u) y fs (by kernel_rfl) (fun m h=>by cases h) (by kernel_rfl)
  (fun y fs h=>by rcases ival_cases y fs with ⟨k,e⟩ | ⟨k,e⟩ | ⟨k,e⟩ | ⟨k,e⟩ | ⟨k,e⟩ | ⟨k,e⟩ | ⟨k,e⟩ | ⟨k,e⟩ <;> first | exact e | omega)
  (fun y fs h=>by rcases ival_cases y fs with ⟨k,e⟩ | ⟨k,e⟩ | ⟨k,e⟩ | ⟨k,e⟩ | ⟨k,e⟩ | ⟨k,e⟩ | ⟨k,e⟩ | ⟨k,e⟩ <;> first | exact absurd k h | exact .inl ⟨_,_,e,by decide⟩ | exact .inr e) W
theorem taBool (y:Nd) (fs:Value) (W:World):(Instr.typeAssert (ival y fs) 31 70 true).run Tryz.prog W=.ok (.tuple #[if y.kind=3 then .bool y.b else .bool false,.bool (decide (y.kind=3))]) W:=
 ta_any 3 70 (.bool) (.bool false) (fun y _=>.bool y.b) y fs (by kernel_rfl) (fun m h=>by cases h) (by kernel_rfl)
  (fun y fs h=>by rcases ival_cases y fs with ⟨k,e⟩ | ⟨k,e⟩ | ⟨k,e⟩ | ⟨k,e⟩ | ⟨k,e⟩ | ⟨k,e⟩ | ⟨k,e⟩ | ⟨k,e⟩ <;> first | exact e | omega)
  (fun y fs h=>by rcases ival_cases y fs with ⟨k,e⟩ | ⟨k,e⟩ | ⟨k,e⟩ | ⟨k,e⟩ | ⟨k,e⟩ | ⟨k,e⟩ | ⟨k,e⟩ | ⟨k,e⟩ <;> first | exact absurd k h | exact .inl ⟨_,_,e,by decide⟩ | exact .inr e) W
theorem taText (y:Nd) (fs:Value) (W:World):(Instr.typeAssert (ival y fs) 31 71 true).run Tryz.prog W=.ok (.tuple #[if y.kind=4 then .string (mkB y.s) else .string ⟨#[]⟩,.bool (decide (y.kind=4))]) W:=
 ta_any 4 71 (.string) (.string ⟨#[]⟩) (fun y _=>.string (mkB y.s)) y fs (by kernel_rfl) (fun m h=>by cases h) (by kernel_rfl)
  (fun y fs h=>by rcases ival_cases y fs with ⟨k,e⟩ | ⟨k,e⟩ | ⟨k,e⟩ | ⟨k,e⟩ | ⟨k,e⟩ | ⟨k,e⟩ | ⟨k,e⟩ | ⟨k,e⟩ <;> first | exact e | omega)
  (fun y fs h=>by rcases ival_cases y fs with ⟨k,e⟩ | ⟨k,e⟩ | ⟨k,e⟩ | ⟨k,e⟩ | ⟨k,e⟩ | ⟨k,e⟩ | ⟨k,e⟩ | ⟨k,e⟩ <;> first | exact absurd k h | exact .inl ⟨_,_,e,by decide⟩ | exact .inr e) W
theorem taBytes (y:Nd) (fs:Value) (W:World):(Instr.typeAssert (ival y fs) 31 72 true).run Tryz.prog W=.ok (.tuple #[if y.kind=5 then .string (mkB y.s) else .string ⟨#[]⟩,.bool (decide (y.kind=5))]) W:=
 ta_any 5 72 (.string) (.string ⟨#[]⟩) (fun y _=>.string (mkB y.s)) y fs (by kernel_rfl) (fun m h=>by cases h) (by kernel_rfl)
  (fun y fs h=>by rcases ival_cases y fs with ⟨k,e⟩ | ⟨k,e⟩ | ⟨k,e⟩ | ⟨k,e⟩ | ⟨k,e⟩ | ⟨k,e⟩ | ⟨k,e⟩ | ⟨k,e⟩ <;> first | exact e | omega)
  (fun y fs h=>by rcases ival_cases y fs with ⟨k,e⟩ | ⟨k,e⟩ | ⟨k,e⟩ | ⟨k,e⟩ | ⟨k,e⟩ | ⟨k,e⟩ | ⟨k,e⟩ | ⟨k,e⟩ <;> first | exact absurd k h | exact .inl ⟨_,_,e,by decide⟩ | exact .inr e) W
theorem taEnum (y:Nd) (fs:Value) (W:World):(Instr.typeAssert (ival y fs) 31 73 true).run Tryz.prog W=.ok (.tuple #[if y.kind=6 then .int .i32 (IntKind.i32.wrap y.n) else .int .i32 0,.bool (decide (y.kind=6))]) W:=
 ta_any 6 73 (.int .i32) (.int .i32 0) (fun y _=>.int .i32 (IntKind.i32.wrap y.n)) y fs (by kernel_rfl) (fun m h=>by cases h) (by kernel_rfl)
  (fun y fs h=>by rcases ival_cases y fs with ⟨k,e⟩ | ⟨k,e⟩ | ⟨k,e⟩ | ⟨k,e⟩ | ⟨k,e⟩ | ⟨k,e⟩ | ⟨k,e⟩ | ⟨k,e⟩ <;> first | exact e | omega)
  (fun y fs h=>by rcases ival_cases y fs with ⟨k,e⟩ | ⟨k,e⟩ | ⟨k,e⟩ | ⟨k,e⟩ | ⟨k,e⟩ | ⟨k,e⟩ | ⟨k,e⟩ | ⟨k,e⟩ <;> first | exact absurd k h | exact .inl ⟨_,_,e,by decide⟩ | exact .inr e) W
theorem taMessage (y:Nd) (fs:Value) (W:World):(Instr.typeAssert (ival y fs) 31 76 true).run Tryz.prog W=.ok (.tuple #[if y.kind=7 then .agg #[.int .i64 y.type,fs,.string (mkB y.s)] else .agg #[.int .i64 0,.slice none 0 0,.string ⟨#[]⟩],.bool (decide (y.kind=7))]) W:=
 ta_any 7 76 _ (.agg #[.int .i64 0,.slice none 0 0,.string ⟨#[]⟩]) (fun y fs=>.agg #[.int .i64 y.type,fs,.string (mkB y.s)]) y fs Tryz.underlying76 (fun m h=>by cases h) (by kernel_rfl)
  (fun y fs h=>by rcases ival_cases y fs with ⟨k,e⟩ | ⟨k,e⟩ | ⟨k,e⟩ | ⟨k,e⟩ | ⟨k,e⟩ | ⟨k,e⟩ | ⟨k,e⟩ | ⟨k,e⟩ <;> first | exact e | omega)
  (fun y fs h=>by rcases ival_cases y fs with ⟨k,e⟩ | ⟨k,e⟩ | ⟨k,e⟩ | ⟨k,e⟩ | ⟨k,e⟩ | ⟨k,e⟩ | ⟨k,e⟩ | ⟨k,e⟩ <;> first | exact absurd k h | exact .inl ⟨_,_,e,by decide⟩ | exact .inr e) W
set_option maxHeartbeats 1000000 in
theorem formedW_any (num ty n:Int) (a:Option Addr) (len cap:Nat) (w:World) :
  Calls Tryz.prog 114 #[fv num ty n a len cap] w fun e w'=>e=.returned (.bool (fmd num ty n len))∧Below w.heap.size w w':=by
 unfold fv
 go_enter Tryz.func114,Tryz.ntmps114
 go_wp2
 all_goals
  go_ret
  refine⟨ret_bool ?_,(Below.refl _ _).alloc (Nat.le_refl _) _⟩
  try simp only[beq_iff_eq,beq_eq_false_iff_ne,ne_eq]at *
  unfold fmd
  rw[Bool.eq_iff_iff]
  simp
  omega
open Go.Shelf
def lays129_ren:Go.Shelf.Ren:=⟨fun | 129=>139 | n=>n,fun | 53=>35 | 3=>3 | 4=>4 | 46=>44 | 5=>5 | 9=>9 | n=>n,fun | n=>n⟩
theorem lays129:Go.Proofs.Lays.n129 Tryz.prog lays129_ren:={
 mixed:=by kernel_rfl
 f129:=Tryz.func139.trans (congrArg some (by kernel_rfl))
 t3:=Tryz.underlying3
 a3:=Tryz.isAgg3
 z3:=Tryz.sizeOf3
 v3:=Tryz.zeroValue3
 t4:=Tryz.underlying4
 a4:=Tryz.isAgg4
 z4:=Tryz.sizeOf4
 v4:=Tryz.zeroValue4
 t5:=Tryz.underlying5
 a5:=Tryz.isAgg5
 z5:=Tryz.sizeOf5
 v5:=Tryz.zeroValue5
 t9:=Tryz.underlying9
 a9:=Tryz.isAgg9
 z9:=Tryz.sizeOf9
 v9:=Tryz.zeroValue9
 t46:=Tryz.underlying44
 a46:=Tryz.isAgg44
 z46:=Tryz.sizeOf44
 v46:=Tryz.zeroValue44
 t53:=Tryz.underlying35
 a53:=Tryz.isAgg35
 z53:=Tryz.sizeOf35
 v53:=Tryz.zeroValue35 }
theorem bits_Len64 (x:Int) (w:World) (h0:0≤x) (h1:x≤18446744073709551615) :
  Calls Tryz.prog 139 #[.int .u64 x] w fun e w'=>e=.returned (.int .i64 (Lib.bitLen x.toNat))∧w'=w:=Any.bits_Len64 lays129 x w h0 h1
def laysSlK4_ren:Go.Shelf.Ren:=⟨fun | 4=>79 | n=>n,fun | 22=>27 | 4=>4 | 5=>5 | n=>n,fun | n=>n⟩
theorem laysSlK4:Go.Proofs.SlLaysK.n4 Tryz.prog laysSlK4_ren:={
 mixed:=by kernel_rfl
 f4:=Tryz.func79.trans (congrArg some (by kernel_rfl))
 t4:=Tryz.underlying4
 a4:=Tryz.isAgg4
 z4:=Tryz.sizeOf4
 v4:=Tryz.zeroValue4
 t22:=Tryz.underlying27
 a22:=Tryz.isAgg27
 z22:=Tryz.sizeOf27
 v22:=Tryz.zeroValue27
 t5:=Tryz.underlying5
 i5:=by kernel_rfl }
open Go.RowKit Go.Lib in
theorem bytes_Clone_at (a:Addr) (n c:Nat) (xs:List Int) (w:World) (hx:xs.length=n) (hbig:n≤140737488355328) (hc:∀ i,i<n→w.cell? (a.add i)=some (.int .u8 (xs.getD i 0))) :
  Calls Tryz.prog 79 #[.slice (some a) n c] w fun e w'=>∃ v',e=.returned v'∧w'.ownsRow w.heap.size 5 1 v' n (xs.map (Value.int .u8))∧v'≠.slice none 0 0∧Below w.heap.size w w':=Any.bytes_Clone_at laysSlK4 a n c xs w hx hbig hc
end Go.Proofs.YteajlfgbmefncaaGreatDoor
