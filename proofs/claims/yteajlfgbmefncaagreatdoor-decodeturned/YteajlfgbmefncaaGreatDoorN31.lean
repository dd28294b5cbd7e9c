/-
  Walks and plain words (DcF DcG).
-/
import Derived.Test.YteajlfgbmefncaaGreatDoorN8
import Derived.Test.YteajlfgbmefncaaGreatDoorN30
import Derived.Test.YteajlfgbmefncaaGreatDoorN16
import Derived.Test.YteajlfgbmefncaaGreatDoorN22
namespace Go.Proofs.YteajlfgbmefncaaGreatDoor
set_option linter.unusedVariables false

theorem dec_pre:∀ (zs:List Int) (X:Int) (k:Nat) (N K:Int),dec X k zs=(N,K,0)→∃ q:Nat,K=(k:Int)+(q:Int)∧q≤zs.length∧∀ t,dec X k (zs.take q++t)=(N,K,0)
 | [],X,k,N,K,h=>by rw[dec_nil]at h;simp at h
 | z :: zs,X,k,N,K,h=>by
  by_cases hf:k=9∧1<z
  ·rw[dec_form _ _ _ _ hf.1 hf.2]at h;simp at h
  ·by_cases h1:z<128
   ·rw[dec_end _ _ _ _ hf h1]at h
    refine⟨1,?_,by simp,fun t=>?_⟩
    ·have:=congrArg (fun p=>p.2.1) h;simp only at this;omega
    ·show dec X k (z :: t)=_
     rw[dec_end _ _ _ _ hf h1];exact h
   ·rw[dec_on _ _ _ _ hf (by omega)]at h
    obtain⟨q,e1,e2,e3⟩:=dec_pre zs _ (k+1) N K h
    refine⟨q+1,by omega,by simp;omega,fun t=>?_⟩
    show dec X k (z :: (zs.take q++t))=_
    rw[dec_on _ _ _ _ hf (by omega)];exact e3 t
theorem take_more {α:Type} (l:List α) (q m:Nat):l.take (q+m)=l.take q++(l.drop q).take m:=by
 rw[List.take_add]
theorem drop_front {α:Type} (l t:List α) (q:Nat) (h:q≤l.length):(l.take q++t).drop q=t:=by
 have h1:(l.take q).length=q:=by rw[List.length_take];omega
 rw[List.drop_append,h1,List.drop_eq_nil_of_le (by omega),Nat.sub_self,List.nil_append,List.drop_zero]
theorem take_front {α:Type} (l t:List α) (q:Nat) (h:q≤l.length):(l.take q++t).take q=l.take q:=by
 have h1:(l.take q).length=q:=by rw[List.length_take];omega
 rw[List.take_append,h1,Nat.sub_self,List.take_zero,List.append_nil,List.take_of_length_le (by omega)]
def IsBs (zs:List Int):Prop:=∀ z∈zs,0≤z∧z≤255
theorem tfBody_pre {key k0:Int} {rest:List Int} (hb:IsBs rest) (h:(tfBody key k0 rest).e=0):∃ m:Nat,(tfBody key k0 rest).k=k0+(m:Int)∧m≤rest.length∧(∀ t,tfBody key k0 (rest.take m++t)=tfBody key k0 rest)∧
  (0≤(tfBody key k0 rest).n∧(tfBody key k0 rest).n≤18446744073709551615)∧((tfBody key k0 rest).ty=5→(tfBody key k0 rest).n<4294967296)∧IsBs (tfBody key k0 rest).data∧(tfBody key k0 rest).data.length≤rest.length:=by
 obtain⟨X,Q,F,hq⟩:=dec_triple rest
 by_cases hbad:key / 8<1∨536870911<key / 8∨¬(key % 8=0∨key % 8=1∨key % 8=2∨key % 8=5)
 ·unfold tfBody at h;rw[if_pos hbad]at h;simp[tfErr]at h
 have hnil:IsBs []:=fun z hz=>by cases hz
 by_cases h0:key % 8=0
 ·by_cases hF:F=0
  ·subst hF
   obtain⟨q,e1,e2,e3⟩:=dec_pre rest 0 0 X Q hq
   have hok:=dec_ok rest 0 0 X Q hb (by simp) (by omega) (by simpa using hq)
   have e:∀ l,dec 0 0 l=(X,Q,0)→tfBody key k0 l=⟨key / 8,0,X,[],k0+Q,0⟩:=fun l hl=>by
    unfold tfBody;rw[if_neg hbad,if_pos h0,hl];simp
   rw[e rest hq]
   exact⟨q,by simp only;omega,e2,fun t=>e _ (e3 t),⟨by simp only;omega,by simp only;omega⟩,fun h=>by simp at h,hnil,Nat.zero_le _⟩
  ·unfold tfBody at h;rw[if_neg hbad,if_pos h0,hq]at h;simp[hF,tfErr]at h
 ·by_cases h2:key % 8=2
  ·by_cases hF:F=0
   ·subst hF
    obtain⟨q,e1,e2,e3⟩:=dec_pre rest 0 0 X Q hq
    have hok:=dec_ok rest 0 0 X Q hb (by simp) (by omega) (by simpa using hq)
    by_cases hl:(rest.length:Int) - Q<X
    ·unfold tfBody at h;rw[if_neg hbad,if_neg h0,if_pos h2,hq]at h;simp[hl,tfErr]at h
    have hQ:Q.toNat=q:=by omega
    have e:∀ l,dec 0 0 l=(X,Q,0)→¬((l.length:Int) - Q<X)→tfBody key k0 l=⟨key / 8,2,0,(l.drop q).take X.toNat,k0+Q+X,0⟩:=fun l hl h5=>by
     unfold tfBody;rw[if_neg hbad,if_neg h0,if_pos h2,hl];simp only[ne_eq,not_true_eq_false,if_false,if_neg h5,hQ]
    rw[e rest hq hl]
    refine⟨q+X.toNat,by simp only;omega,by omega,fun t=>?_,⟨by simp only;omega,by simp only;omega⟩,fun h=>by simp at h,?_,?_⟩
    ·rw[take_more,List.append_assoc,e _ (e3 _) ?_]
     ·rw[drop_front _ _ _ e2,take_front _ _ _ (by rw[List.length_drop];omega)]
     ·rw[List.length_append,List.length_append,List.length_take,List.length_take,List.length_drop];omega
    ·intro z hz;exact hb z (List.mem_of_mem_drop (List.mem_of_mem_take hz))
    ·simp only;rw[List.length_take,List.length_drop];omega
   ·unfold tfBody at h;rw[if_neg hbad,if_neg h0,if_pos h2,hq]at h;simp[hF,tfErr]at h
  ·by_cases h5:key % 8=5
   ·by_cases hl:rest.length<4
    ·unfold tfBody at h;rw[if_neg hbad,if_neg h0,if_neg h2,if_pos h5,if_pos hl]at h;simp[tfErr]at h
    have e:∀ l:List Int,¬l.length<4→tfBody key k0 l=⟨key / 8,5,low (l.take 4),[],k0+4,0⟩:=fun l hl=>by
     unfold tfBody;rw[if_neg hbad,if_neg h0,if_neg h2,if_pos h5,if_neg hl]
    have hbd:=low_bd (rest.take 4) fun z hz=>hb z (List.mem_of_mem_take hz)
    rw[List.length_take,Nat.min_eq_left (by omega)]at hbd
    rw[e rest hl]
    refine⟨4,rfl,by omega,fun t=>?_,⟨hbd.1,by have:=hbd.2;simp only at this ⊢;omega⟩,fun _=>by have:=hbd.2;simp only at this ⊢;omega,hnil,Nat.zero_le _⟩
    rw[e _ (by rw[List.length_append,List.length_take];omega),take_front _ _ _ (by omega)]
   ·by_cases hl:rest.length<8
    ·unfold tfBody at h;rw[if_neg hbad,if_neg h0,if_neg h2,if_neg h5,if_pos hl]at h;simp[tfErr]at h
    have e:∀ l:List Int,¬l.length<8→tfBody key k0 l=⟨key / 8,1,low (l.take 8),[],k0+8,0⟩:=fun l hl=>by
     unfold tfBody;rw[if_neg hbad,if_neg h0,if_neg h2,if_neg h5,if_neg hl]
    have hbd:=low_bd (rest.take 8) fun z hz=>hb z (List.mem_of_mem_take hz)
    rw[List.length_take,Nat.min_eq_left (by omega)]at hbd
    rw[e rest hl]
    refine⟨8,rfl,by omega,fun t=>?_,⟨hbd.1,by have:=hbd.2;simp only at this ⊢;omega⟩,fun h=>by simp at h,hnil,Nat.zero_le _⟩
    rw[e _ (by rw[List.length_append,List.length_take];omega),take_front _ _ _ (by omega)]
structure PieceOK (p:TF × List Int):Prop where
 e:p.1.e=0
 ne:p.2≠[]
 k:p.1.k.toNat=p.2.length
 bs:IsBs p.2
 pre:∀ t,tf (p.2++t)=p.1
 n:0≤p.1.n∧p.1.n≤18446744073709551615
 n5:p.1.ty=5→p.1.n<4294967296
 db:IsBs p.1.data
 dl:p.1.data.length+1≤p.2.length
theorem tf_piece {zs:List Int} (hb:IsBs zs) (hne:zs≠[]) (h:(tf zs).e=0):PieceOK (tf zs,zs.take (tf zs).k.toNat):=by
 have hk:=tf_k zs hb h
 obtain⟨N,K,E,hd⟩:=dec_triple zs
 by_cases hE:E=0
 ·subst hE
  obtain⟨q,e1,e2,e3⟩:=dec_pre zs 0 0 N K hd
  have hK:K.toNat=q:=by omega
  have e:∀ l,dec 0 0 l=(N,K,0)→tf l=tfBody N K (l.drop q):=fun l hl=>by
   unfold tf;rw[hl];simp only[ne_eq,not_true_eq_false,if_false,hK]
  have hq1:1≤q:=by
   have h0:=dec_ok zs 0 0 N K hb (by simp) (by omega) (by simpa using hd)
   omega
  have hr:IsBs (zs.drop q):=fun z hz=>hb z (List.mem_of_mem_drop hz)
  have h':=h
  rw[e zs hd]at h'
  obtain⟨m,f1,f2,f3,f4,f5,f6,f7⟩:=tfBody_pre hr h'
  have hkm:(tf zs).k.toNat=q+m:=by rw[e zs hd,f1];omega
  have hdl:(zs.drop q).length=zs.length - q:=List.length_drop
  have hpl:(zs.take (tf zs).k.toNat).length=(tf zs).k.toNat:=by rw[List.length_take];omega
  refine⟨h,?_,hpl.symm,fun z hz=>hb z (List.mem_of_mem_take hz),fun t=>?_,?_,?_,?_,?_⟩
  ·intro e;have:=congrArg List.length e;rw[hpl,List.length_nil]at this;omega
  ·dsimp only
   rw[hkm,take_more,List.append_assoc,e _ (e3 _),drop_front _ _ _ e2,f3,←e zs hd]
  ·dsimp only;rw[e zs hd];exact f4
  ·dsimp only;rw[e zs hd];exact f5
  ·dsimp only;rw[e zs hd];exact f6
  ·dsimp only
   rw[hpl,hkm,e zs hd]
   have:(tfBody N K (zs.drop q)).data.length≤m:=by
    have h8:=f3 []
    rw[←h8]
    have h9:IsBs ((zs.drop q).take m++[]):=fun z hz=>hr z (List.mem_of_mem_take (by simpa using hz))
    obtain⟨_,_,_,_,_,_,_,h10⟩:=tfBody_pre (key:=N) (k0:=K) h9 (by rw[h8];exact h')
    rw[List.append_nil]at h10 ⊢
    have:((zs.drop q).take m).length≤m:=by rw[List.length_take];omega
    omega
   omega
 ·unfold tf at h;rw[hd]at h;simp[hE,tfErr]at h
theorem split_ok:∀ (n:Nat) {zs:List Int} {D:List (TF × List Int)},zs.length≤n→IsBs zs→split zs=some D→∀ p∈D,PieceOK p
 | n,[],D,hn,hb,h,p,hp=>by
  rw[split_nil]at h
  have:D=[]:=by injection h with h;exact h.symm
  rw[this]at hp;cases hp
 | 0,z :: zs,D,hn,hb,h,p,hp=>by simp at hn
 | n+1,z :: zs,D,hn,hb,h,p,hp=>by
  by_cases he:(tf (z :: zs)).e=0
  ·rw[split_on _ hb (by simp) he]at h
   obtain⟨D',h1,rfl⟩:=Option.map_eq_some_iff.1 h
   have hk:=tf_k (z :: zs) hb he
   rcases List.mem_cons.1 hp with rfl | hp
   ·exact tf_piece hb (by simp) he
   ·refine split_ok n ?_ (fun y hy=>hb y (List.mem_of_mem_drop hy)) h1 p hp
    rw[List.length_drop];simp only[List.length_cons]at hn hk ⊢;omega
  ·rw[split_err _ (by simp) he]at h;cases h
theorem split_join:∀ (D:List (TF × List Int)),(∀ p∈D,PieceOK p)→split (D.flatMap fun p=>p.2)=some D
 | [],h=>rfl
 | p :: t,h=>by
  have hp:=h p List.mem_cons_self
  have hb:IsBs (p.2++t.flatMap fun p=>p.2):=fun z hz=>by
   rcases List.mem_append.1 hz with hz | hz
   ·exact hp.bs z hz
   ·obtain⟨q,hq,hz⟩:=List.mem_flatMap.1 hz
    exact(h q (List.mem_cons_of_mem _ hq)).bs z hz
  rw[List.flatMap_cons,split_on _ hb (by intro e;exact hp.ne (List.append_eq_nil_iff.1 e).1) (by rw[hp.pre];exact hp.e),hp.pre,hp.k,List.drop_left,List.take_left,split_join t fun q hq=>h q (List.mem_cons_of_mem _ hq)]
  rfl
theorem flat_bs {D:List (TF × List Int)} (h:∀ p∈D,PieceOK p):IsBs (D.flatMap fun p=>p.2):=fun z hz=>by
 obtain⟨q,hq,hz⟩:=List.mem_flatMap.1 hz
 exact(h q hq).bs z hz
theorem unkn_none {fs:List FD} {D:List (TF × List Int)} (h:∀ p∈D,PieceOK p):noneOf (knownP fs) (u8s (unknL fs D))=true:=by
 have h1:∀ p∈D.filter fun p=>!isKn fs p,PieceOK p:=fun p hp=>h p (List.mem_filter.1 hp).1
 unfold noneOf unknL
 rw[ints_u8s (flat_bs h1),split_join _ h1]
 simp only
 rw[allA_iff]
 intro i p hp
 have:=(List.mem_filter.1 (List.mem_of_getElem? hp)).2
 exact this
def RiseD (fs:List FD):Prop:=∀ (i j:Nat) (a b:FD),i<j→fs[i]? = some a→fs[j]? = some b→a.num<b.num
theorem riseD_of {ne nm:Nat} {fs:List FD} (h:formF ne nm fs=true):RiseD fs:=by
 unfold formF at h
 rw[allA_iff]at h
 have hs:∀ (j i:Nat) (a b:FD),i<j→fs[i]? = some a→fs[j]? = some b→a.num<b.num:=by
  intro j
  induction j with
  | zero=>intro i a b hi;omega
  | succ j ih=>
   intro i a b hi ha hb
   have h1:=h (j+1) b hb
   unfold goodF at h1
   rw[Bool.and_eq_true]at h1
   have h2:=of_decide_eq_true h1.1
   have hj:j<fs.length:=by have:=(List.getElem?_eq_some_iff.1 hb).1;omega
   obtain⟨c,hc⟩:∃ c,fs[j]? = some c:=⟨_,List.getElem?_eq_getElem hj⟩
   rw[prevN_step hc]at h2
   rcases Nat.lt_or_ge i j with hl | hl
   ·have:=ih i a c hl ha hc;omega
   ·have:i=j:=by omega
    subst this
    have:a=c:=Option.some.inj (ha.symm.trans hc)
    rw[this];exact h2
 exact fun i j a b=>hs j i a b
theorem firstF_rise:∀ {fs:List FD},RiseD fs→∀ {fd:FD},fd∈fs→firstF fs fd.num=some fd
 | x :: t,hr,fd,hm=>by
  rcases List.mem_cons.1 hm with rfl | hm
  ·rw[firstF,if_pos rfl]
  ·obtain⟨j,hj⟩:=List.getElem?_of_mem hm
   have:=hr 0 (j+1) x fd (by omega) rfl (by simpa using hj)
   rw[firstF,if_neg (by omega)]
   exact firstF_rise (fun i j a b hij ha hb=>hr (i+1) (j+1) a b (by omega) (by simpa using ha) (by simpa using hb)) hm
theorem known_type {fs:List FD} (hr:RiseD fs) {fd:FD} (hm:fd∈fs) {ty:Int} (h:knownP fs fd.num ty=true):typeFits fd ty=true:=by
 unfold knownP at h
 have h1:allB (atB fs fun _ f=>!knownB fd.num ty f) fs.length=false:=by simpa using h
 have h2:¬allA fs (fun _ f=>!knownB fd.num ty f)=true:=by unfold allA;rw[h1];simp
 rw[allA_iff]at h2
 have h3:∃ (i:Nat) (f:FD),fs[i]? = some f∧knownB fd.num ty f=true:=by
  refine Classical.byContradiction fun hn=>h2 fun i f hf=>?_
  cases hk:knownB fd.num ty f with
  | true=>exact absurd ⟨i,f,hf,hk⟩ hn
  | false=>rfl
 obtain⟨i,f,hf,hk⟩:=h3
 unfold knownB at hk
 rw[Bool.and_eq_true]at hk
 have he:f.num=fd.num:=of_decide_eq_true hk.1
 have e1:=firstF_rise hr (List.mem_of_getElem? hf)
 have e2:=firstF_rise hr hm
 rw[he]at e1
 have:f=fd:=Option.some.inj (e1.symm.trans e2)
 rw[←this];exact hk.2
structure ReadOK (fd:FD) (x:WF):Prop where
 ty:typeFits fd x.ty=true
 n:0≤x.n∧x.n≤18446744073709551615
 n5:x.ty=5→x.n<4294967296
 db:IsBs x.d
theorem own_ok {fs:List FD} (hr:RiseD fs) {fd:FD} (hm:fd∈fs) {D:List (TF × List Int)} (h:∀ p∈D,PieceOK p):∀ x∈ownL fd (knownL fs D),ReadOK fd x:=by
 intro x hx
 unfold ownL knownL at hx
 obtain⟨h1,h2⟩:=List.mem_filter.1 hx
 obtain⟨p,hp,rfl⟩:=List.mem_map.1 h1
 obtain⟨h3,h4⟩:=List.mem_filter.1 hp
 have h5:p.1.num=fd.num:=of_decide_eq_true h2
 unfold isKn at h4
 rw[h5]at h4
 have hP:=h p h3
 exact⟨known_type hr hm h4,hP.n,hP.n5,hP.db⟩
theorem read_ok {fs:List FD} (hr:RiseD fs) {fd:FD} (hm:fd∈fs) {D:List (TF × List Int)} (h:∀ p∈D,PieceOK p):∀ x∈toRead fd (knownL fs D),ReadOK fd x:=by
 intro x hx
 have ho:=own_ok hr hm h
 unfold toRead at hx
 split at hx
 ·exact ho x hx
 ·split at hx
  ·cases hx
  ·rename_i y hy
   have hx:x=_:=List.mem_singleton.1 hx
   have hO:=ho y (List.mem_of_getLast? hy)
   subst hx
   refine⟨hO.ty,hO.n,hO.n5,?_⟩
   dsimp only
   split
   ·intro z hz
    obtain⟨q,hq,hz⟩:=List.mem_flatMap.1 hz
    exact(ho q hq).db z hz
   ·exact hO.db
theorem read_one {fd:FD} (h:fd.rep=false) (l:List WF):(toRead fd l).length≤1:=by
 unfold toRead
 split
 ·rename_i h1
  rcases h1 with h1 | h1
  ·rw[h]at h1;cases h1
  ·omega
 ·split <;> simp
theorem takeN_bd {k:Int} {zs:List Int} (hb:IsBs zs) (h:(takeN k zs).2.2=0):(0≤(takeN k zs).1∧(takeN k zs).1≤18446744073709551615)∧(k=7→(takeN k zs).1<4294967296):=by
 unfold takeN at h ⊢
 split at h
 ·rename_i hk;rw[if_pos hk]
  split at h
  ·simp at h
  ·rename_i hl;rw[if_neg hl]
   have hbd:=low_bd (zs.take 4) fun z hz=>hb z (List.mem_of_mem_take hz)
   rw[List.length_take,Nat.min_eq_left (by omega)]at hbd
   have:=hbd.2
   simp only at this ⊢
   exact⟨⟨hbd.1,by omega⟩,fun _=>by omega⟩
 ·rename_i hk;rw[if_neg hk]
  split at h
  ·rename_i hk;rw[if_pos hk]
   split at h
   ·simp at h
   ·rename_i hl;rw[if_neg hl]
    have hbd:=low_bd (zs.take 8) fun z hz=>hb z (List.mem_of_mem_take hz)
    rw[List.length_take,Nat.min_eq_left (by omega)]at hbd
    have:=hbd.2
    simp only at this ⊢
    exact⟨⟨hbd.1,by omega⟩,fun _=>by omega⟩
  ·rename_i hk8;rw[if_neg hk8]
   obtain⟨N,K,E,hd⟩:=dec_triple zs
   rw[hd]at h ⊢
   dsimp only at h ⊢
   subst h
   obtain⟨h0,h1,_⟩:=dec_ok zs 0 0 N K hb (by simp) (by omega) (by simpa using hd)
   exact⟨⟨h0,h1⟩,fun h=>absurd h hk⟩
def NumOf (k:Int) (y:Nd):Prop:=∃ n,y=numD k n∧(0≤n∧n≤18446744073709551615)∧(k=7→n<4294967296)
theorem unpack_of {k:Int}:∀ (m:Nat) {zs:List Int} {l:List Nd},zs.length≤m→IsBs zs→unpack k zs=some l→∀ y∈l,NumOf k y
 | m,[],l,hm,hb,h,y,hy=>by
  rw[unpack_nil]at h
  have:l=[]:=by injection h with h;exact h.symm
  rw[this]at hy;cases hy
 | 0,z :: zs,l,hm,hb,h,y,hy=>by simp at hm
 | m+1,z :: zs,l,hm,hb,h,y,hy=>by
  by_cases he:(takeN k (z :: zs)).2.2=0
  ·rw[unpack_on hb (by simp) he]at h
   obtain⟨l',h1,rfl⟩:=Option.map_eq_some_iff.1 h
   have hk:=takeN_k k (z :: zs) hb he
   have hbd:=takeN_bd hb he
   rcases List.mem_cons.1 hy with rfl | hy
   ·exact⟨_,rfl,hbd.1,hbd.2⟩
   ·refine unpack_of m ?_ (fun x hx=>hb x (List.mem_of_mem_drop hx)) h1 y hy
    rw[List.length_drop];simp only[List.length_cons]at hm hk ⊢;omega
  ·rw[unpack_err (by simp) he]at h;cases h
theorem unpack_len {k:Int}:∀ (m:Nat) {zs:List Int} {l:List Nd},zs.length≤m→IsBs zs→unpack k zs=some l→l.length≤zs.length
 | m,[],l,hm,hb,h=>by
  rw[unpack_nil]at h
  have:l=[]:=by injection h with h;exact h.symm
  rw[this];exact Nat.le_refl _
 | 0,z :: zs,l,hm,hb,h=>by simp at hm
 | m+1,z :: zs,l,hm,hb,h=>by
  by_cases he:(takeN k (z :: zs)).2.2=0
  ·rw[unpack_on hb (by simp) he]at h
   obtain⟨l',h1,rfl⟩:=Option.map_eq_some_iff.1 h
   have hk:=takeN_k k (z :: zs) hb he
   have h2:=unpack_len m (by rw[List.length_drop];simp only[List.length_cons]at hm hk ⊢;omega) (fun x hx=>hb x (List.mem_of_mem_drop hx)) h1
   rw[List.length_drop]at h2
   simp only[List.length_cons]at hk h2 ⊢
   omega
  ·rw[unpack_err (by simp) he]at h;cases h
theorem num_kind {k:Int} (h1:1≤k) (h2:k≤10) (hn:isNum k=true) {y:Nd} (h:NumOf k y):kindB k y=true:=by
 obtain⟨n,rfl,hb,h7⟩:=h
 unfold isNum at hn
 have hn:=of_decide_eq_true hn
 unfold numD kindB
 rcases(by omega:k=1∨k=2∨k=3∨k=4∨k=7∨k=8∨k=9)with rfl | rfl | rfl | rfl | rfl | rfl | rfl <;> simp
 exact h7 rfl
theorem decV_fit {rec:Int→List Int→Except Int Nd} {rf:Int→Nd→Bool} {fd:FD} {x:WF} (hk:1≤fd.kind∧fd.kind≤10) (hx:ReadOK fd x) (hrec:fd.kind=10→∀ y,rec fd.type x.d=.ok y→rf fd.type y=true) {l:List Nd} (h:decV rec fd x=.ok l):(∀ y∈l,valP rf fd y=true)∧(fd.rep=false→l.length=1):=by
 unfold decV at h
 split at h
 ·rename_i hn
  have hk10:fd.kind≠10:=by intro e;rw[e]at hn;revert hn;decide
  split at h
  ·rename_i hty
   cases hu:unpack fd.kind x.d with
   | none=>rw[hu]at h;cases h
   | some l'=>
    rw[hu]at h
    have hl:l=l':=by injection h with h;exact h.symm
    subst hl
    refine⟨fun y hy=>?_,fun hr=>?_⟩
    ·unfold valP;rw[if_neg hk10]
     exact num_kind hk.1 hk.2 hn (unpack_of _ (Nat.le_refl _) hx.db hu y hy)
    ·exfalso
     have h1:=hx.ty
     unfold typeFits at h1
     rw[hty,hr]at h1
     unfold isNum at hn
     have hn:=of_decide_eq_true hn
     unfold ownT at h1
     rcases(by omega:fd.kind=1∨fd.kind=2∨fd.kind=3∨fd.kind=4∨fd.kind=7∨fd.kind=8∨fd.kind=9)with e | e | e | e | e | e | e <;> rw[e]at h1 <;> simp at h1
  ·rename_i hty
   have hl:l=[numD fd.kind x.n]:=by injection h with h;exact h.symm
   subst hl
   refine⟨fun y hy=>?_,fun _=>rfl⟩
   have hy:y=_:=List.mem_singleton.1 hy
   unfold valP;rw[if_neg hk10]
   refine num_kind hk.1 hk.2 hn ⟨x.n,hy,hx.n,fun h7=>hx.n5 ?_⟩
   have h1:=hx.ty
   unfold typeFits ownT at h1
   rw[h7]at h1
   simp[hty]at h1
   exact h1
 ·rename_i hn
  split at h
  ·rename_i h10
   cases hr:rec fd.type x.d with
   | error e=>rw[hr]at h;cases h
   | ok y=>
    rw[hr]at h
    have hl:l=[y]:=by injection h with h;exact h.symm
    subst hl
    refine⟨fun z hz=>?_,fun _=>rfl⟩
    have hz:z=y:=List.mem_singleton.1 hz
    rw[hz];unfold valP;rw[if_pos h10];exact hrec h10 y hr
  ·rename_i h10
   split at h
   ·rename_i h5
    split at h
    ·rename_i hv
     have hl:l=[strD 4 x.d]:=by injection h with h;exact h.symm
     subst hl
     refine⟨fun z hz=>?_,fun _=>rfl⟩
     have hz:z=_:=List.mem_singleton.1 hz
     rw[hz];unfold valP;rw[if_neg h10,h5];unfold kindB strD;simp[hv]
    ·cases h
   ·rename_i h5
    have hl:l=[strD 5 x.d]:=by injection h with h;exact h.symm
    subst hl
    have h6:fd.kind=6:=by
     have hn:¬isNum fd.kind=true:=hn
     unfold isNum at hn
     rw[decide_eq_true_eq]at hn
     omega
    refine⟨fun z hz=>?_,fun _=>rfl⟩
    have hz:z=_:=List.mem_singleton.1 hz
    rw[hz];unfold valP;rw[if_neg h10,h6];unfold kindB strD;simp
theorem decVs_fit {rec:Int→List Int→Except Int Nd} {rf:Int→Nd→Bool} {fd:FD} {ws:List WF} (hk:1≤fd.kind∧fd.kind≤10) (hx:∀ x∈ws,ReadOK fd x) (hrec:∀ x∈ws,fd.kind=10→∀ y,rec fd.type x.d=.ok y→rf fd.type y=true) (h1:fd.rep=false→ws.length≤1) {l:List Nd} (h:decVs rec fd ws=.ok l):(∀ y∈l,valP rf fd y=true)∧(fd.rep=false→l.length≤1):=by
 refine⟨fun y hy=>?_,fun hr=>?_⟩
 ·obtain⟨x,b,h1,h2,h3⟩:=exL_mem h hy
  exact(decV_fit hk (hx x h1) (hrec x h1) h2).1 y h3
 ·have h1:=h1 hr
  unfold decVs at h
  match ws,h1,hx,hrec,h with
  | [],_,_,_,h=>
   have:l=[]:=by injection h with h;exact h.symm
   rw[this];simp
  | [x],_,hx,hrec,h=>
   rw[exL_one]at h
   have:=(decV_fit (rf:=rf) hk (hx x (by simp)) (hrec x (by simp)) h).2 hr
   omega
theorem decF_one {rec:Int→List Int→Except Int Nd} {known:List WF} {fd:FD} {b:List (Int × List Nd)} (h:decF rec known fd=.ok b):∃ l,decVs rec fd (toRead fd known)=.ok l∧b=if l.length=0 then [] else [(fd.num,l)]:=by
 unfold decF at h
 cases hv:decVs rec fd (toRead fd known)with
 | error e=>rw[hv]at h;cases h
 | ok l=>rw[hv]at h;exact⟨l,rfl,by injection h with h;exact h.symm⟩
theorem rise_fl {rec:Int→List Int→Except Int Nd} {known:List WF}:∀ {fs:List FD} {a:Int} {fl:List (Int × List Nd)},RiseD fs→(∀ fd∈fs,a<fd.num)→exL (decF rec known) fs=.ok fl→RiseF a fl
 | [],a,fl,hr,ha,h=>by
  have:fl=[]:=by injection h with h;exact h.symm
  rw[this];trivial
 | fd :: t,a,fl,hr,ha,h=>by
  rw[exL_cons]at h
  cases hg:decF rec known fd with
  | error e=>rw[hg]at h;cases h
  | ok b=>
   cases ht:exL (decF rec known) t with
   | error e=>rw[hg,ht]at h;cases h
   | ok m=>
    rw[hg,ht]at h
    have hfl:fl=b++m:=by injection h with h;exact h.symm
    have hrt:RiseD t:=fun i j a b hij ha hb=>hr (i+1) (j+1) a b (by omega) (by simpa using ha) (by simpa using hb)
    have h0:=ha fd List.mem_cons_self
    have hm:=rise_fl (a:=fd.num) hrt (fun x hx=>by
     obtain⟨j,hj⟩:=List.getElem?_of_mem hx
     exact hr 0 (j+1) fd x (by omega) rfl (by simpa using hj)) ht
    obtain⟨l,_,hb⟩:=decF_one hg
    rw[hfl,hb]
    split
    ·exact rise_lt (by omega) hm
    ·exact⟨h0,hm⟩
def KindOK (ms:List MD):Prop:=∀ m∈ms,RiseD m.fields∧(∀ x∈m.fields,1≤x.num)∧∀ x∈m.fields,(1≤x.kind∧x.kind≤10)∧(x.kind=10→0≤x.type∧x.type<(ms.length:Int))
theorem decM_fit {ms:List MD} (hK:KindOK ms):∀ (f:Nat) (dep t:Int) (zs:List Int) (x:Nd),dep+(f:Int)=17→0≤t→t<(ms.length:Int)→IsBs zs→decM ms f t zs=.ok x→fitP ms f dep t x=true
 | 0,dep,t,zs,x,hd,h0,h1,hb,h=>by cases h
 | f+1,dep,t,zs,x,hd,h0,h1,hb,h=>by
  obtain⟨md,hmd⟩:∃ md,ms[t.toNat]? = some md:=⟨_,List.getElem?_eq_getElem (by omega)⟩
  obtain⟨hr,hn1,hk⟩:=hK md (List.mem_of_getElem? hmd)
  have hfs:fieldsOf ms t=md.fields:=by unfold fieldsOf;rw[hmd]
  unfold decM at h
  rw[hfs]at h
  cases hs:split zs with
  | none=>rw[hs]at h;cases h
  | some D=>
   rw[hs]at h
   dsimp only at h
   cases hl:exL (decF (decM ms f) (knownL md.fields D)) md.fields with
   | error e=>rw[hl]at h;cases h
   | ok fl=>
    rw[hl]at h
    have hx:x=⟨7,0,0,false,u8s (unknL md.fields D),t,fl⟩:=by injection h with h;exact h.symm
    have hP:=split_ok _ (Nat.le_refl _) hb hs
    rw[fitP_eq,hx]
    unfold topP
    rw[hmd,Bool.and_eq_true,decide_eq_true_eq]
    refine⟨⟨rfl,rfl,by omega⟩,?_⟩
    dsimp only
    unfold bodyP
    rw[Bool.and_eq_true]
    refine⟨?_,unkn_none hP⟩
    dsimp only
    have hrise:=rise_fl (a:=0) hr (fun x hx=>by have:=hn1 x hx;omega) hl
    rw[allA_iff]
    intro k p hp
    rw[Bool.and_eq_true]
    refine⟨decide_eq_true (rise_iff.1 hrise k p hp),?_⟩
    obtain⟨fd,b,hfd,hg,hpb⟩:=exL_mem hl (List.mem_of_getElem? hp)
    obtain⟨l,hv,rfl⟩:=decF_one hg
    split at hpb
    ·cases hpb
    ·rename_i hl0
     have hpe:p=(fd.num,l):=List.mem_singleton.1 hpb
     rw[hpe]
     unfold fldP
     dsimp only
     rw[firstF_rise hr hfd]
     dsimp only
     have hkd:=hk fd hfd
     obtain⟨g1,g2⟩:=decVs_fit (rf:=recP ms dep (f+1)) hkd.1 (read_ok hr hfd hP) (fun y hy h10 z hz=>by
      have hty:=hkd.2 h10
      exact decM_fit hK f (dep+1) fd.type y.d z (by omega) hty.1 hty.2 (read_ok hr hfd hP y hy).db hz) (fun h=>read_one h _) hv
     rw[Bool.and_eq_true,Bool.and_eq_true]
     refine⟨by simp[hl0],?_,?_⟩
     ·cases hrep:fd.rep with
      | true=>simp
      | false=>have:=g2 hrep;simp[this]
     ·rw[allA_iff]
      intro j y hy
      exact g1 y (List.mem_of_getElem? hy)
open Go.ChangeShapes Go.WideShapes Go.ChangeAt Go.RowKit
section
variable {T t:TypeId} {k bytes base n:Nat} {z:Value} {wx:World} {v:Value} {xs:List Value}
theorem wpushL (ht:Tryz.prog.underlying t=some (.slice T)) (hin:(Tryz.prog.info? T).map (fun i=>(i.zero,i.size,i.bytes))=some (some z,k,bytes)) (hzk:z.cells.size=k) (hk0:0<k)
  (h:wx.ownsRow base T k v n xs) (hb0:base≤wx.heap.size) (ad:Addr) (m c:Nat) (r:List Value) (hrl:r.length=m*k) (hr1:∀ u∈r,u.oneCell'=true) (hB:∀ j u,r[j]? = some u→wx.cell? (ad.add j)=some u) (hm0:0<m)
  {ops:Array Oper} {rest:List Oper} {o:Oper} {a:Act} {Q:Exit→Act→World→Prop} (hgd:o.guard=none) (s' x':Operand)
  (ho:o.op=.call { callee:=.builtin .append,args:=#[s',x'],argTypes:=#[t,t] }) (hs:a.eval s'=v) (hx:a.eval x'=.slice (some ad) m c) (hm:n+m≤maxLen) (hbd:(n+m)*bytes≤140737488355328)
  (hk:∀ g cap W,W.ownsRow base T k (.slice (some ⟨g,0,none⟩) (n+m) cap) (n+m) (xs++r)→wx.grownBy W v.ownBlock→(v.ownBlock=some g∨g=wx.heap.size)→g<W.heap.size→wpList Tryz.prog ops Q rest (a.put o.dst (.slice (some ⟨g,0,none⟩) (n+m) cap)) W) :
  wpList Tryz.prog ops Q (o :: rest) a wx:=by
 obtain⟨i0,hi0,hz0,hz1,hz2⟩:=info_parts hin
 exact wpList_append_lies _ hgd s' x' t ho base T i0 z k bytes ht hi0 hz0 hz1 hz2 hzk hk0 v n xs hs h ad m c r hx hrl hB hr1 hm0 hm hbd hb0 _ rfl hk
end
theorem Gr.pushN {α:Type} {R:World→(Nat→Prop)→α→List Value→Prop} (hR:Mvs R) {w W:World} {base:Nat} {T:TypeId} {k:Nat} {v:Value} {xs:List α} {rs:List (List Value)} (h:Gr R w base T k v xs rs) {ys:List α} {qs:List (List Value)} (hl:qs.length=ys.length) (hr:∀ q∈qs,q.length=k) (hx:∀ (j:Nat) (y:α) (q:List Value),ys[j]? = some y→qs[j]? = some q→R w (FarV w base v) y q) {g cap n m:Nat} (hn:xs.length=n) (hm:ys.length=m)
  (ho:W.ownsRow base T k (.slice (some ⟨g,0,none⟩) (n+m) cap) (n+m) (rs.flatMap id++qs.flatMap id)) (hg:w.grownBy W v.ownBlock) (hgg:v.ownBlock=some g∨g=w.heap.size):Gr R W base T k (.slice (some ⟨g,0,none⟩) (n+m) cap) (xs++ys) (rs++qs):=by
 have hmv:∀ (x:α) (r:List Value),R w (FarV w base v) x r→R W (FarV W base (.slice (some ⟨g,0,none⟩) (n+m) cap)) x r:=fun x r hx=>hR _ _ _ _ x r hx (fun b hF=>hg.block b hF.2.1 (fun e=>hF.2.2 e.symm)) (fun b hF=>⟨hF.1,by have:=hF.2.1;have:=hg.size;omega,fun e=>by
  have e2:g=b:=by simpa [Value.ownBlock]using e
  rcases hgg with h1 | h1
  ·exact hF.2.2 (by rw[h1,e2])
  ·have:=hF.2.1;omega⟩)
 refine⟨?_,by simp[h.len,hl],?_,?_⟩
 ·rw[List.flatMap_append,List.length_append,hn,hm];exact ho
 ·intro q hq
  rcases List.mem_append.1 hq with hq | hq
  ·exact h.row q hq
  ·exact hr q hq
 ·intro j y q hy hq
  rcases Nat.lt_or_ge j xs.length with hl' | hl'
  ·rw[List.getElem?_append_left hl']at hy
   rw[List.getElem?_append_left (by rw[h.len];exact hl')]at hq
   exact hmv y q (h.kids j y q hy hq)
  ·rw[List.getElem?_append_right hl']at hy
   rw[List.getElem?_append_right (by rw[h.len];exact hl'),h.len]at hq
   exact hmv y q (hx _ y q hy hq)
theorem vals_rows {w:World} {S:Nat→Prop} {f g:Nat}:∀ {ys:List Nd} {o:Nat},(∀ (j:Nat) (y:Nd),ys[j]? = some y→∃ fs,Cells w g (o+j) [ival y fs]∧(y.kind=7→HeldG valS w S f fs y.fields))→
  ∃ qs:List (List Value),qs.length=ys.length∧(∀ q∈qs,q.length=1)∧(∀ (j:Nat) (y:Nd) (q:List Value),ys[j]? = some y→qs[j]? = some q→VRs valS f w S y q)∧(∀ (j:Nat) (u:Value),(qs.flatMap id)[j]? = some u→w.cell? ⟨g,o+j,none⟩=some u)∧(∀ u∈qs.flatMap id,u.oneCell'=true)∧(qs.flatMap id).length=ys.length
 | [],o,h=>⟨[],rfl,(fun q hq=>by cases hq),(fun j y q hy=>by simp at hy),(fun j u hu=>by simp at hu),(fun u hu=>by simp at hu),rfl⟩
 | y :: t,o,h=>by
  obtain⟨fs,h1,h2⟩:=h 0 y rfl
  obtain⟨qs,g1,g2,g3,g4,g5,g6⟩:=vals_rows (ys:=t) (o:=o+1) fun j x hx=>by
   obtain⟨fs,h1,h2⟩:=h (j+1) x (by simpa using hx)
   exact⟨fs,by rw[show o+1+j=o+(j+1)by omega];exact h1,h2⟩
  refine⟨[ival y fs] :: qs,by simp[g1],?_,?_,?_,?_,by rw[List.flatMap_cons,List.length_append,g6,List.length_cons];show 1+t.length=t.length+1;omega⟩
  ·intro q hq
   rcases List.mem_cons.1 hq with rfl | hq
   ·rfl
   ·exact g2 q hq
  ·intro j x q hx hq
   cases j with
   | zero=>
    have e1:y=x:=by simpa using hx
    have e2:[ival y fs]=q:=by simpa using hq
    subst e1 e2
    exact⟨fs,rfl,fun hk=>h2 (by simpa [valS]using hk)⟩
   | succ j=>exact g3 j x q (by simpa using hx) (by simpa using hq)
  ·intro j u hu
   rw[List.flatMap_cons]at hu
   cases j with
   | zero=>
    have e:ival y fs=u:=by simpa using hu
    have:=h1 0 _ rfl
    rw[e]at this;simpa using this
   | succ j=>
    have:=g4 j u (by simpa using hu)
    rw[show o+(j+1)=o+1+j by omega];exact this
  ·intro u hu
   rw[List.flatMap_cons]at hu
   rcases List.mem_append.1 hu with hu | hu
   ·have e:u=ival y fs:=by simpa using hu
    rw[e];exact ival_one _ _
   ·exact g5 u hu
def VsAns (f:Nat) (r:Except Int (List Nd)) (w:World) (e:Ending) (w':World):Prop:=match r with
 | .error x=>x≠0∧(∃ v,e=.returned (.tuple #[v,.int .i64 x]))∧Below w.heap.size w w'
 | .ok l=>∃ a c,e=.returned (.tuple #[.slice a l.length c,.int .i64 0])∧(l=[]→a=none∧c=0)∧ValsG valS w' (fun b=>w.heap.size≤b∧b<w'.heap.size) f (.slice a l.length c) l∧Below w.heap.size w w'
theorem add_zero (g o j:Nat):(⟨g,o,none⟩:Addr).add j=⟨g,o+j,none⟩:=by unfold Addr.add;split <;> simp_all
theorem vals_new {f:Nat} {W A:World} {v:Value} {y:Nd} {B:Nat} {S:Nat→Prop} (hA:A.heap[B]? = some (.cells #[v] 31 (0,0))) (hB:S B) (hv:HeldV A S f v y):ValsG valS A S f (.slice (some ⟨B,0,none⟩) 1 1) [y]:=by
 refine⟨_,_,rfl,Nat.le_refl _,.inr ⟨B,0,rfl,hB,fun j x hj=>?_⟩⟩
 have hj0:j=0:=by
  have:=(List.getElem?_eq_some_iff.1 hj).1
  simp at this;omega
 subst hj0
 have e:y=x:=by simpa using hj
 subst e
 obtain⟨fs,rfl,h⟩:=hv
 refine⟨fs,fun i u hu=>?_,fun hk=>h (by simpa [valS]using hk)⟩
 simp only[World.cell?,hA]
 simpa [valS]using hu
end Go.Proofs.YteajlfgbmefncaaGreatDoor
