/-
  Walks and plain words (TfR TfR2).
-/
import Derived.Test.YteajlfgbmefncaaGreatDoorN1
import Derived.Test.YteajlfgbmefncaaGreatDoorN2
import Derived.Deep.RegionLaw
import Derived.Deep.DeepCutAuto
namespace Go.Proofs.YteajlfgbmefncaaGreatDoor
set_option linter.unusedVariables false
open Go.ChangeShapes Go.WideShapes Go.ChangeAt Go.RowKit

structure TF where
 num:Int
 ty:Int
 n:Int
 data:List Int
 k:Int
 e:Int
def tfErr (e:Int):TF:=⟨0,0,0,[],0,e⟩
def tfBody (key k0:Int) (rest:List Int):TF:=
 if key / 8<1∨536870911<key / 8∨¬(key % 8=0∨key % 8=1∨key % 8=2∨key % 8=5) then tfErr 2
 else if key % 8=0 then
  if (dec 0 0 rest).2.2≠0 then tfErr (dec 0 0 rest).2.2 else ⟨key / 8,0,(dec 0 0 rest).1,[],k0+(dec 0 0 rest).2.1,0⟩
 else if key % 8=2 then
  if (dec 0 0 rest).2.2≠0 then tfErr (dec 0 0 rest).2.2
  else if (rest.length:Int) - (dec 0 0 rest).2.1<(dec 0 0 rest).1 then tfErr 5
  else ⟨key / 8,2,0,(rest.drop (dec 0 0 rest).2.1.toNat).take (dec 0 0 rest).1.toNat,k0+(dec 0 0 rest).2.1+(dec 0 0 rest).1,0⟩
 else if key % 8=5 then
  if rest.length<4 then tfErr 5 else ⟨key / 8,5,low (rest.take 4),[],k0+4,0⟩
 else
  if rest.length<8 then tfErr 5 else ⟨key / 8,1,low (rest.take 8),[],k0+8,0⟩
def tf (zs:List Int):TF:=
 if (dec 0 0 zs).2.2≠0 then tfErr (dec 0 0 zs).2.2 else tfBody (dec 0 0 zs).1 (dec 0 0 zs).2.1 (zs.drop (dec 0 0 zs).2.1.toNat)

def NewB (w:World) (base:Nat) (a:Option Addr) (len:Nat) (zs:List Int):Prop:=
 zs.length=len∧len≤281474976710656∧(zs=[]∨∃ b off,a=some ⟨b,off,none⟩∧base≤b∧Held w b off zs)
theorem NewB.isB {w:World} {base:Nat} {a:Option Addr} {len:Nat} {zs:List Int} (h:NewB w base a len zs):IsB w a len zs:=
 ⟨h.1,h.2.1,h.2.2.imp id fun ⟨b,off,h1,_,h3⟩=>⟨b,off,h1,h3⟩⟩
theorem NewB.mono {w:World} {base base':Nat} {a:Option Addr} {len:Nat} {zs:List Int} (h:NewB w base a len zs) (hb:base'≤base):NewB w base' a len zs:=
 ⟨h.1,h.2.1,h.2.2.imp id fun ⟨b,off,h1,h2,h3⟩=>⟨b,off,h1,Nat.le_trans hb h2,h3⟩⟩
theorem NewB.cells {w w2:World} {base:Nat} {a:Option Addr} {len:Nat} {zs:List Int} (h:NewB w base a len zs)
  (hc:∀ b o v,base≤b→b<w.heap.size→w.cell? ⟨b,o,none⟩=some v→w2.cell? ⟨b,o,none⟩=some v):NewB w2 base a len zs:=
 ⟨h.1,h.2.1,h.2.2.imp id fun ⟨b,off,h1,h2,h3⟩=>⟨b,off,h1,h2,fun j z hj=>hc _ _ _ h2 (cell_ltB (h3.1 j z hj)) (h3.1 j z hj),h3.2⟩⟩
def blank (w:World) (B:Nat):World:={ w with heap:=w.heap.mapIdx fun i o=>if i<B then .cells #[] 0 else o }
theorem blank_high (w:World) (B b o:Nat) (h:B≤b):(blank w B).cell? ⟨b,o,none⟩=w.cell? ⟨b,o,none⟩:=by
 have hn:¬b<B:=by omega
 simp[World.cell?,blank,Array.getElem?_mapIdx,hn]
theorem blank_low (w:World) (B b o:Nat) (h:b<B):(blank w B).cell? ⟨b,o,none⟩=none:=by
 simp[World.cell?,blank,Array.getElem?_mapIdx,h]
 cases w.heap[b]? <;> simp
theorem stable_newB {w:World} {B:Nat} {a:Option Addr} {len:Nat} {zs:List Int} (h:∀ w2,(∀ b o,B≤b→w2.cell? ⟨b,o,none⟩=w.cell? ⟨b,o,none⟩)→IsB w2 a len zs):NewB w B a len zs:=by
 obtain⟨h1,h2,h3⟩:=h w (fun _ _ _=>rfl)
 refine⟨h1,h2,?_⟩
 rcases h3 with h3 | ⟨b,off,rfl,hh⟩
 ·exact .inl h3
 ·by_cases h0:zs=[]
  ·exact .inl h0
  ·refine .inr ⟨b,off,rfl,?_,hh⟩
   obtain⟨_,_,h5 | ⟨b',off',hab,hh'⟩⟩:=h (blank w B) (fun b o hb=>blank_high w B b o hb)
   ·exact absurd h5 h0
   ·cases hab
    cases zs with
    | nil=>exact absurd rfl h0
    | cons z zs=>
     have hc:=hh'.1 0 z rfl
     by_cases hb:b<B
     ·rw[blank_low _ _ _ _ hb]at hc;simp at hc
     ·omega

def NoA (a:Option Addr) (l c:Nat):Prop:=(a=none→l=0∧c=0)∧l≤c∧c≤9223372036854775807
theorem NoA.zero:NoA none 0 0:=⟨fun _=>⟨rfl,rfl⟩,by omega,by omega⟩
def TfAns (w w':World) (e:Ending) (r:TF):Prop:=
 ∃ a len cap,e=.returned (.tuple #[fv r.num r.ty r.n a len cap,.int .i64 r.k,.int .i64 r.e])∧NewB w' w.heap.size a len r.data∧NoA a len cap∧Below w.heap.size w w'

theorem tfErr_ans (w w':World) (x:Int) (hb:Below w.heap.size w w') :
  TfAns w w' (.returned (.tuple #[.agg #[.int .i64 0,.int .i64 0,.int .u64 0,.slice none 0 0],.int .i64 0,.int .i64 x])) (tfErr x):=
 ⟨none,0,0,rfl,⟨rfl,by simp,.inl rfl⟩,NoA.zero,hb⟩

theorem isB_dropAt {w:World} {b off len:Nat} {zs:List Int} (hB:IsB w (some ⟨b,off,none⟩) len zs) (k:Nat) (hk:k<len):IsB w (some ⟨b,off+k,none⟩) (len - k) (zs.drop k):=by
 obtain⟨h1,h2,h3⟩:=hB
 refine⟨by rw[List.length_drop];omega,by omega,?_⟩
 rcases h3 with h3 | ⟨b',off',hab,hh⟩
 ·rw[h3]at h1;simp at h1;omega
 ·cases hab
  refine .inr ⟨_,_,rfl,?_,fun z hz=>hh.2 z (List.mem_of_mem_drop hz)⟩
  intro j z hj
  rw[List.getElem?_drop]at hj
  have:=hh.1 (k+j) z hj
  rw[Nat.add_assoc];exact this
theorem isB_end {w:World} {a:Option Addr} {len:Nat} {zs:List Int} (hB:IsB w a len zs) (a':Option Addr):IsB w a' 0 (zs.drop len):=
 ⟨by rw[List.length_drop];have:=hB.1;omega,by omega,.inl (List.drop_eq_nil_of_le (by have:=hB.1;omega))⟩

set_option maxHeartbeats 2000000 in
theorem takeFieldR_err (a:Option Addr) (len cap:Nat) (zs:List Int) (w:World) (hB:IsB w a len zs) (N K E:Int) (hd:dec 0 0 zs=(N,K,E)) (hE:E≠0) :
  Calls Tryz.prog 64 #[.slice a len cap] w fun e w'=>TfAns w w' e (tfErr E):=by
 have HT:=fun W (h:Below w.heap.size w W)=>takeRB_any a len cap zs W (isB_old hB h)
 rw[hd]at HT
 have HTT:Hid _:=HT
 have hEb:(E != 0)=true:=by simpa using hE
 clear HT hd hB
 go_enter Tryz.func64,Tryz.ntmps64
 go_wp2_with fail
 refine(HTT.out _ ((Below.refl _ _).alloc (Nat.le_refl _) _)).mono ?_
 rintro e w' ⟨rfl,rfl⟩
 go_wp2_with fail
 exact bodyPost_ret (v:=.tuple #[.agg #[.int .i64 0,.int .i64 0,.int .u64 0,.slice none 0 0],.int .i64 0,.int .i64 E]) (by simp[results,Tryz.results64,go_sem]) rfl (tfErr_ans _ _ _ ((Below.refl _ _).alloc (Nat.le_refl _) _))

def cutAt (b off cap k:Nat):Addr:=if cap=k then ⟨b,off,none⟩ else ⟨b,off+k,none⟩
theorem cutAt_end (b off m:Nat):cutAt b off m m=⟨b,off,none⟩:=by unfold cutAt;rw[if_pos rfl]
theorem cutAt_in {b off m k:Nat} (h:¬m=k):cutAt b off m k=⟨b,off+k,none⟩:=by unfold cutAt;rw[if_neg h]
theorem isB_cut {w:World} {b off len cap:Nat} {zs:List Int} (hB:IsB w (some ⟨b,off,none⟩) len zs) (hc:len≤cap) (k:Nat) (hk:k≤len):IsB w (some (cutAt b off cap k)) (len - k) (zs.drop k):=by
 by_cases h:k=len
 ·subst h
  rw[Nat.sub_self];exact isB_end hB _
 ·unfold cutAt
  rw[if_neg (by omega)]
  exact isB_dropAt hB k (by omega)

set_option maxHeartbeats 2000000 in
theorem takeFieldR_low (a:Option Addr) (len cap:Nat) (w:World) (N K:Int) (HT:∀ W,Below w.heap.size w W→Calls Tryz.prog 92 #[.slice a len cap] W fun e w'=>
   e=.returned (.tuple #[.int .u64 N,.int .i64 K,.int .i64 0])∧w'=W) (hN0:0≤N) (hN1:N≤18446744073709551615) (h:N / 8<1) :
  Calls Tryz.prog 64 #[.slice a len cap] w fun e w'=>TfAns w w' e (tfErr 2):=by
 have HTT:Hid _:=HT
 clear HT
 go_enter Tryz.func64,Tryz.ntmps64
 go_wp2_with fail
 refine(HTT.out _ ((Below.refl _ _).alloc (Nat.le_refl _) _)).mono ?_
 rintro e w' ⟨rfl,rfl⟩
 clear HTT
 go_wp2_with fail
 exact bodyPost_ret (v:=.tuple #[.agg #[.int .i64 0,.int .i64 0,.int .u64 0,.slice none 0 0],.int .i64 0,.int .i64 2]) (by simp[results,Tryz.results64,go_sem]) rfl (tfErr_ans _ _ _ ((Below.refl _ _).alloc (Nat.le_refl _) _))
set_option maxHeartbeats 2000000 in
theorem takeFieldR_high (a:Option Addr) (len cap:Nat) (w:World) (N K:Int) (HT:∀ W,Below w.heap.size w W→Calls Tryz.prog 92 #[.slice a len cap] W fun e w'=>
   e=.returned (.tuple #[.int .u64 N,.int .i64 K,.int .i64 0])∧w'=W) (hN0:0≤N) (hN1:N≤18446744073709551615) (h:536870911<N / 8) :
  Calls Tryz.prog 64 #[.slice a len cap] w fun e w'=>TfAns w w' e (tfErr 2):=by
 have HTT:Hid _:=HT
 clear HT
 go_enter Tryz.func64,Tryz.ntmps64
 go_wp2_with fail
 refine(HTT.out _ ((Below.refl _ _).alloc (Nat.le_refl _) _)).mono ?_
 rintro e w' ⟨rfl,rfl⟩
 clear HTT
 go_wp2_with fail
 exact bodyPost_ret (v:=.tuple #[.agg #[.int .i64 0,.int .i64 0,.int .u64 0,.slice none 0 0],.int .i64 0,.int .i64 2]) (by simp[results,Tryz.results64,go_sem]) rfl (tfErr_ans _ _ _ ((Below.refl _ _).alloc (Nat.le_refl _) _))
set_option maxHeartbeats 2000000 in
theorem takeFieldR_form (a:Option Addr) (len cap:Nat) (zs:List Int) (w:World) (hB:IsB w a len zs) (N K:Int) (hd:dec 0 0 zs=(N,K,0)) (hN0:0≤N) (hN1:N≤18446744073709551615)
  (hbad:N / 8<1∨536870911<N / 8∨¬(N % 8=0∨N % 8=1∨N % 8=2∨N % 8=5)) :
  Calls Tryz.prog 64 #[.slice a len cap] w fun e w'=>TfAns w w' e (tfErr 2):=by
 have HT:=fun W (h:Below w.heap.size w W)=>takeRB_any a len cap zs W (isB_old hB h)
 rw[hd]at HT
 have HTT:Hid _:=HT
 clear HT hd hB
 rcases hbad with h | h | h
 ·exact takeFieldR_low a len cap w N K HTT.out hN0 hN1 h
 ·exact takeFieldR_high a len cap w N K HTT.out hN0 hN1 h
 ·by_cases h1:N / 8<1
  ·exact takeFieldR_low a len cap w N K HTT.out hN0 hN1 h1
  ·by_cases h2:536870911<N / 8
   ·exact takeFieldR_high a len cap w N K HTT.out hN0 hN1 h2
   ·have t0:(N % 8 != 0)=true:=by simp;omega
    have t1:(N % 8 != 1)=true:=by simp;omega
    have t2:(N % 8 != 2)=true:=by simp;omega
    have t5:(N % 8 != 5)=true:=by simp;omega
    have h1':1≤N / 8:=by omega
    have h2':N / 8≤536870911:=by omega
    clear h h1 h2
    go_enter Tryz.func64,Tryz.ntmps64
    go_wp2_with fail
    refine(HTT.out _ ((Below.refl _ _).alloc (Nat.le_refl _) _)).mono ?_
    rintro e w' ⟨rfl,rfl⟩
    clear HTT
    go_wp2_with fail
    exact bodyPost_ret (v:=.tuple #[.agg #[.int .i64 0,.int .i64 0,.int .u64 0,.slice none 0 0],.int .i64 0,.int .i64 2]) (by simp[results,Tryz.results64,go_sem]) rfl (tfErr_ans _ _ _ ((Below.refl _ _).alloc (Nat.le_refl _) _))

set_option maxHeartbeats 2000000 in
theorem takeFieldR_0 (b off len cap:Nat) (zs:List Int) (w:World) (N:Int) (k:Nat)
  (HT:∀ W,Below w.heap.size w W→Calls Tryz.prog 92 #[.slice (some ⟨b,off,none⟩) len cap] W fun e w'=>
   e=.returned (.tuple #[.int .u64 N,.int .i64 k,.int .i64 0])∧w'=W)
  (X Q F:Int) (HT2:∀ W,Below w.heap.size w W→Calls Tryz.prog 92 #[.slice (some (cutAt b off cap k)) (len - k) (cap - k)] W fun e w'=>
   e=.returned (.tuple #[.int .u64 X,.int .i64 Q,.int .i64 F])∧w'=W)
  (hN0:0≤N) (hN1:N≤18446744073709551615) (h1:1≤N / 8) (h2:N / 8≤536870911) (hty:N % 8=0) (hk:k≤len) (hlc:len≤cap) (hcm:cap≤9223372036854775807) (hk10:k≤10) (hQ0:0≤Q) (hQ1:Q≤10) :
  Calls Tryz.prog 64 #[.slice (some ⟨b,off,none⟩) len cap] w fun e w'=>TfAns w w' e (if F≠0 then tfErr F else ⟨N / 8,0,X,[],k+Q,0⟩):=by
 have HTT:Hid _:=HT
 have HTT2:Hid _:=HT2
 clear HT HT2
 by_cases hF:F=0
 ·rw[if_neg (by simpa using hF)]
  subst hF
  by_cases hck:cap=k
  ·obtain rfl:len=k:=by omega
   subst hck
   rw[cutAt_end,Nat.sub_self]at HTT2
   clear hlc
   go_enter Tryz.func64,Tryz.ntmps64
   go_wp2_with fail
   refine(HTT.out _ ((Below.refl _ _).alloc (Nat.le_refl _) _)).mono ?_
   rintro e w' ⟨rfl,rfl⟩
   clear HTT
   go_wp2_with fail
   refine(HTT2.out _ (((Below.refl _ _).alloc (Nat.le_refl _) _).alloc (by simp) _)).mono ?_
   rintro e w' ⟨rfl,rfl⟩
   clear HTT2
   go_wp2_with fail
   exact bodyPost_ret (v:=.tuple #[.agg #[.int .i64 (N / 8),.int .i64 0,.int .u64 X,.slice none 0 0],.int .i64 (cap+Q),.int .i64 0]) (by simp[results,Tryz.results64,go_sem]) rfl ⟨none,0,0,rfl,⟨rfl,by simp,.inl rfl⟩,NoA.zero,(((Below.refl _ _).alloc (Nat.le_refl _) _).alloc (by simp) _)⟩
  ·rw[cutAt_in hck]at HTT2
   go_enter Tryz.func64,Tryz.ntmps64
   go_wp2_with fail
   refine(HTT.out _ ((Below.refl _ _).alloc (Nat.le_refl _) _)).mono ?_
   rintro e w' ⟨rfl,rfl⟩
   clear HTT
   go_wp2_with fail
   refine(HTT2.out _ (((Below.refl _ _).alloc (Nat.le_refl _) _).alloc (by simp) _)).mono ?_
   rintro e w' ⟨rfl,rfl⟩
   clear HTT2
   go_wp2_with fail
   exact bodyPost_ret (v:=.tuple #[.agg #[.int .i64 (N / 8),.int .i64 0,.int .u64 X,.slice none 0 0],.int .i64 (k+Q),.int .i64 0]) (by simp[results,Tryz.results64,go_sem]) rfl ⟨none,0,0,rfl,⟨rfl,by simp,.inl rfl⟩,NoA.zero,(((Below.refl _ _).alloc (Nat.le_refl _) _).alloc (by simp) _)⟩
 ·rw[if_pos (by simpa using hF)]
  have hFb:(F != 0)=true:=by simpa using hF
  by_cases hck:cap=k
  ·obtain rfl:len=k:=by omega
   subst hck
   rw[cutAt_end,Nat.sub_self]at HTT2
   clear hlc
   go_enter Tryz.func64,Tryz.ntmps64
   go_wp2_with fail
   refine(HTT.out _ ((Below.refl _ _).alloc (Nat.le_refl _) _)).mono ?_
   rintro e w' ⟨rfl,rfl⟩
   clear HTT
   go_wp2_with fail
   refine(HTT2.out _ (((Below.refl _ _).alloc (Nat.le_refl _) _).alloc (by simp) _)).mono ?_
   rintro e w' ⟨rfl,rfl⟩
   clear HTT2
   go_wp2_with fail
   exact bodyPost_ret (v:=.tuple #[.agg #[.int .i64 0,.int .i64 0,.int .u64 0,.slice none 0 0],.int .i64 0,.int .i64 F]) (by simp[results,Tryz.results64,go_sem]) rfl (tfErr_ans _ _ _ (((Below.refl _ _).alloc (Nat.le_refl _) _).alloc (by simp) _))
  ·rw[cutAt_in hck]at HTT2
   go_enter Tryz.func64,Tryz.ntmps64
   go_wp2_with fail
   refine(HTT.out _ ((Below.refl _ _).alloc (Nat.le_refl _) _)).mono ?_
   rintro e w' ⟨rfl,rfl⟩
   clear HTT
   go_wp2_with fail
   refine(HTT2.out _ (((Below.refl _ _).alloc (Nat.le_refl _) _).alloc (by simp) _)).mono ?_
   rintro e w' ⟨rfl,rfl⟩
   clear HTT2
   go_wp2_with fail
   exact bodyPost_ret (v:=.tuple #[.agg #[.int .i64 0,.int .i64 0,.int .u64 0,.slice none 0 0],.int .i64 0,.int .i64 F]) (by simp[results,Tryz.results64,go_sem]) rfl (tfErr_ans _ _ _ (((Below.refl _ _).alloc (Nat.le_refl _) _).alloc (by simp) _))
set_option maxHeartbeats 2000000 in
theorem takeFieldR_5 (b off len cap:Nat) (zs:List Int) (w:World) (N:Int) (k:Nat) (hB:IsB w (some ⟨b,off,none⟩) len zs)
  (HT:∀ W,Below w.heap.size w W→Calls Tryz.prog 92 #[.slice (some ⟨b,off,none⟩) len cap] W fun e w'=>
   e=.returned (.tuple #[.int .u64 N,.int .i64 k,.int .i64 0])∧w'=W)
  (hN0:0≤N) (hN1:N≤18446744073709551615) (h1:1≤N / 8) (h2:N / 8≤536870911) (hty:N % 8=5) (hk:k≤len) (hlc:len≤cap) (hcm:cap≤9223372036854775807) (hk10:k≤10) :
  Calls Tryz.prog 64 #[.slice (some ⟨b,off,none⟩) len cap] w fun e w'=>TfAns w w' e (if (zs.drop k).length<4 then tfErr 5 else ⟨N / 8,5,low ((zs.drop k).take 4),[],k+4,0⟩):=by
 have HTT:Hid _:=HT
 have hdl:(zs.drop k).length=len - k:=by rw[List.length_drop,hB.1]
 clear HT
 by_cases hs:len - k<4
 ·rw[if_pos (by omega)]
  have hs':(len:Int) - (k:Int)<4:=by omega
  clear hdl hB
  go_enter Tryz.func64,Tryz.ntmps64
  go_wp2_with fail
  refine(HTT.out _ ((Below.refl _ _).alloc (Nat.le_refl _) _)).mono ?_
  rintro e w' ⟨rfl,rfl⟩
  clear HTT
  go_wp2_with fail
  exact bodyPost_ret (v:=.tuple #[.agg #[.int .i64 0,.int .i64 0,.int .u64 0,.slice none 0 0],.int .i64 0,.int .i64 5]) (by simp[results,Tryz.results64,go_sem]) rfl (tfErr_ans _ _ _ (((Below.refl _ _).alloc (Nat.le_refl _) _).alloc (by simp) _))
 ·rw[if_neg (by omega)]
  have hs':4≤(len:Int) - (k:Int):=by omega
  have hck:¬cap=k:=by omega
  have HNB:Hid (∀ W c,Below w.heap.size w W→Calls Tryz.prog 93 #[.slice (some ⟨b,off+k,none⟩) 4 c] W fun e w'=>e=.returned (.int .u64 (low ((zs.drop k).take 4)))∧w'=W):=by
   intro W c hW
   exact number_any _ 4 c _ W (isB_take (isB_dropAt (isB_old hB hW) k (by omega)) 4 (by omega)) (by omega)
  clear hdl hB
  generalize low ((zs.drop k).take 4)=X at *
  go_enter Tryz.func64,Tryz.ntmps64
  go_wp2_with fail
  refine(HTT.out _ ((Below.refl _ _).alloc (Nat.le_refl _) _)).mono ?_
  rintro e w' ⟨rfl,rfl⟩
  clear HTT
  go_wp2_with fail
  refine(HNB.out _ _ (((Below.refl _ _).alloc (Nat.le_refl _) _).alloc (by simp) _)).mono ?_
  rintro e w' ⟨rfl,rfl⟩
  clear HNB
  go_wp2_with fail
  exact bodyPost_ret (v:=.tuple #[.agg #[.int .i64 (N / 8),.int .i64 5,.int .u64 X,.slice none 0 0],.int .i64 (k+4),.int .i64 0]) (by simp[results,Tryz.results64,go_sem]) rfl ⟨none,0,0,rfl,⟨rfl,by simp,.inl rfl⟩,NoA.zero,(((Below.refl _ _).alloc (Nat.le_refl _) _).alloc (by simp) _)⟩
set_option maxHeartbeats 2000000 in
theorem takeFieldR_1 (b off len cap:Nat) (zs:List Int) (w:World) (N:Int) (k:Nat) (hB:IsB w (some ⟨b,off,none⟩) len zs)
  (HT:∀ W,Below w.heap.size w W→Calls Tryz.prog 92 #[.slice (some ⟨b,off,none⟩) len cap] W fun e w'=>
   e=.returned (.tuple #[.int .u64 N,.int .i64 k,.int .i64 0])∧w'=W)
  (hN0:0≤N) (hN1:N≤18446744073709551615) (h1:1≤N / 8) (h2:N / 8≤536870911) (hty:N % 8=1) (hk:k≤len) (hlc:len≤cap) (hcm:cap≤9223372036854775807) (hk10:k≤10) :
  Calls Tryz.prog 64 #[.slice (some ⟨b,off,none⟩) len cap] w fun e w'=>TfAns w w' e (if (zs.drop k).length<8 then tfErr 5 else ⟨N / 8,1,low ((zs.drop k).take 8),[],k+8,0⟩):=by
 have HTT:Hid _:=HT
 have hdl:(zs.drop k).length=len - k:=by rw[List.length_drop,hB.1]
 clear HT
 by_cases hs:len - k<8
 ·rw[if_pos (by omega)]
  have hs':(len:Int) - (k:Int)<8:=by omega
  clear hdl hB
  go_enter Tryz.func64,Tryz.ntmps64
  go_wp2_with fail
  refine(HTT.out _ ((Below.refl _ _).alloc (Nat.le_refl _) _)).mono ?_
  rintro e w' ⟨rfl,rfl⟩
  clear HTT
  go_wp2_with fail
  exact bodyPost_ret (v:=.tuple #[.agg #[.int .i64 0,.int .i64 0,.int .u64 0,.slice none 0 0],.int .i64 0,.int .i64 5]) (by simp[results,Tryz.results64,go_sem]) rfl (tfErr_ans _ _ _ (((Below.refl _ _).alloc (Nat.le_refl _) _).alloc (by simp) _))
 ·rw[if_neg (by omega)]
  have hs':8≤(len:Int) - (k:Int):=by omega
  have hck:¬cap=k:=by omega
  have HNB:Hid (∀ W c,Below w.heap.size w W→Calls Tryz.prog 93 #[.slice (some ⟨b,off+k,none⟩) 8 c] W fun e w'=>e=.returned (.int .u64 (low ((zs.drop k).take 8)))∧w'=W):=by
   intro W c hW
   exact number_any _ 8 c _ W (isB_take (isB_dropAt (isB_old hB hW) k (by omega)) 8 (by omega)) (by omega)
  clear hdl hB
  generalize low ((zs.drop k).take 8)=X at *
  go_enter Tryz.func64,Tryz.ntmps64
  go_wp2_with fail
  refine(HTT.out _ ((Below.refl _ _).alloc (Nat.le_refl _) _)).mono ?_
  rintro e w' ⟨rfl,rfl⟩
  clear HTT
  go_wp2_with fail
  refine(HNB.out _ _ (((Below.refl _ _).alloc (Nat.le_refl _) _).alloc (by simp) _)).mono ?_
  rintro e w' ⟨rfl,rfl⟩
  clear HNB
  go_wp2_with fail
  exact bodyPost_ret (v:=.tuple #[.agg #[.int .i64 (N / 8),.int .i64 1,.int .u64 X,.slice none 0 0],.int .i64 (k+8),.int .i64 0]) (by simp[results,Tryz.results64,go_sem]) rfl ⟨none,0,0,rfl,⟨rfl,by simp,.inl rfl⟩,NoA.zero,(((Below.refl _ _).alloc (Nat.le_refl _) _).alloc (by simp) _)⟩
theorem below_rules {B:Nat} {W w1:World} (hb:Below B W w1):(∀ b o,b<B→w1.cell? ⟨b,o,none⟩=W.cell? ⟨b,o,none⟩)∧(∀ b o,b<B→w1.frozen? ⟨b,o,none⟩=W.frozen? ⟨b,o,none⟩):=
 ⟨fun b o h=>hb.cell (p:=⟨b,o,none⟩) h,fun b o h=>hb.frozen (p:=⟨b,o,none⟩) h⟩
theorem ownE_isB {w:World} {base:Nat} {v:Value} {xs:List Int} (h:OwnE w base v xs) (hb:∀ z∈xs,0≤z∧z≤255) (hm:xs.length≤281474976710656) :
  ∃ a c,v=.slice a xs.length c∧NoA a xs.length c∧∀ w',(∀ b o,base≤b→w'.cell? ⟨b,o,none⟩=w.cell? ⟨b,o,none⟩)→IsB w' a xs.length xs:=by
 rcases h with h | ⟨rfl,g,rfl⟩
 ·obtain⟨a,c,hv,hI,hlc,hno⟩:=own_isB h hb hm
  have hcm:c≤9223372036854775807:=by
   obtain⟨_,⟨h5,_⟩ | ⟨g,cap,cur,h5,_,_,_,h4,_⟩⟩:=h
   ·have:=(Value.slice.inj (hv.symm.trans h5)).2.2;omega
   ·have:=(Value.slice.inj (hv.symm.trans h5)).2.2;unfold maxLen at h4;omega
  refine⟨a,c,hv,⟨hno,hlc,hcm⟩,?_⟩
  intro w' hw
  obtain⟨h1,h2,h3⟩:=hI
  refine⟨h1,h2,?_⟩
  rcases h3 with h3 | ⟨g,off,ha,hh⟩
  ·exact .inl h3
  ·by_cases hx:xs=[]
   ·exact .inl hx
   ·refine .inr ⟨g,off,ha,?_,hh.2⟩
    intro j z hj
    rw[hw g _ ?_]
    ·exact hh.1 j z hj
    ·refine own_blockB h g ?_
     rw[hv,ha];rfl
 ·exact⟨_,0,rfl,⟨fun h=>by simp at h,Nat.le_refl _,by omega⟩,fun w' _=>⟨rfl,by simp,.inl rfl⟩⟩
set_option maxHeartbeats 2000000 in
theorem takeFieldR_2err (b off len cap:Nat) (w:World) (N:Int) (k:Nat)
  (HT:∀ W,Below w.heap.size w W→Calls Tryz.prog 92 #[.slice (some ⟨b,off,none⟩) len cap] W fun e w'=>
   e=.returned (.tuple #[.int .u64 N,.int .i64 k,.int .i64 0])∧w'=W)
  (X Q F:Int) (HT2:∀ W,Below w.heap.size w W→Calls Tryz.prog 92 #[.slice (some (cutAt b off cap k)) (len - k) (cap - k)] W fun e w'=>
   e=.returned (.tuple #[.int .u64 X,.int .i64 Q,.int .i64 F])∧w'=W)
  (hN0:0≤N) (hN1:N≤18446744073709551615) (h1:1≤N / 8) (h2:N / 8≤536870911) (hty:N % 8=2) (hk:k≤len) (hlc:len≤cap) (hcm:cap≤9223372036854775807) (hk10:k≤10) (hF:F≠0) :
  Calls Tryz.prog 64 #[.slice (some ⟨b,off,none⟩) len cap] w fun e w'=>TfAns w w' e (tfErr F):=by
 have HTT:Hid _:=HT
 have HTT2:Hid _:=HT2
 clear HT HT2
 have hFb:(F != 0)=true:=by simpa using hF
 by_cases hck:cap=k
 ·obtain rfl:len=k:=by omega
  subst hck
  rw[cutAt_end,Nat.sub_self]at HTT2
  clear hlc
  go_enter Tryz.func64,Tryz.ntmps64
  go_wp2_with fail
  refine(HTT.out _ ((Below.refl _ _).alloc (Nat.le_refl _) _)).mono ?_
  rintro e w' ⟨rfl,rfl⟩
  clear HTT
  go_wp2_with fail
  refine(HTT2.out _ (((Below.refl _ _).alloc (Nat.le_refl _) _).alloc (by simp) _)).mono ?_
  rintro e w' ⟨rfl,rfl⟩
  clear HTT2
  go_wp2_with fail
  exact bodyPost_ret (v:=.tuple #[.agg #[.int .i64 0,.int .i64 0,.int .u64 0,.slice none 0 0],.int .i64 0,.int .i64 F]) (by simp[results,Tryz.results64,go_sem]) rfl (tfErr_ans _ _ _ (((Below.refl _ _).alloc (Nat.le_refl _) _).alloc (by simp) _))
 ·rw[cutAt_in hck]at HTT2
  go_enter Tryz.func64,Tryz.ntmps64
  go_wp2_with fail
  refine(HTT.out _ ((Below.refl _ _).alloc (Nat.le_refl _) _)).mono ?_
  rintro e w' ⟨rfl,rfl⟩
  clear HTT
  go_wp2_with fail
  refine(HTT2.out _ (((Below.refl _ _).alloc (Nat.le_refl _) _).alloc (by simp) _)).mono ?_
  rintro e w' ⟨rfl,rfl⟩
  clear HTT2
  go_wp2_with fail
  exact bodyPost_ret (v:=.tuple #[.agg #[.int .i64 0,.int .i64 0,.int .u64 0,.slice none 0 0],.int .i64 0,.int .i64 F]) (by simp[results,Tryz.results64,go_sem]) rfl (tfErr_ans _ _ _ (((Below.refl _ _).alloc (Nat.le_refl _) _).alloc (by simp) _))
set_option maxHeartbeats 2000000 in
theorem takeFieldR_2short (b off len cap:Nat) (w:World) (N:Int) (k:Nat)
  (HT:∀ W,Below w.heap.size w W→Calls Tryz.prog 92 #[.slice (some ⟨b,off,none⟩) len cap] W fun e w'=>
   e=.returned (.tuple #[.int .u64 N,.int .i64 k,.int .i64 0])∧w'=W)
  (X:Int) (q:Nat) (HT2:∀ W,Below w.heap.size w W→Calls Tryz.prog 92 #[.slice (some (cutAt b off cap k)) (len - k) (cap - k)] W fun e w'=>
   e=.returned (.tuple #[.int .u64 X,.int .i64 q,.int .i64 0])∧w'=W)
  (hN0:0≤N) (hN1:N≤18446744073709551615) (h1:1≤N / 8) (h2:N / 8≤536870911) (hty:N % 8=2) (hk:k≤len) (hlc:len≤cap) (hcm:cap≤9223372036854775807) (hk10:k≤10) (hq:1≤q) (hkq:k+q≤len) (hX0:0≤X) (hX1:X≤18446744073709551615) (hs:(len:Int) - (k:Int) - (q:Int)<X) :
  Calls Tryz.prog 64 #[.slice (some ⟨b,off,none⟩) len cap] w fun e w'=>TfAns w w' e (tfErr 5):=by
 have HTT:Hid _:=HT
 have HTT2:Hid _:=HT2
 clear HT HT2
 have hck:¬cap=k:=by omega
 rw[cutAt_in hck]at HTT2
 go_enter Tryz.func64,Tryz.ntmps64
 go_wp2_with fail
 refine(HTT.out _ ((Below.refl _ _).alloc (Nat.le_refl _) _)).mono ?_
 rintro e w' ⟨rfl,rfl⟩
 clear HTT
 go_wp2_with fail
 refine(HTT2.out _ (((Below.refl _ _).alloc (Nat.le_refl _) _).alloc (by simp) _)).mono ?_
 rintro e w' ⟨rfl,rfl⟩
 clear HTT2
 go_wp2_with fail
 exact bodyPost_ret (v:=.tuple #[.agg #[.int .i64 0,.int .i64 0,.int .u64 0,.slice none 0 0],.int .i64 0,.int .i64 5]) (by simp[results,Tryz.results64,go_sem]) rfl (tfErr_ans _ _ _ (((Below.refl _ _).alloc (Nat.le_refl _) _).alloc (by simp) _))
set_option maxRecDepth 20000 in
set_option maxHeartbeats 4000000 in
theorem takeFieldR_2ok (zs:List Int) (b off len cap:Nat) (w:World) (N:Int) (k:Nat)
  (HT:∀ W,Below w.heap.size w W→Calls Tryz.prog 92 #[.slice (some ⟨b,off,none⟩) len cap] W fun e w'=>
   e=.returned (.tuple #[.int .u64 N,.int .i64 k,.int .i64 0])∧w'=W)
  (hB:IsB w (some ⟨b,off,none⟩) len zs) (X:Int) (q:Nat) (HT2:∀ W,Below w.heap.size w W→Calls Tryz.prog 92 #[.slice (some (cutAt b off cap k)) (len - k) (cap - k)] W fun e w'=>
   e=.returned (.tuple #[.int .u64 X,.int .i64 q,.int .i64 0])∧w'=W)
  (hN0:0≤N) (hN1:N≤18446744073709551615) (h1:1≤N / 8) (h2:N / 8≤536870911) (hty:N % 8=2) (hk:k≤len) (hlc:len≤cap) (hcm:cap≤9223372036854775807) (hlm:len≤140737488351232) (hk10:k≤10) (hq:1≤q) (hkq:k+q≤len) (x:Nat) (hX:X=(x:Int)) (hx:k+q+x≤len) (hc2:¬cap=k+q) :
  Calls Tryz.prog 64 #[.slice (some ⟨b,off,none⟩) len cap] w fun e w'=>TfAns w w' e ⟨N / 8,2,0,(zs.drop (k+q)).take x,k+q+x,0⟩:=by
 subst hX
 have HTT:Hid _:=HT
 have HTT2:Hid _:=HT2
 have HBB:Hid (IsB w (some ⟨b,off,none⟩) len zs):=hB
 have HDL:Hid (((zs.drop (k+q)).take x).length=x):=by
  refine(?_:((zs.drop (k+q)).take x).length=x)
  rw[List.length_take,List.length_drop,hB.1];omega
 have HDB:Hid (∀ z∈(zs.drop (k+q)).take x,0≤z∧z≤255):=fun z hz=>isB_bytes hB z (List.mem_of_mem_drop (List.mem_of_mem_take hz))
 clear HT HT2 hB
 have hck:¬cap=k:=by omega
 rw[cutAt_in hck]at HTT2
 go_enter Tryz.func64,Tryz.ntmps64
 go_wp2_with fail
 refine(HTT.out _ ((Below.refl _ _).alloc (Nat.le_refl _) _)).mono ?_
 rintro e w' ⟨rfl,rfl⟩
 clear HTT
 go_wp2_with fail
 refine(HTT2.out _ (((Below.refl _ _).alloc (Nat.le_refl _) _).alloc (by simp) _)).mono ?_
 rintro e w' ⟨rfl,rfl⟩
 clear HTT2
 go_wp2_with fail
 have HW:Hid (∀ W,Below w.heap.size w W→IsB W (some (cutAt b off cap (k+q))) x ((zs.drop (k+q)).take x)):=fun W hW=>
  isB_take (isB_cut (isB_old HBB.out hW) hlc (k+q) hkq) x (by omega)
 obtain⟨D,hD⟩:∃ D,(zs.drop (k+q)).take x=D:=⟨_,rfl⟩
 have HD:Hid ((zs.drop (k+q)).take x=D):=hD
 rw[hD]at HW HDL HDB
 clear hD
 rw[cutAt_in hc2]at HW
 go_cut [] (fun wx=>∃ a3 c3,wx.cell? ⟨w.heap.size+1,0,none⟩=some (.int .i64 (N / 8))∧wx.cell? ⟨w.heap.size+1,1,none⟩=some (.int .i64 2)∧wx.cell? ⟨w.heap.size+1,2,none⟩=some (.int .u64 0)∧wx.cell? ⟨w.heap.size+1,3,none⟩=some (.slice a3 x c3)∧
  (∀ o,o<4→∃ v,wx.cell? ⟨w.heap.size,o,none⟩=some v)∧(∀ o,wx.frozen? ⟨w.heap.size,o,none⟩=false)∧Below w.heap.size w wx∧w.heap.size+2≤wx.heap.size∧NoA a3 x c3∧
  (∀ w',(∀ b o,w.heap.size+2≤b→w'.cell? ⟨b,o,none⟩=wx.cell? ⟨b,o,none⟩)→IsB w' a3 x D))
 case first=>
  have hw1:IntKind.i64.wrap (x:Int)=(x:Int):=by rw[IntKind.wrap_i64];omega
  have hw2:IntKind.i64.wrap ((k:Int)+(q:Int)+(x:Int))=(k:Int)+(q:Int)+(x:Int):=by rw[IntKind.wrap_i64];omega
  have hA1:0≤(k:Int)+(q:Int)+(x:Int):=by omega
  have hA2:(k:Int)+(q:Int)+(x:Int)≤(cap:Int):=by omega
  have hA3:0≤(k:Int)+(q:Int):=by omega
  have hA4:(k:Int)+(q:Int)≤(k:Int)+(q:Int)+(x:Int):=by omega
  have hmx:max ((k:Int)+(q:Int)+(x:Int)) 0=(k:Int)+(q:Int)+(x:Int):=by omega
  have hT1:((k:Int)+(q:Int)+(x:Int)).toNat=k+q+x:=by omega
  have hT2:((k:Int)+(q:Int)).toNat=k+q:=by omega
  have hT3:k+q+x - (k+q)=x:=by omega
  have HBW:Hid (Below w.heap.size w ((w.alloc (.cells #[.int .i64 0,.int .i64 0,.int .u64 0,.slice none 0 0] 106)).alloc (.cells #[.int .i64 (N / 8),.int .i64 2,.int .u64 0,.slice none 0 0] 106)).drew):=(((Below.refl _ _).alloc (Nat.le_refl _) _).alloc (by simp) _).drew
  go_region_law (refine stepE_append rfl (.tmp 107) (.tmp 114) rfl (w.heap.size+2) (.slice none 0 0) [] rfl (.inl (own_nil _ _)) (some ⟨b,off+(k+q),none⟩) x (cap - (k+q)) D rfl (by exact HW.out _ (((Below.refl _ _).alloc (Nat.le_refl _) _).alloc (by simp) _).drew) (by simp) (by simp;omega) (by simp) ?_;intro v3 w3 hown3 hb3;simp only[List.nil_append]at hown3;obtain⟨a3,c3,rfl,hno3,hst3⟩:=ownE_isB hown3 HDB.out (by rw[HDL.out];omega);rw[HDL.out]at hno3 hst3 ⊢;have hb03:Below w.heap.size w w3:=HBW.out.trans (hb3.mono (by omega));obtain⟨hcc,hff⟩:=below_rules hb3;have hz3:w.heap.size+2≤w3.heap.size:=(by have:=hb3.size;simp at this;omega))
  all_goals
   have HCC:Hid (∀ b o,b<w.heap.size+2→w3.cell? ⟨b,o,none⟩=_):=hcc
   have HFF:Hid (∀ b o,b<w.heap.size+2→w3.frozen? ⟨b,o,none⟩=_):=hff
   have HST3:Hid _:=hst3
   have HN3:Hid _:=hno3
   clear hcc hff hst3 hno3 hw1 hw2 hA1 hA2 hA3 hA4 hmx hT1 hT2 hT3 hown3 hb3
   go_wp2_with fail
   go_meet
   have hcc:=HCC.out
   have hff:=HFF.out
   have hst3:=HST3.out
   have hno3:=HN3.out
   refine⟨a3,c3,?_,?_,?_,?_,?_,?_,hb03.setCell (by simp) _,by simpa using hz3,hno3,?_⟩
   ·rw[World.cell?_setCell_other _ _ _ _ (by simp),hcc _ _ (by omega)];simp
   ·rw[World.cell?_setCell_other _ _ _ _ (by simp),hcc _ _ (by omega)];simp
   ·rw[World.cell?_setCell_other _ _ _ _ (by simp),hcc _ _ (by omega)];simp
   ·refine World.cell?_setCell_same _ _ _ (u:=.slice none 0 0) ?_
    rw[hcc _ _ (by omega)];simp
   ·intro o ho
    rw[World.cell?_setCell_other _ _ _ _ (by simp),hcc _ _ (by omega)]
    match o,ho with
    | 0,_=>exact⟨_,by simp;rfl⟩
    | 1,_=>exact⟨_,by simp;rfl⟩
    | 2,_=>exact⟨_,by simp;rfl⟩
    | 3,_=>exact⟨_,by simp;rfl⟩
   ·intro o
    rw[World.frozen?_setCell,hff _ _ (by omega)];simp
   ·intro w' h
    exact hst3 w' (fun b o hb=>(h b o hb).trans (World.cell?_setCell_other _ _ _ _ (by simp <;> omega)))
 case rest=>
  obtain⟨a3,c3,e0,e1,e2,e3,hex,hfr,hbx,hzx,hno3,hst⟩:=hcut
  obtain⟨v0,r0⟩:=hex 0 (by omega)
  obtain⟨v1,r1⟩:=hex 1 (by omega)
  obtain⟨v2,r2⟩:=hex 2 (by omega)
  obtain⟨v3,r3⟩:=hex 3 (by omega)
  have HBX:Hid (Below w.heap.size w wc):=hbx
  have HST:Hid (∀ w',(∀ b o,w.heap.size+2≤b→w'.cell? ⟨b,o,none⟩=wc.cell? ⟨b,o,none⟩)→IsB w' a3 x D):=hst
  have HN3:Hid (NoA a3 x c3):=hno3
  clear hex hbx hst hno3 HW HBB HDL HDB
  go_wp2_with fail
  refine bodyPost_ret (v:=.tuple #[.agg #[.int .i64 (N / 8),.int .i64 2,.int .u64 0,.slice a3 x c3],.int .i64 (k+q+x),.int .i64 0]) ?_ rfl ⟨a3,x,c3,rfl,?_,HN3.out,?_⟩
  ·simp[results,Tryz.results64,go_sem,r0,r1,r2,r3]
  ·refine stable_newB ?_
   intro w2 h2
   rw[HD.out]
   refine HST.out _ (fun b o hb=>?_)
   rw[h2 b o (by omega),World.cell?_setCell_other _ _ _ _ (by simp <;> omega),World.cell?_setCell_other _ _ _ _ (by simp <;> omega),World.cell?_setCell_other _ _ _ _ (by simp <;> omega),World.cell?_setCell_other _ _ _ _ (by simp <;> omega)]
  ·exact(((HBX.out.setCell (by simp) _).setCell (by simp) _).setCell (by simp) _).setCell (by simp) _
end Go.Proofs.YteajlfgbmefncaaGreatDoor
