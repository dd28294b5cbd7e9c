/-
  The cells of one declaration of a list.
  What the library functions that this program calls answer, as theorems over this translation: each is one application of a theorem of the given library. Nothing is proved of the program itself here.
  The walk over the library's strings.SplitN at a dot.
  The walks over the document's own Scalar and Reserved.
  The document's own reader of words in memory, and the walks over its fail, here, is and take.
  The walks over the document's own reader: here, is, take, name and number.
  The walk over the document's own path of a reader.
  The walk over the document's own enum of a reader.
  What a message that is being read keeps in memory: its fields and what lies in it, each in a slice that grows. Nothing is proved of the program here.
  A slice that a loop fills in a declaration of its own: what holds in memory meanwhile. Nothing is proved of the program here.
-/
import Derived.Test.YtpojeinddnjpfaaGreatDoorM17
import Derived.Shelf.Strings.Search3
import Derived.Shelf.Strings.Split
import Derived.Shelf.LaysM
import Derived.Ground.NamesProg
import Derived.Test.YtpojeinddnjpfaaGreatDoorProg
import Derived.Test.YtpojeinddnjpfaaGreatDoorM3
import Derived.Test.YtpojeinddnjpfaaGreatDoorM0
import Derived.Test.YtpojeinddnjpfaaGreatDoorM2
import Derived.Test.YtpojeinddnjpfaaGreatDoorM16
import Derived.Test.YtpojeinddnjpfaaGreatDoorM4
import Derived.Lib.IndexBytes
import Derived.Laws.AppendOwn
import Derived.OwnWalk
import Derived.Maps.AppendAt
import Derived.BigQuiet
import Derived.Deep.QuietTactic
import Derived.Lib.Hide
import Derived.Test.YtpojeinddnjpfaaGreatDoorM1
import Derived.Deep.AppendLies
import Derived.Deep.Cut
import Derived.Deep.DeepCutAuto
import Derived.Deep.RegionLaw
import Derived.Deep.RegionHeldLaw
namespace Go.Proofs.YtpojeinddnjpfaaGreatDoor
set_option linter.unusedVariables false
open Go.RowKit

theorem decl_at {f : Nat} {w W : World} {S : Nat → Prop} {v : Value} {ds : List Dc} (h : HeldD (f + 1) w S v ds) (hW : ∀ b, S b → W.heap[b]? = w.heap[b]?) {q : Nat} {x : Dc} (hx : ds[q]? = some x) :
  ∃ g o c fa fc va vc ma mc ia ic, v = .slice (some ⟨g, o, none⟩) ds.length c ∧ S g ∧ W.cell? ⟨g, o + q * 8, none⟩ = some (.int .i64 x.kind) ∧ W.cell? ⟨g, o + q * 8 + 1, none⟩ = some (.string (mkB x.name)) ∧
   W.cell? ⟨g, o + q * 8 + 2, none⟩ = some (.int .i64 x.line) ∧ W.cell? ⟨g, o + q * 8 + 3, none⟩ = some (.int .i64 x.col) ∧ W.cell? ⟨g, o + q * 8 + 4, none⟩ = some (.slice fa x.fields.length fc) ∧
   W.cell? ⟨g, o + q * 8 + 5, none⟩ = some (.slice va x.values.length vc) ∧ W.cell? ⟨g, o + q * 8 + 6, none⟩ = some (.slice ma x.methods.length mc) ∧ W.cell? ⟨g, o + q * 8 + 7, none⟩ = some (.slice ia x.inner.length ic) ∧
   Kids f W S (.slice fa x.fields.length fc) (.slice va x.values.length vc) (.slice ma x.methods.length mc) (.slice ia x.inner.length ic) x := by
 obtain ⟨ad, c, hsl, hcc, hrows⟩ := h
 rcases hrows with h0 | ⟨g, o, had, hg, hrow⟩
 ·rw [h0] at hx; simp at hx
 subst had
 obtain ⟨fs, vs, ms, ins, hcell, kd⟩ := hrow q x hx
 have kd : Kids f w S fs vs ms ins x := kd
 have kd0 := kd
 obtain ⟨r1, r2, r3, r4⟩ := kd0
 obtain ⟨fa, fc, rfl⟩ := r1.isSl
 obtain ⟨va, vc, rfl⟩ := r2.isSl
 obtain ⟨ma, mc, rfl⟩ := r3.isSl
 obtain ⟨ia, ic, rfl⟩ := r4.isSlD
 have hb := hW g hg
 have hc : ∀ i u, (drow x (.slice fa x.fields.length fc) (.slice va x.values.length vc) (.slice ma x.methods.length mc) (.slice ia x.inner.length ic))[i]? = some u → W.cell? ⟨g, o + (q * 8 + i), none⟩ = some u := fun i u hu => by
  rw [World.cell?_of_block hb]; exact hcell i u hu
 refine ⟨g, o, c, fa, fc, va, vc, ma, mc, ia, ic, hsl, hg, ?_, ?_, ?_, ?_, ?_, ?_, ?_, ?_, kd.old hW⟩
 ·have := hc 0 _ rfl; simpa [Nat.add_assoc] using this
 ·have := hc 1 _ rfl; simpa [Nat.add_assoc] using this
 ·have := hc 2 _ rfl; simpa [Nat.add_assoc] using this
 ·have := hc 3 _ rfl; simpa [Nat.add_assoc] using this
 ·have := hc 4 _ rfl; simpa [Nat.add_assoc] using this
 ·have := hc 5 _ rfl; simpa [Nat.add_assoc] using this
 ·have := hc 6 _ rfl; simpa [Nat.add_assoc] using this
 ·have := hc 7 _ rfl; simpa [Nat.add_assoc] using this
end Go.Proofs.YtpojeinddnjpfaaGreatDoor
namespace Go.Proofs.YtpojeinddnjpfaaGreatDoor
open Go.Shelf
def lays143_ren : Go.Shelf.Ren := ⟨fun | 143 => 155 | 219 => 192 | 217 => 209 | 225 => 212 | 224 => 213 | 267 => 214 | 266 => 220 | 314 => 226 | n => n, fun | 9 => 9 | 3 => 3 | 4 => 4 | 5 => 5 | 46 => 223 | 146 => 289 | 51 => 252 | n => n, fun | 1 => 0 | n => n⟩
theorem lays143 : Go.Proofs.Lays.n143 Tryz.prog lays143_ren := {
  mixed := by kernel_rfl
  f143 := Tryz.func155.trans (congrArg some (by kernel_rfl))
  f217 := Tryz.func209.trans (congrArg some (by kernel_rfl))
  f219 := Tryz.func192.trans (congrArg some (by kernel_rfl))
  f224 := Tryz.func213.trans (congrArg some (by kernel_rfl))
  f225 := Tryz.func212.trans (congrArg some (by kernel_rfl))
  f266 := Tryz.func220.trans (congrArg some (by kernel_rfl))
  f267 := Tryz.func214.trans (congrArg some (by kernel_rfl))
  f314 := Tryz.func226.trans (congrArg some (by kernel_rfl))
  t3 := Tryz.underlying3
  a3 := Tryz.isAgg3
  z3 := Tryz.sizeOf3
  v3 := Tryz.zeroValue3
  t4 := Tryz.underlying4
  a4 := Tryz.isAgg4
  z4 := Tryz.sizeOf4
  v4 := Tryz.zeroValue4
  t5 := Tryz.underlying5
  a5 := Tryz.isAgg5
  z5 := Tryz.sizeOf5
  v5 := Tryz.zeroValue5
  t9 := Tryz.underlying9
  a9 := Tryz.isAgg9
  z9 := Tryz.sizeOf9
  v9 := Tryz.zeroValue9
  t46 := Tryz.underlying223
  a46 := Tryz.isAgg223
  z46 := Tryz.sizeOf223
  v46 := Tryz.zeroValue223
  t51 := Tryz.underlying252
  a51 := Tryz.isAgg252
  z51 := Tryz.sizeOf252
  v51 := Tryz.zeroValue252
  t146 := Tryz.underlying289
  a146 := Tryz.isAgg289
  z146 := Tryz.sizeOf289
  v146 := Tryz.zeroValue289
  g1 := by kernel_rfl }
open Go.RowKit Go.Lib in
theorem strings_Index_one (s : ByteArray) (c : UInt8) (w : World) :
    Calls Tryz.prog 155 #[.string s, .string ⟨#[c]⟩] w fun e w' => e = .returned (.int .i64 (Lib.indexByte s.data.toList c)) ∧ w' = w := Any.strings_Index_one lays143 s c w
def lays221_ren : Go.Shelf.Ren := ⟨fun | 221 => 197 | 268 => 217 | 138 => 113 | 143 => 155 | 195 => 114 | 197 => 165 | 218 => 154 | 219 => 192 | 260 => 196 | 217 => 209 | 225 => 212 | 224 => 213 | 267 => 214 | 266 => 220 | 314 => 226 | n => n, fun | 9 => 9 | 3 => 3 | 31 => 100 | 4 => 4 | 0 => 0 | 105 => 198 | 21 => 21 | 5 => 5 | 46 => 223 | 119 => 265 | 139 => 268 | 138 => 267 | 146 => 289 | 51 => 252 | n => n, fun | 1 => 0 | 3 => 1 | 4 => 2 | n => n⟩
theorem lays221 : Go.Proofs.Lays.n221 Tryz.prog lays221_ren := {
  mixed := by kernel_rfl
  f138 := Tryz.func113.trans (congrArg some (by kernel_rfl))
  f143 := Tryz.func155.trans (congrArg some (by kernel_rfl))
  f195 := Tryz.func114.trans (congrArg some (by kernel_rfl))
  f197 := Tryz.func165.trans (congrArg some (by kernel_rfl))
  f217 := Tryz.func209.trans (congrArg some (by kernel_rfl))
  f218 := Tryz.func154.trans (congrArg some (by kernel_rfl))
  f219 := Tryz.func192.trans (congrArg some (by kernel_rfl))
  f221 := Tryz.func197.trans (congrArg some (by kernel_rfl))
  f224 := Tryz.func213.trans (congrArg some (by kernel_rfl))
  f225 := Tryz.func212.trans (congrArg some (by kernel_rfl))
  f260 := Tryz.func196.trans (congrArg some (by kernel_rfl))
  f266 := Tryz.func220.trans (congrArg some (by kernel_rfl))
  f267 := Tryz.func214.trans (congrArg some (by kernel_rfl))
  f268 := Tryz.func217.trans (congrArg some (by kernel_rfl))
  f314 := Tryz.func226.trans (congrArg some (by kernel_rfl))
  t0 := Tryz.underlying0
  a0 := Tryz.isAgg0
  z0 := Tryz.sizeOf0
  v0 := Tryz.zeroValue0
  t3 := Tryz.underlying3
  a3 := Tryz.isAgg3
  z3 := Tryz.sizeOf3
  v3 := Tryz.zeroValue3
  t4 := Tryz.underlying4
  a4 := Tryz.isAgg4
  z4 := Tryz.sizeOf4
  v4 := Tryz.zeroValue4
  t5 := Tryz.underlying5
  a5 := Tryz.isAgg5
  z5 := Tryz.sizeOf5
  v5 := Tryz.zeroValue5
  t9 := Tryz.underlying9
  a9 := Tryz.isAgg9
  z9 := Tryz.sizeOf9
  v9 := Tryz.zeroValue9
  t21 := Tryz.underlying21
  a21 := Tryz.isAgg21
  z21 := Tryz.sizeOf21
  v21 := Tryz.zeroValue21
  t31 := Tryz.underlying100
  a31 := Tryz.isAgg100
  z31 := Tryz.sizeOf100
  v31 := Tryz.zeroValue100
  t46 := Tryz.underlying223
  a46 := Tryz.isAgg223
  z46 := Tryz.sizeOf223
  v46 := Tryz.zeroValue223
  t51 := Tryz.underlying252
  a51 := Tryz.isAgg252
  z51 := Tryz.sizeOf252
  v51 := Tryz.zeroValue252
  t105 := Tryz.underlying198
  a105 := Tryz.isAgg198
  z105 := Tryz.sizeOf198
  v105 := Tryz.zeroValue198
  t119 := Tryz.underlying265
  a119 := Tryz.isAgg265
  z119 := Tryz.sizeOf265
  t138 := Tryz.underlying267
  a138 := Tryz.isAgg267
  z138 := Tryz.sizeOf267
  v138 := Tryz.zeroValue267
  t139 := Tryz.underlying268
  a139 := Tryz.isAgg268
  z139 := Tryz.sizeOf268
  v139 := Tryz.zeroValue268
  t146 := Tryz.underlying289
  a146 := Tryz.isAgg289
  z146 := Tryz.sizeOf289
  v146 := Tryz.zeroValue289
  g1 := by kernel_rfl
  g3 := by kernel_rfl
  g4 := by kernel_rfl }
open Go.RowKit Go.Lib in
theorem strings_genSplit (s sep : ByteArray) (sv : Nat) (n : Int) (N : Nat) (m : Int) (w : World) (hs : s.size < 4294967281) (hm : w.cell? ⟨0, 0, none⟩ = some (.int .i64 m)) (h1 : 1 ≤ sep.size) (hsv : sv ≤ sep.size) (hn0 : n ≠ 0) (hn63 : n ≤ 9223372036854775807) (hN : (N : Int) = min (if n < 0 then (Lib.countB s sep : Int) + 1 else n) ((s.size : Int) + 1)) :
    Calls Tryz.prog 197 #[.string s, .string sep, .int .i64 sv, .int .i64 n] w fun e w' =>
      e = .returned (.slice (some ⟨w.heap.size, 0, none⟩) (Lib.splitB sep sv (N - 1) s).length N) ∧ w' = w.alloc (.cells (Lib.cellsOf (Lib.splitB sep sv (N - 1) s) N) 9) := Any.strings_genSplit lays221 (by kernel_rfl) s sep sv n N m w hs hm h1 hsv hn0 hn63 hN
end Go.Proofs.YtpojeinddnjpfaaGreatDoor
namespace Go.Proofs.YtpojeinddnjpfaaGreatDoor
set_option linter.unusedVariables false
open Go.Shelf Go.RowKit

def pieces (s : ByteArray) : List ByteArray := (pcs [] s.data.toList).map fun l => ⟨l.toArray⟩
theorem pieces_len (s : ByteArray) : 1 ≤ (pieces s).length ∧ (pieces s).length ≤ s.size + 1 := by
 unfold pieces; rw [List.length_map, ← len_data]; exact pcs_len _ _
theorem mk_data : ∀ (xs : List ByteArray) (L : List (List UInt8)), xs.map (·.data.toList) = L → xs = L.map fun l => ⟨l.toArray⟩
 | [], L, h => by subst h; rfl
 | x :: t, L, h => by
  subst h
  rw [List.map_cons, List.map_cons, ← mk_data t _ rfl]
theorem splitB_few (s : ByteArray) (h : (pieces s).length ≤ 8) : Lib.splitB ⟨#[46]⟩ 0 (min 9 (s.size + 1) - 1) s = pieces s := by
 refine mk_data _ _ ?_
 rw [Lib.splitB_data]
 show Lib.splitK [46] 0 _ _ = _
 have hl := pieces_len s
 unfold pieces at h hl
 rw [List.length_map] at h hl
 exact (splitK_pcs _ _).1 (by omega)
theorem splitB_many (s : ByteArray) (h : 8 < (pieces s).length) : 8 < (Lib.splitB ⟨#[46]⟩ 0 (min 9 (s.size + 1) - 1) s).length := by
 have hl := pieces_len s
 unfold pieces at h hl
 rw [List.length_map] at h hl
 have e : (Lib.splitB ⟨#[46]⟩ 0 (min 9 (s.size + 1) - 1) s).length = (Lib.splitK [46] 0 (min 9 (s.size + 1) - 1) s.data.toList).length := by
  rw [← List.length_map (f := fun x : ByteArray => x.data.toList), Lib.splitB_data]
 rw [e]
 have hk : min 9 (s.size + 1) - 1 = 8 := by omega
 rw [hk]
 by_cases h9 : (pcs [] s.data.toList).length ≤ 8 + 1
 ·rw [(splitK_pcs 8 _).1 h9]; exact h
 ·rw [(splitK_pcs 8 _).2 (by omega)]; omega

def HeldS (w : World) (g : Nat) (xs : List ByteArray) : Prop := ∀ (j : Nat) (x : ByteArray), xs[j]? = some x → w.cell? ⟨g, j, none⟩ = some (.string x)
set_option maxHeartbeats 1000000 in
theorem splitN_any (s : ByteArray) (w : World) (hs : s.size ≤ 4000000000) :
  Calls Tryz.prog 167 #[.string s, .string ⟨#[46]⟩, .int .i64 9] w fun e w' =>
   e = .returned (.slice (some ⟨w.heap.size, 0, none⟩) (Lib.splitB ⟨#[46]⟩ 0 (min 9 (s.size + 1) - 1) s).length (min 9 (s.size + 1))) ∧ w' = w.alloc (.cells (Lib.cellsOf (Lib.splitB ⟨#[46]⟩ 0 (min 9 (s.size + 1) - 1) s) (min 9 (s.size + 1))) 9) := by
 have hG : Calls Tryz.prog 197 #[.string s, .string ⟨#[46]⟩, .int .i64 0, .int .i64 9] w fun e w' =>
   e = .returned (.slice (some ⟨w.heap.size, 0, none⟩) (Lib.splitB ⟨#[46]⟩ 0 (min 9 (s.size + 1) - 1) s).length (min 9 (s.size + 1))) ∧ w' = w.alloc (.cells (Lib.cellsOf (Lib.splitB ⟨#[46]⟩ 0 (min 9 (s.size + 1) - 1) s) (min 9 (s.size + 1))) 9) :=
  Any.strings_genSplit_core lays221 (by kernel_rfl) s ⟨#[46]⟩ 0 9 (min 9 (s.size + 1)) w (by omega) (by decide) (by decide)
   (fun x c hx => (strings_Index_one x 46 _).mono fun e w' ⟨he, hw⟩ => ⟨by
    rw [he]
    show _ = Ending.returned (Value.int .i64 (Lib.index x.data.toList [46]))
    rw [Lib.index_one], hw⟩)
   ((strings_Count_one s 46 w).mono fun e w' ⟨he, hw⟩ => ⟨by
    rw [he]
    show _ = Ending.returned (Value.int .i64 ((Lib.count s.data.toList [46] : Nat) : Int))
    rw [Lib.count_one]; rfl, hw⟩)
   (by decide) (by decide) (by rw [if_neg (by decide)]; omega)
 go_enter Tryz.func167, Tryz.ntmps167
 go_wp2_with fail
 refine hG.mono ?_
 rintro e w1 ⟨rfl, hw⟩
 go_wp2_with fail
 go_ret
 exact ⟨rfl, rfl⟩

theorem cellsOf_get {xs : List ByteArray} {N j : Nat} {x : ByteArray} (h : xs[j]? = some x) : (Lib.cellsOf xs N)[j]? = some (.string x) := by
 have hlt := (List.getElem?_eq_some_iff.1 h).1
 unfold Lib.cellsOf
 rw [List.getElem?_toArray, List.getElem?_append_left (by simpa using hlt)]
 simp [h]
theorem setSame (w : World) (g j : Nat) (c : Array Value) (t : TypeId) (v : Value) (hg : w.heap[g]? = some (.cells c t (0, 0))) (hv : c[j]? = some v) : (w.setCell ⟨g, j, none⟩ v).heap[g]? = some (.cells c t (0, 0)) := by
 rw [setCell_eq_setRow _ _ _ _ _ _ _ hg]
 rw [setRow_heap w g c _ t _ hg]
 congr 2
 apply Array.ext_getElem?
 intro k
 rw [Array.getElem?_setIfInBounds]
 split
 ·rename_i h
  subst h
  split
  ·exact hv.symm
  ·rename_i h2
   rw [Array.getElem?_eq_none (by omega)]
 ·rfl
def isPlain (x : ByteArray) : Bool := nameOf (runes x) && !resOf x.toList
theorem alloc_heap (w : World) (o : Obj) : (w.alloc o).heap[w.heap.size]? = some o := by
 show (w.heap.push o)[w.heap.size]? = _
 simp
theorem blk_lt {w : World} {b : Nat} {o : Obj} (h : w.heap[b]? = some o) : b < w.heap.size := (Array.getElem?_eq_some_iff.1 h).1
def allPlain (s : ByteArray) : Bool := (pieces s).all isPlain
theorem plain_of (x : ByteArray) : isPlain x = (nameOf (runes x) && !resOf x.toList) := rfl
theorem all_dropS {l : List ByteArray} {k : Nat} {z : ByteArray} (h : l[k]? = some z) (p : ByteArray → Bool) : (l.drop k).all p = (p z && (l.drop (k + 1)).all p) := by
 have hlt := (List.getElem?_eq_some_iff.1 h).1
 rw [List.drop_eq_getElem_cons hlt, List.all_cons, (List.getElem?_eq_some_iff.1 h).2]
theorem piece_size {s : ByteArray} {x : ByteArray} (h : x ∈ pieces s) : x.size ≤ s.size := by
 have : ∀ (l cur : List UInt8) (y : List UInt8), y ∈ pcs cur l → y.length ≤ cur.length + l.length := by
  intro l
  induction l with
  | nil => intro cur y hy; simp [pcs] at hy; subst hy; simp
  | cons b t ih =>
   intro cur y hy
   rw [pcs] at hy
   split at hy
   ·rcases List.mem_cons.1 hy with rfl | hy
    ·simp
    ·have := ih [] y hy; simp at this ⊢; omega
   ·have := ih _ y hy; simp at this ⊢; omega
 unfold pieces at h
 rw [List.mem_map] at h
 obtain ⟨y, hy, rfl⟩ := h
 have h2 := this s.data.toList [] y hy
 rw [len_data] at h2
 have : (ByteArray.mk y.toArray).size = y.length := by show y.toArray.size = _; simp
 rw [this]; simpa using h2
end Go.Proofs.YtpojeinddnjpfaaGreatDoor
namespace Go.Proofs.YtpojeinddnjpfaaGreatDoor
set_option linter.unusedVariables false
open Go.ChangeShapes Go.WideShapes Go.ChangeAt Go.RowKit

theorem retI {a b : Int} (h : a = b) : Ending.returned (.int .i64 a) = .returned (.int .i64 b) := by rw [h]
end Go.Proofs.YtpojeinddnjpfaaGreatDoor
namespace Go.Proofs.YtpojeinddnjpfaaGreatDoor
set_option linter.unusedVariables false
open Go.ChangeShapes Go.WideShapes Go.ChangeAt Go.RowKit

structure RdAt (w : World) (R : Nat) (en : Int × Int) (r : Rd) : Prop where
 cells : ∃ ad c, w.heap[R]? = some (.cells #[.slice ad r.l.length c, .int .i64 en.1, .int .i64 en.2, .int .i64 r.pl, .int .i64 r.pc, .int .i64 r.e] 153 (0, 0)) ∧ r.l.length ≤ c ∧ WordsAt w R ad r.l
 good : ∀ x ∈ r.l, GoodW x
 few : r.l.length ≤ 4000
theorem RdAt.lt {w : World} {R : Nat} {en : Int × Int} {r : Rd} (h : RdAt w R en r) : R < w.heap.size := by
 obtain ⟨ad, c, hc, _⟩ := h.cells
 exact (Array.getElem?_eq_some_iff.1 hc).1
theorem RdAt.old {w w' : World} {R : Nat} {en : Int × Int} {r : Rd} (h : RdAt w R en r) (hb : ∀ k, k < R + 1 → w'.heap[k]? = w.heap[k]?) : RdAt w' R en r := by
 obtain ⟨ad, c, hc, hl, hw⟩ := h.cells
 exact ⟨⟨ad, c, by rw [hb R (by omega)]; exact hc, hl, hw.old fun k hk => hb k (by omega)⟩, h.good, h.few⟩
theorem RdAt.below {w w' : World} {R : Nat} {en : Int × Int} {r : Rd} (h : RdAt w R en r) (hb : Below w.heap.size w w') : RdAt w' R en r :=
 h.old fun k hk => hb.block k (by have := h.lt; omega)
theorem RdAt.alloc {w : World} {R : Nat} {en : Int × Int} {r : Rd} (h : RdAt w R en r) (o : Obj) : RdAt (w.alloc o) R en r := h.below ((Below.refl _ w).alloc (Nat.le_refl _) o)
theorem RdAt.drew {w : World} {R : Nat} {en : Int × Int} {r : Rd} (h : RdAt w R en r) : RdAt w.drew R en r := h.old fun _ _ => rfl
theorem RdAt.far {w : World} {R : Nat} {en : Int × Int} {r : Rd} (h : RdAt w R en r) (g j : Nat) (hg : R < g) (x : Value) : RdAt (w.setCell ⟨g, j, none⟩ x) R en r :=
 h.old fun k hk => Below.heap_setCell _ _ _ _ (by show k ≠ g; omega)
theorem RdAt.get {w : World} {R : Nat} {en : Int × Int} {r : Rd} (h : RdAt w R en r) : ∃ ad c, r.l.length ≤ c ∧ WordsAt w R ad r.l ∧
  w.heap[R]? = some (.cells #[.slice ad r.l.length c, .int .i64 en.1, .int .i64 en.2, .int .i64 r.pl, .int .i64 r.pc, .int .i64 r.e] 153 (0, 0)) ∧
  w.cell? ⟨R, 0, none⟩ = some (.slice ad r.l.length c) ∧ w.cell? ⟨R, 1, none⟩ = some (.int .i64 en.1) ∧ w.cell? ⟨R, 2, none⟩ = some (.int .i64 en.2) ∧ w.cell? ⟨R, 3, none⟩ = some (.int .i64 r.pl) ∧ w.cell? ⟨R, 4, none⟩ = some (.int .i64 r.pc) ∧ w.cell? ⟨R, 5, none⟩ = some (.int .i64 r.e) ∧
  (∀ j, w.frozen? ⟨R, j, none⟩ = false) := by
 obtain ⟨ad, c, hc, hl, hw⟩ := h.cells
 refine ⟨ad, c, hl, hw, hc, ?_, ?_, ?_, ?_, ?_, ?_, ?_⟩
 all_goals simp [World.cell?, World.frozen?, hc]
end Go.Proofs.YtpojeinddnjpfaaGreatDoor
namespace Go.Proofs.YtpojeinddnjpfaaGreatDoor
set_option linter.unusedVariables false
open Go.ChangeShapes Go.WideShapes Go.ChangeAt Go.RowKit

theorem RdAt.tail {w : World} {R : Nat} {en : Int × Int} {r : Rd} (h : RdAt w R en r) {y : Wd} {t : List Wd} (hrl : r.l = y :: t) {g o c : Nat}
  (hc : w.heap[R]? = some (.cells #[.slice (some ⟨g, o, none⟩) r.l.length c, .int .i64 en.1, .int .i64 en.2, .int .i64 r.pl, .int .i64 r.pc, .int .i64 r.e] 153 (0, 0))) (hw : WordsAt w R (some ⟨g, o, none⟩) r.l) (hl : r.l.length ≤ c)
  (ad' : Option Addr) (hd : t.length = 0 ∨ ad' = some ⟨g, o + 4, none⟩) : RdAt (w.setCell ⟨R, 0, none⟩ (.slice ad' t.length (c - 1))) R en r.tail := by
 have e : r.tail.l = t := by unfold Rd.tail; rw [hrl]; rfl
 refine ⟨⟨ad', c - 1, ?_, ?_, ?_⟩, ?_, ?_⟩
 ·rw [setCell_heap hc, e]; rfl
 ·rw [e]; rw [hrl] at hl; simp at hl; omega
 ·rw [e]
  refine WordsAt.old (w := w) ?_ fun k hk => Below.heap_setCell _ _ _ _ (by show k ≠ R; omega)
  rw [hrl] at hw
  exact hw.tail rfl ad' (hd.imp List.eq_nil_of_length_eq_zero id)
 ·intro x hx; rw [e] at hx; exact h.good x (by rw [hrl]; exact List.mem_cons_of_mem _ hx)
 ·rw [e]; have := h.few; rw [hrl] at this; simp at this; omega
end Go.Proofs.YtpojeinddnjpfaaGreatDoor
namespace Go.Proofs.YtpojeinddnjpfaaGreatDoor
set_option linter.unusedVariables false
open Go.ChangeShapes Go.WideShapes Go.ChangeAt Go.RowKit

theorem Rd.nameT_len {w : World} {R : Nat} {en : Int × Int} {r : Rd} (h : RdAt w R en r) : r.nameT.length ≤ 20000 := by
 unfold Rd.nameT Rd.text
 split
 ·cases hl : r.l with
  | nil => simp
  | cons y t => exact (h.good y (by rw [hl]; simp)).1
 ·simp
end Go.Proofs.YtpojeinddnjpfaaGreatDoor
namespace Go.Proofs.YtpojeinddnjpfaaGreatDoor
set_option linter.unusedVariables false
open Go.ChangeShapes Go.WideShapes Go.ChangeAt Go.RowKit

theorem RdAt.m {w : World} {R : Nat} {en : Int × Int} {r : Rd} (h : RdAt w R en r) : rdM w R = r.m := by
 obtain ⟨ad, c, _, _, _, c0, _, _, _, _, c5, _⟩ := h.get
 unfold rdM Rd.m
 rw [c0, c5]
end Go.Proofs.YtpojeinddnjpfaaGreatDoor
namespace Go.Proofs.YtpojeinddnjpfaaGreatDoor
set_option linter.unusedVariables false
open Go.ChangeShapes Go.WideShapes Go.ChangeAt Go.RowKit

theorem infoDc : (Tryz.prog.info? 54).map (fun i => (i.zero, i.size, i.bytes)) = some (some (.agg #[.int .i64 0, .string ⟨#[]⟩, .int .i64 0, .int .i64 0, .slice none 0 0, .slice none 0 0, .slice none 0 0, .slice none 0 0]), 8, 136) := by kernel_rfl
end Go.Proofs.YtpojeinddnjpfaaGreatDoor
namespace Go.Proofs.YtpojeinddnjpfaaGreatDoor
set_option linter.unusedVariables false
open Go.ChangeShapes Go.WideShapes Go.ChangeAt Go.RowKit

structure Lp (ws wx : World) (D : Nat) (DT : TypeId) (cs : Array Value) (E : TypeId) (k : Nat) (v : Value) (n : Nat) (xs : List Value) : Prop where
 gr : ws.grownBy wx (some D)
 loc : wx.heap[D]? = some (.cells cs DT (0, 0))
 own : wx.ownsRow ws.heap.size E k v n xs
 lt : D < ws.heap.size
section
variable {ws wx : World} {D : Nat} {DT : TypeId} {cs : Array Value} {E : TypeId} {k : Nat} {v : Value} {n : Nat} {xs : List Value}
theorem Lp.size (h : Lp ws wx D DT cs E k v n xs) : ws.heap.size ≤ wx.heap.size := h.gr.size
theorem Lp.start (ws : World) {D : Nat} {DT : TypeId} {cs : Array Value} (h : ws.heap[D]? = some (.cells cs DT (0, 0))) (E : TypeId) (k : Nat) : Lp ws ws D DT cs E k (.slice none 0 0) 0 [] :=
 ⟨World.grownBy.refl _ _, h, World.ownsRow_nil _ _ _ _, (Array.getElem?_eq_some_iff.1 h).1⟩
theorem Lp.alloc (h : Lp ws wx D DT cs E k v n xs) (o : Obj) : Lp ws (wx.alloc o) D DT cs E k v n xs := by
 have hl := h.lt
 have hs := h.size
 exact ⟨h.gr.trans (World.grownBy_alloc _ _ _), by rw [alloc_heap_old _ _ _ (by omega)]; exact h.loc, World.ownsRow.alloc h.own o, hl⟩
theorem Lp.drew (h : Lp ws wx D DT cs E k v n xs) : Lp ws wx.drew D DT cs E k v n xs := ⟨h.gr.trans (grownBy_drew _ _), h.loc, h.own, h.lt⟩
theorem Lp.keep (h : Lp ws wx D DT cs E k v n xs) {b : Nat} (hb : b < ws.heap.size) (hne : b ≠ D) : wx.heap[b]? = ws.heap[b]? := h.gr.block b hb (by intro e; cases e; exact hne rfl)
theorem Lp.push (h : Lp ws wx D DT cs E k v n xs) (j : Nat) {ops : Array Oper} {o : Oper} {a : Act} {K : Act → World → Prop} {Q : Exit → Act → World → Prop} {EE : Prop} (hgd : o.guard = none) (s' x' : Operand) (t : TypeId)
  (ho : o.op = .call { callee := .builtin .append, args := #[s', x'], argTypes := #[t, t] }) (ht : Tryz.prog.underlying t = some (.slice E)) (z : Value) (bytes : Nat)
  (hi : (Tryz.prog.info? E).map (fun i => (i.zero, i.size, i.bytes)) = some (some z, k, bytes)) (hzs : z.cells.size = k) (hk0 : 0 < k) (row : List Value) (hrow : row.length = k) (hone : ∀ u ∈ row, u.oneCell' = true)
  (crow : Array Value) (hcs : crow = row.toArray) (hs : a.eval s' = v) (hx : a.eval x' = .slice (some ⟨wx.heap.size, 0, none⟩) 1 1) (hbd : n ≤ 100000) (hby : bytes ≤ 1000)
  (hk : ∀ g cap W, W.heap[D]? = some (.cells cs DT (0, 0)) → Lp ws (W.setCell ⟨D, j, none⟩ (.slice (some ⟨g, 0, none⟩) (n + 1) cap)) D DT (cs.setIfInBounds j (.slice (some ⟨g, 0, none⟩) (n + 1) cap)) E k (.slice (some ⟨g, 0, none⟩) (n + 1) cap) (n + 1) (xs ++ row) → K (a.put o.dst (.slice (some ⟨g, 0, none⟩) (n + 1) cap)) W) :
  if Region.wanted o (yielded ops a.tmps) = true then Oper.wp Tryz.prog o a (wx.alloc (.cells crow E)) K Q else EE := by
 subst hcs
 have hl := h.lt
 have hss := h.size
 have ha := h.alloc (.cells row.toArray E)
 obtain ⟨i0, hi0, hz0, hz1, hz2⟩ := info_parts hi
 have hmul : (n + 1) * bytes ≤ 100001 * 1000 := Nat.mul_le_mul (by omega) hby
 refine step_append_lies _ hgd s' x' t ho ws.heap.size E i0 z k bytes ht hi0 hz0 hz1 hz2 hzs hk0 v n xs hs ha.own ⟨wx.heap.size, 0, none⟩ 1 1 row hx (by rw [hrow]; omega) ?_ hone (by decide) (by unfold maxLen; omega) (by omega) (by simp; omega) _ rfl ?_
 ·exact World.news_of_block (cs := row.toArray) (t := E) (fr := (0, 0)) (by show (wx.heap.push _)[wx.heap.size]? = _; simp)
 ·intro g cap W hown hg hat hlt
  have hno : v.ownBlock ≠ some D := fun e => by have := (own_block h.own D e).1; omega
  have hD : W.heap[D]? = some (.cells cs DT (0, 0)) := by
   rw [hg.block D (by simp; omega) (fun e => hno e.symm)]; exact ha.loc
  have hgb : ws.heap.size ≤ g := by
   rcases hat with e | e
   ·exact (own_block h.own g e).1
   ·simp at e; omega
  refine hk g cap W hD ⟨?_, setCell_heap hD _, ?_, hl⟩
  ·refine grow_then (grow_then ha.gr hg fun b hb => ?_) (grownBy_set _ _ _ _) (fun b hb => .inr hb)
   left; exact (own_block h.own b hb).1
  ·refine own_keep (w := W) hown fun b hb => Below.heap_setCell _ _ _ _ ?_
   have e : g = b := by simpa [Value.ownBlock] using hb
   show b ≠ D
   omega
end
theorem set8_all {w : World} {B : Nat} {T : TypeId} {z0 z1 z2 z3 z4 z5 z6 z7 : Value} (h : w.heap[B]? = some (.cells #[z0, z1, z2, z3, z4, z5, z6, z7] T (0, 0))) (x0 x1 x2 x3 x4 x5 x6 x7 : Value) :
  ∃ Y, ((((((((w.setCell ⟨B, 0, none⟩ x0).setCell ⟨B, 1, none⟩ x1).setCell ⟨B, 2, none⟩ x2).setCell ⟨B, 3, none⟩ x3).setCell ⟨B, 4, none⟩ x4).setCell ⟨B, 5, none⟩ x5).setCell ⟨B, 6, none⟩ x6).setCell ⟨B, 7, none⟩ x7) = Y ∧ Y.heap[B]? = some (.cells #[x0, x1, x2, x3, x4, x5, x6, x7] T (0, 0)) ∧ (∀ b, b ≠ B → Y.heap[b]? = w.heap[b]?) ∧ Y.heap.size = w.heap.size ∧ Below B w Y := by
 have s8 := set8 h x0 x1 x2 x3 x4 x5 x6 x7
 have ho : ∀ b, b ≠ B → ((((((((w.setCell ⟨B, 0, none⟩ x0).setCell ⟨B, 1, none⟩ x1).setCell ⟨B, 2, none⟩ x2).setCell ⟨B, 3, none⟩ x3).setCell ⟨B, 4, none⟩ x4).setCell ⟨B, 5, none⟩ x5).setCell ⟨B, 6, none⟩ x6).setCell ⟨B, 7, none⟩ x7).heap[b]? = w.heap[b]? := fun b hb => by
  rw [Below.heap_setCell _ _ _ _ hb, Below.heap_setCell _ _ _ _ hb, Below.heap_setCell _ _ _ _ hb, Below.heap_setCell _ _ _ _ hb, Below.heap_setCell _ _ _ _ hb, Below.heap_setCell _ _ _ _ hb, Below.heap_setCell _ _ _ _ hb, Below.heap_setCell _ _ _ _ hb]
 have hz : ((((((((w.setCell ⟨B, 0, none⟩ x0).setCell ⟨B, 1, none⟩ x1).setCell ⟨B, 2, none⟩ x2).setCell ⟨B, 3, none⟩ x3).setCell ⟨B, 4, none⟩ x4).setCell ⟨B, 5, none⟩ x5).setCell ⟨B, 6, none⟩ x6).setCell ⟨B, 7, none⟩ x7).heap.size = w.heap.size := by simp
 have hb : Below B w ((((((((w.setCell ⟨B, 0, none⟩ x0).setCell ⟨B, 1, none⟩ x1).setCell ⟨B, 2, none⟩ x2).setCell ⟨B, 3, none⟩ x3).setCell ⟨B, 4, none⟩ x4).setCell ⟨B, 5, none⟩ x5).setCell ⟨B, 6, none⟩ x6).setCell ⟨B, 7, none⟩ x7) := (((((((((Below.refl B w).setCell (p := ⟨B, 0, none⟩) (Nat.le_refl _) x0).setCell (p := ⟨B, 1, none⟩) (Nat.le_refl _) x1).setCell (p := ⟨B, 2, none⟩) (Nat.le_refl _) x2).setCell (p := ⟨B, 3, none⟩) (Nat.le_refl _) x3).setCell (p := ⟨B, 4, none⟩) (Nat.le_refl _) x4).setCell (p := ⟨B, 5, none⟩) (Nat.le_refl _) x5).setCell (p := ⟨B, 6, none⟩) (Nat.le_refl _) x6).setCell (p := ⟨B, 7, none⟩) (Nat.le_refl _) x7)
 exact ⟨_, rfl, s8, ho, hz, hb⟩
end Go.Proofs.YtpojeinddnjpfaaGreatDoor
