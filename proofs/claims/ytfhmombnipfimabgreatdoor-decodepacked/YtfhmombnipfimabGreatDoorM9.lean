/-
  How much a value's tree weighs, and the range of its numbers. Nothing is proved of the program here.
  The walks over the functions that append fixed numbers (Append32, Append64): the bytes come into one new block, behind them the number's bytes, the lowest first; nothing else changes. And of these bytes the number comes back.
  The bytes of a field, as a plain function. Nothing is proved of the program here.
  A value's bytes, as plain functions, and what its normal value keeps. Nothing is proved of the program here.
  What bytes are, read as a message, as plain functions. Nothing is proved of the program here.
-/
import Derived.Test.YtfhmombnipfimabGreatDoorM8
import Derived.Test.YtfhmombnipfimabGreatDoorM3
namespace Go.Proofs.YtfhmombnipfimabGreatDoor
set_option linter.unusedVariables false

/-- the numbers of a tree are such as a machine has -/
def Rg1 (x : Nd) : Prop := (-9223372036854775808 ≤ x.n ∧ x.n ≤ 9223372036854775807) ∧ 0 ≤ x.u ∧ x.u ≤ 18446744073709551615
def RngG : Nat → Nd → Prop
  | 0, x => Rg1 x
  | f + 1, x => Rg1 x ∧ ∀ p ∈ x.fields, ∀ y ∈ p.2, RngG f y
theorem RngG.one {f : Nat} {x : Nd} (h : RngG f x) : Rg1 x := by
  cases f with
  | zero => exact h
  | succ f => exact h.1
/-- how much a tree weighs, and how many bytes it may have -/
def sumL {α : Type} (g : α → Nat) : List α → Nat
  | [] => 0
  | a :: l => g a + sumL g l
theorem sumL_append {α : Type} (g : α → Nat) (l m : List α) : sumL g (l ++ m) = sumL g l + sumL g m := by
  induction l with
  | nil => simp [sumL]
  | cons a l ih => rw [List.cons_append, sumL, sumL, ih]; omega
theorem sumL_le {α : Type} {g h : α → Nat} {l : List α} (H : ∀ a ∈ l, g a ≤ h a) : sumL g l ≤ sumL h l := by
  induction l with
  | nil => exact Nat.le_refl _
  | cons a l ih =>
    have h1 := H a List.mem_cons_self
    have h2 := ih fun b hb => H b (List.mem_cons_of_mem _ hb)
    rw [sumL, sumL]; omega
theorem sumL_mem {α : Type} {g : α → Nat} {l : List α} {a : α} (h : a ∈ l) : g a ≤ sumL g l := by
  induction l with
  | nil => cases h
  | cons b l ih =>
    rw [sumL]
    rcases List.mem_cons.1 h with rfl | h
    · omega
    · have := ih h; omega
theorem sumL_map {α β : Type} (g : β → Nat) (h : α → β) (l : List α) : sumL g (l.map h) = sumL (fun a => g (h a)) l := by
  induction l with
  | nil => rfl
  | cons a l ih => rw [List.map_cons, sumL, sumL, ih]
theorem sumL_filter {α : Type} (g : α → Nat) (p : α → Bool) (l : List α) : sumL g (l.filter p) ≤ sumL g l := by
  induction l with
  | nil => exact Nat.le_refl _
  | cons a l ih =>
    rw [List.filter_cons]
    split
    · rw [sumL, sumL]; omega
    · rw [sumL]; omega
theorem flatLen {α β : Type} (g : α → List β) (l : List α) : (l.flatMap g).length = sumL (fun a => (g a).length) l := by
  induction l with
  | nil => rfl
  | cons a l ih => rw [List.flatMap_cons, List.length_append, ih, sumL]
end Go.Proofs.YtfhmombnipfimabGreatDoor
namespace Go.Proofs.YtfhmombnipfimabGreatDoor
set_option linter.unusedVariables false
open Go.ChangeShapes Go.WideShapes Go.ChangeAt Go.RowKit

/-- the first k bytes of a number, the lowest first -/
def lob (n : Int) : Nat → List Int
  | 0 => []
  | k + 1 => lob n k ++ [n / 2 ^ (8 * k) % 256]
theorem lob_length (n : Int) (k : Nat) : (lob n k).length = k := by
  induction k with
  | zero => rfl
  | succ k ih => simp [lob, ih]
theorem lob_bytes (n : Int) (k : Nat) : ∀ z ∈ lob n k, 0 ≤ z ∧ z ≤ 255 := by
  induction k with
  | zero => simp [lob]
  | succ k ih =>
    intro z hz
    simp only [lob, List.mem_append, List.mem_singleton] at hz
    rcases hz with hz | rfl
    · exact ih z hz
    · omega
theorem low_lob (n : Int) (k : Nat) : low (lob n k) = n % 2 ^ (8 * k) := by
  induction k with
  | zero => simp [lob, low, Int.emod_one]
  | succ k ih =>
    rw [lob, low_snoc, ih, lob_length, show 8 * (k + 1) = 8 * k + 8 by omega, Int.pow_add, show (2 : Int) ^ 8 = 256 by decide]
    have hp : (0 : Int) < 2 ^ (8 * k) := Int.pow_pos (by decide)
    generalize (2 : Int) ^ (8 * k) = P at *
    rw [Int.emod_def n (P * 256), Int.emod_def n P, Int.emod_def (n / P) 256]
    have e : n / P / 256 = n / (P * 256) := by rw [Int.ediv_ediv, if_neg (by omega), Int.sub_zero]
    rw [e]
    rw [Int.sub_mul, Int.mul_comm (n / P) P, Int.mul_comm (256 * _) P, Int.mul_assoc P 256]
    omega

end Go.Proofs.YtfhmombnipfimabGreatDoor
namespace Go.Proofs.YtfhmombnipfimabGreatDoor
set_option linter.unusedVariables false

/-- the bytes of a field -/
def fbytes (num ty n : Int) (d : List Int) : List Int :=
  vint (8 * num + ty).toNat ++ (if ty = 0 then vint n.toNat else if ty = 1 then lob n 8 else if ty = 5 then lob n 4 else vint d.length ++ d)
end Go.Proofs.YtfhmombnipfimabGreatDoor
namespace Go.Proofs.YtfhmombnipfimabGreatDoor
set_option linter.unusedVariables false

def isNum (k : Int) : Bool := decide (k ≠ 5 ∧ k ≠ 6 ∧ k ≠ 10)
/-- a field of layer 2 -/
structure WF where
  num : Int
  ty : Int
  n : Int
  d : List Int
def WF.bytes (x : WF) : List Int := fbytes x.num x.ty x.n x.d
theorem vint_le (n : Int) (h : n ≤ 18446744073709551615) : (vint n.toNat).length ≤ 10 := vint_ten (by omega)
theorem fby_len (num ty n : Int) (d : List Int) (h1 : num ≤ 536870911) (h2 : ty ≤ 5) (hn : n ≤ 18446744073709551615) (hd : d.length ≤ 140737488355328) : (fbytes num ty n d).length ≤ d.length + 20 := by
  unfold fbytes
  have h3 := vint_le (8 * num + ty) (by omega)
  rw [List.length_append]
  repeat' split
  · have := vint_le n hn; omega
  · rw [lob_length]; omega
  · rw [lob_length]; omega
  · have := vint_ten (n := d.length) (by omega)
    rw [List.length_append]; omega
def NumOK (ms : List MD) : Prop := ∀ m ∈ ms, ∀ x ∈ m.fields, (1 ≤ x.num ∧ x.num ≤ 536870911) ∧ (x.kind = 10 → 0 ≤ x.type ∧ x.type < (ms.length : Int))
/-- the normal value: it fits, it is its own, and it weighs no more -/
theorem norm_kind (ms : List MD) (f : Nat) (x : Nd) : (normN ms f x).kind = x.kind := by
  cases f with
  | zero => rfl
  | succ f => unfold normN; split <;> rfl
theorem norm_else (ms : List MD) (f : Nat) (x : Nd) (h : x.kind ≠ 7) : normN ms f x = x := by
  cases f with
  | zero => rfl
  | succ f => unfold normN; rw [if_neg h]
theorem norm_msg (ms : List MD) (f : Nat) (x : Nd) (h : x.kind = 7) : normN ms (f + 1) x = ⟨x.kind, x.n, x.u, x.b, x.s, x.type, keptL ms (normN ms f) x.type x.fields⟩ := by rw [normN, if_pos h]
/-- rising numbers -/
def RiseF : Int → List (Int × List Nd) → Prop
  | _, [] => True
  | a, p :: l => a < p.1 ∧ RiseF p.1 l
theorem rise_lt {a b : Int} (h : b ≤ a) : ∀ {l : List (Int × List Nd)}, RiseF a l → RiseF b l
  | [], _ => trivial
  | p :: l, h2 => ⟨by have := h2.1; omega, h2.2⟩
def prevA (a : Int) (fl : List (Int × List Nd)) : Nat → Int
  | 0 => a
  | k + 1 => match fl[k]? with
    | some f => f.1
    | none => 0
theorem rise_iff : ∀ {a : Int} {l : List (Int × List Nd)}, RiseF a l ↔ ∀ (k : Nat) (y : Int × List Nd), l[k]? = some y → prevA a l k < y.1
  | a, [] => ⟨fun _ k y h => by simp at h, fun _ => trivial⟩
  | a, q :: l => by
    refine ⟨fun h k y hk => ?_, fun h => ⟨h 0 q rfl, rise_iff.2 fun k y hk => ?_⟩⟩
    · cases k with
      | zero => have e : q = y := by simpa using hk
                rw [← e]; exact h.1
      | succ k =>
        have := rise_iff.1 h.2 k y (by simpa using hk)
        cases k with
        | zero => simpa [prevA] using this
        | succ k => simpa [prevA] using this
    · have := h (k + 1) y (by simpa using hk)
      cases k with
      | zero => simpa [prevA] using this
      | succ k => simpa [prevA] using this
end Go.Proofs.YtfhmombnipfimabGreatDoor
namespace Go.Proofs.YtfhmombnipfimabGreatDoor
set_option linter.unusedVariables false

def u8s (zs : List Int) : List UInt8 := zs.map fun z => UInt8.ofNat z.toNat
theorem u8s_len (zs : List Int) : (u8s zs).length = zs.length := by unfold u8s; simp
theorem ints_u8s : ∀ {zs : List Int}, (∀ z ∈ zs, 0 ≤ z ∧ z ≤ 255) → ints (u8s zs) = zs
  | [], h => rfl
  | z :: t, h => by
    have h1 := h z List.mem_cons_self
    have h2 := ints_u8s (zs := t) fun y hy => h y (List.mem_cons_of_mem _ hy)
    unfold ints u8s at h2 ⊢
    rw [List.map_cons, List.map_cons, h2]
    congr 1
    have e : z.toNat % 256 = z.toNat := Nat.mod_eq_of_lt (by omega)
    rw [UInt8.toNat_ofNat', e]
    omega
/-- one behind the other, as far as there is no error -/
def exL {α β : Type} (g : α → Except Int (List β)) : List α → Except Int (List β)
  | [] => .ok []
  | x :: t => match g x with
    | .error e => .error e
    | .ok l => match exL g t with
      | .error e => .error e
      | .ok m => .ok (l ++ m)
def andThen {β : Type} (a b : Except Int (List β)) : Except Int (List β) := match a with
  | .error e => .error e
  | .ok l => match b with
    | .error e => .error e
    | .ok m => .ok (l ++ m)
theorem andThen_assoc {β : Type} (a b c : Except Int (List β)) : andThen (andThen a b) c = andThen a (andThen b c) := by
  cases a with
  | error e => rfl
  | ok l => cases b with
    | error e => rfl
    | ok m => cases c with
      | error e => rfl
      | ok n => unfold andThen; simp
theorem exL_cons {α β : Type} (g : α → Except Int (List β)) (x : α) (t : List α) : exL g (x :: t) = andThen (g x) (exL g t) := rfl
theorem exL_append {α β : Type} (g : α → Except Int (List β)) (l m : List α) : exL g (l ++ m) = andThen (exL g l) (exL g m) := by
  induction l with
  | nil =>
    show exL g m = andThen (.ok []) (exL g m)
    cases exL g m <;> rfl
  | cons x t ih => rw [List.cons_append, exL_cons, exL_cons, ih, andThen_assoc]
theorem exL_one {α β : Type} (g : α → Except Int (List β)) (x : α) : exL g [x] = g x := by
  unfold exL
  cases g x with
  | error e => rfl
  | ok l => simp [exL]
theorem exL_step {α β : Type} {g : α → Except Int (List β)} {l : List α} {j : Nat} {x : α} {a b : List β} (hx : l[j]? = some x) (ha : exL g (l.take j) = .ok a) (hb : g x = .ok b) : exL g (l.take (j + 1)) = .ok (a ++ b) := by
  rw [take_snoc hx, exL_append, ha, exL_one, hb]; rfl
theorem exL_err {α β : Type} {g : α → Except Int (List β)} {l : List α} {j : Nat} {x : α} {a : List β} {e : Int} (hx : l[j]? = some x) (ha : exL g (l.take j) = .ok a) (hb : g x = .error e) : exL g l = .error e := by
  have h : l = l.take j ++ (x :: l.drop (j + 1)) := by
    have h1 := List.take_append_drop (j + 1) l
    rw [take_snoc hx, List.append_assoc] at h1
    exact h1.symm
  rw [h, exL_append, ha, exL_cons, hb]; rfl
theorem exL_mem {α β : Type} {g : α → Except Int (List β)} : ∀ {l : List α} {a : List β} {y : β}, exL g l = .ok a → y ∈ a → ∃ x b, x ∈ l ∧ g x = .ok b ∧ y ∈ b
  | [], a, y, h, hy => by
    have : a = [] := by injection h with h; exact h.symm
    rw [this] at hy; cases hy
  | x :: t, a, y, h, hy => by
    rw [exL_cons] at h
    cases hg : g x with
    | error e => rw [hg] at h; cases h
    | ok b =>
      cases ht : exL g t with
      | error e => rw [hg, ht] at h; cases h
      | ok m =>
        rw [hg, ht] at h
        have ha : a = b ++ m := by injection h with h; exact h.symm
        rw [ha] at hy
        rcases List.mem_append.1 hy with hy | hy
        · exact ⟨x, b, List.mem_cons_self, hg, hy⟩
        · obtain ⟨x', b', h1, h2, h3⟩ := exL_mem ht hy
          exact ⟨x', b', List.mem_cons_of_mem _ h1, h2, h3⟩
/-- a value of a number that was read -/
def zagI (n : Int) : Int := if n % 2 = 0 then n / 2 else -(n / 2) - 1
def numD (k n : Int) : Nd :=
  if k = 1 then ⟨1, IntKind.i64.wrap n, 0, false, [], 0, []⟩ else if k = 3 then ⟨1, zagI n, 0, false, [], 0, []⟩ else if k = 4 then ⟨3, 0, 0, decide (n ≠ 0), [], 0, []⟩ else if k = 9 then ⟨6, IntKind.i32.wrap n, 0, false, [], 0, []⟩ else ⟨2, 0, n, false, [], 0, []⟩
/-- the number at the beginning: it, how many bytes it has, an error -/
def takeN (k : Int) (zs : List Int) : Int × Int × Int :=
  if k = 7 then (if zs.length < 4 then (0, 4, 5) else (low (zs.take 4), 4, 0)) else if k = 8 then (if zs.length < 8 then (0, 8, 5) else (low (zs.take 8), 8, 0)) else dec 0 0 zs
/-- the values of packed bytes -/
def unpk (k : Int) : Nat → List Int → Option (List Nd)
  | _, [] => some []
  | 0, _ :: _ => none
  | f + 1, z :: zs => if (takeN k (z :: zs)).2.2 ≠ 0 then none else (unpk k f ((z :: zs).drop (takeN k (z :: zs)).2.1.toNat)).map (numD k (takeN k (z :: zs)).1 :: ·)
def unpack (k : Int) (zs : List Int) : Option (List Nd) := unpk k zs.length zs
theorem takeN_k (k : Int) (zs : List Int) (hb : ∀ z ∈ zs, 0 ≤ z ∧ z ≤ 255) (h : (takeN k zs).2.2 = 0) : 1 ≤ (takeN k zs).2.1 ∧ (takeN k zs).2.1 ≤ zs.length := by
  unfold takeN at h ⊢
  split at h
  · rename_i hk; rw [if_pos hk]
    split at h
    · simp at h
    · rename_i hl; rw [if_neg hl]; dsimp only; omega
  · rename_i hk; rw [if_neg hk]
    split at h
    · rename_i hk; rw [if_pos hk]
      split at h
      · simp at h
      · rename_i hl; rw [if_neg hl]; dsimp only; omega
    · rename_i hk; rw [if_neg hk]
      obtain ⟨N, K, E, hd⟩ := dec_triple zs
      rw [hd] at h ⊢
      dsimp only at h ⊢
      subst h
      obtain ⟨_, _, h0, h1, _⟩ := dec_ok zs 0 0 N K hb (by simp) (by omega) (by simpa using hd)
      omega
theorem unpk_more (k : Int) : ∀ (f g : Nat) (zs : List Int), (∀ z ∈ zs, 0 ≤ z ∧ z ≤ 255) → zs.length ≤ f → zs.length ≤ g → unpk k f zs = unpk k g zs
  | f, g, [], hb, h1, h2 => by cases f <;> cases g <;> rfl
  | 0, g, z :: zs, hb, h1, h2 => by simp at h1
  | f + 1, 0, z :: zs, hb, h1, h2 => by simp at h2
  | f + 1, g + 1, z :: zs, hb, h1, h2 => by
    unfold unpk
    split
    · rfl
    · rename_i he
      have hk := takeN_k k (z :: zs) hb (by omega)
      have hl : ((z :: zs).drop (takeN k (z :: zs)).2.1.toNat).length ≤ zs.length := by
        rw [List.length_drop, List.length_cons]; omega
      rw [List.length_cons] at h1 h2
      rw [unpk_more k f g _ (fun y hy => hb y (List.mem_of_mem_drop hy)) (by omega) (by omega)]
theorem unpack_nil (k : Int) : unpack k [] = some [] := rfl
theorem unpack_err {k : Int} {zs : List Int} (hne : zs ≠ []) (h : (takeN k zs).2.2 ≠ 0) : unpack k zs = none := by
  cases zs with
  | nil => exact absurd rfl hne
  | cons z zs => show unpk k (zs.length + 1) (z :: zs) = none; unfold unpk; rw [if_pos h]
theorem unpack_on {k : Int} {zs : List Int} (hb : ∀ z ∈ zs, 0 ≤ z ∧ z ≤ 255) (hne : zs ≠ []) (h : (takeN k zs).2.2 = 0) : unpack k zs = (unpack k (zs.drop (takeN k zs).2.1.toNat)).map (numD k (takeN k zs).1 :: ·) := by
  cases zs with
  | nil => exact absurd rfl hne
  | cons z zs =>
    have hk := takeN_k k (z :: zs) hb h
    show unpk k (zs.length + 1) (z :: zs) = _
    unfold unpk
    rw [if_neg (by omega)]
    unfold unpack
    rw [unpk_more k zs.length _ _ (fun y hy => hb y (List.mem_of_mem_drop hy)) (by rw [List.length_drop, List.length_cons]; omega) (Nat.le_refl _)]
/-- the fields that bytes are split into -/
def wfOf (p : TF × List Int) : WF := ⟨p.1.num, p.1.ty, p.1.n, p.1.data⟩
def isKn (fs : List FD) (p : TF × List Int) : Bool := knownP fs p.1.num p.1.ty
def knownL (fs : List FD) (D : List (TF × List Int)) : List WF := (D.filter (isKn fs)).map wfOf
def unknL (fs : List FD) (D : List (TF × List Int)) : List Int := (D.filter fun p => !isKn fs p).flatMap fun p => p.2
def ownL (fd : FD) (l : List WF) : List WF := l.filter fun x => decide (x.num = fd.num)
def toRead (fd : FD) (l : List WF) : List WF := if fd.rep = true ∨ (ownL fd l).length < 2 then ownL fd l else match (ownL fd l).getLast? with
  | none => []
  | some x => [⟨x.num, x.ty, x.n, if fd.kind = 10 then (ownL fd l).flatMap WF.d else x.d⟩]
/-- the values of a field -/
def strD (k : Int) (zs : List Int) : Nd := ⟨k, 0, 0, false, u8s zs, 0, []⟩
def decV (rec : Int → List Int → Except Int Nd) (fd : FD) (x : WF) : Except Int (List Nd) :=
  if isNum fd.kind then (if x.ty = 2 then (match unpack fd.kind x.d with
      | none => .error 2
      | some l => .ok l) else .ok [numD fd.kind x.n])
  else if fd.kind = 10 then (match rec fd.type x.d with
      | .error e => .error e
      | .ok y => .ok [y])
  else if fd.kind = 5 then (if valB (u8s x.d) then .ok [strD 4 x.d] else .error 13) else .ok [strD 5 x.d]
def decVs (rec : Int → List Int → Except Int Nd) (fd : FD) (l : List WF) : Except Int (List Nd) := exL (decV rec fd) l
def decF (rec : Int → List Int → Except Int Nd) (known : List WF) (fd : FD) : Except Int (List (Int × List Nd)) := match decVs rec fd (toRead fd known) with
  | .error e => .error e
  | .ok l => .ok (if l.length = 0 then [] else [(fd.num, l)])
/-- what bytes are, read as a message, with as many messages in one another as may be; with what is as by default -/
def decM (ms : List MD) : Nat → Int → List Int → Except Int Nd
  | 0, t, zs => .error 8
  | f + 1, t, zs => match split zs with
    | none => .error 2
    | some D => match exL (decF (decM ms f) (knownL (fieldsOf ms t) D)) (fieldsOf ms t) with
      | .error e => .error e
      | .ok fl => .ok ⟨7, 0, 0, false, u8s (unknL (fieldsOf ms t) D), t, fl⟩
end Go.Proofs.YtfhmombnipfimabGreatDoor
