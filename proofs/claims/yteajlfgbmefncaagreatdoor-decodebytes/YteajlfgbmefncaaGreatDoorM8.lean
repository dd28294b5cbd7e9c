/-
  A value's bytes, as plain functions, and what its normal value keeps. Nothing is proved of the program here.
  What bytes are, read as a message, as plain functions. Nothing is proved of the program here.
  The walks over the document's zigzag undone and what a number is read as.
  What is read of the two slices of a split, and that the bytes of the parts are all bytes. Nothing is proved of the program here.
-/
import Derived.Test.YteajlfgbmefncaaGreatDoorM7
import Derived.Test.YteajlfgbmefncaaGreatDoorM5
namespace Go.Proofs.YteajlfgbmefncaaGreatDoor
set_option linter.unusedVariables false

def isNum (k : Int) : Bool := decide (k ≠ 5 ∧ k ≠ 6 ∧ k ≠ 10)
/-- a field of layer 2 -/
structure WF where
  num : Int
  ty : Int
  n : Int
  d : List Int
def WF.bytes (x : WF) : List Int := fbytes x.num x.ty x.n x.d
def NumOK (ms : List MD) : Prop := ∀ m ∈ ms, ∀ x ∈ m.fields, (1 ≤ x.num ∧ x.num ≤ 536870911) ∧ (x.kind = 10 → 0 ≤ x.type ∧ x.type < (ms.length : Int))
/-- the normal value: it fits, it is its own, and it weighs no more -/
theorem norm_kind (ms : List MD) (f : Nat) (x : Nd) : (normN ms f x).kind = x.kind := by
  cases f with
  | zero => rfl
  | succ f => unfold normN; split <;> rfl
theorem norm_else (ms : List MD) (f : Nat) (x : Nd) (h : x.kind ≠ 7) : normN ms f x = x := by
  cases f with
  | zero => rfl
  | succ f => unfold normN; rw [if_neg h]
theorem norm_msg (ms : List MD) (f : Nat) (x : Nd) (h : x.kind = 7) : normN ms (f + 1) x = ⟨x.kind, x.n, x.u, x.b, x.s, x.type, keptL ms (normN ms f) x.type x.fields⟩ := by rw [normN, if_pos h]
theorem kept_mem {ms : List MD} {g : Nd → Nd} {t : Int} {l : List (Int × List Nd)} {q : Int × List Nd} (h : q ∈ keptL ms g t l) : ∃ p ∈ l, keepB (fieldsOf ms t) p = true ∧ q = (p.1, p.2.map g) := by
  unfold keptL at h
  obtain ⟨p, hp, rfl⟩ := List.mem_map.1 h
  rw [List.mem_filter] at hp
  exact ⟨p, hp.1, hp.2, rfl⟩
theorem norm_fitG (ms : List MD) {bs bf : Nat} : ∀ (f : Nat) (x : Nd), FitG bs bf f x → FitG bs bf f (normN ms f x)
  | 0, x, h => h
  | f + 1, x, h => by
    by_cases h7 : x.kind = 7
    · rw [norm_msg ms f x h7]
      refine ⟨h.1, ?_, fun q hq => ?_⟩
      · refine Nat.le_trans ?_ h.2.1
        unfold keptL
        rw [List.length_map]
        exact List.length_filter_le _ _
      · obtain ⟨p, hp, _, rfl⟩ := kept_mem hq
        refine ⟨by rw [List.length_map]; exact (h.2.2 p hp).1, fun y hy => ?_⟩
        obtain ⟨z, hz, rfl⟩ := List.mem_map.1 hy
        exact norm_fitG ms f z ((h.2.2 p hp).2 z hz)
    · rw [norm_else ms _ x h7]; exact h
/-- rising numbers -/
def RiseF : Int → List (Int × List Nd) → Prop
  | _, [] => True
  | a, p :: l => a < p.1 ∧ RiseF p.1 l
theorem rise_lt {a b : Int} (h : b ≤ a) : ∀ {l : List (Int × List Nd)}, RiseF a l → RiseF b l
  | [], _ => trivial
  | p :: l, h2 => ⟨by have := h2.1; omega, h2.2⟩
def prevA (a : Int) (fl : List (Int × List Nd)) : Nat → Int
  | 0 => a
  | k + 1 => match fl[k]? with
    | some f => f.1
    | none => 0
theorem rise_iff : ∀ {a : Int} {l : List (Int × List Nd)}, RiseF a l ↔ ∀ (k : Nat) (y : Int × List Nd), l[k]? = some y → prevA a l k < y.1
  | a, [] => ⟨fun _ k y h => by simp at h, fun _ => trivial⟩
  | a, q :: l => by
    refine ⟨fun h k y hk => ?_, fun h => ⟨h 0 q rfl, rise_iff.2 fun k y hk => ?_⟩⟩
    · cases k with
      | zero => have e : q = y := by simpa using hk
                rw [← e]; exact h.1
      | succ k =>
        have := rise_iff.1 h.2 k y (by simpa using hk)
        cases k with
        | zero => simpa [prevA] using this
        | succ k => simpa [prevA] using this
    · have := h (k + 1) y (by simpa using hk)
      cases k with
      | zero => simpa [prevA] using this
      | succ k => simpa [prevA] using this
end Go.Proofs.YteajlfgbmefncaaGreatDoor
namespace Go.Proofs.YteajlfgbmefncaaGreatDoor
set_option linter.unusedVariables false

def u8s (zs : List Int) : List UInt8 := zs.map fun z => UInt8.ofNat z.toNat
theorem u8s_len (zs : List Int) : (u8s zs).length = zs.length := by unfold u8s; simp
theorem ints_u8s : ∀ {zs : List Int}, (∀ z ∈ zs, 0 ≤ z ∧ z ≤ 255) → ints (u8s zs) = zs
  | [], h => rfl
  | z :: t, h => by
    have h1 := h z List.mem_cons_self
    have h2 := ints_u8s (zs := t) fun y hy => h y (List.mem_cons_of_mem _ hy)
    unfold ints u8s at h2 ⊢
    rw [List.map_cons, List.map_cons, h2]
    congr 1
    have e : z.toNat % 256 = z.toNat := Nat.mod_eq_of_lt (by omega)
    rw [UInt8.toNat_ofNat', e]
    omega
/-- one behind the other, as far as there is no error -/
def exL {α β : Type} (g : α → Except Int (List β)) : List α → Except Int (List β)
  | [] => .ok []
  | x :: t => match g x with
    | .error e => .error e
    | .ok l => match exL g t with
      | .error e => .error e
      | .ok m => .ok (l ++ m)
def andThen {β : Type} (a b : Except Int (List β)) : Except Int (List β) := match a with
  | .error e => .error e
  | .ok l => match b with
    | .error e => .error e
    | .ok m => .ok (l ++ m)
theorem andThen_assoc {β : Type} (a b c : Except Int (List β)) : andThen (andThen a b) c = andThen a (andThen b c) := by
  cases a with
  | error e => rfl
  | ok l => cases b with
    | error e => rfl
    | ok m => cases c with
      | error e => rfl
      | ok n => unfold andThen; simp
theorem exL_cons {α β : Type} (g : α → Except Int (List β)) (x : α) (t : List α) : exL g (x :: t) = andThen (g x) (exL g t) := rfl
theorem exL_append {α β : Type} (g : α → Except Int (List β)) (l m : List α) : exL g (l ++ m) = andThen (exL g l) (exL g m) := by
  induction l with
  | nil =>
    show exL g m = andThen (.ok []) (exL g m)
    cases exL g m <;> rfl
  | cons x t ih => rw [List.cons_append, exL_cons, exL_cons, ih, andThen_assoc]
theorem exL_one {α β : Type} (g : α → Except Int (List β)) (x : α) : exL g [x] = g x := by
  unfold exL
  cases g x with
  | error e => rfl
  | ok l => simp [exL]
theorem exL_step {α β : Type} {g : α → Except Int (List β)} {l : List α} {j : Nat} {x : α} {a b : List β} (hx : l[j]? = some x) (ha : exL g (l.take j) = .ok a) (hb : g x = .ok b) : exL g (l.take (j + 1)) = .ok (a ++ b) := by
  rw [take_snoc hx, exL_append, ha, exL_one, hb]; rfl
theorem exL_err {α β : Type} {g : α → Except Int (List β)} {l : List α} {j : Nat} {x : α} {a : List β} {e : Int} (hx : l[j]? = some x) (ha : exL g (l.take j) = .ok a) (hb : g x = .error e) : exL g l = .error e := by
  have h : l = l.take j ++ (x :: l.drop (j + 1)) := by
    have h1 := List.take_append_drop (j + 1) l
    rw [take_snoc hx, List.append_assoc] at h1
    exact h1.symm
  rw [h, exL_append, ha, exL_cons, hb]; rfl
theorem exL_mem {α β : Type} {g : α → Except Int (List β)} : ∀ {l : List α} {a : List β} {y : β}, exL g l = .ok a → y ∈ a → ∃ x b, x ∈ l ∧ g x = .ok b ∧ y ∈ b
  | [], a, y, h, hy => by
    have : a = [] := by injection h with h; exact h.symm
    rw [this] at hy; cases hy
  | x :: t, a, y, h, hy => by
    rw [exL_cons] at h
    cases hg : g x with
    | error e => rw [hg] at h; cases h
    | ok b =>
      cases ht : exL g t with
      | error e => rw [hg, ht] at h; cases h
      | ok m =>
        rw [hg, ht] at h
        have ha : a = b ++ m := by injection h with h; exact h.symm
        rw [ha] at hy
        rcases List.mem_append.1 hy with hy | hy
        · exact ⟨x, b, List.mem_cons_self, hg, hy⟩
        · obtain ⟨x', b', h1, h2, h3⟩ := exL_mem ht hy
          exact ⟨x', b', List.mem_cons_of_mem _ h1, h2, h3⟩
/-- a value of a number that was read -/
def zagI (n : Int) : Int := if n % 2 = 0 then n / 2 else -(n / 2) - 1
def numD (k n : Int) : Nd :=
  if k = 1 then ⟨1, IntKind.i64.wrap n, 0, false, [], 0, []⟩ else if k = 3 then ⟨1, zagI n, 0, false, [], 0, []⟩ else if k = 4 then ⟨3, 0, 0, decide (n ≠ 0), [], 0, []⟩ else if k = 9 then ⟨6, IntKind.i32.wrap n, 0, false, [], 0, []⟩ else ⟨2, 0, n, false, [], 0, []⟩
/-- the number at the beginning: it, how many bytes it has, an error -/
def takeN (k : Int) (zs : List Int) : Int × Int × Int :=
  if k = 7 then (if zs.length < 4 then (0, 4, 5) else (low (zs.take 4), 4, 0)) else if k = 8 then (if zs.length < 8 then (0, 8, 5) else (low (zs.take 8), 8, 0)) else dec 0 0 zs
/-- the values of packed bytes -/
def unpk (k : Int) : Nat → List Int → Option (List Nd)
  | _, [] => some []
  | 0, _ :: _ => none
  | f + 1, z :: zs => if (takeN k (z :: zs)).2.2 ≠ 0 then none else (unpk k f ((z :: zs).drop (takeN k (z :: zs)).2.1.toNat)).map (numD k (takeN k (z :: zs)).1 :: ·)
def unpack (k : Int) (zs : List Int) : Option (List Nd) := unpk k zs.length zs
theorem takeN_k (k : Int) (zs : List Int) (hb : ∀ z ∈ zs, 0 ≤ z ∧ z ≤ 255) (h : (takeN k zs).2.2 = 0) : 1 ≤ (takeN k zs).2.1 ∧ (takeN k zs).2.1 ≤ zs.length := by
  unfold takeN at h ⊢
  split at h
  · rename_i hk; rw [if_pos hk]
    split at h
    · simp at h
    · rename_i hl; rw [if_neg hl]; dsimp only; omega
  · rename_i hk; rw [if_neg hk]
    split at h
    · rename_i hk; rw [if_pos hk]
      split at h
      · simp at h
      · rename_i hl; rw [if_neg hl]; dsimp only; omega
    · rename_i hk; rw [if_neg hk]
      obtain ⟨N, K, E, hd⟩ := dec_triple zs
      rw [hd] at h ⊢
      dsimp only at h ⊢
      subst h
      obtain ⟨_, _, h0, h1, _⟩ := dec_ok zs 0 0 N K hb (by simp) (by omega) (by simpa using hd)
      omega
theorem unpk_more (k : Int) : ∀ (f g : Nat) (zs : List Int), (∀ z ∈ zs, 0 ≤ z ∧ z ≤ 255) → zs.length ≤ f → zs.length ≤ g → unpk k f zs = unpk k g zs
  | f, g, [], hb, h1, h2 => by cases f <;> cases g <;> rfl
  | 0, g, z :: zs, hb, h1, h2 => by simp at h1
  | f + 1, 0, z :: zs, hb, h1, h2 => by simp at h2
  | f + 1, g + 1, z :: zs, hb, h1, h2 => by
    unfold unpk
    split
    · rfl
    · rename_i he
      have hk := takeN_k k (z :: zs) hb (by omega)
      have hl : ((z :: zs).drop (takeN k (z :: zs)).2.1.toNat).length ≤ zs.length := by
        rw [List.length_drop, List.length_cons]; omega
      rw [List.length_cons] at h1 h2
      rw [unpk_more k f g _ (fun y hy => hb y (List.mem_of_mem_drop hy)) (by omega) (by omega)]
theorem unpack_nil (k : Int) : unpack k [] = some [] := rfl
theorem unpack_err {k : Int} {zs : List Int} (hne : zs ≠ []) (h : (takeN k zs).2.2 ≠ 0) : unpack k zs = none := by
  cases zs with
  | nil => exact absurd rfl hne
  | cons z zs => show unpk k (zs.length + 1) (z :: zs) = none; unfold unpk; rw [if_pos h]
theorem unpack_on {k : Int} {zs : List Int} (hb : ∀ z ∈ zs, 0 ≤ z ∧ z ≤ 255) (hne : zs ≠ []) (h : (takeN k zs).2.2 = 0) : unpack k zs = (unpack k (zs.drop (takeN k zs).2.1.toNat)).map (numD k (takeN k zs).1 :: ·) := by
  cases zs with
  | nil => exact absurd rfl hne
  | cons z zs =>
    have hk := takeN_k k (z :: zs) hb h
    show unpk k (zs.length + 1) (z :: zs) = _
    unfold unpk
    rw [if_neg (by omega)]
    unfold unpack
    rw [unpk_more k zs.length _ _ (fun y hy => hb y (List.mem_of_mem_drop hy)) (by rw [List.length_drop, List.length_cons]; omega) (Nat.le_refl _)]
/-- the fields that bytes are split into -/
def wfOf (p : TF × List Int) : WF := ⟨p.1.num, p.1.ty, p.1.n, p.1.data⟩
def isKn (fs : List FD) (p : TF × List Int) : Bool := knownP fs p.1.num p.1.ty
def knownL (fs : List FD) (D : List (TF × List Int)) : List WF := (D.filter (isKn fs)).map wfOf
def unknL (fs : List FD) (D : List (TF × List Int)) : List Int := (D.filter fun p => !isKn fs p).flatMap fun p => p.2
def ownL (fd : FD) (l : List WF) : List WF := l.filter fun x => decide (x.num = fd.num)
def toRead (fd : FD) (l : List WF) : List WF := if fd.rep = true ∨ (ownL fd l).length < 2 then ownL fd l else match (ownL fd l).getLast? with
  | none => []
  | some x => [⟨x.num, x.ty, x.n, if fd.kind = 10 then (ownL fd l).flatMap WF.d else x.d⟩]
/-- the values of a field -/
def strD (k : Int) (zs : List Int) : Nd := ⟨k, 0, 0, false, u8s zs, 0, []⟩
def decV (rec : Int → List Int → Except Int Nd) (fd : FD) (x : WF) : Except Int (List Nd) :=
  if isNum fd.kind then (if x.ty = 2 then (match unpack fd.kind x.d with
      | none => .error 2
      | some l => .ok l) else .ok [numD fd.kind x.n])
  else if fd.kind = 10 then (match rec fd.type x.d with
      | .error e => .error e
      | .ok y => .ok [y])
  else if fd.kind = 5 then (if valB (u8s x.d) then .ok [strD 4 x.d] else .error 13) else .ok [strD 5 x.d]
def decVs (rec : Int → List Int → Except Int Nd) (fd : FD) (l : List WF) : Except Int (List Nd) := exL (decV rec fd) l
def decF (rec : Int → List Int → Except Int Nd) (known : List WF) (fd : FD) : Except Int (List (Int × List Nd)) := match decVs rec fd (toRead fd known) with
  | .error e => .error e
  | .ok l => .ok (if l.length = 0 then [] else [(fd.num, l)])
/-- what bytes are, read as a message, with as many messages in one another as may be; with what is as by default -/
def decM (ms : List MD) : Nat → Int → List Int → Except Int Nd
  | 0, t, zs => .error 8
  | f + 1, t, zs => match split zs with
    | none => .error 2
    | some D => match exL (decF (decM ms f) (knownL (fieldsOf ms t) D)) (fieldsOf ms t) with
      | .error e => .error e
      | .ok fl => .ok ⟨7, 0, 0, false, u8s (unknL (fieldsOf ms t) D), t, fl⟩
end Go.Proofs.YteajlfgbmefncaaGreatDoor
namespace Go.Proofs.YteajlfgbmefncaaGreatDoor
set_option linter.unusedVariables false
open Go.ChangeShapes Go.WideShapes Go.ChangeAt Go.RowKit

set_option maxHeartbeats 1000000 in
theorem zagR_any (n : Int) (w : World) (h1 : 0 ≤ n) (h2 : n ≤ 18446744073709551615) : Calls Tryz.prog 96 #[.int .u64 n] w fun e w' => e = .returned (.int .i64 (zagI n)) ∧ w' = w := by
  have e2 : IntKind.i64.wrap (n / 2) = n / 2 := by rw [IntKind.wrap_i64]; omega
  rcases (by omega : n % 2 = 0 ∨ n % 2 = 1) with h | h
  · have e : zagI n = n / 2 := if_pos h
    rw [e]
    clear e
    have hb : (n % 2 == 1) = false := by rw [h]; decide
    clear h
    go_enter Tryz.func96, Tryz.ntmps96
    go_wp2
    go_ret
    exact ⟨rfl, rfl⟩
  · have e : zagI n = -(n / 2) - 1 := if_neg (by omega)
    rw [e]
    clear e
    have hb : (n % 2 == 1) = true := by rw [h]; decide
    clear h
    have e3 : IntKind.i64.wrap (-(n / 2)) = -(n / 2) := by rw [IntKind.wrap_i64]; omega
    have e4 : IntKind.i64.wrap (-(n / 2) - 1) = -(n / 2) - 1 := by rw [IntKind.wrap_i64]; omega
    go_enter Tryz.func96, Tryz.ntmps96
    go_wp2
    go_ret
    exact ⟨rfl, rfl⟩
/-- a number's node, as cells -/
def numC (x : Nd) : Value := .agg #[.int .i64 x.kind, .int .i64 x.n, .int .u64 x.u, .bool x.b, .string ⟨#[]⟩, .int .i64 0, .slice none 0 0]
theorem ret_agg {a b : Value} (h : a = b) : Ending.returned a = .returned b := by rw [h]
/-- kinds that are written as numbers -/
def NumK (k : Int) : Prop := k = 1 ∨ k = 2 ∨ k = 3 ∨ k = 4 ∨ k = 7 ∨ k = 8 ∨ k = 9
set_option maxHeartbeats 4000000 in
theorem valueR_any (k n : Int) (w : World) (hk : NumK k) (h1 : 0 ≤ n) (h2 : n ≤ 18446744073709551615) :
    Calls Tryz.prog 70 #[.int .i64 k, .int .u64 n] w fun e w' => e = .returned (numC (numD k n)) ∧ Below w.heap.size w w' := by
  have hko := fun wx => kindOf_any k wx
  have hz := fun wx => zagR_any n wx h1 h2
  rcases hk with rfl | rfl | rfl | rfl | rfl | rfl | rfl
  · go_enter Tryz.func70, Tryz.ntmps70
    go_wp2_with fail
    refine (hko _).mono ?_
    rintro e w1 ⟨rfl, rfl⟩
    go_wp2_with fail
    refine bodyPost_ret (v := .agg #[.int .i64 (kindOf 1), .int .i64 (wrap64 n), .int .u64 0, .bool false, .string ⟨#[]⟩, .int .i64 0, .slice none 0 0]) (by simp [results, Tryz.results70, go_sem]) rfl ?_
    exact ⟨ret_agg (by rw [← IntWalk.i64_left]; rfl), ((Below.refl _ _).alloc (Nat.le_refl _) _).alloc (by simp) _⟩
  · go_enter Tryz.func70, Tryz.ntmps70
    go_wp2_with fail
    refine (hko _).mono ?_
    rintro e w1 ⟨rfl, rfl⟩
    go_wp2_with fail
    refine bodyPost_ret (v := .agg #[.int .i64 (kindOf 2), .int .i64 0, .int .u64 n, .bool false, .string ⟨#[]⟩, .int .i64 0, .slice none 0 0]) (by simp [results, Tryz.results70, go_sem]) rfl ?_
    exact ⟨ret_agg (rfl), ((Below.refl _ _).alloc (Nat.le_refl _) _).alloc (by simp) _⟩
  · go_enter Tryz.func70, Tryz.ntmps70
    go_wp2_with fail
    refine (hko _).mono ?_
    rintro e w1 ⟨rfl, rfl⟩
    go_wp2_with fail
    refine (hz _).mono ?_
    rintro e w2 ⟨rfl, rfl⟩
    go_wp2_with fail
    refine bodyPost_ret (v := .agg #[.int .i64 (kindOf 3), .int .i64 (zagI n), .int .u64 0, .bool false, .string ⟨#[]⟩, .int .i64 0, .slice none 0 0]) (by simp [results, Tryz.results70, go_sem]) rfl ?_
    exact ⟨ret_agg (rfl), ((Below.refl _ _).alloc (Nat.le_refl _) _).alloc (by simp) _⟩
  · obtain ⟨B, hB⟩ : ∃ B, (n != 0) = B := ⟨_, rfl⟩
    have e : numC (numD 4 n) = .agg #[.int .i64 (kindOf 4), .int .i64 0, .int .u64 0, .bool B, .string ⟨#[]⟩, .int .i64 0, .slice none 0 0] := by
      rw [← hB]
      by_cases hn : n = 0
      · subst hn; rfl
      · have e1 : (n != 0) = true := bne_iff_ne.2 hn
        have e2 : decide (n ≠ 0) = true := decide_eq_true hn
        rw [e1]
        show Value.agg #[.int .i64 3, .int .i64 0, .int .u64 0, .bool (decide (n ≠ 0)), .string ⟨#[]⟩, .int .i64 0, .slice none 0 0] = _
        rw [e2]
        rfl
    rw [e]
    clear e
    go_enter Tryz.func70, Tryz.ntmps70
    go_wp2_with fail
    refine (hko _).mono ?_
    rintro e w1 ⟨rfl, rfl⟩
    go_wp2_with fail
    refine bodyPost_ret (v := .agg #[.int .i64 (kindOf 4), .int .i64 0, .int .u64 0, .bool B, .string ⟨#[]⟩, .int .i64 0, .slice none 0 0]) (by simp [results, Tryz.results70, go_sem]) rfl ?_
    exact ⟨ret_agg (rfl), ((Below.refl _ _).alloc (Nat.le_refl _) _).alloc (by simp) _⟩
  · go_enter Tryz.func70, Tryz.ntmps70
    go_wp2_with fail
    refine (hko _).mono ?_
    rintro e w1 ⟨rfl, rfl⟩
    go_wp2_with fail
    refine bodyPost_ret (v := .agg #[.int .i64 (kindOf 7), .int .i64 0, .int .u64 n, .bool false, .string ⟨#[]⟩, .int .i64 0, .slice none 0 0]) (by simp [results, Tryz.results70, go_sem]) rfl ?_
    exact ⟨ret_agg (rfl), ((Below.refl _ _).alloc (Nat.le_refl _) _).alloc (by simp) _⟩
  · go_enter Tryz.func70, Tryz.ntmps70
    go_wp2_with fail
    refine (hko _).mono ?_
    rintro e w1 ⟨rfl, rfl⟩
    go_wp2_with fail
    refine bodyPost_ret (v := .agg #[.int .i64 (kindOf 8), .int .i64 0, .int .u64 n, .bool false, .string ⟨#[]⟩, .int .i64 0, .slice none 0 0]) (by simp [results, Tryz.results70, go_sem]) rfl ?_
    exact ⟨ret_agg (rfl), ((Below.refl _ _).alloc (Nat.le_refl _) _).alloc (by simp) _⟩
  · go_enter Tryz.func70, Tryz.ntmps70
    go_wp2_with fail
    refine (hko _).mono ?_
    rintro e w1 ⟨rfl, rfl⟩
    go_wp2_with fail
    refine bodyPost_ret (v := .agg #[.int .i64 (kindOf 9), .int .i64 (wrap64 (wrap32 n)), .int .u64 0, .bool false, .string ⟨#[]⟩, .int .i64 0, .slice none 0 0]) (by simp [results, Tryz.results70, go_sem]) rfl ?_
    exact ⟨ret_agg (by have e : wrap64 (wrap32 n) = IntKind.i32.wrap n := (by rw [IntKind.wrap_i32]; unfold wrap64 wrap32; omega); rw [e]; rfl), ((Below.refl _ _).alloc (Nat.le_refl _) _).alloc (by simp) _⟩
end Go.Proofs.YteajlfgbmefncaaGreatDoor
namespace Go.Proofs.YteajlfgbmefncaaGreatDoor
set_option linter.unusedVariables false
open Go.ChangeShapes Go.WideShapes Go.ChangeAt Go.RowKit

theorem cells_at : ∀ (fs : List FR) (k j : Nat) (f : FR), fs[k]? = some f → j < 4 → (fs.flatMap FR.cells)[k * 4 + j]? = f.cells[j]?
  | [], k, j, f, h, _ => by simp at h
  | f0 :: fs, 0, j, f, h, hj => by
    simp at h
    subst h
    rw [List.flatMap_cons, Nat.zero_mul, Nat.zero_add, List.getElem?_append_left (by simp [FR.cells]; omega)]
  | f0 :: fs, k + 1, j, f, h, hj => by
    have h' : fs[k]? = some f := by simpa using h
    rw [List.flatMap_cons, List.getElem?_append_right (by simp [FR.cells]; omega)]
    rw [show (k + 1) * 4 + j - f0.cells.length = k * 4 + j by simp [FR.cells]; omega]
    exact cells_at fs k j f h' hj
theorem owns_slice {w : World} {base : Nat} {e : TypeId} {size : Nat} {v : Value} {n : Nat} {xs : List Value} (h : w.ownsRow base e size v n xs) :
    ∃ a c, v = .slice a n c ∧ n ≤ c ∧ (n = 0 ∨ ∃ g, a = some ⟨g, 0, none⟩ ∧ ∀ j u, j < n * size → xs[j]? = some u → w.cell? ⟨g, j, none⟩ = some u) := by
  obtain ⟨h1, ⟨rfl, rfl⟩ | ⟨g, cap, cur, rfl, hg, hh, h3, h4, h5, h6⟩⟩ := h
  · exact ⟨none, 0, rfl, Nat.le_refl _, .inl rfl⟩
  · refine ⟨_, cap, rfl, h3, .inr ⟨g, rfl, fun j u hj hu => ?_⟩⟩
    have : cur.toList[j]? = some u := by
      have h7 : (cur.toList.take (n * size))[j]? = some u := by rw [h6]; exact hu
      rw [List.getElem?_take, if_pos hj] at h7
      exact h7
    simp only [World.cell?, hh]
    simpa using this
theorem st_shapes {w : World} {B : Nat} {e : TypeId} {vF vR : Value} {fs : List FR} {rs : List Row3} (h : SplSt w B e vF vR fs rs) :
    ∃ aF cF aR cR, vF = .slice aF fs.length cF ∧ vR = .slice aR rs.length cR ∧ fs.length ≤ cF ∧ rs.length ≤ cR ∧
      (∀ k f, fs[k]? = some f → ∃ g, aF = some ⟨g, 0, none⟩ ∧ w.cell? ⟨g, k * 4, none⟩ = some (.int .i64 f.num) ∧ w.cell? ⟨g, k * 4 + 1, none⟩ = some (.int .i64 f.ty) ∧ w.cell? ⟨g, k * 4 + 2, none⟩ = some (.int .u64 f.n) ∧ w.cell? ⟨g, k * 4 + 3, none⟩ = some (.slice f.a f.len f.cap) ∧ IsB w f.a f.len f.d ∧ g < w.heap.size) ∧
      (∀ k r, rs[k]? = some r → ∃ g, aR = some ⟨g, 0, none⟩ ∧ w.cell? ⟨g, k, none⟩ = some (.slice r.a r.len r.cap) ∧ IsB w r.a r.len r.zs ∧ g < w.heap.size) := by
  obtain ⟨aF, cF, hF, hlF, hcF⟩ := owns_slice h.ownF
  obtain ⟨aR, cR, hR, hlR, hcR⟩ := owns_slice h.ownR
  refine ⟨aF, cF, aR, cR, hF, hR, hlF, hlR, ?_, ?_⟩
  · intro k f hk
    have hlt : k < fs.length := (List.getElem?_eq_some_iff.1 hk).1
    rcases hcF with h0 | ⟨g, rfl, hc⟩
    · omega
    · have c0 := hc (k * 4 + 0) _ (by omega) ((cells_at fs k 0 f hk (by omega)).trans rfl)
      have c1 := hc (k * 4 + 1) _ (by omega) ((cells_at fs k 1 f hk (by omega)).trans rfl)
      have c2 := hc (k * 4 + 2) _ (by omega) ((cells_at fs k 2 f hk (by omega)).trans rfl)
      have c3 := hc (k * 4 + 3) _ (by omega) ((cells_at fs k 3 f hk (by omega)).trans rfl)
      exact ⟨g, rfl, c0, c1, c2, c3, (h.farF f (List.mem_of_getElem? hk)).isB, cell_ltB c0⟩
  · intro k r hk
    have hlt : k < rs.length := (List.getElem?_eq_some_iff.1 hk).1
    rcases hcR with h0 | ⟨g, rfl, hc⟩
    · omega
    · have c0 := hc k (.slice r.a r.len r.cap) (by omega) (by rw [List.getElem?_map, hk]; rfl)
      exact ⟨g, rfl, c0, (h.farR r (List.mem_of_getElem? hk)).isB, cell_ltB c0⟩

theorem spl_flat : ∀ (n : Nat) (zs : List Int) (D : List (TF × List Int)), spl n zs = some D → (D.flatMap fun p => p.2) = zs
  | n, [], D, h => by rw [spl_nil] at h; simp at h; subst h; rfl
  | 0, z :: zs, D, h => by simp [spl] at h
  | n + 1, z :: zs, D, h => by
    by_cases he : (tf (z :: zs)).e = 0
    · rw [spl_on n _ (by simp) he] at h
      obtain ⟨D', h1, rfl⟩ := Option.map_eq_some_iff.1 h
      rw [List.flatMap_cons, spl_flat n _ D' h1]
      exact List.take_append_drop _ _
    · rw [spl_err _ _ (by simp) he] at h; simp at h
theorem split_flat (zs : List Int) (D : List (TF × List Int)) (h : split zs = some D) : (D.flatMap fun p => p.2) = zs := spl_flat _ zs D h
theorem fits_at {fs : List FR} {D : List (TF × List Int)} (h : FitsF fs D) (k : Nat) (hk : k < D.length) : ∃ f p, fs[k]? = some f ∧ D[k]? = some p ∧ f.says = p.1.says := by
  have hl := h.len
  refine ⟨fs[k], D[k], List.getElem?_eq_getElem (by omega), List.getElem?_eq_getElem hk, ?_⟩
  have := congrArg (·[k]?) h.1
  simp only [List.getElem?_map, List.getElem?_eq_getElem hk, List.getElem?_eq_getElem (show k < fs.length by omega), Option.map_some] at this
  simpa using this
theorem fitsR_at {rs : List Row3} {D : List (TF × List Int)} (h : FitsR rs D) (k : Nat) (hk : k < D.length) : ∃ r p, rs[k]? = some r ∧ D[k]? = some p ∧ r.zs = p.2 := by
  have hl := h.len
  refine ⟨rs[k], D[k], List.getElem?_eq_getElem (by omega), List.getElem?_eq_getElem hk, ?_⟩
  have := congrArg (·[k]?) h.1
  simp only [List.getElem?_map, List.getElem?_eq_getElem hk, List.getElem?_eq_getElem (show k < rs.length by omega), Option.map_some] at this
  simpa using this
theorem spl_len : ∀ (n : Nat) (zs : List Int) (D : List (TF × List Int)), (∀ z ∈ zs, 0 ≤ z ∧ z ≤ 255) → spl n zs = some D → D.length ≤ zs.length
  | n, [], D, hb, h => by rw [spl_nil] at h; simp at h; subst h; simp
  | 0, z :: zs, D, hb, h => by simp [spl] at h
  | n + 1, z :: zs, D, hb, h => by
    by_cases he : (tf (z :: zs)).e = 0
    · rw [spl_on n _ (by simp) he] at h
      obtain ⟨D', h1, rfl⟩ := Option.map_eq_some_iff.1 h
      have hk := tf_k (z :: zs) hb he
      have := spl_len n _ D' (fun z hz => hb z (List.mem_of_mem_drop hz)) h1
      rw [List.length_drop] at this
      simp only [List.length_cons] at *
      omega
    · rw [spl_err _ _ (by simp) he] at h; simp at h
end Go.Proofs.YteajlfgbmefncaaGreatDoor
