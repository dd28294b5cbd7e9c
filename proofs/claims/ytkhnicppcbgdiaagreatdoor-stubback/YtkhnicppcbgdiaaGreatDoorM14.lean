/-
  The walks over the program's own methodLine and written: rows are written as their text.
-/
import Derived.Test.YtkhnicppcbgdiaaGreatDoorM9
import Derived.Test.YtkhnicppcbgdiaaGreatDoorM10
import Derived.Test.YtkhnicppcbgdiaaGreatDoorM11
import Derived.Test.YtkhnicppcbgdiaaGreatDoorM13
import Derived.Test.YtkhnicppcbgdiaaGreatDoorM4
import Derived.Test.YtkhnicppcbgdiaaGreatDoorM0
import Derived.Test.YtkhnicppcbgdiaaGreatDoorM5
import Derived.Deep.RegionHeldLaw
import Derived.BigQuiet
import Derived.Lib.ItoaMem
import Derived.Lib.ItoaLen
import Derived.Deep.RegionWith
import Derived.Deep.RegionLaw
import Derived.Lib.SlicesS
import Derived.Deep.Cut
import Derived.Deep.DeepCutAuto
import Derived.Deep.QuietTactic
import Derived.Deep.AppendLies
import Derived.Laws.AppendOwn
import Derived.OwnWalk
import Derived.Maps.AppendAt
import Derived.Lib.Hide
namespace Go.Proofs.YtkhnicppcbgdiaaGreatDoor
set_option linter.unusedVariables false
open Go.ChangeShapes Go.WideShapes Go.ChangeAt Go.RowKit

theorem mkB_ap (a b : List UInt8) : mkB (a ++ b) = mkB a ++ mkB b := by
  apply ByteArray.ext
  rw [ByteArray.data_append]
  apply Array.ext'
  rw [Array.toList_append]
  rfl
theorem itoaS (n : Int) (h0 : -9223372036854775808 ≤ n) (h1 : n ≤ 9223372036854775807) (w : World) (hP : Pow w) :
    Calls Tryz.prog 36 #[.int .i64 n] w fun e w' => e = .returned (.string (mkB (Lib.itoa n))) ∧ Below w.heap.size w w' :=
  (strconv_Itoa n h0 h1 w hP).mono fun e w' ⟨h1, kk, os, h2⟩ => ⟨h1, by rw [h2]; exact Lib.below_grow _ w (Nat.le_refl _) kk os⟩
theorem sumZ (a b : ByteArray) (h : a.size + b.size ≤ 9223372036854775807) (W : World) : (Op.stringOp .add a b).run Tryz.prog W = .ok (.string (a ++ b)) W :=
  run_string_add_sum W _ _ h
/-- rows of a size that is looked at -/
def FitRw (r : Rw) : Prop := (-9223372036854775808 ≤ r.id ∧ r.id ≤ 9223372036854775807) ∧ r.sv.length ≤ 1000000 ∧ r.mt.length ≤ 1000000 ∧ r.inn.length ≤ 1000000 ∧ r.out.length ≤ 1000000
theorem z_wFunc : (⟨#[102, 117, 110, 99, 32, 40, 99, 32]⟩ : ByteArray).size = 8 := rfl
theorem z_wClient : (⟨#[67, 108, 105, 101, 110, 116, 41, 32]⟩ : ByteArray).size = 8 := rfl
theorem z_wIn : (⟨#[40, 105, 110, 32]⟩ : ByteArray).size = 4 := rfl
theorem z_wMid : (⟨#[41, 32, 40]⟩ : ByteArray).size = 3 := rfl
theorem z_wStat : (⟨#[44, 32, 83, 116, 97, 116, 117, 115, 41]⟩ : ByteArray).size = 9 := rfl
theorem z_wCall : (⟨#[32, 123, 32, 114, 101, 116, 117, 114, 110, 32, 99, 97, 108, 108, 91]⟩ : ByteArray).size = 15 := rfl
theorem z_wCaller : (⟨#[93, 40, 99, 46, 67, 97, 108, 108, 101, 114, 44, 32]⟩ : ByteArray).size = 12 := rfl
theorem z_wEnd : (⟨#[44, 32, 105, 110, 41, 32, 125]⟩ : ByteArray).size = 7 := rfl
theorem line_chain (r : Rw) : (⟨#[102, 117, 110, 99, 32, 40, 99, 32]⟩ : ByteArray) ++ mkB r.sv ++ (⟨#[67, 108, 105, 101, 110, 116, 41, 32]⟩ : ByteArray) ++ mkB r.mt ++ (⟨#[40, 105, 110, 32]⟩ : ByteArray) ++ mkB r.inn ++ (⟨#[41, 32, 40]⟩ : ByteArray) ++ mkB r.out ++ (⟨#[44, 32, 83, 116, 97, 116, 117, 115, 41]⟩ : ByteArray) ++ (⟨#[32, 123, 32, 114, 101, 116, 117, 114, 110, 32, 99, 97, 108, 108, 91]⟩ : ByteArray) ++ mkB r.out ++ (⟨#[93, 40, 99, 46, 67, 97, 108, 108, 101, 114, 44, 32]⟩ : ByteArray) ++ mkB (Lib.itoa r.id) ++ (⟨#[44, 32, 105, 110, 41, 32, 125]⟩ : ByteArray) = mkB (mlL r) := by
  show mkB wFunc ++ mkB r.sv ++ mkB wClient ++ mkB r.mt ++ mkB wIn ++ mkB r.inn ++ mkB wMid ++ mkB r.out ++ mkB wStat ++ mkB wCall ++ mkB r.out ++ mkB wCaller ++ mkB (Lib.itoa r.id) ++ mkB wEnd = _
  unfold mlL
  simp only [mkB_ap]
set_option maxHeartbeats 8000000 in
set_option maxRecDepth 20000 in
theorem methodLine_any (r : Rw) (w : World) (hP : Pow w) (hf : FitRw r) :
    Calls Tryz.prog 35 #[.agg (rrow r).toArray] w fun e w' => e = .returned (.string (mkB (mlL r))) ∧ Below w.heap.size w w' := by
  obtain ⟨⟨f0, f0b⟩, f1, f2, f3, f4⟩ := hf
  have hil := Lib.itoa_length_le r.id f0 f0b
  have HB : Hid (Below w.heap.size w (w.alloc (.cells #[.int .i64 r.id, .string (mkB r.sv), .string (mkB r.mt), .string (mkB r.inn), .string (mkB r.out)] 50))) := (Below.refl _ _).alloc (Nat.le_refl _) _
  have hV : (w.alloc (.cells #[.int .i64 r.id, .string (mkB r.sv), .string (mkB r.mt), .string (mkB r.inn), .string (mkB r.out)] 50)).heap[w.heap.size]? = some (.cells #[.int .i64 r.id, .string (mkB r.sv), .string (mkB r.mt), .string (mkB r.inn), .string (mkB r.out)] 50 (0, 0)) := alloc_heap_new _ _
  have q0 : ((⟨#[102, 117, 110, 99, 32, 40, 99, 32]⟩ : ByteArray)).size ≤ 8 := by rw [z_wFunc]; omega
  have s1 := sumZ ((⟨#[102, 117, 110, 99, 32, 40, 99, 32]⟩ : ByteArray)) (mkB r.sv) (by rw [mkB_sz]; omega)
  have q1 : ((⟨#[102, 117, 110, 99, 32, 40, 99, 32]⟩ : ByteArray) ++ mkB r.sv).size ≤ 1000008 := by rw [ByteArray.size_append, mkB_sz]; omega
  have s2 := sumZ ((⟨#[102, 117, 110, 99, 32, 40, 99, 32]⟩ : ByteArray) ++ mkB r.sv) ((⟨#[67, 108, 105, 101, 110, 116, 41, 32]⟩ : ByteArray)) (by rw [z_wClient]; omega)
  have q2 : ((⟨#[102, 117, 110, 99, 32, 40, 99, 32]⟩ : ByteArray) ++ mkB r.sv ++ (⟨#[67, 108, 105, 101, 110, 116, 41, 32]⟩ : ByteArray)).size ≤ 1000016 := by rw [ByteArray.size_append, z_wClient]; omega
  have s3 := sumZ ((⟨#[102, 117, 110, 99, 32, 40, 99, 32]⟩ : ByteArray) ++ mkB r.sv ++ (⟨#[67, 108, 105, 101, 110, 116, 41, 32]⟩ : ByteArray)) (mkB r.mt) (by rw [mkB_sz]; omega)
  have q3 : ((⟨#[102, 117, 110, 99, 32, 40, 99, 32]⟩ : ByteArray) ++ mkB r.sv ++ (⟨#[67, 108, 105, 101, 110, 116, 41, 32]⟩ : ByteArray) ++ mkB r.mt).size ≤ 2000016 := by rw [ByteArray.size_append, mkB_sz]; omega
  have s4 := sumZ ((⟨#[102, 117, 110, 99, 32, 40, 99, 32]⟩ : ByteArray) ++ mkB r.sv ++ (⟨#[67, 108, 105, 101, 110, 116, 41, 32]⟩ : ByteArray) ++ mkB r.mt) ((⟨#[40, 105, 110, 32]⟩ : ByteArray)) (by rw [z_wIn]; omega)
  have q4 : ((⟨#[102, 117, 110, 99, 32, 40, 99, 32]⟩ : ByteArray) ++ mkB r.sv ++ (⟨#[67, 108, 105, 101, 110, 116, 41, 32]⟩ : ByteArray) ++ mkB r.mt ++ (⟨#[40, 105, 110, 32]⟩ : ByteArray)).size ≤ 2000020 := by rw [ByteArray.size_append, z_wIn]; omega
  have s5 := sumZ ((⟨#[102, 117, 110, 99, 32, 40, 99, 32]⟩ : ByteArray) ++ mkB r.sv ++ (⟨#[67, 108, 105, 101, 110, 116, 41, 32]⟩ : ByteArray) ++ mkB r.mt ++ (⟨#[40, 105, 110, 32]⟩ : ByteArray)) (mkB r.inn) (by rw [mkB_sz]; omega)
  have q5 : ((⟨#[102, 117, 110, 99, 32, 40, 99, 32]⟩ : ByteArray) ++ mkB r.sv ++ (⟨#[67, 108, 105, 101, 110, 116, 41, 32]⟩ : ByteArray) ++ mkB r.mt ++ (⟨#[40, 105, 110, 32]⟩ : ByteArray) ++ mkB r.inn).size ≤ 3000020 := by rw [ByteArray.size_append, mkB_sz]; omega
  have s6 := sumZ ((⟨#[102, 117, 110, 99, 32, 40, 99, 32]⟩ : ByteArray) ++ mkB r.sv ++ (⟨#[67, 108, 105, 101, 110, 116, 41, 32]⟩ : ByteArray) ++ mkB r.mt ++ (⟨#[40, 105, 110, 32]⟩ : ByteArray) ++ mkB r.inn) ((⟨#[41, 32, 40]⟩ : ByteArray)) (by rw [z_wMid]; omega)
  have q6 : ((⟨#[102, 117, 110, 99, 32, 40, 99, 32]⟩ : ByteArray) ++ mkB r.sv ++ (⟨#[67, 108, 105, 101, 110, 116, 41, 32]⟩ : ByteArray) ++ mkB r.mt ++ (⟨#[40, 105, 110, 32]⟩ : ByteArray) ++ mkB r.inn ++ (⟨#[41, 32, 40]⟩ : ByteArray)).size ≤ 3000023 := by rw [ByteArray.size_append, z_wMid]; omega
  have s7 := sumZ ((⟨#[102, 117, 110, 99, 32, 40, 99, 32]⟩ : ByteArray) ++ mkB r.sv ++ (⟨#[67, 108, 105, 101, 110, 116, 41, 32]⟩ : ByteArray) ++ mkB r.mt ++ (⟨#[40, 105, 110, 32]⟩ : ByteArray) ++ mkB r.inn ++ (⟨#[41, 32, 40]⟩ : ByteArray)) (mkB r.out) (by rw [mkB_sz]; omega)
  have q7 : ((⟨#[102, 117, 110, 99, 32, 40, 99, 32]⟩ : ByteArray) ++ mkB r.sv ++ (⟨#[67, 108, 105, 101, 110, 116, 41, 32]⟩ : ByteArray) ++ mkB r.mt ++ (⟨#[40, 105, 110, 32]⟩ : ByteArray) ++ mkB r.inn ++ (⟨#[41, 32, 40]⟩ : ByteArray) ++ mkB r.out).size ≤ 4000023 := by rw [ByteArray.size_append, mkB_sz]; omega
  have s8 := sumZ ((⟨#[102, 117, 110, 99, 32, 40, 99, 32]⟩ : ByteArray) ++ mkB r.sv ++ (⟨#[67, 108, 105, 101, 110, 116, 41, 32]⟩ : ByteArray) ++ mkB r.mt ++ (⟨#[40, 105, 110, 32]⟩ : ByteArray) ++ mkB r.inn ++ (⟨#[41, 32, 40]⟩ : ByteArray) ++ mkB r.out) ((⟨#[44, 32, 83, 116, 97, 116, 117, 115, 41]⟩ : ByteArray)) (by rw [z_wStat]; omega)
  have q8 : ((⟨#[102, 117, 110, 99, 32, 40, 99, 32]⟩ : ByteArray) ++ mkB r.sv ++ (⟨#[67, 108, 105, 101, 110, 116, 41, 32]⟩ : ByteArray) ++ mkB r.mt ++ (⟨#[40, 105, 110, 32]⟩ : ByteArray) ++ mkB r.inn ++ (⟨#[41, 32, 40]⟩ : ByteArray) ++ mkB r.out ++ (⟨#[44, 32, 83, 116, 97, 116, 117, 115, 41]⟩ : ByteArray)).size ≤ 4000032 := by rw [ByteArray.size_append, z_wStat]; omega
  have s9 := sumZ ((⟨#[102, 117, 110, 99, 32, 40, 99, 32]⟩ : ByteArray) ++ mkB r.sv ++ (⟨#[67, 108, 105, 101, 110, 116, 41, 32]⟩ : ByteArray) ++ mkB r.mt ++ (⟨#[40, 105, 110, 32]⟩ : ByteArray) ++ mkB r.inn ++ (⟨#[41, 32, 40]⟩ : ByteArray) ++ mkB r.out ++ (⟨#[44, 32, 83, 116, 97, 116, 117, 115, 41]⟩ : ByteArray)) ((⟨#[32, 123, 32, 114, 101, 116, 117, 114, 110, 32, 99, 97, 108, 108, 91]⟩ : ByteArray)) (by rw [z_wCall]; omega)
  have q9 : ((⟨#[102, 117, 110, 99, 32, 40, 99, 32]⟩ : ByteArray) ++ mkB r.sv ++ (⟨#[67, 108, 105, 101, 110, 116, 41, 32]⟩ : ByteArray) ++ mkB r.mt ++ (⟨#[40, 105, 110, 32]⟩ : ByteArray) ++ mkB r.inn ++ (⟨#[41, 32, 40]⟩ : ByteArray) ++ mkB r.out ++ (⟨#[44, 32, 83, 116, 97, 116, 117, 115, 41]⟩ : ByteArray) ++ (⟨#[32, 123, 32, 114, 101, 116, 117, 114, 110, 32, 99, 97, 108, 108, 91]⟩ : ByteArray)).size ≤ 4000047 := by rw [ByteArray.size_append, z_wCall]; omega
  have s10 := sumZ ((⟨#[102, 117, 110, 99, 32, 40, 99, 32]⟩ : ByteArray) ++ mkB r.sv ++ (⟨#[67, 108, 105, 101, 110, 116, 41, 32]⟩ : ByteArray) ++ mkB r.mt ++ (⟨#[40, 105, 110, 32]⟩ : ByteArray) ++ mkB r.inn ++ (⟨#[41, 32, 40]⟩ : ByteArray) ++ mkB r.out ++ (⟨#[44, 32, 83, 116, 97, 116, 117, 115, 41]⟩ : ByteArray) ++ (⟨#[32, 123, 32, 114, 101, 116, 117, 114, 110, 32, 99, 97, 108, 108, 91]⟩ : ByteArray)) (mkB r.out) (by rw [mkB_sz]; omega)
  have q10 : ((⟨#[102, 117, 110, 99, 32, 40, 99, 32]⟩ : ByteArray) ++ mkB r.sv ++ (⟨#[67, 108, 105, 101, 110, 116, 41, 32]⟩ : ByteArray) ++ mkB r.mt ++ (⟨#[40, 105, 110, 32]⟩ : ByteArray) ++ mkB r.inn ++ (⟨#[41, 32, 40]⟩ : ByteArray) ++ mkB r.out ++ (⟨#[44, 32, 83, 116, 97, 116, 117, 115, 41]⟩ : ByteArray) ++ (⟨#[32, 123, 32, 114, 101, 116, 117, 114, 110, 32, 99, 97, 108, 108, 91]⟩ : ByteArray) ++ mkB r.out).size ≤ 5000047 := by rw [ByteArray.size_append, mkB_sz]; omega
  have s11 := sumZ ((⟨#[102, 117, 110, 99, 32, 40, 99, 32]⟩ : ByteArray) ++ mkB r.sv ++ (⟨#[67, 108, 105, 101, 110, 116, 41, 32]⟩ : ByteArray) ++ mkB r.mt ++ (⟨#[40, 105, 110, 32]⟩ : ByteArray) ++ mkB r.inn ++ (⟨#[41, 32, 40]⟩ : ByteArray) ++ mkB r.out ++ (⟨#[44, 32, 83, 116, 97, 116, 117, 115, 41]⟩ : ByteArray) ++ (⟨#[32, 123, 32, 114, 101, 116, 117, 114, 110, 32, 99, 97, 108, 108, 91]⟩ : ByteArray) ++ mkB r.out) ((⟨#[93, 40, 99, 46, 67, 97, 108, 108, 101, 114, 44, 32]⟩ : ByteArray)) (by rw [z_wCaller]; omega)
  have q11 : ((⟨#[102, 117, 110, 99, 32, 40, 99, 32]⟩ : ByteArray) ++ mkB r.sv ++ (⟨#[67, 108, 105, 101, 110, 116, 41, 32]⟩ : ByteArray) ++ mkB r.mt ++ (⟨#[40, 105, 110, 32]⟩ : ByteArray) ++ mkB r.inn ++ (⟨#[41, 32, 40]⟩ : ByteArray) ++ mkB r.out ++ (⟨#[44, 32, 83, 116, 97, 116, 117, 115, 41]⟩ : ByteArray) ++ (⟨#[32, 123, 32, 114, 101, 116, 117, 114, 110, 32, 99, 97, 108, 108, 91]⟩ : ByteArray) ++ mkB r.out ++ (⟨#[93, 40, 99, 46, 67, 97, 108, 108, 101, 114, 44, 32]⟩ : ByteArray)).size ≤ 5000059 := by rw [ByteArray.size_append, z_wCaller]; omega
  have s12 := sumZ ((⟨#[102, 117, 110, 99, 32, 40, 99, 32]⟩ : ByteArray) ++ mkB r.sv ++ (⟨#[67, 108, 105, 101, 110, 116, 41, 32]⟩ : ByteArray) ++ mkB r.mt ++ (⟨#[40, 105, 110, 32]⟩ : ByteArray) ++ mkB r.inn ++ (⟨#[41, 32, 40]⟩ : ByteArray) ++ mkB r.out ++ (⟨#[44, 32, 83, 116, 97, 116, 117, 115, 41]⟩ : ByteArray) ++ (⟨#[32, 123, 32, 114, 101, 116, 117, 114, 110, 32, 99, 97, 108, 108, 91]⟩ : ByteArray) ++ mkB r.out ++ (⟨#[93, 40, 99, 46, 67, 97, 108, 108, 101, 114, 44, 32]⟩ : ByteArray)) (mkB (Lib.itoa r.id)) (by rw [mkB_sz]; omega)
  have q12 : ((⟨#[102, 117, 110, 99, 32, 40, 99, 32]⟩ : ByteArray) ++ mkB r.sv ++ (⟨#[67, 108, 105, 101, 110, 116, 41, 32]⟩ : ByteArray) ++ mkB r.mt ++ (⟨#[40, 105, 110, 32]⟩ : ByteArray) ++ mkB r.inn ++ (⟨#[41, 32, 40]⟩ : ByteArray) ++ mkB r.out ++ (⟨#[44, 32, 83, 116, 97, 116, 117, 115, 41]⟩ : ByteArray) ++ (⟨#[32, 123, 32, 114, 101, 116, 117, 114, 110, 32, 99, 97, 108, 108, 91]⟩ : ByteArray) ++ mkB r.out ++ (⟨#[93, 40, 99, 46, 67, 97, 108, 108, 101, 114, 44, 32]⟩ : ByteArray) ++ mkB (Lib.itoa r.id)).size ≤ 5000080 := by rw [ByteArray.size_append, mkB_sz]; omega
  have s13 := sumZ ((⟨#[102, 117, 110, 99, 32, 40, 99, 32]⟩ : ByteArray) ++ mkB r.sv ++ (⟨#[67, 108, 105, 101, 110, 116, 41, 32]⟩ : ByteArray) ++ mkB r.mt ++ (⟨#[40, 105, 110, 32]⟩ : ByteArray) ++ mkB r.inn ++ (⟨#[41, 32, 40]⟩ : ByteArray) ++ mkB r.out ++ (⟨#[44, 32, 83, 116, 97, 116, 117, 115, 41]⟩ : ByteArray) ++ (⟨#[32, 123, 32, 114, 101, 116, 117, 114, 110, 32, 99, 97, 108, 108, 91]⟩ : ByteArray) ++ mkB r.out ++ (⟨#[93, 40, 99, 46, 67, 97, 108, 108, 101, 114, 44, 32]⟩ : ByteArray) ++ mkB (Lib.itoa r.id)) ((⟨#[44, 32, 105, 110, 41, 32, 125]⟩ : ByteArray)) (by rw [z_wEnd]; omega)
  have q13 : ((⟨#[102, 117, 110, 99, 32, 40, 99, 32]⟩ : ByteArray) ++ mkB r.sv ++ (⟨#[67, 108, 105, 101, 110, 116, 41, 32]⟩ : ByteArray) ++ mkB r.mt ++ (⟨#[40, 105, 110, 32]⟩ : ByteArray) ++ mkB r.inn ++ (⟨#[41, 32, 40]⟩ : ByteArray) ++ mkB r.out ++ (⟨#[44, 32, 83, 116, 97, 116, 117, 115, 41]⟩ : ByteArray) ++ (⟨#[32, 123, 32, 114, 101, 116, 117, 114, 110, 32, 99, 97, 108, 108, 91]⟩ : ByteArray) ++ mkB r.out ++ (⟨#[93, 40, 99, 46, 67, 97, 108, 108, 101, 114, 44, 32]⟩ : ByteArray) ++ mkB (Lib.itoa r.id) ++ (⟨#[44, 32, 105, 110, 41, 32, 125]⟩ : ByteArray)).size ≤ 5000087 := by rw [ByteArray.size_append, z_wEnd]; omega
  clear q0 q1 q2 q3 q4 q5 q6 q7 q8 q9 q10 q11 q12 q13
  have HE := Lib.hid (line_chain r)
  unfold rrow
  go_enter Tryz.func35, Tryz.ntmps35
  go_upto_region 1 with fail
  generalize (w.alloc (.cells #[.int .i64 r.id, .string (mkB r.sv), .string (mkB r.mt), .string (mkB r.inn), .string (mkB r.out)] 50)) = V at *
  have hlt := blk_lt hV
  have hI := itoaS r.id f0 f0b V.drew ((hP.below HB.out).below (Below.refl _ V).drew)
  have hc0 : ∀ W : World, W.heap[w.heap.size]? = some (.cells #[.int .i64 r.id, .string (mkB r.sv), .string (mkB r.mt), .string (mkB r.inn), .string (mkB r.out)] 50 (0, 0)) → W.cell? ⟨w.heap.size, 0, none⟩ = some (.int .i64 r.id) := fun W h => cell_at h 0 rfl
  have hc1 : ∀ W : World, W.heap[w.heap.size]? = some (.cells #[.int .i64 r.id, .string (mkB r.sv), .string (mkB r.mt), .string (mkB r.inn), .string (mkB r.out)] 50 (0, 0)) → W.cell? ⟨w.heap.size, 1, none⟩ = some (.string (mkB r.sv)) := fun W h => cell_at h 1 rfl
  have hc2 : ∀ W : World, W.heap[w.heap.size]? = some (.cells #[.int .i64 r.id, .string (mkB r.sv), .string (mkB r.mt), .string (mkB r.inn), .string (mkB r.out)] 50 (0, 0)) → W.cell? ⟨w.heap.size, 2, none⟩ = some (.string (mkB r.mt)) := fun W h => cell_at h 2 rfl
  have hc3 : ∀ W : World, W.heap[w.heap.size]? = some (.cells #[.int .i64 r.id, .string (mkB r.sv), .string (mkB r.mt), .string (mkB r.inn), .string (mkB r.out)] 50 (0, 0)) → W.cell? ⟨w.heap.size, 3, none⟩ = some (.string (mkB r.inn)) := fun W h => cell_at h 3 rfl
  have hc4 : ∀ W : World, W.heap[w.heap.size]? = some (.cells #[.int .i64 r.id, .string (mkB r.sv), .string (mkB r.mt), .string (mkB r.inn), .string (mkB r.out)] 50 (0, 0)) → W.cell? ⟨w.heap.size, 4, none⟩ = some (.string (mkB r.out)) := fun W h => cell_at h 4 rfl
  clear f1 f2 f3 f4 hil
  go_region_held_law (fun W' => W'.heap[w.heap.size]? = some (.cells #[.int .i64 r.id, .string (mkB r.sv), .string (mkB r.mt), .string (mkB r.inn), .string (mkB r.out)] 50 (0, 0))) (first | exact hV | exact hV5 | assumption) (first
    | (go_at_call 36; refine hI.mono ?_; rintro e W5 ⟨rfl, hw5⟩; have hb5 : Below V.heap.size V W5 := (Below.refl _ V).drew.trans hw5; clear hw5; have hV5 := (hb5.block _ hlt).trans hV))
  all_goals
    have HB5 := Lib.hid (HB.out.trans (hb5.mono HB.out.size))
    rw [HE.out]
    clear hV5 hb5 hI
    go_wp2_with fail
    go_ret
    exact ⟨rfl, HB5.out⟩
end Go.Proofs.YtkhnicppcbgdiaaGreatDoor
