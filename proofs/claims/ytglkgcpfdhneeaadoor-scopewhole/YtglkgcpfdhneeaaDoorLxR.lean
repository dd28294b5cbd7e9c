/-
  A remark says nothing: how a text is read up to a line feed does not hang on what stands behind it. Nothing is proved of the program here.
-/
import Derived.Test.YtglkgcpfdhneeaaDoorLxM
namespace Go.Proofs.YtglkgcpfdhneeaaDoor
set_option linter.unusedVariables false

/-- whether the k-th byte goes on a rune -/
def contA (A : ByteArray) (k : Nat) : Bool := decide (0 + k < A.size) && ((A.get! (0 + k)).toNat / 64 == 2)
def dec4 (b0 b1 b2 b3 : Nat) (c1 c2 c3 : Bool) : Nat × Nat :=
  if b0 < 128 then (b0, 1)
  else if (b0 / 32 == 6 && c1) = true then (if b0 % 32 * 64 + b1 % 64 ≥ 128 then (b0 % 32 * 64 + b1 % 64, 2) else (65533, 1))
  else if (b0 / 16 == 14 && c1 && c2) = true then (if (decide (b0 % 16 * 4096 + b1 % 64 * 64 + b2 % 64 ≥ 2048) && Utf8.valid ((b0 % 16 * 4096 + b1 % 64 * 64 + b2 % 64 : Nat) : Int)) = true then (b0 % 16 * 4096 + b1 % 64 * 64 + b2 % 64, 3) else (65533, 1))
  else if (b0 / 8 == 30 && c1 && c2 && c3) = true then (if (decide (b0 % 8 * 262144 + b1 % 64 * 4096 + b2 % 64 * 64 + b3 % 64 ≥ 65536) && Utf8.valid ((b0 % 8 * 262144 + b1 % 64 * 4096 + b2 % 64 * 64 + b3 % 64 : Nat) : Int)) = true then (b0 % 8 * 262144 + b1 % 64 * 4096 + b2 % 64 * 64 + b3 % 64, 4) else (65533, 1))
  else (65533, 1)
theorem decode_dec4 (A : ByteArray) : Utf8.decode A 0 = dec4 (A.get! (0 + 0)).toNat (A.get! (0 + 1)).toNat (A.get! (0 + 2)).toNat (A.get! (0 + 3)).toNat (contA A 1) (contA A 2) (contA A 3) := rfl
end Go.Proofs.YtglkgcpfdhneeaaDoor
