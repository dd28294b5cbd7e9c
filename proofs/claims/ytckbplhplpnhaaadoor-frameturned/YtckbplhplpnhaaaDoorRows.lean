/-
  NARROWER THAN 'FOR EVERY INPUT', by the rows' own cells (each row's printed sentence says how): FrameBuilds: laid · FrameParses: laid · FrameBack: laid · FrameTurned: laid · FrameSame: laid.
  DERIVED. THE GIVEN ROWS OF THIS SEAT. 5 by the template 'for every input the law returns true; each argument reads behind the call as it read before'; 0 by the template 'total and deterministic' (their statements: YtckbplhplpnhaaaDoorTotals.lean).
  GIVEN WITH THE SEED: the statements are not yours to turn. If you find one false, say at which input.
  Laid BY PROGRAM, IN A SANDBOX (cutbox-rows.mjs): the forced cells as the released guide's own fill.sh prints them over the translation 1cd0349cf53709ce… (all of the seat's roots in one cut). By AI agents, Wed Nov 11 2026. No macro, syntax, notation, axiom, sorry.
-/
import Derived.Test.YtckbplhplpnhaaaDoorChecked
import GoSem.Claim
import GoSem.ClaimJoined
import GoSem.ClaimMapViews
import Derived.JoinedTies
import Derived.KernelRfl
namespace Go.Proofs.YtckbplhplpnhaaaDoor
/- THE CELL 'sum', in the pinned program and in every row, IS THE sha256 OF THE DUMP (.gsa) THAT YtckbplhplpnhaaaDoorProg.lean LOADS. Nothing in Lean hashes anything: it is a label: what it is worth is what the hold of that sum in a sandbox is worth. -/
noncomputable def Tryd.pinned : Pinned := { name := "ytckbplhplpnhaaadoor", sum := "1cd0349cf53709ce4762d9fa9d219624df389ddf5fb728e4c13fbdae94f418fa", checked := Tryd.checked }
namespace Rows
def none {H : Type} : Left H := { results := [], args := [] }

/- WHAT THE LISTED PACKAGE-LEVEL VARIABLES READ AS WHEN THE CALL BEGINS. Each datum BY PROGRAM (the guide's laid-datum.mjs) off the statement by which the dump's own 'gosem.cut.vars' lays the variable. In a bare row this is a premise. The card (YtckbplhplpnhaaaDoorCards.lean) ties it to the program's text. -/
def laid_courier_crc_shifts {H : Type} : DataW H := .agg [.lit (.int .u32 0), .lit (.int .u32 498536548), .lit (.int .u32 997073096), .lit (.int .u32 651767980), .lit (.int .u32 1994146192), .lit (.int .u32 1802195444), .lit (.int .u32 1303535960), .lit (.int .u32 1342533948), .lit (.int .u32 3988292384), .lit (.int .u32 4027552580), .lit (.int .u32 3604390888), .lit (.int .u32 3412177804), .lit (.int .u32 2607071920), .lit (.int .u32 2262029012), .lit (.int .u32 2685067896), .lit (.int .u32 3183342108)]

/-- 'courierlaw15.FrameBuilds': WHATEVER THE INPUT: true; the input reads as it did. -/
def frameBuildsSpec : ChangeSpec := { name := "frameBuilds", fn := fun _ => fun
  | [d] => { results := [.lit (.bool true)], args := [d] }
  | _ => none }
def frameBuildsRow : OpenClaim := { program := "ytckbplhplpnhaaadoor", sum := "1cd0349cf53709ce4762d9fa9d219624df389ddf5fb728e4c13fbdae94f418fa", func := "courier/courierlaw15.FrameBuilds", spec := "frameBuilds", named := ["courier/crc.shifts"], apart := false, laid := [("courier/crc.shifts", laid_courier_crc_shifts)] }
def FrameBuildsSaid : Prop := frameBuildsRow.holds Tryd.pinned (OpenSpec.ofChange frameBuildsSpec)

/-- ITS FALSE NEIGHBOUR: 'it returns false'. Refute it at one input. -/
def frameBuildsWrong : ChangeSpec := { name := "frameBuilds", fn := fun _ => fun
  | [d] => { results := [.lit (.bool false)], args := [d] }
  | _ => none }
def FrameBuildsWrongFalsely : Prop := frameBuildsRow.holds Tryd.pinned (OpenSpec.ofChange frameBuildsWrong)

/-- 'courierlaw15.FrameParses': WHATEVER THE INPUT: true; the input reads as it did. -/
def frameParsesSpec : ChangeSpec := { name := "frameParses", fn := fun _ => fun
  | [d] => { results := [.lit (.bool true)], args := [d] }
  | _ => none }
def frameParsesRow : OpenClaim := { program := "ytckbplhplpnhaaadoor", sum := "1cd0349cf53709ce4762d9fa9d219624df389ddf5fb728e4c13fbdae94f418fa", func := "courier/courierlaw15.FrameParses", spec := "frameParses", named := ["courier/crc.shifts"], apart := false, laid := [("courier/crc.shifts", laid_courier_crc_shifts)] }
def FrameParsesSaid : Prop := frameParsesRow.holds Tryd.pinned (OpenSpec.ofChange frameParsesSpec)

/-- ITS FALSE NEIGHBOUR: 'it returns false'. Refute it at one input. -/
def frameParsesWrong : ChangeSpec := { name := "frameParses", fn := fun _ => fun
  | [d] => { results := [.lit (.bool false)], args := [d] }
  | _ => none }
def FrameParsesWrongFalsely : Prop := frameParsesRow.holds Tryd.pinned (OpenSpec.ofChange frameParsesWrong)

/-- 'courierlaw15.FrameBack': WHATEVER THE INPUT: true; the input reads as it did. -/
def frameBackSpec : ChangeSpec := { name := "frameBack", fn := fun _ => fun
  | [d] => { results := [.lit (.bool true)], args := [d] }
  | _ => none }
def frameBackRow : OpenClaim := { program := "ytckbplhplpnhaaadoor", sum := "1cd0349cf53709ce4762d9fa9d219624df389ddf5fb728e4c13fbdae94f418fa", func := "courier/courierlaw15.FrameBack", spec := "frameBack", named := ["courier/crc.shifts"], apart := false, laid := [("courier/crc.shifts", laid_courier_crc_shifts)] }
def FrameBackSaid : Prop := frameBackRow.holds Tryd.pinned (OpenSpec.ofChange frameBackSpec)

/-- ITS FALSE NEIGHBOUR: 'it returns false'. Refute it at one input. -/
def frameBackWrong : ChangeSpec := { name := "frameBack", fn := fun _ => fun
  | [d] => { results := [.lit (.bool false)], args := [d] }
  | _ => none }
def FrameBackWrongFalsely : Prop := frameBackRow.holds Tryd.pinned (OpenSpec.ofChange frameBackWrong)

/-- 'courierlaw15.FrameTurned': WHATEVER THE INPUT: true; the input reads as it did. -/
def frameTurnedSpec : ChangeSpec := { name := "frameTurned", fn := fun _ => fun
  | [d1, d2, d3] => { results := [.lit (.bool true)], args := [d1, d2, d3] }
  | _ => none }
def frameTurnedRow : OpenClaim := { program := "ytckbplhplpnhaaadoor", sum := "1cd0349cf53709ce4762d9fa9d219624df389ddf5fb728e4c13fbdae94f418fa", func := "courier/courierlaw15.FrameTurned", spec := "frameTurned", named := ["courier/crc.shifts"], apart := false, laid := [("courier/crc.shifts", laid_courier_crc_shifts)] }
def FrameTurnedSaid : Prop := frameTurnedRow.holds Tryd.pinned (OpenSpec.ofChange frameTurnedSpec)

/-- ITS FALSE NEIGHBOUR: 'it returns false'. Refute it at one input. -/
def frameTurnedWrong : ChangeSpec := { name := "frameTurned", fn := fun _ => fun
  | [d1, d2, d3] => { results := [.lit (.bool false)], args := [d1, d2, d3] }
  | _ => none }
def FrameTurnedWrongFalsely : Prop := frameTurnedRow.holds Tryd.pinned (OpenSpec.ofChange frameTurnedWrong)

/-- 'courierlaw15.FrameSame': WHATEVER THE INPUT: true; the input reads as it did. -/
def frameSameSpec : ChangeSpec := { name := "frameSame", fn := fun _ => fun
  | [d1, d2] => { results := [.lit (.bool true)], args := [d1, d2] }
  | _ => none }
def frameSameRow : OpenClaim := { program := "ytckbplhplpnhaaadoor", sum := "1cd0349cf53709ce4762d9fa9d219624df389ddf5fb728e4c13fbdae94f418fa", func := "courier/courierlaw15.FrameSame", spec := "frameSame", named := ["courier/crc.shifts"], apart := false, laid := [("courier/crc.shifts", laid_courier_crc_shifts)] }
def FrameSameSaid : Prop := frameSameRow.holds Tryd.pinned (OpenSpec.ofChange frameSameSpec)

/-- ITS FALSE NEIGHBOUR: 'it returns false'. Refute it at one input. -/
def frameSameWrong : ChangeSpec := { name := "frameSame", fn := fun _ => fun
  | [d1, d2] => { results := [.lit (.bool false)], args := [d1, d2] }
  | _ => none }
def FrameSameWrongFalsely : Prop := frameSameRow.holds Tryd.pinned (OpenSpec.ofChange frameSameWrong)

/- THE SECOND FORM. 'bulk': how many values and letters a reading holds, each counted each time it is reached (what is shared counts as often as it is met; a slice's spare places count too). A statement '..UptoSaid' is the law's where the arguments, and the package variables that the reading takes, are together of bulk at most 1048576: NARROWER than '..Said'. Prove '..Said' where nothing that the law and all that it calls make is longer than what came in: it says more and counts as full. Else prove '..UptoSaid'. A law counts once. -/
mutual
def uptoBulk {H : Type} : DataW H → Nat
  | .lit (.string bytes) => bytes.length + 1
  | .lit _ => 1
  | .nil => 1
  | .ptr d => uptoBulk d + 1
  | .slice elems spare => uptoBulkAll elems + uptoBulkAll spare + 1
  | .agg parts => uptoBulkAll parts + 1
  | .iface _ d => uptoBulk d + 1
  | .map entries => uptoBulkEntries entries + 1
  | .held _ => 1
def uptoBulkAll {H : Type} : List (DataW H) → Nat
  | [] => 0
  | d :: r => uptoBulk d + uptoBulkAll r
def uptoBulkEntries {H : Type} : List (Lit × DataW H) → Nat
  | [] => 0
  | x :: r => uptoBulkEntry x + uptoBulkEntries r
def uptoBulkEntry {H : Type} : Lit × DataW H → Nat
  | (.string bytes, d) => bytes.length + uptoBulk d + 1
  | (_, d) => uptoBulk d + 1
 end
def uptoSmall : (H : Type) → List (DataW H) → Bool := fun _ ds => decide (uptoBulkAll ds ≤ 1048576)
def OpenSpec.upto (s : _root_.Go.ChangeSpec) : _root_.Go.OpenSpec := { _root_.Go.OpenSpec.ofChange s with cond := some uptoSmall }

/-- 'courierlaw15.FrameBuilds', WHERE WHAT IT READS IS OF BULK AT MOST 1048576: true; the input reads as it did. -/
def frameBuildsUptoRow : OpenClaim := { program := "ytckbplhplpnhaaadoor", sum := "1cd0349cf53709ce4762d9fa9d219624df389ddf5fb728e4c13fbdae94f418fa", func := "courier/courierlaw15.FrameBuilds", spec := "frameBuilds", named := ["courier/crc.shifts"], apart := false, laid := [("courier/crc.shifts", laid_courier_crc_shifts)], narrowed := true }
def FrameBuildsUptoSaid : Prop := frameBuildsUptoRow.holds Tryd.pinned (OpenSpec.upto frameBuildsSpec)

/-- 'courierlaw15.FrameParses', WHERE WHAT IT READS IS OF BULK AT MOST 1048576: true; the input reads as it did. -/
def frameParsesUptoRow : OpenClaim := { program := "ytckbplhplpnhaaadoor", sum := "1cd0349cf53709ce4762d9fa9d219624df389ddf5fb728e4c13fbdae94f418fa", func := "courier/courierlaw15.FrameParses", spec := "frameParses", named := ["courier/crc.shifts"], apart := false, laid := [("courier/crc.shifts", laid_courier_crc_shifts)], narrowed := true }
def FrameParsesUptoSaid : Prop := frameParsesUptoRow.holds Tryd.pinned (OpenSpec.upto frameParsesSpec)

/-- 'courierlaw15.FrameBack', WHERE WHAT IT READS IS OF BULK AT MOST 1048576: true; the input reads as it did. -/
def frameBackUptoRow : OpenClaim := { program := "ytckbplhplpnhaaadoor", sum := "1cd0349cf53709ce4762d9fa9d219624df389ddf5fb728e4c13fbdae94f418fa", func := "courier/courierlaw15.FrameBack", spec := "frameBack", named := ["courier/crc.shifts"], apart := false, laid := [("courier/crc.shifts", laid_courier_crc_shifts)], narrowed := true }
def FrameBackUptoSaid : Prop := frameBackUptoRow.holds Tryd.pinned (OpenSpec.upto frameBackSpec)

/-- 'courierlaw15.FrameTurned', WHERE WHAT IT READS IS OF BULK AT MOST 1048576: true; the input reads as it did. -/
def frameTurnedUptoRow : OpenClaim := { program := "ytckbplhplpnhaaadoor", sum := "1cd0349cf53709ce4762d9fa9d219624df389ddf5fb728e4c13fbdae94f418fa", func := "courier/courierlaw15.FrameTurned", spec := "frameTurned", named := ["courier/crc.shifts"], apart := false, laid := [("courier/crc.shifts", laid_courier_crc_shifts)], narrowed := true }
def FrameTurnedUptoSaid : Prop := frameTurnedUptoRow.holds Tryd.pinned (OpenSpec.upto frameTurnedSpec)

/-- 'courierlaw15.FrameSame', WHERE WHAT IT READS IS OF BULK AT MOST 1048576: true; the input reads as it did. -/
def frameSameUptoRow : OpenClaim := { program := "ytckbplhplpnhaaadoor", sum := "1cd0349cf53709ce4762d9fa9d219624df389ddf5fb728e4c13fbdae94f418fa", func := "courier/courierlaw15.FrameSame", spec := "frameSame", named := ["courier/crc.shifts"], apart := false, laid := [("courier/crc.shifts", laid_courier_crc_shifts)], narrowed := true }
def FrameSameUptoSaid : Prop := frameSameUptoRow.holds Tryd.pinned (OpenSpec.upto frameSameSpec)

end Rows
end Go.Proofs.YtckbplhplpnhaaaDoor
