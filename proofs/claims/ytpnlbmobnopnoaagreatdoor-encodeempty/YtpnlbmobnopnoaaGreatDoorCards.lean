/-
  DERIVED. GIVEN WITH THE SEED: THE CARDS: each row of YtpnlbmobnopnoaaGreatDoorRows.lean that lists a variable, with what it lists TIED to the program's text (the seventh form; the later family's looks); each row that meets fmt, with fmt's text TOLD by the authors' own Lean function (tested against real Go, not proved from fmt's source: count such statements apart). THE CARD IS WHAT COUNTS. Prove the row's statement (the work); the ties are given (YtpnlbmobnopnoaaGreatDoorTie.lean); close each card by the builder's one call (the guide's Derived/Test/ToyasCard.lean, 'card_holds'). Laid BY PROGRAM, IN A SANDBOX (cutbox-door.mjs). By AI agents, Wed Nov 11 2026. No macro, syntax, notation, axiom, sorry.
-/
import Derived.Test.YtpnlbmobnopnoaaGreatDoorRows
import GoSem.ClaimSeven
namespace Go.Proofs.YtpnlbmobnopnoaaGreatDoor
namespace Rows

/-- THE TIED CARD OF 'courierlaw10.EncodeBytes'. -/
def encodeBytesCard : Claim7 := { stood := { row := encodeBytesRow, standIns := [], harness := (true, "d1374e069a720062ad4555c4ade848b676752517ab399ff7f0970d72f04a94d6"), looks := true }, kinds := [], alts := [], laidByText := true, laidKinds := [.data, .pinned], laidTests := true, laidLooks := .later }
def EncodeBytesCardSaid : Prop := Claim7.holds Tryz.pinned (.plain (OpenSpec.ofChange encodeBytesSpec)) encodeBytesCard

/-- THE TIED CARD OF 'courierlaw10.EncodeNormal'. -/
def encodeNormalCard : Claim7 := { stood := { row := encodeNormalRow, standIns := [], harness := (true, "d1374e069a720062ad4555c4ade848b676752517ab399ff7f0970d72f04a94d6"), looks := true }, kinds := [], alts := [], laidByText := true, laidKinds := [.data, .pinned], laidTests := true, laidLooks := .later }
def EncodeNormalCardSaid : Prop := Claim7.holds Tryz.pinned (.plain (OpenSpec.ofChange encodeNormalSpec)) encodeNormalCard

/-- THE TIED CARD OF 'courierlaw10.EncodeFields'. -/
def encodeFieldsCard : Claim7 := { stood := { row := encodeFieldsRow, standIns := [], harness := (true, "d1374e069a720062ad4555c4ade848b676752517ab399ff7f0970d72f04a94d6"), looks := true }, kinds := [], alts := [], laidByText := true, laidKinds := [.data, .pinned], laidTests := true, laidLooks := .later }
def EncodeFieldsCardSaid : Prop := Claim7.holds Tryz.pinned (.plain (OpenSpec.ofChange encodeFieldsSpec)) encodeFieldsCard

/-- THE TIED CARD OF 'courierlaw10.EncodeEmpty'. -/
def encodeEmptyCard : Claim7 := { stood := { row := encodeEmptyRow, standIns := [], harness := (true, "d1374e069a720062ad4555c4ade848b676752517ab399ff7f0970d72f04a94d6"), looks := true }, kinds := [], alts := [], laidByText := true, laidKinds := [.data, .pinned], laidTests := true, laidLooks := .later }
def EncodeEmptyCardSaid : Prop := Claim7.holds Tryz.pinned (.plain (OpenSpec.ofChange encodeEmptySpec)) encodeEmptyCard

/-- THE SECOND FORM's CARD OF 'courierlaw10.EncodeBytes'. -/
def encodeBytesUptoCard : Claim7 := { stood := { row := encodeBytesUptoRow, standIns := [], harness := (true, "d1374e069a720062ad4555c4ade848b676752517ab399ff7f0970d72f04a94d6"), looks := true }, kinds := [], alts := [], laidByText := true, laidKinds := [.data, .pinned], laidTests := true, laidLooks := .later }
def EncodeBytesUptoCardSaid : Prop := Claim7.holds Tryz.pinned (.plain (OpenSpec.upto encodeBytesSpec)) encodeBytesUptoCard

/-- THE SECOND FORM's CARD OF 'courierlaw10.EncodeNormal'. -/
def encodeNormalUptoCard : Claim7 := { stood := { row := encodeNormalUptoRow, standIns := [], harness := (true, "d1374e069a720062ad4555c4ade848b676752517ab399ff7f0970d72f04a94d6"), looks := true }, kinds := [], alts := [], laidByText := true, laidKinds := [.data, .pinned], laidTests := true, laidLooks := .later }
def EncodeNormalUptoCardSaid : Prop := Claim7.holds Tryz.pinned (.plain (OpenSpec.upto encodeNormalSpec)) encodeNormalUptoCard

/-- THE SECOND FORM's CARD OF 'courierlaw10.EncodeFields'. -/
def encodeFieldsUptoCard : Claim7 := { stood := { row := encodeFieldsUptoRow, standIns := [], harness := (true, "d1374e069a720062ad4555c4ade848b676752517ab399ff7f0970d72f04a94d6"), looks := true }, kinds := [], alts := [], laidByText := true, laidKinds := [.data, .pinned], laidTests := true, laidLooks := .later }
def EncodeFieldsUptoCardSaid : Prop := Claim7.holds Tryz.pinned (.plain (OpenSpec.upto encodeFieldsSpec)) encodeFieldsUptoCard

/-- THE SECOND FORM's CARD OF 'courierlaw10.EncodeEmpty'. -/
def encodeEmptyUptoCard : Claim7 := { stood := { row := encodeEmptyUptoRow, standIns := [], harness := (true, "d1374e069a720062ad4555c4ade848b676752517ab399ff7f0970d72f04a94d6"), looks := true }, kinds := [], alts := [], laidByText := true, laidKinds := [.data, .pinned], laidTests := true, laidLooks := .later }
def EncodeEmptyUptoCardSaid : Prop := Claim7.holds Tryz.pinned (.plain (OpenSpec.upto encodeEmptySpec)) encodeEmptyUptoCard
end Rows
end Go.Proofs.YtpnlbmobnopnoaaGreatDoor
