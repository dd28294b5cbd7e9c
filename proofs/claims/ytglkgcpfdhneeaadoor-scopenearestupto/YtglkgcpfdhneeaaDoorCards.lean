/-
  DERIVED. GIVEN WITH THE SEED: THE CARDS: each row of YtglkgcpfdhneeaaDoorRows.lean that lists a variable, with what it lists TIED to the program's text (the seventh form; the later family's looks); each row that meets fmt, with fmt's text TOLD by the authors' own Lean function (tested against real Go, not proved from fmt's source: count such statements apart). THE CARD IS WHAT COUNTS. Prove the row's statement (the work); the ties are given (YtglkgcpfdhneeaaDoorTie.lean); close each card by the builder's one call (the guide's Derived/Test/ToyasCard.lean, 'card_holds'). Laid BY PROGRAM, IN A SANDBOX (cutbox-door.mjs). By AI agents, Wed Nov 11 2026. No macro, syntax, notation, axiom, sorry.
-/
import Derived.Test.YtglkgcpfdhneeaaDoorRows
import GoSem.ClaimSeven
namespace Go.Proofs.YtglkgcpfdhneeaaDoor
namespace Rows

/-- THE TIED CARD OF 'courierlaw07.ScopeAll'. -/
def scopeAllCard : Claim7 := { stood := { row := scopeAllRow, standIns := [], harness := (true, "00f92aa89d851bd2c7dde6a9990c8dacedb3ceb04d2c978a7ddd1730eb175fdc"), looks := false }, kinds := [], alts := [], laidByText := true, laidKinds := [.data, .pinned], laidTests := true, laidLooks := .later }
def ScopeAllCardSaid : Prop := Claim7.holds Tryd.pinned (.plain (OpenSpec.ofChange scopeAllSpec)) scopeAllCard

/-- THE TIED CARD OF 'courierlaw07.ScopeFinds'. -/
def scopeFindsCard : Claim7 := { stood := { row := scopeFindsRow, standIns := [], harness := (true, "00f92aa89d851bd2c7dde6a9990c8dacedb3ceb04d2c978a7ddd1730eb175fdc"), looks := false }, kinds := [], alts := [], laidByText := true, laidKinds := [.data, .pinned], laidTests := true, laidLooks := .later }
def ScopeFindsCardSaid : Prop := Claim7.holds Tryd.pinned (.plain (OpenSpec.ofChange scopeFindsSpec)) scopeFindsCard

/-- THE TIED CARD OF 'courierlaw07.ScopeWhole'. -/
def scopeWholeCard : Claim7 := { stood := { row := scopeWholeRow, standIns := [], harness := (true, "00f92aa89d851bd2c7dde6a9990c8dacedb3ceb04d2c978a7ddd1730eb175fdc"), looks := false }, kinds := [], alts := [], laidByText := true, laidKinds := [.data, .pinned], laidTests := true, laidLooks := .later }
def ScopeWholeCardSaid : Prop := Claim7.holds Tryd.pinned (.plain (OpenSpec.ofChange scopeWholeSpec)) scopeWholeCard

/-- THE TIED CARD OF 'courierlaw07.ScopeNearest'. -/
def scopeNearestCard : Claim7 := { stood := { row := scopeNearestRow, standIns := [], harness := (true, "00f92aa89d851bd2c7dde6a9990c8dacedb3ceb04d2c978a7ddd1730eb175fdc"), looks := false }, kinds := [], alts := [], laidByText := true, laidKinds := [.data, .pinned], laidTests := true, laidLooks := .later }
def ScopeNearestCardSaid : Prop := Claim7.holds Tryd.pinned (.plain (OpenSpec.ofChange scopeNearestSpec)) scopeNearestCard

/-- THE SECOND FORM's CARD OF 'courierlaw07.ScopeAll'. -/
def scopeAllUptoCard : Claim7 := { stood := { row := scopeAllUptoRow, standIns := [], harness := (true, "00f92aa89d851bd2c7dde6a9990c8dacedb3ceb04d2c978a7ddd1730eb175fdc"), looks := false }, kinds := [], alts := [], laidByText := true, laidKinds := [.data, .pinned], laidTests := true, laidLooks := .later }
def ScopeAllUptoCardSaid : Prop := Claim7.holds Tryd.pinned (.plain (OpenSpec.upto scopeAllSpec)) scopeAllUptoCard

/-- THE SECOND FORM's CARD OF 'courierlaw07.ScopeFinds'. -/
def scopeFindsUptoCard : Claim7 := { stood := { row := scopeFindsUptoRow, standIns := [], harness := (true, "00f92aa89d851bd2c7dde6a9990c8dacedb3ceb04d2c978a7ddd1730eb175fdc"), looks := false }, kinds := [], alts := [], laidByText := true, laidKinds := [.data, .pinned], laidTests := true, laidLooks := .later }
def ScopeFindsUptoCardSaid : Prop := Claim7.holds Tryd.pinned (.plain (OpenSpec.upto scopeFindsSpec)) scopeFindsUptoCard

/-- THE SECOND FORM's CARD OF 'courierlaw07.ScopeWhole'. -/
def scopeWholeUptoCard : Claim7 := { stood := { row := scopeWholeUptoRow, standIns := [], harness := (true, "00f92aa89d851bd2c7dde6a9990c8dacedb3ceb04d2c978a7ddd1730eb175fdc"), looks := false }, kinds := [], alts := [], laidByText := true, laidKinds := [.data, .pinned], laidTests := true, laidLooks := .later }
def ScopeWholeUptoCardSaid : Prop := Claim7.holds Tryd.pinned (.plain (OpenSpec.upto scopeWholeSpec)) scopeWholeUptoCard

/-- THE SECOND FORM's CARD OF 'courierlaw07.ScopeNearest'. -/
def scopeNearestUptoCard : Claim7 := { stood := { row := scopeNearestUptoRow, standIns := [], harness := (true, "00f92aa89d851bd2c7dde6a9990c8dacedb3ceb04d2c978a7ddd1730eb175fdc"), looks := false }, kinds := [], alts := [], laidByText := true, laidKinds := [.data, .pinned], laidTests := true, laidLooks := .later }
def ScopeNearestUptoCardSaid : Prop := Claim7.holds Tryd.pinned (.plain (OpenSpec.upto scopeNearestSpec)) scopeNearestUptoCard
end Rows
end Go.Proofs.YtglkgcpfdhneeaaDoor
