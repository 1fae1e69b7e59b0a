/-
  DERIVED. GIVEN WITH THE SEED: THE CARDS: each row of YtonfkonjkgalhaaDoorRows.lean that lists a variable, with what it lists TIED to the program's text (the seventh form; the later family's looks); each row that meets fmt, with fmt's text TOLD by the authors' own Lean function (tested against real Go, not proved from fmt's source: count such statements apart). THE CARD IS WHAT COUNTS. Prove the row's statement (the work); the ties are given (YtonfkonjkgalhaaDoorTie.lean); close each card by the builder's one call (the guide's Derived/Test/ToyasCard.lean, 'card_holds'). Laid BY PROGRAM, IN A SANDBOX (cutbox-door.mjs). By AI agents, Wed Nov 11 2026. No macro, syntax, notation, axiom, sorry.
-/
import Derived.Test.YtonfkonjkgalhaaDoorRows
import GoSem.ClaimSeven
namespace Go.Proofs.YtonfkonjkgalhaaDoor
namespace Rows

/-- THE TIED CARD OF 'jetwaylaw09.PlanTexts'. -/
def planTextsCard : Claim7 := { stood := { row := planTextsRow, standIns := [], harness := (true, "94ed12ae7363d6a74d2c16e5281bef3fbf84fecf77129a8b176a676c744906ff"), looks := false }, kinds := [], alts := [], laidByText := true, laidKinds := [.data, .data, .data], laidTests := true, laidLooks := .later }
def PlanTextsCardSaid : Prop := Claim7.holds Tryd.pinned (.plain (OpenSpec.ofChange planTextsSpec)) planTextsCard

/-- THE TIED CARD OF 'jetwaylaw09.PlanChecks'. -/
def planChecksCard : Claim7 := { stood := { row := planChecksRow, standIns := [], harness := (true, "94ed12ae7363d6a74d2c16e5281bef3fbf84fecf77129a8b176a676c744906ff"), looks := false }, kinds := [], alts := [], laidByText := true, laidKinds := [.data, .data, .data], laidTests := true, laidLooks := .later }
def PlanChecksCardSaid : Prop := Claim7.holds Tryd.pinned (.plain (OpenSpec.ofChange planChecksSpec)) planChecksCard

/-- THE TIED CARD OF 'jetwaylaw09.PlanSeats'. -/
def planSeatsCard : Claim7 := { stood := { row := planSeatsRow, standIns := [], harness := (true, "94ed12ae7363d6a74d2c16e5281bef3fbf84fecf77129a8b176a676c744906ff"), looks := false }, kinds := [], alts := [], laidByText := true, laidKinds := [.data, .data, .data], laidTests := true, laidLooks := .later }
def PlanSeatsCardSaid : Prop := Claim7.holds Tryd.pinned (.plain (OpenSpec.ofChange planSeatsSpec)) planSeatsCard

/-- THE TIED CARD OF 'jetwaylaw09.PlanBits'. -/
def planBitsCard : Claim7 := { stood := { row := planBitsRow, standIns := [], harness := (true, "94ed12ae7363d6a74d2c16e5281bef3fbf84fecf77129a8b176a676c744906ff"), looks := false }, kinds := [], alts := [], laidByText := true, laidKinds := [.data, .data, .data], laidTests := true, laidLooks := .later }
def PlanBitsCardSaid : Prop := Claim7.holds Tryd.pinned (.plain (OpenSpec.ofChange planBitsSpec)) planBitsCard

/-- THE TIED CARD OF 'jetwaylaw09.PlanBack'. -/
def planBackCard : Claim7 := { stood := { row := planBackRow, standIns := [], harness := (true, "94ed12ae7363d6a74d2c16e5281bef3fbf84fecf77129a8b176a676c744906ff"), looks := false }, kinds := [], alts := [], laidByText := true, laidKinds := [.data, .data, .data], laidTests := true, laidLooks := .later }
def PlanBackCardSaid : Prop := Claim7.holds Tryd.pinned (.plain (OpenSpec.ofChange planBackSpec)) planBackCard

/-- THE TIED CARD OF 'jetwaylaw09.PlanRows'. -/
def planRowsCard : Claim7 := { stood := { row := planRowsRow, standIns := [], harness := (true, "94ed12ae7363d6a74d2c16e5281bef3fbf84fecf77129a8b176a676c744906ff"), looks := false }, kinds := [], alts := [], laidByText := true, laidKinds := [.data, .data, .data], laidTests := true, laidLooks := .later }
def PlanRowsCardSaid : Prop := Claim7.holds Tryd.pinned (.plain (OpenSpec.ofChange planRowsSpec)) planRowsCard

/-- THE SECOND FORM's CARD OF 'jetwaylaw09.PlanTexts'. -/
def planTextsUptoCard : Claim7 := { stood := { row := planTextsUptoRow, standIns := [], harness := (true, "94ed12ae7363d6a74d2c16e5281bef3fbf84fecf77129a8b176a676c744906ff"), looks := false }, kinds := [], alts := [], laidByText := true, laidKinds := [.data, .data, .data], laidTests := true, laidLooks := .later }
def PlanTextsUptoCardSaid : Prop := Claim7.holds Tryd.pinned (.plain (OpenSpec.upto planTextsSpec)) planTextsUptoCard

/-- THE SECOND FORM's CARD OF 'jetwaylaw09.PlanChecks'. -/
def planChecksUptoCard : Claim7 := { stood := { row := planChecksUptoRow, standIns := [], harness := (true, "94ed12ae7363d6a74d2c16e5281bef3fbf84fecf77129a8b176a676c744906ff"), looks := false }, kinds := [], alts := [], laidByText := true, laidKinds := [.data, .data, .data], laidTests := true, laidLooks := .later }
def PlanChecksUptoCardSaid : Prop := Claim7.holds Tryd.pinned (.plain (OpenSpec.upto planChecksSpec)) planChecksUptoCard

/-- THE SECOND FORM's CARD OF 'jetwaylaw09.PlanSeats'. -/
def planSeatsUptoCard : Claim7 := { stood := { row := planSeatsUptoRow, standIns := [], harness := (true, "94ed12ae7363d6a74d2c16e5281bef3fbf84fecf77129a8b176a676c744906ff"), looks := false }, kinds := [], alts := [], laidByText := true, laidKinds := [.data, .data, .data], laidTests := true, laidLooks := .later }
def PlanSeatsUptoCardSaid : Prop := Claim7.holds Tryd.pinned (.plain (OpenSpec.upto planSeatsSpec)) planSeatsUptoCard

/-- THE SECOND FORM's CARD OF 'jetwaylaw09.PlanBits'. -/
def planBitsUptoCard : Claim7 := { stood := { row := planBitsUptoRow, standIns := [], harness := (true, "94ed12ae7363d6a74d2c16e5281bef3fbf84fecf77129a8b176a676c744906ff"), looks := false }, kinds := [], alts := [], laidByText := true, laidKinds := [.data, .data, .data], laidTests := true, laidLooks := .later }
def PlanBitsUptoCardSaid : Prop := Claim7.holds Tryd.pinned (.plain (OpenSpec.upto planBitsSpec)) planBitsUptoCard

/-- THE SECOND FORM's CARD OF 'jetwaylaw09.PlanBack'. -/
def planBackUptoCard : Claim7 := { stood := { row := planBackUptoRow, standIns := [], harness := (true, "94ed12ae7363d6a74d2c16e5281bef3fbf84fecf77129a8b176a676c744906ff"), looks := false }, kinds := [], alts := [], laidByText := true, laidKinds := [.data, .data, .data], laidTests := true, laidLooks := .later }
def PlanBackUptoCardSaid : Prop := Claim7.holds Tryd.pinned (.plain (OpenSpec.upto planBackSpec)) planBackUptoCard

/-- THE SECOND FORM's CARD OF 'jetwaylaw09.PlanRows'. -/
def planRowsUptoCard : Claim7 := { stood := { row := planRowsUptoRow, standIns := [], harness := (true, "94ed12ae7363d6a74d2c16e5281bef3fbf84fecf77129a8b176a676c744906ff"), looks := false }, kinds := [], alts := [], laidByText := true, laidKinds := [.data, .data, .data], laidTests := true, laidLooks := .later }
def PlanRowsUptoCardSaid : Prop := Claim7.holds Tryd.pinned (.plain (OpenSpec.upto planRowsSpec)) planRowsUptoCard
end Rows
end Go.Proofs.YtonfkonjkgalhaaDoor
