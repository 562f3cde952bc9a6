/-
  DERIVED. GIVEN WITH THE SEED: THE CARDS: each row of YtpekpdimdelncaaGreatDoorRows.lean that lists a variable, with what it lists TIED to the program's text (the seventh form; the later family's looks); each row that meets fmt, with fmt's text TOLD by the authors' own Lean function (tested against real Go, not proved from fmt's source: count such statements apart). THE CARD IS WHAT COUNTS. Prove the row's statement (the work); the ties are given (YtpekpdimdelncaaGreatDoorTie.lean); close each card by the builder's one call (the guide's Derived/Test/ToyasCard.lean, 'card_holds'). Laid BY PROGRAM, IN A SANDBOX (cutbox-door.mjs). By AI agents, Wed Nov 11 2026. No macro, syntax, notation, axiom, sorry.
-/
import Derived.Test.YtpekpdimdelncaaGreatDoorRows
import GoSem.ClaimSeven
namespace Go.Proofs.YtpekpdimdelncaaGreatDoor
namespace Rows

/-- THE TIED CARD OF 'larderlaw.Checked'. -/
def checkedCard : Claim7 := { stood := { row := checkedRow, standIns := [], harness := (true, "4d0385be3108ded546cba52ea38538fb0352521c75b1695333297ee766029405"), looks := true }, kinds := [], alts := [], laidByText := true, laidKinds := [.data, .data, .data, .sentinel, .sentinel], laidTests := true, laidLooks := .later }
def CheckedCardSaid : Prop := Claim7.holds Tryz.pinned (.plain (OpenSpec.ofChange checkedSpec)) checkedCard

/-- THE TIED CARD OF 'larderlaw.Asked'. -/
def askedCard : Claim7 := { stood := { row := askedRow, standIns := [], harness := (true, "4d0385be3108ded546cba52ea38538fb0352521c75b1695333297ee766029405"), looks := true }, kinds := [], alts := [], laidByText := true, laidKinds := [.data, .data, .data, .data, .sentinel, .sentinel, .pinned], laidTests := true, laidLooks := .later }
def AskedCardSaid : Prop := Claim7.holds Tryz.pinned (.plain (OpenSpec.ofChange askedSpec)) askedCard

/-- THE TIED CARD OF 'larderkeep.Clean'. -/
def cleanCard : Claim7 := { stood := { row := cleanRow, standIns := [], harness := (true, "4d0385be3108ded546cba52ea38538fb0352521c75b1695333297ee766029405"), looks := true }, kinds := [], alts := [], laidByText := true, laidKinds := [.data, .data, .data, .data, .sentinel, .sentinel, .pinned], laidTests := true, laidLooks := .later }
def CleanCardSaid : Prop := Claim7.holds Tryz.pinned (.plain (OpenSpec.ofChange cleanSpec)) cleanCard

/-- THE TIED CARD OF 'larderkeep.Reckoned'. -/
def reckonedCard : Claim7 := { stood := { row := reckonedRow, standIns := [], harness := (true, "4d0385be3108ded546cba52ea38538fb0352521c75b1695333297ee766029405"), looks := true }, kinds := [], alts := [], laidByText := true, laidKinds := [.data, .data, .data, .data, .sentinel, .sentinel, .pinned], laidTests := true, laidLooks := .later }
def ReckonedCardSaid : Prop := Claim7.holds Tryz.pinned (.plain (OpenSpec.ofChange reckonedSpec)) reckonedCard

/-- THE TIED CARD OF 'larderkeep.Rounds'. -/
def roundsCard : Claim7 := { stood := { row := roundsRow, standIns := [], harness := (true, "4d0385be3108ded546cba52ea38538fb0352521c75b1695333297ee766029405"), looks := true }, kinds := [], alts := [], laidByText := true, laidKinds := [.data, .data, .data, .data, .sentinel, .sentinel, .pinned], laidTests := true, laidLooks := .later }
def RoundsCardSaid : Prop := Claim7.holds Tryz.pinned (.plain (OpenSpec.ofChange roundsSpec)) roundsCard

/-- THE TIED CARD OF 'larderlaw.Lazy'. -/
def lazyCard : Claim7 := { stood := { row := lazyRow, standIns := [], harness := (true, "4d0385be3108ded546cba52ea38538fb0352521c75b1695333297ee766029405"), looks := true }, kinds := [], alts := [], laidByText := true, laidKinds := [.data, .data, .data, .data, .sentinel, .sentinel, .pinned], laidTests := true, laidLooks := .later }
def LazyCardSaid : Prop := Claim7.holds Tryz.pinned (.plain (OpenSpec.ofChange lazySpec)) lazyCard

/-- THE TIED CARD OF 'larderkeep.Still'. -/
def stillCard : Claim7 := { stood := { row := stillRow, standIns := [], harness := (true, "4d0385be3108ded546cba52ea38538fb0352521c75b1695333297ee766029405"), looks := true }, kinds := [], alts := [], laidByText := true, laidKinds := [.data, .data, .data, .data, .sentinel, .sentinel, .pinned], laidTests := true, laidLooks := .later }
def StillCardSaid : Prop := Claim7.holds Tryz.pinned (.plain (OpenSpec.ofChange stillSpec)) stillCard

/-- THE TIED CARD OF 'larderkeep.Told'. -/
def toldCard : Claim7 := { stood := { row := toldRow, standIns := [], harness := (true, "4d0385be3108ded546cba52ea38538fb0352521c75b1695333297ee766029405"), looks := true }, kinds := [], alts := [], laidByText := true, laidKinds := [.data, .data, .data, .data, .sentinel, .sentinel, .pinned], laidTests := true, laidLooks := .later }
def ToldCardSaid : Prop := Claim7.holds Tryz.pinned (.plain (OpenSpec.ofChange toldSpec)) toldCard

/-- THE TIED CARD OF 'larderlaw.Opened'. -/
def openedCard : Claim7 := { stood := { row := openedRow, standIns := [], harness := (true, "4d0385be3108ded546cba52ea38538fb0352521c75b1695333297ee766029405"), looks := true }, kinds := [], alts := [], laidByText := true, laidKinds := [.data, .data, .data, .data, .sentinel, .sentinel, .pinned], laidTests := true, laidLooks := .later }
def OpenedCardSaid : Prop := Claim7.holds Tryz.pinned (.plain (OpenSpec.ofChange openedSpec)) openedCard

/-- THE TIED CARD OF 'larderkeep.Cut'. -/
def cutCard : Claim7 := { stood := { row := cutRow, standIns := [], harness := (true, "4d0385be3108ded546cba52ea38538fb0352521c75b1695333297ee766029405"), looks := true }, kinds := [], alts := [], laidByText := true, laidKinds := [.data, .data, .data, .data, .sentinel, .sentinel, .pinned], laidTests := true, laidLooks := .later }
def CutCardSaid : Prop := Claim7.holds Tryz.pinned (.plain (OpenSpec.ofChange cutSpec)) cutCard

/-- THE SECOND FORM's CARD OF 'larderlaw.Checked'. -/
def checkedUptoCard : Claim7 := { stood := { row := checkedUptoRow, standIns := [], harness := (true, "4d0385be3108ded546cba52ea38538fb0352521c75b1695333297ee766029405"), looks := true }, kinds := [], alts := [], laidByText := true, laidKinds := [.data, .data, .data, .sentinel, .sentinel], laidTests := true, laidLooks := .later }
def CheckedUptoCardSaid : Prop := Claim7.holds Tryz.pinned (.plain (OpenSpec.upto checkedSpec)) checkedUptoCard

/-- THE SECOND FORM's CARD OF 'larderlaw.Asked'. -/
def askedUptoCard : Claim7 := { stood := { row := askedUptoRow, standIns := [], harness := (true, "4d0385be3108ded546cba52ea38538fb0352521c75b1695333297ee766029405"), looks := true }, kinds := [], alts := [], laidByText := true, laidKinds := [.data, .data, .data, .data, .sentinel, .sentinel, .pinned], laidTests := true, laidLooks := .later }
def AskedUptoCardSaid : Prop := Claim7.holds Tryz.pinned (.plain (OpenSpec.upto askedSpec)) askedUptoCard

/-- THE SECOND FORM's CARD OF 'larderkeep.Clean'. -/
def cleanUptoCard : Claim7 := { stood := { row := cleanUptoRow, standIns := [], harness := (true, "4d0385be3108ded546cba52ea38538fb0352521c75b1695333297ee766029405"), looks := true }, kinds := [], alts := [], laidByText := true, laidKinds := [.data, .data, .data, .data, .sentinel, .sentinel, .pinned], laidTests := true, laidLooks := .later }
def CleanUptoCardSaid : Prop := Claim7.holds Tryz.pinned (.plain (OpenSpec.upto cleanSpec)) cleanUptoCard

/-- THE SECOND FORM's CARD OF 'larderkeep.Reckoned'. -/
def reckonedUptoCard : Claim7 := { stood := { row := reckonedUptoRow, standIns := [], harness := (true, "4d0385be3108ded546cba52ea38538fb0352521c75b1695333297ee766029405"), looks := true }, kinds := [], alts := [], laidByText := true, laidKinds := [.data, .data, .data, .data, .sentinel, .sentinel, .pinned], laidTests := true, laidLooks := .later }
def ReckonedUptoCardSaid : Prop := Claim7.holds Tryz.pinned (.plain (OpenSpec.upto reckonedSpec)) reckonedUptoCard

/-- THE SECOND FORM's CARD OF 'larderkeep.Rounds'. -/
def roundsUptoCard : Claim7 := { stood := { row := roundsUptoRow, standIns := [], harness := (true, "4d0385be3108ded546cba52ea38538fb0352521c75b1695333297ee766029405"), looks := true }, kinds := [], alts := [], laidByText := true, laidKinds := [.data, .data, .data, .data, .sentinel, .sentinel, .pinned], laidTests := true, laidLooks := .later }
def RoundsUptoCardSaid : Prop := Claim7.holds Tryz.pinned (.plain (OpenSpec.upto roundsSpec)) roundsUptoCard

/-- THE SECOND FORM's CARD OF 'larderlaw.Lazy'. -/
def lazyUptoCard : Claim7 := { stood := { row := lazyUptoRow, standIns := [], harness := (true, "4d0385be3108ded546cba52ea38538fb0352521c75b1695333297ee766029405"), looks := true }, kinds := [], alts := [], laidByText := true, laidKinds := [.data, .data, .data, .data, .sentinel, .sentinel, .pinned], laidTests := true, laidLooks := .later }
def LazyUptoCardSaid : Prop := Claim7.holds Tryz.pinned (.plain (OpenSpec.upto lazySpec)) lazyUptoCard

/-- THE SECOND FORM's CARD OF 'larderkeep.Still'. -/
def stillUptoCard : Claim7 := { stood := { row := stillUptoRow, standIns := [], harness := (true, "4d0385be3108ded546cba52ea38538fb0352521c75b1695333297ee766029405"), looks := true }, kinds := [], alts := [], laidByText := true, laidKinds := [.data, .data, .data, .data, .sentinel, .sentinel, .pinned], laidTests := true, laidLooks := .later }
def StillUptoCardSaid : Prop := Claim7.holds Tryz.pinned (.plain (OpenSpec.upto stillSpec)) stillUptoCard

/-- THE SECOND FORM's CARD OF 'larderkeep.Told'. -/
def toldUptoCard : Claim7 := { stood := { row := toldUptoRow, standIns := [], harness := (true, "4d0385be3108ded546cba52ea38538fb0352521c75b1695333297ee766029405"), looks := true }, kinds := [], alts := [], laidByText := true, laidKinds := [.data, .data, .data, .data, .sentinel, .sentinel, .pinned], laidTests := true, laidLooks := .later }
def ToldUptoCardSaid : Prop := Claim7.holds Tryz.pinned (.plain (OpenSpec.upto toldSpec)) toldUptoCard

/-- THE SECOND FORM's CARD OF 'larderlaw.Opened'. -/
def openedUptoCard : Claim7 := { stood := { row := openedUptoRow, standIns := [], harness := (true, "4d0385be3108ded546cba52ea38538fb0352521c75b1695333297ee766029405"), looks := true }, kinds := [], alts := [], laidByText := true, laidKinds := [.data, .data, .data, .data, .sentinel, .sentinel, .pinned], laidTests := true, laidLooks := .later }
def OpenedUptoCardSaid : Prop := Claim7.holds Tryz.pinned (.plain (OpenSpec.upto openedSpec)) openedUptoCard

/-- THE SECOND FORM's CARD OF 'larderkeep.Cut'. -/
def cutUptoCard : Claim7 := { stood := { row := cutUptoRow, standIns := [], harness := (true, "4d0385be3108ded546cba52ea38538fb0352521c75b1695333297ee766029405"), looks := true }, kinds := [], alts := [], laidByText := true, laidKinds := [.data, .data, .data, .data, .sentinel, .sentinel, .pinned], laidTests := true, laidLooks := .later }
def CutUptoCardSaid : Prop := Claim7.holds Tryz.pinned (.plain (OpenSpec.upto cutSpec)) cutUptoCard
end Rows
end Go.Proofs.YtpekpdimdelncaaGreatDoor
