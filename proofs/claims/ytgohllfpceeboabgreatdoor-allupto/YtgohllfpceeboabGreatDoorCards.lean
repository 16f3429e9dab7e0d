/-
  DERIVED. GIVEN WITH THE SEED: THE CARDS: each row of YtgohllfpceeboabGreatDoorRows.lean that lists a variable, with what it lists TIED to the program's text (the seventh form; the later family's looks); each row that meets fmt, with fmt's text TOLD by the authors' own Lean function (tested against real Go, not proved from fmt's source: count such statements apart). THE CARD IS WHAT COUNTS. Prove the row's statement (the work); the ties are given (YtgohllfpceeboabGreatDoorTie.lean); close each card by the builder's one call (the guide's Derived/Test/ToyasCard.lean, 'card_holds'). Laid BY PROGRAM, IN A SANDBOX (cutbox-door.mjs). By AI agents, Wed Nov 11 2026. No macro, syntax, notation, axiom, sorry.
-/
import Derived.Test.YtgohllfpceeboabGreatDoorRows
import GoSem.ClaimSeven
namespace Go.Proofs.YtgohllfpceeboabGreatDoor
namespace Rows

/-- THE TIED CARD OF 'suffixkeep.Sets'. -/
def setsCard : Claim7 := { stood := { row := setsRow, standIns := [], harness := (true, "9ef316d26d003ee9470b28c1eb82653cd61d1d64dee48ca3c4e1dc03a7f35d0b"), looks := false }, kinds := [], alts := [], laidByText := true, laidKinds := [.data, .pinned], laidTests := true, laidLooks := .later }
def SetsCardSaid : Prop := Claim7.holds Tryz.pinned (.plain (OpenSpec.ofChange setsSpec)) setsCard

/-- THE TIED CARD OF 'suffixlaw.All'. -/
def allCard : Claim7 := { stood := { row := allRow, standIns := [], harness := (true, "9ef316d26d003ee9470b28c1eb82653cd61d1d64dee48ca3c4e1dc03a7f35d0b"), looks := false }, kinds := [], alts := [], laidByText := true, laidKinds := [.data, .pinned], laidTests := true, laidLooks := .later }
def AllCardSaid : Prop := Claim7.holds Tryz.pinned (.plain (OpenSpec.ofChange allSpec)) allCard

/-- THE SECOND FORM's CARD OF 'suffixkeep.Sets'. -/
def setsUptoCard : Claim7 := { stood := { row := setsUptoRow, standIns := [], harness := (true, "9ef316d26d003ee9470b28c1eb82653cd61d1d64dee48ca3c4e1dc03a7f35d0b"), looks := false }, kinds := [], alts := [], laidByText := true, laidKinds := [.data, .pinned], laidTests := true, laidLooks := .later }
def SetsUptoCardSaid : Prop := Claim7.holds Tryz.pinned (.plain (OpenSpec.upto setsSpec)) setsUptoCard

/-- THE SECOND FORM's CARD OF 'suffixlaw.All'. -/
def allUptoCard : Claim7 := { stood := { row := allUptoRow, standIns := [], harness := (true, "9ef316d26d003ee9470b28c1eb82653cd61d1d64dee48ca3c4e1dc03a7f35d0b"), looks := false }, kinds := [], alts := [], laidByText := true, laidKinds := [.data, .pinned], laidTests := true, laidLooks := .later }
def AllUptoCardSaid : Prop := Claim7.holds Tryz.pinned (.plain (OpenSpec.upto allSpec)) allUptoCard
end Rows
end Go.Proofs.YtgohllfpceeboabGreatDoor
