/-
  DERIVED. GIVEN WITH THE SEED: THE CARDS: each row of YtgohllfpceeboaaGreatDoorRows.lean that lists a variable, with what it lists TIED to the program's text (the seventh form; the later family's looks); each row that meets fmt, with fmt's text TOLD by the authors' own Lean function (tested against real Go, not proved from fmt's source: count such statements apart). THE CARD IS WHAT COUNTS. Prove the row's statement (the work); the ties are given (YtgohllfpceeboaaGreatDoorTie.lean); close each card by the builder's one call (the guide's Derived/Test/ToyasCard.lean, 'card_holds'). Laid BY PROGRAM, IN A SANDBOX (cutbox-door.mjs). By AI agents, Wed Nov 11 2026. No macro, syntax, notation, axiom, sorry.
-/
import Derived.Test.YtgohllfpceeboaaGreatDoorRows
import GoSem.ClaimSeven
namespace Go.Proofs.YtgohllfpceeboaaGreatDoor
namespace Rows

/-- THE TIED CARD OF 'suffixlaw.Hosts'. -/
def hostsCard : Claim7 := { stood := { row := hostsRow, standIns := [], harness := (true, "4ff5566b1dfff07df10d82966ca7d3ecf80758a004f0d071bd1ce211aa49ae52"), looks := false }, kinds := [], alts := [], laidByText := true, laidKinds := [.data, .pinned], laidTests := true, laidLooks := .later }
def HostsCardSaid : Prop := Claim7.holds Tryz.pinned (.plain (OpenSpec.ofChange hostsSpec)) hostsCard

/-- THE TIED CARD OF 'suffixlaw.Compiles'. -/
def compilesCard : Claim7 := { stood := { row := compilesRow, standIns := [], harness := (true, "4ff5566b1dfff07df10d82966ca7d3ecf80758a004f0d071bd1ce211aa49ae52"), looks := false }, kinds := [], alts := [], laidByText := true, laidKinds := [.data, .pinned], laidTests := true, laidLooks := .later }
def CompilesCardSaid : Prop := Claim7.holds Tryz.pinned (.plain (OpenSpec.ofChange compilesSpec)) compilesCard

/-- THE TIED CARD OF 'suffixlaw.Images'. -/
def imagesCard : Claim7 := { stood := { row := imagesRow, standIns := [], harness := (true, "4ff5566b1dfff07df10d82966ca7d3ecf80758a004f0d071bd1ce211aa49ae52"), looks := false }, kinds := [], alts := [], laidByText := true, laidKinds := [.data, .pinned], laidTests := true, laidLooks := .later }
def ImagesCardSaid : Prop := Claim7.holds Tryz.pinned (.plain (OpenSpec.ofChange imagesSpec)) imagesCard

/-- THE TIED CARD OF 'suffixkeep.Coded'. -/
def codedCard : Claim7 := { stood := { row := codedRow, standIns := [], harness := (true, "4ff5566b1dfff07df10d82966ca7d3ecf80758a004f0d071bd1ce211aa49ae52"), looks := false }, kinds := [], alts := [], laidByText := true, laidKinds := [.data, .pinned], laidTests := true, laidLooks := .later }
def CodedCardSaid : Prop := Claim7.holds Tryz.pinned (.plain (OpenSpec.ofChange codedSpec)) codedCard

/-- THE TIED CARD OF 'suffixkeep.Steady'. -/
def steadyCard : Claim7 := { stood := { row := steadyRow, standIns := [], harness := (true, "4ff5566b1dfff07df10d82966ca7d3ecf80758a004f0d071bd1ce211aa49ae52"), looks := false }, kinds := [], alts := [], laidByText := true, laidKinds := [.data, .pinned], laidTests := true, laidLooks := .later }
def SteadyCardSaid : Prop := Claim7.holds Tryz.pinned (.plain (OpenSpec.ofChange steadySpec)) steadyCard

/-- THE TIED CARD OF 'suffixkeep.Again'. -/
def againCard : Claim7 := { stood := { row := againRow, standIns := [], harness := (true, "4ff5566b1dfff07df10d82966ca7d3ecf80758a004f0d071bd1ce211aa49ae52"), looks := false }, kinds := [], alts := [], laidByText := true, laidKinds := [.data, .pinned], laidTests := true, laidLooks := .later }
def AgainCardSaid : Prop := Claim7.holds Tryz.pinned (.plain (OpenSpec.ofChange againSpec)) againCard

/-- THE TIED CARD OF 'suffixkeep.Turned'. -/
def turnedCard : Claim7 := { stood := { row := turnedRow, standIns := [], harness := (true, "4ff5566b1dfff07df10d82966ca7d3ecf80758a004f0d071bd1ce211aa49ae52"), looks := false }, kinds := [], alts := [], laidByText := true, laidKinds := [.data, .pinned], laidTests := true, laidLooks := .later }
def TurnedCardSaid : Prop := Claim7.holds Tryz.pinned (.plain (OpenSpec.ofChange turnedSpec)) turnedCard

/-- THE TIED CARD OF 'suffixkeep.Found'. -/
def foundCard : Claim7 := { stood := { row := foundRow, standIns := [], harness := (true, "4ff5566b1dfff07df10d82966ca7d3ecf80758a004f0d071bd1ce211aa49ae52"), looks := false }, kinds := [], alts := [], laidByText := true, laidKinds := [.data, .pinned], laidTests := true, laidLooks := .later }
def FoundCardSaid : Prop := Claim7.holds Tryz.pinned (.plain (OpenSpec.ofChange foundSpec)) foundCard

/-- THE TIED CARD OF 'suffixkeep.Below'. -/
def belowCard : Claim7 := { stood := { row := belowRow, standIns := [], harness := (true, "4ff5566b1dfff07df10d82966ca7d3ecf80758a004f0d071bd1ce211aa49ae52"), looks := false }, kinds := [], alts := [], laidByText := true, laidKinds := [.data, .pinned], laidTests := true, laidLooks := .later }
def BelowCardSaid : Prop := Claim7.holds Tryz.pinned (.plain (OpenSpec.ofChange belowSpec)) belowCard

/-- THE TIED CARD OF 'suffixlaw.Worlds'. -/
def worldsCard : Claim7 := { stood := { row := worldsRow, standIns := [], harness := (true, "4ff5566b1dfff07df10d82966ca7d3ecf80758a004f0d071bd1ce211aa49ae52"), looks := false }, kinds := [], alts := [], laidByText := true, laidKinds := [.data, .pinned], laidTests := true, laidLooks := .later }
def WorldsCardSaid : Prop := Claim7.holds Tryz.pinned (.plain (OpenSpec.ofChange worldsSpec)) worldsCard

/-- THE TIED CARD OF 'suffixkeep.Junk'. -/
def junkCard : Claim7 := { stood := { row := junkRow, standIns := [], harness := (true, "4ff5566b1dfff07df10d82966ca7d3ecf80758a004f0d071bd1ce211aa49ae52"), looks := false }, kinds := [], alts := [], laidByText := true, laidKinds := [.data, .pinned], laidTests := true, laidLooks := .later }
def JunkCardSaid : Prop := Claim7.holds Tryz.pinned (.plain (OpenSpec.ofChange junkSpec)) junkCard

/-- THE TIED CARD OF 'suffixkeep.Relations'. -/
def relationsCard : Claim7 := { stood := { row := relationsRow, standIns := [], harness := (true, "4ff5566b1dfff07df10d82966ca7d3ecf80758a004f0d071bd1ce211aa49ae52"), looks := false }, kinds := [], alts := [], laidByText := true, laidKinds := [.data, .pinned], laidTests := true, laidLooks := .later }
def RelationsCardSaid : Prop := Claim7.holds Tryz.pinned (.plain (OpenSpec.ofChange relationsSpec)) relationsCard

/-- THE SECOND FORM's CARD OF 'suffixlaw.Hosts'. -/
def hostsUptoCard : Claim7 := { stood := { row := hostsUptoRow, standIns := [], harness := (true, "4ff5566b1dfff07df10d82966ca7d3ecf80758a004f0d071bd1ce211aa49ae52"), looks := false }, kinds := [], alts := [], laidByText := true, laidKinds := [.data, .pinned], laidTests := true, laidLooks := .later }
def HostsUptoCardSaid : Prop := Claim7.holds Tryz.pinned (.plain (OpenSpec.upto hostsSpec)) hostsUptoCard

/-- THE SECOND FORM's CARD OF 'suffixlaw.Compiles'. -/
def compilesUptoCard : Claim7 := { stood := { row := compilesUptoRow, standIns := [], harness := (true, "4ff5566b1dfff07df10d82966ca7d3ecf80758a004f0d071bd1ce211aa49ae52"), looks := false }, kinds := [], alts := [], laidByText := true, laidKinds := [.data, .pinned], laidTests := true, laidLooks := .later }
def CompilesUptoCardSaid : Prop := Claim7.holds Tryz.pinned (.plain (OpenSpec.upto compilesSpec)) compilesUptoCard

/-- THE SECOND FORM's CARD OF 'suffixlaw.Images'. -/
def imagesUptoCard : Claim7 := { stood := { row := imagesUptoRow, standIns := [], harness := (true, "4ff5566b1dfff07df10d82966ca7d3ecf80758a004f0d071bd1ce211aa49ae52"), looks := false }, kinds := [], alts := [], laidByText := true, laidKinds := [.data, .pinned], laidTests := true, laidLooks := .later }
def ImagesUptoCardSaid : Prop := Claim7.holds Tryz.pinned (.plain (OpenSpec.upto imagesSpec)) imagesUptoCard

/-- THE SECOND FORM's CARD OF 'suffixkeep.Coded'. -/
def codedUptoCard : Claim7 := { stood := { row := codedUptoRow, standIns := [], harness := (true, "4ff5566b1dfff07df10d82966ca7d3ecf80758a004f0d071bd1ce211aa49ae52"), looks := false }, kinds := [], alts := [], laidByText := true, laidKinds := [.data, .pinned], laidTests := true, laidLooks := .later }
def CodedUptoCardSaid : Prop := Claim7.holds Tryz.pinned (.plain (OpenSpec.upto codedSpec)) codedUptoCard

/-- THE SECOND FORM's CARD OF 'suffixkeep.Steady'. -/
def steadyUptoCard : Claim7 := { stood := { row := steadyUptoRow, standIns := [], harness := (true, "4ff5566b1dfff07df10d82966ca7d3ecf80758a004f0d071bd1ce211aa49ae52"), looks := false }, kinds := [], alts := [], laidByText := true, laidKinds := [.data, .pinned], laidTests := true, laidLooks := .later }
def SteadyUptoCardSaid : Prop := Claim7.holds Tryz.pinned (.plain (OpenSpec.upto steadySpec)) steadyUptoCard

/-- THE SECOND FORM's CARD OF 'suffixkeep.Again'. -/
def againUptoCard : Claim7 := { stood := { row := againUptoRow, standIns := [], harness := (true, "4ff5566b1dfff07df10d82966ca7d3ecf80758a004f0d071bd1ce211aa49ae52"), looks := false }, kinds := [], alts := [], laidByText := true, laidKinds := [.data, .pinned], laidTests := true, laidLooks := .later }
def AgainUptoCardSaid : Prop := Claim7.holds Tryz.pinned (.plain (OpenSpec.upto againSpec)) againUptoCard

/-- THE SECOND FORM's CARD OF 'suffixkeep.Turned'. -/
def turnedUptoCard : Claim7 := { stood := { row := turnedUptoRow, standIns := [], harness := (true, "4ff5566b1dfff07df10d82966ca7d3ecf80758a004f0d071bd1ce211aa49ae52"), looks := false }, kinds := [], alts := [], laidByText := true, laidKinds := [.data, .pinned], laidTests := true, laidLooks := .later }
def TurnedUptoCardSaid : Prop := Claim7.holds Tryz.pinned (.plain (OpenSpec.upto turnedSpec)) turnedUptoCard

/-- THE SECOND FORM's CARD OF 'suffixkeep.Found'. -/
def foundUptoCard : Claim7 := { stood := { row := foundUptoRow, standIns := [], harness := (true, "4ff5566b1dfff07df10d82966ca7d3ecf80758a004f0d071bd1ce211aa49ae52"), looks := false }, kinds := [], alts := [], laidByText := true, laidKinds := [.data, .pinned], laidTests := true, laidLooks := .later }
def FoundUptoCardSaid : Prop := Claim7.holds Tryz.pinned (.plain (OpenSpec.upto foundSpec)) foundUptoCard

/-- THE SECOND FORM's CARD OF 'suffixkeep.Below'. -/
def belowUptoCard : Claim7 := { stood := { row := belowUptoRow, standIns := [], harness := (true, "4ff5566b1dfff07df10d82966ca7d3ecf80758a004f0d071bd1ce211aa49ae52"), looks := false }, kinds := [], alts := [], laidByText := true, laidKinds := [.data, .pinned], laidTests := true, laidLooks := .later }
def BelowUptoCardSaid : Prop := Claim7.holds Tryz.pinned (.plain (OpenSpec.upto belowSpec)) belowUptoCard

/-- THE SECOND FORM's CARD OF 'suffixlaw.Worlds'. -/
def worldsUptoCard : Claim7 := { stood := { row := worldsUptoRow, standIns := [], harness := (true, "4ff5566b1dfff07df10d82966ca7d3ecf80758a004f0d071bd1ce211aa49ae52"), looks := false }, kinds := [], alts := [], laidByText := true, laidKinds := [.data, .pinned], laidTests := true, laidLooks := .later }
def WorldsUptoCardSaid : Prop := Claim7.holds Tryz.pinned (.plain (OpenSpec.upto worldsSpec)) worldsUptoCard

/-- THE SECOND FORM's CARD OF 'suffixkeep.Junk'. -/
def junkUptoCard : Claim7 := { stood := { row := junkUptoRow, standIns := [], harness := (true, "4ff5566b1dfff07df10d82966ca7d3ecf80758a004f0d071bd1ce211aa49ae52"), looks := false }, kinds := [], alts := [], laidByText := true, laidKinds := [.data, .pinned], laidTests := true, laidLooks := .later }
def JunkUptoCardSaid : Prop := Claim7.holds Tryz.pinned (.plain (OpenSpec.upto junkSpec)) junkUptoCard

/-- THE SECOND FORM's CARD OF 'suffixkeep.Relations'. -/
def relationsUptoCard : Claim7 := { stood := { row := relationsUptoRow, standIns := [], harness := (true, "4ff5566b1dfff07df10d82966ca7d3ecf80758a004f0d071bd1ce211aa49ae52"), looks := false }, kinds := [], alts := [], laidByText := true, laidKinds := [.data, .pinned], laidTests := true, laidLooks := .later }
def RelationsUptoCardSaid : Prop := Claim7.holds Tryz.pinned (.plain (OpenSpec.upto relationsSpec)) relationsUptoCard
end Rows
end Go.Proofs.YtgohllfpceeboaaGreatDoor
