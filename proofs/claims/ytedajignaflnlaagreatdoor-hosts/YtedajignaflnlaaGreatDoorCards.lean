/-
  DERIVED. GIVEN WITH THE SEED: THE CARDS: each row of YtedajignaflnlaaGreatDoorRows.lean that lists a variable, with what it lists TIED to the program's text (the seventh form; the later family's looks); each row that meets fmt, with fmt's text TOLD by the authors' own Lean function (tested against real Go, not proved from fmt's source: count such statements apart). THE CARD IS WHAT COUNTS. Prove the row's statement (the work); the ties are given (YtedajignaflnlaaGreatDoorTie.lean); close each card by the builder's one call (the guide's Derived/Test/ToyasCard.lean, 'card_holds'). Laid BY PROGRAM, IN A SANDBOX (cutbox-door.mjs). By AI agents, Wed Nov 11 2026. No macro, syntax, notation, axiom, sorry.
-/
import Derived.Test.YtedajignaflnlaaGreatDoorRows
import GoSem.ClaimSeven
namespace Go.Proofs.YtedajignaflnlaaGreatDoor
namespace Rows

/-- THE TIED CARD OF 'suffixlaw.Hosts'. -/
def hostsCard : Claim7 := { stood := { row := hostsRow, standIns := [], harness := (true, "81964c2bc92c56e812da151355549a6e6cf82a532e3a6d3fcbcef6e8ca220d80"), looks := false }, kinds := [], alts := [], laidByText := true, laidKinds := [.data, .pinned], laidTests := true, laidLooks := .later }
def HostsCardSaid : Prop := Claim7.holds Tryz.pinned (.plain (OpenSpec.ofChange hostsSpec)) hostsCard

/-- THE SECOND FORM's CARD OF 'suffixlaw.Hosts'. -/
def hostsUptoCard : Claim7 := { stood := { row := hostsUptoRow, standIns := [], harness := (true, "81964c2bc92c56e812da151355549a6e6cf82a532e3a6d3fcbcef6e8ca220d80"), looks := false }, kinds := [], alts := [], laidByText := true, laidKinds := [.data, .pinned], laidTests := true, laidLooks := .later }
def HostsUptoCardSaid : Prop := Claim7.holds Tryz.pinned (.plain (OpenSpec.upto hostsSpec)) hostsUptoCard
end Rows
end Go.Proofs.YtedajignaflnlaaGreatDoor
