/-
  DERIVED. GIVEN WITH THE SEED: THE CARDS: each row of YtinpflnpjhgbdaaGreatDoorRows.lean that lists a variable, with what it lists TIED to the program's text (the seventh form; the later family's looks); each row that meets fmt, with fmt's text TOLD by the authors' own Lean function (tested against real Go, not proved from fmt's source: count such statements apart). THE CARD IS WHAT COUNTS. Prove the row's statement (the work); the ties are given (YtinpflnpjhgbdaaGreatDoorTie.lean); close each card by the builder's one call (the guide's Derived/Test/ToyasCard.lean, 'card_holds'). Laid BY PROGRAM, IN A SANDBOX (cutbox-door.mjs). By AI agents, Wed Nov 11 2026. No macro, syntax, notation, axiom, sorry.
-/
import Derived.Test.YtinpflnpjhgbdaaGreatDoorRows
import GoSem.ClaimSeven
namespace Go.Proofs.YtinpflnpjhgbdaaGreatDoor
namespace Rows

/-- THE TIED CARD OF 'suffixlaw.Hosts'. -/
def hostsCard : Claim7 := { stood := { row := hostsRow, standIns := [], harness := (true, "38c68f11dd11f268d54b3846938d468e586c4a8a48c0d6ab34bb1791185eda9a"), looks := false }, kinds := [], alts := [], laidByText := true, laidKinds := [.data, .pinned], laidTests := true, laidLooks := .later }
def HostsCardSaid : Prop := Claim7.holds Tryz.pinned (.plain (OpenSpec.ofChange hostsSpec)) hostsCard

/-- THE TIED CARD OF 'suffixlaw.Compiles'. -/
def compilesCard : Claim7 := { stood := { row := compilesRow, standIns := [], harness := (true, "38c68f11dd11f268d54b3846938d468e586c4a8a48c0d6ab34bb1791185eda9a"), looks := false }, kinds := [], alts := [], laidByText := true, laidKinds := [.data, .pinned], laidTests := true, laidLooks := .later }
def CompilesCardSaid : Prop := Claim7.holds Tryz.pinned (.plain (OpenSpec.ofChange compilesSpec)) compilesCard

/-- THE SECOND FORM's CARD OF 'suffixlaw.Hosts'. -/
def hostsUptoCard : Claim7 := { stood := { row := hostsUptoRow, standIns := [], harness := (true, "38c68f11dd11f268d54b3846938d468e586c4a8a48c0d6ab34bb1791185eda9a"), looks := false }, kinds := [], alts := [], laidByText := true, laidKinds := [.data, .pinned], laidTests := true, laidLooks := .later }
def HostsUptoCardSaid : Prop := Claim7.holds Tryz.pinned (.plain (OpenSpec.upto hostsSpec)) hostsUptoCard

/-- THE SECOND FORM's CARD OF 'suffixlaw.Compiles'. -/
def compilesUptoCard : Claim7 := { stood := { row := compilesUptoRow, standIns := [], harness := (true, "38c68f11dd11f268d54b3846938d468e586c4a8a48c0d6ab34bb1791185eda9a"), looks := false }, kinds := [], alts := [], laidByText := true, laidKinds := [.data, .pinned], laidTests := true, laidLooks := .later }
def CompilesUptoCardSaid : Prop := Claim7.holds Tryz.pinned (.plain (OpenSpec.upto compilesSpec)) compilesUptoCard
end Rows
end Go.Proofs.YtinpflnpjhgbdaaGreatDoor
