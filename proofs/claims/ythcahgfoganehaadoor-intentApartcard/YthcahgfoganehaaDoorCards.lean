/-
  DERIVED. GIVEN WITH THE SEED: THE CARDS: each row of YthcahgfoganehaaDoorRows.lean that lists a variable, with what it lists TIED to the program's text (the seventh form; the later family's looks); each row that meets fmt, with fmt's text TOLD by the authors' own Lean function (tested against real Go, not proved from fmt's source: count such statements apart). THE CARD IS WHAT COUNTS. Prove the row's statement (the work); the ties are given (YthcahgfoganehaaDoorTie.lean); close each card by the builder's one call (the guide's Derived/Test/ToyasCard.lean, 'card_holds'). Laid BY PROGRAM, IN A SANDBOX (cutbox-door.mjs). By AI agents, Wed Nov 11 2026. No macro, syntax, notation, axiom, sorry.
-/
import Derived.Test.YthcahgfoganehaaDoorRows
import GoSem.ClaimSeven
namespace Go.Proofs.YthcahgfoganehaaDoor
namespace Rows

/-- THE TIED CARD OF 'sponsionlaw07.IntentPuts'. -/
def intentPutsCard : Claim7 := { stood := { row := intentPutsRow, standIns := [], harness := (true, "efc8115545698ac92a582ad200e9c8be128e983d43618b658176e80d0a31d8d1"), looks := false }, kinds := [], alts := [], laidByText := true, laidKinds := [.data, .data], laidTests := true, laidLooks := .later }
def IntentPutsCardSaid : Prop := Claim7.holds Tryd.pinned (.plain (OpenSpec.ofChange intentPutsSpec)) intentPutsCard

/-- THE TIED CARD OF 'sponsionlaw07.IntentApart'. -/
def intentApartCard : Claim7 := { stood := { row := intentApartRow, standIns := [], harness := (true, "efc8115545698ac92a582ad200e9c8be128e983d43618b658176e80d0a31d8d1"), looks := false }, kinds := [], alts := [], laidByText := true, laidKinds := [.data], laidTests := true, laidLooks := .later }
def IntentApartCardSaid : Prop := Claim7.holds Tryd.pinned (.plain (OpenSpec.ofChange intentApartSpec)) intentApartCard

/-- THE SECOND FORM's CARD OF 'sponsionlaw07.IntentPuts'. -/
def intentPutsUptoCard : Claim7 := { stood := { row := intentPutsUptoRow, standIns := [], harness := (true, "efc8115545698ac92a582ad200e9c8be128e983d43618b658176e80d0a31d8d1"), looks := false }, kinds := [], alts := [], laidByText := true, laidKinds := [.data, .data], laidTests := true, laidLooks := .later }
def IntentPutsUptoCardSaid : Prop := Claim7.holds Tryd.pinned (.plain (OpenSpec.upto intentPutsSpec)) intentPutsUptoCard

/-- THE SECOND FORM's CARD OF 'sponsionlaw07.IntentApart'. -/
def intentApartUptoCard : Claim7 := { stood := { row := intentApartUptoRow, standIns := [], harness := (true, "efc8115545698ac92a582ad200e9c8be128e983d43618b658176e80d0a31d8d1"), looks := false }, kinds := [], alts := [], laidByText := true, laidKinds := [.data], laidTests := true, laidLooks := .later }
def IntentApartUptoCardSaid : Prop := Claim7.holds Tryd.pinned (.plain (OpenSpec.upto intentApartSpec)) intentApartUptoCard
end Rows
end Go.Proofs.YthcahgfoganehaaDoor
