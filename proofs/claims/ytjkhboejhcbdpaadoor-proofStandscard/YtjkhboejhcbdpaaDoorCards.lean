/-
  DERIVED. GIVEN WITH THE SEED: THE CARDS: each row of YtjkhboejhcbdpaaDoorRows.lean that lists a variable, with what it lists TIED to the program's text (the seventh form; the later family's looks); each row that meets fmt, with fmt's text TOLD by the authors' own Lean function (tested against real Go, not proved from fmt's source: count such statements apart). THE CARD IS WHAT COUNTS. Prove the row's statement (the work); the ties are given (YtjkhboejhcbdpaaDoorTie.lean); close each card by the builder's one call (the guide's Derived/Test/ToyasCard.lean, 'card_holds'). Laid BY PROGRAM, IN A SANDBOX (cutbox-door.mjs). By AI agents, Wed Nov 11 2026. No macro, syntax, notation, axiom, sorry.
-/
import Derived.Test.YtjkhboejhcbdpaaDoorRows
import GoSem.ClaimSeven
namespace Go.Proofs.YtjkhboejhcbdpaaDoor
namespace Rows

/-- THE TIED CARD OF 'sponsionlaw11.ProofMakes'. -/
def proofMakesCard : Claim7 := { stood := { row := proofMakesRow, standIns := [], harness := (true, "46e599d1456516926822b1da9353c5e9ffe3c5964b7b1e141a25023dcf4fb377"), looks := false }, kinds := [], alts := [], laidByText := true, laidKinds := [.data, .data], laidTests := true, laidLooks := .later }
def ProofMakesCardSaid : Prop := Claim7.holds Tryd.pinned (.plain (OpenSpec.ofChange proofMakesSpec)) proofMakesCard

/-- THE TIED CARD OF 'sponsionlaw11.ProofClimbs'. -/
def proofClimbsCard : Claim7 := { stood := { row := proofClimbsRow, standIns := [], harness := (true, "46e599d1456516926822b1da9353c5e9ffe3c5964b7b1e141a25023dcf4fb377"), looks := false }, kinds := [], alts := [], laidByText := true, laidKinds := [.data, .data], laidTests := true, laidLooks := .later }
def ProofClimbsCardSaid : Prop := Claim7.holds Tryd.pinned (.plain (OpenSpec.ofChange proofClimbsSpec)) proofClimbsCard

/-- THE TIED CARD OF 'sponsionlaw11.ProofStands'. -/
def proofStandsCard : Claim7 := { stood := { row := proofStandsRow, standIns := [], harness := (true, "46e599d1456516926822b1da9353c5e9ffe3c5964b7b1e141a25023dcf4fb377"), looks := false }, kinds := [], alts := [], laidByText := true, laidKinds := [.data], laidTests := true, laidLooks := .later }
def ProofStandsCardSaid : Prop := Claim7.holds Tryd.pinned (.plain (OpenSpec.ofChange proofStandsSpec)) proofStandsCard

/-- THE TIED CARD OF 'sponsionlaw11.ProofOne'. -/
def proofOneCard : Claim7 := { stood := { row := proofOneRow, standIns := [], harness := (true, "46e599d1456516926822b1da9353c5e9ffe3c5964b7b1e141a25023dcf4fb377"), looks := false }, kinds := [], alts := [], laidByText := true, laidKinds := [.data], laidTests := true, laidLooks := .later }
def ProofOneCardSaid : Prop := Claim7.holds Tryd.pinned (.plain (OpenSpec.ofChange proofOneSpec)) proofOneCard

/-- THE SECOND FORM's CARD OF 'sponsionlaw11.ProofMakes'. -/
def proofMakesUptoCard : Claim7 := { stood := { row := proofMakesUptoRow, standIns := [], harness := (true, "46e599d1456516926822b1da9353c5e9ffe3c5964b7b1e141a25023dcf4fb377"), looks := false }, kinds := [], alts := [], laidByText := true, laidKinds := [.data, .data], laidTests := true, laidLooks := .later }
def ProofMakesUptoCardSaid : Prop := Claim7.holds Tryd.pinned (.plain (OpenSpec.upto proofMakesSpec)) proofMakesUptoCard

/-- THE SECOND FORM's CARD OF 'sponsionlaw11.ProofClimbs'. -/
def proofClimbsUptoCard : Claim7 := { stood := { row := proofClimbsUptoRow, standIns := [], harness := (true, "46e599d1456516926822b1da9353c5e9ffe3c5964b7b1e141a25023dcf4fb377"), looks := false }, kinds := [], alts := [], laidByText := true, laidKinds := [.data, .data], laidTests := true, laidLooks := .later }
def ProofClimbsUptoCardSaid : Prop := Claim7.holds Tryd.pinned (.plain (OpenSpec.upto proofClimbsSpec)) proofClimbsUptoCard

/-- THE SECOND FORM's CARD OF 'sponsionlaw11.ProofStands'. -/
def proofStandsUptoCard : Claim7 := { stood := { row := proofStandsUptoRow, standIns := [], harness := (true, "46e599d1456516926822b1da9353c5e9ffe3c5964b7b1e141a25023dcf4fb377"), looks := false }, kinds := [], alts := [], laidByText := true, laidKinds := [.data], laidTests := true, laidLooks := .later }
def ProofStandsUptoCardSaid : Prop := Claim7.holds Tryd.pinned (.plain (OpenSpec.upto proofStandsSpec)) proofStandsUptoCard

/-- THE SECOND FORM's CARD OF 'sponsionlaw11.ProofOne'. -/
def proofOneUptoCard : Claim7 := { stood := { row := proofOneUptoRow, standIns := [], harness := (true, "46e599d1456516926822b1da9353c5e9ffe3c5964b7b1e141a25023dcf4fb377"), looks := false }, kinds := [], alts := [], laidByText := true, laidKinds := [.data], laidTests := true, laidLooks := .later }
def ProofOneUptoCardSaid : Prop := Claim7.holds Tryd.pinned (.plain (OpenSpec.upto proofOneSpec)) proofOneUptoCard
end Rows
end Go.Proofs.YtjkhboejhcbdpaaDoor
