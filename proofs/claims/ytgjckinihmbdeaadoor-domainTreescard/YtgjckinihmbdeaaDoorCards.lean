/-
  DERIVED. GIVEN WITH THE SEED: THE CARDS: each row of YtgjckinihmbdeaaDoorRows.lean that lists a variable, with what it lists TIED to the program's text (the seventh form; the later family's looks); each row that meets fmt, with fmt's text TOLD by the authors' own Lean function (tested against real Go, not proved from fmt's source: count such statements apart). THE CARD IS WHAT COUNTS. Prove the row's statement (the work); the ties are given (YtgjckinihmbdeaaDoorTie.lean); close each card by the builder's one call (the guide's Derived/Test/ToyasCard.lean, 'card_holds'). Laid BY PROGRAM, IN A SANDBOX (cutbox-door.mjs). By AI agents, Wed Nov 11 2026. No macro, syntax, notation, axiom, sorry.
-/
import Derived.Test.YtgjckinihmbdeaaDoorRows
import GoSem.ClaimSeven
namespace Go.Proofs.YtgjckinihmbdeaaDoor
namespace Rows

/-- THE TIED CARD OF 'sponsionlaw06.DomainTexts'. -/
def domainTextsCard : Claim7 := { stood := { row := domainTextsRow, standIns := [], harness := (true, "ef80d7c4723290d76dedce73f2b60f10d336e196ecb1c4829d5870ec4b520729"), looks := false }, kinds := [], alts := [], laidByText := true, laidKinds := [.data, .data], laidTests := true, laidLooks := .later }
def DomainTextsCardSaid : Prop := Claim7.holds Tryd.pinned (.plain (OpenSpec.ofChange domainTextsSpec)) domainTextsCard

/-- THE TIED CARD OF 'sponsionlaw06.DomainTrees'. -/
def domainTreesCard : Claim7 := { stood := { row := domainTreesRow, standIns := [], harness := (true, "ef80d7c4723290d76dedce73f2b60f10d336e196ecb1c4829d5870ec4b520729"), looks := false }, kinds := [], alts := [], laidByText := true, laidKinds := [.data, .data], laidTests := true, laidLooks := .later }
def DomainTreesCardSaid : Prop := Claim7.holds Tryd.pinned (.plain (OpenSpec.ofChange domainTreesSpec)) domainTreesCard

/-- THE TIED CARD OF 'sponsionlaw06.DomainEmpty'. -/
def domainEmptyCard : Claim7 := { stood := { row := domainEmptyRow, standIns := [], harness := (true, "ef80d7c4723290d76dedce73f2b60f10d336e196ecb1c4829d5870ec4b520729"), looks := false }, kinds := [], alts := [], laidByText := true, laidKinds := [.data, .data], laidTests := true, laidLooks := .later }
def DomainEmptyCardSaid : Prop := Claim7.holds Tryd.pinned (.plain (OpenSpec.ofChange domainEmptySpec)) domainEmptyCard

/-- THE SECOND FORM's CARD OF 'sponsionlaw06.DomainTexts'. -/
def domainTextsUptoCard : Claim7 := { stood := { row := domainTextsUptoRow, standIns := [], harness := (true, "ef80d7c4723290d76dedce73f2b60f10d336e196ecb1c4829d5870ec4b520729"), looks := false }, kinds := [], alts := [], laidByText := true, laidKinds := [.data, .data], laidTests := true, laidLooks := .later }
def DomainTextsUptoCardSaid : Prop := Claim7.holds Tryd.pinned (.plain (OpenSpec.upto domainTextsSpec)) domainTextsUptoCard

/-- THE SECOND FORM's CARD OF 'sponsionlaw06.DomainTrees'. -/
def domainTreesUptoCard : Claim7 := { stood := { row := domainTreesUptoRow, standIns := [], harness := (true, "ef80d7c4723290d76dedce73f2b60f10d336e196ecb1c4829d5870ec4b520729"), looks := false }, kinds := [], alts := [], laidByText := true, laidKinds := [.data, .data], laidTests := true, laidLooks := .later }
def DomainTreesUptoCardSaid : Prop := Claim7.holds Tryd.pinned (.plain (OpenSpec.upto domainTreesSpec)) domainTreesUptoCard

/-- THE SECOND FORM's CARD OF 'sponsionlaw06.DomainEmpty'. -/
def domainEmptyUptoCard : Claim7 := { stood := { row := domainEmptyUptoRow, standIns := [], harness := (true, "ef80d7c4723290d76dedce73f2b60f10d336e196ecb1c4829d5870ec4b520729"), looks := false }, kinds := [], alts := [], laidByText := true, laidKinds := [.data, .data], laidTests := true, laidLooks := .later }
def DomainEmptyUptoCardSaid : Prop := Claim7.holds Tryd.pinned (.plain (OpenSpec.upto domainEmptySpec)) domainEmptyUptoCard
end Rows
end Go.Proofs.YtgjckinihmbdeaaDoor
