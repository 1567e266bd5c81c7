/-
  No cell of these rows narrows 'for every input' (looked for: loops, veiled, ifaces, maps, wideKeys, modest, calm, conditions, laid).
  DERIVED. THE GIVEN ROWS OF THIS SEAT. 3 by the template 'for every input the law returns true; each argument reads behind the call as it read before'; 0 by the template 'total and deterministic' (their statements: YtnjijnphjiiceaaTotals.lean).
  GIVEN WITH THE SEED: the statements are not yours to turn. If you find one false, say at which input.
  Laid BY PROGRAM, IN A SANDBOX (cutbox-rows.mjs): the forced cells as the released guide's own fill.sh prints them over the translation 6be9e678c884b9c5… (all of the seat's roots in one cut). By AI agents, Wed Nov 11 2026. No macro, syntax, notation, axiom, sorry.
-/
import Derived.Test.YtnjijnphjiiceaaChecked
import GoSem.Claim
import GoSem.ClaimJoined
import GoSem.ClaimMapViews
import Derived.JoinedTies
import Derived.KernelRfl
namespace Go.Proofs.Ytnjijnphjiiceaa
/- THE CELL 'sum', in the pinned program and in every row, IS THE sha256 OF THE DUMP (.gsa) THAT YtnjijnphjiiceaaProg.lean LOADS. Nothing in Lean hashes anything: it is a label: what it is worth is what the hold of that sum in a sandbox is worth. -/
noncomputable def Try.pinned : Pinned := { name := "ytnjijnphjiiceaa", sum := "6be9e678c884b9c5882b4a87683cc560f93e4af19d9a3d7c65a61c468a976d20", checked := Try.checked }
namespace Rows
def none {H : Type} : Left H := { results := [], args := [] }

/-- 'sponsionlaw12.StagePlays': WHATEVER THE INPUT: true; the input reads as it did. -/
def stagePlaysSpec : ChangeSpec := { name := "stagePlays", fn := fun _ => fun
  | [d1, d2, d3] => { results := [.lit (.bool true)], args := [d1, d2, d3] }
  | _ => none }
def stagePlaysRow : OpenClaim := { program := "ytnjijnphjiiceaa", sum := "6be9e678c884b9c5882b4a87683cc560f93e4af19d9a3d7c65a61c468a976d20", func := "sponsion/sponsionlaw12.StagePlays", spec := "stagePlays", unfollowed := true, recurses := true, apart := false }
def StagePlaysSaid : Prop := stagePlaysRow.holds Try.pinned (OpenSpec.ofChange stagePlaysSpec)

/-- ITS FALSE NEIGHBOUR: 'it returns false'. Refute it at one input. -/
def stagePlaysWrong : ChangeSpec := { name := "stagePlays", fn := fun _ => fun
  | [d1, d2, d3] => { results := [.lit (.bool false)], args := [d1, d2, d3] }
  | _ => none }
def StagePlaysWrongFalsely : Prop := stagePlaysRow.holds Try.pinned (OpenSpec.ofChange stagePlaysWrong)

/-- 'sponsionlaw12.StageBack': WHATEVER THE INPUT: true; the input reads as it did. -/
def stageBackSpec : ChangeSpec := { name := "stageBack", fn := fun _ => fun
  | [d1, d2, d3] => { results := [.lit (.bool true)], args := [d1, d2, d3] }
  | _ => none }
def stageBackRow : OpenClaim := { program := "ytnjijnphjiiceaa", sum := "6be9e678c884b9c5882b4a87683cc560f93e4af19d9a3d7c65a61c468a976d20", func := "sponsion/sponsionlaw12.StageBack", spec := "stageBack", unfollowed := true, recurses := true, apart := false }
def StageBackSaid : Prop := stageBackRow.holds Try.pinned (OpenSpec.ofChange stageBackSpec)

/-- ITS FALSE NEIGHBOUR: 'it returns false'. Refute it at one input. -/
def stageBackWrong : ChangeSpec := { name := "stageBack", fn := fun _ => fun
  | [d1, d2, d3] => { results := [.lit (.bool false)], args := [d1, d2, d3] }
  | _ => none }
def StageBackWrongFalsely : Prop := stageBackRow.holds Try.pinned (OpenSpec.ofChange stageBackWrong)

/-- 'sponsionlaw12.StageOrder': WHATEVER THE INPUT: true; the input reads as it did. -/
def stageOrderSpec : ChangeSpec := { name := "stageOrder", fn := fun _ => fun
  | [d] => { results := [.lit (.bool true)], args := [d] }
  | _ => none }
def stageOrderRow : OpenClaim := { program := "ytnjijnphjiiceaa", sum := "6be9e678c884b9c5882b4a87683cc560f93e4af19d9a3d7c65a61c468a976d20", func := "sponsion/sponsionlaw12.StageOrder", spec := "stageOrder", unfollowed := true, recurses := true, apart := false }
def StageOrderSaid : Prop := stageOrderRow.holds Try.pinned (OpenSpec.ofChange stageOrderSpec)

/-- ITS FALSE NEIGHBOUR: 'it returns false'. Refute it at one input. -/
def stageOrderWrong : ChangeSpec := { name := "stageOrder", fn := fun _ => fun
  | [d] => { results := [.lit (.bool false)], args := [d] }
  | _ => none }
def StageOrderWrongFalsely : Prop := stageOrderRow.holds Try.pinned (OpenSpec.ofChange stageOrderWrong)

/- THE SECOND FORM. 'bulk': how many values and letters a reading holds, each counted each time it is reached (what is shared counts as often as it is met; a slice's spare places count too). A statement '..UptoSaid' is the law's where the arguments, and the package variables that the reading takes, are together of bulk at most 1048576: NARROWER than '..Said'. Prove '..Said' where nothing that the law and all that it calls make is longer than what came in: it says more and counts as full. Else prove '..UptoSaid'. A law counts once. -/
mutual
def uptoBulk {H : Type} : DataW H → Nat
  | .lit (.string bytes) => bytes.length + 1
  | .lit _ => 1
  | .nil => 1
  | .ptr d => uptoBulk d + 1
  | .slice elems spare => uptoBulkAll elems + uptoBulkAll spare + 1
  | .agg parts => uptoBulkAll parts + 1
  | .iface _ d => uptoBulk d + 1
  | .map entries => uptoBulkEntries entries + 1
  | .held _ => 1
def uptoBulkAll {H : Type} : List (DataW H) → Nat
  | [] => 0
  | d :: r => uptoBulk d + uptoBulkAll r
def uptoBulkEntries {H : Type} : List (Lit × DataW H) → Nat
  | [] => 0
  | x :: r => uptoBulkEntry x + uptoBulkEntries r
def uptoBulkEntry {H : Type} : Lit × DataW H → Nat
  | (.string bytes, d) => bytes.length + uptoBulk d + 1
  | (_, d) => uptoBulk d + 1
 end
def uptoSmall : (H : Type) → List (DataW H) → Bool := fun _ ds => decide (uptoBulkAll ds ≤ 1048576)
def OpenSpec.upto (s : _root_.Go.ChangeSpec) : _root_.Go.OpenSpec := { _root_.Go.OpenSpec.ofChange s with cond := some uptoSmall }

/-- 'sponsionlaw12.StagePlays', WHERE WHAT IT READS IS OF BULK AT MOST 1048576: true; the input reads as it did. -/
def stagePlaysUptoRow : OpenClaim := { program := "ytnjijnphjiiceaa", sum := "6be9e678c884b9c5882b4a87683cc560f93e4af19d9a3d7c65a61c468a976d20", func := "sponsion/sponsionlaw12.StagePlays", spec := "stagePlays", unfollowed := true, recurses := true, apart := false, narrowed := true }
def StagePlaysUptoSaid : Prop := stagePlaysUptoRow.holds Try.pinned (OpenSpec.upto stagePlaysSpec)

/-- 'sponsionlaw12.StageBack', WHERE WHAT IT READS IS OF BULK AT MOST 1048576: true; the input reads as it did. -/
def stageBackUptoRow : OpenClaim := { program := "ytnjijnphjiiceaa", sum := "6be9e678c884b9c5882b4a87683cc560f93e4af19d9a3d7c65a61c468a976d20", func := "sponsion/sponsionlaw12.StageBack", spec := "stageBack", unfollowed := true, recurses := true, apart := false, narrowed := true }
def StageBackUptoSaid : Prop := stageBackUptoRow.holds Try.pinned (OpenSpec.upto stageBackSpec)

/-- 'sponsionlaw12.StageOrder', WHERE WHAT IT READS IS OF BULK AT MOST 1048576: true; the input reads as it did. -/
def stageOrderUptoRow : OpenClaim := { program := "ytnjijnphjiiceaa", sum := "6be9e678c884b9c5882b4a87683cc560f93e4af19d9a3d7c65a61c468a976d20", func := "sponsion/sponsionlaw12.StageOrder", spec := "stageOrder", unfollowed := true, recurses := true, apart := false, narrowed := true }
def StageOrderUptoSaid : Prop := stageOrderUptoRow.holds Try.pinned (OpenSpec.upto stageOrderSpec)

end Rows
end Go.Proofs.Ytnjijnphjiiceaa
