/-
  No cell of these rows narrows 'for every input' (looked for: loops, veiled, ifaces, maps, wideKeys, modest, calm, conditions, laid).
  DERIVED. THE GIVEN ROWS OF THIS SEAT. 3 by the template 'for every input the law returns true; each argument reads behind the call as it read before'; 0 by the template 'total and deterministic' (their statements: YtncnilplmklccaaTotals.lean).
  GIVEN WITH THE SEED: the statements are not yours to turn. If you find one false, say at which input.
  Laid BY PROGRAM, IN A SANDBOX (cutbox-rows.mjs): the forced cells as the released guide's own fill.sh prints them over the translation 9d266b49862a6df9… (all of the seat's roots in one cut). By AI agents, Wed Nov 11 2026. No macro, syntax, notation, axiom, sorry.
-/
import Derived.Test.YtncnilplmklccaaChecked
import GoSem.Claim
import GoSem.ClaimJoined
import GoSem.ClaimMapViews
import Derived.JoinedTies
import Derived.KernelRfl
namespace Go.Proofs.Ytncnilplmklccaa
/- THE CELL 'sum', in the pinned program and in every row, IS THE sha256 OF THE DUMP (.gsa) THAT YtncnilplmklccaaProg.lean LOADS. Nothing in Lean hashes anything: it is a label: what it is worth is what the hold of that sum in a sandbox is worth. -/
noncomputable def Try.pinned : Pinned := { name := "ytncnilplmklccaa", sum := "9d266b49862a6df94ecd9e5ffc14ce1edc9b895517095b15f698686be5a79de1", checked := Try.checked }
namespace Rows
def none {H : Type} : Left H := { results := [], args := [] }

/-- 'sponsionlaw14.PairRefuses': WHATEVER THE INPUT: true; the input reads as it did. -/
def pairRefusesSpec : ChangeSpec := { name := "pairRefuses", fn := fun _ => fun
  | [d1, d2] => { results := [.lit (.bool true)], args := [d1, d2] }
  | _ => none }
def pairRefusesRow : OpenClaim := { program := "ytncnilplmklccaa", sum := "9d266b49862a6df94ecd9e5ffc14ce1edc9b895517095b15f698686be5a79de1", func := "sponsion/sponsionlaw14.PairRefuses", spec := "pairRefuses", inPlace := ["math/bits.Add64", "math/bits.Sub64"], unfollowed := true, recurses := true, plainKeys := false, apart := false }
def PairRefusesSaid : Prop := pairRefusesRow.holds Try.pinned (OpenSpec.ofChange pairRefusesSpec)

/-- ITS FALSE NEIGHBOUR: 'it returns false'. Refute it at one input. -/
def pairRefusesWrong : ChangeSpec := { name := "pairRefuses", fn := fun _ => fun
  | [d1, d2] => { results := [.lit (.bool false)], args := [d1, d2] }
  | _ => none }
def PairRefusesWrongFalsely : Prop := pairRefusesRow.holds Try.pinned (OpenSpec.ofChange pairRefusesWrong)

/-- 'sponsionlaw14.PairNonces': WHATEVER THE INPUT: true; the input reads as it did. -/
def pairNoncesSpec : ChangeSpec := { name := "pairNonces", fn := fun _ => fun
  | [d1, d2] => { results := [.lit (.bool true)], args := [d1, d2] }
  | _ => none }
def pairNoncesRow : OpenClaim := { program := "ytncnilplmklccaa", sum := "9d266b49862a6df94ecd9e5ffc14ce1edc9b895517095b15f698686be5a79de1", func := "sponsion/sponsionlaw14.PairNonces", spec := "pairNonces", unfollowed := true, recurses := true, plainKeys := false, apart := false }
def PairNoncesSaid : Prop := pairNoncesRow.holds Try.pinned (OpenSpec.ofChange pairNoncesSpec)

/-- ITS FALSE NEIGHBOUR: 'it returns false'. Refute it at one input. -/
def pairNoncesWrong : ChangeSpec := { name := "pairNonces", fn := fun _ => fun
  | [d1, d2] => { results := [.lit (.bool false)], args := [d1, d2] }
  | _ => none }
def PairNoncesWrongFalsely : Prop := pairNoncesRow.holds Try.pinned (OpenSpec.ofChange pairNoncesWrong)

/-- 'sponsionlaw14.PairMaps': WHATEVER THE INPUT: true; the input reads as it did. -/
def pairMapsSpec : ChangeSpec := { name := "pairMaps", fn := fun _ => fun
  | [d1, d2] => { results := [.lit (.bool true)], args := [d1, d2] }
  | _ => none }
def pairMapsRow : OpenClaim := { program := "ytncnilplmklccaa", sum := "9d266b49862a6df94ecd9e5ffc14ce1edc9b895517095b15f698686be5a79de1", func := "sponsion/sponsionlaw14.PairMaps", spec := "pairMaps", inPlace := ["math/bits.Add64"], unfollowed := true, recurses := true, plainKeys := false, apart := false }
def PairMapsSaid : Prop := pairMapsRow.holds Try.pinned (OpenSpec.ofChange pairMapsSpec)

/-- ITS FALSE NEIGHBOUR: 'it returns false'. Refute it at one input. -/
def pairMapsWrong : ChangeSpec := { name := "pairMaps", fn := fun _ => fun
  | [d1, d2] => { results := [.lit (.bool false)], args := [d1, d2] }
  | _ => none }
def PairMapsWrongFalsely : Prop := pairMapsRow.holds Try.pinned (OpenSpec.ofChange pairMapsWrong)

/- THE SECOND FORM. 'bulk': how many values and letters a reading holds, each counted each time it is reached (what is shared counts as often as it is met; a slice's spare places count too). A statement '..UptoSaid' is the law's where the arguments, and the package variables that the reading takes, are together of bulk at most 1048576: NARROWER than '..Said'. Prove '..Said' where nothing that the law and all that it calls make is longer than what came in: it says more and counts as full. Else prove '..UptoSaid'. A law counts once. -/
mutual
def uptoBulk {H : Type} : DataW H → Nat
  | .lit (.string bytes) => bytes.length + 1
  | .lit _ => 1
  | .nil => 1
  | .ptr d => uptoBulk d + 1
  | .slice elems spare => uptoBulkAll elems + uptoBulkAll spare + 1
  | .agg parts => uptoBulkAll parts + 1
  | .iface _ d => uptoBulk d + 1
  | .map entries => uptoBulkEntries entries + 1
  | .held _ => 1
def uptoBulkAll {H : Type} : List (DataW H) → Nat
  | [] => 0
  | d :: r => uptoBulk d + uptoBulkAll r
def uptoBulkEntries {H : Type} : List (Lit × DataW H) → Nat
  | [] => 0
  | x :: r => uptoBulkEntry x + uptoBulkEntries r
def uptoBulkEntry {H : Type} : Lit × DataW H → Nat
  | (.string bytes, d) => bytes.length + uptoBulk d + 1
  | (_, d) => uptoBulk d + 1
 end
def uptoSmall : (H : Type) → List (DataW H) → Bool := fun _ ds => decide (uptoBulkAll ds ≤ 1048576)
def OpenSpec.upto (s : _root_.Go.ChangeSpec) : _root_.Go.OpenSpec := { _root_.Go.OpenSpec.ofChange s with cond := some uptoSmall }

/-- 'sponsionlaw14.PairRefuses', WHERE WHAT IT READS IS OF BULK AT MOST 1048576: true; the input reads as it did. -/
def pairRefusesUptoRow : OpenClaim := { program := "ytncnilplmklccaa", sum := "9d266b49862a6df94ecd9e5ffc14ce1edc9b895517095b15f698686be5a79de1", func := "sponsion/sponsionlaw14.PairRefuses", spec := "pairRefuses", inPlace := ["math/bits.Add64", "math/bits.Sub64"], unfollowed := true, recurses := true, plainKeys := false, apart := false, narrowed := true }
def PairRefusesUptoSaid : Prop := pairRefusesUptoRow.holds Try.pinned (OpenSpec.upto pairRefusesSpec)

/-- 'sponsionlaw14.PairNonces', WHERE WHAT IT READS IS OF BULK AT MOST 1048576: true; the input reads as it did. -/
def pairNoncesUptoRow : OpenClaim := { program := "ytncnilplmklccaa", sum := "9d266b49862a6df94ecd9e5ffc14ce1edc9b895517095b15f698686be5a79de1", func := "sponsion/sponsionlaw14.PairNonces", spec := "pairNonces", unfollowed := true, recurses := true, plainKeys := false, apart := false, narrowed := true }
def PairNoncesUptoSaid : Prop := pairNoncesUptoRow.holds Try.pinned (OpenSpec.upto pairNoncesSpec)

/-- 'sponsionlaw14.PairMaps', WHERE WHAT IT READS IS OF BULK AT MOST 1048576: true; the input reads as it did. -/
def pairMapsUptoRow : OpenClaim := { program := "ytncnilplmklccaa", sum := "9d266b49862a6df94ecd9e5ffc14ce1edc9b895517095b15f698686be5a79de1", func := "sponsion/sponsionlaw14.PairMaps", spec := "pairMaps", inPlace := ["math/bits.Add64"], unfollowed := true, recurses := true, plainKeys := false, apart := false, narrowed := true }
def PairMapsUptoSaid : Prop := pairMapsUptoRow.holds Try.pinned (OpenSpec.upto pairMapsSpec)

end Rows
end Go.Proofs.Ytncnilplmklccaa
