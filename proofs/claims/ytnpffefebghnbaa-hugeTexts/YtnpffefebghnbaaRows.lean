/-
  No cell of these rows narrows 'for every input' (looked for: loops, veiled, ifaces, maps, wideKeys, modest, calm, conditions, laid).
  DERIVED. THE GIVEN ROWS OF THIS SEAT. 6 by the template 'for every input the law returns true; each argument reads behind the call as it read before'; 0 by the template 'total and deterministic' (their statements: YtnpffefebghnbaaTotals.lean).
  GIVEN WITH THE SEED: the statements are not yours to turn. If you find one false, say at which input.
  Laid BY PROGRAM, IN A SANDBOX (cutbox-rows.mjs): the forced cells as the released guide's own fill.sh prints them over the translation dc71f31953d1650f… (all of the seat's roots in one cut). By AI agents, Wed Nov 11 2026. No macro, syntax, notation, axiom, sorry.
-/
import Derived.Test.YtnpffefebghnbaaChecked
import GoSem.Claim
import GoSem.ClaimJoined
import GoSem.ClaimMapViews
import Derived.JoinedTies
import Derived.KernelRfl
namespace Go.Proofs.Ytnpffefebghnbaa
/- THE CELL 'sum', in the pinned program and in every row, IS THE sha256 OF THE DUMP (.gsa) THAT YtnpffefebghnbaaProg.lean LOADS. Nothing in Lean hashes anything: it is a label: what it is worth is what the hold of that sum in a sandbox is worth. -/
noncomputable def Try.pinned : Pinned := { name := "ytnpffefebghnbaa", sum := "dc71f31953d1650fbe39797366b82ec5eccfb046a2ee044a7182c6c84d4a0139", checked := Try.checked }
namespace Rows
def none {H : Type} : Left H := { results := [], args := [] }

/-- 'sponsionlaw02.HugeAdds': WHATEVER THE INPUT: true; the input reads as it did. -/
def hugeAddsSpec : ChangeSpec := { name := "hugeAdds", fn := fun _ => fun
  | [d1, d2] => { results := [.lit (.bool true)], args := [d1, d2] }
  | _ => none }
def hugeAddsRow : OpenClaim := { program := "ytnpffefebghnbaa", sum := "dc71f31953d1650fbe39797366b82ec5eccfb046a2ee044a7182c6c84d4a0139", func := "sponsion/sponsionlaw02.HugeAdds", spec := "hugeAdds", inPlace := ["math/bits.Add64", "math/bits.Sub64"], apart := false }
def HugeAddsSaid : Prop := hugeAddsRow.holds Try.pinned (OpenSpec.ofChange hugeAddsSpec)

/-- ITS FALSE NEIGHBOUR: 'it returns false'. Refute it at one input. -/
def hugeAddsWrong : ChangeSpec := { name := "hugeAdds", fn := fun _ => fun
  | [d1, d2] => { results := [.lit (.bool false)], args := [d1, d2] }
  | _ => none }
def HugeAddsWrongFalsely : Prop := hugeAddsRow.holds Try.pinned (OpenSpec.ofChange hugeAddsWrong)

/-- 'sponsionlaw02.HugeMuls': WHATEVER THE INPUT: true; the input reads as it did. -/
def hugeMulsSpec : ChangeSpec := { name := "hugeMuls", fn := fun _ => fun
  | [d1, d2, d3] => { results := [.lit (.bool true)], args := [d1, d2, d3] }
  | _ => none }
def hugeMulsRow : OpenClaim := { program := "ytnpffefebghnbaa", sum := "dc71f31953d1650fbe39797366b82ec5eccfb046a2ee044a7182c6c84d4a0139", func := "sponsion/sponsionlaw02.HugeMuls", spec := "hugeMuls", inPlace := ["math/bits.Add64"], apart := false }
def HugeMulsSaid : Prop := hugeMulsRow.holds Try.pinned (OpenSpec.ofChange hugeMulsSpec)

/-- ITS FALSE NEIGHBOUR: 'it returns false'. Refute it at one input. -/
def hugeMulsWrong : ChangeSpec := { name := "hugeMuls", fn := fun _ => fun
  | [d1, d2, d3] => { results := [.lit (.bool false)], args := [d1, d2, d3] }
  | _ => none }
def HugeMulsWrongFalsely : Prop := hugeMulsRow.holds Try.pinned (OpenSpec.ofChange hugeMulsWrong)

/-- 'sponsionlaw02.HugeSums': WHATEVER THE INPUT: true; the input reads as it did. -/
def hugeSumsSpec : ChangeSpec := { name := "hugeSums", fn := fun _ => fun
  | [d] => { results := [.lit (.bool true)], args := [d] }
  | _ => none }
def hugeSumsRow : OpenClaim := { program := "ytnpffefebghnbaa", sum := "dc71f31953d1650fbe39797366b82ec5eccfb046a2ee044a7182c6c84d4a0139", func := "sponsion/sponsionlaw02.HugeSums", spec := "hugeSums", inPlace := ["math/bits.Add64"], apart := false }
def HugeSumsSaid : Prop := hugeSumsRow.holds Try.pinned (OpenSpec.ofChange hugeSumsSpec)

/-- ITS FALSE NEIGHBOUR: 'it returns false'. Refute it at one input. -/
def hugeSumsWrong : ChangeSpec := { name := "hugeSums", fn := fun _ => fun
  | [d] => { results := [.lit (.bool false)], args := [d] }
  | _ => none }
def HugeSumsWrongFalsely : Prop := hugeSumsRow.holds Try.pinned (OpenSpec.ofChange hugeSumsWrong)

/-- 'sponsionlaw02.HugeBytes': WHATEVER THE INPUT: true; the input reads as it did. -/
def hugeBytesSpec : ChangeSpec := { name := "hugeBytes", fn := fun _ => fun
  | [d1, d2] => { results := [.lit (.bool true)], args := [d1, d2] }
  | _ => none }
def hugeBytesRow : OpenClaim := { program := "ytnpffefebghnbaa", sum := "dc71f31953d1650fbe39797366b82ec5eccfb046a2ee044a7182c6c84d4a0139", func := "sponsion/sponsionlaw02.HugeBytes", spec := "hugeBytes", inPlace := ["math/bits.Add64"], apart := false }
def HugeBytesSaid : Prop := hugeBytesRow.holds Try.pinned (OpenSpec.ofChange hugeBytesSpec)

/-- ITS FALSE NEIGHBOUR: 'it returns false'. Refute it at one input. -/
def hugeBytesWrong : ChangeSpec := { name := "hugeBytes", fn := fun _ => fun
  | [d1, d2] => { results := [.lit (.bool false)], args := [d1, d2] }
  | _ => none }
def HugeBytesWrongFalsely : Prop := hugeBytesRow.holds Try.pinned (OpenSpec.ofChange hugeBytesWrong)

/-- 'sponsionlaw02.HugeTexts': WHATEVER THE INPUT: true; the input reads as it did. -/
def hugeTextsSpec : ChangeSpec := { name := "hugeTexts", fn := fun _ => fun
  | [d1, d2] => { results := [.lit (.bool true)], args := [d1, d2] }
  | _ => none }
def hugeTextsRow : OpenClaim := { program := "ytnpffefebghnbaa", sum := "dc71f31953d1650fbe39797366b82ec5eccfb046a2ee044a7182c6c84d4a0139", func := "sponsion/sponsionlaw02.HugeTexts", spec := "hugeTexts", inPlace := ["math/bits.Add64"], apart := false }
def HugeTextsSaid : Prop := hugeTextsRow.holds Try.pinned (OpenSpec.ofChange hugeTextsSpec)

/-- ITS FALSE NEIGHBOUR: 'it returns false'. Refute it at one input. -/
def hugeTextsWrong : ChangeSpec := { name := "hugeTexts", fn := fun _ => fun
  | [d1, d2] => { results := [.lit (.bool false)], args := [d1, d2] }
  | _ => none }
def HugeTextsWrongFalsely : Prop := hugeTextsRow.holds Try.pinned (OpenSpec.ofChange hugeTextsWrong)

/-- 'sponsionlaw02.HugeLows': WHATEVER THE INPUT: true; the input reads as it did. -/
def hugeLowsSpec : ChangeSpec := { name := "hugeLows", fn := fun _ => fun
  | [d1, d2] => { results := [.lit (.bool true)], args := [d1, d2] }
  | _ => none }
def hugeLowsRow : OpenClaim := { program := "ytnpffefebghnbaa", sum := "dc71f31953d1650fbe39797366b82ec5eccfb046a2ee044a7182c6c84d4a0139", func := "sponsion/sponsionlaw02.HugeLows", spec := "hugeLows", inPlace := ["math/bits.Add64"], apart := false }
def HugeLowsSaid : Prop := hugeLowsRow.holds Try.pinned (OpenSpec.ofChange hugeLowsSpec)

/-- ITS FALSE NEIGHBOUR: 'it returns false'. Refute it at one input. -/
def hugeLowsWrong : ChangeSpec := { name := "hugeLows", fn := fun _ => fun
  | [d1, d2] => { results := [.lit (.bool false)], args := [d1, d2] }
  | _ => none }
def HugeLowsWrongFalsely : Prop := hugeLowsRow.holds Try.pinned (OpenSpec.ofChange hugeLowsWrong)

/- THE SECOND FORM. 'bulk': how many values and letters a reading holds, each counted each time it is reached (what is shared counts as often as it is met; a slice's spare places count too). A statement '..UptoSaid' is the law's where the arguments, and the package variables that the reading takes, are together of bulk at most 1048576: NARROWER than '..Said'. Prove '..Said' where nothing that the law and all that it calls make is longer than what came in: it says more and counts as full. Else prove '..UptoSaid'. A law counts once. -/
mutual
def uptoBulk {H : Type} : DataW H → Nat
  | .lit (.string bytes) => bytes.length + 1
  | .lit _ => 1
  | .nil => 1
  | .ptr d => uptoBulk d + 1
  | .slice elems spare => uptoBulkAll elems + uptoBulkAll spare + 1
  | .agg parts => uptoBulkAll parts + 1
  | .iface _ d => uptoBulk d + 1
  | .map entries => uptoBulkEntries entries + 1
  | .held _ => 1
def uptoBulkAll {H : Type} : List (DataW H) → Nat
  | [] => 0
  | d :: r => uptoBulk d + uptoBulkAll r
def uptoBulkEntries {H : Type} : List (Lit × DataW H) → Nat
  | [] => 0
  | x :: r => uptoBulkEntry x + uptoBulkEntries r
def uptoBulkEntry {H : Type} : Lit × DataW H → Nat
  | (.string bytes, d) => bytes.length + uptoBulk d + 1
  | (_, d) => uptoBulk d + 1
 end
def uptoSmall : (H : Type) → List (DataW H) → Bool := fun _ ds => decide (uptoBulkAll ds ≤ 1048576)
def OpenSpec.upto (s : _root_.Go.ChangeSpec) : _root_.Go.OpenSpec := { _root_.Go.OpenSpec.ofChange s with cond := some uptoSmall }

/-- 'sponsionlaw02.HugeAdds', WHERE WHAT IT READS IS OF BULK AT MOST 1048576: true; the input reads as it did. -/
def hugeAddsUptoRow : OpenClaim := { program := "ytnpffefebghnbaa", sum := "dc71f31953d1650fbe39797366b82ec5eccfb046a2ee044a7182c6c84d4a0139", func := "sponsion/sponsionlaw02.HugeAdds", spec := "hugeAdds", inPlace := ["math/bits.Add64", "math/bits.Sub64"], apart := false, narrowed := true }
def HugeAddsUptoSaid : Prop := hugeAddsUptoRow.holds Try.pinned (OpenSpec.upto hugeAddsSpec)

/-- 'sponsionlaw02.HugeMuls', WHERE WHAT IT READS IS OF BULK AT MOST 1048576: true; the input reads as it did. -/
def hugeMulsUptoRow : OpenClaim := { program := "ytnpffefebghnbaa", sum := "dc71f31953d1650fbe39797366b82ec5eccfb046a2ee044a7182c6c84d4a0139", func := "sponsion/sponsionlaw02.HugeMuls", spec := "hugeMuls", inPlace := ["math/bits.Add64"], apart := false, narrowed := true }
def HugeMulsUptoSaid : Prop := hugeMulsUptoRow.holds Try.pinned (OpenSpec.upto hugeMulsSpec)

/-- 'sponsionlaw02.HugeSums', WHERE WHAT IT READS IS OF BULK AT MOST 1048576: true; the input reads as it did. -/
def hugeSumsUptoRow : OpenClaim := { program := "ytnpffefebghnbaa", sum := "dc71f31953d1650fbe39797366b82ec5eccfb046a2ee044a7182c6c84d4a0139", func := "sponsion/sponsionlaw02.HugeSums", spec := "hugeSums", inPlace := ["math/bits.Add64"], apart := false, narrowed := true }
def HugeSumsUptoSaid : Prop := hugeSumsUptoRow.holds Try.pinned (OpenSpec.upto hugeSumsSpec)

/-- 'sponsionlaw02.HugeBytes', WHERE WHAT IT READS IS OF BULK AT MOST 1048576: true; the input reads as it did. -/
def hugeBytesUptoRow : OpenClaim := { program := "ytnpffefebghnbaa", sum := "dc71f31953d1650fbe39797366b82ec5eccfb046a2ee044a7182c6c84d4a0139", func := "sponsion/sponsionlaw02.HugeBytes", spec := "hugeBytes", inPlace := ["math/bits.Add64"], apart := false, narrowed := true }
def HugeBytesUptoSaid : Prop := hugeBytesUptoRow.holds Try.pinned (OpenSpec.upto hugeBytesSpec)

/-- 'sponsionlaw02.HugeTexts', WHERE WHAT IT READS IS OF BULK AT MOST 1048576: true; the input reads as it did. -/
def hugeTextsUptoRow : OpenClaim := { program := "ytnpffefebghnbaa", sum := "dc71f31953d1650fbe39797366b82ec5eccfb046a2ee044a7182c6c84d4a0139", func := "sponsion/sponsionlaw02.HugeTexts", spec := "hugeTexts", inPlace := ["math/bits.Add64"], apart := false, narrowed := true }
def HugeTextsUptoSaid : Prop := hugeTextsUptoRow.holds Try.pinned (OpenSpec.upto hugeTextsSpec)

/-- 'sponsionlaw02.HugeLows', WHERE WHAT IT READS IS OF BULK AT MOST 1048576: true; the input reads as it did. -/
def hugeLowsUptoRow : OpenClaim := { program := "ytnpffefebghnbaa", sum := "dc71f31953d1650fbe39797366b82ec5eccfb046a2ee044a7182c6c84d4a0139", func := "sponsion/sponsionlaw02.HugeLows", spec := "hugeLows", inPlace := ["math/bits.Add64"], apart := false, narrowed := true }
def HugeLowsUptoSaid : Prop := hugeLowsUptoRow.holds Try.pinned (OpenSpec.upto hugeLowsSpec)

end Rows
end Go.Proofs.Ytnpffefebghnbaa
