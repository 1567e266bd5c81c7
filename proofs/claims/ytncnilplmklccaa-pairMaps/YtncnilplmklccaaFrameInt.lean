/- An argument that is a row of four limbs, opened and shut. -/
import Derived.Test.YtncnilplmklccaaRows
import Derived.WalkKit
import Derived.ProofKit
import Derived.OpenShut
import Derived.Laws.IdiomArrays
namespace Go.Proofs.Ytncnilplmklccaa
open Go.ChangeShapes Go.WideShapes Go.ChangeAt Go.RowKit

theorem cellsInt : Try.prog.cellsOf 55 = 4 := by kernel_rfl
theorem cellsLimb : Try.prog.cellsOf 23 = 1 := by kernel_rfl
theorem four_of (l : List Value) (h : l.length = 4) : ∃ a b c d, l = [a, b, c, d] := by
  match l, h with
  | [a, b, c, d], _ => exact ⟨a, b, c, d, rfl⟩
set_option maxRecDepth 100000 in
theorem open_big {H : Type} {enc : TypeId × Value → H} {W : World} {base : Nat} {sp : Nat → Bool} {held : Bool} {v : Value} {d : DataW H} {p : List MemPlace}
    (hv : Value.okWide Try.prog W .any base 55 v) (h : DataW.Trod enc Try.prog W 0 sp held 55 v d p) :
    ∃ a b c e : Int, v = .agg #[.int .u64 a, .int .u64 b, .int .u64 c, .int .u64 e] ∧ d = DataW.agg [.lit (.int .u64 a), .lit (.int .u64 b), .lit (.int .u64 c), .lit (.int .u64 e)] ∧ p = [] ∧ (Lit.int .u64 a).wf = true ∧ (Lit.int .u64 b).wf = true ∧ (Lit.int .u64 c).wf = true ∧ (Lit.int .u64 e).wf = true := by
  obtain ⟨cs, rfl, hsz, _⟩ : ∃ cs, v = .agg cs ∧ cs.size = Try.prog.cellsOf 55 ∧ Row.okWide Try.prog W .any base 55 cs := by
    simpa [Value.okWide, Try.underlying55] using hv
  rw [cellsInt] at hsz
  obtain ⟨l⟩ := cs
  obtain ⟨c0, c1, c2, c3, rfl⟩ := four_of l hsz
  obtain ⟨fuel, hf⟩ := h
  obtain ⟨y0, y1, y2, y3, m, hx, hy0, hy1, hy2, hy3⟩ := trod_array4 Try.underlying55 cellsLimb hf
  obtain ⟨x0, e0, rfl, w0⟩ := DataW.trod_int Try.underlying23 hy0
  obtain ⟨x1, e1, rfl, w1⟩ := DataW.trod_int Try.underlying23 hy1
  obtain ⟨x2, e2, rfl, w2⟩ := DataW.trod_int Try.underlying23 hy2
  obtain ⟨x3, e3, rfl, w3⟩ := DataW.trod_int Try.underlying23 hy3
  simp at e0 e1 e2 e3
  subst e0 e1 e2 e3
  simp only [Prod.mk.injEq] at hx
  obtain ⟨rfl, rfl⟩ := hx
  exact ⟨x0, x1, x2, x3, rfl, rfl, rfl, w0, w1, w2, w3⟩
theorem shut_big {H : Type} {enc : TypeId × Value → H} {W : World} {base : Nat} {sp : Nat → Bool} {held : Bool} {a b c e : Int}
    (w0 : (Lit.int .u64 a).wf = true) (w1 : (Lit.int .u64 b).wf = true) (w2 : (Lit.int .u64 c).wf = true) (w3 : (Lit.int .u64 e).wf = true) :
    DataW.Trod enc Try.prog W base sp held 55 (.agg #[.int .u64 a, .int .u64 b, .int .u64 c, .int .u64 e]) (DataW.agg [.lit (.int .u64 a), .lit (.int .u64 b), .lit (.int .u64 c), .lit (.int .u64 e)]) [] :=
  ⟨2, by simp [DataW.trod, Value.cells, Try.underlying55, Try.underlying23, cellsInt, cellsLimb, w0, w1, w2, w3, show List.range 4 = [0, 1, 2, 3] from rfl]⟩
end Go.Proofs.Ytncnilplmklccaa
