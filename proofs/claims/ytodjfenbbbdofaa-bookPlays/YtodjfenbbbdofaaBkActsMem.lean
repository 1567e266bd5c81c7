/- Acts in memory (sponsionlaw13.Act). -/
import Derived.Test.YtodjfenbbbdofaaBkLaw
namespace Go.Proofs.Ytodjfenbbbdofaa
set_option linter.unusedSimpArgs false
set_option linter.unusedVariables false
open Go.RowKit Go.Lib

/-- An act. -/
structure Ac where
  k : Int
  t : Int
  f : Int
  o : Int
  n : Int
structure Ac.Ok (x : Ac) : Prop where
  k : 0 ≤ x.k ∧ x.k < 256
  t : 0 ≤ x.t ∧ x.t < 256
  f : 0 ≤ x.f ∧ x.f < 256
  o : 0 ≤ x.o ∧ x.o < 256
  n : In x.n
/-- Acts, at an address. -/
def Acs (w : World) (ao : Option Addr) (xs : List Ac) : Prop :=
  xs = [] ∨ ∃ b off, ao = some ⟨b, off, none⟩ ∧ b < w.heap.size ∧ ∀ (j : Nat) x, xs[j]? = some x → w.cell? ⟨b, off + j * 8, none⟩ = some (.int .u8 x.k) ∧ w.cell? ⟨b, off + j * 8 + 1, none⟩ = some (.int .u8 x.t) ∧ w.cell? ⟨b, off + j * 8 + 2, none⟩ = some (.int .u8 x.f) ∧ w.cell? ⟨b, off + j * 8 + 3, none⟩ = some (.int .u8 x.o) ∧ w.cell? ⟨b, off + j * 8 + 4, none⟩ = some (.int .u64 (lm x.n 0)) ∧ w.cell? ⟨b, off + j * 8 + 5, none⟩ = some (.int .u64 (lm x.n 1)) ∧ w.cell? ⟨b, off + j * 8 + 6, none⟩ = some (.int .u64 (lm x.n 2)) ∧ w.cell? ⟨b, off + j * 8 + 7, none⟩ = some (.int .u64 (lm x.n 3))
theorem Acs.get {w : World} {ao : Option Addr} {xs : List Ac} (h : Acs w ao xs) {j : Nat} {x : Ac} (hx : xs[j]? = some x) :
    ∃ b off, ao = some ⟨b, off, none⟩ ∧ b < w.heap.size ∧ w.cell? ⟨b, off + j * 8, none⟩ = some (.int .u8 x.k) ∧ w.cell? ⟨b, off + j * 8 + 1, none⟩ = some (.int .u8 x.t) ∧ w.cell? ⟨b, off + j * 8 + 2, none⟩ = some (.int .u8 x.f) ∧ w.cell? ⟨b, off + j * 8 + 3, none⟩ = some (.int .u8 x.o) ∧ w.cell? ⟨b, off + j * 8 + 4, none⟩ = some (.int .u64 (lm x.n 0)) ∧ w.cell? ⟨b, off + j * 8 + 5, none⟩ = some (.int .u64 (lm x.n 1)) ∧ w.cell? ⟨b, off + j * 8 + 6, none⟩ = some (.int .u64 (lm x.n 2)) ∧ w.cell? ⟨b, off + j * 8 + 7, none⟩ = some (.int .u64 (lm x.n 3)) := by
  rcases h with rfl | ⟨b, off, e, hl, hc⟩
  · simp at hx
  · exact ⟨b, off, e, hl, hc j x hx⟩
/-- The same, where only what came behind it turned. -/
theorem Acs.got {W w : World} {ao : Option Addr} {xs : List Ac} (h : Acs W ao xs) (hb : Below W.heap.size W w) {j : Nat} {x : Ac} (hx : xs[j]? = some x) :
    ∃ b off, ao = some ⟨b, off, none⟩ ∧ w.cell? ⟨b, off + j * 8, none⟩ = some (.int .u8 x.k) ∧ w.cell? ⟨b, off + j * 8 + 1, none⟩ = some (.int .u8 x.t) ∧ w.cell? ⟨b, off + j * 8 + 2, none⟩ = some (.int .u8 x.f) ∧ w.cell? ⟨b, off + j * 8 + 3, none⟩ = some (.int .u8 x.o) ∧ w.cell? ⟨b, off + j * 8 + 4, none⟩ = some (.int .u64 (lm x.n 0)) ∧ w.cell? ⟨b, off + j * 8 + 5, none⟩ = some (.int .u64 (lm x.n 1)) ∧ w.cell? ⟨b, off + j * 8 + 6, none⟩ = some (.int .u64 (lm x.n 2)) ∧ w.cell? ⟨b, off + j * 8 + 7, none⟩ = some (.int .u64 (lm x.n 3)) := by
  obtain ⟨b, off, e, hl, hc⟩ := h.get hx
  have q := (bcell hb).1
  refine ⟨b, off, e, ?_⟩
  rw [q _ _ hl, q _ _ hl, q _ _ hl, q _ _ hl, q _ _ hl, q _ _ hl, q _ _ hl, q _ _ hl]
  exact hc
end Go.Proofs.Ytodjfenbbbdofaa
