/- Numbers and truths in memory; a box of numbers. -/
import Derived.Test.YtncnilplmklccaaPrLives
import Derived.Test.YtncnilplmklccaaVRow
namespace Go.Proofs.Ytncnilplmklccaa
set_option linter.unusedSimpArgs false
set_option linter.unusedVariables false
open Go.RowKit Go.Lib

/-- Values, at an address. -/
def Vls (w : World) (ao : Option Addr) (vs : List Value) : Prop :=
  vs = [] ∨ ∃ b off, ao = some ⟨b, off, none⟩ ∧ b < w.heap.size ∧ ∀ (j : Nat) v, vs[j]? = some v → w.cell? ⟨b, off + j, none⟩ = some v
theorem Vls.get {w : World} {ao : Option Addr} {vs : List Value} (h : Vls w ao vs) {j : Nat} {v : Value} (hx : vs[j]? = some v) : ∃ b off, ao = some ⟨b, off, none⟩ ∧ b < w.heap.size ∧ w.cell? ⟨b, off + j, none⟩ = some v := by
  rcases h with rfl | ⟨b, off, e, hl, hc⟩
  · simp at hx
  · exact ⟨b, off, e, hl, hc j v hx⟩
/-- The same, where only what came behind it turned. -/
theorem Vls.got {W w : World} {ao : Option Addr} {vs : List Value} (h : Vls W ao vs) (hb : Below W.heap.size W w) {j : Nat} {v : Value} (hx : vs[j]? = some v) : ∃ b off, ao = some ⟨b, off, none⟩ ∧ b < W.heap.size ∧ w.cell? ⟨b, off + j, none⟩ = some v := by
  obtain ⟨b, off, e, hl, hc⟩ := h.get hx
  exact ⟨b, off, e, hl, ((bcell hb).1 _ _ hl).trans hc⟩
/-- Numbers and truths as values. -/
def uV (N : List Int) : List Value := N.map (fun n => .int .u64 n)
def bV (N : List Int) : List Value := N.map (fun n => .int .u8 n)
def iV (N : List Int) : List Value := N.map (fun n => .int .i64 n)
def tV (B : List Bool) : List Value := B.map Value.bool
theorem uV_get {N : List Int} {j : Nat} {x : Int} (h : N[j]? = some x) : (uV N)[j]? = some (.int .u64 x) := by simp [uV, h]
theorem bV_get {N : List Int} {j : Nat} {x : Int} (h : N[j]? = some x) : (bV N)[j]? = some (.int .u8 x) := by simp [bV, h]
theorem iV_get {N : List Int} {j : Nat} {x : Int} (h : N[j]? = some x) : (iV N)[j]? = some (.int .i64 x) := by simp [iV, h]
theorem tV_get {N : List Bool} {j : Nat} {x : Bool} (h : N[j]? = some x) : (tV N)[j]? = some (.bool x) := by simp [tV, h]
/-- One cell of a box is another. -/
theorem VRow.put {w : World} {g : Nat} {vs : List Value} (h : VRow w g vs) {j : Nat} (hj : j < vs.length) (v : Value) : VRow (w.setCell ⟨g, j, none⟩ v) g (vs.set j v) := by
  refine ⟨by simpa [World.setCell] using h.lt, fun i x hx => ?_, fun o => by simp [go_sem, h.fr]⟩
  have hc := h.cell j (List.getElem?_eq_getElem hj)
  rw [Nat.zero_add]
  rw [List.getElem?_set] at hx
  by_cases e : j = i
  · subst e
    simp [hj] at hx
    subst hx
    simp [go_sem, hc]
  · simp [e] at hx
    have c1 := h.cell i hx
    have e2 : ¬ i = j := fun e2 => e e2.symm
    simp [go_sem, c1, e, e2]
theorem Pr.box {W w : World} {bp n : Nat} {P : List Value} {H : Nat → Nat → Kvs} {N : List Int} {Fr : Nat → Prop} (p : Pr W w bp P n H N Fr) {g : Nat} (hg : Fr g) (hW : W.heap.size ≤ g) {v u : Value} (h0 : w.cell? ⟨g, 0, none⟩ = some u) (hu : ∀ b, u ≠ .pointer (some b)) (o : Nat) : Pr W (w.setCell ⟨g, o, none⟩ v) bp P n H N Fr :=
  p.turn (F := fun k => k = g) (fun k hk => by subst hk; exact ⟨hg, hW⟩) (fun k x hk hx => by subst hk; rw [h0] at hx; cases hx; exact hu) (by simp [World.setCell]) (fun k _ hk => Below.heap_setCell _ _ _ _ hk) (p.be.setCell hW v)
end Go.Proofs.Ytncnilplmklccaa
