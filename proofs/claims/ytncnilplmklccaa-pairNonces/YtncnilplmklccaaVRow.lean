/- Cells in memory that a call holds as its own. -/
import Derived.Test.YtncnilplmklccaaPackWriter
namespace Go.Proofs.Ytncnilplmklccaa
open Go.RowKit Go.Lib

/-- Block g of w holds these cells, and may be written. -/
structure VRow (w : World) (g : Nat) (vs : List Value) : Prop where
  lt : g < w.heap.size
  range : w.rangeAt g 0 vs
  fr : ∀ o, w.frozen? ⟨g, o, none⟩ = false
theorem VRow.of {w w' : World} {g : Nat} {vs : List Value} (h : VRow w g vs) (hs : w.heap.size ≤ w'.heap.size) (hb : w'.heap[g]? = w.heap[g]?) : VRow w' g vs :=
  ⟨Nat.lt_of_lt_of_le h.lt hs, fun j v hv => (World.cell?_of_block (w := w) (a := ⟨g, 0 + j, none⟩) hb).trans (h.range j v hv), fun o => (World.frozen?_of_block (w := w) (a := ⟨g, o, none⟩) hb).trans (h.fr o)⟩
theorem VRow.after {w w1 w' : World} {g : Nat} {vs : List Value} (h : VRow w g vs) (hb : Below w1.heap.size w1 w') (e : w1.heap = w.heap) : VRow w' g vs :=
  h.of (by rw [← e]; exact hb.size) (by rw [hb.block g (by rw [e]; exact h.lt), e])
theorem VRow.past {w : World} {g : Nat} {vs : List Value} (h : VRow w g vs) (o : Obj) : VRow (w.alloc o) g vs := h.of (by simp) (Below.heap_alloc _ _ _ h.lt)
theorem VRow.wrote {w w' : World} {g g' : Nat} {vs : List Value} {ao ao' : Option Addr} (h : VRow w g vs) (hb : Wrote g' ao ao' w w') (hne : g ≠ g') (hr : blk ao ≠ some g) : VRow w' g vs :=
  h.of hb.size (hb.block g h.lt hne hr)
theorem VRow.cell {w : World} {g : Nat} {vs : List Value} (h : VRow w g vs) (j : Nat) {v : Value} (hv : vs[j]? = some v) : w.cell? ⟨g, j, none⟩ = some v := by
  have := h.range j v hv; rwa [Nat.zero_add] at this
theorem VRow.box (w : World) (vs : List Value) (t : TypeId) {g : Nat} (e : w.heap.size = g) : VRow (w.alloc (.cells vs.toArray t)) g vs := by
  subst e
  refine ⟨by simp, fun j v hv => ?_, fun o => World.frozen?_alloc_at _ _ _ _ rfl⟩
  rw [World.cell?_alloc_at _ _ _ _ rfl, Nat.zero_add]
  simpa using hv
/-- A box of zero values, and cells stored into it. -/
theorem VRow.made (w : World) (zs : Array Value) (t : TypeId) (vs : List Value) (hl : zs.size = vs.length) : VRow ((w.alloc (.cells zs t)).setCells w.heap.size 0 vs) w.heap.size vs ∧ Below w.heap.size w ((w.alloc (.cells zs t)).setCells w.heap.size 0 vs) := by
  have ht : (w.alloc (.cells zs t)).there w.heap.size 0 vs.length := by
    intro j hj
    rw [Nat.zero_add]
    exact ⟨by rw [World.cell?_alloc_at _ _ _ _ rfl]; simp; omega, World.frozen?_alloc_at _ _ _ _ rfl⟩
  refine ⟨⟨?_, World.rangeAt_setCells_same _ _ _ _ ht, fun o => ?_⟩, setCells_below (bAl (bMe w)) (Nat.le_refl _) _ _⟩
  · rw [setCells_size]; simp
  · rw [World.frozen?_setCells]; exact World.frozen?_alloc_at _ _ _ _ rfl
theorem VRow.there (w : World) (zs : Array Value) (t : TypeId) (n : Nat) (hl : zs.size = n) : (w.alloc (.cells zs t)).there w.heap.size 0 n := by
  subst hl
  intro j hj
  rw [Nat.zero_add]
  exact ⟨by rw [World.cell?_alloc_at _ _ _ _ rfl]; simp [hj], World.frozen?_alloc_at _ _ _ _ rfl⟩

theorem storing_new (w : World) (zs : Array Value) (t : TypeId) (vs : List Value) (hl : zs.size = vs.length) (h1 : ∀ v ∈ vs, v.oneCell' = true) : (storeCells ⟨w.heap.size, 0, none⟩ vs).run Try.prog (w.alloc (.cells zs t)) = .ok () ((w.alloc (.cells zs t)).setCells w.heap.size 0 vs) := by
  have ht := VRow.there w zs t vs.length hl
  have := run_storeCells_cells (P := Try.prog) w.heap.size 0 vs 0 (w.alloc (.cells zs t)) (fun j hj => (ht j hj).1) (fun j hj => (ht j hj).2) h1
  rwa [Nat.zero_add] at this
end Go.Proofs.Ytncnilplmklccaa
