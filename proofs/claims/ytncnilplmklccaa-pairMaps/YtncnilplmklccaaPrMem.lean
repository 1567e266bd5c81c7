/- Cells in memory that a call holds as its own. Numbers and truths in memory; a box of numbers. -/
import Derived.Test.YtncnilplmklccaaPackWriter
import Derived.Test.YtncnilplmklccaaPrLives
/- Cells in memory that a call holds as its own. -/
namespace Go.Proofs.Ytncnilplmklccaa
open Go.RowKit Go.Lib

/-- Block g of w holds these cells, and may be written. -/
structure VRow (w : World) (g : Nat) (vs : List Value) : Prop where
  lt : g < w.heap.size
  range : w.rangeAt g 0 vs
  fr : ∀ o, w.frozen? ⟨g, o, none⟩ = false
theorem VRow.of {w w' : World} {g : Nat} {vs : List Value} (h : VRow w g vs) (hs : w.heap.size ≤ w'.heap.size) (hb : w'.heap[g]? = w.heap[g]?) : VRow w' g vs :=
  ⟨Nat.lt_of_lt_of_le h.lt hs, fun j v hv => (World.cell?_of_block (w := w) (a := ⟨g, 0 + j, none⟩) hb).trans (h.range j v hv), fun o => (World.frozen?_of_block (w := w) (a := ⟨g, o, none⟩) hb).trans (h.fr o)⟩
theorem VRow.after {w w1 w' : World} {g : Nat} {vs : List Value} (h : VRow w g vs) (hb : Below w1.heap.size w1 w') (e : w1.heap = w.heap) : VRow w' g vs :=
  h.of (by rw [← e]; exact hb.size) (by rw [hb.block g (by rw [e]; exact h.lt), e])
theorem VRow.past {w : World} {g : Nat} {vs : List Value} (h : VRow w g vs) (o : Obj) : VRow (w.alloc o) g vs := h.of (by simp) (Below.heap_alloc _ _ _ h.lt)
theorem VRow.wrote {w w' : World} {g g' : Nat} {vs : List Value} {ao ao' : Option Addr} (h : VRow w g vs) (hb : Wrote g' ao ao' w w') (hne : g ≠ g') (hr : blk ao ≠ some g) : VRow w' g vs :=
  h.of hb.size (hb.block g h.lt hne hr)
theorem VRow.cell {w : World} {g : Nat} {vs : List Value} (h : VRow w g vs) (j : Nat) {v : Value} (hv : vs[j]? = some v) : w.cell? ⟨g, j, none⟩ = some v := by
  have := h.range j v hv; rwa [Nat.zero_add] at this
theorem VRow.box (w : World) (vs : List Value) (t : TypeId) {g : Nat} (e : w.heap.size = g) : VRow (w.alloc (.cells vs.toArray t)) g vs := by
  subst e
  refine ⟨by simp, fun j v hv => ?_, fun o => World.frozen?_alloc_at _ _ _ _ rfl⟩
  rw [World.cell?_alloc_at _ _ _ _ rfl, Nat.zero_add]
  simpa using hv
/-- A box of zero values, and cells stored into it. -/
theorem VRow.made (w : World) (zs : Array Value) (t : TypeId) (vs : List Value) (hl : zs.size = vs.length) : VRow ((w.alloc (.cells zs t)).setCells w.heap.size 0 vs) w.heap.size vs ∧ Below w.heap.size w ((w.alloc (.cells zs t)).setCells w.heap.size 0 vs) := by
  have ht : (w.alloc (.cells zs t)).there w.heap.size 0 vs.length := by
    intro j hj
    rw [Nat.zero_add]
    exact ⟨by rw [World.cell?_alloc_at _ _ _ _ rfl]; simp; omega, World.frozen?_alloc_at _ _ _ _ rfl⟩
  refine ⟨⟨?_, World.rangeAt_setCells_same _ _ _ _ ht, fun o => ?_⟩, setCells_below (bAl (bMe w)) (Nat.le_refl _) _ _⟩
  · rw [setCells_size]; simp
  · rw [World.frozen?_setCells]; exact World.frozen?_alloc_at _ _ _ _ rfl
theorem VRow.there (w : World) (zs : Array Value) (t : TypeId) (n : Nat) (hl : zs.size = n) : (w.alloc (.cells zs t)).there w.heap.size 0 n := by
  subst hl
  intro j hj
  rw [Nat.zero_add]
  exact ⟨by rw [World.cell?_alloc_at _ _ _ _ rfl]; simp [hj], World.frozen?_alloc_at _ _ _ _ rfl⟩

theorem storing_new (w : World) (zs : Array Value) (t : TypeId) (vs : List Value) (hl : zs.size = vs.length) (h1 : ∀ v ∈ vs, v.oneCell' = true) : (storeCells ⟨w.heap.size, 0, none⟩ vs).run Try.prog (w.alloc (.cells zs t)) = .ok () ((w.alloc (.cells zs t)).setCells w.heap.size 0 vs) := by
  have ht := VRow.there w zs t vs.length hl
  have := run_storeCells_cells (P := Try.prog) w.heap.size 0 vs 0 (w.alloc (.cells zs t)) (fun j hj => (ht j hj).1) (fun j hj => (ht j hj).2) h1
  rwa [Nat.zero_add] at this
end Go.Proofs.Ytncnilplmklccaa

/- Numbers and truths in memory; a box of numbers. -/
namespace Go.Proofs.Ytncnilplmklccaa
set_option linter.unusedSimpArgs false
set_option linter.unusedVariables false
open Go.RowKit Go.Lib

/-- Values, at an address. -/
def Vls (w : World) (ao : Option Addr) (vs : List Value) : Prop :=
  vs = [] ∨ ∃ b off, ao = some ⟨b, off, none⟩ ∧ b < w.heap.size ∧ ∀ (j : Nat) v, vs[j]? = some v → w.cell? ⟨b, off + j, none⟩ = some v
theorem Vls.get {w : World} {ao : Option Addr} {vs : List Value} (h : Vls w ao vs) {j : Nat} {v : Value} (hx : vs[j]? = some v) : ∃ b off, ao = some ⟨b, off, none⟩ ∧ b < w.heap.size ∧ w.cell? ⟨b, off + j, none⟩ = some v := by
  rcases h with rfl | ⟨b, off, e, hl, hc⟩
  · simp at hx
  · exact ⟨b, off, e, hl, hc j v hx⟩
/-- The same, where only what came behind it turned. -/
theorem Vls.got {W w : World} {ao : Option Addr} {vs : List Value} (h : Vls W ao vs) (hb : Below W.heap.size W w) {j : Nat} {v : Value} (hx : vs[j]? = some v) : ∃ b off, ao = some ⟨b, off, none⟩ ∧ b < W.heap.size ∧ w.cell? ⟨b, off + j, none⟩ = some v := by
  obtain ⟨b, off, e, hl, hc⟩ := h.get hx
  exact ⟨b, off, e, hl, ((bcell hb).1 _ _ hl).trans hc⟩
/-- Numbers and truths as values. -/
def uV (N : List Int) : List Value := N.map (fun n => .int .u64 n)
def bV (N : List Int) : List Value := N.map (fun n => .int .u8 n)
def iV (N : List Int) : List Value := N.map (fun n => .int .i64 n)
def tV (B : List Bool) : List Value := B.map Value.bool
theorem uV_get {N : List Int} {j : Nat} {x : Int} (h : N[j]? = some x) : (uV N)[j]? = some (.int .u64 x) := by simp [uV, h]
theorem bV_get {N : List Int} {j : Nat} {x : Int} (h : N[j]? = some x) : (bV N)[j]? = some (.int .u8 x) := by simp [bV, h]
theorem iV_get {N : List Int} {j : Nat} {x : Int} (h : N[j]? = some x) : (iV N)[j]? = some (.int .i64 x) := by simp [iV, h]
theorem tV_get {N : List Bool} {j : Nat} {x : Bool} (h : N[j]? = some x) : (tV N)[j]? = some (.bool x) := by simp [tV, h]
/-- One cell of a box is another. -/
theorem VRow.put {w : World} {g : Nat} {vs : List Value} (h : VRow w g vs) {j : Nat} (hj : j < vs.length) (v : Value) : VRow (w.setCell ⟨g, j, none⟩ v) g (vs.set j v) := by
  refine ⟨by simpa [World.setCell] using h.lt, fun i x hx => ?_, fun o => by simp [go_sem, h.fr]⟩
  have hc := h.cell j (List.getElem?_eq_getElem hj)
  rw [Nat.zero_add]
  rw [List.getElem?_set] at hx
  by_cases e : j = i
  · subst e
    simp [hj] at hx
    subst hx
    simp [go_sem, hc]
  · simp [e] at hx
    have c1 := h.cell i hx
    have e2 : ¬ i = j := fun e2 => e e2.symm
    simp [go_sem, c1, e, e2]
theorem Pr.box {W w : World} {bp n : Nat} {P : List Value} {H : Nat → Nat → Kvs} {N : List Int} {Fr : Nat → Prop} (p : Pr W w bp P n H N Fr) {g : Nat} (hg : Fr g) (hW : W.heap.size ≤ g) {v u : Value} (h0 : w.cell? ⟨g, 0, none⟩ = some u) (hu : ∀ b, u ≠ .pointer (some b)) (o : Nat) : Pr W (w.setCell ⟨g, o, none⟩ v) bp P n H N Fr :=
  p.turn (F := fun k => k = g) (fun k hk => by subst hk; exact ⟨hg, hW⟩) (fun k x hk hx => by subst hk; rw [h0] at hx; cases hx; exact hu) (by simp [World.setCell]) (fun k _ hk => Below.heap_setCell _ _ _ _ hk) (p.be.setCell hW v)
end Go.Proofs.Ytncnilplmklccaa
