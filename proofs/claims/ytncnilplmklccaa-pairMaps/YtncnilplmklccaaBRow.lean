/- Rows of bytes in memory; plain arithmetic of a number's 32 bytes. -/
import Derived.Test.YtncnilplmklccaaOwn
import Derived.Deep.MidRow
namespace Go.Proofs.Ytncnilplmklccaa
open Go.RowKit Go.Lib

/-- A number's byte, the highest first. -/
def bt (a : Int) (j : Nat) : Int := a / 256 ^ (31 - j) % 256
theorem bt_bd (a : Int) (j : Nat) : 0 ≤ bt a j ∧ bt a j < 256 := by unfold bt; omega
/-- So many bytes, as a program holds them. -/
def rowV (n : Nat) (f : Nat → Int) : List Value := (List.range n).map fun j => .int .u8 (f j)
theorem rowV_length (n : Nat) (f : Nat → Int) : (rowV n f).length = n := by simp [rowV]
theorem rowV_get {n : Nat} {f : Nat → Int} {j : Nat} (h : j < n) : (rowV n f)[j]? = some (.int .u8 (f j)) := by
  simp [rowV, h]
theorem rowV_congr {n : Nat} {f g : Nat → Int} (h : ∀ j, j < n → f j = g j) : rowV n f = rowV n g := by
  unfold rowV
  apply List.map_congr_left
  intro j hj
  rw [h j (List.mem_range.1 hj)]
theorem rowV_one (n : Nat) (f : Nat → Int) : ∀ v ∈ rowV n f, v.oneCell' = true := by
  intro v hv
  obtain ⟨j, _, rfl⟩ := List.mem_map.1 hv
  rfl
/-- Block g of w holds n bytes, and may be written. -/
structure BRow (w : World) (g n : Nat) (f : Nat → Int) : Prop where
  lt : g < w.heap.size
  cell : ∀ j, j < n → w.cell? ⟨g, j, none⟩ = some (.int .u8 (f j))
  fr : ∀ o, w.frozen? ⟨g, o, none⟩ = false
theorem BRow.of {w w' : World} {g n : Nat} {f : Nat → Int} (h : BRow w g n f) (hs : w.heap.size ≤ w'.heap.size) (hb : w'.heap[g]? = w.heap[g]?) : BRow w' g n f :=
  ⟨Nat.lt_of_lt_of_le h.lt hs, fun j hj => (World.cell?_of_block (w := w) (a := ⟨g, j, none⟩) hb).trans (h.cell j hj), fun o => (World.frozen?_of_block (w := w) (a := ⟨g, o, none⟩) hb).trans (h.fr o)⟩
theorem BRow.after {w w1 w' : World} {g n : Nat} {f : Nat → Int} (h : BRow w g n f) (hb : Below w1.heap.size w1 w') (e : w1.heap = w.heap) : BRow w' g n f :=
  h.of (by rw [← e]; exact hb.size) (by rw [hb.block g (by rw [e]; exact h.lt), e])
theorem BRow.past {w : World} {g n : Nat} {f : Nat → Int} (h : BRow w g n f) (o : Obj) : BRow (w.alloc o) g n f := h.of (by simp) (Below.heap_alloc _ _ _ h.lt)
theorem BRow.other {w : World} {g n : Nat} {f : Nat → Int} (h : BRow w g n f) {p : Addr} (hp : g ≠ p.block) (v : Value) : BRow (w.setCell p v) g n f := h.of (by simp [World.setCell]) (Below.heap_setCell _ _ _ _ hp)
theorem BRow.congr {w : World} {g n : Nat} {f f' : Nat → Int} (h : BRow w g n f) (e : ∀ j, j < n → f j = f' j) : BRow w g n f' :=
  ⟨h.lt, fun j hj => by rw [← e j hj]; exact h.cell j hj, h.fr⟩
theorem BRow.new (w : World) (n : Nat) (t : TypeId) {g : Nat} (e : w.heap.size = g) : BRow (w.alloc (.cells (Array.replicate n (.int .u8 0)) t)) g n (fun _ => 0) := by
  subst e
  exact ⟨by simp, fun j hj => by rw [World.cell?_alloc_at _ _ _ _ rfl]; simp [hj], fun o => World.frozen?_alloc_at _ _ _ _ rfl⟩
theorem BRow.set {w : World} {g n : Nat} {f : Nat → Int} (h : BRow w g n f) (m : Nat) (hm : m < n) (v : Int) : BRow (w.setCell ⟨g, m, none⟩ (.int .u8 v)) g n (fun j => if j = m then v else f j) := by
  refine ⟨by simpa [World.setCell] using h.lt, fun j hj => ?_, fun o => by simp [go_sem, h.fr]⟩
  have hc := h.cell j hj
  have hm' := h.cell m hm
  by_cases e : j = m
  · subst e; simp [go_sem, hc]
  · simp [go_sem, hc, e]
theorem BRow.range {w : World} {g n : Nat} {f : Nat → Int} (h : BRow w g n f) : w.rangeAt g 0 (rowV n f) := by
  intro j v hv
  have hj : j < n := by have := (List.getElem?_eq_some_iff.1 hv).1; rwa [rowV_length] at this
  rw [rowV_get hj] at hv
  injection hv with hv
  subst hv
  rw [Nat.zero_add]
  exact h.cell j hj
theorem BRow.there {w : World} {g n : Nat} {f : Nat → Int} (h : BRow w g n f) : w.there g 0 n := by
  intro j hj
  rw [Nat.zero_add]
  exact ⟨by rw [h.cell j hj]; rfl, h.fr j⟩
theorem setCells_size (b : Nat) : ∀ (vs : List Value) (o : Nat) (w : World), (w.setCells b o vs).heap.size = w.heap.size
  | [], _, _ => rfl
  | v :: r, o, w => by rw [World.setCells, setCells_size b r]; simp [World.setCell]
theorem setCells_block (b : Nat) : ∀ (vs : List Value) (o : Nat) (w : World) (k : Nat), k ≠ b → (w.setCells b o vs).heap[k]? = w.heap[k]?
  | [], _, _, _, _ => rfl
  | v :: r, o, w, k, h => by rw [World.setCells, setCells_block b r _ _ k h]; exact Below.heap_setCell _ _ _ _ h
theorem setCells_below {a w : World} (h : Below a.heap.size a w) {b : Nat} (hb : a.heap.size ≤ b) (vs : List Value) : ∀ o, Below a.heap.size a (w.setCells b o vs) := by
  induction vs generalizing w with
  | nil => intro o; exact h
  | cons v r ih => intro o; rw [World.setCells]; exact ih (h.setCell hb _) _
theorem BRow.stored {w : World} {g n : Nat} {f : Nat → Int} (h : BRow w g n f) (f' : Nat → Int) : BRow (w.setCells g 0 (rowV n f')) g n f' := by
  have ht := h.there
  have hr := World.rangeAt_setCells_same w g 0 (rowV n f') (by rw [rowV_length]; exact ht)
  refine ⟨?_, fun j hj => ?_, fun o => ?_⟩
  · rw [setCells_size]; exact h.lt
  · have := hr j _ (rowV_get hj)
    rwa [Nat.zero_add] at this
  · rw [World.frozen?_setCells]; exact h.fr o
theorem BRow.storing {P : Program} {w : World} {g n : Nat} {f : Nat → Int} (h : BRow w g n f) (f' : Nat → Int) : (storeCells ⟨g, 0, none⟩ (rowV n f')).run P w = .ok () (w.setCells g 0 (rowV n f')) := by
  have := run_storeCells_cells (P := P) g 0 (rowV n f') 0 w (fun j hj => (h.there j (by rwa [rowV_length] at hj)).1) (fun j hj => (h.there j (by rwa [rowV_length] at hj)).2) (rowV_one n f')
  rwa [Nat.zero_add] at this
theorem byte_of {a : Int} (ha : In a) {k q : Nat} (hk : k < 32) (hq : k / 8 = q) : lm a q / 2 ^ (k % 8 * 8) % 256 = bt a (31 - k) := by
  unfold In at ha
  subst hq
  unfold bt
  rw [show 31 - (31 - k) = k by omega]
  have h : k = 0 ∨ k = 1 ∨ k = 2 ∨ k = 3 ∨ k = 4 ∨ k = 5 ∨ k = 6 ∨ k = 7 ∨ k = 8 ∨ k = 9 ∨ k = 10 ∨ k = 11 ∨ k = 12 ∨ k = 13 ∨ k = 14 ∨ k = 15 ∨ k = 16 ∨ k = 17 ∨ k = 18 ∨ k = 19 ∨ k = 20 ∨ k = 21 ∨ k = 22 ∨ k = 23 ∨ k = 24 ∨ k = 25 ∨ k = 26 ∨ k = 27 ∨ k = 28 ∨ k = 29 ∨ k = 30 ∨ k = 31 := by omega
  rcases h with rfl | rfl | rfl | rfl | rfl | rfl | rfl | rfl | rfl | rfl | rfl | rfl | rfl | rfl | rfl | rfl | rfl | rfl | rfl | rfl | rfl | rfl | rfl | rfl | rfl | rfl | rfl | rfl | rfl | rfl | rfl | rfl <;> simp only [Nat.reduceDiv, Nat.reduceMod, Nat.reduceMul, Int.reducePow, lm0, lm1, lm2, lm3] <;> omega
end Go.Proofs.Ytncnilplmklccaa
