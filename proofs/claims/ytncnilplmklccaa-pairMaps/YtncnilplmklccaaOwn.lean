/- Rows of four limbs in memory that a call holds as its own. -/
import Derived.Test.YtncnilplmklccaaHugeBase
namespace Go.Proofs.Ytncnilplmklccaa
open Go.RowKit Go.Lib

/-- Block g of w holds four limbs, and may be written. -/
structure Own (w : World) (g : Nat) (a b c d : Int) : Prop where
  lt : g < w.heap.size
  c0 : w.cell? ⟨g, 0, none⟩ = some (.int .u64 a)
  c1 : w.cell? ⟨g, 1, none⟩ = some (.int .u64 b)
  c2 : w.cell? ⟨g, 2, none⟩ = some (.int .u64 c)
  c3 : w.cell? ⟨g, 3, none⟩ = some (.int .u64 d)
  fr : ∀ o, w.frozen? ⟨g, o, none⟩ = false
theorem Own.of {w w' : World} {g : Nat} {a b c d : Int} (h : Own w g a b c d) (hs : w.heap.size ≤ w'.heap.size) (hb : w'.heap[g]? = w.heap[g]?) : Own w' g a b c d :=
  ⟨Nat.lt_of_lt_of_le h.lt hs, (World.cell?_of_block (w := w) (a := ⟨g, 0, none⟩) hb).trans h.c0, (World.cell?_of_block (w := w) (a := ⟨g, 1, none⟩) hb).trans h.c1, (World.cell?_of_block (w := w) (a := ⟨g, 2, none⟩) hb).trans h.c2, (World.cell?_of_block (w := w) (a := ⟨g, 3, none⟩) hb).trans h.c3, fun o => (World.frozen?_of_block (w := w) (a := ⟨g, o, none⟩) hb).trans (h.fr o)⟩
theorem Own.after {w w1 w' : World} {g : Nat} {a b c d : Int} (h : Own w g a b c d) (hb : Below w1.heap.size w1 w') (e : w1.heap = w.heap) : Own w' g a b c d :=
  h.of (by rw [← e]; exact hb.size) (by rw [hb.block g (by rw [e]; exact h.lt), e])
theorem Own.past {w : World} {g : Nat} {a b c d : Int} (h : Own w g a b c d) (o : Obj) : Own (w.alloc o) g a b c d := h.of (by simp) (Below.heap_alloc _ _ _ h.lt)
theorem Own.set {w : World} {g : Nat} {a b c d : Int} (h : Own w g a b c d) {p : Addr} (hp : g ≠ p.block) (v : Value) : Own (w.setCell p v) g a b c d := h.of (by simp [World.setCell]) (Below.heap_setCell _ _ _ _ hp)
theorem Own.dn {w : World} {g : Nat} {a b c d : Int} (h : Own w g a b c d) (n : Nat) : Own (w.drewN n) g a b c d := h.of (Nat.le_refl _) rfl
theorem Own.new (w : World) (a b c d : Int) (t : TypeId) : Own (w.alloc (.cells #[.int .u64 a, .int .u64 b, .int .u64 c, .int .u64 d] t)) w.heap.size a b c d :=
  ⟨by simp, by simp [go_sem], by simp [go_sem], by simp [go_sem], by simp [go_sem], fun o => by simp [go_sem]⟩
theorem Own.new' (w : World) {g : Nat} (a b c d : Int) (t : TypeId) (e : w.heap.size = g) : Own (w.alloc (.cells #[.int .u64 a, .int .u64 b, .int .u64 c, .int .u64 d] t)) g a b c d := by
  subst e; exact Own.new w a b c d t
/-- Four limbs are stored. -/
abbrev put4 (w : World) (g : Nat) (a b c d : Int) : World := (((w.setCell ⟨g, 0, none⟩ (.int .u64 a)).setCell ⟨g, 1, none⟩ (.int .u64 b)).setCell ⟨g, 2, none⟩ (.int .u64 c)).setCell ⟨g, 3, none⟩ (.int .u64 d)
theorem Own.put {w : World} {g : Nat} {a b c d : Int} (h : Own w g a b c d) (a' b' c' d' : Int) : Own (put4 w g a' b' c' d') g a' b' c' d' := by
  obtain ⟨lt, c0, c1, c2, c3, fr⟩ := h
  exact ⟨by simpa [World.setCell] using lt, by simp [go_sem, c0], by simp [go_sem, c1], by simp [go_sem, c2], by simp [go_sem, c3], fun o => by simp [go_sem, fr]⟩
theorem Own.other {w : World} {g g' : Nat} {a b c d a' b' c' d' : Int} (h : Own w g a b c d) (hne : g ≠ g') : Own (put4 w g' a' b' c' d') g a b c d :=
  (((h.set hne _).set hne _).set hne _).set hne _
theorem put_below {a w : World} {g : Nat} {x y z u : Int} (h : Below a.heap.size a w) (hg : a.heap.size ≤ g) : Below a.heap.size a (put4 w g x y z u) :=
  (((h.setCell hg _).setCell hg _).setCell hg _).setCell hg _
end Go.Proofs.Ytncnilplmklccaa
