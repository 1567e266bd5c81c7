/- Only one block may have turned. -/
import Derived.Test.YtjkhboejhcbdpaaDoorOwn
namespace Go.Proofs.YtjkhboejhcbdpaaDoor
open Go.RowKit Go.Lib

/-- Only block g may have turned; others may have come. -/
structure Bar (g : Nat) (w w' : World) : Prop where
  os : w'.os = w.os
  tape : w'.tape = w.tape
  output : w'.output = w.output
  size : w.heap.size ≤ w'.heap.size
  block : ∀ k, k < w.heap.size → k ≠ g → w'.heap[k]? = w.heap[k]?
theorem Bar.refl (g : Nat) (w : World) : Bar g w w := ⟨rfl, rfl, rfl, Nat.le_refl _, fun _ _ _ => rfl⟩
theorem Bar.trans {g : Nat} {a b c : World} (h : Bar g a b) (k : Bar g b c) : Bar g a c :=
  ⟨k.os.trans h.os, k.tape.trans h.tape, k.output.trans h.output, Nat.le_trans h.size k.size, fun i hi hne => (k.block i (Nat.lt_of_lt_of_le hi h.size) hne).trans (h.block i hi hne)⟩
theorem Bar.below {g B : Nat} {a w w' : World} (h : Bar g w w') (hb : Below B a w) (h1 : B ≤ g) (h2 : B ≤ w.heap.size) : Below B a w' :=
  hb.trans ⟨h.os, h.tape, h.output, h.size, fun k hk => h.block k (by omega) (by omega)⟩
theorem Bar.of {g : Nat} {w w' : World} (h : Below w.heap.size w w') : Bar g w w' := ⟨h.os, h.tape, h.output, h.size, fun k hk _ => h.block k hk⟩
theorem Bar.on {g : Nat} {a w w' : World} (h : Bar g a w) (k : Below w.heap.size w w') : Bar g a w' := h.trans (Bar.of k)
theorem Bar.set {g : Nat} {a w : World} (h : Bar g a w) (j : Nat) (v : Value) : Bar g a (w.setCell ⟨g, j, none⟩ v) :=
  h.trans ⟨rfl, rfl, rfl, by simp [World.setCell], fun k _ hne => Below.heap_setCell _ _ _ _ hne⟩
theorem Bar.al {g : Nat} {a w : World} (h : Bar g a w) (o : Obj) : Bar g a (w.alloc o) := h.on (bAl (bMe w))
theorem Bar.dn {g : Nat} {a w : World} (h : Bar g a w) (n : Nat) : Bar g a (w.drewN n) := h.on (bDn (bMe w))
theorem Bar.drew {g : Nat} {a w : World} (h : Bar g a w) : Bar g a w.drew := h.on (bMe w).drew

theorem Own.bar {w w1 w' : World} {g g' : Nat} {a b c d : Int} (h : Own w g a b c d) (hb : Bar g' w1 w') (hne : g ≠ g') (e : w1.heap = w.heap) : Own w' g a b c d :=
  h.of (by rw [← e]; exact hb.size) (by rw [hb.block g (by rw [e]; exact h.lt) hne, e])
end Go.Proofs.YtjkhboejhcbdpaaDoor
