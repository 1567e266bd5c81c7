/- Only blocks of S may have turned: how a call that has blocks of its own leaves the others. -/
import Derived.Test.YtncnilplmklccaaHugeBase
namespace Go.Proofs.Ytncnilplmklccaa
open Go.RowKit

/-- Only blocks of S may have turned; others may have come. -/
structure Mv (S S' : Nat → Prop) (w w' : World) : Prop where
  os : w'.os = w.os
  tape : w'.tape = w.tape
  output : w'.output = w.output
  size : w.heap.size ≤ w'.heap.size
  block : ∀ k, k < w.heap.size → ¬ S k → w'.heap[k]? = w.heap[k]?
  own : ∀ k, S' k → S k ∨ w.heap.size ≤ k
theorem Mv.refl (S : Nat → Prop) (w : World) : Mv S S w w := ⟨rfl, rfl, rfl, Nat.le_refl _, fun _ _ _ => rfl, fun _ h => .inl h⟩
theorem Mv.trans {S S' S'' : Nat → Prop} {a b c : World} (h : Mv S S' a b) (k : Mv S' S'' b c) : Mv S S'' a c := by
  refine ⟨k.os.trans h.os, k.tape.trans h.tape, k.output.trans h.output, Nat.le_trans h.size k.size, fun i hi hne => ?_, fun i hi => ?_⟩
  · refine (k.block i (Nat.lt_of_lt_of_le hi h.size) fun e => ?_).trans (h.block i hi hne)
    rcases h.own i e with e | e
    · exact hne e
    · omega
  · rcases k.own i hi with e | e
    · exact h.own i e
    · exact .inr (Nat.le_trans h.size e)
theorem Mv.of {S : Nat → Prop} {w w' : World} (h : Below w.heap.size w w') : Mv S S w w' := ⟨h.os, h.tape, h.output, h.size, fun k hk _ => h.block k hk, fun _ e => .inl e⟩
theorem Mv.on {S S' : Nat → Prop} {a w w' : World} (h : Mv S S' a w) (k : Below w.heap.size w w') : Mv S S' a w' := h.trans (Mv.of k)
theorem Mv.below {S S' : Nat → Prop} {a w w' : World} (h : Mv S S' w w') (hb : Below a.heap.size a w) (hS : ∀ k, S k → a.heap.size ≤ k) : Below a.heap.size a w' :=
  hb.trans ⟨h.os, h.tape, h.output, h.size, fun k hk => h.block k (Nat.lt_of_lt_of_le hk hb.size) fun e => by have := hS k e; omega⟩
/-- What is another's stays. -/
theorem Mv.far {S S' T : Nat → Prop} {w w' : World} (h : Mv S S' w w') (hT : ∀ k, T k → k < w.heap.size) (hd : ∀ k, T k → ¬ S k) : ∀ k, T k → w'.heap[k]? = w.heap[k]? := fun k hk => h.block k (hT k hk) (hd k hk)
theorem Mv.apart {S S' T : Nat → Prop} {w w' : World} (h : Mv S S' w w') (hT : ∀ k, T k → k < w.heap.size) (hd : ∀ k, T k → ¬ S k) : ∀ k, T k → ¬ S' k := fun k hk e => by
  rcases h.own k e with e | e
  · exact hd k hk e
  · have := hT k hk; omega
end Go.Proofs.Ytncnilplmklccaa
