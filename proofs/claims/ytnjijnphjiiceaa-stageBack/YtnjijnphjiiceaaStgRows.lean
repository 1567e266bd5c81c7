/- Rows of numbers and of pairs: what stays, and what is where. -/
import Derived.Test.YtnjijnphjiiceaaStgRef2
namespace Go.Proofs.Ytnjijnphjiiceaa
set_option linter.unusedSimpArgs false
set_option linter.unusedVariables false
set_option linter.unusedSectionVars false
open Go.RowKit Go.Lib

theorem NRow.form {w : World} {base : Nat} {v : Value} {l : List Int} (h : NRow w base v l) : ∃ ao cap, v = .slice ao l.length cap := by
  rcases h.2 with ⟨e, h0⟩ | ⟨g, cap, cur, e, _⟩
  · exact ⟨none, 0, by rw [e, h0]⟩
  · exact ⟨_, cap, e⟩
theorem NRow.of {w w' : World} {base : Nat} {v : Value} {l : List Int} (h : NRow w base v l) (hb : ∀ k, v.ownBlock = some k → w'.heap[k]? = w.heap[k]?) : NRow w' base v l := by
  refine ⟨h.1, ?_⟩
  rcases h.2 with hn | ⟨g, cap, cur, rfl, hB, hg, r⟩
  · exact .inl hn
  · exact .inr ⟨g, cap, cur, rfl, hB, by rw [hb g rfl]; exact hg, r⟩
theorem NRow.below {w w' : World} {base : Nat} {v : Value} {l : List Int} (h : NRow w base v l) (hb : Below w.heap.size w w') : NRow w' base v l := h.of fun k hk => hb.block k (World.ownsRow.lt h k hk).2
/-- One number, where it lies. -/
theorem NRow.get {w : World} {base : Nat} {ao : Option Addr} {n cap : Nat} {l : List Int} (h : NRow w base (.slice ao n cap) l) {j : Nat} {x : Int} (hx : l[j]? = some x) :
    ∃ g, ao = some ⟨g, 0, none⟩ ∧ g < w.heap.size ∧ w.cell? ⟨g, j, none⟩ = some (.int .i64 x) := by
  have hj : j < l.length := (List.getElem?_eq_some_iff.1 hx).1
  have hr := h
  rcases h.2 with ⟨e, h0⟩ | ⟨g, cap', cur, e, _, hg, _⟩
  · omega
  · simp only [Value.slice.injEq] at e
    obtain ⟨rfl, rfl, rfl⟩ := e
    refine ⟨g, rfl, (Array.getElem?_eq_some_iff.1 hg).1, ?_⟩
    rw [World.ownsRow.cellAt hr _ (by omega), List.getElem?_map, hx]
    rfl
theorem bDr {b : Nat} {w w' : World} (h : Below b w w') (n : Nat) : Below b w (w'.drewN n) := ⟨h.os, h.tape, h.output, h.size, h.block⟩
/-- The front of a row. -/
theorem PRow.cut {w : World} {b : Nat} {ao : Option Addr} {cap : Nat} {L : Kvs} (h : PRow w b (.slice ao L.length cap) L) (k : Nat) : PRow w b (.slice ao (L.take k).length cap) (L.take k) := by
  refine ⟨eC_length _, ?_⟩
  rcases h.2 with ⟨e, h0⟩ | ⟨g, cap', cur, e, hB, hg, hc, hm, hs, hx⟩
  · obtain rfl : L = [] := List.length_eq_zero_iff.1 h0
    exact .inl ⟨by simpa using e, by simp⟩
  · simp only [Value.slice.injEq, true_and] at e
    obtain ⟨rfl, rfl⟩ := e
    have hl : (L.take k).length ≤ L.length := by rw [List.length_take]; omega
    refine .inr ⟨g, cap, cur, rfl, hB, hg, Nat.le_trans hl hc, hm, hs, ?_⟩
    have h2 := congrArg (List.take ((L.take k).length * 2)) hx
    rw [List.take_take, Nat.min_eq_left (by omega), eC_take] at h2
    rw [h2, List.length_take, ← List.take_take, List.take_length]
theorem chain2 {a b c : World} (h : Below a.drew.heap.size a.drew b) (k : Below b.heap.size b c) : Below a.heap.size a c := by
  have h' : Below a.heap.size a b := ⟨h.os, h.tape, h.output, h.size, h.block⟩
  exact h'.trans (k.mono h'.size)
end Go.Proofs.Ytnjijnphjiiceaa
