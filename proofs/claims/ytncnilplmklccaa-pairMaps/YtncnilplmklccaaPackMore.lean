/- A writer that is new; bytes as a string; rows of bytes of a call's own: empty, read and written at a place. -/
import Derived.Test.YtncnilplmklccaaPackWriter
namespace Go.Proofs.Ytncnilplmklccaa
open Go.RowKit Go.Lib

theorem Wtr.new (w : World) (t : TypeId) : Wtr (w.alloc (.cells #[.slice none 0 0] t)) w.heap.size none 0 [] :=
  ⟨by simp, by simp [go_sem], fun o => by simp [go_sem], World.ownsRow_nil _ _ _ _⟩
/-- Bytes as a string. -/
theorem At.str {w : World} {ao : Option Addr} {l : List Int} (h : At w ao l) (cap : Nat) : (convert 33 9 (.slice ao l.length cap)).run Try.prog w = .ok (.string (strOfNums l)) w := by
  rcases h with rfl | ⟨b, off, rfl, hl, hc⟩
  · cases ao with
    | none => exact run_convert_bytes_nil w 33 5 Try.underlying33 Try.underlying5 0 cap 9 Try.underlying9
    | some a =>
      rw [run_convert_bytes_string w _ _ 5 _ _ cap Try.underlying33 Try.underlying5 Try.underlying9]
      exact run_bytesToString w a 0 cap [] (run_loadCells_list (P := Try.prog) w a [] (fun j v hv => by simp at hv))
  · exact run_convert_bytes_arg w 33 5 Try.underlying33 Try.underlying5 b off l.length cap l rfl hc 9 Try.underlying9
/-- An empty row of bytes. -/
theorem Bs.empty (w : World) : Bs (w.alloc (.cells #[] 5)) w.heap.size (.slice (some ⟨w.heap.size, 0, none⟩) 0 0) [] :=
  World.ownsRow_lit w #[] 0 (Nat.le_refl _) (by simp [maxLen]) rfl
theorem Bs.set {w : World} {B g oc : Nat} {l : List Int} (h : Bs w B (.slice (some ⟨g, 0, none⟩) l.length oc) l) (j : Nat) (y : Int) : Bs (w.setCell ⟨g, j, none⟩ (.int .u8 y)) B (.slice (some ⟨g, 0, none⟩) (l.set j y).length oc) (l.set j y) := by
  have := (h.stored j (.int .u8 y)).1
  unfold Bs
  rw [List.length_set, show bv (l.set j y) = (bv l).set j (.int .u8 y) by unfold bv; rw [List.map_set]]
  exact this
theorem Bs.some {w : World} {B oc : Nat} {oo : Option Addr} {l : List Int} (h : Bs w B (.slice oo l.length oc) l) (hl : 0 < l.length) : ∃ g, oo = some ⟨g, 0, none⟩ ∧ B ≤ g ∧ (∀ j, j < l.length → w.cell? ⟨g, j, none⟩ = some (.int .u8 (l.getD j 0))) ∧ ∀ j, w.frozen? ⟨g, j, none⟩ = false := by
  rcases h.2 with ⟨e, e2⟩ | ⟨g, cap, cur, e, hb, r⟩
  · omega
  · simp only [Value.slice.injEq, true_and] at e
    obtain ⟨rfl, rfl⟩ := e
    exact ⟨g, rfl, hb, fun j hj => by rw [World.ownsRow.cellAt h j (by omega), bv_get hj], fun j => World.ownsRow.frozenAt h j⟩
theorem Bs.at {w : World} {B oc : Nat} {oo : Option Addr} {l : List Int} (h : Bs w B (.slice oo l.length oc) l) : At w oo l ∧ (oo = none → oc = 0) := by
  obtain ⟨ao', cap', e, _, _, ha⟩ := h.cell
  simp only [Value.slice.injEq, true_and] at e
  obtain ⟨rfl, rfl⟩ := e
  refine ⟨ha, fun e => ?_⟩
  subst e
  rcases h.2 with ⟨e, _⟩ | ⟨g', cap', cur, e, _⟩
  · simp at e; exact e.2
  · simp at e
end Go.Proofs.Ytncnilplmklccaa
