/- Arguments that are slices of bytes or sums, opened. -/
import Derived.Test.YthcahgfoganehaaRows
import Derived.WalkKit
import Derived.ProofKit
import Derived.OpenShut
import Derived.Test.YthcahgfoganehaaPackBase
import Derived.Deep.Slices
namespace Go.Proofs.Ythcahgfoganehaa
open Go.ChangeShapes Go.WideShapes Go.ChangeAt Go.RowKit

theorem laidOutT : laidOutB Try.prog = true := by kernel_rfl
theorem cellsByteT : Try.prog.cellsOf 5 = 1 := by kernel_rfl
/-- A slice of bytes, by its cell. -/
theorem bytes_cell {H : Type} {enc : TypeId × Value → H} {W : World} {sp : Nat → Bool} {held : Bool} {fuel : Nat} {cs : List Value} {y : DataW H × List MemPlace}
    (h : DataW.trod enc Try.prog W 0 sp held fuel 22 cs = some y) :
    ∃ ao cap l, cs = [.slice ao l.length cap] ∧ l.length ≤ cap ∧ cap ≤ maxLen ∧ (ao = none → cap = 0) ∧ At W ao l ∧ Byt l := by
  rcases open_ints Try.underlying22 Try.underlying5 cellsByteT h with ⟨hcs, hx⟩ | ⟨a, len, cap, zs, hcs, _, hle, hmax, hall, hx, hcell, hwf⟩
  · exact ⟨none, 0, [], hcs, Nat.le_refl _, by simp [maxLen], fun _ => rfl, At.nil _ _, fun x hx => by simp at hx⟩
  · have hlen : len ≤ zs.length := by rw [hall]; split <;> omega
    have hl : (zs.take len).length = len := by simp; omega
    refine ⟨some a, cap, zs.take len, by rw [hl]; exact hcs, by rw [hl]; exact hle, hmax, fun e => by simp at e, ?_, fun x hx => ?_⟩
    · by_cases hp : 0 < len
      · obtain ⟨b, off, rfl, hc⟩ := ints_at hcell (by omega)
        refine .inr ⟨b, off, rfl, ?_, fun j hj => ?_⟩
        · exact World.block_lt_of_cell? W _ (hc 0 (by omega))
        · rw [hl] at hj
          rw [hc j (by omega)]
          simp [hj]
      · obtain rfl : len = 0 := by omega
        exact .inl (by simp)
    · have := bounds_u8 (hwf x (List.mem_of_mem_take hx))
      omega
theorem open_bl {H : Type} {enc : TypeId × Value → H} {W : World} {base : Nat} {v : Value} {d : DataW H} {p : List MemPlace}
    (hv : Value.okWide Try.prog W .any base 22 v) (h : DataW.Trod enc Try.prog W 0 (fun _ => true) true 22 v d p) :
    ∃ ao cap l, v = .slice ao l.length cap ∧ l.length ≤ cap ∧ cap ≤ maxLen ∧ (ao = none → cap = 0) ∧ At W ao l ∧ Byt l := by
  obtain ⟨a0, len, cap, rfl⟩ := okWide_slice Try.underlying22 hv
  obtain ⟨fuel, hf⟩ := h
  obtain ⟨ao, cap', l, e, r⟩ := bytes_cell hf
  simp [Value.cells] at e
  obtain ⟨rfl, rfl, rfl⟩ := e
  exact ⟨_, _, l, rfl, r⟩
end Go.Proofs.Ythcahgfoganehaa
