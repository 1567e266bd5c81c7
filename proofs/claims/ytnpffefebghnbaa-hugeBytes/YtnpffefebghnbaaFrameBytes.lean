/- An argument that is a slice of bytes, opened. -/
import Derived.Test.YtnpffefebghnbaaFrameInt
import Derived.Test.YtnpffefebghnbaaHugeBytesLaw
namespace Go.Proofs.Ytnpffefebghnbaa
open Go.ChangeShapes Go.WideShapes Go.ChangeAt Go.RowKit

theorem laidOut : laidOutB Try.prog = true := by kernel_rfl
theorem cellsByte : Try.prog.cellsOf 5 = 1 := by kernel_rfl
theorem zero_byte : (0 : Int) ≤ 0 ∧ (0 : Int) < 256 := by decide
theorem open_bs {H : Type} {enc : TypeId × Value → H} {W : World} {base : Nat} {v : Value} {d : DataW H} {p : List MemPlace}
    (hv : Value.okWide Try.prog W .any base 45 v) (h : DataW.Trod enc Try.prog W 0 (fun _ => true) true 45 v d p) :
    ∃ ao n cap f, v = .slice ao n cap ∧ BSl W ao n cap f ∧ (∀ j, 0 ≤ f j ∧ f j < 256) := by
  have hlt : ∀ x ∈ p, x.block < W.heap.size := DataW.TrodAll.lt (trodAll_mk1 h)
  obtain ⟨a0, len, cap, rfl⟩ := okWide_slice Try.underlying45 hv
  obtain ⟨fuel, hf⟩ := h
  rcases open_ints Try.underlying45 Try.underlying5 cellsByte hf with ⟨hcs, hx⟩ | ⟨a, len', cap', zs, hcs, _, hle, hmax, hall, hx, hcell, hwf⟩
  · simp [Value.cells] at hcs
    obtain ⟨rfl, rfl, rfl⟩ := hcs
    exact ⟨none, 0, 0, fun _ => 0, rfl, ⟨Nat.le_refl _, fun h => absurd h (by omega)⟩, fun _ => zero_byte⟩
  · simp [Value.cells] at hcs
    obtain ⟨rfl, rfl, rfl⟩ := hcs
    simp only [if_true] at hall
    simp only [Prod.mk.injEq] at hx
    obtain ⟨rfl, rfl⟩ := hx
    refine ⟨_, _, _, fun j => zs.getD j 0, rfl, ⟨hle, fun hn => ?_⟩, fun j => ?_⟩
    · obtain ⟨b, off, rfl, hc⟩ := ints_at hcell (by omega)
      refine ⟨b, off, rfl, ?_, fun j hj => hc j (by omega)⟩
      have := hlt (.cell b off) (by
        have : 0 < zs.length := by omega
        simp only [MemPlace.row]
        exact List.mem_map.2 ⟨0, List.mem_range.2 this, by simp⟩)
      exact this
    · have := range_u8 hwf j
      show 0 ≤ zs.getD j 0 ∧ zs.getD j 0 < 256
      rw [List.getD_eq_getElem?_getD]
      omega
end Go.Proofs.Ytnpffefebghnbaa
