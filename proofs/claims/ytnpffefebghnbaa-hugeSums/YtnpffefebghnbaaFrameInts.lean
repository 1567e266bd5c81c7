/- An argument that is a slice of numbers, opened. -/
import Derived.Test.YtnpffefebghnbaaFrameInt
import Derived.Test.YtnpffefebghnbaaHugeSumsLaw
import Derived.Deep.Slices
namespace Go.Proofs.Ytnpffefebghnbaa
open Go.ChangeShapes Go.WideShapes Go.ChangeAt Go.RowKit

theorem laidOutI : laidOutB Try.prog = true := by kernel_rfl
/-- Four cells of a slice are a number's. -/
theorem four_cells {H : Type} {enc : TypeId × Value → H} {W : World} {sp : Nat → Bool} {held : Bool} {a : Addr} {fuel : Nat} {cs : List Value} {y : DataW H × List MemPlace}
    (h : W.cells? 0 a 4 = some cs) (ht : DataW.trod enc Try.prog W 0 sp held fuel 24 cs = some y) :
    ∃ x, In x ∧ a.spot = none ∧ W.cell? ⟨a.block, a.off, none⟩ = some (.int .u64 (lm x 0)) ∧ W.cell? ⟨a.block, a.off + 1, none⟩ = some (.int .u64 (lm x 1)) ∧ W.cell? ⟨a.block, a.off + 2, none⟩ = some (.int .u64 (lm x 2)) ∧ W.cell? ⟨a.block, a.off + 3, none⟩ = some (.int .u64 (lm x 3)) := by
  unfold World.cells? at h
  rw [if_pos (Nat.zero_le _)] at h
  have hlen : cs.length = 4 := by rw [mapM_some_length h]; simp
  obtain ⟨c0, c1, c2, c3, rfl⟩ := four_of cs hlen
  have g : ∀ i, i < 4 → W.cell? (a.add i) = [c0, c1, c2, c3][i]? := fun i hi => mapM_some_get h i i (by simp [hi])
  have g0 : W.cell? (a.add 0) = some c0 := g 0 (by omega)
  have g1 : W.cell? (a.add 1) = some c1 := g 1 (by omega)
  have g2 : W.cell? (a.add 2) = some c2 := g 2 (by omega)
  have g3 : W.cell? (a.add 3) = some c3 := g 3 (by omega)
  obtain ⟨b, off, spot⟩ := a
  have hspot : spot = none := by simpa [Addr.add] using World.cell?_spot g0
  subst hspot
  rw [Addr.add_mid] at g0 g1 g2 g3
  obtain ⟨y0, y1, y2, y3, m, hx, hy0, hy1, hy2, hy3⟩ := trod_array4 Try.underlying24 cellsLimb ht
  obtain ⟨x0, e0, rfl, w0⟩ := DataW.trod_int Try.underlying22 hy0
  obtain ⟨x1, e1, rfl, w1⟩ := DataW.trod_int Try.underlying22 hy1
  obtain ⟨x2, e2, rfl, w2⟩ := DataW.trod_int Try.underlying22 hy2
  obtain ⟨x3, e3, rfl, w3⟩ := DataW.trod_int Try.underlying22 hy3
  simp at e0 e1 e2 e3
  subst e0 e1 e2 e3
  obtain ⟨l0, l1, l2, l3⟩ := lm_four (lim_of w0) (lim_of w1) (lim_of w2) (lim_of w3)
  exact ⟨four x0 x1 x2 x3, in_four w0 w1 w2 w3, rfl, by rw [l0]; exact g0, by rw [l1]; exact g1, by rw [l2]; exact g2, by rw [l3]; exact g3⟩
theorem open_is {H : Type} {enc : TypeId × Value → H} {W : World} {base : Nat} {v : Value} {d : DataW H} {p : List MemPlace}
    (hv : Value.okWide Try.prog W .any base 42 v) (h : DataW.Trod enc Try.prog W 0 (fun _ => true) true 42 v d p) :
    ∃ ao n cap f, v = .slice ao n cap ∧ (n ≤ 30 → ISl W ao n cap f) ∧ (∀ i, In (f i)) := by
  obtain ⟨a0, len, cap, rfl⟩ := okWide_slice Try.underlying42 hv
  obtain ⟨fuel, hf⟩ := h
  rcases Go.Deep.open_slice Try.underlying42 hf with ⟨hcs, hx⟩ | ⟨a, len', cap', m, n, D, Pl, hcs, _, hle, hmax, hm, hx, hel⟩
  · simp [Value.cells] at hcs
    obtain ⟨rfl, rfl, rfl⟩ := hcs
    exact ⟨none, 0, 0, fun _ => 0, rfl, fun _ => ⟨Nat.le_refl _, by omega, fun h => absurd h (by omega)⟩, fun _ => In.zero⟩
  · simp [Value.cells] at hcs
    obtain ⟨rfl, rfl, rfl⟩ := hcs
    simp only [if_true] at hm
    subst hm
    rw [cellsInt] at hel
    obtain ⟨f, hF⟩ := Go.Deep.choose_lt (α := Int) (p := fun i x => In x ∧ (a.add (i * 4)).spot = none ∧ W.cell? ⟨(a.add (i * 4)).block, (a.add (i * 4)).off, none⟩ = some (.int .u64 (lm x 0)) ∧ W.cell? ⟨(a.add (i * 4)).block, (a.add (i * 4)).off + 1, none⟩ = some (.int .u64 (lm x 1)) ∧ W.cell? ⟨(a.add (i * 4)).block, (a.add (i * 4)).off + 2, none⟩ = some (.int .u64 (lm x 2)) ∧ W.cell? ⟨(a.add (i * 4)).block, (a.add (i * 4)).off + 3, none⟩ = some (.int .u64 (lm x 3))) (fun i hi => by
      obtain ⟨cs', h1, h2⟩ := hel i hi
      exact four_cells h1 h2)
    refine ⟨_, _, _, fun i => if i < m then f i else 0, rfl, fun hn => ⟨hle, by omega, fun hp => ?_⟩, fun i => ?_⟩
    · obtain ⟨b, off, spot⟩ := a
      have h0 := hF 0 (by omega)
      have hspot : spot = none := by simpa [Addr.add] using h0.2.1
      subst hspot
      have hb : b < W.heap.size := by
        have := World.block_lt_of_cell? W _ h0.2.2.1
        rw [Addr.add_mid] at this
        exact this
      refine ⟨b, off, rfl, hb, fun i hi => ?_⟩
      have hi2 : i < m := by omega
      obtain ⟨_, _, c0, c1, c2, c3⟩ := hF i hi2
      rw [Addr.add_mid] at c0 c1 c2 c3
      simp only [if_pos hi2]
      exact ⟨c0, c1, c2, c3⟩
    · show In (if i < m then f i else 0)
      by_cases hi : i < m
      · rw [if_pos hi]; exact (hF i hi).1
      · rw [if_neg hi]; exact In.zero
end Go.Proofs.Ytnpffefebghnbaa
