/- An argument that is a slice of slices of bytes, opened. -/
import Derived.Test.YtgjckinihmbdeaaDoorFrameBl
import Derived.Test.YtgjckinihmbdeaaDoorPrts
import Derived.Deep.Slices
namespace Go.Proofs.YtgjckinihmbdeaaDoor
open Go.ChangeShapes Go.WideShapes Go.ChangeAt Go.RowKit

theorem cellsSl : Tryd.prog.cellsOf 25 = 1 := by kernel_rfl
def noPrt : Prt := ⟨none, 0, []⟩
/-- A part by its cell. -/
theorem part_cell {H : Type} {enc : TypeId × Value → H} {W : World} {sp : Nat → Bool} {held : Bool} {a : Addr} {fuel : Nat} {cs : List Value} {y : DataW H × List MemPlace}
    (h : W.cells? 0 a 1 = some cs) (ht : DataW.trod enc Tryd.prog W 0 sp held fuel 25 cs = some y) :
    ∃ p : Prt, (a.spot = none ∧ W.cell? a = some (.slice p.ao p.l.length p.cap)) ∧ PtOk W p ∧ (p.ao = none → p.cap = 0) := by
  obtain ⟨ao, cap, l, hcs, h1, h2, h3, h4, h5⟩ := bytes_cell ht
  unfold World.cells? at h
  rw [if_pos (Nat.zero_le _)] at h
  have g := mapM_some_get h 0 0 (by simp)
  rw [hcs] at g
  have g1 : W.cell? (a.add 0) = some (.slice ao l.length cap) := g
  have hspot : a.spot = none := by simpa [Addr.add] using World.cell?_spot g1
  obtain ⟨b, off, spot⟩ := a
  simp only at hspot
  subst hspot
  rw [Addr.add_mid, Nat.add_zero] at g1
  exact ⟨⟨ao, cap, l⟩, ⟨rfl, g1⟩, ⟨h4, h1, h2, h5⟩, h3⟩
theorem open_parts {H : Type} {enc : TypeId × Value → H} {W : World} {base : Nat} {v : Value} {d : DataW H} {p : List MemPlace}
    (hv : Value.okWide Tryd.prog W .any base 22 v) (h : DataW.Trod enc Tryd.prog W 0 (fun _ => true) true 22 v d p) :
    ∃ ao cap ps, v = .slice ao (List.length ps) cap ∧ ps.length ≤ cap ∧ cap ≤ maxLen ∧ Parts W ao ps ∧ ∀ q ∈ ps, q.ao = none → q.cap = 0 := by
  obtain ⟨a0, len, cap, rfl⟩ := okWide_slice Tryd.underlying22 hv
  obtain ⟨fuel, hf⟩ := h
  rcases Go.Deep.open_slice Tryd.underlying22 hf with ⟨hcs, hx⟩ | ⟨a, len', cap', m, n, D, Pl, hcs, _, hle, hmax, hm, hx, hel⟩
  · simp [Value.cells] at hcs
    obtain ⟨rfl, rfl, rfl⟩ := hcs
    exact ⟨none, 0, [], rfl, Nat.le_refl _, by simp [maxLen], .inl rfl, fun q hq => by simp at hq⟩
  · simp [Value.cells] at hcs
    obtain ⟨rfl, rfl, rfl⟩ := hcs
    simp only [if_true] at hm
    subst hm
    rw [cellsSl] at hel
    haveI : Inhabited Prt := ⟨noPrt⟩
    obtain ⟨f, hF⟩ := Go.Deep.choose_lt (α := Prt) (p := fun i q => ((a.add (i * 1)).spot = none ∧ W.cell? (a.add (i * 1)) = some (.slice q.ao q.l.length q.cap)) ∧ PtOk W q ∧ (q.ao = none → q.cap = 0)) (fun i hi => by
      obtain ⟨cs', h1, h2⟩ := hel i hi
      exact part_cell h1 h2)
    refine ⟨some a, _, (List.range len).map f, by simp, by simpa using hle, hmax, ?_, fun q hq => ?_⟩
    · by_cases hp : 0 < len
      · obtain ⟨b, off, spot⟩ := a
        have h0 := hF 0 (by omega)
        have hspot : spot = none := by simpa [Addr.add] using h0.1.1
        subst hspot
        have hc0 := h0.1.2
        rw [Addr.add_mid] at hc0
        refine .inr ⟨b, off, rfl, World.block_lt_of_cell? W _ hc0, fun j q hq => ?_⟩
        have hj : j < len := by have := (List.getElem?_eq_some_iff.1 hq).1; simpa using this
        have hqe : f j = q := by simpa [hj] using hq
        have hfj := hF j (by omega)
        rw [Addr.add_mid, Nat.mul_one, hqe] at hfj
        exact ⟨hfj.1.2, hfj.2.1⟩
      · obtain rfl : len = 0 := by omega
        exact .inl (by simp)
    · obtain ⟨j, hj, rfl⟩ := List.mem_map.1 hq
      exact (hF j (by have := List.mem_range.1 hj; omega)).2.2
end Go.Proofs.YtgjckinihmbdeaaDoor
