/- Arguments that are slices of sums, opened. -/
import Derived.Test.YtjkhboejhcbdpaaDoorFrameBl
import Derived.Test.YtjkhboejhcbdpaaDoorTreeLeaf
import Derived.Deep.Slices
namespace Go.Proofs.YtjkhboejhcbdpaaDoor
open Go.ChangeShapes Go.WideShapes Go.ChangeAt Go.RowKit

theorem cellsHs : Tryd.prog.cellsOf 28 = 32 := by kernel_rfl
theorem hs_at {H : Type} {enc : TypeId × Value → H} {W : World} {sp : Nat → Bool} {held : Bool} {a : Addr} {fuel : Nat} {cs : List Value} {y : DataW H × List MemPlace}
    (h : W.cells? 0 a 32 = some cs) (ht : DataW.trod enc Tryd.prog W 0 sp held fuel 28 cs = some y) : ∃ x : Hs, Hok x ∧ a.spot = none ∧ W.rangeAt a.block a.off (rowV 32 x) := by
  unfold World.cells? at h
  rw [if_pos (Nat.zero_le _)] at h
  have g : ∀ i, i < 32 → W.cell? (a.add i) = cs[i]? := fun i hi => mapM_some_get h i i (by simp [hi])
  obtain ⟨x, rfl, hx⟩ := hash_cells ht
  have g0 := g 0 (by omega)
  rw [rowV_get (by omega)] at g0
  have hspot : a.spot = none := by
    have g1 : W.cell? (a.add 0) = some (.int .u8 (x 0)) := g0
    simpa [Addr.add] using World.cell?_spot g1
  refine ⟨x, hx, hspot, fun j v hv => ?_⟩
  obtain ⟨b, off, spot⟩ := a
  simp only at hspot
  subst hspot
  have hj : j < 32 := by have := (List.getElem?_eq_some_iff.1 hv).1; rwa [rowV_length] at this
  have := g j hj
  rw [Addr.add_mid, hv] at this
  exact this
theorem open_hs {H : Type} {enc : TypeId × Value → H} {W : World} {base : Nat} {v : Value} {d : DataW H} {p : List MemPlace}
    (hv : Value.okWide Tryd.prog W .any base 22 v) (h : DataW.Trod enc Tryd.prog W 0 (fun _ => true) true 22 v d p) :
    ∃ ao cap L, v = .slice ao (List.length L) cap ∧ L.length ≤ cap ∧ cap ≤ maxLen ∧ (ao = none → cap = 0) ∧ Hl W ao L ∧ Hoks L := by
  obtain ⟨a0, len, cap, rfl⟩ := okWide_slice Tryd.underlying22 hv
  obtain ⟨fuel, hf⟩ := h
  rcases Go.Deep.open_slice Tryd.underlying22 hf with ⟨hcs, hx⟩ | ⟨a, len', cap', m, n, D, Pl, hcs, _, hle, hmax, hm, hx, hel⟩
  · simp [Value.cells] at hcs
    obtain ⟨rfl, rfl, rfl⟩ := hcs
    exact ⟨none, 0, [], rfl, Nat.le_refl _, by simp [maxLen], fun _ => rfl, .inl rfl, fun q hq => by simp at hq⟩
  · simp [Value.cells] at hcs
    obtain ⟨rfl, rfl, rfl⟩ := hcs
    simp only [if_true] at hm
    subst hm
    rw [cellsHs] at hel
    haveI : Inhabited Hs := ⟨fun _ => 0⟩
    obtain ⟨f, hF⟩ := Go.Deep.choose_lt (α := Hs) (p := fun i x => Hok x ∧ (a.add (i * 32)).spot = none ∧ W.rangeAt (a.add (i * 32)).block (a.add (i * 32)).off (rowV 32 x)) (fun i hi => by
      obtain ⟨cs', h1, h2⟩ := hel i hi
      exact hs_at h1 h2)
    refine ⟨some a, _, (List.range len).map f, by simp, by simpa using hle, hmax, fun e => by simp at e, ?_, fun q hq => ?_⟩
    · by_cases hp : 0 < len
      · obtain ⟨b, off, spot⟩ := a
        have h0 := hF 0 (by omega)
        have hspot : spot = none := by simpa [Addr.add] using h0.2.1
        subst hspot
        have hc0 : W.cell? ⟨b, off + 0 * 32 + 0, none⟩ = some (.int .u8 (f 0 0)) := by
          have := h0.2.2 0 _ (rowV_get (by omega))
          rw [Addr.add_mid] at this
          exact this
        refine .inr ⟨b, off, rfl, World.block_lt_of_cell? W _ hc0, fun j x hx => ?_⟩
        have hj : j < len := by have := (List.getElem?_eq_some_iff.1 hx).1; simpa using this
        have hxe : f j = x := by simpa [hj] using hx
        have := (hF j (by omega)).2.2
        rw [Addr.add_mid, hxe] at this
        exact this
      · obtain rfl : len = 0 := by omega
        exact .inl (by simp)
    · obtain ⟨j, hj, rfl⟩ := List.mem_map.1 hq
      exact (hF j (by have := List.mem_range.1 hj; omega)).1
end Go.Proofs.YtjkhboejhcbdpaaDoor
