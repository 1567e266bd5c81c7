/- Arguments that are slices of bytes or sums, opened. Arguments that are slices of sums, opened. -/
import Derived.Test.YtjkhboejhcbdpaaDoorRows
import Derived.WalkKit
import Derived.ProofKit
import Derived.OpenShut
import Derived.Test.YtjkhboejhcbdpaaDoorPackBase
import Derived.Deep.Slices
import Derived.Test.YtjkhboejhcbdpaaDoorTreeLeaf
/- Arguments that are slices of bytes or sums, opened. -/
namespace Go.Proofs.YtjkhboejhcbdpaaDoor
open Go.ChangeShapes Go.WideShapes Go.ChangeAt Go.RowKit

theorem laidOutT : laidOutB Tryd.prog = true := by kernel_rfl
theorem cellsByteT : Tryd.prog.cellsOf 5 = 1 := by kernel_rfl
set_option maxRecDepth 100000 in
/-- A slice of bytes, by its cell. -/
theorem bytes_cell {H : Type} {enc : TypeId × Value → H} {W : World} {sp : Nat → Bool} {held : Bool} {fuel : Nat} {cs : List Value} {y : DataW H × List MemPlace}
    (h : DataW.trod enc Tryd.prog W 0 sp held fuel 67 cs = some y) :
    ∃ ao cap l, cs = [.slice ao l.length cap] ∧ l.length ≤ cap ∧ cap ≤ maxLen ∧ (ao = none → cap = 0) ∧ At W ao l ∧ Byt l := by
  rcases open_ints Tryd.underlying67 Tryd.underlying5 cellsByteT h with ⟨hcs, hx⟩ | ⟨a, len, cap, zs, hcs, _, hle, hmax, hall, hx, hcell, hwf⟩
  · exact ⟨none, 0, [], hcs, Nat.le_refl _, by simp [maxLen], fun _ => rfl, At.nil _ _, fun x hx => by simp at hx⟩
  · have hlen : len ≤ zs.length := by rw [hall]; split <;> omega
    have hl : (zs.take len).length = len := by simp; omega
    refine ⟨some a, cap, zs.take len, by rw [hl]; exact hcs, by rw [hl]; exact hle, hmax, fun e => by simp at e, ?_, fun x hx => ?_⟩
    · by_cases hp : 0 < len
      · obtain ⟨b, off, rfl, hc⟩ := ints_at hcell (by omega)
        refine .inr ⟨b, off, rfl, ?_, fun j hj => ?_⟩
        · exact World.block_lt_of_cell? W _ (hc 0 (by omega))
        · rw [hl] at hj
          rw [hc j (by omega)]
          simp [hj]
      · obtain rfl : len = 0 := by omega
        exact .inl (by simp)
    · have := bounds_u8 (hwf x (List.mem_of_mem_take hx))
      omega
set_option maxRecDepth 100000 in
theorem open_bl {H : Type} {enc : TypeId × Value → H} {W : World} {base : Nat} {v : Value} {d : DataW H} {p : List MemPlace}
    (hv : Value.okWide Tryd.prog W .any base 67 v) (h : DataW.Trod enc Tryd.prog W 0 (fun _ => true) true 67 v d p) :
    ∃ ao cap l, v = .slice ao l.length cap ∧ l.length ≤ cap ∧ cap ≤ maxLen ∧ (ao = none → cap = 0) ∧ At W ao l ∧ Byt l := by
  obtain ⟨a0, len, cap, rfl⟩ := okWide_slice Tryd.underlying67 hv
  obtain ⟨fuel, hf⟩ := h
  obtain ⟨ao, cap', l, e, r⟩ := bytes_cell hf
  simp [Value.cells] at e
  obtain ⟨rfl, rfl, rfl⟩ := e
  exact ⟨_, _, l, rfl, r⟩
/-- A sum, by its cells. -/
theorem hash_cells {H : Type} {enc : TypeId × Value → H} {W : World} {sp : Nat → Bool} {held : Bool} {fuel : Nat} {cs : List Value} {y : DataW H × List MemPlace}
    (h : DataW.trod enc Tryd.prog W 0 sp held fuel 28 cs = some y) : ∃ f : Nat → Int, cs = rowV 32 f ∧ ∀ j, 0 ≤ f j ∧ f j < 256 := by
  obtain ⟨xs, m, _, _, hl, hxs, hh⟩ := DataW.trod_array Tryd.underlying28 h
  have hl32 : cs.length = 32 := by rw [hl]; kernel_rfl
  have hbyte : ∀ j, j < 32 → ∃ b : Int, (0 ≤ b ∧ b < 256) ∧ cs[j]? = some (.int .u8 b) := by
    intro j hj
    obtain ⟨z, ez⟩ : ∃ z, xs[j]? = some z := ⟨xs[j], by simp [hxs, hj]⟩
    have f := (hh j hj).trans ez
    rw [cellsByteT, Nat.mul_one] at f
    obtain ⟨b, qb, _, wb⟩ := DataW.trod_int Tryd.underlying5 f
    have bb := bounds_u8 wb
    refine ⟨b, by omega, ?_⟩
    have : (List.take 1 (List.drop j cs))[0]? = some (.int .u8 b) := by rw [qb]; rfl
    rw [List.getElem?_take, if_pos (by omega), List.getElem?_drop] at this
    exact this
  obtain ⟨f, hf⟩ := Go.Deep.choose_lt (α := Int) (p := fun j b => (0 ≤ b ∧ b < 256) ∧ cs[j]? = some (.int .u8 b)) hbyte
  refine ⟨fun j => if j < 32 then f j else 0, ?_, fun j => ?_⟩
  · apply List.ext_getElem?
    intro j
    by_cases hj : j < 32
    · rw [rowV_get hj, (hf j hj).2]; simp [hj]
    · rw [List.getElem?_eq_none (by omega), List.getElem?_eq_none (by rw [rowV_length]; omega)]
  · show 0 ≤ (if j < 32 then f j else 0) ∧ (if j < 32 then f j else 0) < 256
    by_cases hj : j < 32
    · rw [if_pos hj]; exact (hf j hj).1
    · rw [if_neg hj]; omega
set_option maxRecDepth 100000 in
theorem open_hash {H : Type} {enc : TypeId × Value → H} {W : World} {base : Nat} {sp : Nat → Bool} {held : Bool} {v : Value} {d : DataW H} {p : List MemPlace}
    (hv : Value.okWide Tryd.prog W .any base 28 v) (h : DataW.Trod enc Tryd.prog W 0 sp held 28 v d p) :
    ∃ f : Nat → Int, v = .agg (rowV 32 f).toArray ∧ ∀ j, 0 ≤ f j ∧ f j < 256 := by
  obtain ⟨cs, rfl, hsz, _⟩ : ∃ cs, v = .agg cs ∧ cs.size = Tryd.prog.cellsOf 28 ∧ Row.okWide Tryd.prog W .any base 28 cs := by
    simpa [Value.okWide, Tryd.underlying28] using hv
  obtain ⟨fuel, hf⟩ := h
  obtain ⟨f, e, hb⟩ := hash_cells hf
  refine ⟨f, ?_, hb⟩
  have e' : cs.toList = rowV 32 f := e
  rw [← e']
end Go.Proofs.YtjkhboejhcbdpaaDoor

/- Arguments that are slices of sums, opened. -/
namespace Go.Proofs.YtjkhboejhcbdpaaDoor
open Go.ChangeShapes Go.WideShapes Go.ChangeAt Go.RowKit

theorem cellsHs : Tryd.prog.cellsOf 28 = 32 := by kernel_rfl
theorem hs_at {H : Type} {enc : TypeId × Value → H} {W : World} {sp : Nat → Bool} {held : Bool} {a : Addr} {fuel : Nat} {cs : List Value} {y : DataW H × List MemPlace}
    (h : W.cells? 0 a 32 = some cs) (ht : DataW.trod enc Tryd.prog W 0 sp held fuel 28 cs = some y) : ∃ x : Hs, Hok x ∧ a.spot = none ∧ W.rangeAt a.block a.off (rowV 32 x) := by
  unfold World.cells? at h
  rw [if_pos (Nat.zero_le _)] at h
  have g : ∀ i, i < 32 → W.cell? (a.add i) = cs[i]? := fun i hi => mapM_some_get h i i (by simp [hi])
  obtain ⟨x, rfl, hx⟩ := hash_cells ht
  have g0 := g 0 (by omega)
  rw [rowV_get (by omega)] at g0
  have hspot : a.spot = none := by
    have g1 : W.cell? (a.add 0) = some (.int .u8 (x 0)) := g0
    simpa [Addr.add] using World.cell?_spot g1
  refine ⟨x, hx, hspot, fun j v hv => ?_⟩
  obtain ⟨b, off, spot⟩ := a
  simp only at hspot
  subst hspot
  have hj : j < 32 := by have := (List.getElem?_eq_some_iff.1 hv).1; rwa [rowV_length] at this
  have := g j hj
  rw [Addr.add_mid, hv] at this
  exact this
theorem open_hs {H : Type} {enc : TypeId × Value → H} {W : World} {base : Nat} {v : Value} {d : DataW H} {p : List MemPlace}
    (hv : Value.okWide Tryd.prog W .any base 22 v) (h : DataW.Trod enc Tryd.prog W 0 (fun _ => true) true 22 v d p) :
    ∃ ao cap L, v = .slice ao (List.length L) cap ∧ L.length ≤ cap ∧ cap ≤ maxLen ∧ (ao = none → cap = 0) ∧ Hl W ao L ∧ Hoks L := by
  obtain ⟨a0, len, cap, rfl⟩ := okWide_slice Tryd.underlying22 hv
  obtain ⟨fuel, hf⟩ := h
  rcases Go.Deep.open_slice Tryd.underlying22 hf with ⟨hcs, hx⟩ | ⟨a, len', cap', m, n, D, Pl, hcs, _, hle, hmax, hm, hx, hel⟩
  · simp [Value.cells] at hcs
    obtain ⟨rfl, rfl, rfl⟩ := hcs
    exact ⟨none, 0, [], rfl, Nat.le_refl _, by simp [maxLen], fun _ => rfl, .inl rfl, fun q hq => by simp at hq⟩
  · simp [Value.cells] at hcs
    obtain ⟨rfl, rfl, rfl⟩ := hcs
    simp only [if_true] at hm
    subst hm
    rw [cellsHs] at hel
    haveI : Inhabited Hs := ⟨fun _ => 0⟩
    obtain ⟨f, hF⟩ := Go.Deep.choose_lt (α := Hs) (p := fun i x => Hok x ∧ (a.add (i * 32)).spot = none ∧ W.rangeAt (a.add (i * 32)).block (a.add (i * 32)).off (rowV 32 x)) (fun i hi => by
      obtain ⟨cs', h1, h2⟩ := hel i hi
      exact hs_at h1 h2)
    refine ⟨some a, _, (List.range len).map f, by simp, by simpa using hle, hmax, fun e => by simp at e, ?_, fun q hq => ?_⟩
    · by_cases hp : 0 < len
      · obtain ⟨b, off, spot⟩ := a
        have h0 := hF 0 (by omega)
        have hspot : spot = none := by simpa [Addr.add] using h0.2.1
        subst hspot
        have hc0 : W.cell? ⟨b, off + 0 * 32 + 0, none⟩ = some (.int .u8 (f 0 0)) := by
          have := h0.2.2 0 _ (rowV_get (by omega))
          rw [Addr.add_mid] at this
          exact this
        refine .inr ⟨b, off, rfl, World.block_lt_of_cell? W _ hc0, fun j x hx => ?_⟩
        have hj : j < len := by have := (List.getElem?_eq_some_iff.1 hx).1; simpa using this
        have hxe : f j = x := by simpa [hj] using hx
        have := (hF j (by omega)).2.2
        rw [Addr.add_mid, hxe] at this
        exact this
      · obtain rfl : len = 0 := by omega
        exact .inl (by simp)
    · obtain ⟨j, hj, rfl⟩ := List.mem_map.1 hq
      exact (hF j (by have := List.mem_range.1 hj; omega)).1
end Go.Proofs.YtjkhboejhcbdpaaDoor
