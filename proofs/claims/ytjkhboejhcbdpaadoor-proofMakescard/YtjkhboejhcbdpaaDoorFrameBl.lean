/- Arguments that are slices of bytes or sums, opened. -/
import Derived.Test.YtjkhboejhcbdpaaDoorRows
import Derived.WalkKit
import Derived.ProofKit
import Derived.OpenShut
import Derived.Test.YtjkhboejhcbdpaaDoorPackBase
import Derived.Deep.Slices
namespace Go.Proofs.YtjkhboejhcbdpaaDoor
open Go.ChangeShapes Go.WideShapes Go.ChangeAt Go.RowKit

theorem laidOutT : laidOutB Tryd.prog = true := by kernel_rfl
theorem cellsByteT : Tryd.prog.cellsOf 5 = 1 := by kernel_rfl
set_option maxRecDepth 100000 in
/-- A slice of bytes, by its cell. -/
theorem bytes_cell {H : Type} {enc : TypeId × Value → H} {W : World} {sp : Nat → Bool} {held : Bool} {fuel : Nat} {cs : List Value} {y : DataW H × List MemPlace}
    (h : DataW.trod enc Tryd.prog W 0 sp held fuel 67 cs = some y) :
    ∃ ao cap l, cs = [.slice ao l.length cap] ∧ l.length ≤ cap ∧ cap ≤ maxLen ∧ (ao = none → cap = 0) ∧ At W ao l ∧ Byt l := by
  rcases open_ints Tryd.underlying67 Tryd.underlying5 cellsByteT h with ⟨hcs, hx⟩ | ⟨a, len, cap, zs, hcs, _, hle, hmax, hall, hx, hcell, hwf⟩
  · exact ⟨none, 0, [], hcs, Nat.le_refl _, by simp [maxLen], fun _ => rfl, At.nil _ _, fun x hx => by simp at hx⟩
  · have hlen : len ≤ zs.length := by rw [hall]; split <;> omega
    have hl : (zs.take len).length = len := by simp; omega
    refine ⟨some a, cap, zs.take len, by rw [hl]; exact hcs, by rw [hl]; exact hle, hmax, fun e => by simp at e, ?_, fun x hx => ?_⟩
    · by_cases hp : 0 < len
      · obtain ⟨b, off, rfl, hc⟩ := ints_at hcell (by omega)
        refine .inr ⟨b, off, rfl, ?_, fun j hj => ?_⟩
        · exact World.block_lt_of_cell? W _ (hc 0 (by omega))
        · rw [hl] at hj
          rw [hc j (by omega)]
          simp [hj]
      · obtain rfl : len = 0 := by omega
        exact .inl (by simp)
    · have := bounds_u8 (hwf x (List.mem_of_mem_take hx))
      omega
set_option maxRecDepth 100000 in
theorem open_bl {H : Type} {enc : TypeId × Value → H} {W : World} {base : Nat} {v : Value} {d : DataW H} {p : List MemPlace}
    (hv : Value.okWide Tryd.prog W .any base 67 v) (h : DataW.Trod enc Tryd.prog W 0 (fun _ => true) true 67 v d p) :
    ∃ ao cap l, v = .slice ao l.length cap ∧ l.length ≤ cap ∧ cap ≤ maxLen ∧ (ao = none → cap = 0) ∧ At W ao l ∧ Byt l := by
  obtain ⟨a0, len, cap, rfl⟩ := okWide_slice Tryd.underlying67 hv
  obtain ⟨fuel, hf⟩ := h
  obtain ⟨ao, cap', l, e, r⟩ := bytes_cell hf
  simp [Value.cells] at e
  obtain ⟨rfl, rfl, rfl⟩ := e
  exact ⟨_, _, l, rfl, r⟩
/-- A sum, by its cells. -/
theorem hash_cells {H : Type} {enc : TypeId × Value → H} {W : World} {sp : Nat → Bool} {held : Bool} {fuel : Nat} {cs : List Value} {y : DataW H × List MemPlace}
    (h : DataW.trod enc Tryd.prog W 0 sp held fuel 28 cs = some y) : ∃ f : Nat → Int, cs = rowV 32 f ∧ ∀ j, 0 ≤ f j ∧ f j < 256 := by
  obtain ⟨xs, m, _, _, hl, hxs, hh⟩ := DataW.trod_array Tryd.underlying28 h
  have hl32 : cs.length = 32 := by rw [hl]; kernel_rfl
  have hbyte : ∀ j, j < 32 → ∃ b : Int, (0 ≤ b ∧ b < 256) ∧ cs[j]? = some (.int .u8 b) := by
    intro j hj
    obtain ⟨z, ez⟩ : ∃ z, xs[j]? = some z := ⟨xs[j], by simp [hxs, hj]⟩
    have f := (hh j hj).trans ez
    rw [cellsByteT, Nat.mul_one] at f
    obtain ⟨b, qb, _, wb⟩ := DataW.trod_int Tryd.underlying5 f
    have bb := bounds_u8 wb
    refine ⟨b, by omega, ?_⟩
    have : (List.take 1 (List.drop j cs))[0]? = some (.int .u8 b) := by rw [qb]; rfl
    rw [List.getElem?_take, if_pos (by omega), List.getElem?_drop] at this
    exact this
  obtain ⟨f, hf⟩ := Go.Deep.choose_lt (α := Int) (p := fun j b => (0 ≤ b ∧ b < 256) ∧ cs[j]? = some (.int .u8 b)) hbyte
  refine ⟨fun j => if j < 32 then f j else 0, ?_, fun j => ?_⟩
  · apply List.ext_getElem?
    intro j
    by_cases hj : j < 32
    · rw [rowV_get hj, (hf j hj).2]; simp [hj]
    · rw [List.getElem?_eq_none (by omega), List.getElem?_eq_none (by rw [rowV_length]; omega)]
  · show 0 ≤ (if j < 32 then f j else 0) ∧ (if j < 32 then f j else 0) < 256
    by_cases hj : j < 32
    · rw [if_pos hj]; exact (hf j hj).1
    · rw [if_neg hj]; omega
set_option maxRecDepth 100000 in
theorem open_hash {H : Type} {enc : TypeId × Value → H} {W : World} {base : Nat} {sp : Nat → Bool} {held : Bool} {v : Value} {d : DataW H} {p : List MemPlace}
    (hv : Value.okWide Tryd.prog W .any base 28 v) (h : DataW.Trod enc Tryd.prog W 0 sp held 28 v d p) :
    ∃ f : Nat → Int, v = .agg (rowV 32 f).toArray ∧ ∀ j, 0 ≤ f j ∧ f j < 256 := by
  obtain ⟨cs, rfl, hsz, _⟩ : ∃ cs, v = .agg cs ∧ cs.size = Tryd.prog.cellsOf 28 ∧ Row.okWide Tryd.prog W .any base 28 cs := by
    simpa [Value.okWide, Tryd.underlying28] using hv
  obtain ⟨fuel, hf⟩ := h
  obtain ⟨f, e, hb⟩ := hash_cells hf
  refine ⟨f, ?_, hb⟩
  have e' : cs.toList = rowV 32 f := e
  rw [← e']
end Go.Proofs.YtjkhboejhcbdpaaDoor
