/- Arguments that are slices of numbers, of truths or of tries, opened. -/
import Derived.Test.YtncnilplmklccaaRows
import Derived.WalkKit
import Derived.ProofKit
import Derived.OpenShut
import Derived.Test.YtncnilplmklccaaFrameInt
import Derived.Test.YtncnilplmklccaaPrMem
import Derived.Deep.Slices
import Derived.Deep.MidRow
namespace Go.Proofs.Ytncnilplmklccaa
set_option linter.unusedSimpArgs false
set_option linter.unusedVariables false
set_option linter.unusedSectionVars false
open Go.ChangeShapes Go.WideShapes Go.ChangeAt Go.RowKit

theorem laidOutT : laidOutB Try.prog = true := by kernel_rfl
set_option maxRecDepth 100000 in
/-- A slice of whole numbers. -/
theorem open_row {H : Type} {enc : TypeId × Value → H} {W : World} {base : Nat} {v : Value} {d : DataW H} {p : List MemPlace} {t e : TypeId} {q : IntKind} (ht : Try.prog.underlying t = some (.slice e)) (he : Try.prog.underlying e = some (.int q)) (hc : Try.prog.cellsOf e = 1)
    (hv : Value.okWide Try.prog W .any base t v) (h : DataW.Trod enc Try.prog W 0 (fun _ => true) true t v d p) :
    ∃ ao cap l, v = .slice ao (List.length l) cap ∧ l.length ≤ cap ∧ cap ≤ maxLen ∧ Vls W ao (l.map (fun n => .int q n)) ∧ ∀ x ∈ l, (Lit.int q x).wf = true := by
  obtain ⟨a0, len, cap, rfl⟩ := okWide_slice ht hv
  obtain ⟨fuel, hf⟩ := h
  rcases open_ints ht he hc hf with ⟨hcs, hx⟩ | ⟨a, len', cap', zs, hcs, _, hle, hmax, hall, hx, hcell, hwf⟩
  · simp [Value.cells] at hcs
    obtain ⟨rfl, rfl, rfl⟩ := hcs
    exact ⟨none, 0, [], rfl, Nat.le_refl _, by simp [maxLen], .inl rfl, fun x hx => by simp at hx⟩
  · simp [Value.cells] at hcs
    obtain ⟨rfl, rfl, rfl⟩ := hcs
    have hlen : len ≤ zs.length := by rw [hall]; split <;> omega
    have hl : (zs.take len).length = len := by simp; omega
    refine ⟨some a, cap, zs.take len, by rw [hl], by rw [hl]; exact hle, hmax, ?_, fun x hx => hwf x (List.mem_of_mem_take hx)⟩
    by_cases hp : 0 < len
    · obtain ⟨b, off, rfl, hc⟩ := ints_at hcell (by omega)
      refine .inr ⟨b, off, rfl, World.block_lt_of_cell? W _ (hc 0 (by omega)), fun j x hx => ?_⟩
      have hj : j < len := by have := (List.getElem?_eq_some_iff.1 hx).1; simp at this; omega
      rw [hc j (by omega)]
      rw [List.getElem?_map, List.getElem?_take, if_pos hj, show zs[j]? = some (zs.getD j 0) by simp [show j < zs.length by omega]] at hx
      exact hx
    · obtain rfl : len = 0 := by omega
      exact .inl (by simp)
set_option maxRecDepth 100000 in
theorem open_u8s {H : Type} {enc : TypeId × Value → H} {W : World} {base : Nat} {v : Value} {d : DataW H} {p : List MemPlace}
    (hv : Value.okWide Try.prog W .any base 33 v) (h : DataW.Trod enc Try.prog W 0 (fun _ => true) true 33 v d p) :
    ∃ ao cap l, v = .slice ao (List.length l) cap ∧ l.length ≤ cap ∧ cap ≤ maxLen ∧ Vls W ao (bV l) ∧ ∀ x ∈ l, 0 ≤ x ∧ x < 256 := by
  obtain ⟨ao, cap, l, h0, h1, h2, h3, h4⟩ := open_row Try.underlying33 Try.underlying5 (by kernel_rfl) hv h
  exact ⟨ao, cap, l, h0, h1, h2, h3, fun x hx => by have := bounds_u8 (h4 x hx); omega⟩
set_option maxRecDepth 100000 in
theorem open_u64s {H : Type} {enc : TypeId × Value → H} {W : World} {base : Nat} {v : Value} {d : DataW H} {p : List MemPlace}
    (hv : Value.okWide Try.prog W .any base 36 v) (h : DataW.Trod enc Try.prog W 0 (fun _ => true) true 36 v d p) :
    ∃ ao cap l, v = .slice ao (List.length l) cap ∧ l.length ≤ cap ∧ cap ≤ maxLen ∧ Vls W ao (uV l) ∧ ∀ x ∈ l, 0 ≤ x ∧ x < 18446744073709551616 := by
  obtain ⟨ao, cap, l, h0, h1, h2, h3, h4⟩ := open_row Try.underlying36 Try.underlying23 (by kernel_rfl) hv h
  exact ⟨ao, cap, l, h0, h1, h2, h3, fun x hx => by have := bounds_u64 (h4 x hx); omega⟩
set_option maxRecDepth 100000 in
theorem open_i64s {H : Type} {enc : TypeId × Value → H} {W : World} {base : Nat} {v : Value} {d : DataW H} {p : List MemPlace}
    (hv : Value.okWide Try.prog W .any base 42 v) (h : DataW.Trod enc Try.prog W 0 (fun _ => true) true 42 v d p) :
    ∃ ao cap l, v = .slice ao (List.length l) cap ∧ l.length ≤ cap ∧ cap ≤ maxLen ∧ Vls W ao (iV l) ∧ ∀ x ∈ l, (Lit.int .i64 x).wf = true :=
  open_row Try.underlying42 Try.underlying3 (by kernel_rfl) hv h
set_option maxRecDepth 100000 in
theorem open_bools {H : Type} {enc : TypeId × Value → H} {W : World} {base : Nat} {v : Value} {d : DataW H} {p : List MemPlace}
    (hv : Value.okWide Try.prog W .any base 43 v) (h : DataW.Trod enc Try.prog W 0 (fun _ => true) true 43 v d p) :
    ∃ ao cap l, v = .slice ao (List.length l) cap ∧ l.length ≤ cap ∧ cap ≤ maxLen ∧ Vls W ao (tV l) := by
  obtain ⟨a0, len, cap, rfl⟩ := okWide_slice Try.underlying43 hv
  obtain ⟨fuel, hf⟩ := h
  have hc1 : Try.prog.cellsOf 4 = 1 := by kernel_rfl
  rcases Go.Deep.open_slice Try.underlying43 hf with ⟨hcs, hx⟩ | ⟨a, len', cap', m, n, D, Pl, hcs, _, hle, hmax, hm, hx, hel⟩
  · simp [Value.cells] at hcs
    obtain ⟨rfl, rfl, rfl⟩ := hcs
    exact ⟨none, 0, [], rfl, Nat.le_refl _, by simp [maxLen], .inl rfl⟩
  · simp [Value.cells] at hcs
    obtain ⟨rfl, rfl, rfl⟩ := hcs
    simp only [if_true] at hm
    subst hm
    rw [hc1] at hel
    obtain ⟨f, hF⟩ := Go.Deep.choose_lt (α := Bool) (p := fun i x => (a.add (i * 1)).spot = none ∧ W.cell? (a.add (i * 1)) = some (.bool x)) (fun i hi => by
      obtain ⟨cs', h1, h2⟩ := hel i hi
      obtain ⟨b, hb, _⟩ := DataW.trod_bool Try.underlying4 h2
      unfold World.cells? at h1
      rw [if_pos (Nat.zero_le _)] at h1
      have g0 := mapM_some_get h1 0 0 (by simp)
      rw [hb] at g0
      have g1 : W.cell? ((a.add (i * 1)).add 0) = some (.bool b) := g0
      have e0 : (a.add (i * 1)).add 0 = a.add (i * 1) := by simp [Addr.add]
      rw [e0] at g1
      exact ⟨b, World.cell?_spot g1, g1⟩)
    refine ⟨some a, _, (List.range len).map f, by simp, by simpa using hle, hmax, ?_⟩
    by_cases hp : 0 < len
    · obtain ⟨b, off, spot⟩ := a
      have h0 := hF 0 (by omega)
      have hspot : spot = none := by simpa [Addr.add] using h0.1
      subst hspot
      have hc0 := h0.2
      refine .inr ⟨b, off, rfl, World.block_lt_of_cell? W _ hc0, fun j x hx => ?_⟩
      have hj : j < len := by have := (List.getElem?_eq_some_iff.1 hx).1; simpa [tV] using this
      have hxe : Value.bool (f j) = x := by simpa [tV, hj] using hx
      have := (hF j (by omega)).2
      rw [Addr.add_mid, Nat.mul_one] at this
      rw [← hxe]
      exact this
    · obtain rfl : len = 0 := by omega
      exact .inl (by simp [tV])
end Go.Proofs.Ytncnilplmklccaa
