/- Arguments that are intents, or slices of them, opened and shut. -/
import Derived.Test.YthcahgfoganehaaDoorFrameInt
import Derived.Test.YthcahgfoganehaaDoorFrameBl
import Derived.Test.YthcahgfoganehaaDoorItns
import Derived.Deep.Slices
namespace Go.Proofs.YthcahgfoganehaaDoor
open Go.ChangeShapes Go.WideShapes Go.ChangeAt Go.RowKit

theorem cellsU32 : Tryd.prog.cellsOf 22 = 1 := by kernel_rfl
theorem cellsItn : Tryd.prog.cellsOf 27 = 7 := by kernel_rfl
theorem cut_getI {cs l : List Value} {o m : Nat} (h : (cs.drop o).take m = l) {j : Nat} (hj : j < m) : cs[o + j]? = l[j]? := by
  rw [← h, List.getElem?_take, if_pos hj, List.getElem?_drop]
/-- An intent by its cells. -/
theorem itn_cells {H : Type} {enc : TypeId × Value → H} {W : World} {sp : Nat → Bool} {held : Bool} {fuel : Nat} {cs : List Value} {y : DataW H × List MemPlace} (hlen : cs.length = 7)
    (ht : DataW.trod enc Tryd.prog W 0 sp held fuel 27 cs = some y) : ∃ x : Itn, cs = itnL x ∧ x.Ok := by
  obtain ⟨xs, m, _, _, _, hxs, hf⟩ := DataW.trod_struct Tryd.underlying27 ht
  have hxs4 : xs.length = 4 := hxs
  have get : ∀ i, i < 4 → ∃ z, xs[i]? = some z := fun i hi => ⟨xs[i], by simp [hxs4, hi]⟩
  obtain ⟨z0, e0⟩ := get 0 (by omega)
  obtain ⟨z1, e1⟩ := get 1 (by omega)
  obtain ⟨z2, e2⟩ := get 2 (by omega)
  obtain ⟨z3, e3⟩ := get 3 (by omega)
  have f0 := (hf 0 _ rfl).trans e0
  have f1 := (hf 1 _ rfl).trans e1
  have f2 := (hf 2 _ rfl).trans e2
  have f3 := (hf 3 _ rfl).trans e3
  replace f0 : DataW.trod enc Tryd.prog W 0 sp held m 22 ((cs.drop 0).take (Tryd.prog.cellsOf 22)) = some z0 := f0
  replace f1 : DataW.trod enc Tryd.prog W 0 sp held m 5 ((cs.drop 1).take (Tryd.prog.cellsOf 5)) = some z1 := f1
  replace f2 : DataW.trod enc Tryd.prog W 0 sp held m 5 ((cs.drop 2).take (Tryd.prog.cellsOf 5)) = some z2 := f2
  replace f3 : DataW.trod enc Tryd.prog W 0 sp held m 25 ((cs.drop 3).take (Tryd.prog.cellsOf 25)) = some z3 := f3
  rw [cellsU32] at f0
  rw [cellsByteT] at f1 f2
  rw [cellsInt] at f3
  obtain ⟨i, q0, _, w0⟩ := DataW.trod_int Tryd.underlying22 f0
  obtain ⟨t, q1, _, w1⟩ := DataW.trod_int Tryd.underlying5 f1
  obtain ⟨o, q2, _, w2⟩ := DataW.trod_int Tryd.underlying5 f2
  obtain ⟨d0, d1, d2, d3, q3⟩ := four_of ((cs.drop 3).take 4) (by simp; omega)
  rw [q3] at f3
  obtain ⟨y0, y1, y2, y3, m2, hx, hy0, hy1, hy2, hy3⟩ := trod_array4 Tryd.underlying25 cellsLimb f3
  obtain ⟨x0, i0, _, v0⟩ := DataW.trod_int Tryd.underlying23 hy0
  obtain ⟨x1, i1, _, v1⟩ := DataW.trod_int Tryd.underlying23 hy1
  obtain ⟨x2, i2, _, v2⟩ := DataW.trod_int Tryd.underlying23 hy2
  obtain ⟨x3, i3, _, v3⟩ := DataW.trod_int Tryd.underlying23 hy3
  simp at i0 i1 i2 i3
  subst i0 i1 i2 i3
  have bi := bounds_u32 w0
  have bt := bounds_u8 w1
  have bo := bounds_u8 w2
  have b0 := bounds_u64 v0
  have b1 := bounds_u64 v1
  have b2 := bounds_u64 v2
  have b3 := bounds_u64 v3
  obtain ⟨l0, l1, l2, l3⟩ := lm_four (a := x0) (b := x1) (c := x2) (d := x3) (by omega) (by omega) (by omega) (by omega)
  refine ⟨⟨i, t, o, four x0 x1 x2 x3⟩, ?_, ⟨by simp only []; omega, by simp only []; omega, by simp only []; omega, four_in (by omega) (by omega) (by omega) (by omega)⟩⟩
  unfold itnL
  simp only [l0, l1, l2, l3]
  apply List.ext_getElem?
  intro j
  have hj : j = 0 ∨ j = 1 ∨ j = 2 ∨ j = 3 ∨ j = 4 ∨ j = 5 ∨ j = 6 ∨ 7 ≤ j := by omega
  rcases hj with rfl | rfl | rfl | rfl | rfl | rfl | rfl | hj
  · exact cut_getI q0 (j := 0) (by omega)
  · exact cut_getI q1 (j := 0) (by omega)
  · exact cut_getI q2 (j := 0) (by omega)
  · exact cut_getI q3 (j := 0) (by omega)
  · exact cut_getI q3 (j := 1) (by omega)
  · exact cut_getI q3 (j := 2) (by omega)
  · exact cut_getI q3 (j := 3) (by omega)
  · rw [List.getElem?_eq_none (by omega), List.getElem?_eq_none (by simp; omega)]
theorem open_itn {H : Type} {enc : TypeId × Value → H} {W : World} {base : Nat} {sp : Nat → Bool} {held : Bool} {v : Value} {d : DataW H} {p : List MemPlace}
    (hv : Value.okWide Tryd.prog W .any base 27 v) (h : DataW.Trod enc Tryd.prog W 0 sp held 27 v d p) : ∃ x : Itn, v = itnV x ∧ x.Ok := by
  obtain ⟨cs, rfl, hsz, _⟩ : ∃ cs, v = .agg cs ∧ cs.size = Tryd.prog.cellsOf 27 ∧ Row.okWide Tryd.prog W .any base 27 cs := by
    simpa [Value.okWide, Tryd.underlying27] using hv
  rw [cellsItn] at hsz
  obtain ⟨fuel, hf⟩ := h
  obtain ⟨x, e, hx⟩ := itn_cells (cs := cs.toList) (by simpa using hsz) hf
  refine ⟨x, ?_, hx⟩
  have : cs = (itnL x).toArray := by rw [← e]
  rw [this]; rfl
theorem itn_at {H : Type} {enc : TypeId × Value → H} {W : World} {sp : Nat → Bool} {held : Bool} {a : Addr} {fuel : Nat} {cs : List Value} {y : DataW H × List MemPlace}
    (h : W.cells? 0 a 7 = some cs) (ht : DataW.trod enc Tryd.prog W 0 sp held fuel 27 cs = some y) : ∃ x : Itn, x.Ok ∧ a.spot = none ∧ W.rangeAt a.block a.off (itnL x) := by
  unfold World.cells? at h
  rw [if_pos (Nat.zero_le _)] at h
  have hlen : cs.length = 7 := by rw [mapM_some_length h]; simp
  have g : ∀ i, i < 7 → W.cell? (a.add i) = cs[i]? := fun i hi => mapM_some_get h i i (by simp [hi])
  obtain ⟨x, rfl, hx⟩ := itn_cells hlen ht
  have g0 := g 0 (by omega)
  have hspot : a.spot = none := by
    have g1 : W.cell? (a.add 0) = some (.int .u32 x.i) := g0
    simpa [Addr.add] using World.cell?_spot g1
  refine ⟨x, hx, hspot, fun j v hv => ?_⟩
  obtain ⟨b, off, spot⟩ := a
  simp only at hspot
  subst hspot
  have hj : j < 7 := by have := (List.getElem?_eq_some_iff.1 hv).1; simpa [itnL] using this
  have := g j hj
  rw [Addr.add_mid, hv] at this
  exact this
end Go.Proofs.YthcahgfoganehaaDoor
