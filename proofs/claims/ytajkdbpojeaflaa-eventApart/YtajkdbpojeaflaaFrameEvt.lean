/- Arguments that are slices of events, opened. -/
import Derived.Test.YtajkdbpojeaflaaFrameInt
import Derived.Test.YtajkdbpojeaflaaFrameBl
import Derived.Test.YtajkdbpojeaflaaEvts
import Derived.Deep.Slices
namespace Go.Proofs.Ytajkdbpojeaflaa
open Go.ChangeShapes Go.WideShapes Go.ChangeAt Go.RowKit

theorem cellsU32E : Try.prog.cellsOf 35 = 1 := by kernel_rfl
theorem cellsHashE : Try.prog.cellsOf 32 = 32 := by kernel_rfl
theorem cellsEvt : Try.prog.cellsOf 40 = 47 := by kernel_rfl
theorem cut_getE {cs l : List Value} {o m : Nat} (h : (cs.drop o).take m = l) {j : Nat} (hj : j < m) : cs[o + j]? = l[j]? := by
  rw [← h, List.getElem?_take, if_pos hj, List.getElem?_drop]
set_option maxRecDepth 100000 in
theorem hsh_cells {H : Type} {enc : TypeId × Value → H} {W : World} {sp : Nat → Bool} {held : Bool} {fuel : Nat} {cs : List Value} {y : DataW H × List MemPlace} (hlen : cs.length = 32)
    (ht : DataW.trod enc Try.prog W 0 sp held fuel 32 cs = some y) : ∃ f : Nat → Int, cs = rowV 32 f ∧ (∀ j, 0 ≤ f j ∧ f j < 256) ∧ ∀ j, 32 ≤ j → f j = 0 := by
  obtain ⟨hs, m3, _, _, hl3, hhs, hh⟩ := DataW.trod_array Try.underlying32 ht
  have hbyte : ∀ j, j < 32 → ∃ b : Int, (0 ≤ b ∧ b < 256) ∧ cs[j]? = some (.int .u8 b) := by
    intro j hj
    obtain ⟨z, ez⟩ : ∃ z, hs[j]? = some z := ⟨hs[j], by simp [hhs, hj]⟩
    have f := (hh j hj).trans ez
    rw [cellsByteT, Nat.mul_one] at f
    obtain ⟨b, qb, _, wb⟩ := DataW.trod_int Try.underlying5 f
    have bb := bounds_u8 wb
    refine ⟨b, by omega, ?_⟩
    have := cut_getE qb (j := 0) (by omega)
    rw [Nat.add_zero] at this
    exact this
  obtain ⟨fh, hfh⟩ := Go.Deep.choose_lt (α := Int) (p := fun j b => (0 ≤ b ∧ b < 256) ∧ cs[j]? = some (.int .u8 b)) hbyte
  refine ⟨fun j => if j < 32 then fh j else 0, ?_, fun j => ?_, fun j hj => if_neg (by omega)⟩
  · apply List.ext_getElem?
    intro j
    by_cases hj : j < 32
    · rw [rowV_get hj, (hfh j hj).2, if_pos hj]
    · rw [List.getElem?_eq_none (by omega), List.getElem?_eq_none (by rw [rowV_length]; omega)]
  · show 0 ≤ (if j < 32 then fh j else 0) ∧ (if j < 32 then fh j else 0) < 256
    by_cases hj : j < 32
    · rw [if_pos hj]; exact (hfh j hj).1
    · rw [if_neg hj]; omega
set_option maxRecDepth 100000 in
/-- An event by its cells. -/
theorem evt_cells {H : Type} {enc : TypeId × Value → H} {W : World} {sp : Nat → Bool} {held : Bool} {fuel : Nat} {cs : List Value} {y : DataW H × List MemPlace} (hlen : cs.length = 47)
    (ht : DataW.trod enc Try.prog W 0 sp held fuel 40 cs = some y) : ∃ x : Evt, cs = ec x ∧ x.Ok := by
  obtain ⟨xs, m, _, _, _, hxs, hf⟩ := DataW.trod_struct Try.underlying40 ht
  have hxs10 : xs.length = 10 := hxs
  have get : ∀ i, i < 10 → ∃ z, xs[i]? = some z := fun i hi => ⟨xs[i], by simp [hxs10, hi]⟩
  obtain ⟨z0, e0⟩ := get 0 (by omega)
  obtain ⟨z1, e1⟩ := get 1 (by omega)
  obtain ⟨z2, e2⟩ := get 2 (by omega)
  obtain ⟨z3, e3⟩ := get 3 (by omega)
  obtain ⟨z4, e4⟩ := get 4 (by omega)
  obtain ⟨z5, e5⟩ := get 5 (by omega)
  obtain ⟨z6, e6⟩ := get 6 (by omega)
  obtain ⟨z7, e7⟩ := get 7 (by omega)
  obtain ⟨z8, e8⟩ := get 8 (by omega)
  obtain ⟨z9, e9⟩ := get 9 (by omega)
  have f0 := (hf 0 _ rfl).trans e0
  have f1 := (hf 1 _ rfl).trans e1
  have f2 := (hf 2 _ rfl).trans e2
  have f3 := (hf 3 _ rfl).trans e3
  have f4 := (hf 4 _ rfl).trans e4
  have f5 := (hf 5 _ rfl).trans e5
  have f6 := (hf 6 _ rfl).trans e6
  have f7 := (hf 7 _ rfl).trans e7
  have f8 := (hf 8 _ rfl).trans e8
  have f9 := (hf 9 _ rfl).trans e9
  replace f0 : DataW.trod enc Try.prog W 0 sp held m 5 ((cs.drop 0).take (Try.prog.cellsOf 5)) = some z0 := f0
  rw [cellsByteT] at f0
  replace f1 : DataW.trod enc Try.prog W 0 sp held m 30 ((cs.drop 1).take (Try.prog.cellsOf 30)) = some z1 := f1
  rw [cellsLimb] at f1
  replace f2 : DataW.trod enc Try.prog W 0 sp held m 32 ((cs.drop 2).take (Try.prog.cellsOf 32)) = some z2 := f2
  rw [cellsHashE] at f2
  replace f3 : DataW.trod enc Try.prog W 0 sp held m 5 ((cs.drop 34).take (Try.prog.cellsOf 5)) = some z3 := f3
  rw [cellsByteT] at f3
  replace f4 : DataW.trod enc Try.prog W 0 sp held m 5 ((cs.drop 35).take (Try.prog.cellsOf 5)) = some z4 := f4
  rw [cellsByteT] at f4
  replace f5 : DataW.trod enc Try.prog W 0 sp held m 5 ((cs.drop 36).take (Try.prog.cellsOf 5)) = some z5 := f5
  rw [cellsByteT] at f5
  replace f6 : DataW.trod enc Try.prog W 0 sp held m 5 ((cs.drop 37).take (Try.prog.cellsOf 5)) = some z6 := f6
  rw [cellsByteT] at f6
  replace f7 : DataW.trod enc Try.prog W 0 sp held m 34 ((cs.drop 38).take (Try.prog.cellsOf 34)) = some z7 := f7
  rw [cellsInt] at f7
  replace f8 : DataW.trod enc Try.prog W 0 sp held m 34 ((cs.drop 42).take (Try.prog.cellsOf 34)) = some z8 := f8
  rw [cellsInt] at f8
  replace f9 : DataW.trod enc Try.prog W 0 sp held m 35 ((cs.drop 46).take (Try.prog.cellsOf 35)) = some z9 := f9
  rw [cellsU32E] at f9
  obtain ⟨vk, q0, _, w0⟩ := DataW.trod_int Try.underlying5 f0
  have b0 := bounds_u8 w0
  obtain ⟨vb, q1, _, w1⟩ := DataW.trod_int Try.underlying30 f1
  have b1 := bounds_u64 w1
  obtain ⟨vs, q3, _, w3⟩ := DataW.trod_int Try.underlying5 f3
  have b3 := bounds_u8 w3
  obtain ⟨vt, q4, _, w4⟩ := DataW.trod_int Try.underlying5 f4
  have b4 := bounds_u8 w4
  obtain ⟨vf, q5, _, w5⟩ := DataW.trod_int Try.underlying5 f5
  have b5 := bounds_u8 w5
  obtain ⟨vu, q6, _, w6⟩ := DataW.trod_int Try.underlying5 f6
  have b6 := bounds_u8 w6
  obtain ⟨vn, q9, _, w9⟩ := DataW.trod_int Try.underlying35 f9
  have b9 := bounds_u32 w9
  obtain ⟨vh, q2, hh1, hh2⟩ := hsh_cells (by simp; omega) f2
  obtain ⟨a0, a1, a2, a3, q7⟩ := four_of ((cs.drop 38).take 4) (by simp; omega)
  rw [q7] at f7
  obtain ⟨y0, y1, y2, y3, m2, hx, hy0, hy1, hy2, hy3⟩ := trod_array4 Try.underlying34 cellsLimb f7
  obtain ⟨xa0, i0, _, v0⟩ := DataW.trod_int Try.underlying30 hy0
  obtain ⟨xa1, i1, _, v1⟩ := DataW.trod_int Try.underlying30 hy1
  obtain ⟨xa2, i2, _, v2⟩ := DataW.trod_int Try.underlying30 hy2
  obtain ⟨xa3, i3, _, v3⟩ := DataW.trod_int Try.underlying30 hy3
  simp at i0 i1 i2 i3
  subst i0 i1 i2 i3
  have ba0 := bounds_u64 v0
  have ba1 := bounds_u64 v1
  have ba2 := bounds_u64 v2
  have ba3 := bounds_u64 v3
  obtain ⟨la0, la1, la2, la3⟩ := lm_four (a := xa0) (b := xa1) (c := xa2) (d := xa3) (by omega) (by omega) (by omega) (by omega)
  clear hx hy0 hy1 hy2 hy3 v0 v1 v2 v3
  obtain ⟨c0, c1, c2, c3, q8⟩ := four_of ((cs.drop 42).take 4) (by simp; omega)
  rw [q8] at f8
  obtain ⟨y0, y1, y2, y3, m2, hx, hy0, hy1, hy2, hy3⟩ := trod_array4 Try.underlying34 cellsLimb f8
  obtain ⟨xc0, i0, _, v0⟩ := DataW.trod_int Try.underlying30 hy0
  obtain ⟨xc1, i1, _, v1⟩ := DataW.trod_int Try.underlying30 hy1
  obtain ⟨xc2, i2, _, v2⟩ := DataW.trod_int Try.underlying30 hy2
  obtain ⟨xc3, i3, _, v3⟩ := DataW.trod_int Try.underlying30 hy3
  simp at i0 i1 i2 i3
  subst i0 i1 i2 i3
  have bc0 := bounds_u64 v0
  have bc1 := bounds_u64 v1
  have bc2 := bounds_u64 v2
  have bc3 := bounds_u64 v3
  obtain ⟨lc0, lc1, lc2, lc3⟩ := lm_four (a := xc0) (b := xc1) (c := xc2) (d := xc3) (by omega) (by omega) (by omega) (by omega)
  clear hx hy0 hy1 hy2 hy3 v0 v1 v2 v3
  refine ⟨⟨vk, vb, vh, vs, vt, vf, vu, four xa0 xa1 xa2 xa3, four xc0 xc1 xc2 xc3, vn⟩, ?_, ⟨by simp only []; omega, by simp only []; omega, hh1, hh2, by simp only []; omega, by simp only []; omega, by simp only []; omega, by simp only []; omega, four_in (by omega) (by omega) (by omega) (by omega), four_in (by omega) (by omega) (by omega) (by omega), by simp only []; omega⟩⟩
  apply List.ext_getElem?
  intro j
  have hj : j = 0 ∨ j = 1 ∨ (2 ≤ j ∧ j < 34) ∨ j = 34 ∨ j = 35 ∨ j = 36 ∨ j = 37 ∨ j = 38 ∨ j = 39 ∨ j = 40 ∨ j = 41 ∨ j = 42 ∨ j = 43 ∨ j = 44 ∨ j = 45 ∨ j = 46 ∨ 47 ≤ j := by omega
  rcases hj with rfl | rfl | hj | rfl | rfl | rfl | rfl | rfl | rfl | rfl | rfl | rfl | rfl | rfl | rfl | rfl | hj
  · exact cut_getE q0 (j := 0) (by omega)
  · exact cut_getE q1 (j := 0) (by omega)
  · obtain ⟨i, rfl⟩ : ∃ i, j = 2 + i := ⟨j - 2, by omega⟩
    rw [ec_hash _ (by omega), cut_getE q2 (by omega), rowV_get (by omega)]
  · refine (cut_getE q3 (j := 0) (by omega)).trans ?_
    rw [ec_tail _ 0]
    simp [ecT]
  · refine (cut_getE q4 (j := 0) (by omega)).trans ?_
    rw [ec_tail _ 1]
    simp [ecT]
  · refine (cut_getE q5 (j := 0) (by omega)).trans ?_
    rw [ec_tail _ 2]
    simp [ecT]
  · refine (cut_getE q6 (j := 0) (by omega)).trans ?_
    rw [ec_tail _ 3]
    simp [ecT]
  · refine (cut_getE q7 (j := 0) (by omega)).trans ?_
    rw [ec_tail _ 4]
    simp [ecT, la0]
  · refine (cut_getE q7 (j := 1) (by omega)).trans ?_
    rw [ec_tail _ 5]
    simp [ecT, la1]
  · refine (cut_getE q7 (j := 2) (by omega)).trans ?_
    rw [ec_tail _ 6]
    simp [ecT, la2]
  · refine (cut_getE q7 (j := 3) (by omega)).trans ?_
    rw [ec_tail _ 7]
    simp [ecT, la3]
  · refine (cut_getE q8 (j := 0) (by omega)).trans ?_
    rw [ec_tail _ 8]
    simp [ecT, lc0]
  · refine (cut_getE q8 (j := 1) (by omega)).trans ?_
    rw [ec_tail _ 9]
    simp [ecT, lc1]
  · refine (cut_getE q8 (j := 2) (by omega)).trans ?_
    rw [ec_tail _ 10]
    simp [ecT, lc2]
  · refine (cut_getE q8 (j := 3) (by omega)).trans ?_
    rw [ec_tail _ 11]
    simp [ecT, lc3]
  · refine (cut_getE q9 (j := 0) (by omega)).trans ?_
    rw [ec_tail _ 12]
    simp [ecT]
  · rw [List.getElem?_eq_none (by omega), List.getElem?_eq_none (by rw [ec_length]; omega)]
theorem evt_at {H : Type} {enc : TypeId × Value → H} {W : World} {sp : Nat → Bool} {held : Bool} {a : Addr} {fuel : Nat} {cs : List Value} {y : DataW H × List MemPlace}
    (h : W.cells? 0 a 47 = some cs) (ht : DataW.trod enc Try.prog W 0 sp held fuel 40 cs = some y) : ∃ x : Evt, x.Ok ∧ a.spot = none ∧ W.rangeAt a.block a.off (ec x) := by
  unfold World.cells? at h
  rw [if_pos (Nat.zero_le _)] at h
  have hlen : cs.length = 47 := by rw [mapM_some_length h]; simp
  have g : ∀ i, i < 47 → W.cell? (a.add i) = cs[i]? := fun i hi => mapM_some_get h i i (by simp [hi])
  obtain ⟨x, rfl, hx⟩ := evt_cells hlen ht
  have g0 := g 0 (by omega)
  have hspot : a.spot = none := by
    have g1 : W.cell? (a.add 0) = some (.int .u8 x.k) := g0
    simpa [Addr.add] using World.cell?_spot g1
  refine ⟨x, hx, hspot, fun j v hv => ?_⟩
  obtain ⟨b, off, spot⟩ := a
  simp only at hspot
  subst hspot
  have hj : j < 47 := by have := (List.getElem?_eq_some_iff.1 hv).1; rwa [ec_length] at this
  have := g j hj
  rw [Addr.add_mid, hv] at this
  exact this
set_option maxRecDepth 100000 in
theorem open_evts {H : Type} {enc : TypeId × Value → H} {W : World} {base : Nat} {v : Value} {d : DataW H} {p : List MemPlace}
    (hv : Value.okWide Try.prog W .any base 22 v) (h : DataW.Trod enc Try.prog W 0 (fun _ => true) true 22 v d p) :
    ∃ ao cap xs, v = .slice ao (List.length xs) cap ∧ xs.length ≤ cap ∧ cap ≤ maxLen ∧ Evs W ao xs ∧ ∀ x ∈ xs, Evt.Ok x := by
  obtain ⟨a0, len, cap, rfl⟩ := okWide_slice Try.underlying22 hv
  obtain ⟨fuel, hf⟩ := h
  rcases Go.Deep.open_slice Try.underlying22 hf with ⟨hcs, hx⟩ | ⟨a, len', cap', m, n, D, Pl, hcs, _, hle, hmax, hm, hx, hel⟩
  · simp [Value.cells] at hcs
    obtain ⟨rfl, rfl, rfl⟩ := hcs
    exact ⟨none, 0, [], rfl, Nat.le_refl _, by simp [maxLen], .inl rfl, fun q hq => by simp at hq⟩
  · simp [Value.cells] at hcs
    obtain ⟨rfl, rfl, rfl⟩ := hcs
    simp only [if_true] at hm
    subst hm
    rw [cellsEvt] at hel
    haveI : Inhabited Evt := ⟨noEvt⟩
    obtain ⟨f, hF⟩ := Go.Deep.choose_lt (α := Evt) (p := fun i x => x.Ok ∧ (a.add (i * 47)).spot = none ∧ W.rangeAt (a.add (i * 47)).block (a.add (i * 47)).off (ec x)) (fun i hi => by
      obtain ⟨cs', h1, h2⟩ := hel i hi
      exact evt_at h1 h2)
    refine ⟨some a, _, (List.range len).map f, by simp, by simpa using hle, hmax, ?_, fun q hq => ?_⟩
    · by_cases hp : 0 < len
      · obtain ⟨b, off, spot⟩ := a
        have h0 := hF 0 (by omega)
        have hspot : spot = none := by simpa [Addr.add] using h0.2.1
        subst hspot
        have hc0 : W.cell? ⟨b, off + 0 * 47 + 0, none⟩ = some (.int .u8 (f 0).k) := by
          have := h0.2.2 0 _ rfl
          rw [Addr.add_mid] at this
          exact this
        refine .inr ⟨b, off, rfl, World.block_lt_of_cell? W _ hc0, fun j x hx => ?_⟩
        have hj : j < len := by have := (List.getElem?_eq_some_iff.1 hx).1; simpa using this
        have hxe : f j = x := by simpa [hj] using hx
        have := (hF j (by omega)).2.2
        rw [Addr.add_mid, hxe] at this
        exact this
      · obtain rfl : len = 0 := by omega
        exact .inl (by simp)
    · obtain ⟨j, hj, rfl⟩ := List.mem_map.1 hq
      exact (hF j (by have := List.mem_range.1 hj; omega)).1
end Go.Proofs.Ytajkdbpojeaflaa
