/- Arguments that are slices of bytes and of items, opened. -/
import Derived.Test.YtnhgadnmppjdeaaFrameInt
import Derived.Test.YtnhgadnmppjdeaaPackItem
import Derived.Test.YtnhgadnmppjdeaaFrameBl
import Derived.Deep.Slices
namespace Go.Proofs.Ytnhgadnmppjdeaa
open Go.ChangeShapes Go.WideShapes Go.ChangeAt Go.RowKit

theorem cellsIT : Try.prog.cellsOf 3 = 1 := by kernel_rfl
theorem cellsHash : Try.prog.cellsOf 33 = 32 := by kernel_rfl
theorem cellsBs : Try.prog.cellsOf 26 = 1 := by kernel_rfl
theorem cellsItem : Try.prog.cellsOf 35 = 41 := by kernel_rfl
theorem cut_get {cs l : List Value} {o m : Nat} (h : (cs.drop o).take m = l) {j : Nat} (hj : j < m) : cs[o + j]? = l[j]? := by
  rw [← h, List.getElem?_take, if_pos hj, List.getElem?_drop]
theorem item_cells {H : Type} {enc : TypeId × Value → H} {W : World} {sp : Nat → Bool} {held : Bool} {a : Addr} {fuel : Nat} {cs : List Value} {y : DataW H × List MemPlace}
    (h : W.cells? 0 a 41 = some cs) (ht : DataW.trod enc Try.prog W 0 sp held fuel 35 cs = some y) :
    ∃ T : Itm, T.Ok ∧ a.spot = none ∧ W.rangeAt a.block a.off (itmV T) ∧ At W T.bo T.bl := by
  unfold World.cells? at h
  rw [if_pos (Nat.zero_le _)] at h
  have hlen : cs.length = 41 := by rw [mapM_some_length h]; simp
  have g : ∀ i, i < 41 → W.cell? (a.add i) = cs[i]? := fun i hi => mapM_some_get h i i (by simp [hi])
  obtain ⟨xs, m, _, _, _, hxs, hf⟩ := DataW.trod_struct Try.underlying35 ht
  have hxs7 : xs.length = 7 := hxs
  have get : ∀ i, i < 7 → ∃ z, xs[i]? = some z := fun i hi => ⟨xs[i], by simp [hxs7, hi]⟩
  obtain ⟨z0, e0⟩ := get 0 (by omega)
  obtain ⟨z1, e1⟩ := get 1 (by omega)
  obtain ⟨z2, e2⟩ := get 2 (by omega)
  obtain ⟨z3, e3⟩ := get 3 (by omega)
  obtain ⟨z4, e4⟩ := get 4 (by omega)
  obtain ⟨z5, e5⟩ := get 5 (by omega)
  obtain ⟨z6, e6⟩ := get 6 (by omega)
  have f0 := (hf 0 _ rfl).trans e0
  have f1 := (hf 1 _ rfl).trans e1
  have f2 := (hf 2 _ rfl).trans e2
  have f3 := (hf 3 _ rfl).trans e3
  have f4 := (hf 4 _ rfl).trans e4
  have f5 := (hf 5 _ rfl).trans e5
  have f6 := (hf 6 _ rfl).trans e6
  replace f0 : DataW.trod enc Try.prog W 0 sp held m 5 ((cs.drop 0).take (Try.prog.cellsOf 5)) = some z0 := f0
  replace f1 : DataW.trod enc Try.prog W 0 sp held m 29 ((cs.drop 1).take (Try.prog.cellsOf 29)) = some z1 := f1
  replace f2 : DataW.trod enc Try.prog W 0 sp held m 31 ((cs.drop 2).take (Try.prog.cellsOf 31)) = some z2 := f2
  replace f3 : DataW.trod enc Try.prog W 0 sp held m 33 ((cs.drop 6).take (Try.prog.cellsOf 33)) = some z3 := f3
  replace f4 : DataW.trod enc Try.prog W 0 sp held m 26 ((cs.drop 38).take (Try.prog.cellsOf 26)) = some z4 := f4
  replace f5 : DataW.trod enc Try.prog W 0 sp held m 3 ((cs.drop 39).take (Try.prog.cellsOf 3)) = some z5 := f5
  replace f6 : DataW.trod enc Try.prog W 0 sp held m 3 ((cs.drop 40).take (Try.prog.cellsOf 3)) = some z6 := f6
  rw [cellsByteT] at f0
  rw [cellsLimb] at f1
  rw [cellsInt] at f2
  rw [cellsHash] at f3
  rw [cellsBs] at f4
  rw [cellsIT] at f5 f6
  obtain ⟨kd, q0, _, w0⟩ := DataW.trod_int Try.underlying5 f0
  obtain ⟨x, q1, _, w1⟩ := DataW.trod_int Try.underlying29 f1
  obtain ⟨N, q5, _, w5⟩ := DataW.trod_int Try.underlying3 f5
  obtain ⟨E, q6, _, w6⟩ := DataW.trod_int Try.underlying3 f6
  obtain ⟨bo, bc, bl, q4, hb1, hb2, hb3, hb4, hb5⟩ := bytes_cell f4
  obtain ⟨d0, d1, d2, d3, q2⟩ := four_of ((cs.drop 2).take 4) (by simp; omega)
  rw [q2] at f2
  obtain ⟨y0, y1, y2, y3, m2, hx, hy0, hy1, hy2, hy3⟩ := trod_array4 Try.underlying31 cellsLimb f2
  obtain ⟨x0, i0, _, v0⟩ := DataW.trod_int Try.underlying29 hy0
  obtain ⟨x1, i1, _, v1⟩ := DataW.trod_int Try.underlying29 hy1
  obtain ⟨x2, i2, _, v2⟩ := DataW.trod_int Try.underlying29 hy2
  obtain ⟨x3, i3, _, v3⟩ := DataW.trod_int Try.underlying29 hy3
  simp at i0 i1 i2 i3
  subst i0 i1 i2 i3
  obtain ⟨hs, m3, _, _, hl3, hhs, hh⟩ := DataW.trod_array Try.underlying33 f3
  have hbyte : ∀ j, j < 32 → ∃ b : Int, (0 ≤ b ∧ b < 256) ∧ cs[6 + j]? = some (.int .u8 b) := by
    intro j hj
    have hz : ∃ z, hs[j]? = some z := ⟨hs[j], by simp [hhs, hj]⟩
    obtain ⟨z, ez⟩ := hz
    have f := (hh j hj).trans ez
    rw [cellsByteT, Nat.mul_one] at f
    obtain ⟨b, qb, _, wb⟩ := DataW.trod_int Try.underlying5 f
    have bb := bounds_u8 wb
    refine ⟨b, by omega, ?_⟩
    have := cut_get qb (j := 0) (by omega)
    rw [Nat.add_zero] at this
    rw [List.getElem?_take, if_pos hj, List.getElem?_drop] at this
    exact this
  obtain ⟨fh, hfh⟩ := Go.Deep.choose_lt (α := Int) (p := fun j b => (0 ≤ b ∧ b < 256) ∧ cs[6 + j]? = some (.int .u8 b)) hbyte
  have bx := bounds_u64 w1
  have bk := bounds_u8 w0
  have bN := bounds_i64 w5
  have bE := bounds_i64 w6
  have b0 := bounds_u64 v0
  have b1 := bounds_u64 v1
  have b2 := bounds_u64 v2
  have b3 := bounds_u64 v3
  obtain ⟨l0, l1, l2, l3⟩ := lm_four (a := x0) (b := x1) (c := x2) (d := x3) (by omega) (by omega) (by omega) (by omega)
  refine ⟨⟨kd, x, four x0 x1 x2 x3, fun j => if j < 32 then fh j else 0, bo, bc, bl, N, E⟩, ⟨by simp only []; omega, by simp only []; omega, four_in (by omega) (by omega) (by omega) (by omega), fun j => ?_, hb5, by simp only []; omega, by simp only []; omega, ⟨hb1, hb2⟩, hb3⟩, ?_, ?_, hb4⟩
  · show 0 ≤ (if j < 32 then fh j else 0) ∧ (if j < 32 then fh j else 0) < 256
    by_cases hj : j < 32
    · rw [if_pos hj]; exact (hfh j hj).1
    · rw [if_neg hj]; omega
  · have g0 := g 0 (by omega)
    have : cs[0]? = some (.int .u8 kd) := cut_get q0 (j := 0) (by omega)
    rw [this] at g0
    simpa [Addr.add] using World.cell?_spot g0
  · have hspot : a.spot = none := by
      have g0 := g 0 (by omega)
      have : cs[0]? = some (.int .u8 kd) := cut_get q0 (j := 0) (by omega)
      rw [this] at g0
      simpa [Addr.add] using World.cell?_spot g0
    obtain ⟨b, off, spot⟩ := a
    simp only at hspot
    subst hspot
    have hcs : cs = itmV ⟨kd, x, four x0 x1 x2 x3, fun j => if j < 32 then fh j else 0, bo, bc, bl, N, E⟩ := by
      apply List.ext_getElem?
      intro j
      have hj : j = 0 ∨ j = 1 ∨ j = 2 ∨ j = 3 ∨ j = 4 ∨ j = 5 ∨ (6 ≤ j ∧ j < 38) ∨ j = 38 ∨ j = 39 ∨ j = 40 ∨ 41 ≤ j := by omega
      rcases hj with rfl | rfl | rfl | rfl | rfl | rfl | hj | rfl | rfl | rfl | hj
      · exact cut_get q0 (j := 0) (by omega)
      · exact cut_get q1 (j := 0) (by omega)
      · refine (cut_get q2 (j := 0) (by omega)).trans ?_
        show some (Value.int .u64 x0) = some (.int .u64 (lm (four x0 x1 x2 x3) 0)); rw [l0]
      · refine (cut_get q2 (j := 1) (by omega)).trans ?_
        show some (Value.int .u64 x1) = some (.int .u64 (lm (four x0 x1 x2 x3) 1)); rw [l1]
      · refine (cut_get q2 (j := 2) (by omega)).trans ?_
        show some (Value.int .u64 x2) = some (.int .u64 (lm (four x0 x1 x2 x3) 2)); rw [l2]
      · refine (cut_get q2 (j := 3) (by omega)).trans ?_
        show some (Value.int .u64 x3) = some (.int .u64 (lm (four x0 x1 x2 x3) 3)); rw [l3]
      · obtain ⟨i, rfl⟩ : ∃ i, j = 6 + i := ⟨j - 6, by omega⟩
        rw [itmV_hash _ (by omega), (hfh i (by omega)).2]
        simp [show i < 32 by omega]
      · exact (cut_get q4 (j := 0) (by omega)).trans (itmV_tail ⟨kd, x, four x0 x1 x2 x3, fun j => if j < 32 then fh j else 0, bo, bc, bl, N, E⟩ 0).symm
      · exact (cut_get q5 (j := 0) (by omega)).trans (itmV_tail ⟨kd, x, four x0 x1 x2 x3, fun j => if j < 32 then fh j else 0, bo, bc, bl, N, E⟩ 1).symm
      · exact (cut_get q6 (j := 0) (by omega)).trans (itmV_tail ⟨kd, x, four x0 x1 x2 x3, fun j => if j < 32 then fh j else 0, bo, bc, bl, N, E⟩ 2).symm
      · rw [List.getElem?_eq_none (by omega), List.getElem?_eq_none (by rw [itmV_length]; omega)]
    intro j v hv
    have hj : j < 41 := by have := (List.getElem?_eq_some_iff.1 hv).1; rwa [itmV_length] at this
    have := g j hj
    rw [Addr.add_mid, hcs, hv] at this
    exact this
def noItm : Itm := ⟨0, 0, 0, fun _ => 0, none, 0, [], 0, 0⟩
theorem noItm_ok : noItm.Ok := ⟨by unfold noItm; simp only []; omega, by unfold noItm; simp only []; omega, In.zero, fun j => by unfold noItm; simp only []; omega, fun x hx => by simp [noItm] at hx, by unfold noItm; simp only []; omega, by unfold noItm; simp only []; omega, by simp [noItm], fun _ => rfl⟩
theorem open_items {H : Type} {enc : TypeId × Value → H} {W : World} {base : Nat} {v : Value} {d : DataW H} {p : List MemPlace}
    (hv : Value.okWide Try.prog W .any base 22 v) (h : DataW.Trod enc Try.prog W 0 (fun _ => true) true 22 v d p) :
    ∃ ao n cap t, v = .slice ao n cap ∧ Its W ao n cap t := by
  obtain ⟨a0, len, cap, rfl⟩ := okWide_slice Try.underlying22 hv
  obtain ⟨fuel, hf⟩ := h
  rcases Go.Deep.open_slice Try.underlying22 hf with ⟨hcs, hx⟩ | ⟨a, len', cap', m, n, D, Pl, hcs, _, hle, hmax, hm, hx, hel⟩
  · simp [Value.cells] at hcs
    obtain ⟨rfl, rfl, rfl⟩ := hcs
    exact ⟨none, 0, 0, fun _ => noItm, rfl, ⟨⟨Nat.le_refl _, by simp [maxLen]⟩, fun h => absurd h (by omega), fun i hi => absurd hi (by omega), fun _ => noItm_ok⟩⟩
  · simp [Value.cells] at hcs
    obtain ⟨rfl, rfl, rfl⟩ := hcs
    simp only [if_true] at hm
    subst hm
    rw [cellsItem] at hel
    haveI : Inhabited Itm := ⟨noItm⟩
    obtain ⟨f, hF⟩ := Go.Deep.choose_lt (α := Itm) (p := fun i T => T.Ok ∧ (a.add (i * 41)).spot = none ∧ W.rangeAt (a.add (i * 41)).block (a.add (i * 41)).off (itmV T) ∧ At W T.bo T.bl) (fun i hi => by
      obtain ⟨cs', h1, h2⟩ := hel i hi
      exact item_cells h1 h2)
    refine ⟨_, _, _, fun i => if i < m then f i else noItm, rfl, ⟨⟨hle, hmax⟩, fun hp => ?_, fun i hi => ?_, fun i => ?_⟩⟩
    · obtain ⟨b, off, spot⟩ := a
      have h0 := hF 0 (by omega)
      have hspot : spot = none := by simpa [Addr.add] using h0.2.1
      subst hspot
      have hc0 : W.cell? ⟨b, off + 0 * 41 + 0, none⟩ = some (.int .u8 (f 0).kd) := by
        have := h0.2.2.1 0 _ rfl
        rw [Addr.add_mid] at this
        exact this
      refine ⟨b, off, rfl, World.block_lt_of_cell? W _ hc0, fun i hi => ?_⟩
      have := (hF i (by omega)).2.2.1
      rw [Addr.add_mid] at this
      rw [if_pos (show i < m by omega)]
      exact this
    · rw [if_pos (show i < m by omega)]; exact (hF i (by omega)).2.2.2
    · show Itm.Ok (if i < m then f i else noItm)
      by_cases hi : i < m
      · rw [if_pos hi]; exact (hF i hi).1
      · rw [if_neg hi]; exact noItm_ok
end Go.Proofs.Ytnhgadnmppjdeaa
