/- Arguments that are slices of acts or of numbers, opened. -/
import Derived.Test.YtnjijnphjiiceaaRows
import Derived.WalkKit
import Derived.ProofKit
import Derived.OpenShut
import Derived.Test.YtnjijnphjiiceaaStgActs
import Derived.Deep.Slices
import Derived.Deep.MidRow
namespace Go.Proofs.Ytnjijnphjiiceaa
set_option linter.unusedSimpArgs false
set_option linter.unusedVariables false
set_option linter.unusedSectionVars false
open Go.ChangeShapes Go.WideShapes Go.ChangeAt Go.RowKit

theorem laidOutT : laidOutB Try.prog = true := by kernel_rfl
theorem cellsI64S : Try.prog.cellsOf 3 = 1 := by kernel_rfl
theorem cellsU8S : Try.prog.cellsOf 5 = 1 := by kernel_rfl
/-- Numbers, at an address. -/
def NumsS (w : World) (ao : Option Addr) (l : List Int) : Prop :=
  l = [] ∨ ∃ b off, ao = some ⟨b, off, none⟩ ∧ b < w.heap.size ∧ ∀ (j : Nat) x, l[j]? = some x → w.cell? ⟨b, off + j, none⟩ = some (.int .i64 x)
theorem NumsS.of {w w' : World} {ao : Option Addr} {l : List Int} (h : NumsS w ao l) (hs : w.heap.size ≤ w'.heap.size) (hb : ∀ b, ao.map (·.block) = some b → b < w.heap.size → w'.heap[b]? = w.heap[b]?) : NumsS w' ao l := by
  rcases h with h | ⟨b, off, rfl, hl, hc⟩
  · exact .inl h
  · have e : ∀ o, w'.cell? ⟨b, o, none⟩ = w.cell? ⟨b, o, none⟩ := fun o => World.cell?_of_block (w := w) (a := ⟨b, o, none⟩) (hb b rfl hl)
    exact .inr ⟨b, off, rfl, Nat.lt_of_lt_of_le hl hs, fun j x hx => (e _).trans (hc j x hx)⟩
theorem NumsS.below {w w' : World} {ao : Option Addr} {l : List Int} (h : NumsS w ao l) (hb : Below w.heap.size w w') : NumsS w' ao l := h.of hb.size fun b _ hl => hb.block b hl
theorem NumsS.get {w : World} {ao : Option Addr} {l : List Int} (h : NumsS w ao l) {j : Nat} {x : Int} (hx : l[j]? = some x) : ∃ b off, ao = some ⟨b, off, none⟩ ∧ b < w.heap.size ∧ w.cell? ⟨b, off + j, none⟩ = some (.int .i64 x) := by
  rcases h with rfl | ⟨b, off, e, hl, hc⟩
  · simp at hx
  · exact ⟨b, off, e, hl, hc j x hx⟩
set_option maxRecDepth 100000 in
theorem open_nums {H : Type} {enc : TypeId × Value → H} {W : World} {base : Nat} {v : Value} {d : DataW H} {p : List MemPlace}
    (hv : Value.okWide Try.prog W .any base 55 v) (h : DataW.Trod enc Try.prog W 0 (fun _ => true) true 55 v d p) :
    ∃ ao cap l, v = .slice ao (List.length l) cap ∧ l.length ≤ cap ∧ cap ≤ maxLen ∧ NumsS W ao l ∧ ∀ x ∈ l, (Lit.int .i64 x).wf = true := by
  obtain ⟨a0, len, cap, rfl⟩ := okWide_slice Try.underlying55 hv
  obtain ⟨fuel, hf⟩ := h
  rcases open_ints Try.underlying55 Try.underlying3 cellsI64S hf with ⟨hcs, hx⟩ | ⟨a, len', cap', zs, hcs, _, hle, hmax, hall, hx, hcell, hwf⟩
  · simp [Value.cells] at hcs
    obtain ⟨rfl, rfl, rfl⟩ := hcs
    exact ⟨none, 0, [], rfl, Nat.le_refl _, by simp [maxLen], .inl rfl, fun x hx => by simp at hx⟩
  · simp [Value.cells] at hcs
    obtain ⟨rfl, rfl, rfl⟩ := hcs
    have hlen : len ≤ zs.length := by rw [hall]; split <;> omega
    have hl : (zs.take len).length = len := by simp; omega
    refine ⟨some a, cap, zs.take len, by rw [hl], by rw [hl]; exact hle, hmax, ?_, fun x hx => hwf x (List.mem_of_mem_take hx)⟩
    by_cases hp : 0 < len
    · obtain ⟨b, off, rfl, hc⟩ := ints_at hcell (by omega)
      refine .inr ⟨b, off, rfl, World.block_lt_of_cell? W _ (hc 0 (by omega)), fun j x hx => ?_⟩
      have hj : j < len := by have := (List.getElem?_eq_some_iff.1 hx).1; omega
      rw [hc j (by omega)]
      rw [List.getElem?_take, if_pos hj] at hx
      simp [hx]
    · obtain rfl : len = 0 := by omega
      exact .inl (by simp)
theorem cellsActS : Try.prog.cellsOf 36 = 4 := by kernel_rfl
theorem cut_getS {cs l : List Value} {o m : Nat} (h : (cs.drop o).take m = l) {j : Nat} (hj : j < m) : cs[o + j]? = l[j]? := by
  rw [← h, List.getElem?_take, if_pos hj, List.getElem?_drop]
/-- An act by its cells. -/
theorem act_cellsS {H : Type} {enc : TypeId × Value → H} {W : World} {sp : Nat → Bool} {held : Bool} {fuel : Nat} {cs : List Value} {y : DataW H × List MemPlace} (_ : cs.length = 4)
    (ht : DataW.trod enc Try.prog W 0 sp held fuel 36 cs = some y) : ∃ x : AcS, (cs[0]? = some (.int .u8 x.k) ∧ cs[1]? = some (.int .i64 x.K) ∧ cs[2]? = some (.int .i64 x.V) ∧ cs[3]? = some (.int .i64 x.N)) ∧ x.Ok := by
  obtain ⟨xs, m, _, _, _, hxs, hf⟩ := DataW.trod_struct Try.underlying36 ht
  have hxs4 : xs.length = 4 := hxs
  have get : ∀ i, i < 4 → ∃ z, xs[i]? = some z := fun i hi => ⟨xs[i], by simp [hxs4, hi]⟩
  obtain ⟨z0, e0⟩ := get 0 (by omega)
  obtain ⟨z1, e1⟩ := get 1 (by omega)
  obtain ⟨z2, e2⟩ := get 2 (by omega)
  obtain ⟨z3, e3⟩ := get 3 (by omega)
  have f0 := (hf 0 _ rfl).trans e0
  have f1 := (hf 1 _ rfl).trans e1
  have f2 := (hf 2 _ rfl).trans e2
  have f3 := (hf 3 _ rfl).trans e3
  replace f0 : DataW.trod enc Try.prog W 0 sp held m 5 ((cs.drop 0).take (Try.prog.cellsOf 5)) = some z0 := f0
  replace f1 : DataW.trod enc Try.prog W 0 sp held m 3 ((cs.drop 1).take (Try.prog.cellsOf 3)) = some z1 := f1
  replace f2 : DataW.trod enc Try.prog W 0 sp held m 3 ((cs.drop 2).take (Try.prog.cellsOf 3)) = some z2 := f2
  replace f3 : DataW.trod enc Try.prog W 0 sp held m 3 ((cs.drop 3).take (Try.prog.cellsOf 3)) = some z3 := f3
  rw [cellsU8S] at f0
  rw [cellsI64S] at f1 f2 f3
  obtain ⟨k, q0, _, w0⟩ := DataW.trod_int Try.underlying5 f0
  obtain ⟨K, q1, _, w1⟩ := DataW.trod_int Try.underlying3 f1
  obtain ⟨V, q2, _, w2⟩ := DataW.trod_int Try.underlying3 f2
  obtain ⟨N, q3, _, w3⟩ := DataW.trod_int Try.underlying3 f3
  exact ⟨⟨k, K, V, N⟩, ⟨cut_getS q0 (j := 0) (by omega), cut_getS q1 (j := 0) (by omega), cut_getS q2 (j := 0) (by omega), cut_getS q3 (j := 0) (by omega)⟩, show 0 ≤ k ∧ k ≤ 255 by have := bounds_u8 w0; omega, w1, w2, w3⟩
theorem act_atS {H : Type} {enc : TypeId × Value → H} {W : World} {sp : Nat → Bool} {held : Bool} {a : Addr} {fuel : Nat} {cs : List Value} {y : DataW H × List MemPlace}
    (h : W.cells? 0 a 4 = some cs) (ht : DataW.trod enc Try.prog W 0 sp held fuel 36 cs = some y) : ∃ x : AcS, x.Ok ∧ a.spot = none ∧ W.cell? (a.add 0) = some (.int .u8 x.k) ∧ W.cell? (a.add 1) = some (.int .i64 x.K) ∧ W.cell? (a.add 2) = some (.int .i64 x.V) ∧ W.cell? (a.add 3) = some (.int .i64 x.N) := by
  unfold World.cells? at h
  rw [if_pos (Nat.zero_le _)] at h
  have hlen : cs.length = 4 := by rw [mapM_some_length h]; simp
  have g : ∀ i, i < 4 → W.cell? (a.add i) = cs[i]? := fun i hi => mapM_some_get h i i (by simp [hi])
  obtain ⟨x, ⟨c0, c1, c2, c3⟩, hx⟩ := act_cellsS hlen ht
  have g0 := (g 0 (by omega)).trans c0
  exact ⟨x, hx, by simpa [Addr.add] using World.cell?_spot g0, g0, (g 1 (by omega)).trans c1, (g 2 (by omega)).trans c2, (g 3 (by omega)).trans c3⟩
theorem addr_twoS (b o i j : Nat) : ((⟨b, o, none⟩ : Addr).add i).add j = ⟨b, o + i + j, none⟩ := by rw [Addr.add_mid, Addr.add_mid]
theorem open_actsS {H : Type} {enc : TypeId × Value → H} {W : World} {base : Nat} {v : Value} {d : DataW H} {p : List MemPlace}
    (hv : Value.okWide Try.prog W .any base 22 v) (h : DataW.Trod enc Try.prog W 0 (fun _ => true) true 22 v d p) :
    ∃ ao cap xs, v = .slice ao (List.length xs) cap ∧ xs.length ≤ cap ∧ cap ≤ maxLen ∧ ActsS W ao xs ∧ ∀ x ∈ xs, AcS.Ok x := by
  obtain ⟨a0, len, cap, rfl⟩ := okWide_slice Try.underlying22 hv
  obtain ⟨fuel, hf⟩ := h
  rcases Go.Deep.open_slice Try.underlying22 hf with ⟨hcs, hx⟩ | ⟨a, len', cap', m, n, D, Pl, hcs, _, hle, hmax, hm, hx, hel⟩
  · simp [Value.cells] at hcs
    obtain ⟨rfl, rfl, rfl⟩ := hcs
    exact ⟨none, 0, [], rfl, Nat.le_refl _, by simp [maxLen], .inl rfl, fun q hq => by simp at hq⟩
  · simp [Value.cells] at hcs
    obtain ⟨rfl, rfl, rfl⟩ := hcs
    simp only [if_true] at hm
    subst hm
    rw [cellsActS] at hel
    haveI : Inhabited AcS := ⟨⟨0, 0, 0, 0⟩⟩
    obtain ⟨f, hF⟩ := Go.Deep.choose_lt (α := AcS) (p := fun i x => x.Ok ∧ (a.add (i * 4)).spot = none ∧ W.cell? ((a.add (i * 4)).add 0) = some (.int .u8 x.k) ∧ W.cell? ((a.add (i * 4)).add 1) = some (.int .i64 x.K) ∧ W.cell? ((a.add (i * 4)).add 2) = some (.int .i64 x.V) ∧ W.cell? ((a.add (i * 4)).add 3) = some (.int .i64 x.N)) (fun i hi => by
      obtain ⟨cs', h1, h2⟩ := hel i hi
      exact act_atS h1 h2)
    refine ⟨some a, _, (List.range len).map f, by simp, by simpa using hle, hmax, ?_, fun q hq => ?_⟩
    · by_cases hp : 0 < len
      · obtain ⟨b, off, spot⟩ := a
        have h0 := hF 0 (by omega)
        have hspot : spot = none := by simpa [Addr.add] using h0.2.1
        subst hspot
        have hc0 := h0.2.2.1
        rw [addr_twoS] at hc0
        refine .inr ⟨b, off, rfl, World.block_lt_of_cell? W _ hc0, fun j x hx => ?_⟩
        have hj : j < len := by have := (List.getElem?_eq_some_iff.1 hx).1; simpa using this
        have hxe : f j = x := by simpa [hj] using hx
        obtain ⟨_, _, r0, r1, r2, r3⟩ := hF j (by omega)
        rw [hxe, addr_twoS] at r0 r1 r2 r3
        exact ⟨r0, r1, r2, r3⟩
      · obtain rfl : len = 0 := by omega
        exact .inl (by simp)
    · obtain ⟨j, hj, rfl⟩ := List.mem_map.1 hq
      exact (hF j (by have := List.mem_range.1 hj; omega)).1
end Go.Proofs.Ytnjijnphjiiceaa
