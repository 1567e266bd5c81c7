/- Acts in memory (sponsionlaw13.Act). An argument that is a row of four limbs, opened and shut. Arguments that are slices of acts or of numbers, opened. -/
import Derived.Test.YtncnilplmklccaaBkLaw
import Derived.Test.YtncnilplmklccaaRows
import Derived.WalkKit
import Derived.ProofKit
import Derived.OpenShut
import Derived.Laws.IdiomArrays
import Derived.Deep.Slices
import Derived.Deep.MidRow
/- Acts in memory (sponsionlaw13.Act). -/
namespace Go.Proofs.Ytncnilplmklccaa
set_option linter.unusedSimpArgs false
set_option linter.unusedVariables false
open Go.RowKit Go.Lib

/-- An act. -/
structure Ac where
  k : Int
  t : Int
  f : Int
  o : Int
  n : Int
structure Ac.Ok (x : Ac) : Prop where
  k : 0 ≤ x.k ∧ x.k < 256
  t : 0 ≤ x.t ∧ x.t < 256
  f : 0 ≤ x.f ∧ x.f < 256
  o : 0 ≤ x.o ∧ x.o < 256
  n : In x.n
/-- An act's cells. -/
def acV (x : Ac) : List Value := [.int .u8 x.k, .int .u8 x.t, .int .u8 x.f, .int .u8 x.o, .int .u64 (lm x.n 0), .int .u64 (lm x.n 1), .int .u64 (lm x.n 2), .int .u64 (lm x.n 3)]
/-- Acts, at an address. -/
def Acs (w : World) (ao : Option Addr) (xs : List Ac) : Prop :=
  xs = [] ∨ ∃ b off, ao = some ⟨b, off, none⟩ ∧ b < w.heap.size ∧ ∀ (j : Nat) x, xs[j]? = some x → w.cell? ⟨b, off + j * 8, none⟩ = some (.int .u8 x.k) ∧ w.cell? ⟨b, off + j * 8 + 1, none⟩ = some (.int .u8 x.t) ∧ w.cell? ⟨b, off + j * 8 + 2, none⟩ = some (.int .u8 x.f) ∧ w.cell? ⟨b, off + j * 8 + 3, none⟩ = some (.int .u8 x.o) ∧ w.cell? ⟨b, off + j * 8 + 4, none⟩ = some (.int .u64 (lm x.n 0)) ∧ w.cell? ⟨b, off + j * 8 + 5, none⟩ = some (.int .u64 (lm x.n 1)) ∧ w.cell? ⟨b, off + j * 8 + 6, none⟩ = some (.int .u64 (lm x.n 2)) ∧ w.cell? ⟨b, off + j * 8 + 7, none⟩ = some (.int .u64 (lm x.n 3))
theorem Acs.get {w : World} {ao : Option Addr} {xs : List Ac} (h : Acs w ao xs) {j : Nat} {x : Ac} (hx : xs[j]? = some x) :
    ∃ b off, ao = some ⟨b, off, none⟩ ∧ b < w.heap.size ∧ w.cell? ⟨b, off + j * 8, none⟩ = some (.int .u8 x.k) ∧ w.cell? ⟨b, off + j * 8 + 1, none⟩ = some (.int .u8 x.t) ∧ w.cell? ⟨b, off + j * 8 + 2, none⟩ = some (.int .u8 x.f) ∧ w.cell? ⟨b, off + j * 8 + 3, none⟩ = some (.int .u8 x.o) ∧ w.cell? ⟨b, off + j * 8 + 4, none⟩ = some (.int .u64 (lm x.n 0)) ∧ w.cell? ⟨b, off + j * 8 + 5, none⟩ = some (.int .u64 (lm x.n 1)) ∧ w.cell? ⟨b, off + j * 8 + 6, none⟩ = some (.int .u64 (lm x.n 2)) ∧ w.cell? ⟨b, off + j * 8 + 7, none⟩ = some (.int .u64 (lm x.n 3)) := by
  rcases h with rfl | ⟨b, off, e, hl, hc⟩
  · simp at hx
  · exact ⟨b, off, e, hl, hc j x hx⟩
/-- The same, where only what came behind it turned. -/
theorem Acs.got {W w : World} {ao : Option Addr} {xs : List Ac} (h : Acs W ao xs) (hb : Below W.heap.size W w) {j : Nat} {x : Ac} (hx : xs[j]? = some x) :
    ∃ b off, ao = some ⟨b, off, none⟩ ∧ w.cell? ⟨b, off + j * 8, none⟩ = some (.int .u8 x.k) ∧ w.cell? ⟨b, off + j * 8 + 1, none⟩ = some (.int .u8 x.t) ∧ w.cell? ⟨b, off + j * 8 + 2, none⟩ = some (.int .u8 x.f) ∧ w.cell? ⟨b, off + j * 8 + 3, none⟩ = some (.int .u8 x.o) ∧ w.cell? ⟨b, off + j * 8 + 4, none⟩ = some (.int .u64 (lm x.n 0)) ∧ w.cell? ⟨b, off + j * 8 + 5, none⟩ = some (.int .u64 (lm x.n 1)) ∧ w.cell? ⟨b, off + j * 8 + 6, none⟩ = some (.int .u64 (lm x.n 2)) ∧ w.cell? ⟨b, off + j * 8 + 7, none⟩ = some (.int .u64 (lm x.n 3)) := by
  obtain ⟨b, off, e, hl, hc⟩ := h.get hx
  have q := (bcell hb).1
  refine ⟨b, off, e, ?_⟩
  rw [q _ _ hl, q _ _ hl, q _ _ hl, q _ _ hl, q _ _ hl, q _ _ hl, q _ _ hl, q _ _ hl]
  exact hc
end Go.Proofs.Ytncnilplmklccaa

/- An argument that is a row of four limbs, opened and shut. -/
namespace Go.Proofs.Ytncnilplmklccaa
open Go.ChangeShapes Go.WideShapes Go.ChangeAt Go.RowKit

theorem cellsInt : Try.prog.cellsOf 55 = 4 := by kernel_rfl
theorem cellsLimb : Try.prog.cellsOf 23 = 1 := by kernel_rfl
theorem four_of (l : List Value) (h : l.length = 4) : ∃ a b c d, l = [a, b, c, d] := by
  match l, h with
  | [a, b, c, d], _ => exact ⟨a, b, c, d, rfl⟩
set_option maxRecDepth 100000 in
theorem open_big {H : Type} {enc : TypeId × Value → H} {W : World} {base : Nat} {sp : Nat → Bool} {held : Bool} {v : Value} {d : DataW H} {p : List MemPlace}
    (hv : Value.okWide Try.prog W .any base 55 v) (h : DataW.Trod enc Try.prog W 0 sp held 55 v d p) :
    ∃ a b c e : Int, v = .agg #[.int .u64 a, .int .u64 b, .int .u64 c, .int .u64 e] ∧ d = DataW.agg [.lit (.int .u64 a), .lit (.int .u64 b), .lit (.int .u64 c), .lit (.int .u64 e)] ∧ p = [] ∧ (Lit.int .u64 a).wf = true ∧ (Lit.int .u64 b).wf = true ∧ (Lit.int .u64 c).wf = true ∧ (Lit.int .u64 e).wf = true := by
  obtain ⟨cs, rfl, hsz, _⟩ : ∃ cs, v = .agg cs ∧ cs.size = Try.prog.cellsOf 55 ∧ Row.okWide Try.prog W .any base 55 cs := by
    simpa [Value.okWide, Try.underlying55] using hv
  rw [cellsInt] at hsz
  obtain ⟨l⟩ := cs
  obtain ⟨c0, c1, c2, c3, rfl⟩ := four_of l hsz
  obtain ⟨fuel, hf⟩ := h
  obtain ⟨y0, y1, y2, y3, m, hx, hy0, hy1, hy2, hy3⟩ := trod_array4 Try.underlying55 cellsLimb hf
  obtain ⟨x0, e0, rfl, w0⟩ := DataW.trod_int Try.underlying23 hy0
  obtain ⟨x1, e1, rfl, w1⟩ := DataW.trod_int Try.underlying23 hy1
  obtain ⟨x2, e2, rfl, w2⟩ := DataW.trod_int Try.underlying23 hy2
  obtain ⟨x3, e3, rfl, w3⟩ := DataW.trod_int Try.underlying23 hy3
  simp at e0 e1 e2 e3
  subst e0 e1 e2 e3
  simp only [Prod.mk.injEq] at hx
  obtain ⟨rfl, rfl⟩ := hx
  exact ⟨x0, x1, x2, x3, rfl, rfl, rfl, w0, w1, w2, w3⟩
theorem shut_big {H : Type} {enc : TypeId × Value → H} {W : World} {base : Nat} {sp : Nat → Bool} {held : Bool} {a b c e : Int}
    (w0 : (Lit.int .u64 a).wf = true) (w1 : (Lit.int .u64 b).wf = true) (w2 : (Lit.int .u64 c).wf = true) (w3 : (Lit.int .u64 e).wf = true) :
    DataW.Trod enc Try.prog W base sp held 55 (.agg #[.int .u64 a, .int .u64 b, .int .u64 c, .int .u64 e]) (DataW.agg [.lit (.int .u64 a), .lit (.int .u64 b), .lit (.int .u64 c), .lit (.int .u64 e)]) [] :=
  ⟨2, by simp [DataW.trod, Value.cells, Try.underlying55, Try.underlying23, cellsInt, cellsLimb, w0, w1, w2, w3, show List.range 4 = [0, 1, 2, 3] from rfl]⟩
end Go.Proofs.Ytncnilplmklccaa

/- Arguments that are slices of acts or of numbers, opened. -/
namespace Go.Proofs.Ytncnilplmklccaa
set_option linter.unusedSimpArgs false
set_option linter.unusedVariables false
set_option linter.unusedSectionVars false
open Go.ChangeShapes Go.WideShapes Go.ChangeAt Go.RowKit

theorem laidOutT : laidOutB Try.prog = true := by kernel_rfl
theorem cellsU8S : Try.prog.cellsOf 5 = 1 := by kernel_rfl
theorem cellsActS : Try.prog.cellsOf 69 = 8 := by kernel_rfl
theorem cut_getS {cs l : List Value} {o m : Nat} (h : (cs.drop o).take m = l) {j : Nat} (hj : j < m) : cs[o + j]? = l[j]? := by
  rw [← h, List.getElem?_take, if_pos hj, List.getElem?_drop]
/-- An act by its cells. -/
theorem act_cellsS {H : Type} {enc : TypeId × Value → H} {W : World} {sp : Nat → Bool} {held : Bool} {fuel : Nat} {cs : List Value} {y : DataW H × List MemPlace} (_ : cs.length = 8)
    (ht : DataW.trod enc Try.prog W 0 sp held fuel 69 cs = some y) : ∃ x : Ac, (cs[0]? = some (.int .u8 x.k) ∧ cs[1]? = some (.int .u8 x.t) ∧ cs[2]? = some (.int .u8 x.f) ∧ cs[3]? = some (.int .u8 x.o) ∧ cs[4]? = some (.int .u64 (lm x.n 0)) ∧ cs[5]? = some (.int .u64 (lm x.n 1)) ∧ cs[6]? = some (.int .u64 (lm x.n 2)) ∧ cs[7]? = some (.int .u64 (lm x.n 3))) ∧ x.Ok := by
  obtain ⟨xs, m, _, _, _, hxs, hf⟩ := DataW.trod_struct Try.underlying69 ht
  have hxs5 : xs.length = 5 := hxs
  have get : ∀ i, i < 5 → ∃ z, xs[i]? = some z := fun i hi => ⟨xs[i], by simp [hxs5, hi]⟩
  obtain ⟨z0, e0⟩ := get 0 (by omega)
  obtain ⟨z1, e1⟩ := get 1 (by omega)
  obtain ⟨z2, e2⟩ := get 2 (by omega)
  obtain ⟨z3, e3⟩ := get 3 (by omega)
  obtain ⟨z4, e4⟩ := get 4 (by omega)
  have f0 := (hf 0 _ rfl).trans e0
  have f1 := (hf 1 _ rfl).trans e1
  have f2 := (hf 2 _ rfl).trans e2
  have f3 := (hf 3 _ rfl).trans e3
  have f4 := (hf 4 _ rfl).trans e4
  replace f0 : DataW.trod enc Try.prog W 0 sp held m 5 ((cs.drop 0).take (Try.prog.cellsOf 5)) = some z0 := f0
  replace f1 : DataW.trod enc Try.prog W 0 sp held m 5 ((cs.drop 1).take (Try.prog.cellsOf 5)) = some z1 := f1
  replace f2 : DataW.trod enc Try.prog W 0 sp held m 5 ((cs.drop 2).take (Try.prog.cellsOf 5)) = some z2 := f2
  replace f3 : DataW.trod enc Try.prog W 0 sp held m 5 ((cs.drop 3).take (Try.prog.cellsOf 5)) = some z3 := f3
  replace f4 : DataW.trod enc Try.prog W 0 sp held m 55 ((cs.drop 4).take (Try.prog.cellsOf 55)) = some z4 := f4
  rw [cellsU8S] at f0 f1 f2 f3
  rw [cellsInt] at f4
  obtain ⟨k, q0, _, w0⟩ := DataW.trod_int Try.underlying5 f0
  obtain ⟨t, q1, _, w1⟩ := DataW.trod_int Try.underlying5 f1
  obtain ⟨f, q2, _, w2⟩ := DataW.trod_int Try.underlying5 f2
  obtain ⟨o, q3, _, w3⟩ := DataW.trod_int Try.underlying5 f3
  obtain ⟨d0, d1, d2, d3, q4⟩ : ∃ d0 d1 d2 d3, (cs.drop 4).take 4 = [d0, d1, d2, d3] := by
    have hl : ((cs.drop 4).take 4).length = 4 := by simp; omega
    match (cs.drop 4).take 4, hl with
    | [a, b, c, d], _ => exact ⟨a, b, c, d, rfl⟩
  rw [q4] at f4
  obtain ⟨y0, y1, y2, y3, m2, hx, hy0, hy1, hy2, hy3⟩ := trod_array4 Try.underlying55 cellsLimb f4
  obtain ⟨x0, i0, _, v0⟩ := DataW.trod_int Try.underlying23 hy0
  obtain ⟨x1, i1, _, v1⟩ := DataW.trod_int Try.underlying23 hy1
  obtain ⟨x2, i2, _, v2⟩ := DataW.trod_int Try.underlying23 hy2
  obtain ⟨x3, i3, _, v3⟩ := DataW.trod_int Try.underlying23 hy3
  simp at i0 i1 i2 i3
  subst i0 i1 i2 i3
  have bk := bounds_u8 w0
  have bt := bounds_u8 w1
  have bf := bounds_u8 w2
  have bo := bounds_u8 w3
  have b0 := bounds_u64 v0
  have b1 := bounds_u64 v1
  have b2 := bounds_u64 v2
  have b3 := bounds_u64 v3
  obtain ⟨l0, l1, l2, l3⟩ := lm_four (a := x0) (b := x1) (c := x2) (d := x3) (by omega) (by omega) (by omega) (by omega)
  refine ⟨⟨k, t, f, o, four x0 x1 x2 x3⟩, ?_, ⟨by simp only []; omega, by simp only []; omega, by simp only []; omega, by simp only []; omega, four_in (by omega) (by omega) (by omega) (by omega)⟩⟩
  simp only [l0, l1, l2, l3]
  exact ⟨cut_getS q0 (j := 0) (by omega), cut_getS q1 (j := 0) (by omega), cut_getS q2 (j := 0) (by omega), cut_getS q3 (j := 0) (by omega), cut_getS q4 (j := 0) (by omega), cut_getS q4 (j := 1) (by omega), cut_getS q4 (j := 2) (by omega), cut_getS q4 (j := 3) (by omega)⟩
set_option maxRecDepth 100000 in
theorem act_atS {H : Type} {enc : TypeId × Value → H} {W : World} {sp : Nat → Bool} {held : Bool} {a : Addr} {fuel : Nat} {cs : List Value} {y : DataW H × List MemPlace}
    (h : W.cells? 0 a 8 = some cs) (ht : DataW.trod enc Try.prog W 0 sp held fuel 69 cs = some y) : ∃ x : Ac, x.Ok ∧ a.spot = none ∧ W.cell? (a.add 0) = some (.int .u8 x.k) ∧ W.cell? (a.add 1) = some (.int .u8 x.t) ∧ W.cell? (a.add 2) = some (.int .u8 x.f) ∧ W.cell? (a.add 3) = some (.int .u8 x.o) ∧ W.cell? (a.add 4) = some (.int .u64 (lm x.n 0)) ∧ W.cell? (a.add 5) = some (.int .u64 (lm x.n 1)) ∧ W.cell? (a.add 6) = some (.int .u64 (lm x.n 2)) ∧ W.cell? (a.add 7) = some (.int .u64 (lm x.n 3)) := by
  unfold World.cells? at h
  rw [if_pos (Nat.zero_le _)] at h
  have hlen : cs.length = 8 := by rw [mapM_some_length h]; simp
  have g : ∀ i, i < 8 → W.cell? (a.add i) = cs[i]? := fun i hi => mapM_some_get h i i (by simp [hi])
  obtain ⟨x, ⟨c0, c1, c2, c3, c4, c5, c6, c7⟩, hx⟩ := act_cellsS hlen ht
  have g0 := (g 0 (by omega)).trans c0
  exact ⟨x, hx, by simpa [Addr.add] using World.cell?_spot g0, g0, (g 1 (by omega)).trans c1, (g 2 (by omega)).trans c2, (g 3 (by omega)).trans c3, (g 4 (by omega)).trans c4, (g 5 (by omega)).trans c5, (g 6 (by omega)).trans c6, (g 7 (by omega)).trans c7⟩
theorem addr_twoS (b o i j : Nat) : ((⟨b, o, none⟩ : Addr).add i).add j = ⟨b, o + i + j, none⟩ := by rw [Addr.add_mid, Addr.add_mid]
end Go.Proofs.Ytncnilplmklccaa
