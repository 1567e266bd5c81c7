/- Arguments that are tries, opened. -/
import Derived.Test.YtncnilplmklccaaFrameBk
import Derived.Test.YtncnilplmklccaaPrSteps
namespace Go.Proofs.Ytncnilplmklccaa
set_option linter.unusedSimpArgs false
set_option linter.unusedVariables false
set_option linter.unusedSectionVars false
open Go.ChangeShapes Go.WideShapes Go.ChangeAt Go.RowKit

set_option maxRecDepth 100000 in
/-- A slice of structs, each told by a value. -/
theorem open_structs {α H : Type} [Inhabited α] {enc : TypeId × Value → H} {W : World} {t e : TypeId} {c : Nat} (hc0 : 0 < c) (ht : Try.prog.underlying t = some (.slice e)) (hc : Try.prog.cellsOf e = c) {Q : α → List Value → Prop}
    (hel : ∀ (n : Nat) (cs : List Value) (y : DataW H × List MemPlace), cs.length = c → DataW.trod enc Try.prog W 0 (fun _ => true) true n e cs = some y → ∃ x, Q x cs) {fuel : Nat} {cs : List Value} {y : DataW H × List MemPlace} (h : DataW.trod enc Try.prog W 0 (fun _ => true) true fuel t cs = some y) :
    ∃ ao cap, ∃ xs : List α, cs = [.slice ao xs.length cap] ∧ xs.length ≤ cap ∧ cap ≤ maxLen ∧ (xs = [] ∨ ∃ b off, ao = some ⟨b, off, none⟩ ∧ b < W.heap.size ∧ ∀ (j : Nat) x, xs[j]? = some x → ∃ cs', Q x cs' ∧ W.rangeAt b (off + j * c) cs') ∧ ∀ x ∈ xs, ∃ cs', Q x cs' := by
  rcases Go.Deep.open_slice ht h with ⟨hcs, hx⟩ | ⟨a, len, cap, m, n, D, Pl, hcs, _, hle, hmax, hm, hx, hE⟩
  · exact ⟨none, 0, [], hcs, Nat.le_refl _, by simp [maxLen], .inl rfl, fun x hx => by simp at hx⟩
  · simp only [if_true] at hm
    rw [hm, hc] at hE
    obtain ⟨f, hF⟩ := Go.Deep.choose_lt (α := α) (p := fun i x => ∃ cs', Q x cs' ∧ (a.add (i * c)).spot = none ∧ W.cell? (a.add (i * c)) = cs'[0]? ∧ ∀ j, j < cs'.length → W.cell? ((a.add (i * c)).add j) = cs'[j]?) (fun i hi => by
      obtain ⟨cs', h1, h2⟩ := hE i hi
      unfold World.cells? at h1
      rw [if_pos (Nat.zero_le _)] at h1
      have hlen : cs'.length = c := by rw [mapM_some_length h1]; simp
      obtain ⟨x, hx⟩ := hel _ _ _ hlen h2
      have g : ∀ i0, i0 < c → W.cell? ((a.add (i * c)).add i0) = cs'[i0]? := fun i0 hi0 => mapM_some_get h1 i0 i0 (by simp [hi0])
      have g0 := g 0 hc0
      obtain ⟨v, hv⟩ : ∃ v, cs'[0]? = some v := ⟨cs'[0]'(by omega), List.getElem?_eq_getElem _⟩
      have e0 : (a.add (i * c)).add 0 = a.add (i * c) := by simp [Addr.add]
      rw [e0] at g0
      exact ⟨x, cs', hx, World.cell?_spot (g0.trans hv), g0, fun j hj => g j (by omega)⟩)
    refine ⟨some a, cap, (List.range len).map f, by simpa using hcs, by simpa using hle, hmax, ?_, fun q hq => ?_⟩
    · by_cases hp : 0 < len
      · obtain ⟨b, off, spot⟩ := a
        obtain ⟨cs0, _, hsp, hc1, hc2⟩ := hF 0 (by omega)
        have hspot : spot = none := by simpa [Addr.add] using hsp
        subst hspot
        obtain ⟨cs', h1, h2⟩ := hE 0 (by omega)
        have hbl : b < W.heap.size := by
          unfold World.cells? at h1
          rw [if_pos (Nat.zero_le _)] at h1
          have hlen : cs'.length = c := by rw [mapM_some_length h1]; simp
          have g0 := mapM_some_get h1 0 0 (by simp [hc0])
          rw [Addr.add_mid, Addr.add_mid] at g0
          obtain ⟨v, hv⟩ : ∃ v, cs'[0]? = some v := ⟨cs'[0]'(by omega), List.getElem?_eq_getElem _⟩
          exact World.block_lt_of_cell? W _ (g0.trans hv)
        refine .inr ⟨b, off, rfl, hbl, fun j x hx => ?_⟩
        have hj : j < len := by have := (List.getElem?_eq_some_iff.1 hx).1; simpa using this
        have hxe : f j = x := by simpa [hj] using hx
        obtain ⟨cs2, q1, _, _, q2⟩ := hF j (by omega)
        rw [hxe] at q1
        refine ⟨cs2, q1, fun i v hv => ?_⟩
        have := q2 i (List.getElem?_eq_some_iff.1 hv).1
        rw [Addr.add_mid, Addr.add_mid] at this
        exact this.trans hv
      · obtain rfl : len = 0 := by omega
        exact .inl (by simp)
    · obtain ⟨j, hj, rfl⟩ := List.mem_map.1 hq
      obtain ⟨cs', h1, _⟩ := hF j (by have := List.mem_range.1 hj; omega)
      exact ⟨cs', h1⟩
theorem cellsDd : Try.prog.cellsOf 71 = 9 := by kernel_rfl
theorem cellsStp : Try.prog.cellsOf 26 = 4 := by kernel_rfl
theorem cellsDds : Try.prog.cellsOf 24 = 1 := by kernel_rfl
theorem cellsI64p : Try.prog.cellsOf 3 = 1 := by kernel_rfl
theorem cellsU64p : Try.prog.cellsOf 23 = 1 := by kernel_rfl
set_option maxRecDepth 100000 in
/-- A deed by its cells. -/
theorem deed_cells {H : Type} {enc : TypeId × Value → H} {W : World} {fuel : Nat} {cs : List Value} {y : DataW H × List MemPlace} (hl : cs.length = 9)
    (ht : DataW.trod enc Try.prog W 0 (fun _ => true) true fuel 71 cs = some y) : ∃ d : Dd, cs = ddV d ∧ d.Ok := by
  obtain ⟨xs, m, _, _, _, hxs, hf⟩ := DataW.trod_struct Try.underlying71 ht
  have hxs2 : xs.length = 2 := hxs
  have get : ∀ i, i < 2 → ∃ z, xs[i]? = some z := fun i hi => ⟨xs[i], by simp [hxs2, hi]⟩
  obtain ⟨z0, e0⟩ := get 0 (by omega)
  obtain ⟨z1, e1⟩ := get 1 (by omega)
  have f0 := (hf 0 _ rfl).trans e0
  have f1 := (hf 1 _ rfl).trans e1
  replace f0 : DataW.trod enc Try.prog W 0 (fun _ => true) true m 5 ((cs.drop 0).take (Try.prog.cellsOf 5)) = some z0 := f0
  replace f1 : DataW.trod enc Try.prog W 0 (fun _ => true) true m 69 ((cs.drop 1).take (Try.prog.cellsOf 69)) = some z1 := f1
  rw [cellsU8S] at f0
  rw [cellsActS] at f1
  obtain ⟨k, q0, _, w0⟩ := DataW.trod_int Try.underlying5 f0
  obtain ⟨x, ⟨c0, c1, c2, c3, c4, c5, c6, c7⟩, hx⟩ := act_cellsS (by simp; omega) f1
  have bk := bounds_u8 w0
  match cs, hl with
  | [a0, a1, a2, a3, a4, a5, a6, a7, a8], _ =>
    simp at q0 c0 c1 c2 c3 c4 c5 c6 c7
    subst q0 c0 c1 c2 c3 c4 c5 c6 c7
    exact ⟨⟨k, x⟩, rfl, ⟨by simp only []; omega, hx⟩⟩
set_option maxRecDepth 100000 in
/-- A try by its cells. -/
theorem step_cells {H : Type} {enc : TypeId × Value → H} {W : World} {fuel : Nat} {cs : List Value} {y : DataW H × List MemPlace} (hl : cs.length = 4)
    (ht : DataW.trod enc Try.prog W 0 (fun _ => true) true fuel 26 cs = some y) : ∃ x : Stp, ∃ ad cd, cs = stV x ad cd ∧ x.Ok ∧ Dds W ad x.ds := by
  obtain ⟨xs, m, _, _, _, hxs, hf⟩ := DataW.trod_struct Try.underlying26 ht
  have hxs4 : xs.length = 4 := hxs
  have get : ∀ i, i < 4 → ∃ z, xs[i]? = some z := fun i hi => ⟨xs[i], by simp [hxs4, hi]⟩
  obtain ⟨z0, e0⟩ := get 0 (by omega)
  obtain ⟨z1, e1⟩ := get 1 (by omega)
  obtain ⟨z2, e2⟩ := get 2 (by omega)
  obtain ⟨z3, e3⟩ := get 3 (by omega)
  have f0 := (hf 0 _ rfl).trans e0
  have f1 := (hf 1 _ rfl).trans e1
  have f2 := (hf 2 _ rfl).trans e2
  have f3 := (hf 3 _ rfl).trans e3
  replace f0 : DataW.trod enc Try.prog W 0 (fun _ => true) true m 5 ((cs.drop 0).take (Try.prog.cellsOf 5)) = some z0 := f0
  replace f1 : DataW.trod enc Try.prog W 0 (fun _ => true) true m 23 ((cs.drop 1).take (Try.prog.cellsOf 23)) = some z1 := f1
  replace f2 : DataW.trod enc Try.prog W 0 (fun _ => true) true m 24 ((cs.drop 2).take (Try.prog.cellsOf 24)) = some z2 := f2
  replace f3 : DataW.trod enc Try.prog W 0 (fun _ => true) true m 3 ((cs.drop 3).take (Try.prog.cellsOf 3)) = some z3 := f3
  rw [cellsU8S] at f0
  rw [cellsU64p] at f1
  rw [cellsDds] at f2
  rw [cellsI64p] at f3
  obtain ⟨a, q0, _, w0⟩ := DataW.trod_int Try.underlying5 f0
  obtain ⟨b, q1, _, w1⟩ := DataW.trod_int Try.underlying23 f1
  obtain ⟨c, q3, _, w3⟩ := DataW.trod_int Try.underlying3 f3
  haveI : Inhabited Dd := ⟨⟨0, ⟨0, 0, 0, 0, 0⟩⟩⟩
  obtain ⟨ad, cd, ds, q2, l1, l2, hds, hok⟩ := open_structs (α := Dd) (Q := fun d cs => cs = ddV d ∧ d.Ok) (by omega) Try.underlying24 cellsDd (fun n cs y h1 h2 => deed_cells h1 h2) f2
  have b0 := bounds_u8 w0
  have b1 := bounds_u64 w1
  have hD : Dds W ad ds := by
    rcases hds with h | ⟨bb, off, e, hlt, hc⟩
    · exact .inl h
    · refine .inr ⟨bb, off, e, hlt, fun j d hd => ?_⟩
      obtain ⟨cs', ⟨rfl, _⟩, hr⟩ := hc j d hd
      exact hr
  match cs, hl with
  | [a0, a1, a2, a3], _ =>
    simp at q0 q1 q2 q3
    subst q0 q1 q2 q3
    exact ⟨⟨a, b, ds, c⟩, ad, cd, rfl, ⟨by simp only []; omega, by simp only []; omega, fun d hd => by obtain ⟨cs', _, h⟩ := hok d hd; exact h, Nat.le_trans l1 l2⟩, hD⟩
set_option maxRecDepth 100000 in
theorem open_steps {H : Type} {enc : TypeId × Value → H} {W : World} {base : Nat} {v : Value} {d : DataW H} {p : List MemPlace}
    (hv : Value.okWide Try.prog W .any base 22 v) (h : DataW.Trod enc Try.prog W 0 (fun _ => true) true 22 v d p) :
    ∃ ao cap xs, v = .slice ao (List.length xs) cap ∧ xs.length ≤ cap ∧ cap ≤ maxLen ∧ Sts W ao xs ∧ ∀ x ∈ xs, Stp.Ok x := by
  obtain ⟨a0, len, cap, rfl⟩ := okWide_slice Try.underlying22 hv
  obtain ⟨fuel, hf⟩ := h
  haveI : Inhabited Stp := ⟨⟨0, 0, [], 0⟩⟩
  obtain ⟨ao, cap', xs, q, l1, l2, hxs, hok⟩ := open_structs (α := Stp) (Q := fun x cs => ∃ ad cd, cs = stV x ad cd ∧ x.Ok ∧ Dds W ad x.ds) (by omega) Try.underlying22 cellsStp (fun n cs y h1 h2 => step_cells h1 h2) hf
  simp [Value.cells] at q
  obtain ⟨rfl, rfl, rfl⟩ := q
  refine ⟨a0, cap, xs, rfl, l1, l2, ?_, fun x hx => ?_⟩
  · rcases hxs with h | ⟨bb, off, e, hlt, hc⟩
    · exact .inl h
    · refine .inr ⟨bb, off, e, hlt, fun j x hx => ?_⟩
      obtain ⟨cs', ⟨ad, cd, rfl, _, h2⟩, hr⟩ := hc j x hx
      exact ⟨ad, cd, hr, h2⟩
  · obtain ⟨cs', ad, cd, _, h, _⟩ := hok x hx
    exact h
set_option maxRecDepth 100000 in
theorem open_step {H : Type} {enc : TypeId × Value → H} {W : World} {base : Nat} {v : Value} {d : DataW H} {p : List MemPlace}
    (hv : Value.okWide Try.prog W .any base 26 v) (h : DataW.Trod enc Try.prog W 0 (fun _ => true) true 26 v d p) :
    ∃ (z : Stp) (az : Option Addr) (cz : Nat), v = .agg #[.int .u8 z.f, .int .u64 z.n, .slice az z.ds.length cz, .int .i64 z.x] ∧ z.Ok ∧ Dds W az z.ds := by
  obtain ⟨cs, rfl, hsz, _⟩ : ∃ cs, v = .agg cs ∧ cs.size = Try.prog.cellsOf 26 ∧ Row.okWide Try.prog W .any base 26 cs := by
    simpa [Value.okWide, Try.underlying26] using hv
  obtain ⟨fuel, hf⟩ := h
  obtain ⟨x, ad, cd, e, hx, hd⟩ := step_cells (by rw [← cellsStp, ← hsz]; simp [Value.cells]) hf
  have e' : cs.toList = stV x ad cd := e
  refine ⟨x, ad, cd, ?_, hx, hd⟩
  rw [← Array.toArray_toList (xs := cs), e']
end Go.Proofs.Ytncnilplmklccaa
