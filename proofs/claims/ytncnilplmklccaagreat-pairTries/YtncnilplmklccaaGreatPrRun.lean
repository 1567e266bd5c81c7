/- Tries in memory (sponsionlaw14.Step), and what their functions do. Arguments that are tries, opened. Whole tries: sponsionlaw14.few and try. -/
import Derived.Test.YtncnilplmklccaaGreatPrDeed
import Derived.Test.YtncnilplmklccaaGreatPrBytes
import Derived.Deep.MidRow
import Derived.Test.YtncnilplmklccaaGreatBkPlay
import Derived.Deep.RegionHeld3
/- Tries in memory (sponsionlaw14.Step), and what their functions do. -/
namespace Go.Proofs.YtncnilplmklccaaGreat
set_option linter.unusedSimpArgs false
set_option linter.unusedVariables false
open Go.RowKit Go.Lib
attribute [local go_sem] setCell_drewN alloc_drewN

/-- A try. -/
structure Stp where
  f : Int
  n : Int
  ds : List Dd
  x : Int
structure Stp.Ok (x : Stp) : Prop where
  f : 0 ≤ x.f ∧ x.f < 256
  n : 0 ≤ x.n ∧ x.n < 18446744073709551616
  ds : ∀ d ∈ x.ds, d.Ok
  len : x.ds.length ≤ maxLen
/-- Deeds, at an address; tries, at an address. -/
def Dds (w : World) (ao : Option Addr) (ds : List Dd) : Prop :=
  ds = [] ∨ ∃ b off, ao = some ⟨b, off, none⟩ ∧ b < w.heap.size ∧ ∀ (j : Nat) d, ds[j]? = some d → w.rangeAt b (off + j * 9) (ddV d)
abbrev stV (x : Stp) (ad : Option Addr) (cd : Nat) : List Value := [.int .u8 x.f, .int .u64 x.n, .slice ad x.ds.length cd, .int .i64 x.x]
def Sts (w : World) (ao : Option Addr) (xs : List Stp) : Prop :=
  xs = [] ∨ ∃ b off, ao = some ⟨b, off, none⟩ ∧ b < w.heap.size ∧ ∀ (j : Nat) x, xs[j]? = some x → ∃ ad cd, w.rangeAt b (off + j * 4) (stV x ad cd) ∧ Dds w ad x.ds
theorem rangeAt_cell {w : World} {b o : Nat} {vs : List Value} (h : w.rangeAt b o vs) (j : Nat) {v : Value} (hv : vs[j]? = some v) : w.cell? ⟨b, o + j, none⟩ = some v := h j v hv
theorem rangeAt_of {w w' : World} {b o : Nat} {vs : List Value} (h : w.rangeAt b o vs) (hb : w'.heap[b]? = w.heap[b]?) : w'.rangeAt b o vs := fun j v hv => (World.cell?_of_block (w := w) (a := ⟨b, o + j, none⟩) hb).trans (h j v hv)
theorem Dds.got {W w : World} {ao : Option Addr} {ds : List Dd} (h : Dds W ao ds) (hb : Below W.heap.size W w) {j : Nat} {d : Dd} (hd : ds[j]? = some d) : ∃ b off, ao = some ⟨b, off, none⟩ ∧ b < W.heap.size ∧ w.rangeAt b (off + j * 9) (ddV d) := by
  rcases h with rfl | ⟨b, off, e, hl, hc⟩
  · simp at hd
  · exact ⟨b, off, e, hl, rangeAt_of (hc j d hd) (hb.block b hl)⟩
theorem Sts.got {W w : World} {ao : Option Addr} {xs : List Stp} (h : Sts W ao xs) (hb : Below W.heap.size W w) {j : Nat} {x : Stp} (hx : xs[j]? = some x) : ∃ b off ad cd, ao = some ⟨b, off, none⟩ ∧ b < W.heap.size ∧ w.rangeAt b (off + j * 4) (stV x ad cd) ∧ Dds W ad x.ds := by
  rcases h with rfl | ⟨b, off, e, hl, hc⟩
  · simp at hx
  · obtain ⟨ad, cd, h1, h2⟩ := hc j x hx
    exact ⟨b, off, ad, cd, e, hl, rangeAt_of h1 (hb.block b hl), h2⟩
/-- Deeds, up to the first that is refused: the error, and both books. -/
def rD : (Nat → Kvs) → List Dd → Int × (Nat → Kvs)
  | L, [] => (0, L)
  | L, d :: r => if dE L d = 0 then rD (upS L d.sd (dL L d)) r else (dE L d, upS L d.sd (dL L d))
theorem rD_snoc : ∀ (ds : List Dd) (L : Nat → Kvs) (d : Dd), (rD L ds).1 = 0 → rD L (ds ++ [d]) = (dE (rD L ds).2 d, upS (rD L ds).2 d.sd (dL (rD L ds).2 d))
  | [], L, d, _ => by
    show rD L [d] = _
    by_cases h : dE L d = 0
    · simp [rD, h]
    · simp [rD, h]
  | a :: r, L, d, h => by
    by_cases ha : dE L a = 0
    · have e : rD L (a :: r) = rD (upS L a.sd (dL L a)) r := by simp [rD, ha]
      rw [e] at h ⊢
      rw [← rD_snoc r _ d h]
      simp [rD, ha]
    · simp [rD, ha] at h
theorem rD_stop : ∀ (ds es : List Dd) (L : Nat → Kvs), (rD L ds).1 ≠ 0 → rD L (ds ++ es) = rD L ds
  | [], es, L, h => by simp [rD] at h
  | a :: r, es, L, h => by
    by_cases ha : dE L a = 0
    · have e : rD L (a :: r) = rD (upS L a.sd (dL L a)) r := by simp [rD, ha]
      rw [e] at h ⊢
      rw [← rD_stop r es _ h]
      simp [rD, ha]
    · simp [rD, ha]
theorem Px.conv {n n' c c' : Nat} {H H' : Nat → Nat → Kvs} {L L' : Nat → Kvs} (h : Px n H n' H' L c) (e : ∀ s, s < 2 → L s = L' s) (hc : c ≤ c') : Px n H n' H' L' c' :=
  ⟨h.le, by have := h.up; omega, h.was, fun s hs => (h.now s hs).trans (e s hs)⟩
theorem dE_congr {L L' : Nat → Kvs} {d : Dd} (h : L d.sd = L' d.sd) : dE L d = dE L' d ∧ dL L d = dL L' d := by unfold dE dL; rw [h]; exact ⟨rfl, rfl⟩
theorem upS_congr {L L' : Nat → Kvs} {i : Nat} {M M' : Kvs} (h : ∀ s, s < 2 → L s = L' s) (e : M = M') (s : Nat) (hs : s < 2) : upS L i M s = upS L' i M' s := by
  unfold upS
  by_cases he : s = i
  · simp [he, e]
  · simp [he, h s hs]
/-- The pair behind a try's function. -/
def DoDone (W w : World) (bp : Nat) (P : List Value) (n : Nat) (H : Nat → Nat → Kvs) (N : List Int) (Fr : Nat → Prop) (x : Stp) (m : Int) (e : Ending) (w' : World) : Prop :=
  e = .returned (.int .i64 (if (rD (fun i => H i n) x.ds).1 = 0 then m else (rD (fun i => H i n) x.ds).1)) ∧ ∃ n' H', Pr W w' bp P n' H' N Fr ∧ Kp Fr w w' ∧ Px n H n' H' (rD (fun i => H i n) x.ds).2 (2 * x.ds.length)
end Go.Proofs.YtncnilplmklccaaGreat

/- Arguments that are tries, opened. -/
namespace Go.Proofs.YtncnilplmklccaaGreat
set_option linter.unusedSimpArgs false
set_option linter.unusedVariables false
set_option linter.unusedSectionVars false
open Go.ChangeShapes Go.WideShapes Go.ChangeAt Go.RowKit

set_option maxRecDepth 100000 in
/-- A slice of structs, each told by a value. -/
theorem open_structs {α H : Type} [Inhabited α] {enc : TypeId × Value → H} {W : World} {t e : TypeId} {c : Nat} (hc0 : 0 < c) (ht : Tryz.prog.underlying t = some (.slice e)) (hc : Tryz.prog.cellsOf e = c) {Q : α → List Value → Prop}
    (hel : ∀ (n : Nat) (cs : List Value) (y : DataW H × List MemPlace), cs.length = c → DataW.trod enc Tryz.prog W 0 (fun _ => true) true n e cs = some y → ∃ x, Q x cs) {fuel : Nat} {cs : List Value} {y : DataW H × List MemPlace} (h : DataW.trod enc Tryz.prog W 0 (fun _ => true) true fuel t cs = some y) :
    ∃ ao cap, ∃ xs : List α, cs = [.slice ao xs.length cap] ∧ xs.length ≤ cap ∧ cap ≤ maxLen ∧ (xs = [] ∨ ∃ b off, ao = some ⟨b, off, none⟩ ∧ b < W.heap.size ∧ ∀ (j : Nat) x, xs[j]? = some x → ∃ cs', Q x cs' ∧ W.rangeAt b (off + j * c) cs') ∧ ∀ x ∈ xs, ∃ cs', Q x cs' := by
  rcases Go.Deep.open_slice ht h with ⟨hcs, hx⟩ | ⟨a, len, cap, m, n, D, Pl, hcs, _, hle, hmax, hm, hx, hE⟩
  · exact ⟨none, 0, [], hcs, Nat.le_refl _, by simp [maxLen], .inl rfl, fun x hx => by simp at hx⟩
  · simp only [if_true] at hm
    rw [hm, hc] at hE
    obtain ⟨f, hF⟩ := Go.Deep.choose_lt (α := α) (p := fun i x => ∃ cs', Q x cs' ∧ (a.add (i * c)).spot = none ∧ W.cell? (a.add (i * c)) = cs'[0]? ∧ ∀ j, j < cs'.length → W.cell? ((a.add (i * c)).add j) = cs'[j]?) (fun i hi => by
      obtain ⟨cs', h1, h2⟩ := hE i hi
      unfold World.cells? at h1
      rw [if_pos (Nat.zero_le _)] at h1
      have hlen : cs'.length = c := by rw [mapM_some_length h1]; simp
      obtain ⟨x, hx⟩ := hel _ _ _ hlen h2
      have g : ∀ i0, i0 < c → W.cell? ((a.add (i * c)).add i0) = cs'[i0]? := fun i0 hi0 => mapM_some_get h1 i0 i0 (by simp [hi0])
      have g0 := g 0 hc0
      obtain ⟨v, hv⟩ : ∃ v, cs'[0]? = some v := ⟨cs'[0]'(by omega), List.getElem?_eq_getElem _⟩
      have e0 : (a.add (i * c)).add 0 = a.add (i * c) := by simp [Addr.add]
      rw [e0] at g0
      exact ⟨x, cs', hx, World.cell?_spot (g0.trans hv), g0, fun j hj => g j (by omega)⟩)
    refine ⟨some a, cap, (List.range len).map f, by simpa using hcs, by simpa using hle, hmax, ?_, fun q hq => ?_⟩
    · by_cases hp : 0 < len
      · obtain ⟨b, off, spot⟩ := a
        obtain ⟨cs0, _, hsp, hc1, hc2⟩ := hF 0 (by omega)
        have hspot : spot = none := by simpa [Addr.add] using hsp
        subst hspot
        obtain ⟨cs', h1, h2⟩ := hE 0 (by omega)
        have hbl : b < W.heap.size := by
          unfold World.cells? at h1
          rw [if_pos (Nat.zero_le _)] at h1
          have hlen : cs'.length = c := by rw [mapM_some_length h1]; simp
          have g0 := mapM_some_get h1 0 0 (by simp [hc0])
          rw [Addr.add_mid, Addr.add_mid] at g0
          obtain ⟨v, hv⟩ : ∃ v, cs'[0]? = some v := ⟨cs'[0]'(by omega), List.getElem?_eq_getElem _⟩
          exact World.block_lt_of_cell? W _ (g0.trans hv)
        refine .inr ⟨b, off, rfl, hbl, fun j x hx => ?_⟩
        have hj : j < len := by have := (List.getElem?_eq_some_iff.1 hx).1; simpa using this
        have hxe : f j = x := by simpa [hj] using hx
        obtain ⟨cs2, q1, _, _, q2⟩ := hF j (by omega)
        rw [hxe] at q1
        refine ⟨cs2, q1, fun i v hv => ?_⟩
        have := q2 i (List.getElem?_eq_some_iff.1 hv).1
        rw [Addr.add_mid, Addr.add_mid] at this
        exact this.trans hv
      · obtain rfl : len = 0 := by omega
        exact .inl (by simp)
    · obtain ⟨j, hj, rfl⟩ := List.mem_map.1 hq
      obtain ⟨cs', h1, _⟩ := hF j (by have := List.mem_range.1 hj; omega)
      exact ⟨cs', h1⟩
theorem cellsDd : Tryz.prog.cellsOf 47 = 9 := by kernel_rfl
theorem cellsStp : Tryz.prog.cellsOf 40 = 4 := by kernel_rfl
theorem cellsDds : Tryz.prog.cellsOf 38 = 1 := by kernel_rfl
theorem cellsI64p : Tryz.prog.cellsOf 3 = 1 := by kernel_rfl
theorem cellsU64p : Tryz.prog.cellsOf 27 = 1 := by kernel_rfl
set_option maxRecDepth 100000 in
/-- A deed by its cells. -/
theorem deed_cells {H : Type} {enc : TypeId × Value → H} {W : World} {fuel : Nat} {cs : List Value} {y : DataW H × List MemPlace} (hl : cs.length = 9)
    (ht : DataW.trod enc Tryz.prog W 0 (fun _ => true) true fuel 47 cs = some y) : ∃ d : Dd, cs = ddV d ∧ d.Ok := by
  obtain ⟨xs, m, _, _, _, hxs, hf⟩ := DataW.trod_struct Tryz.underlying47 ht
  have hxs2 : xs.length = 2 := hxs
  have get : ∀ i, i < 2 → ∃ z, xs[i]? = some z := fun i hi => ⟨xs[i], by simp [hxs2, hi]⟩
  obtain ⟨z0, e0⟩ := get 0 (by omega)
  obtain ⟨z1, e1⟩ := get 1 (by omega)
  have f0 := (hf 0 _ rfl).trans e0
  have f1 := (hf 1 _ rfl).trans e1
  replace f0 : DataW.trod enc Tryz.prog W 0 (fun _ => true) true m 5 ((cs.drop 0).take (Tryz.prog.cellsOf 5)) = some z0 := f0
  replace f1 : DataW.trod enc Tryz.prog W 0 (fun _ => true) true m 45 ((cs.drop 1).take (Tryz.prog.cellsOf 45)) = some z1 := f1
  rw [cellsU8S] at f0
  rw [cellsActS] at f1
  obtain ⟨k, q0, _, w0⟩ := DataW.trod_int Tryz.underlying5 f0
  obtain ⟨x, ⟨c0, c1, c2, c3, c4, c5, c6, c7⟩, hx⟩ := act_cellsS (by simp; omega) f1
  have bk := bounds_u8 w0
  match cs, hl with
  | [a0, a1, a2, a3, a4, a5, a6, a7, a8], _ =>
    simp at q0 c0 c1 c2 c3 c4 c5 c6 c7
    subst q0 c0 c1 c2 c3 c4 c5 c6 c7
    exact ⟨⟨k, x⟩, rfl, ⟨by simp only []; omega, hx⟩⟩
set_option maxRecDepth 100000 in
/-- A try by its cells. -/
theorem step_cells {H : Type} {enc : TypeId × Value → H} {W : World} {fuel : Nat} {cs : List Value} {y : DataW H × List MemPlace} (hl : cs.length = 4)
    (ht : DataW.trod enc Tryz.prog W 0 (fun _ => true) true fuel 40 cs = some y) : ∃ x : Stp, ∃ ad cd, cs = stV x ad cd ∧ x.Ok ∧ Dds W ad x.ds := by
  obtain ⟨xs, m, _, _, _, hxs, hf⟩ := DataW.trod_struct Tryz.underlying40 ht
  have hxs4 : xs.length = 4 := hxs
  have get : ∀ i, i < 4 → ∃ z, xs[i]? = some z := fun i hi => ⟨xs[i], by simp [hxs4, hi]⟩
  obtain ⟨z0, e0⟩ := get 0 (by omega)
  obtain ⟨z1, e1⟩ := get 1 (by omega)
  obtain ⟨z2, e2⟩ := get 2 (by omega)
  obtain ⟨z3, e3⟩ := get 3 (by omega)
  have f0 := (hf 0 _ rfl).trans e0
  have f1 := (hf 1 _ rfl).trans e1
  have f2 := (hf 2 _ rfl).trans e2
  have f3 := (hf 3 _ rfl).trans e3
  replace f0 : DataW.trod enc Tryz.prog W 0 (fun _ => true) true m 5 ((cs.drop 0).take (Tryz.prog.cellsOf 5)) = some z0 := f0
  replace f1 : DataW.trod enc Tryz.prog W 0 (fun _ => true) true m 27 ((cs.drop 1).take (Tryz.prog.cellsOf 27)) = some z1 := f1
  replace f2 : DataW.trod enc Tryz.prog W 0 (fun _ => true) true m 38 ((cs.drop 2).take (Tryz.prog.cellsOf 38)) = some z2 := f2
  replace f3 : DataW.trod enc Tryz.prog W 0 (fun _ => true) true m 3 ((cs.drop 3).take (Tryz.prog.cellsOf 3)) = some z3 := f3
  rw [cellsU8S] at f0
  rw [cellsU64p] at f1
  rw [cellsDds] at f2
  rw [cellsI64p] at f3
  obtain ⟨a, q0, _, w0⟩ := DataW.trod_int Tryz.underlying5 f0
  obtain ⟨b, q1, _, w1⟩ := DataW.trod_int Tryz.underlying27 f1
  obtain ⟨c, q3, _, w3⟩ := DataW.trod_int Tryz.underlying3 f3
  haveI : Inhabited Dd := ⟨⟨0, ⟨0, 0, 0, 0, 0⟩⟩⟩
  obtain ⟨ad, cd, ds, q2, l1, l2, hds, hok⟩ := open_structs (α := Dd) (Q := fun d cs => cs = ddV d ∧ d.Ok) (by omega) Tryz.underlying38 cellsDd (fun n cs y h1 h2 => deed_cells h1 h2) f2
  have b0 := bounds_u8 w0
  have b1 := bounds_u64 w1
  have hD : Dds W ad ds := by
    rcases hds with h | ⟨bb, off, e, hlt, hc⟩
    · exact .inl h
    · refine .inr ⟨bb, off, e, hlt, fun j d hd => ?_⟩
      obtain ⟨cs', ⟨rfl, _⟩, hr⟩ := hc j d hd
      exact hr
  match cs, hl with
  | [a0, a1, a2, a3], _ =>
    simp at q0 q1 q2 q3
    subst q0 q1 q2 q3
    exact ⟨⟨a, b, ds, c⟩, ad, cd, rfl, ⟨by simp only []; omega, by simp only []; omega, fun d hd => by obtain ⟨cs', _, h⟩ := hok d hd; exact h, Nat.le_trans l1 l2⟩, hD⟩
set_option maxRecDepth 100000 in
theorem open_steps {H : Type} {enc : TypeId × Value → H} {W : World} {base : Nat} {v : Value} {d : DataW H} {p : List MemPlace}
    (hv : Value.okWide Tryz.prog W .any base 22 v) (h : DataW.Trod enc Tryz.prog W 0 (fun _ => true) true 22 v d p) :
    ∃ ao cap xs, v = .slice ao (List.length xs) cap ∧ xs.length ≤ cap ∧ cap ≤ maxLen ∧ Sts W ao xs ∧ ∀ x ∈ xs, Stp.Ok x := by
  obtain ⟨a0, len, cap, rfl⟩ := okWide_slice Tryz.underlying22 hv
  obtain ⟨fuel, hf⟩ := h
  haveI : Inhabited Stp := ⟨⟨0, 0, [], 0⟩⟩
  obtain ⟨ao, cap', xs, q, l1, l2, hxs, hok⟩ := open_structs (α := Stp) (Q := fun x cs => ∃ ad cd, cs = stV x ad cd ∧ x.Ok ∧ Dds W ad x.ds) (by omega) Tryz.underlying22 cellsStp (fun n cs y h1 h2 => step_cells h1 h2) hf
  simp [Value.cells] at q
  obtain ⟨rfl, rfl, rfl⟩ := q
  refine ⟨a0, cap, xs, rfl, l1, l2, ?_, fun x hx => ?_⟩
  · rcases hxs with h | ⟨bb, off, e, hlt, hc⟩
    · exact .inl h
    · refine .inr ⟨bb, off, e, hlt, fun j x hx => ?_⟩
      obtain ⟨cs', ⟨ad, cd, rfl, _, h2⟩, hr⟩ := hc j x hx
      exact ⟨ad, cd, hr, h2⟩
  · obtain ⟨cs', ad, cd, _, h, _⟩ := hok x hx
    exact h
set_option maxRecDepth 100000 in
theorem open_step {H : Type} {enc : TypeId × Value → H} {W : World} {base : Nat} {v : Value} {d : DataW H} {p : List MemPlace}
    (hv : Value.okWide Tryz.prog W .any base 40 v) (h : DataW.Trod enc Tryz.prog W 0 (fun _ => true) true 40 v d p) :
    ∃ (z : Stp) (az : Option Addr) (cz : Nat), v = .agg #[.int .u8 z.f, .int .u64 z.n, .slice az z.ds.length cz, .int .i64 z.x] ∧ z.Ok ∧ Dds W az z.ds := by
  obtain ⟨cs, rfl, hsz, _⟩ : ∃ cs, v = .agg cs ∧ cs.size = Tryz.prog.cellsOf 40 ∧ Row.okWide Tryz.prog W .any base 40 cs := by
    simpa [Value.okWide, Tryz.underlying40] using hv
  obtain ⟨fuel, hf⟩ := h
  obtain ⟨x, ad, cd, e, hx, hd⟩ := step_cells (by rw [← cellsStp, ← hsz]; simp [Value.cells]) hf
  have e' : cs.toList = stV x ad cd := e
  refine ⟨x, ad, cd, ?_, hx, hd⟩
  rw [← Array.toArray_toList (xs := cs), e']
end Go.Proofs.YtncnilplmklccaaGreat

/- Whole tries: sponsionlaw14.few and try. -/
namespace Go.Proofs.YtncnilplmklccaaGreat
set_option linter.unusedSimpArgs false
set_option linter.unusedVariables false
open Go.RowKit Go.Lib
attribute [local go_sem] setCell_drewN alloc_drewN

/-- Are tries few? -/
def fewB (xs : List Stp) : Bool := xs.all (fun x => decide (x.ds.length ≤ 10)) && decide (xs.length ≤ 20)
theorem fewB_len {xs : List Stp} (h : fewB xs = true) : xs.length ≤ 20 ∧ ∀ x ∈ xs, x.ds.length ≤ 10 := by
  unfold fewB at h
  simp at h
  exact ⟨h.2, h.1⟩
set_option maxHeartbeats 2000000 in
theorem few_any {W w : World} {ao : Option Addr} {cap : Nat} {xs : List Stp} (hb : Below W.heap.size W w) (h : Sts W ao xs) (hl : xs.length ≤ maxLen) (hd : ∀ x ∈ xs, x.ds.length ≤ maxLen) :
    Calls Tryz.prog 5 #[.slice ao xs.length cap] w fun e w' => e = .returned (.bool (fewB xs)) ∧ Below w.heap.size w w' := by
  have hml : (xs.length : Int) ≤ 9223372036854775807 := by unfold maxLen at hl; omega
  have HB := hide hb
  have HX := hide h
  have HD := hide hd
  clear hb h hd
  go_enter Tryz.func5, Tryz.ntmps5
  go_wp2
  go_loopw [7] (fun t wr => ∃ k : Nat, k ≤ xs.length ∧ t = .int .i64 k ∧ Below w.heap.size w wr ∧ (xs.take k).all (fun x => decide (x.ds.length ≤ 10)) = true) (fun t _ => (xs.length - intOf t).toNat)
  case atStart => exact ⟨0, by omega, rfl, bMe w, by simp⟩
  case round =>
    obtain ⟨k, hk, rfl, hbr, hall⟩ := hrel
    by_cases hlt : k < xs.length
    · have hlt1 : (k : Int) < xs.length := by omega
      obtain ⟨x, hx⟩ : ∃ x, xs[k]? = some x := ⟨xs[k], List.getElem?_eq_getElem hlt⟩
      obtain ⟨b, off, ad, cd, rfl, _, hr, _⟩ := HX.out.got (bOn HB.out hbr) hx
      have e0 : wr.cell? ⟨b, off + k * 4, none⟩ = some (.int .u8 x.f) := rangeAt_cell hr 0 rfl
      have e1 := rangeAt_cell hr 1 rfl
      have e2 := rangeAt_cell hr 2 rfl
      have e3 := rangeAt_cell hr 3 rfl
      have hdl := HD.out x (List.mem_of_getElem? hx)
      have hdl2 : (x.ds.length : Int) ≤ 9223372036854775807 := by unfold maxLen at hdl; omega
      have htk : xs.take (k + 1) = xs.take k ++ [x] := by
        rw [List.take_succ_eq_append_getElem hlt]
        rw [List.getElem?_eq_getElem hlt] at hx
        injection hx with hx
        rw [hx]
      have HBR := hide (And.intro hbr hall)
      have hw1 : IntKind.i64.wrap ((k : Int) + 1) = (k : Int) + 1 := by rw [IntKind.wrap_i64]; omega
      clear hbr hall hr
      by_cases hten : x.ds.length ≤ 10
      · have hten1 : (x.ds.length : Int) ≤ 10 := by omega
        go_wp2
        go_roundw
        case rel => exact ⟨k + 1, by omega, by simp, bAl HBR.out.1, by rw [htk, List.all_append, HBR.out.2]; simp [hten]⟩
        case measure => simp [intOf]; omega
      · have hten1 : (10 : Int) < (x.ds.length : Int) := by omega
        go_wp2
        go_ret
        have hf : fewB xs = false := by
          cases hq : fewB xs with
          | false => rfl
          | true => exact absurd ((fewB_len hq).2 x (List.mem_of_getElem? hx)) hten
        rw [hf]
        exact ⟨rfl, bAl HBR.out.1⟩
    · obtain rfl : k = xs.length := by omega
      rw [List.take_length] at hall
      have HBR := hide (And.intro hbr hall)
      clear hbr hall
      go_wp2
      go_ret
      refine ⟨?_, HBR.out.1⟩
      unfold fewB
      rw [HBR.out.2]
      simp
      omega
/-- A try's function's answer; the try's; what it leaves. -/
def sR (L : Nat → Kvs) (x : Stp) : Int := if (rD L x.ds).1 = 0 then bits BinOp.and .i64 x.x 15 else (rD L x.ds).1
def sE (L : Nat → Kvs) (x : Stp) : Int := if 16 ≤ x.f then 1 else if x.n ≠ 0 then 9 else sR L x
def sL (L : Nat → Kvs) (x : Stp) : Nat → Kvs := if sE L x = 0 then (rD L x.ds).2 else L
def sN (L : Nat → Kvs) (N : List Int) (x : Stp) : List Int := if sE L x = 0 then N.set x.f.toNat (N.getD x.f.toNat 0 + 1) else N
theorem sN_le {L : Nat → Kvs} {N : List Int} {x : Stp} {c : Int} (hc : 0 ≤ c) (h : ∀ y ∈ N, y ≤ c) : ∀ y ∈ sN L N x, y ≤ c + 1 := fun y hy => by
  unfold sN at hy
  split at hy
  · rcases List.mem_or_eq_of_mem_set hy with e | rfl
    · have := h y e; omega
    · rw [List.getD_eq_getElem?_getD]
      cases e : N[x.f.toNat]? with
      | none => simp; omega
      | some z => have := h z (List.mem_of_getElem? e); simp; omega
  · have := h y hy; omega
end Go.Proofs.YtncnilplmklccaaGreat
