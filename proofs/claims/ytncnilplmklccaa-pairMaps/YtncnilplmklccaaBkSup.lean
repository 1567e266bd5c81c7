/- The contract of book's Supply over this translation (gen-bksup.py). -/
import Derived.Test.YtncnilplmklccaaBkAt
import Derived.Test.YtncnilplmklccaaHugeSum
namespace Go.Proofs.Ytncnilplmklccaa
set_option linter.unusedSimpArgs false
set_option linter.unusedVariables false
open Go.RowKit Go.Lib
attribute [local go_sem] setCell_drewN alloc_drewN

theorem zero72 (w : World) : (zeroValue 114).run Try.prog w = .ok (.agg (Array.replicate 72 (.int .u64 0))) w := by kernel_rfl
/-- Eighteen numbers in a box of their own. -/
structure L18 (w : World) (g : Nat) (f : Nat → Int) : Prop where
  lt : g < w.heap.size
  c : ∀ i, i < 18 → w.cell? ⟨g, i * 4, none⟩ = some (.int .u64 (lm (f i) 0)) ∧ w.cell? ⟨g, i * 4 + 1, none⟩ = some (.int .u64 (lm (f i) 1)) ∧ w.cell? ⟨g, i * 4 + 2, none⟩ = some (.int .u64 (lm (f i) 2)) ∧ w.cell? ⟨g, i * 4 + 3, none⟩ = some (.int .u64 (lm (f i) 3))
  fr : ∀ o, w.frozen? ⟨g, o, none⟩ = false
theorem L18.of {w w' : World} {g : Nat} {f : Nat → Int} (h : L18 w g f) (hs : w.heap.size ≤ w'.heap.size) (hb : w'.heap[g]? = w.heap[g]?) : L18 w' g f :=
  ⟨Nat.lt_of_lt_of_le h.lt hs, fun i hi => ⟨(World.cell?_of_block (w := w) (a := ⟨g, i * 4, none⟩) hb).trans (h.c i hi).1, (World.cell?_of_block (w := w) (a := ⟨g, i * 4 + 1, none⟩) hb).trans (h.c i hi).2.1, (World.cell?_of_block (w := w) (a := ⟨g, i * 4 + 2, none⟩) hb).trans (h.c i hi).2.2.1, (World.cell?_of_block (w := w) (a := ⟨g, i * 4 + 3, none⟩) hb).trans (h.c i hi).2.2.2⟩, fun o => (World.frozen?_of_block (w := w) (a := ⟨g, o, none⟩) hb).trans (h.fr o)⟩
theorem L18.below {w w' : World} {g : Nat} {f : Nat → Int} (h : L18 w g f) (hb : Below w.heap.size w w') : L18 w' g f := h.of hb.size (hb.block _ h.lt)
theorem L18.new (w : World) {Z : Array Value} (hZ : Z = Array.replicate 72 (.int .u64 0)) (t : TypeId) : L18 (w.alloc (.cells Z t)) w.heap.size (fun _ => 0) := by
  have hc : ∀ j, j < 72 → (w.alloc (.cells Z t)).cell? ⟨w.heap.size, j, none⟩ = some (.int .u64 0) := fun j hj => by
    rw [hZ]
    simp [go_sem, Array.getElem?_replicate, hj]
  refine ⟨by simp, fun i hi => ?_, fun o => by simp [go_sem]⟩
  rw [lm_zero, lm_zero, lm_zero, lm_zero]
  exact ⟨hc _ (by omega), hc _ (by omega), hc _ (by omega), hc _ (by omega)⟩
/-- Four limbs are stored behind o others. -/
abbrev put4at (w : World) (g o : Nat) (N : Int) : World := (((w.setCell ⟨g, o, none⟩ (.int .u64 (lm N 0))).setCell ⟨g, o + 1, none⟩ (.int .u64 (lm N 1))).setCell ⟨g, o + 2, none⟩ (.int .u64 (lm N 2))).setCell ⟨g, o + 3, none⟩ (.int .u64 (lm N 3))
theorem put4at_below {a w : World} {g o : Nat} {N : Int} (h : Below a.heap.size a w) (hg : a.heap.size ≤ g) : Below a.heap.size a (put4at w g o N) := (((h.setCell hg _).setCell hg _).setCell hg _).setCell hg _
theorem put4at_size (w : World) (g o : Nat) (N : Int) : (put4at w g o N).heap.size = w.heap.size := by simp only [World.size_setCell]
theorem put4at_other (w : World) (g o : Nat) (N : Int) {k : Nat} (h : k ≠ g) : (put4at w g o N).heap[k]? = w.heap[k]? := by
  rw [Below.heap_setCell _ _ _ _ h, Below.heap_setCell _ _ _ _ h, Below.heap_setCell _ _ _ _ h, Below.heap_setCell _ _ _ _ h]
theorem L18.put {w : World} {g : Nat} {f : Nat → Int} (h : L18 w g f) {j : Nat} (hj : j < 18) (N : Int) : L18 ((((w.setCell ⟨g, j * 4, none⟩ (.int .u64 (lm N 0))).setCell ⟨g, j * 4 + 1, none⟩ (.int .u64 (lm N 1))).setCell ⟨g, j * 4 + 2, none⟩ (.int .u64 (lm N 2))).setCell ⟨g, j * 4 + 3, none⟩ (.int .u64 (lm N 3))) g (fun i => if i = j then N else f i) := by
  obtain ⟨lt, c, fr⟩ := h
  refine ⟨by simpa [World.setCell] using lt, fun i hi => ?_, fun o => by simp [go_sem, fr]⟩
  obtain ⟨c0, c1, c2, c3⟩ := c i hi
  by_cases e : i = j
  · subst e
    have e1 : ∀ a b : Nat, a ≠ b → (i * 4 + a = i * 4 + b) = False := fun a b h => by simp; omega
    simp [go_sem, c0, c1, c2, c3]
  · have ne : ∀ a b : Nat, a < 4 → b < 4 → ¬ i * 4 + a = j * 4 + b := fun a b ha hb h => by omega
    have z : ∀ a b : Nat, a < 4 → b < 4 → ¬ j * 4 + b = i * 4 + a := fun a b ha hb h => by omega
    have n00 := ne 0 0 (by omega) (by omega); have n01 := ne 0 1 (by omega) (by omega); have n02 := ne 0 2 (by omega) (by omega); have n03 := ne 0 3 (by omega) (by omega)
    have n10 := ne 1 0 (by omega) (by omega); have n11 := ne 1 1 (by omega) (by omega); have n12 := ne 1 2 (by omega) (by omega); have n13 := ne 1 3 (by omega) (by omega)
    have n20 := ne 2 0 (by omega) (by omega); have n21 := ne 2 1 (by omega) (by omega); have n22 := ne 2 2 (by omega) (by omega); have n23 := ne 2 3 (by omega) (by omega)
    have n30 := ne 3 0 (by omega) (by omega); have n31 := ne 3 1 (by omega) (by omega); have n32 := ne 3 2 (by omega) (by omega); have n33 := ne 3 3 (by omega) (by omega)
    simp only [Nat.add_zero] at n00 n01 n02 n03 n10 n20 n30
    have ct : ∀ (W : World) (o o' : Nat) (v : Value), ¬ o = o' → (W.setCell ⟨g, o', none⟩ v).cell? ⟨g, o, none⟩ = W.cell? ⟨g, o, none⟩ := fun W o o' v h => by
      simp [go_sem, h]
      try (intro h2; exact absurd h2.symm h)
    simp only [e, if_false]
    refine ⟨?_, ?_, ?_, ?_⟩
    · rw [ct _ _ _ _ n03, ct _ _ _ _ n02, ct _ _ _ _ n01, ct _ _ _ _ n00]; exact c0
    · rw [ct _ _ _ _ n13, ct _ _ _ _ n12, ct _ _ _ _ n11, ct _ _ _ _ n10]; exact c1
    · rw [ct _ _ _ _ n23, ct _ _ _ _ n22, ct _ _ _ _ n21, ct _ _ _ _ n20]; exact c2
    · rw [ct _ _ _ _ n33, ct _ _ _ _ n32, ct _ _ _ _ n31, ct _ _ _ _ n30]; exact c3
theorem L18.isl {w : World} {g : Nat} {f f' : Nat → Int} (h : L18 w g f) (hf : ∀ i, i < 18 → f i = f' i) : ISl w (some ⟨g, 0, none⟩) 18 18 f' := by
  refine ⟨by omega, by omega, fun _ => ⟨g, 0, rfl, h.lt, fun i hi => ?_⟩⟩
  have := h.c i hi
  rw [hf i hi] at this
  simpa using this
set_option maxRecDepth 100000 in
set_option maxHeartbeats 1000000 in
theorem supply_any {w : World} {S : Nat → Prop} {bj : Jk} {bb n : Nat} {h : Nat → Kvs} (B : Bk w S bj bb n h) {t : Int} (ht : 0 ≤ t ∧ t < 256) :
    Calls Try.prog 44 #[.pointer (some ⟨bb, 0, none⟩), .int .u8 t] w fun e w' => e = .returned (big (sup (h n) t)) ∧ Below w.heap.size w w' := by
  obtain ⟨Z72, hZ⟩ : ∃ z : Array Value, z = Array.replicate 72 (.int .u64 0) := ⟨_, rfl⟩
  have hz72 := zero72
  rw [← hZ] at hz72
  have HZ := hide hZ
  have HBK := hide B
  have HSUP := hide ((B.good n (Nat.le_refl n)).2.2 t)
  have HBAL : Hid (∀ w' p, Below w.heap.size w w' → 0 ≤ p → p < 256 → Calls Try.prog 23 #[.pointer (some ⟨bb, 0, none⟩), .int .u8 t, .int .u8 p] w' fun e w'' => e = .returned (big (bal (h n) (t, p))) ∧ Below w'.heap.size w' w'') := fun w' p hb h0 h1 => balance_any (k := (t, p)) (B.below hb) ⟨ht, ⟨h0, h1⟩⟩
  clear B hZ
  obtain ⟨W, hW⟩ : ∃ W, (w.alloc (.cells #[.int .u64 0, .int .u64 0, .int .u64 0, .int .u64 0] 55)).alloc (.cells Z72 114) = W := ⟨_, rfl⟩
  obtain ⟨g, hg⟩ : ∃ g, w.heap.size = g := ⟨_, rfl⟩
  have HB : Hid (Below w.heap.size w W) := by rw [← hW]; exact bAl (bAl (bMe w))
  have O0 : Hid (Own W g 0 0 0 0) := by rw [← hW, ← hg]; exact (Own.new w 0 0 0 0 _).past _
  have l0 : L18 W (g + 1) (fun _ => 0) := by rw [← hW, ← hg]; have := L18.new (w.alloc (.cells #[.int .u64 0, .int .u64 0, .int .u64 0, .int .u64 0] 55)) HZ.out 114; simpa using this
  have L0 := hide l0
  clear l0
  have hzW : W.heap.size = g + 2 := by rw [← hW, ← hg]; simp
  have Hg := hide hg
  go_enter Try.func44, Try.ntmps44
  go_wp2
  try rw [hW]
  try rw [hg]
  clear hW hg hz72
  go_loopw [9] (fun q wr => ∃ i : Nat, i ≤ 18 ∧ q = .int .i64 i ∧ Below w.heap.size w wr ∧ Own wr g 0 0 0 0 ∧ L18 wr (g + 1) (fun j => if j < i then bal (h n) (t, (j : Int)) else 0)) (fun q _ => 18 - (intOf q).toNat)
  case atStart => exact ⟨0, by omega, rfl, HB.out, O0.out, by simpa using L0.out⟩
  case round =>
    obtain ⟨i, hi, rfl, hb, o, l⟩ := hrel
    have HBr := hide hb
    have HO := hide o
    have HL := hide l
    clear hb o l
    by_cases hlt : i < 18
    · have hi1 : (i : Int) < 18 := by omega
      have hwr : IntKind.u8.wrap (i : Int) = (i : Int) := by rw [IntKind.wrap_u8]; omega
      have hC := hide (HBAL.out wr (i : Int) HBr.out (by omega) (by omega))
      have hwi : IntKind.i64.wrap ((i : Int) + 1) = ((i + 1 : Nat) : Int) := by rw [IntKind.wrap_i64]; omega
      go_wp2_with fail
      refine hC.out.mono ?_
      clear hC
      rintro e w2 ⟨rfl, hb2⟩
      have HB2 := hide (bOn HBr.out hb2)
      have HO2 := hide (HO.out.of hb2.size (hb2.block _ HO.out.lt))
      have HL2 := hide (HL.out.below hb2)
      generalize hN : bal (h n) (t, (i : Int)) = N at *
      have HN := hide hN
      obtain ⟨c0, c1, c2, c3⟩ := HL2.out.c i hlt
      have fr := HL2.out.fr
      have T : Hid (Below w.heap.size w (put4at w2 (g + 1) (i * 4) N) ∧ Own (put4at w2 (g + 1) (i * 4) N) g 0 0 0 0 ∧ L18 (put4at w2 (g + 1) (i * 4) N) (g + 1) (fun j => if j < i + 1 then bal (h n) (t, (j : Int)) else 0)) := by
        refine ⟨put4at_below HB2.out (by rw [Hg.out]; omega), HO2.out.of (by rw [put4at_size]; exact Nat.le_refl _) (put4at_other _ _ _ _ (by omega)), ?_⟩
        have := HL2.out.put hlt N
        rw [← hN] at this ⊢
        refine (show (fun j => if j = i then bal (h n) (t, (i : Int)) else if j < i then bal (h n) (t, (j : Int)) else 0) = (fun j => if j < i + 1 then bal (h n) (t, (j : Int)) else 0) from ?_) ▸ this
        funext j
        by_cases e : j = i
        · subst e; simp
        · by_cases e2 : j < i
          · simp [e, e2, show j < i + 1 from by omega]
          · simp [e, e2, show ¬ j < i + 1 from by omega]
      clear hb2 hN
      go_wp2
      exact ⟨⟨i + 1, by omega, by simp, T.out.1, T.out.2.1, T.out.2.2⟩, by simp [intOf]; omega⟩
    · obtain rfl : i = 18 := by omega
      have hsum := sum_any (HL.out.isl (f' := fun p => bal (h n) (t, (p : Int))) (fun i hi => by simp [hi])) (fun i => bal_in _ _)
      have HS := hide hsum
      clear hsum
      go_wp2_with fail
      refine HS.out.mono ?_
      clear HS
      rintro e w2 ⟨s, c, rfl, hres, hb2⟩
      have hin : In (sums (fun p => bal (h n) (t, (p : Int))) 18) := HSUP.out
      rcases hres with ⟨_, rfl, rfl⟩ | ⟨q, _⟩
      · have HB2 := hide (bOn HBr.out hb2)
        obtain ⟨o5, o0, o1, o2, o3, o4⟩ := HO.out.of hb2.size (hb2.block _ HO.out.lt)
        have e9 : sums (fun p => bal (h n) (t, (p : Int))) 18 = sup (h n) t := rfl
        rw [e9]
        generalize hN : sup (h n) t = N at *
        have HN := hide hN
        clear hb2 hin e9 hN
        go_wp2
        refine bodyPost_ret (v := big N) (by simp [results, Try.results44, go_sem, o0, o1, o2, o3, o5, World.cell?_alloc_lt]) rfl ⟨by rw [HN.out], ?_⟩
        have g1 : w.heap.size ≤ g := by rw [Hg.out]; exact Nat.le_refl _
        have q := HB2.out
        first | with_reducible exact bAl (put_below q g1) | with_reducible exact put_below (bAl q) g1 | trace_state
      · exact absurd hin q
end Go.Proofs.Ytncnilplmklccaa
