/- The contract of pair's New over this translation. -/
import Derived.Test.YtncnilplmklccaaPrSmall
namespace Go.Proofs.Ytncnilplmklccaa
set_option linter.unusedSimpArgs false
set_option linter.unusedVariables false
open Go.RowKit Go.Lib
attribute [local go_sem] setCell_drewN alloc_drewN

/-- The maps of k books, and what stands behind their journal. -/
def nA (a : Nat → Nat) : Nat → List Nat
  | 0 => []
  | k + 1 => a k :: nA a k
def nE (bb : Nat → Nat) (k : Nat) : List Value := (if 0 < k then .pointer (some ⟨bb 0, 0, none⟩) else .pointer none) :: (if 1 < k then .pointer (some ⟨bb 1, 0, none⟩) else .pointer none) :: (List.replicate 16 (0 : Int)).map (fun n => .int .u64 n)
/-- k books were made of a new pair's journal. -/
structure NewS (w0 w : World) (k : Nat) : Prop where
  ex : ∃ (S Z : Nat → Prop) (mb : Nat → Nat) (X : Nat → Kvs) (a bb : Nat → Nat) (hP : ([] : List Value).length ≤ 100), St w S Z ⟨w0.heap.size, [], nE bb k, hP⟩ (nA a k) mb X [] ∧ (∀ s, s < k → w.cell? ⟨bb s, 0, none⟩ = some (.pointer (some ⟨a s, 0, none⟩)) ∧ ¬ S (bb s) ∧ X (a s) = [] ∧ a s < w.heap.size) ∧ (∀ s t, s < t → t < k → a s ≠ a t) ∧ ∀ j, S j → w0.heap.size ≤ j
  be : Below w0.heap.size w0 w
theorem NewS.next {w0 w : World} {k : Nat} (h : NewS w0 w k) (hk : k < 2) :
    w.frozen? ⟨w0.heap.size, 1 + k, none⟩ = false ∧ w.cell? ⟨w0.heap.size, 1 + k, none⟩ = some (.pointer none) ∧
    Calls Try.prog 25 #[.pointer (some ⟨w0.heap.size, 0, none⟩)] w fun e w1 => ∃ b, e = .returned (.pointer (some ⟨b, 0, none⟩)) ∧ w1.frozen? ⟨w0.heap.size, 1 + k, none⟩ = false ∧ w1.cell? ⟨w0.heap.size, 1 + k, none⟩ = some (.pointer none) ∧ NewS w0 (w1.setCell ⟨w0.heap.size, 1 + k, none⟩ (.pointer (some ⟨b, 0, none⟩))) (k + 1) := by
  obtain ⟨⟨S, Z, mb, X, a, bb, hP, hs, hc, hne, hS⟩, be⟩ := h
  have hE : ∀ bb : Nat → Nat, (nE bb k)[k]? = some (.pointer none) := fun bb => by rcases (show k = 0 ∨ k = 1 by omega) with rfl | rfl <;> simp [nE]
  have h0 := hs.jf (1 + k)
  have h1 := hs.ext k _ (hE bb)
  rw [Nat.add_comm k 1] at h1
  refine ⟨h0, h1, (bnew_any hs).mono ?_⟩
  rintro e w1 ⟨b, a', S', Z', mb', rfl, ⟨l1, l2, l3⟩, cb, nb, hs', M, hb⟩
  have g1 := hs'.ext k _ (hE bb)
  rw [Nat.add_comm k 1] at g1
  refine ⟨b, rfl, hs'.jf _, g1, ?_⟩
  obtain ⟨q1, q2⟩ := hs'.extSet (i := k) (hE bb) (.pointer (some ⟨b, 0, none⟩))
  rw [Nat.add_comm k 1] at q1 q2
  have lj : w0.heap.size < w.heap.size := hs.low _ hs.jS
  have hA : nA (fun s => if s = k then a' else a s) (k + 1) = a' :: nA a k := by
    rcases (show k = 0 ∨ k = 1 by omega) with rfl | rfl <;> simp [nA]
  have hEE : (nE bb k).set k (.pointer (some ⟨b, 0, none⟩)) = nE (fun s => if s = k then b else bb s) (k + 1) := by
    rcases (show k = 0 ∨ k = 1 by omega) with rfl | rfl <;> simp [nE]
  have sz : (w1.setCell ⟨w0.heap.size, 1 + k, none⟩ (.pointer (some ⟨b, 0, none⟩))).heap.size = w1.heap.size := by simp [World.setCell]
  refine ⟨⟨S', Z', mb', upX X a' [], (fun s => if s = k then a' else a s), (fun s => if s = k then b else bb s), hP, ?_, fun s hs2 => ?_, fun s t hst htk => ?_, fun j hj => ?_⟩, ?_⟩
  · rw [hA, ← hEE]; exact q1
  · by_cases e : s = k
    · subst e
      simp only [if_true]
      refine ⟨(World.cell?_of_block (w := w1) (a := ⟨b, 0, none⟩) (q2.block b l2 nb)).trans cb, nb, upX_same _ _ _, ?_⟩
      rw [sz]
      have := hs'.low a' (hs'.stat _ (hs'.box a' (List.mem_cons_self)).1)
      exact this
    · simp only [e, if_false]
      obtain ⟨p1, p2, p3, p4⟩ := hc s (by omega)
      have hn : ¬ S' (bb s) := fun e2 => by
        rcases M.own _ e2 with e3 | e3
        · exact p2 e3
        · have := cell_lt p1; omega
      have c1 : w1.cell? ⟨bb s, 0, none⟩ = some (.pointer (some ⟨a s, 0, none⟩)) := ((bcell hb).1 _ _ (cell_lt p1)).trans p1
      exact ⟨(World.cell?_of_block (w := w1) (a := ⟨bb s, 0, none⟩) (q2.block _ (cell_lt c1) hn)).trans c1, hn, by rw [upX_other X (show a s ≠ a' by omega)]; exact p3, by rw [sz]; have := hb.size; omega⟩
  · by_cases e : t = k
    · subst e
      have e2 : ¬ s = t := by omega
      simp only [e2, if_true, if_false]
      have := (hc s hst).2.2.2
      omega
    · have e2 : ¬ s = k := by omega
      simp only [e, e2, if_false]
      exact hne s t hst (by omega)
  · rcases M.own j hj with e | e
    · exact hS j e
    · omega
  · exact (bOn be hb).setCell (Nat.le_refl _) _
theorem NewS.done {W w0 w : World} (h : NewS w0 w 2) (hW : Below W.heap.size W w0) {Fr : Nat → Prop} (hF : ∀ k, Fr k → k < w0.heap.size) : Pr W w w0.heap.size [] 0 (fun _ _ => []) (List.replicate 16 0) Fr ∧ Kp Fr w0 w := by
  obtain ⟨⟨S, Z, mb, X, a, bb, hP, hs, hc, hne, hS⟩, be⟩ := h
  refine ⟨⟨⟨S, Z, mb, X, [], a, bb, hP, hs, hne 0 1 (by omega) (by omega), rfl, fun s h2 => ?_, fun k hk => Nat.le_trans hW.size (hS k hk), fun k hk hk2 => ?_⟩, fun s m _ _ => ⟨Good.nil, fun t => ?_⟩, by simp, fun x hx => ?_, fun k hk => Nat.lt_of_lt_of_le (hF k hk) be.size, bOn hW be⟩, be.size, fun k hk => be.block k (hF k hk)⟩
  · obtain ⟨q1, q2, q3, _⟩ := hc s h2
    refine ⟨fun m hm => ?_, q1, q2⟩
    rw [List.drop_nil, undoN_nil]
    exact q3
  · have := hF k hk; have := hS k hk2; omega
  · rw [sup_nil]; exact In.zero
  · have := (List.mem_replicate.1 hx).2; omega
set_option maxHeartbeats 4000000 in
theorem new14_any {W w : World} (hW : Below W.heap.size W w) {Fr : Nat → Prop} (hF : ∀ k, Fr k → k < w.heap.size) :
    Calls Try.prog 8 #[] w fun e w' => e = .returned (.pointer (some ⟨w.heap.size, 0, none⟩)) ∧ Pr W w' w.heap.size [] 0 (fun _ _ => []) (List.replicate 16 0) Fr ∧ Kp Fr w w' := by
  obtain ⟨w1, hw1⟩ : ∃ w1, w.alloc (.cells #[.slice none 0 0, .pointer none, .pointer none, .int .u64 0, .int .u64 0, .int .u64 0, .int .u64 0, .int .u64 0, .int .u64 0, .int .u64 0, .int .u64 0, .int .u64 0, .int .u64 0, .int .u64 0, .int .u64 0, .int .u64 0, .int .u64 0, .int .u64 0, .int .u64 0] 66) = w1 := ⟨_, rfl⟩
  have N0 : Hid (NewS w w1 0) := by
    rw [← hw1]
    refine hide ⟨⟨_, _, fun _ => 0, _, fun _ => 0, fun _ => 0, by simp, St.fresh (nE (fun _ => 0) 0) (fun _ => 0) (by simp [go_sem]) (fun o => by simp [go_sem]) (fun i v hv => ?_), fun s h => absurd h (Nat.not_lt_zero _), fun s t _ h => absurd h (Nat.not_lt_zero _), fun j hj => by subst hj; exact Nat.le_refl _⟩, bAl (bMe w)⟩
    have hi : i < 18 := by have := (List.getElem?_eq_some_iff.1 hv).1; simpa [nE] using this
    rw [World.cell?_alloc_at _ _ _ _ rfl]
    rw [← hv]
    rcases (show i = 0 ∨ i = 1 ∨ i = 2 ∨ i = 3 ∨ i = 4 ∨ i = 5 ∨ i = 6 ∨ i = 7 ∨ i = 8 ∨ i = 9 ∨ i = 10 ∨ i = 11 ∨ i = 12 ∨ i = 13 ∨ i = 14 ∨ i = 15 ∨ i = 16 ∨ i = 17 by omega) with rfl | rfl | rfl | rfl | rfl | rfl | rfl | rfl | rfl | rfl | rfl | rfl | rfl | rfl | rfl | rfl | rfl | rfl <;> rfl
  go_enter Try.func8, Try.ntmps8
  go_wp2
  try rw [hw1]
  clear hw1
  go_loopw [5] (fun i wr => ∃ k : Nat, k ≤ 2 ∧ i = .int .i64 k ∧ NewS w wr k) (fun i _ => (2 - intOf i).toNat)
  case atStart => exact ⟨0, by omega, rfl, N0.out⟩
  case round =>
    obtain ⟨k, hk, rfl, hn⟩ := hrel
    by_cases hlt : k < 2
    · obtain ⟨f1, c1, hC⟩ := (NewS.next ⟨hn.ex, hn.be⟩ hlt)
      have HC := hide ((NewS.next (w := wr.drew) ⟨by obtain ⟨S, Z, mb, X, a, bb, hP, hs, hc, hne, hS⟩ := hn.ex; exact ⟨S, Z, mb, X, a, bb, hP, hs.below (bMe wr).drew, hc, hne, hS⟩, hn.be.drew⟩ hlt).2.2)
      clear hn hC
      have hk2 : (k : Int) < 2 := by omega
      go_wp2
      go_region_with (go_at_call 25; refine HC.out.mono ?_; rintro e w2 ⟨b, rfl, f2, c2, n2⟩)
      all_goals
        go_wp2
        go_roundw
        case rel => exact ⟨k + 1, by omega, by simp, n2⟩
        case measure => simp [intOf]; omega
    · obtain rfl : k = 2 := by omega
      have HN := hide (hn.done hW hF)
      clear hn
      go_wp2
      go_ret
      exact ⟨rfl, HN.out⟩
end Go.Proofs.Ytncnilplmklccaa
