/- A pair in memory: two books of one journal, and the accounts' next nonces. -/
import Derived.Test.YtncnilplmklccaaBkLaw
import Derived.Test.YtncnilplmklccaaBkPlay
import Derived.Test.YtncnilplmklccaaBkBack
namespace Go.Proofs.Ytncnilplmklccaa
set_option linter.unusedSimpArgs false
set_option linter.unusedVariables false
open Go.RowKit Go.Lib
attribute [local go_sem] setCell_drewN alloc_drewN

/-- What stands behind the journal in a pair's box. -/
def pE (b0 b1 : Nat) (N : List Int) : List Value := .pointer (some ⟨b0, 0, none⟩) :: .pointer (some ⟨b1, 0, none⟩) :: N.map (fun n => .int .u64 n)
/-- The pair in block bp, whose blocks came behind W, none of them one of Fr: n deeds were done behind P; behind m of them side s's book had H s m. -/
structure Pr (W w : World) (bp : Nat) (P : List Value) (n : Nat) (H : Nat → Nat → Kvs) (N : List Int) (Fr : Nat → Prop) : Prop where
  ex : ∃ (S Z : Nat → Prop) (mb : Nat → Nat) (X : Nat → Kvs) (ds : Deeds) (a bb : Nat → Nat) (hP : P.length ≤ 100), St w S Z ⟨bp, P, pE (bb 0) (bb 1) N, hP⟩ [a 1, a 0] mb X ds ∧ a 0 ≠ a 1 ∧ ds.length = n ∧
    (∀ s : Nat, s < 2 → (∀ m, m ≤ n → undoN kyKey (ds.drop m) X (a s) = H s m) ∧ w.cell? ⟨bb s, 0, none⟩ = some (.pointer (some ⟨a s, 0, none⟩)) ∧ ¬ S (bb s)) ∧ (∀ k, S k → W.heap.size ≤ k) ∧ (∀ k, Fr k → ¬ S k ∧ k ≠ bb 0 ∧ k ≠ bb 1)
  good : ∀ s m : Nat, s < 2 → m ≤ n → Good (H s m) ∧ ∀ t, In (sup (H s m) t)
  nl : N.length = 16
  nb : ∀ x ∈ N, 0 ≤ x ∧ x < 18446744073709551616
  low : ∀ k, Fr k → k < w.heap.size
  be : Below W.heap.size W w
theorem cell_lt {w : World} {b o : Nat} {v : Value} (h : w.cell? ⟨b, o, none⟩ = some v) : b < w.heap.size := by
  obtain ⟨cs, t, f, e⟩ := cells_of_cellS h
  exact (Array.getElem?_eq_some_iff.1 e).1
theorem Pr.below {W w w' : World} {bp n : Nat} {P : List Value} {H : Nat → Nat → Kvs} {N : List Int} {Fr : Nat → Prop} (p : Pr W w bp P n H N Fr) (hb : Below w.heap.size w w') : Pr W w' bp P n H N Fr := by
  obtain ⟨⟨S, Z, mb, X, ds, a, bb, hP, hs, hne, hl, hh, s1, s2⟩, good, nl, nb, low, be⟩ := p
  refine ⟨⟨S, Z, mb, X, ds, a, bb, hP, hs.below hb, hne, hl, fun s hs2 => ?_, s1, s2⟩, good, nl, nb, fun k hk => Nat.lt_of_lt_of_le (low k hk) hb.size, bOn be hb⟩
  obtain ⟨q1, q2, q3⟩ := hh s hs2
  exact ⟨q1, ((bcell hb).1 _ _ (cell_lt q2)).trans q2, q3⟩
theorem Pr.sub {W w : World} {bp n : Nat} {P : List Value} {H : Nat → Nat → Kvs} {N : List Int} {Fr Fr' : Nat → Prop} (p : Pr W w bp P n H N Fr) (hs : ∀ k, Fr' k → Fr k) : Pr W w bp P n H N Fr' := by
  obtain ⟨⟨S, Z, mb, X, ds, a, bb, hP, hst, hne, hl, hh, s1, s2⟩, good, nl, nb, low, be⟩ := p
  exact ⟨⟨S, Z, mb, X, ds, a, bb, hP, hst, hne, hl, hh, s1, fun k hk => s2 k (hs k hk)⟩, good, nl, nb, fun k hk => low k (hs k hk), be⟩
/-- Boxes more that are another's. -/
theorem Pr.add {W w w' : World} {bp n : Nat} {P : List Value} {H : Nat → Nat → Kvs} {N : List Int} {Fr F : Nat → Prop} (p : Pr W w bp P n H N Fr) (hb : Below w.heap.size w w') (hF : ∀ k, F k → w.heap.size ≤ k ∧ k < w'.heap.size) : Pr W w' bp P n H N (fun k => Fr k ∨ F k) := by
  obtain ⟨⟨S, Z, mb, X, ds, a, bb, hP, hst, hne, hl, hh, s1, s2⟩, good, nl, nb, low, be⟩ := p
  have l0 := cell_lt (hh 0 (by omega)).2.1
  have l1 := cell_lt (hh 1 (by omega)).2.1
  refine ⟨⟨S, Z, mb, X, ds, a, bb, hP, hst.below hb, hne, hl, fun s hs2 => ?_, s1, fun k hk => ?_⟩, good, nl, nb, fun k hk => ?_, bOn be hb⟩
  · obtain ⟨q1, q2, q3⟩ := hh s hs2
    exact ⟨q1, ((bcell hb).1 _ _ (cell_lt q2)).trans q2, q3⟩
  · rcases hk with hk | hk
    · exact s2 k hk
    · have := hF k hk; exact ⟨fun hs => by have := hst.low k hs; omega, by omega, by omega⟩
  · rcases hk with hk | hk
    · exact Nat.lt_of_lt_of_le (low k hk) hb.size
    · exact (hF k hk).2
/-- Only another's boxes turn. -/
theorem Pr.turn {W w w' : World} {bp n : Nat} {P : List Value} {H : Nat → Nat → Kvs} {N : List Int} {Fr F : Nat → Prop} (p : Pr W w bp P n H N Fr) (hF : ∀ k, F k → Fr k ∧ W.heap.size ≤ k) (hnb : ∀ k v, F k → w.cell? ⟨k, 0, none⟩ = some v → ∀ b, v ≠ .pointer (some b)) (hs : w.heap.size ≤ w'.heap.size) (hb : ∀ k, k < w.heap.size → ¬ F k → w'.heap[k]? = w.heap[k]?) (hB : Below W.heap.size W w') : Pr W w' bp P n H N Fr := by
  obtain ⟨⟨S, Z, mb, X, ds, a, bb, hP, hst, hne, hl, hh, s1, s2⟩, good, nl, nb, low, be⟩ := p
  refine ⟨⟨S, Z, mb, X, ds, a, bb, hP, hst.of hs (fun k hk => hb k (hst.low k hk) fun e => (s2 k (hF k e).1).1 hk), hne, hl, fun s hs2 => ?_, s1, s2⟩, good, nl, nb, fun k hk => Nat.lt_of_lt_of_le (low k hk) hs, hB⟩
  obtain ⟨q1, q2, q3⟩ := hh s hs2
  refine ⟨q1, (World.cell?_of_block (w := w) (a := ⟨bb s, 0, none⟩) (hb _ (cell_lt q2) fun e => ?_)).trans q2, q3⟩
  exact hnb _ _ e q2 _ rfl
/-- What deeds make of a pair. -/
structure Px (n : Nat) (H : Nat → Nat → Kvs) (n' : Nat) (H' : Nat → Nat → Kvs) (L : Nat → Kvs) (c : Nat) : Prop where
  le : n ≤ n'
  up : n' ≤ n + c
  was : ∀ s m : Nat, s < 2 → m ≤ n → H' s m = H s m
  now : ∀ s : Nat, s < 2 → H' s n' = L s
theorem Px.refl (n : Nat) (H : Nat → Nat → Kvs) (c : Nat) : Px n H n H (fun s => H s n) c := ⟨Nat.le_refl _, by omega, fun _ _ _ _ => rfl, fun _ _ => rfl⟩
theorem Px.trans {n n' n'' : Nat} {H H' H'' : Nat → Nat → Kvs} {L L' : Nat → Kvs} {c d : Nat} (p : Px n H n' H' L c) (q : Px n' H' n'' H'' L' d) : Px n H n'' H'' L' (c + d) :=
  ⟨Nat.le_trans p.le q.le, by have := p.up; have := q.up; omega, fun s m hs hm => (q.was s m hs (Nat.le_trans hm p.le)).trans (p.was s m hs hm), q.now⟩
/-- One of the two, another one. -/
def upS (L : Nat → Kvs) (s : Nat) (M : Kvs) : Nat → Kvs := fun i => if i = s then M else L i
/-- A side's book. -/
theorem Pr.side {W w : World} {bp n : Nat} {P : List Value} {H : Nat → Nat → Kvs} {N : List Int} {Fr : Nat → Prop} (p : Pr W w bp P n H N Fr) {s : Nat} (hs : s < 2) :
    ∃ (bj : Jk) (b : Nat) (Fr' : Nat → Prop), w.cell? ⟨bp, 1 + s, none⟩ = some (.pointer (some ⟨b, 0, none⟩)) ∧ BS W w bj b n (H s) Fr' ∧ (∀ k, Fr k → Fr' k) ∧
      ∀ {w' n' h' L c}, BS W w' bj b n' h' Fr' → Kp Fr' w w' → Nx n (H s) n' h' L c → ∃ H', Pr W w' bp P n' H' N Fr ∧ Kp Fr w w' ∧ Px n H n' H' (upS (fun i => H i n) s L) c := by
  obtain ⟨⟨S, Z, mb, X, ds, a, bb, hP, hst, hne, hl, hh, s1, s2⟩, good, nl, nb, low, be⟩ := p
  obtain ⟨q1, q2, q3⟩ := hh s hs
  have l0 := cell_lt (hh 0 (by omega)).2.1
  have l1 := cell_lt (hh 1 (by omega)).2.1
  have n0 := (hh 0 (by omega)).2.2
  have n1 := (hh 1 (by omega)).2.2
  have hmem : a s ∈ [a 1, a 0] := by rcases (show s = 0 ∨ s = 1 by omega) with rfl | rfl <;> simp
  have hoth : ∀ b, b ∈ [a 1, a 0] → b ≠ a s → b = a (1 - s) := fun b hb hn => by
    rcases (show s = 0 ∨ s = 1 by omega) with rfl | rfl
    · simp at hb; rcases hb with rfl | rfl
      · rfl
      · exact absurd rfl hn
    · simp at hb; rcases hb with rfl | rfl
      · exact absurd rfl hn
      · rfl
  have hne2 : a (1 - s) ≠ a s := by
    rcases (show s = 0 ∨ s = 1 by omega) with rfl | rfl
    · exact hne.symm
    · exact hne
  have hns : 1 - s < 2 := by omega
  refine ⟨⟨⟨bp, P, pE (bb 0) (bb 1) N, hP⟩, a s, [a 1, a 0], fun b m => H (1 - s) (min m n)⟩, bb s, fun k => Fr k ∨ k = bb 0 ∨ k = bb 1, ?_, ⟨⟨S, ⟨⟨Z, mb, X, ds, hst, hl, q1, fun b hb hn m hm => ?_, q2⟩, hmem, q3, fun b m _ hm => ?_, fun m hm => ⟨(good s m hs hm).1, (good s m hs hm).1.few, (good s m hs hm).2⟩⟩, s1, fun k hk => ?_⟩, fun k hk => ?_, be⟩, fun k hk => .inl hk, ?_⟩
  · rw [Nat.add_comm]
    refine hst.ext s _ ?_
    rcases (show s = 0 ∨ s = 1 by omega) with rfl | rfl <;> rfl
  · rw [hoth b hb hn]
    show _ = H (1 - s) (min m n)
    rw [Nat.min_eq_left hm]
    exact (hh (1 - s) hns).1 m hm
  · show H (1 - s) (min m n) = H (1 - s) (min n n)
    rw [Nat.min_eq_right hm, Nat.min_self]
  · rcases hk with hk | rfl | rfl
    · exact (s2 k hk).1
    · exact n0
    · exact n1
  · rcases hk with hk | rfl | rfl
    · exact low k hk
    · exact l0
    · exact l1
  · intro w' n' h' L c b' kp nx
    obtain ⟨⟨S', ⟨⟨Z', mb', X', ds', hst', hl', hh', ho', hc'⟩, _, far', _, good'⟩, s1', s2'⟩, low', be'⟩ := b'
    refine ⟨fun i m => if i = s then h' m else H i (min m n), ⟨⟨S', Z', mb', X', ds', a, bb, hP, hst', hne, hl', fun i hi => ?_, s1', fun k hk => ⟨s2' k (.inl hk), (s2 k hk).2⟩⟩, fun i m hi hm => ?_, nl, nb, fun k hk => low' k (.inl hk), be'⟩, ⟨kp.1, fun k hk => kp.2 k (.inl hk)⟩, ⟨nx.le, nx.up, fun i m hi hm => ?_, fun i hi => ?_⟩⟩
    · have hk : bb i = bb 0 ∨ bb i = bb 1 := by rcases (show i = 0 ∨ i = 1 by omega) with rfl | rfl <;> simp
      refine ⟨fun m hm => ?_, (kp.cell (.inr hk)).trans (hh i hi).2.1, fun e => s2' _ (.inr hk) e⟩
      by_cases e : i = s
      · subst e
        simp only [if_true]
        exact hh' m hm
      · obtain rfl : i = 1 - s := by omega
        simp only [e, if_false]
        exact ho' (a (1 - s)) (by rcases (show s = 0 ∨ s = 1 by omega) with rfl | rfl <;> simp) hne2 m hm
    · by_cases e : i = s
      · subst e
        simp only [if_true]
        exact ⟨(good' m hm).1, (good' m hm).2.2⟩
      · simp only [e, if_false]
        exact good i _ hi (Nat.min_le_right _ _)
    · by_cases e : i = s
      · subst e
        simp only [if_true]
        exact nx.was m hm
      · simp only [e, if_false]
        rw [Nat.min_eq_left hm]
    · unfold upS
      by_cases e : i = s
      · subst e
        simp only [if_true]
        exact nx.now
      · simp only [e, if_false]
        rw [Nat.min_eq_right nx.le]
end Go.Proofs.Ytncnilplmklccaa
