/- Two pairs apart. -/
import Derived.Test.YtncnilplmklccaaGreatPrRun
namespace Go.Proofs.YtncnilplmklccaaGreat
set_option linter.unusedSimpArgs false
set_option linter.unusedVariables false
open Go.RowKit Go.Lib

/-- A pair where nothing is under way, with the blocks that are its own. -/
structure PO (W w : World) (bp : Nat) (L : Nat → Kvs) (N : List Int) (O : Nat → Prop) : Prop where
  ex : ∃ (S Z : Nat → Prop) (mb : Nat → Nat) (X : Nat → Kvs) (a bb : Nat → Nat) (hP : ([] : List Value).length ≤ 100), St w S Z ⟨bp, [], pE (bb 0) (bb 1) N, hP⟩ [a 1, a 0] mb X [] ∧ a 0 ≠ a 1 ∧
    (∀ s : Nat, s < 2 → X (a s) = L s ∧ w.cell? ⟨bb s, 0, none⟩ = some (.pointer (some ⟨a s, 0, none⟩)) ∧ ¬ S (bb s)) ∧ (∀ k, S k → W.heap.size ≤ k) ∧ ∀ k, O k ↔ S k ∨ k = bb 0 ∨ k = bb 1
  good : ∀ s : Nat, s < 2 → Good (L s) ∧ ∀ t, In (sup (L s) t)
  nl : N.length = 16
  nb : ∀ x ∈ N, 0 ≤ x ∧ x < 18446744073709551616
  be : Below W.heap.size W w
theorem PO.lt {W w : World} {bp : Nat} {L : Nat → Kvs} {N : List Int} {O : Nat → Prop} (p : PO W w bp L N O) : ∀ k, O k → k < w.heap.size := fun k hk => by
  obtain ⟨S, Z, mb, X, a, bb, hP, hst, hne, hh, s1, s2⟩ := p.ex
  rcases (s2 k).1 hk with h | rfl | rfl
  · exact hst.low k h
  · exact cell_lt (hh 0 (by omega)).2.1
  · exact cell_lt (hh 1 (by omega)).2.1
theorem PO.of {W w w' : World} {bp : Nat} {L : Nat → Kvs} {N : List Int} {O : Nat → Prop} (p : PO W w bp L N O) (hs : w.heap.size ≤ w'.heap.size) (hb : ∀ k, O k → w'.heap[k]? = w.heap[k]?) (hB : Below W.heap.size W w') : PO W w' bp L N O := by
  obtain ⟨⟨S, Z, mb, X, a, bb, hP, hst, hne, hh, s1, s2⟩, good, nl, nb, be⟩ := p
  refine ⟨⟨S, Z, mb, X, a, bb, hP, hst.of hs (fun k hk => hb k ((s2 k).2 (.inl hk))), hne, fun s hs2 => ?_, s1, s2⟩, good, nl, nb, hB⟩
  obtain ⟨q1, q2, q3⟩ := hh s hs2
  refine ⟨q1, (World.cell?_of_block (w := w) (a := ⟨bb s, 0, none⟩) (hb (bb s) ((s2 _).2 (.inr ?_)))).trans q2, q3⟩
  rcases (show s = 0 ∨ s = 1 by omega) with rfl | rfl
  · exact .inl rfl
  · exact .inr rfl
theorem PO.pq {W w : World} {bp : Nat} {L : Nat → Kvs} {N : List Int} {O : Nat → Prop} (p : PO W w bp L N O) {Fr : Nat → Prop} (hF : ∀ k, Fr k → ¬ O k ∧ k < w.heap.size) : PQ W w bp L N Fr := by
  obtain ⟨⟨S, Z, mb, X, a, bb, hP, hst, hne, hh, s1, s2⟩, good, nl, nb, be⟩ := p
  refine ⟨⟨S, Z, mb, X, [], a, bb, hP, hst, hne, rfl, fun s hs2 => ?_, s1, fun k hk => ?_⟩, fun s m hs _ => good s hs, nl, nb, fun k hk => (hF k hk).2, be⟩
  · obtain ⟨q1, q2, q3⟩ := hh s hs2
    exact ⟨fun m _ => by rw [List.drop_nil, undoN_nil]; exact q1, q2, q3⟩
  · have := (hF k hk).1
    exact ⟨fun h => this ((s2 k).2 (.inl h)), fun h => this ((s2 k).2 (.inr (.inl h))), fun h => this ((s2 k).2 (.inr (.inr h)))⟩
theorem PQ.po {W w : World} {bp : Nat} {L : Nat → Kvs} {N : List Int} {Fr : Nat → Prop} (p : PQ W w bp L N Fr) : ∃ O, PO W w bp L N O ∧ ∀ k, Fr k → ¬ O k := by
  obtain ⟨⟨S, Z, mb, X, ds, a, bb, hP, hst, hne, hl, hh, s1, s2⟩, good, nl, nb, low, be⟩ := p
  obtain rfl : ds = [] := List.eq_nil_of_length_eq_zero hl
  refine ⟨fun k => S k ∨ k = bb 0 ∨ k = bb 1, ⟨⟨S, Z, mb, X, a, bb, hP, hst, hne, fun s hs2 => ?_, s1, fun k => Iff.rfl⟩, fun s hs => good s 0 hs (Nat.le_refl _), nl, nb, be⟩, fun k hk h => ?_⟩
  · obtain ⟨q1, q2, q3⟩ := hh s hs2
    exact ⟨by have := q1 0 (Nat.le_refl _); rwa [List.drop_nil, undoN_nil] at this, q2, q3⟩
  · obtain ⟨q1, q2, q3⟩ := s2 k hk
    rcases h with h | h | h
    · exact q1 h
    · exact q2 h
    · exact q3 h
/-- Two pairs apart; F: others' blocks. -/
structure T2 (W w : World) (bp : Nat) (L : Nat → Kvs) (N : List Int) (bq : Nat) (L2 : Nat → Kvs) (N2 : List Int) (F : Nat → Prop) : Prop where
  ex : ∃ Op Oq, PO W w bp L N Op ∧ PO W w bq L2 N2 Oq ∧ (∀ k, Op k → ¬ Oq k) ∧ ∀ k, F k → ¬ Op k ∧ ¬ Oq k ∧ k < w.heap.size
  be : Below W.heap.size W w
theorem T2.swap {W w : World} {bp bq : Nat} {L L2 : Nat → Kvs} {N N2 : List Int} {F : Nat → Prop} (t : T2 W w bp L N bq L2 N2 F) : T2 W w bq L2 N2 bp L N F := by
  obtain ⟨⟨Op, Oq, p, q, hd, hF⟩, be⟩ := t
  exact ⟨⟨Oq, Op, q, p, fun k h1 h2 => hd k h2 h1, fun k hk => ⟨(hF k hk).2.1, (hF k hk).1, (hF k hk).2.2⟩⟩, be⟩
theorem T2.below {W w w' : World} {bp bq : Nat} {L L2 : Nat → Kvs} {N N2 : List Int} {F : Nat → Prop} (t : T2 W w bp L N bq L2 N2 F) (hb : Below w.heap.size w w') : T2 W w' bp L N bq L2 N2 F := by
  obtain ⟨⟨Op, Oq, p, q, hd, hF⟩, be⟩ := t
  exact ⟨⟨Op, Oq, p.of hb.size (fun k hk => hb.block k (p.lt k hk)) (bOn be hb), q.of hb.size (fun k hk => hb.block k (q.lt k hk)) (bOn be hb), hd, fun k hk => ⟨(hF k hk).1, (hF k hk).2.1, Nat.lt_of_lt_of_le (hF k hk).2.2 hb.size⟩⟩, bOn be hb⟩
theorem T2.add {W w w' : World} {bp bq : Nat} {L L2 : Nat → Kvs} {N N2 : List Int} {F F' : Nat → Prop} (t : T2 W w bp L N bq L2 N2 F) (hb : Below w.heap.size w w') (hF' : ∀ k, F' k → F k ∨ (w.heap.size ≤ k ∧ k < w'.heap.size)) : T2 W w' bp L N bq L2 N2 F' := by
  have t' := t.below hb
  obtain ⟨⟨Op, Oq, p, q, hd, hF⟩, be⟩ := t
  obtain ⟨⟨_, _, _, _, _, _⟩, be'⟩ := t'
  refine ⟨⟨Op, Oq, p.of hb.size (fun k hk => hb.block k (p.lt k hk)) be', q.of hb.size (fun k hk => hb.block k (q.lt k hk)) be', hd, fun k hk => ?_⟩, be'⟩
  rcases hF' k hk with h | h
  · exact ⟨(hF k h).1, (hF k h).2.1, Nat.lt_of_lt_of_le (hF k h).2.2 hb.size⟩
  · exact ⟨fun e => by have := p.lt k e; omega, fun e => by have := q.lt k e; omega, h.2⟩
/-- The first one acts. -/
theorem T2.act {W w : World} {bp bq : Nat} {L L2 : Nat → Kvs} {N N2 : List Int} {F : Nat → Prop} (t : T2 W w bp L N bq L2 N2 F) : ∃ Fr, PQ W w bp L N Fr ∧ (∀ k, F k → Fr k) ∧ ∀ {w' L' N'}, PQ W w' bp L' N' Fr → Kp Fr w w' → T2 W w' bp L' N' bq L2 N2 F := by
  obtain ⟨⟨Op, Oq, p, q, hd, hF⟩, be⟩ := t
  refine ⟨fun k => F k ∨ Oq k, p.pq fun k hk => ?_, fun k => .inl, fun {w' L' N'} p' kp => ?_⟩
  · rcases hk with h | h
    · exact ⟨(hF k h).1, (hF k h).2.2⟩
    · exact ⟨fun e => hd k e h, q.lt k h⟩
  · obtain ⟨O', po, hn⟩ := PQ.po p'
    exact ⟨⟨O', Oq, po, q.of kp.1 (fun k hk => kp.2 k (.inr hk)) p'.be, fun k h1 h2 => hn k (.inr h2) h1, fun k hk => ⟨hn k (.inl hk), (hF k hk).2.1, Nat.lt_of_lt_of_le (hF k hk).2.2 kp.1⟩⟩, p'.be⟩
theorem T2.sub {W w : World} {bp bq : Nat} {L L2 : Nat → Kvs} {N N2 : List Int} {F F' : Nat → Prop} (t : T2 W w bp L N bq L2 N2 F) (h : ∀ k, F' k → F k) : T2 W w bp L N bq L2 N2 F' := t.add (bMe w) fun k hk => .inl (h k hk)
/-- A second new pair. -/
theorem T2.new {W w : World} {bp : Nat} {L : Nat → Kvs} {N : List Int} {F : Nat → Prop} (p : PQ W w bp L N F) :
    Calls Tryz.prog 6 #[] w fun e w' => e = .returned (.pointer (some ⟨w.heap.size, 0, none⟩)) ∧ T2 W w' bp L N w.heap.size (fun _ => []) (List.replicate 16 0) F ∧ Kp F w w' := by
  obtain ⟨O, po, hn⟩ := PQ.po p
  have low := p.low
  refine (new14_any p.be (Fr := fun k => F k ∨ O k) (fun k hk => hk.elim (low k) (po.lt k))).mono ?_
  rintro e w' ⟨rfl, q, kp⟩
  obtain ⟨Oq, qo, hq⟩ := PQ.po (L := fun _ => []) q
  exact ⟨rfl, ⟨⟨O, Oq, po.of kp.1 (fun k hk => kp.2 k (.inr hk)) q.be, qo, fun k h1 h2 => hq k (.inr h1) h2, fun k hk => ⟨hn k hk, hq k (.inl hk), Nat.lt_of_lt_of_le (low k hk) kp.1⟩⟩, q.be⟩, kp.sub fun k => .inl⟩
theorem T2.bytes {W w : World} {bp bq : Nat} {L L2 : Nat → Kvs} {N N2 : List Int} {F : Nat → Prop} (t : T2 W w bp L N bq L2 N2 F) :
    Calls Tryz.prog 12 #[.pointer (some ⟨bp, 0, none⟩)] w fun e w' => ∃ so c, e = .returned (.slice so (pairT L N).length c) ∧ (∀ w1 : World, w1.heap = w'.heap → (convert 52 9 (.slice so (pairT L N).length c)).run Tryz.prog w1 = .ok (.string (strOfNums (pairT L N))) w1) ∧ T2 W w' bp L N bq L2 N2 F ∧ Kp F w w' := by
  obtain ⟨Fr, p, h1, h2⟩ := t.act
  refine (bytes14_any p (by omega)).mono ?_
  rintro e w' ⟨v, rfl, hv, hb⟩
  obtain ⟨so, c, rfl, _⟩ := hv.cell
  refine ⟨so, c, rfl, fun w1 e => ?_, t.below hb, (p.kp hb).sub h1⟩
  refine At.str (At.of hv.at.1 (by rw [e]; exact Nat.le_refl _) fun _ _ _ => by rw [e]) c
end Go.Proofs.YtncnilplmklccaaGreat
