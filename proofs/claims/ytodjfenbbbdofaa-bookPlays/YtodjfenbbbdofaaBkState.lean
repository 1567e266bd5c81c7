/- A book in memory: its journal, what it has, and what it had. -/
import Derived.Test.YtodjfenbbbdofaaBkMath
namespace Go.Proofs.Ytodjfenbbbdofaa
set_option linter.unusedSimpArgs false
set_option linter.unusedVariables false
open Go.RowKit Go.Lib
attribute [local go_sem] setCell_drewN alloc_drewN

/-- The book in block bb, with the journal in block bj: n deeds were done; behind m of them it had h m. -/
structure Bk (w : World) (S : Nat → Prop) (bj bb n : Nat) (h : Nat → Kvs) : Prop where
  ex : ∃ Z a mb X ds, St w S Z bj [a] mb X ds ∧ ds.length = n ∧ (∀ m, m ≤ n → undoN kyKey (ds.drop m) X a = h m) ∧ w.cell? ⟨bb, 0, none⟩ = some (.pointer (some ⟨a, 0, none⟩))
  far : ¬ S bb
  good : ∀ m, m ≤ n → Good (h m) ∧ (h m).length ≤ m ∧ ∀ t, In (sup (h m) t)
theorem Bk.lt {w : World} {S : Nat → Prop} {bj bb n : Nat} {h : Nat → Kvs} (B : Bk w S bj bb n h) : bb < w.heap.size := by
  obtain ⟨Z, a, mb, X, ds, _, _, _, hc⟩ := B.ex
  obtain ⟨cs, t, f, e⟩ := cells_of_cellS hc
  exact (Array.getElem?_eq_some_iff.1 e).1
theorem Bk.low {w : World} {S : Nat → Prop} {bj bb n : Nat} {h : Nat → Kvs} (B : Bk w S bj bb n h) : ∀ k, S k → k < w.heap.size := by
  obtain ⟨Z, a, mb, X, ds, hs, _⟩ := B.ex
  exact hs.low
theorem Bk.below {w w' : World} {S : Nat → Prop} {bj bb n : Nat} {h : Nat → Kvs} (B : Bk w S bj bb n h) (hb : Below w.heap.size w w') : Bk w' S bj bb n h := by
  have hl := B.lt
  obtain ⟨⟨Z, a, mb, X, ds, hs, e, hh, hc⟩, far, good⟩ := B
  exact ⟨⟨Z, a, mb, X, ds, hs.below hb, e, hh, ((bcell hb).1 _ _ hl).trans hc⟩, far, good⟩
/-- What a deed more is. -/
structure Nx (n : Nat) (h : Nat → Kvs) (n' : Nat) (h' : Nat → Kvs) (L : Kvs) (c : Nat) : Prop where
  le : n ≤ n'
  up : n' ≤ n + c
  was : ∀ m, m ≤ n → h' m = h m
  now : h' n' = L
theorem Nx.refl (n : Nat) (h : Nat → Kvs) (c : Nat) : Nx n h n h (h n) c := ⟨Nat.le_refl _, by omega, fun _ _ => rfl, rfl⟩
theorem Nx.trans {n n' n'' : Nat} {h h' h'' : Nat → Kvs} {L L' : Kvs} {c d : Nat} (p : Nx n h n' h' L c) (q : Nx n' h' n'' h'' L' d) : Nx n h n'' h'' L' (c + d) :=
  ⟨Nat.le_trans p.le q.le, by have := p.up; have := q.up; omega, fun m hm => (q.was m (Nat.le_trans hm p.le)).trans (p.was m hm), q.now⟩
theorem Bk.next {w w' : World} {S S' : Nat → Prop} {bj bb n : Nat} {h : Nat → Kvs} (B : Bk w S bj bb n h) (M : Mv S S' w w') {Z' : Nat → Prop} {a : Nat} {mb : Nat → Nat} {X X' : Nat → Kvs} {ds : Deeds} {d : Deed Kk Nm}
    (hd : ds.length = n) (hh : ∀ m, m ≤ n → undoN kyKey (ds.drop m) X a = h m) (hc : w.cell? ⟨bb, 0, none⟩ = some (.pointer (some ⟨a, 0, none⟩))) (hs : St w' S' Z' bj [a] mb X' (ds ++ [d])) (hu : undo1 kyKey d X' = X) {L : Kvs} (hL : X' a = L) (gL : Good L) (lL : L.length ≤ n + 1) (sL : ∀ t, In (sup L t)) :
    ∃ h', Bk w' S' bj bb (n + 1) h' ∧ Nx n h (n + 1) h' L 1 := by
  have hlt := B.lt
  refine ⟨fun m => if m ≤ n then h m else L, ⟨⟨Z', a, mb, X', ds ++ [d], hs, by simp [hd], fun m hm => ?_, ?_⟩, fun e => ?_, fun m hm => ?_⟩, Nat.le_succ n, Nat.le_refl _, fun m hm => by simp [hm], by simp only [show ¬ n + 1 ≤ n from by omega, if_false]⟩
  · by_cases hmn : m ≤ n
    · simp only [hmn, if_true]
      rw [List.drop_append_of_le_length (by omega), undoN_snoc, hu]
      exact hh m hmn
    · have e : m = n + 1 := by omega
      simp only [hmn, if_false]
      rw [List.drop_of_length_le (by simp; omega)]
      exact hL
  · exact (World.cell?_of_block (w := w) (a := ⟨bb, 0, none⟩) (M.block bb hlt B.far)).trans hc
  · rcases M.own bb e with e | e
    · exact B.far e
    · omega
  · by_cases hmn : m ≤ n
    · simp only [hmn, if_true]; exact B.good m hmn
    · have e : m = n + 1 := by omega
      simp only [hmn, if_false]
      exact ⟨gL, by omega, sL⟩
/-- A new book. -/
theorem bnew_any {w : World} {bj : Nat} (hc : w.cell? ⟨bj, 0, none⟩ = some (.slice none 0 0)) (hf : ∀ o, w.frozen? ⟨bj, o, none⟩ = false) :
    Calls Try.prog 7 #[.pointer (some ⟨bj, 0, none⟩)] w fun e w' => ∃ bb, e = .returned (.pointer (some ⟨bb, 0, none⟩)) ∧ w.heap.size ≤ bb ∧ ∃ S, Bk w' S bj bb 0 (fun _ => []) ∧ Mv (fun k => k = bj) S w w' := by
  have hS := St.fresh (fun _ => 0) hc hf
  have HN := hide (snew_any hS)
  clear hS hc hf
  go_enter Try.func7, Try.ntmps7
  go_wp2_with (go_at_call 22; refine HN.out.mono ?_; clear HN; rintro e w1 ⟨rfl, hb, S', Z', mb', q1, q2⟩; have Q1 := hide q1; have Q2 := hide q2; have HB := hide hb; clear q1 q2 hb)
  go_ret
  have hb := HB.out
  have q1 := Q1.out
  have hlow := q1.low
  refine ⟨w1.heap.size, rfl, hb.size, S', ⟨⟨Z', w.heap.size + 1, mb', _, [], q1.below (bAl (bMe w1)), rfl, fun m hm => ?_, by simp [go_sem]⟩, fun e => ?_, fun m hm => ?_⟩, Q2.out.on (bAl (bMe w1))⟩
  · obtain rfl : m = 0 := by omega
    show undoN kyKey [] _ _ = _
    rw [undoN_nil, upX_same]
  · have := hlow _ e; omega
  · refine ⟨Good.nil, Nat.zero_le _, fun t => ?_⟩
    have : sup [] t = 0 := by simp [sup, sums, bal, getL]
    rw [this]; exact In.zero
end Go.Proofs.Ytodjfenbbbdofaa
