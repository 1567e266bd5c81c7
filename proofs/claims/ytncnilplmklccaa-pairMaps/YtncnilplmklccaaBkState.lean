/- A book in memory: its journal, what it has, and what it had. -/
import Derived.Test.YtncnilplmklccaaBkMath
namespace Go.Proofs.Ytncnilplmklccaa
set_option linter.unusedSimpArgs false
set_option linter.unusedVariables false
open Go.RowKit Go.Lib
attribute [local go_sem] setCell_drewN alloc_drewN

/-- A journal with its maps: a the book's own, R what the others had behind each mark. -/
structure Jk extends Jb where
  a : Nat
  A : List Nat
  R : Nat → Nat → Kvs
/-- The book in block bb, with the journal bj: n deeds were done; behind m of them it had h m. -/
structure Bk (w : World) (S : Nat → Prop) (bj : Jk) (bb n : Nat) (h : Nat → Kvs) : Prop where
  ex : ∃ Z mb X ds, St w S Z bj.toJb bj.A mb X ds ∧ ds.length = n ∧ (∀ m, m ≤ n → undoN kyKey (ds.drop m) X bj.a = h m) ∧ (∀ b, b ∈ bj.A → b ≠ bj.a → ∀ m, m ≤ n → undoN kyKey (ds.drop m) X b = bj.R b m) ∧ w.cell? ⟨bb, 0, none⟩ = some (.pointer (some ⟨bj.a, 0, none⟩))
  mem : bj.a ∈ bj.A
  far : ¬ S bb
  stay : ∀ b m, b ∈ bj.A → n ≤ m → bj.R b m = bj.R b n
  good : ∀ m, m ≤ n → Good (h m) ∧ (h m).length ≤ 72 ∧ ∀ t, In (sup (h m) t)
theorem Bk.lt {w : World} {S : Nat → Prop} {bj : Jk} {bb n : Nat} {h : Nat → Kvs} (B : Bk w S bj bb n h) : bb < w.heap.size := by
  obtain ⟨Z, mb, X, ds, _, _, _, _, hc⟩ := B.ex
  obtain ⟨cs, t, f, e⟩ := cells_of_cellS hc
  exact (Array.getElem?_eq_some_iff.1 e).1
theorem Bk.low {w : World} {S : Nat → Prop} {bj : Jk} {bb n : Nat} {h : Nat → Kvs} (B : Bk w S bj bb n h) : ∀ k, S k → k < w.heap.size := by
  obtain ⟨Z, mb, X, ds, hs, _⟩ := B.ex
  exact hs.low
theorem Bk.below {w w' : World} {S : Nat → Prop} {bj : Jk} {bb n : Nat} {h : Nat → Kvs} (B : Bk w S bj bb n h) (hb : Below w.heap.size w w') : Bk w' S bj bb n h := by
  have hl := B.lt
  obtain ⟨⟨Z, mb, X, ds, hs, e, hh, ho, hc⟩, mem, far, stay, good⟩ := B
  exact ⟨⟨Z, mb, X, ds, hs.below hb, e, hh, ho, ((bcell hb).1 _ _ hl).trans hc⟩, mem, far, stay, good⟩
/-- What a deed more is. -/
structure Nx (n : Nat) (h : Nat → Kvs) (n' : Nat) (h' : Nat → Kvs) (L : Kvs) (c : Nat) : Prop where
  le : n ≤ n'
  up : n' ≤ n + c
  was : ∀ m, m ≤ n → h' m = h m
  now : h' n' = L
theorem Nx.refl (n : Nat) (h : Nat → Kvs) (c : Nat) : Nx n h n h (h n) c := ⟨Nat.le_refl _, by omega, fun _ _ => rfl, rfl⟩
theorem Nx.trans {n n' n'' : Nat} {h h' h'' : Nat → Kvs} {L L' : Kvs} {c d : Nat} (p : Nx n h n' h' L c) (q : Nx n' h' n'' h'' L' d) : Nx n h n'' h'' L' (c + d) :=
  ⟨Nat.le_trans p.le q.le, by have := p.up; have := q.up; omega, fun m hm => (q.was m (Nat.le_trans hm p.le)).trans (p.was m hm), q.now⟩
theorem Bk.next {w w' : World} {S S' : Nat → Prop} {bj : Jk} {bb n : Nat} {h : Nat → Kvs} (B : Bk w S bj bb n h) (M : Mv S S' w w') {Z' : Nat → Prop} {mb : Nat → Nat} {X X' : Nat → Kvs} {ds : Deeds} {d : Deed Kk Nm}
    (hd : ds.length = n) (hh : ∀ m, m ≤ n → undoN kyKey (ds.drop m) X bj.a = h m) (ho : ∀ b, b ∈ bj.A → b ≠ bj.a → ∀ m, m ≤ n → undoN kyKey (ds.drop m) X b = bj.R b m) (hc : w.cell? ⟨bb, 0, none⟩ = some (.pointer (some ⟨bj.a, 0, none⟩))) (hs : St w' S' Z' bj.toJb bj.A mb X' (ds ++ [d])) (hu : undo1 kyKey d X' = X) {L : Kvs} (hL : X' bj.a = L) (hX : ∀ b, b ≠ bj.a → X' b = X b) (gL : Good L) (sL : ∀ t, In (sup L t)) :
    ∃ h', Bk w' S' bj bb (n + 1) h' ∧ Nx n h (n + 1) h' L 1 := by
  have hlt := B.lt
  refine ⟨fun m => if m ≤ n then h m else L, ⟨⟨Z', mb, X', ds ++ [d], hs, by simp [hd], fun m hm => ?_, fun b hb hne m hm => ?_, ?_⟩, B.mem, fun e => ?_, fun b m hb hm => ?_, fun m hm => ?_⟩, Nat.le_succ n, Nat.le_refl _, fun m hm => by simp [hm], by simp only [show ¬ n + 1 ≤ n from by omega, if_false]⟩
  · by_cases hmn : m ≤ n
    · simp only [hmn, if_true]
      rw [List.drop_append_of_le_length (by omega), undoN_snoc, hu]
      exact hh m hmn
    · have e : m = n + 1 := by omega
      simp only [hmn, if_false]
      rw [List.drop_of_length_le (by simp; omega)]
      exact hL
  · by_cases hmn : m ≤ n
    · rw [List.drop_append_of_le_length (by omega), undoN_snoc, hu]
      exact ho b hb hne m hmn
    · rw [List.drop_of_length_le (by simp; omega), B.stay b m hb (by omega)]
      show X' b = _
      rw [hX b hne]
      have := ho b hb hne n (Nat.le_refl _)
      rwa [List.drop_of_length_le (by omega)] at this
  · exact (World.cell?_of_block (w := w) (a := ⟨bb, 0, none⟩) (M.block bb hlt B.far)).trans hc
  · rcases M.own bb e with e | e
    · exact B.far e
    · omega
  · rw [B.stay b m hb (by omega), B.stay b (n + 1) hb (by omega)]
  · by_cases hmn : m ≤ n
    · simp only [hmn, if_true]; exact B.good m hmn
    · have e : m = n + 1 := by omega
      simp only [hmn, if_false]
      exact ⟨gL, gL.few, sL⟩
/-- A new book on a journal. -/
theorem bnew_any {w : World} {S Z : Nat → Prop} {bj : Jb} {A : List Nat} {mb : Nat → Nat} {X : Nat → Kvs} {ds : Deeds} (hS : St w S Z bj A mb X ds) :
    Calls Try.prog 25 #[.pointer (some ⟨bj.b, 0, none⟩)] w fun e w' => ∃ bb a S' Z' mb', e = .returned (.pointer (some ⟨bb, 0, none⟩)) ∧ (w.heap.size ≤ bb ∧ bb < w'.heap.size ∧ w.heap.size ≤ a) ∧ w'.cell? ⟨bb, 0, none⟩ = some (.pointer (some ⟨a, 0, none⟩)) ∧ ¬ S' bb ∧ St w' S' Z' bj (a :: A) mb' (upX X a []) ds ∧ Mv S S' w w' ∧ Below w.heap.size w w' := by
  have HN := hide (snew_any hS)
  clear hS
  go_enter Try.func25, Try.ntmps25
  go_wp2_with (go_at_call 47; refine HN.out.mono ?_; clear HN; rintro e w1 ⟨rfl, hb, S', Z', mb', q1, q2⟩; have Q1 := hide q1; have Q2 := hide q2; have HB := hide hb; clear q1 q2 hb)
  go_ret
  have hb := HB.out
  have q1 := Q1.out
  have hlow := q1.low
  refine ⟨w1.heap.size, w.heap.size + 1, S', Z', mb', rfl, ⟨hb.size, by simp, by omega⟩, by simp [go_sem], fun e => ?_, q1.below (bAl (bMe w1)), Q2.out.on (bAl (bMe w1)), bAl hb⟩
  have := hlow _ e; omega
end Go.Proofs.Ytncnilplmklccaa
