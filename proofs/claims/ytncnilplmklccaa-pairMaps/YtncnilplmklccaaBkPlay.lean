/- A book's journal at the law's level: Mark, Back, Bytes. -/
import Derived.Test.YtncnilplmklccaaBkLaw
import Derived.Test.YtncnilplmklccaaBkBack
import Derived.Test.YtncnilplmklccaaBkAll
namespace Go.Proofs.Ytncnilplmklccaa
set_option linter.unusedSimpArgs false
set_option linter.unusedVariables false
open Go.RowKit Go.Lib

theorem undoN_at : ∀ (ds : Deeds) (X Y : Nat → Kvs) (a : Nat), X a = Y a → undoN kyKey ds X a = undoN kyKey ds Y a
  | [], _, _, _, h => h
  | d :: r, X, Y, a, h => by
    show undo1 kyKey d (undoN kyKey r X) a = undo1 kyKey d (undoN kyKey r Y) a
    unfold undo1
    by_cases e : a = d.m
    · subst e
      rw [upX_same, upX_same, undoN_at r X Y _ h]
    · rw [upX_other _ e, upX_other _ e]
      exact undoN_at r X Y a h
theorem St.only {w : World} {S Z : Nat → Prop} {bj : Jb} {A : List Nat} {mb : Nat → Nat} {X : Nat → Kvs} {ds : Deeds} (h : St w S Z bj A mb X ds) : St w S Z bj A mb (fun b => if b ∈ A then X b else []) ds := by
  obtain ⟨low, stat, jS, jZ, jf, ext, row, box, map, inj, srt, mine⟩ := h
  refine ⟨low, stat, jS, jZ, jf, ext, row, box, fun b hb => ?_, inj, fun b => ?_, mine⟩
  · simp only [hb, if_true]
    exact map b hb
  · by_cases e : b ∈ A
    · simp only [e, if_true]; exact srt b
    · simp only [e, if_false]; exact List.Pairwise.nil
theorem bytes13_l {W w : World} {bj : Jk} {bb n : Nat} {h : Nat → Kvs} {Fr : Nat → Prop} (B : BS W w bj bb n h Fr) (hn : n ≤ 9000) :
    Calls Try.prog 31 #[.pointer (some ⟨bb, 0, none⟩)] w fun e w' => ∃ v, e = .returned v ∧ Bs w' w.heap.size v (txt (h n)) ∧ Below w.heap.size w w' := by
  obtain ⟨S, b, _⟩ := B.ex
  exact bbytes_any b (by omega)
end Go.Proofs.Ytncnilplmklccaa
