/- The contract of (*stage.Journal).did over this translation. -/
import Derived.Test.YtncnilplmklccaaBkFind
namespace Go.Proofs.Ytncnilplmklccaa
set_option linter.unusedSimpArgs false
set_option linter.unusedVariables false
set_option linter.unusedSectionVars false
open Go.RowKit Go.Lib
attribute [local go_sem] setCell_drewN alloc_drewN

theorem infoFn : (Try.prog.info? 1).map (fun i => (i.zero, i.size, i.bytes)) = some (some .nilFunc, 1, 8) := by kernel_rfl
/-- A journal's row has one more: what has turned. -/
structure Did (w w' : World) (bj : Nat) (v : Value) (us : List Value) : Prop where
  os : w'.os = w.os
  tape : w'.tape = w.tape
  output : w'.output = w.output
  size : w.heap.size ≤ w'.heap.size
  block : ∀ k, k < w.heap.size → k ≠ bj → v.ownBlock ≠ some k → w'.heap[k]? = w.heap[k]?
  jf : ∀ o, w'.frozen? ⟨bj, o, none⟩ = w.frozen? ⟨bj, o, none⟩
  ext : ∀ o, o ≠ 0 → w'.cell? ⟨bj, o, none⟩ = w.cell? ⟨bj, o, none⟩
  row : ∃ v', w'.cell? ⟨bj, 0, none⟩ = some v' ∧ FRow w' v' us ∧ ∀ b, v'.ownBlock = some b → v.ownBlock = some b ∨ (w.heap.size ≤ b ∧ b < w'.heap.size)
theorem fRow_succ {w : World} {base e n : Nat} {v : Value} {xs : List Value} (h : w.ownsRow base e 1 v (n + 1) xs) : ∃ g cap, v = .slice (some ⟨g, 0, none⟩) (n + 1) cap := by
  rcases h.2 with ⟨_, h0⟩ | ⟨g, cap, cur, e, _⟩
  · omega
  · exact ⟨g, cap, e⟩
set_option maxHeartbeats 1000000 in
theorem did_any {w : World} {bj : Nat} {v : Value} {fn : Fn} {af ac : Array Value} {us : List Value} (hc : w.cell? ⟨bj, 0, none⟩ = some v) (hf : w.frozen? ⟨bj, 0, none⟩ = false) (hrow : FRow w v us) (hne : ∀ b, v.ownBlock = some b → b ≠ bj) (hlen : us.length ≤ 1000000) :
    Calls Try.prog 40 #[.pointer (some ⟨bj, 0, none⟩), .func fn af ac] w fun e w' => e = .returned (.tuple #[]) ∧ Did w w' bj v (us ++ [.func fn af ac]) := by
  obtain ⟨i0, hi, hz0, hz1, hz2⟩ := info_parts infoFn
  have lj : bj < w.heap.size := by obtain ⟨cs, t, f, e⟩ := cells_of_cellS hc; exact (Array.getElem?_eq_some_iff.1 e).1
  obtain ⟨p, c, hv⟩ : ∃ p c, v = .slice p us.length c := by
    rcases hrow.2 with ⟨e, h0⟩ | ⟨g, cap, cur, e, _⟩
    · exact ⟨none, 0, by rw [e, h0]⟩
    · exact ⟨_, _, e⟩
  have HR := hide hrow
  have HN := hide hne
  clear hne hrow
  have hcx : w.cell? ⟨bj, 0, none⟩ = some (.slice p us.length c) := by rw [hc, hv]
  have HC := hide hc
  clear hc
  have HF := hide hf
  clear hf
  have HV := hide hv
  have LJ := hide lj
  clear hv lj
  have CF : Hid (∀ w1, (w.alloc (.cells #[.func fn af ac] 1)).grownBy w1 (Value.slice p us.length c).ownBlock → w1.cell? ⟨bj, 0, none⟩ = some (.slice p us.length c) ∧ (∀ o, w1.frozen? ⟨bj, o, none⟩ = w.frozen? ⟨bj, o, none⟩) ∧ ∀ o, w1.cell? ⟨bj, o, none⟩ = w.cell? ⟨bj, o, none⟩) := fun w1 hg => by
    have e : w1.heap[bj]? = w.heap[bj]? := (hg.block bj (by simp; have := LJ.out; omega) (fun e => HN.out bj (by rw [HV.out]; exact e.symm) rfl)).trans (Below.heap_alloc _ _ _ LJ.out)
    exact ⟨(World.cell?_of_block (w := w) (a := ⟨bj, 0, none⟩) e).trans hcx, fun o => World.frozen?_of_block (w := w) (a := ⟨bj, o, none⟩) e, fun o => World.cell?_of_block (w := w) (a := ⟨bj, o, none⟩) e⟩
  have hnj : bj ≠ w.heap.size := Nat.ne_of_lt LJ.out
  go_enter Try.func40, Try.ntmps40
  go_wp2_with (at_builtin; refine wpList_append_own_at _ rfl _ _ 61 rfl 0 1 i0 .nilFunc 1 8 Try.underlying61 hi hz0 hz1 hz2 rfl (by decide) (.slice p us.length c) us.length us rfl (by have := HR.out; rw [HV.out] at this; exact this.alloc _) ⟨w.heap.size, 0, none⟩ 1 1 [.func fn af ac] rfl rfl (cell_one_new _ _ _) (by intro u hu; simp at hu; subst hu; rfl) (by unfold maxLen; omega) (by omega) (Nat.zero_le _) ?_; intro v1 w1 r1 r2 _ r4; obtain ⟨g1, cap1, rfl⟩ := fRow_succ r1; have c1 := (CF.out w1 r2).1; have f1 := ((CF.out w1 r2).2.1 0).trans HF.out; have R1 := hide r1; have R2 := hide r2; have R4 := hide r4; clear r1 r2 r4)
  go_end0
  have r1 := R1.out
  have r2 := R2.out
  have r4 := R4.out
  have LJ := LJ.out
  refine ⟨rfl, ⟨r2.os, r2.tape, r2.output, ?_, fun k hk hkj hkv => ?_, fun o => ?_, fun o ho => ?_, ⟨.slice (some ⟨g1, 0, none⟩) (us.length + 1) cap1, by simp [go_sem, c1], ?_, fun b hb => ?_⟩⟩⟩
  · have := r2.size; simp [World.setCell] at this ⊢; omega
  · rw [Below.heap_setCell _ _ _ _ hkj, r2.block k (by simp; omega) (fun e => hkv (by rw [HV.out]; exact e.symm)), Below.heap_alloc _ _ _ hk]
  · have := (CF.out w1 r2).2.1 o
    simp [go_sem, this]
  · rw [← (CF.out w1 r2).2.2 o]
    simp [go_sem, ho]
    try (intro h2; exact absurd h2.symm ho)
  · have hr : w1.ownsRow 0 1 1 (.slice (some ⟨g1, 0, none⟩) (us.length + 1) cap1) (us ++ [Value.func fn af ac]).length (us ++ [Value.func fn af ac]) := by rw [List.length_append]; exact r1
    refine FRow.of hr fun k hk => Below.heap_setCell _ _ _ _ ?_
    rintro rfl
    rcases r4 with e | e
    · rw [hk] at e; exact HN.out _ (by rw [HV.out]; exact e.symm) rfl
    · rw [hk] at e; simp at e; omega
  · have hz := r2.size
    have hl := (World.ownsRow.lt r1 b hb).2
    rcases r4 with e | e
    · exact .inl (by rw [HV.out, ← e]; exact hb)
    · rw [hb] at e
      simp at e
      exact .inr ⟨by omega, by simp [World.setCell]; omega⟩
end Go.Proofs.Ytncnilplmklccaa
