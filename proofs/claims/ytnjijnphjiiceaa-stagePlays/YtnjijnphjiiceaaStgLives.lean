/- The chapter's example holds. -/
import Derived.Test.YtnjijnphjiiceaaStgRef2
namespace Go.Proofs.Ytnjijnphjiiceaa
set_option linter.unusedSimpArgs false
set_option linter.unusedVariables false
set_option linter.unusedSectionVars false
open Go.RowKit Go.Lib
attribute [local go_sem] setCell_drewN alloc_drewN

/-- What a call with blocks of its own leaves as it was, seen from the beginning. -/
theorem Mv.go {S S' : Nat → Prop} {a w w' : World} (h : Mv S S' w w') (hb : Below a.heap.size a w) (hS : ∀ k, S k → a.heap.size ≤ k) : Below a.heap.size a w' ∧ ∀ k, S' k → a.heap.size ≤ k :=
  ⟨h.below hb hS, fun k hk => (h.own k hk).elim (hS k) fun e => Nat.le_trans hb.size e⟩
/-- An empty journal's box. -/
theorem St.laid (w : World) (t : TypeId) : St (w.alloc (.cells #[.slice none 0 0] t)) (fun k => k = w.heap.size) (fun _ => False) w.heap.size [] (fun _ => 0) (fun _ => []) [] :=
  St.fresh _ (by simp [go_sem]) (fun o => by simp [go_sem])
set_option maxHeartbeats 4000000 in
theorem lives12_any (w : World) : Calls Try.prog 6 #[] w fun e w' => e = .returned (.bool true) ∧ Below w.heap.size w w' := by
  have HN := hide (snew_any (St.laid w 27))
  go_enter Try.func6, Try.ntmps6
  go_wp2_with fail
  refine HN.out.mono ?_
  clear HN
  rintro e w2 ⟨rfl, hb, S1, Z1, mb1, q1, q2⟩
  obtain ⟨a, ha⟩ : ∃ a, (w.alloc (.cells #[.slice none 0 0] 27)).heap.size + 1 = a := ⟨_, rfl⟩
  have B2 : Hid (Below w.heap.size w w2) := by
    have : Below w.heap.size w (w.alloc (.cells #[.slice none 0 0] 27)) := bAl (bMe w)
    exact q2.below this (fun k hk => by omega)
  have HO : Hid (∀ k, S1 k → w.heap.size ≤ k) := fun k hk => by
    rcases q2.own k hk with e | e
    · omega
    · rw [World.size_alloc] at e; omega
  rw [ha] at q1 ⊢
  obtain ⟨X, hX⟩ : ∃ X : Nat → Kvs, upX (fun _ => ([] : Kvs)) a [] = X := ⟨_, rfl⟩
  have x0 : X a = [] := by rw [← hX, upX_same]
  have xa : ∀ b, X b = [] := fun b => by
    rw [← hX]
    by_cases e : b = a
    · rw [e, upX_same]
    · rw [upX_other _ e]
  rw [hX] at q1
  have am : a ∈ [a] := by simp
  have H1 := hide q1
  clear q1 q2 hb ha hX
  have C := hide (set_any (k := 1) (v := 5) H1.out am (by rfl) (by rw [x0]; simp) (by simp))
  go_wp2_with fail
  refine C.out.mono ?_
  clear C
  rintro e w3 ⟨rfl, S2, Z2, q1, q2⟩
  rw [x0] at q1
  have H2 := hide q1
  have M2 := hide q2
  have C := hide (mark_any H2.out)
  clear q1 q2 H1
  go_wp2_with fail
  refine C.out.mono ?_
  clear C
  rintro e w' ⟨rfl, rfl⟩
  have C := hide (set_any (k := 1) (v := 6) H2.out am (by rfl) (by rw [upX_same]; simp [putL]) (by simp))
  go_wp2_with fail
  refine C.out.mono ?_
  clear C
  rintro e w4 ⟨rfl, S3, Z3, q1, q2⟩
  rw [upX_same, upX_up] at q1
  have H3 := hide q1
  have M3 := hide (M2.out.trans q2)
  clear q1 q2 H2 M2
  have C := hide (dropSome_any (k := 1) (v := 6) H3.out am (by rfl) (by rw [upX_same]; rfl) (by simp))
  go_wp2_with fail
  refine C.out.mono ?_
  clear C
  rintro e w5 ⟨rfl, S4, Z4, q1, q2⟩
  rw [upX_same, upX_up] at q1
  have H4 := hide q1
  have M4 := hide (M3.out.trans q2)
  clear q1 q2 H3 M3
  have C := hide (back_any H4.out 1 (by simp) (by simp) (fun b => by
    by_cases e : b = a
    · subst e; rw [upX_same]; decide
    · rw [upX_other _ e, xa]; simp))
  go_wp2_with fail
  refine C.out.mono ?_
  clear C
  rintro e w6 ⟨rfl, q1, q2⟩
  obtain ⟨Y, ds, q3, hY⟩ : ∃ (Y : Nat → Kvs) (ds : Deeds), St w6 S4 Z4 w.heap.size [a] mb1 Y ds ∧ Y a = [(1, 5)] := ⟨_, _, q1, by
    simp [undoN, undo1, upX, undoL]
    decide⟩
  have H5 := hide q3
  have hf := fk_some (k := 1) (v := 5) (L := Y a) (by rw [hY]; rfl)
  have M5 := hide (M4.out.trans q2)
  clear q1 q2 q3 H4 M4
  have C := hide (get_any (k := 1) H5.out am (by rfl))
  go_wp2_with fail
  refine C.out.mono ?_
  clear C
  rintro e w7 ⟨rfl, hb⟩
  rw [hf.2.1, hf.2.2]
  go_wp2
  go_ret
  exact ⟨rfl, (M5.out.below B2.out HO.out).trans (hb.mono (M5.out.below B2.out HO.out).size)⟩
end Go.Proofs.Ytnjijnphjiiceaa
