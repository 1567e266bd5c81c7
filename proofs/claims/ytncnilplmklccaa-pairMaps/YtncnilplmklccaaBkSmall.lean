/- Contracts of findable, less, Mark, Keep, Len and New of stage over this translation. -/
import Derived.Test.YtncnilplmklccaaBkMem
import Derived.Defers
import Derived.Recover
namespace Go.Proofs.Ytncnilplmklccaa
set_option linter.unusedSimpArgs false
set_option linter.unusedVariables false
set_option linter.unusedSectionVars false
open Go.RowKit Go.Lib
attribute [local go_sem] setCell_drewN alloc_drewN

theorem ret_numS {k : IntKind} {a b : Int} (h : a = b) : Ending.returned (.int k a) = .returned (.int k b) := by rw [h]
/-- The deferred recover, where nothing has panicked. -/
theorem idle_any (w : World) :
    CallsD Try.prog 79 #[] .returning w fun e u' w' => e = .returned (.tuple #[]) ∧ u' = .returning ∧ w' = w := by
  refine callsD_of_wpS Try.func79 rfl fun c₀ cs hu => ?_
  apply wpS_region
  simp [wpOpsS, go_sem, recoverD, hu, Try.ntmps79, Exit.thenS, bodyPostS, results, Try.results79]
  cases c₀
  simp_all
theorem findable_any (k : Kk) (w : World) :
    Calls Try.prog 74 #[.agg #[.int .u8 k.1, .int .u8 k.2]] w fun e w' => e = .returned (.bool true) ∧ w' = w.alloc (.cells #[.int .u8 k.1, .int .u8 k.2] 96) := by
  have hmf : ∀ (fn : Fn) (first cap : Array Value) (w : World), (Instr.makeFunc fn first cap).run Try.prog w = .ok (.func fn first cap) w := fun _ _ _ _ => rfl
  go_enter_defers Try.func74, Try.ntmps74
  go_wp2
  refine leaves_cons (f := 79) (args := #[]) (by simp) (by simp [go_sem]) ?_
  refine (idle_any _).mono ?_
  rintro e u' w'' ⟨rfl, rfl, rfl⟩
  simp [Leaves, settle, results, Try.results74, go_sem]
theorem ahead_any (a b : Kk) (w : World) :
    Calls Try.prog 48 #[.agg #[.int .u8 a.1, .int .u8 a.2], .agg #[.int .u8 b.1, .int .u8 b.2]] w fun e w' => e = .returned (.bool (kyKey.lt a b)) ∧ ∃ o1 o2, w' = (w.alloc o1).alloc o2 := by
  obtain ⟨a1, a2⟩ := a
  obtain ⟨b1, b2⟩ := b
  have HK : Hid (kyKey.lt (a1, a2) (b1, b2) = decide (a1 < b1 ∨ (a1 = b1 ∧ a2 < b2))) := rfl
  by_cases h : a1 = b1
  · have hk := hide (show kyKey.lt (a1, a2) (b1, b2) = decide (a2 < b2) from by rw [HK.out]; simp [h])
    clear HK
    go_enter Try.func48, Try.ntmps48
    go_wp2
    go_ret
    rw [hk.out]
    exact ⟨rfl, _, _, rfl⟩
  · have hk := hide (show kyKey.lt (a1, a2) (b1, b2) = decide (a1 < b1) from by rw [HK.out]; simp [h])
    clear HK
    go_enter Try.func48, Try.ntmps48
    go_wp2
    go_ret
    rw [hk.out]
    exact ⟨rfl, _, _, rfl⟩
theorem mark_any {w : World} {S Z : Nat → Prop} {bj : Jb} {A : List Nat} {mb : Nat → Nat} {X : Nat → Kvs} {ds : Deeds} (h : St w S Z bj A mb X ds) :
    Calls Try.prog 34 #[.pointer (some ⟨bj.b, 0, none⟩)] w fun e w' => e = .returned (.int .i64 (bj.P.length + ds.length : Nat)) ∧ w' = w := by
  obtain ⟨v, us, r1, r2, _, r4, _⟩ := h.row
  obtain ⟨p, c, hv⟩ : ∃ p c, v = .slice p (bj.P ++ us).length c := by
    rcases r2.2 with ⟨e, h0⟩ | ⟨g, cap, cur, e, _⟩
    · exact ⟨none, 0, by rw [e, h0]⟩
    · exact ⟨_, _, e⟩
  subst hv
  rw [List.length_append, r4] at r1
  generalize bj.P.length + ds.length = n at *
  clear r2 r4 h
  go_enter Try.func34, Try.ntmps34
  go_wp2
  go_ret
  exact ⟨rfl, rfl⟩
end Go.Proofs.Ytncnilplmklccaa
