/- Contracts of findable, less, Mark, Keep, Len and New of stage over this translation. -/
import Derived.Test.YtnjijnphjiiceaaStgMem
import Derived.Defers
import Derived.Recover
namespace Go.Proofs.Ytnjijnphjiiceaa
set_option linter.unusedSimpArgs false
set_option linter.unusedVariables false
set_option linter.unusedSectionVars false
open Go.RowKit Go.Lib
attribute [local go_sem] setCell_drewN alloc_drewN

theorem ret_numS {k : IntKind} {a b : Int} (h : a = b) : Ending.returned (.int k a) = .returned (.int k b) := by rw [h]
/-- The deferred recover, where nothing has panicked. -/
theorem idle_any (w : World) :
    CallsD Try.prog 32 #[] .returning w fun e u' w' => e = .returned (.tuple #[]) ∧ u' = .returning ∧ w' = w := by
  refine callsD_of_wpS Try.func32 rfl fun c₀ cs hu => ?_
  apply wpS_region
  simp [wpOpsS, go_sem, recoverD, hu, Try.ntmps32, Exit.thenS, bodyPostS, results, Try.results32]
  cases c₀
  simp_all
theorem findable_any (k : Int) (w : World) :
    Calls Try.prog 25 #[.int .i64 k] w fun e w' => e = .returned (.bool true) ∧ w' = w := by
  have hmf : ∀ (fn : Fn) (first cap : Array Value) (w : World), (Instr.makeFunc fn first cap).run Try.prog w = .ok (.func fn first cap) w := fun _ _ _ _ => rfl
  go_enter_defers Try.func25, Try.ntmps25
  go_wp2
  refine leaves_cons (f := 32) (args := #[]) (by simp) (by simp [go_sem]) ?_
  refine (idle_any _).mono ?_
  rintro e u' w'' ⟨rfl, rfl, rfl⟩
  simp [Leaves, settle, results, Try.results25, go_sem]
theorem less_any (a b : Int) (w : World) :
    Calls Try.prog 8 #[.int .i64 a, .int .i64 b] w fun e w' => e = .returned (.bool (decide (a < b))) ∧ w' = w := by
  go_enter Try.func8, Try.ntmps8
  go_wp2
  go_ret
  exact ⟨rfl, rfl⟩
theorem mark_any {w : World} {S Z : Nat → Prop} {bj : Nat} {A : List Nat} {mb : Nat → Nat} {X : Nat → Kvs} {ds : Deeds} (h : St w S Z bj A mb X ds) :
    Calls Try.prog 15 #[.pointer (some ⟨bj, 0, none⟩)] w fun e w' => e = .returned (.int .i64 ds.length) ∧ w' = w := by
  obtain ⟨v, us, r1, r2, _, r4, _⟩ := h.row
  obtain ⟨p, c, hv⟩ : ∃ p c, v = .slice p us.length c := by
    rcases r2.2 with ⟨e, h0⟩ | ⟨g, cap, cur, e, _⟩
    · exact ⟨none, 0, by rw [e, h0]⟩
    · exact ⟨_, _, e⟩
  subst hv
  rw [r4] at r1
  clear r2 r4 h
  go_enter Try.func15, Try.ntmps15
  go_wp2
  go_ret
  exact ⟨rfl, rfl⟩
theorem mlen_any {w : World} {S Z : Nat → Prop} {bj : Nat} {A : List Nat} {mb : Nat → Nat} {X : Nat → Kvs} {ds : Deeds} (h : St w S Z bj A mb X ds) {a : Nat} (ha : a ∈ A) :
    Calls Try.prog 23 #[.pointer (some ⟨a, 0, none⟩)] w fun e w' => e = .returned (.int .i64 (X a).length) ∧ w' = w := by
  have hm := h.map a ha
  have c2 := (h.box a ha).2.2.c2
  clear h
  go_enter Try.func23, Try.ntmps23
  go_wp2_with (at_len; refine wpList_mlen _ rfl _ rfl rfl hm ?_)
  go_ret
  exact ⟨rfl, rfl⟩
/-- A journal's row is written anew. -/
theorem St.keep {w : World} {S Z : Nat → Prop} {bj : Nat} {A : List Nat} {mb : Nat → Nat} {X : Nat → Kvs} {ds : Deeds} (h : St w S Z bj A mb X ds) :
    St (w.setCell ⟨bj, 0, none⟩ (.slice none 0 0)) S Z bj A mb X [] ∧ Mv S S w (w.setCell ⟨bj, 0, none⟩ (.slice none 0 0)) := by
  obtain ⟨low, stat, jS, jZ, jf, ⟨v, us, r1, r2, r3, r4, r5⟩, box, map, inj, srt, mine⟩ := h
  have hz : (w.setCell ⟨bj, 0, none⟩ (.slice none 0 0)).heap.size = w.heap.size := by simp [World.setCell]
  have ho : ∀ k, k ≠ bj → (w.setCell ⟨bj, 0, none⟩ (.slice none 0 0)).heap[k]? = w.heap[k]? := fun k hk => Below.heap_setCell _ _ _ _ hk
  refine ⟨⟨fun k hk => by rw [hz]; exact low k hk, stat, jS, jZ, fun o => by simp [go_sem, jf], ⟨.slice none 0 0, [], by simp [go_sem, r1], World.ownsRow_nil _ _ _ _, fun b hb => by simp [Value.ownBlock] at hb, rfl, fun i d hd => by simp at hd⟩, fun a ha => ?_, fun a ha => ?_, inj, srt, fun d hd => by simp at hd⟩, ⟨rfl, rfl, rfl, by rw [hz]; exact Nat.le_refl _, fun k _ hk => ho k (by rintro rfl; exact hk jS), fun k hk => .inl hk⟩⟩
  · obtain ⟨b1, b2, b3⟩ := box a ha
    exact ⟨b1, b2, b3.of (ho a (by rintro rfl; exact jZ b1))⟩
  · exact (map a ha).of _ (ho _ ((map a ha).ne r1))
theorem keep_any {w : World} {S Z : Nat → Prop} {bj : Nat} {A : List Nat} {mb : Nat → Nat} {X : Nat → Kvs} {ds : Deeds} (h : St w S Z bj A mb X ds) :
    Calls Try.prog 14 #[.pointer (some ⟨bj, 0, none⟩)] w fun e w' => e = .returned (.tuple #[]) ∧ St w' S Z bj A mb X [] ∧ Mv S S w w' := by
  obtain ⟨v, us, r1, _⟩ := h.row
  have f0 := h.jf 0
  have H := hide h.keep
  clear h
  go_enter Try.func14, Try.ntmps14
  go_wp2
  go_end0
  exact ⟨rfl, H.out⟩
end Go.Proofs.Ytnjijnphjiiceaa
