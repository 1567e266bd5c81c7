/- Contracts of stage's New, find and Get over this translation. -/
import Derived.Test.YtnjijnphjiiceaaStgSmall
namespace Go.Proofs.Ytnjijnphjiiceaa
set_option linter.unusedSimpArgs false
set_option linter.unusedVariables false
set_option linter.unusedSectionVars false
open Go.RowKit Go.Lib
attribute [local go_sem] setCell_drewN alloc_drewN

def upN (mb : Nat → Nat) (a b : Nat) : Nat → Nat := fun k => if k = a then b else mb k
/-- A journal alone. -/
theorem St.fresh {w : World} {bj : Nat} (mb : Nat → Nat) (hc : w.cell? ⟨bj, 0, none⟩ = some (.slice none 0 0)) (hf : ∀ o, w.frozen? ⟨bj, o, none⟩ = false) : St w (fun k => k = bj) (fun _ => False) bj [] mb (fun _ => []) [] :=
  ⟨fun k hk => by subst hk; obtain ⟨cs, t, f, e⟩ := cells_of_cellS hc; exact (Array.getElem?_eq_some_iff.1 e).1, fun _ h => h.elim, rfl, fun h => h, hf, ⟨_, [], hc, World.ownsRow_nil _ _ _ _, fun b hb => by simp [Value.ownBlock] at hb, rfl, fun i d hd => by simp at hd⟩, fun a ha => by simp at ha, fun a ha => by simp at ha, fun a b ha => by simp at ha, fun _ => List.Pairwise.nil, fun d hd => by simp at hd⟩
/-- A map more. -/
theorem St.add {w w' : World} {S Z : Nat → Prop} {bj : Nat} {A : List Nat} {mb : Nat → Nat} {X : Nat → Kvs} {ds : Deeds} (h : St w S Z bj A mb X ds) (hb : Below w.heap.size w w') {a bm : Nat} (ha : w.heap.size ≤ a ∧ a < w'.heap.size) (hm : w.heap.size ≤ bm ∧ bm < w'.heap.size)
    (box : MapBox w' a bj bm) (map : MapIs encS w' bm []) : St w' (fun k => S k ∨ k = bm ∨ k = a) (fun k => Z k ∨ k = a) bj (a :: A) (upN mb a bm) (upX X a []) ds ∧ Mv S (fun k => S k ∨ k = bm ∨ k = a) w w' := by
  have h' := h.below hb
  have na : ∀ c, c ∈ A → c ≠ a := fun c hc e => by have := h.low c (h.stat c (h.box c hc).1); omega
  obtain ⟨low, stat, jS, jZ, jf, ⟨v, us, r1, r2, r3, r4, r5⟩, hbox, hmap, inj, srt, mine⟩ := h'
  have lj := h.low bj jS
  refine ⟨⟨fun k hk => ?_, fun k hk => ?_, .inl jS, fun hk => ?_, jf, ⟨v, us, r1, r2, fun b hb' => ?_, r4, fun i d hd => ?_⟩, fun c hc => ?_, fun c hc => ?_, fun c d hc hd e => ?_, fun c => ?_, fun d hd => ?_⟩, ⟨hb.os, hb.tape, hb.output, hb.size, fun k hk _ => hb.block k hk, fun k hk => ?_⟩⟩
  · rcases hk with hk | rfl | rfl
    · exact low k hk
    · exact hm.2
    · exact ha.2
  · rcases hk with hk | rfl
    · exact .inl (stat k hk)
    · exact .inr (.inr rfl)
  · rcases hk with hk | hk
    · exact jZ hk
    · omega
  · have l1 := h.low b (r3 b hb').1
    refine ⟨.inl (r3 b hb').1, fun hk => ?_, (r3 b hb').2.2⟩
    rcases hk with hk | hk
    · exact (r3 b hb').2.1 hk
    · omega
  · obtain ⟨u, hu, hd'⟩ := r5 i d hd
    exact ⟨u, hu, hd'.of (fun _ _ => rfl) fun k hk => .inl hk⟩
  · by_cases e : c = a
    · subst e
      exact ⟨.inr rfl, by simp [upN], by simpa [upN] using box⟩
    · have hc' : c ∈ A := by simpa [e] using hc
      obtain ⟨b1, b2, b3⟩ := hbox c hc'
      exact ⟨.inl b1, by simpa [upN, e] using .inl b2, by simpa [upN, e] using b3⟩
  · by_cases e : c = a
    · subst e
      rw [upX_same]
      simpa [upN] using map
    · have hc' : c ∈ A := by simpa [e] using hc
      rw [upX_other X e]
      simpa [upN, e] using hmap c hc'
  · by_cases e1 : c = a
    · by_cases e2 : d = a
      · rw [e1, e2]
      · have hd' : d ∈ A := by simpa [e2] using hd
        have := (h.map d hd').lt
        simp [upN, e1, e2] at e
        omega
    · have hc' : c ∈ A := by simpa [e1] using hc
      by_cases e2 : d = a
      · have := (h.map c hc').lt
        simp [upN, e1, e2] at e
        omega
      · have hd' : d ∈ A := by simpa [e2] using hd
        simp [upN, e1, e2] at e
        exact inj c d hc' hd' e
  · by_cases e : c = a
    · subst e; rw [upX_same]; exact List.Pairwise.nil
    · rw [upX_other X e]; exact srt c
  · exact ⟨List.mem_cons_of_mem _ (mine d hd).1, (mine d hd).2⟩
  · rcases hk with hk | rfl | rfl
    · exact .inl hk
    · exact .inr hm.1
    · exact .inr ha.1
theorem snew_any {w : World} {S Z : Nat → Prop} {bj : Nat} {A : List Nat} {mb : Nat → Nat} {X : Nat → Kvs} {ds : Deeds} (h : St w S Z bj A mb X ds) :
    Calls Try.prog 7 #[.pointer (some ⟨bj, 0, none⟩), .func (.func 8) #[] #[]] w fun e w' => e = .returned (.pointer (some ⟨w.heap.size + 1, 0, none⟩)) ∧ Below w.heap.size w w' ∧
      ∃ S' Z' mb', St w' S' Z' bj ((w.heap.size + 1) :: A) mb' (upX X (w.heap.size + 1) []) ds ∧ Mv S S' w w' := by
  have hmm := @run_makeMap Try.prog
  obtain ⟨w1, hw1⟩ : ∃ w1, (w.alloc (.map #[] 0)).alloc (.cells #[.pointer (some ⟨bj, 0, none⟩), .func (.func 8) #[] #[], .map (some w.heap.size)] 62) = w1 := ⟨_, rfl⟩
  have HB : Hid (Below w.heap.size w w1) := by rw [← hw1]; exact bAl (bAl (bMe w))
  have HS : Hid (∃ S' Z' mb', St w1 S' Z' bj ((w.heap.size + 1) :: A) mb' (upX X (w.heap.size + 1) []) ds ∧ Mv S S' w w1) := by
    obtain ⟨q1, q2⟩ := h.add HB.out (a := w.heap.size + 1) (bm := w.heap.size) (by rw [← hw1]; simp) (by rw [← hw1]; simp; omega) (by rw [← hw1]; exact ⟨by simp [go_sem], by simp [go_sem], by simp [go_sem]⟩) (by rw [← hw1]; exact (MapIs.made encS w).of _ (Below.heap_alloc _ _ _ (by simp)))
    exact ⟨_, _, _, q1, q2⟩
  have HW := hide hw1
  clear h hw1
  go_enter Try.func7, Try.ntmps7
  go_wp2
  go_ret
  rw [HW.out]
  exact ⟨rfl, HB.out, HS.out⟩
theorem find_any {w : World} {S Z : Nat → Prop} {bj : Nat} {A : List Nat} {mb : Nat → Nat} {X : Nat → Kvs} {ds : Deeds} (h : St w S Z bj A mb X ds) {a : Nat} (ha : a ∈ A) {k : Int} (hk : (Lit.int .i64 k).wf = true) :
    Calls Try.prog 26 #[.pointer (some ⟨a, 0, none⟩), .int .i64 k] w fun e w' => e = .returned (.tuple #[.agg #[.int .i64 (fk k (X a)), .int .i64 (fv k (X a))], .bool (fh k (X a))]) ∧ Below w.heap.size w w' := by
  have la := h.low a (h.stat a (h.box a ha).1)
  have lb := (h.map a ha).lt
  have hm := h.map a ha
  have hL := h.srt a
  have c2 := (h.box a ha).2.2.c2
  clear h
  have HM : Hid (∀ w', Below w.heap.size w w' → MapIs encS w' (mb a) (X a)) := fun w' hb => hm.of _ (hb.block _ lb)
  clear hm
  generalize mb a = bm at *
  generalize X a = L at *
  have hL' := hide hL
  clear hL
  have hx : a ≠ w.heap.size := by omega
  go_enter Try.func26, Try.ntmps26
  go_wp2_with (first
    | (go_at_call 25; refine (findable_any _ _).mono ?_; rintro e w' ⟨rfl, rfl⟩)
    | (at_lookup; refine wpList_mlook _ rfl _ _ rfl rfl rfl (HM.out _ ?_) hL'.out hk ?_))
  · exact bAl (bMe w)
  · exact bodyPost_ret (v := .tuple #[.agg #[.int .i64 (fk k L), .int .i64 (fv k L)], .bool (fh k L)]) (by simp [results, Try.results26, go_sem]) rfl ⟨rfl, bAl (bAl (bMe w))⟩
theorem get_any {w : World} {S Z : Nat → Prop} {bj : Nat} {A : List Nat} {mb : Nat → Nat} {X : Nat → Kvs} {ds : Deeds} (h : St w S Z bj A mb X ds) {a : Nat} (ha : a ∈ A) {k : Int} (hk : (Lit.int .i64 k).wf = true) :
    Calls Try.prog 17 #[.pointer (some ⟨a, 0, none⟩), .int .i64 k] w fun e w' => e = .returned (.tuple #[.int .i64 (fv k (X a)), .bool (fh k (X a))]) ∧ Below w.heap.size w w' := by
  have F := find_any h ha hk
  clear h
  go_enter Try.func17, Try.ntmps17
  go_wp2_with (go_at_call 26; refine F.mono ?_; clear F; rintro e w1 ⟨rfl, hb⟩)
  go_ret2
  exact ⟨rfl, bAl hb⟩
end Go.Proofs.Ytnjijnphjiiceaa
