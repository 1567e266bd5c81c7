/- Contracts of stage's New, find and Get over this translation. -/
import Derived.Test.YtncnilplmklccaaBkSmall
import Derived.Deep.RegionHeld3
namespace Go.Proofs.Ytncnilplmklccaa
set_option linter.unusedSimpArgs false
set_option linter.unusedVariables false
set_option linter.unusedSectionVars false
open Go.RowKit Go.Lib
attribute [local go_sem] setCell_drewN alloc_drewN

def upN (mb : Nat → Nat) (a b : Nat) : Nat → Nat := fun k => if k = a then b else mb k
/-- A journal alone. -/
theorem St.fresh {w : World} {bj : Nat} (E : List Value) (mb : Nat → Nat) (hc : w.cell? ⟨bj, 0, none⟩ = some (.slice none 0 0)) (hf : ∀ o, w.frozen? ⟨bj, o, none⟩ = false) (hE : ∀ (i : Nat) v, E[i]? = some v → w.cell? ⟨bj, i + 1, none⟩ = some v) : St w (fun k => k = bj) (fun _ => False) ⟨bj, [], E, by simp⟩ [] mb (fun _ => []) [] :=
  ⟨fun k hk => by subst hk; obtain ⟨cs, t, f, e⟩ := cells_of_cellS hc; exact (Array.getElem?_eq_some_iff.1 e).1, fun _ h => h.elim, rfl, fun h => h, hf, hE, ⟨_, [], hc, World.ownsRow_nil _ _ _ _, fun b hb => by simp [Value.ownBlock] at hb, rfl, fun i d hd => by simp at hd⟩, fun a ha => by simp at ha, fun a ha => by simp at ha, fun a b ha => by simp at ha, fun _ => List.Pairwise.nil, fun d hd => by simp at hd⟩
/-- A map more. -/
theorem St.add {w w' : World} {S Z : Nat → Prop} {bj : Jb} {A : List Nat} {mb : Nat → Nat} {X : Nat → Kvs} {ds : Deeds} (h : St w S Z bj A mb X ds) (hb : Below w.heap.size w w') {a bm : Nat} (ha : w.heap.size ≤ a ∧ a < w'.heap.size) (hm : w.heap.size ≤ bm ∧ bm < w'.heap.size)
    (box : MapBox w' a bj.b bm) (map : MapIs encS w' bm []) : St w' (fun k => S k ∨ k = bm ∨ k = a) (fun k => Z k ∨ k = a) bj (a :: A) (upN mb a bm) (upX X a []) ds ∧ Mv S (fun k => S k ∨ k = bm ∨ k = a) w w' := by
  have h' := h.below hb
  have na : ∀ c, c ∈ A → c ≠ a := fun c hc e => by have := h.low c (h.stat c (h.box c hc).1); omega
  obtain ⟨low, stat, jS, jZ, jf, ext, ⟨v, us, r1, r2, r3, r4, r5⟩, hbox, hmap, inj, srt, mine⟩ := h'
  have lj := h.low bj.b jS
  refine ⟨⟨fun k hk => ?_, fun k hk => ?_, .inl jS, fun hk => ?_, jf, ext, ⟨v, us, r1, r2, fun b hb' => ?_, r4, fun i d hd => ?_⟩, fun c hc => ?_, fun c hc => ?_, fun c d hc hd e => ?_, fun c => ?_, fun d hd => ?_⟩, ⟨hb.os, hb.tape, hb.output, hb.size, fun k hk _ => hb.block k hk, fun k hk => ?_⟩⟩
  · rcases hk with hk | rfl | rfl
    · exact low k hk
    · exact hm.2
    · exact ha.2
  · rcases hk with hk | rfl
    · exact .inl (stat k hk)
    · exact .inr (.inr rfl)
  · rcases hk with hk | hk
    · exact jZ hk
    · omega
  · have l1 := h.low b (r3 b hb').1
    refine ⟨.inl (r3 b hb').1, fun hk => ?_, (r3 b hb').2.2⟩
    rcases hk with hk | hk
    · exact (r3 b hb').2.1 hk
    · omega
  · obtain ⟨u, hu, hd'⟩ := r5 i d hd
    exact ⟨u, hu, hd'.of (fun _ _ => rfl) fun k hk => .inl hk⟩
  · by_cases e : c = a
    · subst e
      exact ⟨.inr rfl, by simp [upN], by simpa [upN] using box⟩
    · have hc' : c ∈ A := by simpa [e] using hc
      obtain ⟨b1, b2, b3⟩ := hbox c hc'
      exact ⟨.inl b1, by simpa [upN, e] using .inl b2, by simpa [upN, e] using b3⟩
  · by_cases e : c = a
    · subst e
      rw [upX_same]
      simpa [upN] using map
    · have hc' : c ∈ A := by simpa [e] using hc
      rw [upX_other X e]
      simpa [upN, e] using hmap c hc'
  · by_cases e1 : c = a
    · by_cases e2 : d = a
      · rw [e1, e2]
      · have hd' : d ∈ A := by simpa [e2] using hd
        have := (h.map d hd').lt
        simp [upN, e1, e2] at e
        omega
    · have hc' : c ∈ A := by simpa [e1] using hc
      by_cases e2 : d = a
      · have := (h.map c hc').lt
        simp [upN, e1, e2] at e
        omega
      · have hd' : d ∈ A := by simpa [e2] using hd
        simp [upN, e1, e2] at e
        exact inj c d hc' hd' e
  · by_cases e : c = a
    · subst e; rw [upX_same]; exact List.Pairwise.nil
    · rw [upX_other X e]; exact srt c
  · exact ⟨List.mem_cons_of_mem _ (mine d hd).1, (mine d hd).2⟩
  · rcases hk with hk | rfl | rfl
    · exact .inl hk
    · exact .inr hm.1
    · exact .inr ha.1
theorem snew_any {w : World} {S Z : Nat → Prop} {bj : Jb} {A : List Nat} {mb : Nat → Nat} {X : Nat → Kvs} {ds : Deeds} (h : St w S Z bj A mb X ds) :
    Calls Try.prog 47 #[.pointer (some ⟨bj.b, 0, none⟩), .func (.func 48) #[] #[]] w fun e w' => e = .returned (.pointer (some ⟨w.heap.size + 1, 0, none⟩)) ∧ Below w.heap.size w w' ∧
      ∃ S' Z' mb', St w' S' Z' bj ((w.heap.size + 1) :: A) mb' (upX X (w.heap.size + 1) []) ds ∧ Mv S S' w w' := by
  have hmm := @run_makeMap Try.prog
  obtain ⟨w1, hw1⟩ : ∃ w1, (w.alloc (.map #[] 0)).alloc (.cells #[.pointer (some ⟨bj.b, 0, none⟩), .func (.func 48) #[] #[], .map (some w.heap.size)] 121) = w1 := ⟨_, rfl⟩
  have HB : Hid (Below w.heap.size w w1) := by rw [← hw1]; exact bAl (bAl (bMe w))
  have HS : Hid (∃ S' Z' mb', St w1 S' Z' bj ((w.heap.size + 1) :: A) mb' (upX X (w.heap.size + 1) []) ds ∧ Mv S S' w w1) := by
    obtain ⟨q1, q2⟩ := h.add HB.out (a := w.heap.size + 1) (bm := w.heap.size) (by rw [← hw1]; simp) (by rw [← hw1]; simp; omega) (by rw [← hw1]; exact ⟨by simp [go_sem], by simp [go_sem], by simp [go_sem]⟩) (by rw [← hw1]; exact (MapIs.made encS w).of _ (Below.heap_alloc _ _ _ (by simp)))
    exact ⟨_, _, _, q1, q2⟩
  have HW := hide hw1
  clear h hw1
  go_enter Try.func47, Try.ntmps47
  go_wp2
  go_ret
  rw [HW.out]
  exact ⟨rfl, HB.out, HS.out⟩
theorem look_any {w : World} {b : Nat} {L : Kvs} {k : Kk} (h : MapIs encS w b L) (hL : Srt kyKey L) (hk : Kok k) : (Instr.lookup 119 (.map (some b)) (.agg #[.int .u8 k.1, .int .u8 k.2]) true).run Try.prog w = .ok (.tuple #[.agg #[.int .u8 (fk k L).1, .int .u8 (fk k L).2, .int .u64 (lm (fv k L) 0), .int .u64 (lm (fv k L) 1), .int .u64 (lm (fv k L) 2), .int .u64 (lm (fv k L) 3)], .bool (fh k L)]) w := h.look encS kyKey hL (kok hk)
set_option maxHeartbeats 1000000 in
set_option maxRecDepth 100000 in
theorem find_any {w : World} {S Z : Nat → Prop} {bj : Jb} {A : List Nat} {mb : Nat → Nat} {X : Nat → Kvs} {ds : Deeds} (h : St w S Z bj A mb X ds) {a : Nat} (ha : a ∈ A) {k : Kk} (hk : Kok k) :
    Calls Try.prog 69 #[.pointer (some ⟨a, 0, none⟩), .agg #[.int .u8 k.1, .int .u8 k.2]] w fun e w' => e = .returned (.tuple #[.agg #[.int .u8 (fk k (X a)).1, .int .u8 (fk k (X a)).2, .int .u64 (lm (fv k (X a)) 0), .int .u64 (lm (fv k (X a)) 1), .int .u64 (lm (fv k (X a)) 2), .int .u64 (lm (fv k (X a)) 3)], .bool (fh k (X a))]) ∧ Below w.heap.size w w' := by
  have la := h.low a (h.stat a (h.box a ha).1)
  have lb := (h.map a ha).lt
  have hm := h.map a ha
  have hL := h.srt a
  have c2 := (h.box a ha).2.2.c2
  clear h
  have HM : Hid (∀ w', Below w.heap.size w w' → MapIs encS w' (mb a) (X a)) := fun w' hb => hm.of _ (hb.block _ lb)
  clear hm
  generalize mb a = bm at *
  generalize X a = L at *
  have hL' := hide hL
  clear hL
  have hx : a ≠ w.heap.size := by omega
  obtain ⟨⟨K1, K2⟩, hK⟩ : ∃ x, fk k L = x := ⟨_, rfl⟩
  obtain ⟨FN, hN⟩ : ∃ x, fv k L = x := ⟨_, rfl⟩
  obtain ⟨FB, hB⟩ : ∃ x, fh k L = x := ⟨_, rfl⟩
  rw [hK, hN, hB]
  have KK : Hid (fk k L = (K1, K2) ∧ fv k L = FN ∧ fh k L = FB) := ⟨hK, hN, hB⟩
  clear hK hN hB
  go_enter Try.func69, Try.ntmps69
  go_wp2_with (go_at_call 74; refine (findable_any _ _).mono ?_; rintro e w' ⟨rfl, rfl⟩)
  obtain ⟨W3, hW3⟩ : ∃ W3, ((w.alloc (.cells #[.int .u8 k.1, .int .u8 k.2] 96)).alloc (.cells #[.int .u8 0, .int .u8 0, .int .u64 0, .int .u64 0, .int .u64 0, .int .u64 0] 128)).alloc (.cells #[.int .u8 k.1, .int .u8 k.2] 96) = W3 := ⟨_, rfl⟩
  rw [hW3]
  have HB3 : Hid (Below w.heap.size w W3) := by rw [← hW3]; exact bAl (bAl (bAl (bMe w)))
  have HM3 : Hid (∀ w', Below W3.heap.size W3 w' → MapIs encS w' bm L) := fun w' hb => HM.out _ (bOn HB3.out hb)
  have c23 : W3.cell? ⟨a, 2, none⟩ = some (.map (some bm)) := by rw [(bcell HB3.out).1 a 2 la]; exact c2
  obtain ⟨g, hg⟩ : ∃ g, w.heap.size = g := ⟨_, rfl⟩
  have k0 : W3.cell? ⟨g, 0, none⟩ = some (.int .u8 k.1) := by rw [← hW3, ← hg]; simp [go_sem]
  have k1 : W3.cell? ⟨g, 1, none⟩ = some (.int .u8 k.2) := by rw [← hW3, ← hg]; simp [go_sem]
  have hz : W3.heap.size = g + 3 := by rw [← hW3, ← hg]; simp
  have G1 : ∀ o, W3.frozen? ⟨g + 1, o, none⟩ = false := fun o => by rw [← hW3, ← hg]; simp [go_sem]
  have E1 : Cs W3 (g + 1) [.int .u8 0, .int .u8 0, .int .u64 0, .int .u64 0, .int .u64 0, .int .u64 0] := by rw [← hW3, ← hg]; exact .mk6 (by simp [go_sem]) (by simp [go_sem]) (by simp [go_sem]) (by simp [go_sem]) (by simp [go_sem]) (by simp [go_sem])
  obtain ⟨n0, n1, n2, n3, n4, n5⟩ := E1.six
  have la3 : a < W3.heap.size := by omega
  have lg3 : g < W3.heap.size := by omega
  have hag : a ≠ W3.heap.size := Nat.ne_of_lt la3
  have hgg : g ≠ W3.heap.size := Nat.ne_of_lt lg3
  have lg1 : g + 1 < W3.heap.size := by omega
  have HG := hide hg
  rw [hg] at HB3
  rw [hg]
  clear hg
  clear E1 hW3
  have hrun : Hid (∀ w', Below W3.heap.size W3 w' → (Instr.lookup 119 (.map (some bm)) (.agg #[.int .u8 k.1, .int .u8 k.2]) true).run Try.prog w' = .ok (.tuple #[.agg #[.int .u8 K1, .int .u8 K2, .int .u64 (lm FN 0), .int .u64 (lm FN 1), .int .u64 (lm FN 2), .int .u64 (lm FN 3)], .bool FB]) w') := fun w' hb => by
    have h := look_any (HM3.out w' hb) hL'.out hk
    rw [KK.out.1, KK.out.2.1, KK.out.2.2] at h
    exact h
  have r1 := hrun.out W3.drew (bMe W3).drew
  have r2 := hrun.out (W3.alloc (.cells #[.int .u8 0, .int .u8 0, .int .u64 0, .int .u64 0, .int .u64 0, .int .u64 0] 128)).drew (bAl (bMe W3)).drew
  go_region_held3 (fun w' => w'.cell? ⟨a, 2, none⟩ = some (.map (some bm)) ∧ w'.cell? ⟨g, 0, none⟩ = some (.int .u8 k.1) ∧ w'.cell? ⟨g, 1, none⟩ = some (.int .u8 k.2)) (first | exact ⟨c23, k0, k1⟩ | (simp [go_sem, World.cell?_alloc_lt, la3, lg3, c23, k0, k1, hag, hgg]; done)) (fail)
  all_goals clear r1 r2
  all_goals go_wp2
  all_goals refine bodyPost_ret (v := .tuple #[.agg #[.int .u8 K1, .int .u8 K2, .int .u64 (lm FN 0), .int .u64 (lm FN 1), .int .u64 (lm FN 2), .int .u64 (lm FN 3)], .bool FB]) (by simp [results, Try.results69, go_sem, n0, n1, n2, n3, n4, n5, World.cell?_alloc_lt, lg1]) rfl ⟨rfl, ?_⟩
  all_goals (rw [HG.out]; have hge := HB3.out)
  all_goals
    have hs := (((((hge.setCell (p := ⟨g + 1, 0, none⟩) (Nat.le_succ g) (.int .u8 K1)).setCell (p := ⟨g + 1, 1, none⟩) (Nat.le_succ g) (.int .u8 K2)).setCell (p := ⟨g + 1, 2, none⟩) (Nat.le_succ g) (.int .u64 (lm FN 0))).setCell (p := ⟨g + 1, 3, none⟩) (Nat.le_succ g) (.int .u64 (lm FN 1))).setCell (p := ⟨g + 1, 4, none⟩) (Nat.le_succ g) (.int .u64 (lm FN 2))).setCell (p := ⟨g + 1, 5, none⟩) (Nat.le_succ g) (.int .u64 (lm FN 3))
    exact (hs.alloc (by simp only [World.size_setCell]; omega) _).drew
theorem get_any {w : World} {S Z : Nat → Prop} {bj : Jb} {A : List Nat} {mb : Nat → Nat} {X : Nat → Kvs} {ds : Deeds} (h : St w S Z bj A mb X ds) {a : Nat} (ha : a ∈ A) {k : Kk} (hk : Kok k) :
    Calls Try.prog 61 #[.pointer (some ⟨a, 0, none⟩), .agg #[.int .u8 k.1, .int .u8 k.2]] w fun e w' => e = .returned (.tuple #[.agg #[.int .u64 (lm (fv k (X a)) 0), .int .u64 (lm (fv k (X a)) 1), .int .u64 (lm (fv k (X a)) 2), .int .u64 (lm (fv k (X a)) 3)], .bool (fh k (X a))]) ∧ Below w.heap.size w w' := by
  have hb0 : Hid (Below w.heap.size w ((w.alloc (.cells #[.int .u8 k.1, .int .u8 k.2] 96)).alloc (.cells #[.int .u64 0, .int .u64 0, .int .u64 0, .int .u64 0] 55))) := bAl (bAl (bMe w))
  have HF := hide (find_any (h.below hb0.out) ha hk)
  clear h
  generalize X a = L at *
  generalize fk k L = KK at *
  obtain ⟨K1, K2⟩ := KK
  generalize fv k L = FN at *
  generalize fh k L = FB at *
  go_enter Try.func61, Try.ntmps61
  go_wp2_with fail
  refine HF.out.mono ?_
  clear HF
  rintro e w1 ⟨rfl, hb1⟩
  have HB1 := hide hb1
  have hc := bcell hb1
  obtain ⟨g, hg⟩ : ∃ g, w.heap.size = g := ⟨_, rfl⟩
  have hz1 : g + 2 ≤ w1.heap.size := by have := hb1.size; rw [← hg]; simpa using this
  have n0 : w1.cell? ⟨g + 1, 0, none⟩ = some (.int .u64 0) := by rw [← hg, hc.1 _ _ (by simp)]; simp [go_sem]
  have n1 : w1.cell? ⟨g + 1, 1, none⟩ = some (.int .u64 0) := by rw [← hg, hc.1 _ _ (by simp)]; simp [go_sem]
  have n2 : w1.cell? ⟨g + 1, 2, none⟩ = some (.int .u64 0) := by rw [← hg, hc.1 _ _ (by simp)]; simp [go_sem]
  have n3 : w1.cell? ⟨g + 1, 3, none⟩ = some (.int .u64 0) := by rw [← hg, hc.1 _ _ (by simp)]; simp [go_sem]
  have G1 : ∀ o, w1.frozen? ⟨g + 1, o, none⟩ = false := fun o => by rw [← hg, hc.2 _ _ (by simp)]; simp [go_sem]
  have lg : g + 1 < w1.heap.size := by omega
  have hg1z : g ≤ w1.heap.size := by omega
  have HW : Hid (Below g w w1) := by rw [← hg]; exact bOn hb0.out hb1
  have HG := hide hg
  rw [hg]
  clear hc hb1 hg hb0
  go_wp2
  refine bodyPost_ret (v := .tuple #[.agg #[.int .u64 (lm FN 0), .int .u64 (lm FN 1), .int .u64 (lm FN 2), .int .u64 (lm FN 3)], .bool FB]) (by simp [results, Try.results61, go_sem, n0, n1, n2, n3, World.cell?_alloc_lt, lg]) rfl ⟨rfl, ?_⟩
  rw [HG.out]
  have hge := HW.out
  have hs := (((hge.setCell (p := ⟨g + 1, 0, none⟩) (Nat.le_succ g) (.int .u64 (lm FN 0))).setCell (p := ⟨g + 1, 1, none⟩) (Nat.le_succ g) (.int .u64 (lm FN 1))).setCell (p := ⟨g + 1, 2, none⟩) (Nat.le_succ g) (.int .u64 (lm FN 2))).setCell (p := ⟨g + 1, 3, none⟩) (Nat.le_succ g) (.int .u64 (lm FN 3))
  exact hs.alloc (by simp only [World.size_setCell]; omega) _
end Go.Proofs.Ytncnilplmklccaa
