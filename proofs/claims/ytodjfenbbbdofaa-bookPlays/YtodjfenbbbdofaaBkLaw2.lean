/- Numbers that a law keeps beside a book; how supplies change. -/
import Derived.Test.YtodjfenbbbdofaaBkActsMem
import Derived.Test.YtodjfenbbbdofaaRef2
namespace Go.Proofs.Ytodjfenbbbdofaa
set_option linter.unusedSimpArgs false
set_option linter.unusedVariables false
open Go.RowKit Go.Lib

theorem BS.addP {W w w' : World} {bj bb n : Nat} {h : Nat → Kvs} {Fr P : Nat → Prop} (B : BS W w bj bb n h Fr) (hb : Below w.heap.size w w') (hP : ∀ k, P k → w.heap.size ≤ k ∧ k < w'.heap.size) : BS W w' bj bb n h (fun k => Fr k ∨ P k) := by
  obtain ⟨S, b, s1, s2⟩ := B.ex
  refine ⟨⟨S, b.below hb, s1, fun k hk hs => ?_⟩, fun k hk => ?_, bOn B.be hb⟩
  · rcases hk with hk | hk
    · exact s2 k hk hs
    · have := b.low k hs; have := hP k hk; omega
  · rcases hk with hk | hk
    · exact Nat.lt_of_lt_of_le (B.low k hk) hb.size
    · exact (hP k hk).2
theorem Num.kept {w w' : World} {ao : Option Addr} {n cap : Nat} {N : Int} {L : Nat} (h : Num w ao n cap N L) (hs : w.heap.size ≤ w'.heap.size) (hb : ∀ a, ao = some a → w'.heap[a.block]? = w.heap[a.block]?) : Num w' ao n cap N L := by
  obtain ⟨zs, ⟨h1, h2, h3, h4⟩, r⟩ := h
  refine ⟨zs, ⟨h1, h2, h3, ?_⟩, r⟩
  rcases h4 with h4 | ⟨b, off, rfl, hl, hc⟩
  · exact .inl h4
  · exact .inr ⟨b, off, rfl, Nat.lt_of_lt_of_le hl hs, fun j hj => (World.cell?_of_block (w := w) (a := ⟨b, off + j, none⟩) (show w'.heap[b]? = w.heap[b]? from hb ⟨b, off, none⟩ rfl)).trans (hc j hj)⟩
theorem Num.lt {w : World} {a : Addr} {n cap : Nat} {N : Int} {L : Nat} (h : Num w (some a) n cap N L) : a.block < w.heap.size := by
  obtain ⟨zs, ⟨h1, h2, h3, h4⟩, r⟩ := h
  rcases h4 with ⟨e, _⟩ | ⟨b, off, e, hl, hc⟩
  · cases e
  · cases e; exact hl
/-- A number whose digits are another's. -/
def NumF (w : World) (ao : Option Addr) (n cap : Nat) (N : Int) (L : Nat) (Fr : Nat → Prop) : Prop := Num w ao n cap N L ∧ ∀ a, ao = some a → Fr a.block
theorem NumF.kp {w w' : World} {ao : Option Addr} {n cap : Nat} {N : Int} {L : Nat} {Fr : Nat → Prop} (h : NumF w ao n cap N L Fr) (k : Kp Fr w w') : NumF w' ao n cap N L Fr := ⟨h.1.kept k.1 fun a e => k.2 _ (h.2 a e), h.2⟩
theorem NumF.sub {w : World} {ao : Option Addr} {n cap : Nat} {N : Int} {L : Nat} {Fr Fr' : Nat → Prop} (h : NumF w ao n cap N L Fr) (hs : ∀ k, Fr k → Fr' k) : NumF w ao n cap N L Fr' := ⟨h.1, fun a e => hs _ (h.2 a e)⟩
/-- Four numbers in a box; their digits lie in none of Nb. -/
structure Num4 (w : World) (g : Nat) (Fr Nb : Nat → Prop) (M : Nat → Int) (L : Nat) : Prop where
  c : ∀ j, j < 4 → ∃ ao n cap, w.cell? ⟨g, j, none⟩ = some (.slice ao n cap) ∧ NumF w ao n cap (M j) L (fun k => Fr k ∧ ¬ Nb k)
  fr : ∀ o, w.frozen? ⟨g, o, none⟩ = false
  far : Fr g
theorem NumF.kp2 {w w' : World} {ao : Option Addr} {n cap : Nat} {N : Int} {L : Nat} {Fr Nb : Nat → Prop} (h : NumF w ao n cap N L (fun k => Fr k ∧ ¬ Nb k)) (k : Kp Fr w w') : NumF w' ao n cap N L (fun k => Fr k ∧ ¬ Nb k) := ⟨h.1.kept k.1 fun a e => k.2 _ (h.2 a e).1, h.2⟩
theorem Num4.kp {w w' : World} {g : Nat} {Fr Nb : Nat → Prop} {M : Nat → Int} {L : Nat} (h : Num4 w g Fr Nb M L) (k : Kp Fr w w') : Num4 w' g Fr Nb M L :=
  ⟨fun j hj => by
    obtain ⟨ao, n, cap, h1, h2⟩ := h.c j hj
    exact ⟨ao, n, cap, (k.cell h.far).trans h1, h2.kp2 k⟩, fun o => (k.frozen h.far).trans (h.fr o), h.far⟩
theorem Num4.sub {w : World} {g : Nat} {Fr Fr' Nb : Nat → Prop} {M : Nat → Int} {L : Nat} (h : Num4 w g Fr Nb M L) (hs : ∀ k, Fr k → Fr' k) : Num4 w g Fr' Nb M L :=
  ⟨fun j hj => by
    obtain ⟨ao, n, cap, h1, h2⟩ := h.c j hj
    exact ⟨ao, n, cap, h1, h2.sub fun k hk => ⟨hs k hk.1, hk.2⟩⟩, h.fr, hs _ h.far⟩
theorem Num4.mono {w : World} {g : Nat} {Fr Nb : Nat → Prop} {M : Nat → Int} {L L' : Nat} (h : Num4 w g Fr Nb M L) (hl : L ≤ L') : Num4 w g Fr Nb M L' :=
  ⟨fun j hj => by
    obtain ⟨ao, n, cap, h1, h2⟩ := h.c j hj
    exact ⟨ao, n, cap, h1, h2.1.mono hl, h2.2⟩, h.fr, h.far⟩
/-- One of them is another one. -/
theorem Num4.put {w : World} {g : Nat} {Fr Nb : Nat → Prop} {M : Nat → Int} {L : Nat} (h : Num4 w g Fr Nb M L) (hg : Nb g) {j : Nat} (hj : j < 4) {ao : Option Addr} {n cap : Nat} {N : Int} (hn : NumF w ao n cap N L (fun k => Fr k ∧ ¬ Nb k)) :
    Num4 (w.setCell ⟨g, j, none⟩ (.slice ao n cap)) g Fr Nb (fun i => if i = j then N else M i) L := by
  have hs : (w.setCell ⟨g, j, none⟩ (.slice ao n cap)).heap.size = w.heap.size := by simp [World.setCell]
  have ne : ∀ a : Addr, (Fr a.block ∧ ¬ Nb a.block) → a.block ≠ g := fun a h e => h.2 (e ▸ hg)
  refine ⟨fun i hi => ?_, fun o => by simp [go_sem, h.fr], h.far⟩
  by_cases e : i = j
  · subst e
    obtain ⟨ao0, n0, cap0, h1, h2⟩ := h.c i hi
    refine ⟨ao, n, cap, by simp [go_sem, h1], ?_⟩
    simp only [if_true]
    exact ⟨hn.1.kept (by rw [hs]; exact Nat.le_refl _) fun a e => Below.heap_setCell _ _ _ _ (ne a (hn.2 a e)), hn.2⟩
  · obtain ⟨ao0, n0, cap0, h1, h2⟩ := h.c i hi
    refine ⟨ao0, n0, cap0, ?_, ?_⟩
    · have e2 : ¬ j = i := fun e2 => e e2.symm
      simp [go_sem, h1, e, e2]
    · simp only [e, if_false]
      exact ⟨h2.1.kept (by rw [hs]; exact Nat.le_refl _) fun a e => Below.heap_setCell _ _ _ _ (ne a (h2.2 a e)), h2.2⟩
/-- Another box is written. -/
theorem Num4.other {w : World} {g g' o : Nat} {v : Value} {Fr Nb : Nat → Prop} {M : Nat → Int} {L : Nat} (h : Num4 w g Fr Nb M L) (hg : Nb g') (hne : g ≠ g') : Num4 (w.setCell ⟨g', o, none⟩ v) g Fr Nb M L := by
  have hb : ∀ k, k ≠ g' → (w.setCell ⟨g', o, none⟩ v).heap[k]? = w.heap[k]? := fun k hk => Below.heap_setCell _ _ _ _ hk
  refine ⟨fun j hj => ?_, fun o => (World.frozen?_of_block (w := w) (a := ⟨g, o, none⟩) (hb g hne)).trans (h.fr o), h.far⟩
  obtain ⟨ao, n, cap, h1, h2⟩ := h.c j hj
  exact ⟨ao, n, cap, (World.cell?_of_block (w := w) (a := ⟨g, j, none⟩) (hb g hne)).trans h1, h2.1.kept (by simp [World.setCell]) fun a e => hb _ fun e2 => (h2.2 a e).2 (e2 ▸ hg), h2.2⟩
theorem cmp_same {ao bo : Option Addr} {n m cap cap' : Nat} {A B : Int} {L M : Nat} {w : World} (hx : Num w ao n cap A L) (hy : Num w bo m cap' B M) (h : A = B) :
    Calls Try.prog 19 #[.slice ao n cap, .slice bo m cap'] w fun e w' => e = .returned (.int .i64 0) ∧ w' = w := by
  refine (cmp_num hx hy).mono ?_
  rintro e w' ⟨⟨c, rfl, hc⟩, rfl⟩
  refine ⟨?_, rfl⟩
  rcases hc with ⟨_, h2⟩ | ⟨rfl, _⟩ | ⟨_, h2⟩
  · omega
  · rfl
  · omega
theorem mintE_ok {L : Kvs} {t p N : Int} (h : mintE L t p N = 0) : chk t [p] N = 0 ∧ In (sup L t + N) := by
  unfold mintE at h
  by_cases hc : chk t [p] N = 0
  · rw [if_neg (by simp [hc])] at h
    by_cases hs : In (sup L t + N)
    · exact ⟨hc, hs⟩
    · rw [if_neg hs] at h; omega
  · rw [if_pos hc] at h; exact absurd h hc
theorem burnE_ok {L : Kvs} {t p N : Int} (h : burnE L t p N = 0) : chk t [p] N = 0 ∧ N ≤ bal L (t, p) := by
  unfold burnE at h
  by_cases hc : chk t [p] N = 0
  · rw [if_neg (by simp [hc])] at h
    by_cases hs : N ≤ bal L (t, p)
    · exact ⟨hc, hs⟩
    · rw [if_neg hs] at h; omega
  · rw [if_pos hc] at h; exact absurd h hc
theorem moveE_ok {L : Kvs} {t a b N : Int} (h : moveE L t a b N = 0) : chk t [a, b] N = 0 ∧ N ≤ bal L (t, a) := by
  unfold moveE at h
  by_cases hc : chk t [a, b] N = 0
  · rw [if_neg (by simp [hc])] at h
    by_cases hs : N ≤ bal L (t, a)
    · exact ⟨hc, hs⟩
    · rw [if_neg hs] at h; omega
  · rw [if_pos hc] at h; exact absurd h hc
theorem sup_mint {L : Kvs} (g : Good L) {t p N : Int} (ht : 0 ≤ t) (hp : 0 ≤ p) (hN : In N) (h : mintE L t p N = 0) : t < 4 ∧ ∀ s, sup (mintL L t p N) s = if t = s then sup L s + N else sup L s := by
  obtain ⟨hc, hs⟩ := mintE_ok h
  have hk := chk_kin ht hc (List.mem_singleton.2 rfl) hp
  refine ⟨hk.1.2, fun s => ?_⟩
  rw [mintL, h, if_pos rfl, sup_addB g.srt hk hN hs]
theorem sup_burn {L : Kvs} (g : Good L) {t p N : Int} (ht : 0 ≤ t) (hp : 0 ≤ p) (hN : In N) (h : burnE L t p N = 0) : t < 4 ∧ ∀ s, sup (burnL L t p N) s = if t = s then sup L s - N else sup L s := by
  obtain ⟨hc, hs⟩ := burnE_ok h
  have hk := chk_kin ht hc (List.mem_singleton.2 rfl) hp
  refine ⟨hk.1.2, fun s => ?_⟩
  rw [burnL, h, if_pos rfl, sup_subB g.srt hk hN hs]
theorem sup_move {L : Kvs} (g : Good L) (hI : ∀ t, In (sup L t)) {t a b N : Int} (ht : 0 ≤ t) (ha : 0 ≤ a) (hb : 0 ≤ b) (hN : In N) (s : Int) : sup (moveL L t a b N) s = sup L s := by
  by_cases h : moveE L t a b N = 0
  · obtain ⟨hc, hs⟩ := moveE_ok h
    have hk := chk_kin ht hc (p := a) (by simp) ha
    have hk2 := chk_kin ht hc (p := b) (by simp) hb
    have g2 : Good (subB (t, a) N L) := g.put hk _
    have e1 := fun s => sup_subB g.srt hk hN hs s
    have hin : In (sup (subB (t, a) N L) t + N) := by
      rw [e1, if_pos rfl, Int.sub_add_cancel]; exact hI t
    rw [moveL, h, if_pos rfl, sup_addB g2.srt hk2 hN hin, e1]
    by_cases e : t = s
    · simp [e]
    · simp [e]
  · rw [moveL, if_neg h]
end Go.Proofs.Ytodjfenbbbdofaa
