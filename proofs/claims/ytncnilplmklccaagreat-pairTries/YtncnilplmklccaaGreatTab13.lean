/- Numbers that a law keeps beside a book; how supplies change. The document's table of balances: 288 limbs in a box; boxes of limbs of a call's own, listed (gen-tab13.py). -/
import Derived.Test.YtncnilplmklccaaGreatBkPlay
import Derived.Test.YtncnilplmklccaaGreatRef2
import Derived.Test.YtncnilplmklccaaGreatBRow
/- Numbers that a law keeps beside a book; how supplies change. -/
namespace Go.Proofs.YtncnilplmklccaaGreat
set_option linter.unusedSimpArgs false
set_option linter.unusedVariables false
open Go.RowKit Go.Lib

theorem BS.addP {W w w' : World} {bj : Jk} {bb n : Nat} {h : Nat → Kvs} {Fr P : Nat → Prop} (B : BS W w bj bb n h Fr) (hb : Below w.heap.size w w') (hP : ∀ k, P k → w.heap.size ≤ k ∧ k < w'.heap.size) : BS W w' bj bb n h (fun k => Fr k ∨ P k) := by
  obtain ⟨S, b, s1, s2⟩ := B.ex
  refine ⟨⟨S, b.below hb, s1, fun k hk hs => ?_⟩, fun k hk => ?_, bOn B.be hb⟩
  · rcases hk with hk | hk
    · exact s2 k hk hs
    · have := b.low k hs; have := hP k hk; omega
  · rcases hk with hk | hk
    · exact Nat.lt_of_lt_of_le (B.low k hk) hb.size
    · exact (hP k hk).2
theorem Num.kept {w w' : World} {ao : Option Addr} {n cap : Nat} {N : Int} {L : Nat} (h : Num w ao n cap N L) (hs : w.heap.size ≤ w'.heap.size) (hb : ∀ a, ao = some a → w'.heap[a.block]? = w.heap[a.block]?) : Num w' ao n cap N L := by
  obtain ⟨zs, ⟨h1, h2, h3, h4⟩, r⟩ := h
  refine ⟨zs, ⟨h1, h2, h3, ?_⟩, r⟩
  rcases h4 with h4 | ⟨b, off, rfl, hl, hc⟩
  · exact .inl h4
  · exact .inr ⟨b, off, rfl, Nat.lt_of_lt_of_le hl hs, fun j hj => (World.cell?_of_block (w := w) (a := ⟨b, off + j, none⟩) (show w'.heap[b]? = w.heap[b]? from hb ⟨b, off, none⟩ rfl)).trans (hc j hj)⟩
theorem Num.lt {w : World} {a : Addr} {n cap : Nat} {N : Int} {L : Nat} (h : Num w (some a) n cap N L) : a.block < w.heap.size := by
  obtain ⟨zs, ⟨h1, h2, h3, h4⟩, r⟩ := h
  rcases h4 with ⟨e, _⟩ | ⟨b, off, e, hl, hc⟩
  · cases e
  · cases e; exact hl
/-- A number whose digits are another's. -/
def NumF (w : World) (ao : Option Addr) (n cap : Nat) (N : Int) (L : Nat) (Fr : Nat → Prop) : Prop := Num w ao n cap N L ∧ ∀ a, ao = some a → Fr a.block
theorem NumF.kp {w w' : World} {ao : Option Addr} {n cap : Nat} {N : Int} {L : Nat} {Fr : Nat → Prop} (h : NumF w ao n cap N L Fr) (k : Kp Fr w w') : NumF w' ao n cap N L Fr := ⟨h.1.kept k.1 fun a e => k.2 _ (h.2 a e), h.2⟩
theorem NumF.sub {w : World} {ao : Option Addr} {n cap : Nat} {N : Int} {L : Nat} {Fr Fr' : Nat → Prop} (h : NumF w ao n cap N L Fr) (hs : ∀ k, Fr k → Fr' k) : NumF w ao n cap N L Fr' := ⟨h.1, fun a e => hs _ (h.2 a e)⟩
/-- Four numbers in a box; their digits lie in none of Nb. -/
structure Num4 (w : World) (g : Nat) (Fr Nb : Nat → Prop) (M : Nat → Int) (L : Nat) : Prop where
  c : ∀ j, j < 4 → ∃ ao n cap, w.cell? ⟨g, j, none⟩ = some (.slice ao n cap) ∧ NumF w ao n cap (M j) L (fun k => Fr k ∧ ¬ Nb k)
  fr : ∀ o, w.frozen? ⟨g, o, none⟩ = false
  far : Fr g
theorem NumF.kp2 {w w' : World} {ao : Option Addr} {n cap : Nat} {N : Int} {L : Nat} {Fr Nb : Nat → Prop} (h : NumF w ao n cap N L (fun k => Fr k ∧ ¬ Nb k)) (k : Kp Fr w w') : NumF w' ao n cap N L (fun k => Fr k ∧ ¬ Nb k) := ⟨h.1.kept k.1 fun a e => k.2 _ (h.2 a e).1, h.2⟩
theorem Num4.kp {w w' : World} {g : Nat} {Fr Nb : Nat → Prop} {M : Nat → Int} {L : Nat} (h : Num4 w g Fr Nb M L) (k : Kp Fr w w') : Num4 w' g Fr Nb M L :=
  ⟨fun j hj => by
    obtain ⟨ao, n, cap, h1, h2⟩ := h.c j hj
    exact ⟨ao, n, cap, (k.cell h.far).trans h1, h2.kp2 k⟩, fun o => (k.frozen h.far).trans (h.fr o), h.far⟩
theorem Num4.sub {w : World} {g : Nat} {Fr Fr' Nb : Nat → Prop} {M : Nat → Int} {L : Nat} (h : Num4 w g Fr Nb M L) (hs : ∀ k, Fr k → Fr' k) : Num4 w g Fr' Nb M L :=
  ⟨fun j hj => by
    obtain ⟨ao, n, cap, h1, h2⟩ := h.c j hj
    exact ⟨ao, n, cap, h1, h2.sub fun k hk => ⟨hs k hk.1, hk.2⟩⟩, h.fr, hs _ h.far⟩
theorem Num4.mono {w : World} {g : Nat} {Fr Nb : Nat → Prop} {M : Nat → Int} {L L' : Nat} (h : Num4 w g Fr Nb M L) (hl : L ≤ L') : Num4 w g Fr Nb M L' :=
  ⟨fun j hj => by
    obtain ⟨ao, n, cap, h1, h2⟩ := h.c j hj
    exact ⟨ao, n, cap, h1, h2.1.mono hl, h2.2⟩, h.fr, h.far⟩
/-- One of them is another one. -/
theorem Num4.put {w : World} {g : Nat} {Fr Nb : Nat → Prop} {M : Nat → Int} {L : Nat} (h : Num4 w g Fr Nb M L) (hg : Nb g) {j : Nat} (hj : j < 4) {ao : Option Addr} {n cap : Nat} {N : Int} (hn : NumF w ao n cap N L (fun k => Fr k ∧ ¬ Nb k)) :
    Num4 (w.setCell ⟨g, j, none⟩ (.slice ao n cap)) g Fr Nb (fun i => if i = j then N else M i) L := by
  have hs : (w.setCell ⟨g, j, none⟩ (.slice ao n cap)).heap.size = w.heap.size := by simp [World.setCell]
  have ne : ∀ a : Addr, (Fr a.block ∧ ¬ Nb a.block) → a.block ≠ g := fun a h e => h.2 (e ▸ hg)
  refine ⟨fun i hi => ?_, fun o => by simp [go_sem, h.fr], h.far⟩
  by_cases e : i = j
  · subst e
    obtain ⟨ao0, n0, cap0, h1, h2⟩ := h.c i hi
    refine ⟨ao, n, cap, by simp [go_sem, h1], ?_⟩
    simp only [if_true]
    exact ⟨hn.1.kept (by rw [hs]; exact Nat.le_refl _) fun a e => Below.heap_setCell _ _ _ _ (ne a (hn.2 a e)), hn.2⟩
  · obtain ⟨ao0, n0, cap0, h1, h2⟩ := h.c i hi
    refine ⟨ao0, n0, cap0, ?_, ?_⟩
    · have e2 : ¬ j = i := fun e2 => e e2.symm
      simp [go_sem, h1, e, e2]
    · simp only [e, if_false]
      exact ⟨h2.1.kept (by rw [hs]; exact Nat.le_refl _) fun a e => Below.heap_setCell _ _ _ _ (ne a (h2.2 a e)), h2.2⟩
/-- Another box is written. -/
theorem Num4.other {w : World} {g g' o : Nat} {v : Value} {Fr Nb : Nat → Prop} {M : Nat → Int} {L : Nat} (h : Num4 w g Fr Nb M L) (hg : Nb g') (hne : g ≠ g') : Num4 (w.setCell ⟨g', o, none⟩ v) g Fr Nb M L := by
  have hb : ∀ k, k ≠ g' → (w.setCell ⟨g', o, none⟩ v).heap[k]? = w.heap[k]? := fun k hk => Below.heap_setCell _ _ _ _ hk
  refine ⟨fun j hj => ?_, fun o => (World.frozen?_of_block (w := w) (a := ⟨g, o, none⟩) (hb g hne)).trans (h.fr o), h.far⟩
  obtain ⟨ao, n, cap, h1, h2⟩ := h.c j hj
  exact ⟨ao, n, cap, (World.cell?_of_block (w := w) (a := ⟨g, j, none⟩) (hb g hne)).trans h1, h2.1.kept (by simp [World.setCell]) fun a e => hb _ fun e2 => (h2.2 a e).2 (e2 ▸ hg), h2.2⟩
theorem cmp_same {ao bo : Option Addr} {n m cap cap' : Nat} {A B : Int} {L M : Nat} {w : World} (hx : Num w ao n cap A L) (hy : Num w bo m cap' B M) (h : A = B) :
    Calls Tryz.prog 37 #[.slice ao n cap, .slice bo m cap'] w fun e w' => e = .returned (.int .i64 0) ∧ w' = w := by
  refine (cmp_num hx hy).mono ?_
  rintro e w' ⟨⟨c, rfl, hc⟩, rfl⟩
  refine ⟨?_, rfl⟩
  rcases hc with ⟨_, h2⟩ | ⟨rfl, _⟩ | ⟨_, h2⟩
  · omega
  · rfl
  · omega
theorem mintE_ok {L : Kvs} {t p N : Int} (h : mintE L t p N = 0) : chk t [p] N = 0 ∧ In (sup L t + N) := by
  unfold mintE at h
  by_cases hc : chk t [p] N = 0
  · rw [if_neg (by simp [hc])] at h
    by_cases hs : In (sup L t + N)
    · exact ⟨hc, hs⟩
    · rw [if_neg hs] at h; omega
  · rw [if_pos hc] at h; exact absurd h hc
theorem burnE_ok {L : Kvs} {t p N : Int} (h : burnE L t p N = 0) : chk t [p] N = 0 ∧ N ≤ bal L (t, p) := by
  unfold burnE at h
  by_cases hc : chk t [p] N = 0
  · rw [if_neg (by simp [hc])] at h
    by_cases hs : N ≤ bal L (t, p)
    · exact ⟨hc, hs⟩
    · rw [if_neg hs] at h; omega
  · rw [if_pos hc] at h; exact absurd h hc
theorem moveE_ok {L : Kvs} {t a b N : Int} (h : moveE L t a b N = 0) : chk t [a, b] N = 0 ∧ N ≤ bal L (t, a) := by
  unfold moveE at h
  by_cases hc : chk t [a, b] N = 0
  · rw [if_neg (by simp [hc])] at h
    by_cases hs : N ≤ bal L (t, a)
    · exact ⟨hc, hs⟩
    · rw [if_neg hs] at h; omega
  · rw [if_pos hc] at h; exact absurd h hc
theorem sup_mint {L : Kvs} (g : Good L) {t p N : Int} (ht : 0 ≤ t) (hp : 0 ≤ p) (hN : In N) (h : mintE L t p N = 0) : t < 4 ∧ ∀ s, sup (mintL L t p N) s = if t = s then sup L s + N else sup L s := by
  obtain ⟨hc, hs⟩ := mintE_ok h
  have hk := chk_kin ht hc (List.mem_singleton.2 rfl) hp
  refine ⟨hk.1.2, fun s => ?_⟩
  rw [mintL, h, if_pos rfl, sup_addB g.srt hk hN hs]
theorem sup_burn {L : Kvs} (g : Good L) {t p N : Int} (ht : 0 ≤ t) (hp : 0 ≤ p) (hN : In N) (h : burnE L t p N = 0) : t < 4 ∧ ∀ s, sup (burnL L t p N) s = if t = s then sup L s - N else sup L s := by
  obtain ⟨hc, hs⟩ := burnE_ok h
  have hk := chk_kin ht hc (List.mem_singleton.2 rfl) hp
  refine ⟨hk.1.2, fun s => ?_⟩
  rw [burnL, h, if_pos rfl, sup_subB g.srt hk hN hs]
theorem sup_move {L : Kvs} (g : Good L) (hI : ∀ t, In (sup L t)) {t a b N : Int} (ht : 0 ≤ t) (ha : 0 ≤ a) (hb : 0 ≤ b) (hN : In N) (s : Int) : sup (moveL L t a b N) s = sup L s := by
  by_cases h : moveE L t a b N = 0
  · obtain ⟨hc, hs⟩ := moveE_ok h
    have hk := chk_kin ht hc (p := a) (by simp) ha
    have hk2 := chk_kin ht hc (p := b) (by simp) hb
    have g2 : Good (subB (t, a) N L) := g.put hk _
    have e1 := fun s => sup_subB g.srt hk hN hs s
    have hin : In (sup (subB (t, a) N L) t + N) := by
      rw [e1, if_pos rfl, Int.sub_add_cancel]; exact hI t
    rw [moveL, h, if_pos rfl, sup_addB g2.srt hk2 hN hin, e1]
    by_cases e : t = s
    · simp [e]
    · simp [e]
  · rw [moveL, if_neg h]
end Go.Proofs.YtncnilplmklccaaGreat

/- The document's table of balances: 288 limbs in a box; boxes of limbs of a call's own, listed (gen-tab13.py). -/
namespace Go.Proofs.YtncnilplmklccaaGreat
set_option linter.unusedSimpArgs false
set_option linter.unusedVariables false
open Go.RowKit Go.Lib
attribute [local go_sem] setCell_drewN alloc_drewN

/-- So many limbs, as a program holds them. -/
def rowU (n : Nat) (f : Nat → Int) : List Value := (List.range n).map fun j => .int .u64 (f j)
theorem rowU_length (n : Nat) (f : Nat → Int) : (rowU n f).length = n := by simp [rowU]
theorem rowU_get {n : Nat} {f : Nat → Int} {j : Nat} (h : j < n) : (rowU n f)[j]? = some (.int .u64 (f j)) := by
  simp [rowU, h]
theorem rowU_congr {n : Nat} {f g : Nat → Int} (h : ∀ j, j < n → f j = g j) : rowU n f = rowU n g := by
  unfold rowU
  apply List.map_congr_left
  intro j hj
  rw [h j (List.mem_range.1 hj)]
theorem rowU_one (n : Nat) (f : Nat → Int) : ∀ v ∈ rowU n f, v.oneCell' = true := by
  intro v hv
  obtain ⟨j, _, rfl⟩ := List.mem_map.1 hv
  rfl
/-- Block g of w holds n limbs, and may be written. -/
structure URow (w : World) (g n : Nat) (f : Nat → Int) : Prop where
  lt : g < w.heap.size
  cell : ∀ j, j < n → w.cell? ⟨g, j, none⟩ = some (.int .u64 (f j))
  fr : ∀ o, w.frozen? ⟨g, o, none⟩ = false
theorem URow.of {w w' : World} {g n : Nat} {f : Nat → Int} (h : URow w g n f) (hs : w.heap.size ≤ w'.heap.size) (hb : w'.heap[g]? = w.heap[g]?) : URow w' g n f :=
  ⟨Nat.lt_of_lt_of_le h.lt hs, fun j hj => (World.cell?_of_block (w := w) (a := ⟨g, j, none⟩) hb).trans (h.cell j hj), fun o => (World.frozen?_of_block (w := w) (a := ⟨g, o, none⟩) hb).trans (h.fr o)⟩
theorem URow.after {w w1 w' : World} {g n : Nat} {f : Nat → Int} (h : URow w g n f) (hb : Below w1.heap.size w1 w') (e : w1.heap = w.heap) : URow w' g n f :=
  h.of (by rw [← e]; exact hb.size) (by rw [hb.block g (by rw [e]; exact h.lt), e])
theorem URow.past {w : World} {g n : Nat} {f : Nat → Int} (h : URow w g n f) (o : Obj) : URow (w.alloc o) g n f := h.of (by simp) (Below.heap_alloc _ _ _ h.lt)
theorem URow.other {w : World} {g n : Nat} {f : Nat → Int} (h : URow w g n f) {p : Addr} (hp : g ≠ p.block) (v : Value) : URow (w.setCell p v) g n f := h.of (by simp [World.setCell]) (Below.heap_setCell _ _ _ _ hp)
theorem URow.congr {w : World} {g n : Nat} {f f' : Nat → Int} (h : URow w g n f) (e : ∀ j, j < n → f j = f' j) : URow w g n f' :=
  ⟨h.lt, fun j hj => by rw [← e j hj]; exact h.cell j hj, h.fr⟩
theorem URow.new (w : World) (n : Nat) (t : TypeId) {g : Nat} (e : w.heap.size = g) : URow (w.alloc (.cells (Array.replicate n (.int .u64 0)) t)) g n (fun _ => 0) := by
  subst e
  exact ⟨by simp, fun j hj => by rw [World.cell?_alloc_at _ _ _ _ rfl]; simp [hj], fun o => World.frozen?_alloc_at _ _ _ _ rfl⟩
theorem URow.set {w : World} {g n : Nat} {f : Nat → Int} (h : URow w g n f) (m : Nat) (hm : m < n) (v : Int) : URow (w.setCell ⟨g, m, none⟩ (.int .u64 v)) g n (fun j => if j = m then v else f j) := by
  refine ⟨by simpa [World.setCell] using h.lt, fun j hj => ?_, fun o => by simp [go_sem, h.fr]⟩
  have hc := h.cell j hj
  have hm' := h.cell m hm
  by_cases e : j = m
  · subst e; simp [go_sem, hc]
  · simp [go_sem, hc, e]
theorem URow.range {w : World} {g n : Nat} {f : Nat → Int} (h : URow w g n f) : w.rangeAt g 0 (rowU n f) := by
  intro j v hv
  have hj : j < n := by have := (List.getElem?_eq_some_iff.1 hv).1; rwa [rowU_length] at this
  rw [rowU_get hj] at hv
  injection hv with hv
  subst hv
  rw [Nat.zero_add]
  exact h.cell j hj
theorem URow.there {w : World} {g n : Nat} {f : Nat → Int} (h : URow w g n f) : w.there g 0 n := by
  intro j hj
  rw [Nat.zero_add]
  exact ⟨by rw [h.cell j hj]; rfl, h.fr j⟩
theorem URow.stored {w : World} {g n : Nat} {f : Nat → Int} (h : URow w g n f) (f' : Nat → Int) : URow (w.setCells g 0 (rowU n f')) g n f' := by
  have ht := h.there
  have hr := World.rangeAt_setCells_same w g 0 (rowU n f') (by rw [rowU_length]; exact ht)
  refine ⟨?_, fun j hj => ?_, fun o => ?_⟩
  · rw [setCells_size]; exact h.lt
  · have := hr j _ (rowU_get hj)
    rwa [Nat.zero_add] at this
  · rw [World.frozen?_setCells]; exact h.fr o
theorem URow.box (w : World) (n : Nat) (f : Nat → Int) (t : TypeId) {g : Nat} (e : w.heap.size = g) : URow (w.alloc (.cells (rowU n f).toArray t)) g n f := by
  subst e
  exact ⟨by simp, fun j hj => by rw [World.cell?_alloc_at _ _ _ _ rfl]; simp [rowU, hj], fun o => World.frozen?_alloc_at _ _ _ _ rfl⟩
theorem URow.dn {w : World} {g n : Nat} {f : Nat → Int} (h : URow w g n f) (k : Nat) : URow (w.drewN k) g n f := h.of (Nat.le_refl _) rfl
theorem URow.thereA {w : World} {g n : Nat} {f : Nat → Int} (h : URow w g n f) (V : Nat → Int) : w.there g 0 (rowU n V).toArray.size := by rw [List.size_toArray, rowU_length]; exact h.there
theorem rowU_oneA (n : Nat) (f : Nat → Int) : (rowU n f).toArray.all (·.oneCell') = true := all_oneCell_toArray (rowU_one n f)
theorem URow.part {w : World} {g n : Nat} {f : Nat → Int} (h : URow w g n f) (o m : Nat) (F : Nat → Int) (hn : o + m ≤ n) (hf : ∀ j, j < m → f (o + j) = F j) : w.rangeAt g o (rowU m F) := by
  intro j v hv
  have hj : j < m := by have := (List.getElem?_eq_some_iff.1 hv).1; rwa [rowU_length] at this
  rw [rowU_get hj] at hv
  injection hv with hv
  subst hv
  rw [h.cell (o + j) (by omega), hf j hj]
theorem URow.putAt {w : World} {g n : Nat} {f : Nat → Int} (h : URow w g n f) (o m : Nat) (F f' : Nat → Int) (hn : o + m ≤ n) (hf : ∀ j, j < n → f' j = if o ≤ j ∧ j < o + m then F (j - o) else f j) : URow (w.setCells g o (rowU m F)) g n f' := by
  have ht : w.there g o (rowU m F).length := by
    intro j hj
    rw [rowU_length] at hj
    exact ⟨by rw [h.cell (o + j) (by omega)]; rfl, h.fr _⟩
  refine ⟨by rw [setCells_size]; exact h.lt, fun j hj => ?_, fun q => by rw [World.frozen?_setCells]; exact h.fr q⟩
  rw [hf j hj]
  by_cases e : o ≤ j ∧ j < o + m
  · rw [if_pos e]
    have := World.rangeAt_setCells_same w g o (rowU m F) ht (j - o) _ (rowU_get (by omega))
    rwa [show o + (j - o) = j by omega] at this
  · rw [if_neg e]
    have hr : w.rangeAt g j [.int .u64 (f j)] := by
      intro i v hv
      have hi : i = 0 := by have := (List.getElem?_eq_some_iff.1 hv).1; simp at this; exact this
      subst hi
      simp at hv
      subst hv
      exact h.cell j hj
    have := World.rangeAt_setCells_apart hr g o (rowU m F) (by rw [rowU_length]; simp; omega) 0 _ rfl
    simpa using this
theorem URow.thereAt {w : World} {g n : Nat} {f : Nat → Int} (h : URow w g n f) (o m : Nat) (V : Nat → Int) (hn : o + m ≤ n) : w.there g o (rowU m V).toArray.size := by
  rw [List.size_toArray, rowU_length]
  intro j hj
  exact ⟨by rw [h.cell (o + j) (by omega)]; rfl, h.fr _⟩
/-- Boxes of limbs of a call's own: where, how many, which. -/
structure Uxs (w0 w : World) (l : List (Nat × Nat × (Nat → Int))) : Prop where
  row : ∀ x ∈ l, URow w x.1 x.2.1 x.2.2
  lo : ∀ x ∈ l, w0.heap.size ≤ x.1
  apart : ∀ (i j : Nat) x y, l[i]? = some x → l[j]? = some y → x.1 = y.1 → i = j
  below : Below w0.heap.size w0 w
theorem Uxs.none (w : World) : Uxs w w [] := ⟨fun _ h => by simp at h, fun _ h => by simp at h, fun _ _ _ _ h => by simp at h, bMe w⟩
theorem Uxs.after {w0 w w' : World} {l : List (Nat × Nat × (Nat → Int))} (h : Uxs w0 w l) (hb : Below w.heap.size w w') : Uxs w0 w' l :=
  ⟨fun x hx => (h.row x hx).after hb rfl, h.lo, h.apart, bOn h.below hb⟩
theorem Uxs.past {w0 w : World} {l : List (Nat × Nat × (Nat → Int))} (h : Uxs w0 w l) (o : Obj) : Uxs w0 (w.alloc o) l := h.after (bAl (bMe w))
theorem Uxs.new {w0 w : World} {l : List (Nat × Nat × (Nat → Int))} (h : Uxs w0 w l) {o : Obj} {n : Nat} {f : Nat → Int} (hr : URow (w.alloc o) w.heap.size n f) : Uxs w0 (w.alloc o) ((w.heap.size, n, f) :: l) := by
  have h1 := h.past o
  refine ⟨fun x hx => ?_, fun x hx => ?_, fun i j x y hi hj e => ?_, h1.below⟩
  · rcases List.mem_cons.1 hx with rfl | hx
    · exact hr
    · exact h1.row x hx
  · rcases List.mem_cons.1 hx with rfl | hx
    · exact h.below.size
    · exact h.lo x hx
  · cases i with
    | zero =>
      cases j with
      | zero => rfl
      | succ j =>
        simp only [List.getElem?_cons_zero, Option.some.injEq] at hi
        subst hi
        have := (h.row y (List.mem_of_getElem? (by simpa using hj))).lt
        simp only at e
        omega
    | succ i =>
      cases j with
      | zero =>
        simp only [List.getElem?_cons_zero, Option.some.injEq] at hj
        subst hj
        have := (h.row x (List.mem_of_getElem? (by simpa using hi))).lt
        simp only at e
        omega
      | succ j => rw [h.apart i j x y (by simpa using hi) (by simpa using hj) e]
theorem Uxs.add {w0 w : World} {l : List (Nat × Nat × (Nat → Int))} (h : Uxs w0 w l) {o : Obj} {g n : Nat} {f : Nat → Int} (e : w.heap.size = g) (hr : URow (w.alloc o) g n f) : Uxs w0 (w.alloc o) ((g, n, f) :: l) := by
  subst e; exact h.new hr
theorem Uxs.get {w0 w : World} {l : List (Nat × Nat × (Nat → Int))} (h : Uxs w0 w l) (i : Nat) {g n : Nat} {f : Nat → Int} (e : l[i]? = some (g, n, f)) : URow w g n f := h.row _ (List.mem_of_getElem? e)
theorem Uxs.putAt {w0 w : World} {l : List (Nat × Nat × (Nat → Int))} (h : Uxs w0 w l) (i : Nat) {g n : Nat} {f : Nat → Int} (e : l[i]? = some (g, n, f)) (o m : Nat) (F f' : Nat → Int) (hn : o + m ≤ n) (hf : ∀ j, j < n → f' j = if o ≤ j ∧ j < o + m then F (j - o) else f j) :
    Uxs w0 (w.setCells g o (rowU m F)) (l.set i (g, n, f')) := by
  have hi : i < l.length := (List.getElem?_eq_some_iff.1 e).1
  have hlo := h.lo _ (List.mem_of_getElem? e)
  have key : ∀ (j : Nat) x, (l.set i (g, n, f'))[j]? = some x → (j = i ∧ x = (g, n, f')) ∨ (j ≠ i ∧ l[j]? = some x) := by
    intro j x hj
    by_cases ej : i = j
    · subst ej; rw [List.getElem?_set_self hi] at hj; injection hj with hj; exact .inl ⟨rfl, hj.symm⟩
    · rw [List.getElem?_set_ne ej] at hj; exact .inr ⟨fun q => ej q.symm, hj⟩
  refine ⟨fun x hx => ?_, fun x hx => ?_, fun j k x y hj hk q => ?_, setCells_below h.below hlo _ _⟩
  · obtain ⟨j, hj⟩ := List.mem_iff_getElem?.1 hx
    rcases key j x hj with ⟨rfl, rfl⟩ | ⟨hne, hj⟩
    · exact (h.get _ e).putAt o m F f' hn hf
    · refine (h.row x (List.mem_of_getElem? hj)).of (by rw [setCells_size]; exact Nat.le_refl _) (setCells_block _ _ _ _ _ (fun q => hne ?_))
      exact h.apart j i x _ hj e q
  · obtain ⟨j, hj⟩ := List.mem_iff_getElem?.1 hx
    rcases key j x hj with ⟨rfl, rfl⟩ | ⟨hne, hj⟩
    · exact hlo
    · exact h.lo x (List.mem_of_getElem? hj)
  · rcases key j x hj with ⟨rfl, rfl⟩ | ⟨hne, hj2⟩
    · rcases key k y hk with ⟨rfl, rfl⟩ | ⟨hne2, hk2⟩
      · rfl
      · exact h.apart _ k _ y e hk2 q
    · rcases key k y hk with ⟨rfl, rfl⟩ | ⟨hne2, hk2⟩
      · exact h.apart j _ x _ hj2 e q
      · exact h.apart j k x y hj2 hk2 q
theorem Uxs.put {w0 w : World} {l : List (Nat × Nat × (Nat → Int))} (h : Uxs w0 w l) (i : Nat) {g n : Nat} {f : Nat → Int} (e : l[i]? = some (g, n, f)) (F : Nat → Int) : Uxs w0 (w.setCells g 0 (rowU n F)) (l.set i (g, n, F)) :=
  h.putAt i e 0 n F F (by omega) (fun j hj => by rw [if_pos (by omega), Nat.sub_zero])
theorem Uxs.tail {w0 w : World} {x : Nat × Nat × (Nat → Int)} {l : List (Nat × Nat × (Nat → Int))} (h : Uxs w0 w (x :: l)) : Uxs w0 w l :=
  ⟨fun y hy => h.row y (List.mem_cons_of_mem _ hy), fun y hy => h.lo y (List.mem_cons_of_mem _ hy), fun i j y z hi hj e => by
    have := h.apart (i + 1) (j + 1) y z (by simpa using hi) (by simpa using hj) e
    omega, h.below⟩
theorem rowU_zero (n : Nat) : (rowU n (fun _ => 0)).toArray = Array.replicate n (.int .u64 0) := by
  have : rowU n (fun _ => 0) = List.replicate n (.int .u64 0) := by
    apply List.ext_getElem?
    intro i
    by_cases h : i < n
    · rw [rowU_get h]; simp [h]
    · rw [List.getElem?_eq_none (by rw [rowU_length]; omega), List.getElem?_eq_none (by simp; omega)]
  rw [this]; simp
/-- A table: each balance, at 18 times the token and the place. Its limbs, one behind the other. -/
abbrev Tb := Nat → Int
def tl (B : Tb) : Nat → Int := fun j => lm (B (j / 4)) (j % 4)
def Tok (B : Tb) : Prop := ∀ k, In (B k)
theorem tl_at (B : Tb) (k j : Nat) (h : j < 4) : tl B (k * 4 + j) = lm (B k) j := by
  unfold tl; rw [show (k * 4 + j) / 4 = k by omega, show (k * 4 + j) % 4 = j by omega]
/-- One balance for another. -/
def updT (B : Tb) (k : Nat) (v : Int) : Tb := fun i => if i = k then v else B i
theorem tl_upd (B : Tb) (k : Nat) (v : Int) (j : Nat) : tl (updT B k v) j = if k * 4 ≤ j ∧ j < k * 4 + 4 then lm v (j - k * 4) else tl B j := by
  unfold tl updT
  by_cases e : j / 4 = k
  · rw [if_pos e, if_pos (by omega), show j % 4 = j - k * 4 by omega]
  · rw [if_neg e, if_neg (by omega)]
theorem Tok.upd {B : Tb} (h : Tok B) (k : Nat) {v : Int} (hv : In v) : Tok (updT B k v) := fun i => by
  unfold updT; split
  · exact hv
  · exact h i
/-- Nothing but noughts. -/
def tz : Tb := fun _ => 0
theorem tz_ok : Tok tz := fun _ => In.zero
/-- A whole table as a value. -/
abbrev tv (B : Tb) : Value := .agg (rowU 288 (tl B)).toArray
theorem tz_row : (rowU 288 (tl tz)).toArray = Array.replicate 288 (.int .u64 0) := by
  rw [show rowU 288 (tl tz) = rowU 288 (fun _ => 0) from rowU_congr fun j _ => by unfold tl tz; exact lm_zero _]
  exact rowU_zero 288
theorem zero288 (w : World) : (zeroValue 33).run Tryz.prog w = .ok (.agg (Array.replicate 288 (.int .u64 0))) w := by kernel_rfl
theorem zeroTb (w : World) : (zeroValue 33).run Tryz.prog w = .ok (tv tz) w := by show _ = Result.ok (Value.agg (rowU 288 (tl tz)).toArray) w; rw [tz_row]; exact zero288 w
theorem info_tb (f : Nat → Int) : (Tryz.prog.info? 33).map (·.size) = some (rowU 288 f).length := by rw [rowU_length]; kernel_rfl
theorem info_tbA (f : Nat → Int) : (Tryz.prog.info? 33).map (·.size) = some (rowU 288 f).toArray.size := by rw [List.size_toArray, rowU_length]; kernel_rfl
theorem info_lm (f : Nat → Int) : (Tryz.prog.info? 29).map (·.size) = some (rowU 4 f).length := by rw [rowU_length]; kernel_rfl
theorem info_lmA (f : Nat → Int) : (Tryz.prog.info? 29).map (·.size) = some (rowU 4 f).toArray.size := by rw [List.size_toArray, rowU_length]; kernel_rfl
/-- A balance within a table's box. -/
theorem URow.bal {w : World} {g : Nat} {B : Tb} (h : URow w g 288 (tl B)) (k : Nat) (hk : k < 72) : w.rangeAt g (k * 4) (rowU 4 (lm (B k))) := h.part (k * 4) 4 (lm (B k)) (by omega) (fun j hj => tl_at B k j hj)
theorem URow.new4 (w : World) (a b c d : Int) (t : TypeId) {g : Nat} (e : w.heap.size = g) : URow (w.alloc (.cells #[.int .u64 a, .int .u64 b, .int .u64 c, .int .u64 d] t)) g 4 (fun j => if j = 0 then a else if j = 1 then b else if j = 2 then c else d) :=
  URow.box w 4 (fun j => if j = 0 then a else if j = 1 then b else if j = 2 then c else d) t e
theorem big_row (N : Int) : big N = .agg (rowU 4 (lm N)).toArray := rfl
theorem sum_row (N : Int) : (.agg #[.int .u64 (lm N 0), .int .u64 (lm N 1), .int .u64 (lm N 2), .int .u64 (lm N 3)] : Value) = .agg (rowU 4 (lm N)).toArray := rfl
end Go.Proofs.YtncnilplmklccaaGreat
