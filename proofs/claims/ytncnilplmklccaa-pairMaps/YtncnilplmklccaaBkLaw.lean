/- What a law holds of a book: one fact; each act as a law from that fact to that fact; the chapter's example. -/
import Derived.Test.YtncnilplmklccaaBkMint
import Derived.Test.YtncnilplmklccaaBkAll
namespace Go.Proofs.Ytncnilplmklccaa
set_option linter.unusedSimpArgs false
set_option linter.unusedVariables false
open Go.RowKit Go.Lib
attribute [local go_sem] setCell_drewN alloc_drewN eqInt

theorem Bk.of {w w' : World} {S : Nat → Prop} {bj : Jk} {bb n : Nat} {h : Nat → Kvs} (B : Bk w S bj bb n h) (hs : w.heap.size ≤ w'.heap.size) (hS : ∀ k, S k → w'.heap[k]? = w.heap[k]?) (hb : w'.heap[bb]? = w.heap[bb]?) : Bk w' S bj bb n h := by
  obtain ⟨⟨Z, mb, X, ds, hst, e, hh, ho, hc⟩, mem, far, stay, good⟩ := B
  exact ⟨⟨Z, mb, X, ds, hst.of hs hS, e, hh, ho, (World.cell?_of_block (w := w) (a := ⟨bb, 0, none⟩) hb).trans hc⟩, mem, far, stay, good⟩
/-- The book, whose blocks came behind W; none of them is one of Fr. -/
structure BS (W w : World) (bj : Jk) (bb n : Nat) (h : Nat → Kvs) (Fr : Nat → Prop) : Prop where
  ex : ∃ S, Bk w S bj bb n h ∧ (∀ k, S k → W.heap.size ≤ k) ∧ (∀ k, Fr k → ¬ S k)
  low : ∀ k, Fr k → k < w.heap.size
  be : Below W.heap.size W w
theorem BS.good {W w : World} {bj : Jk} {bb n : Nat} {h : Nat → Kvs} {Fr : Nat → Prop} (B : BS W w bj bb n h Fr) : Good (h n) ∧ (h n).length ≤ 72 ∧ ∀ t, In (sup (h n) t) := by
  obtain ⟨S, b, _⟩ := B.ex
  exact b.good n (Nat.le_refl n)
theorem BS.below {W w w' : World} {bj : Jk} {bb n : Nat} {h : Nat → Kvs} {Fr : Nat → Prop} (B : BS W w bj bb n h Fr) (hb : Below w.heap.size w w') : BS W w' bj bb n h Fr := by
  obtain ⟨S, b, s1, s2⟩ := B.ex
  exact ⟨⟨S, b.below hb, s1, s2⟩, fun k hk => Nat.lt_of_lt_of_le (B.low k hk) hb.size, bOn B.be hb⟩
theorem BS.sub {W w : World} {bj : Jk} {bb n : Nat} {h : Nat → Kvs} {Fr Fr' : Nat → Prop} (B : BS W w bj bb n h Fr) (hs : ∀ k, Fr' k → Fr k) : BS W w bj bb n h Fr' := by
  obtain ⟨S, b, s1, s2⟩ := B.ex
  exact ⟨⟨S, b, s1, fun k hk => s2 k (hs k hk)⟩, fun k hk => B.low k (hs k hk), B.be⟩
/-- A box more that is another's. -/
theorem BS.add {W w w' : World} {bj : Jk} {bb n : Nat} {h : Nat → Kvs} {Fr : Nat → Prop} (B : BS W w bj bb n h Fr) (hb : Below w.heap.size w w') {g : Nat} (hg : w.heap.size ≤ g) (hl : g < w'.heap.size) : BS W w' bj bb n h (fun k => Fr k ∨ k = g) := by
  obtain ⟨S, b, s1, s2⟩ := B.ex
  refine ⟨⟨S, b.below hb, s1, fun k hk hs => ?_⟩, fun k hk => ?_, bOn B.be hb⟩
  · rcases hk with hk | rfl
    · exact s2 k hk hs
    · have := b.low k hs; omega
  · rcases hk with hk | rfl
    · exact Nat.lt_of_lt_of_le (B.low k hk) hb.size
    · exact hl
/-- Only another's box turns. -/
theorem BS.turn {W w w' : World} {bj : Jk} {bb n : Nat} {h : Nat → Kvs} {Fr : Nat → Prop} (B : BS W w bj bb n h Fr) {g : Nat} (hg : Fr g) (hne : g ≠ bb) (hs : w.heap.size ≤ w'.heap.size) (hb : ∀ k, k < w.heap.size → k ≠ g → w'.heap[k]? = w.heap[k]?) (hB : Below W.heap.size W w') : BS W w' bj bb n h Fr := by
  obtain ⟨S, b, s1, s2⟩ := B.ex
  exact ⟨⟨S, b.of hs (fun k hk => hb k (b.low k hk) fun e => s2 g hg (e ▸ hk)) (hb bb b.lt hne.symm), s1, s2⟩, fun k hk => Nat.lt_of_lt_of_le (B.low k hk) hs, hB⟩
/-- What an act leaves of others'. -/
def Kp (Fr : Nat → Prop) (w w' : World) : Prop := w.heap.size ≤ w'.heap.size ∧ ∀ k, Fr k → w'.heap[k]? = w.heap[k]?
theorem Kp.cell {Fr : Nat → Prop} {w w' : World} (h : Kp Fr w w') {k o : Nat} (hk : Fr k) : w'.cell? ⟨k, o, none⟩ = w.cell? ⟨k, o, none⟩ := World.cell?_of_block (w := w) (a := ⟨k, o, none⟩) (h.2 k hk)
theorem Kp.frozen {Fr : Nat → Prop} {w w' : World} (h : Kp Fr w w') {k o : Nat} (hk : Fr k) : w'.frozen? ⟨k, o, none⟩ = w.frozen? ⟨k, o, none⟩ := World.frozen?_of_block (w := w) (a := ⟨k, o, none⟩) (h.2 k hk)
theorem Kp.trans {Fr : Nat → Prop} {w w1 w2 : World} (a : Kp Fr w w1) (b : Kp Fr w1 w2) : Kp Fr w w2 := ⟨Nat.le_trans a.1 b.1, fun k hk => (b.2 k hk).trans (a.2 k hk)⟩
theorem Kp.sub {Fr Fr' : Nat → Prop} {w w' : World} (k : Kp Fr' w w') (hs : ∀ i, Fr i → Fr' i) : Kp Fr w w' := ⟨k.1, fun i hi => k.2 i (hs i hi)⟩
theorem BS.kp {W w w' : World} {bj : Jk} {bb n : Nat} {h : Nat → Kvs} {Fr : Nat → Prop} (B : BS W w bj bb n h Fr) (hb : Below w.heap.size w w') : Kp Fr w w' := ⟨hb.size, fun k hk => hb.block k (B.low k hk)⟩
theorem BS.act {W w : World} {bj : Jk} {bb n : Nat} {h : Nat → Kvs} {Fr : Nat → Prop} (B : BS W w bj bb n h Fr) : ∃ S, Bk w S bj bb n h ∧ ∀ {w' S' n' h'}, Bk w' S' bj bb n' h' → Mv S S' w w' → BS W w' bj bb n' h' Fr ∧ Kp Fr w w' := by
  obtain ⟨S, b, s1, s2⟩ := B.ex
  refine ⟨S, b, fun {w' S' n' h'} b' m => ⟨⟨⟨S', b', fun k hk => ?_, fun k hk hs => ?_⟩, fun k hk => Nat.lt_of_lt_of_le (B.low k hk) m.size, m.below B.be s1⟩, m.size, fun k hk => m.block k (B.low k hk) (s2 k hk)⟩⟩
  · rcases m.own k hk with e | e
    · exact s1 k e
    · exact Nat.le_trans B.be.size e
  · rcases m.own k hs with e | e
    · exact s2 k hk e
    · have := B.low k hk; omega
/-- The acts' answers and what they make. -/
def mintE (L : Kvs) (t p N : Int) : Int := if chk t [p] N ≠ 0 then chk t [p] N else @ite Int (In (sup L t + N)) (askIn _) 0 2
def mintL (L : Kvs) (t p N : Int) : Kvs := if mintE L t p N = 0 then addB (t, p) N L else L
def burnE (L : Kvs) (t p N : Int) : Int := if chk t [p] N ≠ 0 then chk t [p] N else if N ≤ bal L (t, p) then 0 else 8
def burnL (L : Kvs) (t p N : Int) : Kvs := if burnE L t p N = 0 then subB (t, p) N L else L
def moveE (L : Kvs) (t a b N : Int) : Int := if chk t [a, b] N ≠ 0 then chk t [a, b] N else if N ≤ bal L (t, a) then 0 else 8
def moveL (L : Kvs) (t a b N : Int) : Kvs := if moveE L t a b N = 0 then addB (t, b) N (subB (t, a) N L) else L
theorem mint_l {W w : World} {bj : Jk} {bb n : Nat} {h : Nat → Kvs} {Fr : Nat → Prop} (B : BS W w bj bb n h Fr) {t p N : Int} (ht : 0 ≤ t ∧ t < 256) (hp : 0 ≤ p ∧ p < 256) (hN : In N) (hn : n ≤ 9000) :
    Calls Try.prog 20 #[.pointer (some ⟨bb, 0, none⟩), .int .u8 t, .int .u8 p, big N] w fun e w' => e = .returned (.int .i64 (mintE (h n) t p N)) ∧ ∃ n' h', BS W w' bj bb n' h' Fr ∧ Kp Fr w w' ∧ Nx n h n' h' (mintL (h n) t p N) 2 := by
  obtain ⟨S, b, hact⟩ := B.act
  by_cases hc : chk t [p] N = 0
  · by_cases hs : In (sup (h n) t + N)
    · have hE : mintE (h n) t p N = 0 := by unfold mintE; rw [if_neg (by simp [hc]), if_pos hs]
      rw [mintL, hE, if_pos rfl]
      refine (mint_yes b ht hp hN hn hc hs).mono ?_
      rintro e w' ⟨rfl, S', n', h', x1, x2, x3⟩
      obtain ⟨y1, y2⟩ := hact x1 x2
      exact ⟨rfl, n', h', y1, y2, x3.le, by have := x3.up; omega, x3.was, x3.now⟩
    · have hE : mintE (h n) t p N = 2 := by unfold mintE; rw [if_neg (by simp [hc]), if_neg hs]
      rw [mintL, hE, if_neg (by omega)]
      refine (mint_over b ht hp hN hn hc hs).mono ?_
      rintro e w' ⟨rfl, hb⟩
      exact ⟨rfl, n, h, B.below hb, B.kp hb, Nx.refl n h 2⟩
  · have hE : mintE (h n) t p N = chk t [p] N := by unfold mintE; rw [if_pos hc]
    rw [mintL, hE, if_neg hc]
    refine (mint_no b ht hp hN hn hc).mono ?_
    rintro e w' ⟨rfl, hb⟩
    exact ⟨rfl, n, h, B.below hb, B.kp hb, Nx.refl n h 2⟩
theorem burn_l {W w : World} {bj : Jk} {bb n : Nat} {h : Nat → Kvs} {Fr : Nat → Prop} (B : BS W w bj bb n h Fr) {t p N : Int} (ht : 0 ≤ t ∧ t < 256) (hp : 0 ≤ p ∧ p < 256) (hN : In N) (hn : n ≤ 9000) :
    Calls Try.prog 49 #[.pointer (some ⟨bb, 0, none⟩), .int .u8 t, .int .u8 p, big N] w fun e w' => e = .returned (.int .i64 (burnE (h n) t p N)) ∧ ∃ n' h', BS W w' bj bb n' h' Fr ∧ Kp Fr w w' ∧ Nx n h n' h' (burnL (h n) t p N) 2 := by
  obtain ⟨S, b, hact⟩ := B.act
  by_cases hc : chk t [p] N = 0
  · by_cases hs : N ≤ bal (h n) (t, p)
    · have hE : burnE (h n) t p N = 0 := by unfold burnE; rw [if_neg (by simp [hc]), if_pos hs]
      rw [burnL, hE, if_pos rfl]
      refine (burn_yes b ht hp hN hn hc hs).mono ?_
      rintro e w' ⟨rfl, S', n', h', x1, x2, x3⟩
      obtain ⟨y1, y2⟩ := hact x1 x2
      exact ⟨rfl, n', h', y1, y2, x3.le, by have := x3.up; omega, x3.was, x3.now⟩
    · have hE : burnE (h n) t p N = 8 := by unfold burnE; rw [if_neg (by simp [hc]), if_neg hs]
      rw [burnL, hE, if_neg (by omega)]
      refine (burn_few b ht hp hN hn hc (by omega)).mono ?_
      rintro e w' ⟨rfl, hb⟩
      exact ⟨rfl, n, h, B.below hb, B.kp hb, Nx.refl n h 2⟩
  · have hE : burnE (h n) t p N = chk t [p] N := by unfold burnE; rw [if_pos hc]
    rw [burnL, hE, if_neg hc]
    refine (burn_no b ht hp hN hn hc).mono ?_
    rintro e w' ⟨rfl, hb⟩
    exact ⟨rfl, n, h, B.below hb, B.kp hb, Nx.refl n h 2⟩
theorem move_l {W w : World} {bj : Jk} {bb n : Nat} {h : Nat → Kvs} {Fr : Nat → Prop} (B : BS W w bj bb n h Fr) {t p q N : Int} (ht : 0 ≤ t ∧ t < 256) (hp : 0 ≤ p ∧ p < 256) (hq : 0 ≤ q ∧ q < 256) (hN : In N) (hn : n ≤ 9000) :
    Calls Try.prog 50 #[.pointer (some ⟨bb, 0, none⟩), .int .u8 t, .int .u8 p, .int .u8 q, big N] w fun e w' => e = .returned (.int .i64 (moveE (h n) t p q N)) ∧ ∃ n' h', BS W w' bj bb n' h' Fr ∧ Kp Fr w w' ∧ Nx n h n' h' (moveL (h n) t p q N) 2 := by
  obtain ⟨S, b, hact⟩ := B.act
  by_cases hc : chk t [p, q] N = 0
  · by_cases hs : N ≤ bal (h n) (t, p)
    · have hE : moveE (h n) t p q N = 0 := by unfold moveE; rw [if_neg (by simp [hc]), if_pos hs]
      rw [moveL, hE, if_pos rfl]
      refine (move_yes b ht hp hq hN hn hc hs).mono ?_
      rintro e w' ⟨rfl, S', n', h', x1, x2, x3⟩
      obtain ⟨y1, y2⟩ := hact x1 x2
      exact ⟨rfl, n', h', y1, y2, x3⟩
    · have hE : moveE (h n) t p q N = 8 := by unfold moveE; rw [if_neg (by simp [hc]), if_neg hs]
      rw [moveL, hE, if_neg (by omega)]
      refine (move_few b ht hp hq hN hn hc (by omega)).mono ?_
      rintro e w' ⟨rfl, hb⟩
      exact ⟨rfl, n, h, B.below hb, B.kp hb, Nx.refl n h 2⟩
  · have hE : moveE (h n) t p q N = chk t [p, q] N := by unfold moveE; rw [if_pos hc]
    rw [moveL, hE, if_neg hc]
    refine (move_no b ht hp hq hN hn hc).mono ?_
    rintro e w' ⟨rfl, hb⟩
    exact ⟨rfl, n, h, B.below hb, B.kp hb, Nx.refl n h 2⟩
theorem balance_l {W w : World} {bj : Jk} {bb n : Nat} {h : Nat → Kvs} {Fr : Nat → Prop} (B : BS W w bj bb n h Fr) {t p : Int} (ht : 0 ≤ t ∧ t < 256) (hp : 0 ≤ p ∧ p < 256) :
    Calls Try.prog 23 #[.pointer (some ⟨bb, 0, none⟩), .int .u8 t, .int .u8 p] w fun e w' => e = .returned (big (bal (h n) (t, p))) ∧ Below w.heap.size w w' := by
  obtain ⟨S, b, _⟩ := B.ex
  exact balance_any (k := (t, p)) b ⟨ht, hp⟩
theorem supply_l {W w : World} {bj : Jk} {bb n : Nat} {h : Nat → Kvs} {Fr : Nat → Prop} (B : BS W w bj bb n h Fr) {t : Int} (ht : 0 ≤ t ∧ t < 256) :
    Calls Try.prog 44 #[.pointer (some ⟨bb, 0, none⟩), .int .u8 t] w fun e w' => e = .returned (big (sup (h n) t)) ∧ Below w.heap.size w w' := by
  obtain ⟨S, b, _⟩ := B.ex
  exact supply_any b ht
theorem sup_nil (t : Int) : sup [] t = 0 := by simp [sup, sums, bal, getL]
theorem bal_nil (k : Kk) : bal [] k = 0 := by simp [bal, getL]
end Go.Proofs.Ytncnilplmklccaa
