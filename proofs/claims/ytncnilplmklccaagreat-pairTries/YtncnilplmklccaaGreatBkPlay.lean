/- What a law holds of a book: one fact; each act as a law from that fact to that fact; the chapter's example. Acts in memory (sponsionlaw13.Act). An argument that is a row of four limbs, opened and shut. Arguments that are slices of acts or of numbers, opened. A book's journal at the law's level: Mark, Back, Bytes. -/
import Derived.Test.YtncnilplmklccaaGreatBkMint
import Derived.Test.YtncnilplmklccaaGreatBkAll
import Derived.Test.YtncnilplmklccaaGreatRows
import Derived.WalkKit
import Derived.ProofKit
import Derived.OpenShut
import Derived.Laws.IdiomArrays
import Derived.Deep.Slices
import Derived.Deep.MidRow
import Derived.Test.YtncnilplmklccaaGreatBkBack
/- What a law holds of a book: one fact; each act as a law from that fact to that fact; the chapter's example. -/
namespace Go.Proofs.YtncnilplmklccaaGreat
set_option linter.unusedSimpArgs false
set_option linter.unusedVariables false
open Go.RowKit Go.Lib
attribute [local go_sem] setCell_drewN alloc_drewN eqInt

theorem Bk.of {w w' : World} {S : Nat → Prop} {bj : Jk} {bb n : Nat} {h : Nat → Kvs} (B : Bk w S bj bb n h) (hs : w.heap.size ≤ w'.heap.size) (hS : ∀ k, S k → w'.heap[k]? = w.heap[k]?) (hb : w'.heap[bb]? = w.heap[bb]?) : Bk w' S bj bb n h := by
  obtain ⟨⟨Z, mb, X, ds, hst, e, hh, ho, hc⟩, mem, far, stay, good⟩ := B
  exact ⟨⟨Z, mb, X, ds, hst.of hs hS, e, hh, ho, (World.cell?_of_block (w := w) (a := ⟨bb, 0, none⟩) hb).trans hc⟩, mem, far, stay, good⟩
/-- The book, whose blocks came behind W; none of them is one of Fr. -/
structure BS (W w : World) (bj : Jk) (bb n : Nat) (h : Nat → Kvs) (Fr : Nat → Prop) : Prop where
  ex : ∃ S, Bk w S bj bb n h ∧ (∀ k, S k → W.heap.size ≤ k) ∧ (∀ k, Fr k → ¬ S k)
  low : ∀ k, Fr k → k < w.heap.size
  be : Below W.heap.size W w
theorem BS.good {W w : World} {bj : Jk} {bb n : Nat} {h : Nat → Kvs} {Fr : Nat → Prop} (B : BS W w bj bb n h Fr) : Good (h n) ∧ (h n).length ≤ 72 ∧ ∀ t, In (sup (h n) t) := by
  obtain ⟨S, b, _⟩ := B.ex
  exact b.good n (Nat.le_refl n)
theorem BS.below {W w w' : World} {bj : Jk} {bb n : Nat} {h : Nat → Kvs} {Fr : Nat → Prop} (B : BS W w bj bb n h Fr) (hb : Below w.heap.size w w') : BS W w' bj bb n h Fr := by
  obtain ⟨S, b, s1, s2⟩ := B.ex
  exact ⟨⟨S, b.below hb, s1, s2⟩, fun k hk => Nat.lt_of_lt_of_le (B.low k hk) hb.size, bOn B.be hb⟩
theorem BS.sub {W w : World} {bj : Jk} {bb n : Nat} {h : Nat → Kvs} {Fr Fr' : Nat → Prop} (B : BS W w bj bb n h Fr) (hs : ∀ k, Fr' k → Fr k) : BS W w bj bb n h Fr' := by
  obtain ⟨S, b, s1, s2⟩ := B.ex
  exact ⟨⟨S, b, s1, fun k hk => s2 k (hs k hk)⟩, fun k hk => B.low k (hs k hk), B.be⟩
/-- A box more that is another's. -/
theorem BS.add {W w w' : World} {bj : Jk} {bb n : Nat} {h : Nat → Kvs} {Fr : Nat → Prop} (B : BS W w bj bb n h Fr) (hb : Below w.heap.size w w') {g : Nat} (hg : w.heap.size ≤ g) (hl : g < w'.heap.size) : BS W w' bj bb n h (fun k => Fr k ∨ k = g) := by
  obtain ⟨S, b, s1, s2⟩ := B.ex
  refine ⟨⟨S, b.below hb, s1, fun k hk hs => ?_⟩, fun k hk => ?_, bOn B.be hb⟩
  · rcases hk with hk | rfl
    · exact s2 k hk hs
    · have := b.low k hs; omega
  · rcases hk with hk | rfl
    · exact Nat.lt_of_lt_of_le (B.low k hk) hb.size
    · exact hl
/-- Only another's box turns. -/
theorem BS.turn {W w w' : World} {bj : Jk} {bb n : Nat} {h : Nat → Kvs} {Fr : Nat → Prop} (B : BS W w bj bb n h Fr) {g : Nat} (hg : Fr g) (hne : g ≠ bb) (hs : w.heap.size ≤ w'.heap.size) (hb : ∀ k, k < w.heap.size → k ≠ g → w'.heap[k]? = w.heap[k]?) (hB : Below W.heap.size W w') : BS W w' bj bb n h Fr := by
  obtain ⟨S, b, s1, s2⟩ := B.ex
  exact ⟨⟨S, b.of hs (fun k hk => hb k (b.low k hk) fun e => s2 g hg (e ▸ hk)) (hb bb b.lt hne.symm), s1, s2⟩, fun k hk => Nat.lt_of_lt_of_le (B.low k hk) hs, hB⟩
/-- What an act leaves of others'. -/
def Kp (Fr : Nat → Prop) (w w' : World) : Prop := w.heap.size ≤ w'.heap.size ∧ ∀ k, Fr k → w'.heap[k]? = w.heap[k]?
theorem Kp.cell {Fr : Nat → Prop} {w w' : World} (h : Kp Fr w w') {k o : Nat} (hk : Fr k) : w'.cell? ⟨k, o, none⟩ = w.cell? ⟨k, o, none⟩ := World.cell?_of_block (w := w) (a := ⟨k, o, none⟩) (h.2 k hk)
theorem Kp.frozen {Fr : Nat → Prop} {w w' : World} (h : Kp Fr w w') {k o : Nat} (hk : Fr k) : w'.frozen? ⟨k, o, none⟩ = w.frozen? ⟨k, o, none⟩ := World.frozen?_of_block (w := w) (a := ⟨k, o, none⟩) (h.2 k hk)
theorem Kp.trans {Fr : Nat → Prop} {w w1 w2 : World} (a : Kp Fr w w1) (b : Kp Fr w1 w2) : Kp Fr w w2 := ⟨Nat.le_trans a.1 b.1, fun k hk => (b.2 k hk).trans (a.2 k hk)⟩
theorem Kp.sub {Fr Fr' : Nat → Prop} {w w' : World} (k : Kp Fr' w w') (hs : ∀ i, Fr i → Fr' i) : Kp Fr w w' := ⟨k.1, fun i hi => k.2 i (hs i hi)⟩
theorem BS.kp {W w w' : World} {bj : Jk} {bb n : Nat} {h : Nat → Kvs} {Fr : Nat → Prop} (B : BS W w bj bb n h Fr) (hb : Below w.heap.size w w') : Kp Fr w w' := ⟨hb.size, fun k hk => hb.block k (B.low k hk)⟩
theorem BS.act {W w : World} {bj : Jk} {bb n : Nat} {h : Nat → Kvs} {Fr : Nat → Prop} (B : BS W w bj bb n h Fr) : ∃ S, Bk w S bj bb n h ∧ ∀ {w' S' n' h'}, Bk w' S' bj bb n' h' → Mv S S' w w' → BS W w' bj bb n' h' Fr ∧ Kp Fr w w' := by
  obtain ⟨S, b, s1, s2⟩ := B.ex
  refine ⟨S, b, fun {w' S' n' h'} b' m => ⟨⟨⟨S', b', fun k hk => ?_, fun k hk hs => ?_⟩, fun k hk => Nat.lt_of_lt_of_le (B.low k hk) m.size, m.below B.be s1⟩, m.size, fun k hk => m.block k (B.low k hk) (s2 k hk)⟩⟩
  · rcases m.own k hk with e | e
    · exact s1 k e
    · exact Nat.le_trans B.be.size e
  · rcases m.own k hs with e | e
    · exact s2 k hk e
    · have := B.low k hk; omega
/-- The acts' answers and what they make. -/
def mintE (L : Kvs) (t p N : Int) : Int := if chk t [p] N ≠ 0 then chk t [p] N else @ite Int (In (sup L t + N)) (askIn _) 0 2
def mintL (L : Kvs) (t p N : Int) : Kvs := if mintE L t p N = 0 then addB (t, p) N L else L
def burnE (L : Kvs) (t p N : Int) : Int := if chk t [p] N ≠ 0 then chk t [p] N else if N ≤ bal L (t, p) then 0 else 8
def burnL (L : Kvs) (t p N : Int) : Kvs := if burnE L t p N = 0 then subB (t, p) N L else L
def moveE (L : Kvs) (t a b N : Int) : Int := if chk t [a, b] N ≠ 0 then chk t [a, b] N else if N ≤ bal L (t, a) then 0 else 8
def moveL (L : Kvs) (t a b N : Int) : Kvs := if moveE L t a b N = 0 then addB (t, b) N (subB (t, a) N L) else L
theorem mint_l {W w : World} {bj : Jk} {bb n : Nat} {h : Nat → Kvs} {Fr : Nat → Prop} (B : BS W w bj bb n h Fr) {t p N : Int} (ht : 0 ≤ t ∧ t < 256) (hp : 0 ≤ p ∧ p < 256) (hN : In N) (hn : n ≤ 9000) :
    Calls Tryz.prog 22 #[.pointer (some ⟨bb, 0, none⟩), .int .u8 t, .int .u8 p, big N] w fun e w' => e = .returned (.int .i64 (mintE (h n) t p N)) ∧ ∃ n' h', BS W w' bj bb n' h' Fr ∧ Kp Fr w w' ∧ Nx n h n' h' (mintL (h n) t p N) 2 := by
  obtain ⟨S, b, hact⟩ := B.act
  by_cases hc : chk t [p] N = 0
  · by_cases hs : In (sup (h n) t + N)
    · have hE : mintE (h n) t p N = 0 := by unfold mintE; rw [if_neg (by simp [hc]), if_pos hs]
      rw [mintL, hE, if_pos rfl]
      refine (mint_yes b ht hp hN hn hc hs).mono ?_
      rintro e w' ⟨rfl, S', n', h', x1, x2, x3⟩
      obtain ⟨y1, y2⟩ := hact x1 x2
      exact ⟨rfl, n', h', y1, y2, x3.le, by have := x3.up; omega, x3.was, x3.now⟩
    · have hE : mintE (h n) t p N = 2 := by unfold mintE; rw [if_neg (by simp [hc]), if_neg hs]
      rw [mintL, hE, if_neg (by omega)]
      refine (mint_over b ht hp hN hn hc hs).mono ?_
      rintro e w' ⟨rfl, hb⟩
      exact ⟨rfl, n, h, B.below hb, B.kp hb, Nx.refl n h 2⟩
  · have hE : mintE (h n) t p N = chk t [p] N := by unfold mintE; rw [if_pos hc]
    rw [mintL, hE, if_neg hc]
    refine (mint_no b ht hp hN hn hc).mono ?_
    rintro e w' ⟨rfl, hb⟩
    exact ⟨rfl, n, h, B.below hb, B.kp hb, Nx.refl n h 2⟩
theorem burn_l {W w : World} {bj : Jk} {bb n : Nat} {h : Nat → Kvs} {Fr : Nat → Prop} (B : BS W w bj bb n h Fr) {t p N : Int} (ht : 0 ≤ t ∧ t < 256) (hp : 0 ≤ p ∧ p < 256) (hN : In N) (hn : n ≤ 9000) :
    Calls Tryz.prog 23 #[.pointer (some ⟨bb, 0, none⟩), .int .u8 t, .int .u8 p, big N] w fun e w' => e = .returned (.int .i64 (burnE (h n) t p N)) ∧ ∃ n' h', BS W w' bj bb n' h' Fr ∧ Kp Fr w w' ∧ Nx n h n' h' (burnL (h n) t p N) 2 := by
  obtain ⟨S, b, hact⟩ := B.act
  by_cases hc : chk t [p] N = 0
  · by_cases hs : N ≤ bal (h n) (t, p)
    · have hE : burnE (h n) t p N = 0 := by unfold burnE; rw [if_neg (by simp [hc]), if_pos hs]
      rw [burnL, hE, if_pos rfl]
      refine (burn_yes b ht hp hN hn hc hs).mono ?_
      rintro e w' ⟨rfl, S', n', h', x1, x2, x3⟩
      obtain ⟨y1, y2⟩ := hact x1 x2
      exact ⟨rfl, n', h', y1, y2, x3.le, by have := x3.up; omega, x3.was, x3.now⟩
    · have hE : burnE (h n) t p N = 8 := by unfold burnE; rw [if_neg (by simp [hc]), if_neg hs]
      rw [burnL, hE, if_neg (by omega)]
      refine (burn_few b ht hp hN hn hc (by omega)).mono ?_
      rintro e w' ⟨rfl, hb⟩
      exact ⟨rfl, n, h, B.below hb, B.kp hb, Nx.refl n h 2⟩
  · have hE : burnE (h n) t p N = chk t [p] N := by unfold burnE; rw [if_pos hc]
    rw [burnL, hE, if_neg hc]
    refine (burn_no b ht hp hN hn hc).mono ?_
    rintro e w' ⟨rfl, hb⟩
    exact ⟨rfl, n, h, B.below hb, B.kp hb, Nx.refl n h 2⟩
theorem move_l {W w : World} {bj : Jk} {bb n : Nat} {h : Nat → Kvs} {Fr : Nat → Prop} (B : BS W w bj bb n h Fr) {t p q N : Int} (ht : 0 ≤ t ∧ t < 256) (hp : 0 ≤ p ∧ p < 256) (hq : 0 ≤ q ∧ q < 256) (hN : In N) (hn : n ≤ 9000) :
    Calls Tryz.prog 24 #[.pointer (some ⟨bb, 0, none⟩), .int .u8 t, .int .u8 p, .int .u8 q, big N] w fun e w' => e = .returned (.int .i64 (moveE (h n) t p q N)) ∧ ∃ n' h', BS W w' bj bb n' h' Fr ∧ Kp Fr w w' ∧ Nx n h n' h' (moveL (h n) t p q N) 2 := by
  obtain ⟨S, b, hact⟩ := B.act
  by_cases hc : chk t [p, q] N = 0
  · by_cases hs : N ≤ bal (h n) (t, p)
    · have hE : moveE (h n) t p q N = 0 := by unfold moveE; rw [if_neg (by simp [hc]), if_pos hs]
      rw [moveL, hE, if_pos rfl]
      refine (move_yes b ht hp hq hN hn hc hs).mono ?_
      rintro e w' ⟨rfl, S', n', h', x1, x2, x3⟩
      obtain ⟨y1, y2⟩ := hact x1 x2
      exact ⟨rfl, n', h', y1, y2, x3⟩
    · have hE : moveE (h n) t p q N = 8 := by unfold moveE; rw [if_neg (by simp [hc]), if_neg hs]
      rw [moveL, hE, if_neg (by omega)]
      refine (move_few b ht hp hq hN hn hc (by omega)).mono ?_
      rintro e w' ⟨rfl, hb⟩
      exact ⟨rfl, n, h, B.below hb, B.kp hb, Nx.refl n h 2⟩
  · have hE : moveE (h n) t p q N = chk t [p, q] N := by unfold moveE; rw [if_pos hc]
    rw [moveL, hE, if_neg hc]
    refine (move_no b ht hp hq hN hn hc).mono ?_
    rintro e w' ⟨rfl, hb⟩
    exact ⟨rfl, n, h, B.below hb, B.kp hb, Nx.refl n h 2⟩
theorem balance_l {W w : World} {bj : Jk} {bb n : Nat} {h : Nat → Kvs} {Fr : Nat → Prop} (B : BS W w bj bb n h Fr) {t p : Int} (ht : 0 ≤ t ∧ t < 256) (hp : 0 ≤ p ∧ p < 256) :
    Calls Tryz.prog 36 #[.pointer (some ⟨bb, 0, none⟩), .int .u8 t, .int .u8 p] w fun e w' => e = .returned (big (bal (h n) (t, p))) ∧ Below w.heap.size w w' := by
  obtain ⟨S, b, _⟩ := B.ex
  exact balance_any (k := (t, p)) b ⟨ht, hp⟩
theorem supply_l {W w : World} {bj : Jk} {bb n : Nat} {h : Nat → Kvs} {Fr : Nat → Prop} (B : BS W w bj bb n h Fr) {t : Int} (ht : 0 ≤ t ∧ t < 256) :
    Calls Tryz.prog 39 #[.pointer (some ⟨bb, 0, none⟩), .int .u8 t] w fun e w' => e = .returned (big (sup (h n) t)) ∧ Below w.heap.size w w' := by
  obtain ⟨S, b, _⟩ := B.ex
  exact supply_any b ht
theorem sup_nil (t : Int) : sup [] t = 0 := by simp [sup, sums, bal, getL]
theorem bal_nil (k : Kk) : bal [] k = 0 := by simp [bal, getL]
end Go.Proofs.YtncnilplmklccaaGreat

/- Acts in memory (sponsionlaw13.Act). -/
namespace Go.Proofs.YtncnilplmklccaaGreat
set_option linter.unusedSimpArgs false
set_option linter.unusedVariables false
open Go.RowKit Go.Lib

/-- An act. -/
structure Ac where
  k : Int
  t : Int
  f : Int
  o : Int
  n : Int
structure Ac.Ok (x : Ac) : Prop where
  k : 0 ≤ x.k ∧ x.k < 256
  t : 0 ≤ x.t ∧ x.t < 256
  f : 0 ≤ x.f ∧ x.f < 256
  o : 0 ≤ x.o ∧ x.o < 256
  n : In x.n
/-- An act's cells. -/
def acV (x : Ac) : List Value := [.int .u8 x.k, .int .u8 x.t, .int .u8 x.f, .int .u8 x.o, .int .u64 (lm x.n 0), .int .u64 (lm x.n 1), .int .u64 (lm x.n 2), .int .u64 (lm x.n 3)]
/-- Acts, at an address. -/
def Acs (w : World) (ao : Option Addr) (xs : List Ac) : Prop :=
  xs = [] ∨ ∃ b off, ao = some ⟨b, off, none⟩ ∧ b < w.heap.size ∧ ∀ (j : Nat) x, xs[j]? = some x → w.cell? ⟨b, off + j * 8, none⟩ = some (.int .u8 x.k) ∧ w.cell? ⟨b, off + j * 8 + 1, none⟩ = some (.int .u8 x.t) ∧ w.cell? ⟨b, off + j * 8 + 2, none⟩ = some (.int .u8 x.f) ∧ w.cell? ⟨b, off + j * 8 + 3, none⟩ = some (.int .u8 x.o) ∧ w.cell? ⟨b, off + j * 8 + 4, none⟩ = some (.int .u64 (lm x.n 0)) ∧ w.cell? ⟨b, off + j * 8 + 5, none⟩ = some (.int .u64 (lm x.n 1)) ∧ w.cell? ⟨b, off + j * 8 + 6, none⟩ = some (.int .u64 (lm x.n 2)) ∧ w.cell? ⟨b, off + j * 8 + 7, none⟩ = some (.int .u64 (lm x.n 3))
theorem Acs.get {w : World} {ao : Option Addr} {xs : List Ac} (h : Acs w ao xs) {j : Nat} {x : Ac} (hx : xs[j]? = some x) :
    ∃ b off, ao = some ⟨b, off, none⟩ ∧ b < w.heap.size ∧ w.cell? ⟨b, off + j * 8, none⟩ = some (.int .u8 x.k) ∧ w.cell? ⟨b, off + j * 8 + 1, none⟩ = some (.int .u8 x.t) ∧ w.cell? ⟨b, off + j * 8 + 2, none⟩ = some (.int .u8 x.f) ∧ w.cell? ⟨b, off + j * 8 + 3, none⟩ = some (.int .u8 x.o) ∧ w.cell? ⟨b, off + j * 8 + 4, none⟩ = some (.int .u64 (lm x.n 0)) ∧ w.cell? ⟨b, off + j * 8 + 5, none⟩ = some (.int .u64 (lm x.n 1)) ∧ w.cell? ⟨b, off + j * 8 + 6, none⟩ = some (.int .u64 (lm x.n 2)) ∧ w.cell? ⟨b, off + j * 8 + 7, none⟩ = some (.int .u64 (lm x.n 3)) := by
  rcases h with rfl | ⟨b, off, e, hl, hc⟩
  · simp at hx
  · exact ⟨b, off, e, hl, hc j x hx⟩
/-- The same, where only what came behind it turned. -/
theorem Acs.got {W w : World} {ao : Option Addr} {xs : List Ac} (h : Acs W ao xs) (hb : Below W.heap.size W w) {j : Nat} {x : Ac} (hx : xs[j]? = some x) :
    ∃ b off, ao = some ⟨b, off, none⟩ ∧ w.cell? ⟨b, off + j * 8, none⟩ = some (.int .u8 x.k) ∧ w.cell? ⟨b, off + j * 8 + 1, none⟩ = some (.int .u8 x.t) ∧ w.cell? ⟨b, off + j * 8 + 2, none⟩ = some (.int .u8 x.f) ∧ w.cell? ⟨b, off + j * 8 + 3, none⟩ = some (.int .u8 x.o) ∧ w.cell? ⟨b, off + j * 8 + 4, none⟩ = some (.int .u64 (lm x.n 0)) ∧ w.cell? ⟨b, off + j * 8 + 5, none⟩ = some (.int .u64 (lm x.n 1)) ∧ w.cell? ⟨b, off + j * 8 + 6, none⟩ = some (.int .u64 (lm x.n 2)) ∧ w.cell? ⟨b, off + j * 8 + 7, none⟩ = some (.int .u64 (lm x.n 3)) := by
  obtain ⟨b, off, e, hl, hc⟩ := h.get hx
  have q := (bcell hb).1
  refine ⟨b, off, e, ?_⟩
  rw [q _ _ hl, q _ _ hl, q _ _ hl, q _ _ hl, q _ _ hl, q _ _ hl, q _ _ hl, q _ _ hl]
  exact hc
end Go.Proofs.YtncnilplmklccaaGreat

/- An argument that is a row of four limbs, opened and shut. -/
namespace Go.Proofs.YtncnilplmklccaaGreat
open Go.ChangeShapes Go.WideShapes Go.ChangeAt Go.RowKit

theorem cellsInt : Tryz.prog.cellsOf 29 = 4 := by kernel_rfl
theorem cellsLimb : Tryz.prog.cellsOf 27 = 1 := by kernel_rfl
theorem four_of (l : List Value) (h : l.length = 4) : ∃ a b c d, l = [a, b, c, d] := by
  match l, h with
  | [a, b, c, d], _ => exact ⟨a, b, c, d, rfl⟩
set_option maxRecDepth 100000 in
theorem open_big {H : Type} {enc : TypeId × Value → H} {W : World} {base : Nat} {sp : Nat → Bool} {held : Bool} {v : Value} {d : DataW H} {p : List MemPlace}
    (hv : Value.okWide Tryz.prog W .any base 29 v) (h : DataW.Trod enc Tryz.prog W 0 sp held 29 v d p) :
    ∃ a b c e : Int, v = .agg #[.int .u64 a, .int .u64 b, .int .u64 c, .int .u64 e] ∧ d = DataW.agg [.lit (.int .u64 a), .lit (.int .u64 b), .lit (.int .u64 c), .lit (.int .u64 e)] ∧ p = [] ∧ (Lit.int .u64 a).wf = true ∧ (Lit.int .u64 b).wf = true ∧ (Lit.int .u64 c).wf = true ∧ (Lit.int .u64 e).wf = true := by
  obtain ⟨cs, rfl, hsz, _⟩ : ∃ cs, v = .agg cs ∧ cs.size = Tryz.prog.cellsOf 29 ∧ Row.okWide Tryz.prog W .any base 29 cs := by
    simpa [Value.okWide, Tryz.underlying29] using hv
  rw [cellsInt] at hsz
  obtain ⟨l⟩ := cs
  obtain ⟨c0, c1, c2, c3, rfl⟩ := four_of l hsz
  obtain ⟨fuel, hf⟩ := h
  obtain ⟨y0, y1, y2, y3, m, hx, hy0, hy1, hy2, hy3⟩ := trod_array4 Tryz.underlying29 cellsLimb hf
  obtain ⟨x0, e0, rfl, w0⟩ := DataW.trod_int Tryz.underlying27 hy0
  obtain ⟨x1, e1, rfl, w1⟩ := DataW.trod_int Tryz.underlying27 hy1
  obtain ⟨x2, e2, rfl, w2⟩ := DataW.trod_int Tryz.underlying27 hy2
  obtain ⟨x3, e3, rfl, w3⟩ := DataW.trod_int Tryz.underlying27 hy3
  simp at e0 e1 e2 e3
  subst e0 e1 e2 e3
  simp only [Prod.mk.injEq] at hx
  obtain ⟨rfl, rfl⟩ := hx
  exact ⟨x0, x1, x2, x3, rfl, rfl, rfl, w0, w1, w2, w3⟩
theorem shut_big {H : Type} {enc : TypeId × Value → H} {W : World} {base : Nat} {sp : Nat → Bool} {held : Bool} {a b c e : Int}
    (w0 : (Lit.int .u64 a).wf = true) (w1 : (Lit.int .u64 b).wf = true) (w2 : (Lit.int .u64 c).wf = true) (w3 : (Lit.int .u64 e).wf = true) :
    DataW.Trod enc Tryz.prog W base sp held 29 (.agg #[.int .u64 a, .int .u64 b, .int .u64 c, .int .u64 e]) (DataW.agg [.lit (.int .u64 a), .lit (.int .u64 b), .lit (.int .u64 c), .lit (.int .u64 e)]) [] :=
  ⟨2, by simp [DataW.trod, Value.cells, Tryz.underlying29, Tryz.underlying27, cellsInt, cellsLimb, w0, w1, w2, w3, show List.range 4 = [0, 1, 2, 3] from rfl]⟩
end Go.Proofs.YtncnilplmklccaaGreat

/- Arguments that are slices of acts or of numbers, opened. -/
namespace Go.Proofs.YtncnilplmklccaaGreat
set_option linter.unusedSimpArgs false
set_option linter.unusedVariables false
set_option linter.unusedSectionVars false
open Go.ChangeShapes Go.WideShapes Go.ChangeAt Go.RowKit

theorem laidOutT : laidOutB Tryz.prog = true := by kernel_rfl
theorem cellsU8S : Tryz.prog.cellsOf 5 = 1 := by kernel_rfl
theorem cellsActS : Tryz.prog.cellsOf 45 = 8 := by kernel_rfl
theorem cut_getS {cs l : List Value} {o m : Nat} (h : (cs.drop o).take m = l) {j : Nat} (hj : j < m) : cs[o + j]? = l[j]? := by
  rw [← h, List.getElem?_take, if_pos hj, List.getElem?_drop]
/-- An act by its cells. -/
theorem act_cellsS {H : Type} {enc : TypeId × Value → H} {W : World} {sp : Nat → Bool} {held : Bool} {fuel : Nat} {cs : List Value} {y : DataW H × List MemPlace} (_ : cs.length = 8)
    (ht : DataW.trod enc Tryz.prog W 0 sp held fuel 45 cs = some y) : ∃ x : Ac, (cs[0]? = some (.int .u8 x.k) ∧ cs[1]? = some (.int .u8 x.t) ∧ cs[2]? = some (.int .u8 x.f) ∧ cs[3]? = some (.int .u8 x.o) ∧ cs[4]? = some (.int .u64 (lm x.n 0)) ∧ cs[5]? = some (.int .u64 (lm x.n 1)) ∧ cs[6]? = some (.int .u64 (lm x.n 2)) ∧ cs[7]? = some (.int .u64 (lm x.n 3))) ∧ x.Ok := by
  obtain ⟨xs, m, _, _, _, hxs, hf⟩ := DataW.trod_struct Tryz.underlying45 ht
  have hxs5 : xs.length = 5 := hxs
  have get : ∀ i, i < 5 → ∃ z, xs[i]? = some z := fun i hi => ⟨xs[i], by simp [hxs5, hi]⟩
  obtain ⟨z0, e0⟩ := get 0 (by omega)
  obtain ⟨z1, e1⟩ := get 1 (by omega)
  obtain ⟨z2, e2⟩ := get 2 (by omega)
  obtain ⟨z3, e3⟩ := get 3 (by omega)
  obtain ⟨z4, e4⟩ := get 4 (by omega)
  have f0 := (hf 0 _ rfl).trans e0
  have f1 := (hf 1 _ rfl).trans e1
  have f2 := (hf 2 _ rfl).trans e2
  have f3 := (hf 3 _ rfl).trans e3
  have f4 := (hf 4 _ rfl).trans e4
  replace f0 : DataW.trod enc Tryz.prog W 0 sp held m 5 ((cs.drop 0).take (Tryz.prog.cellsOf 5)) = some z0 := f0
  replace f1 : DataW.trod enc Tryz.prog W 0 sp held m 5 ((cs.drop 1).take (Tryz.prog.cellsOf 5)) = some z1 := f1
  replace f2 : DataW.trod enc Tryz.prog W 0 sp held m 5 ((cs.drop 2).take (Tryz.prog.cellsOf 5)) = some z2 := f2
  replace f3 : DataW.trod enc Tryz.prog W 0 sp held m 5 ((cs.drop 3).take (Tryz.prog.cellsOf 5)) = some z3 := f3
  replace f4 : DataW.trod enc Tryz.prog W 0 sp held m 29 ((cs.drop 4).take (Tryz.prog.cellsOf 29)) = some z4 := f4
  rw [cellsU8S] at f0 f1 f2 f3
  rw [cellsInt] at f4
  obtain ⟨k, q0, _, w0⟩ := DataW.trod_int Tryz.underlying5 f0
  obtain ⟨t, q1, _, w1⟩ := DataW.trod_int Tryz.underlying5 f1
  obtain ⟨f, q2, _, w2⟩ := DataW.trod_int Tryz.underlying5 f2
  obtain ⟨o, q3, _, w3⟩ := DataW.trod_int Tryz.underlying5 f3
  obtain ⟨d0, d1, d2, d3, q4⟩ : ∃ d0 d1 d2 d3, (cs.drop 4).take 4 = [d0, d1, d2, d3] := by
    have hl : ((cs.drop 4).take 4).length = 4 := by simp; omega
    match (cs.drop 4).take 4, hl with
    | [a, b, c, d], _ => exact ⟨a, b, c, d, rfl⟩
  rw [q4] at f4
  obtain ⟨y0, y1, y2, y3, m2, hx, hy0, hy1, hy2, hy3⟩ := trod_array4 Tryz.underlying29 cellsLimb f4
  obtain ⟨x0, i0, _, v0⟩ := DataW.trod_int Tryz.underlying27 hy0
  obtain ⟨x1, i1, _, v1⟩ := DataW.trod_int Tryz.underlying27 hy1
  obtain ⟨x2, i2, _, v2⟩ := DataW.trod_int Tryz.underlying27 hy2
  obtain ⟨x3, i3, _, v3⟩ := DataW.trod_int Tryz.underlying27 hy3
  simp at i0 i1 i2 i3
  subst i0 i1 i2 i3
  have bk := bounds_u8 w0
  have bt := bounds_u8 w1
  have bf := bounds_u8 w2
  have bo := bounds_u8 w3
  have b0 := bounds_u64 v0
  have b1 := bounds_u64 v1
  have b2 := bounds_u64 v2
  have b3 := bounds_u64 v3
  obtain ⟨l0, l1, l2, l3⟩ := lm_four (a := x0) (b := x1) (c := x2) (d := x3) (by omega) (by omega) (by omega) (by omega)
  refine ⟨⟨k, t, f, o, four x0 x1 x2 x3⟩, ?_, ⟨by simp only []; omega, by simp only []; omega, by simp only []; omega, by simp only []; omega, four_in (by omega) (by omega) (by omega) (by omega)⟩⟩
  simp only [l0, l1, l2, l3]
  exact ⟨cut_getS q0 (j := 0) (by omega), cut_getS q1 (j := 0) (by omega), cut_getS q2 (j := 0) (by omega), cut_getS q3 (j := 0) (by omega), cut_getS q4 (j := 0) (by omega), cut_getS q4 (j := 1) (by omega), cut_getS q4 (j := 2) (by omega), cut_getS q4 (j := 3) (by omega)⟩
set_option maxRecDepth 100000 in
theorem act_atS {H : Type} {enc : TypeId × Value → H} {W : World} {sp : Nat → Bool} {held : Bool} {a : Addr} {fuel : Nat} {cs : List Value} {y : DataW H × List MemPlace}
    (h : W.cells? 0 a 8 = some cs) (ht : DataW.trod enc Tryz.prog W 0 sp held fuel 45 cs = some y) : ∃ x : Ac, x.Ok ∧ a.spot = none ∧ W.cell? (a.add 0) = some (.int .u8 x.k) ∧ W.cell? (a.add 1) = some (.int .u8 x.t) ∧ W.cell? (a.add 2) = some (.int .u8 x.f) ∧ W.cell? (a.add 3) = some (.int .u8 x.o) ∧ W.cell? (a.add 4) = some (.int .u64 (lm x.n 0)) ∧ W.cell? (a.add 5) = some (.int .u64 (lm x.n 1)) ∧ W.cell? (a.add 6) = some (.int .u64 (lm x.n 2)) ∧ W.cell? (a.add 7) = some (.int .u64 (lm x.n 3)) := by
  unfold World.cells? at h
  rw [if_pos (Nat.zero_le _)] at h
  have hlen : cs.length = 8 := by rw [mapM_some_length h]; simp
  have g : ∀ i, i < 8 → W.cell? (a.add i) = cs[i]? := fun i hi => mapM_some_get h i i (by simp [hi])
  obtain ⟨x, ⟨c0, c1, c2, c3, c4, c5, c6, c7⟩, hx⟩ := act_cellsS hlen ht
  have g0 := (g 0 (by omega)).trans c0
  exact ⟨x, hx, by simpa [Addr.add] using World.cell?_spot g0, g0, (g 1 (by omega)).trans c1, (g 2 (by omega)).trans c2, (g 3 (by omega)).trans c3, (g 4 (by omega)).trans c4, (g 5 (by omega)).trans c5, (g 6 (by omega)).trans c6, (g 7 (by omega)).trans c7⟩
theorem addr_twoS (b o i j : Nat) : ((⟨b, o, none⟩ : Addr).add i).add j = ⟨b, o + i + j, none⟩ := by rw [Addr.add_mid, Addr.add_mid]
end Go.Proofs.YtncnilplmklccaaGreat

/- A book's journal at the law's level: Mark, Back, Bytes. -/
namespace Go.Proofs.YtncnilplmklccaaGreat
set_option linter.unusedSimpArgs false
set_option linter.unusedVariables false
open Go.RowKit Go.Lib

theorem undoN_at : ∀ (ds : Deeds) (X Y : Nat → Kvs) (a : Nat), X a = Y a → undoN kyKey ds X a = undoN kyKey ds Y a
  | [], _, _, _, h => h
  | d :: r, X, Y, a, h => by
    show undo1 kyKey d (undoN kyKey r X) a = undo1 kyKey d (undoN kyKey r Y) a
    unfold undo1
    by_cases e : a = d.m
    · subst e
      rw [upX_same, upX_same, undoN_at r X Y _ h]
    · rw [upX_other _ e, upX_other _ e]
      exact undoN_at r X Y a h
theorem St.only {w : World} {S Z : Nat → Prop} {bj : Jb} {A : List Nat} {mb : Nat → Nat} {X : Nat → Kvs} {ds : Deeds} (h : St w S Z bj A mb X ds) : St w S Z bj A mb (fun b => if b ∈ A then X b else []) ds := by
  obtain ⟨low, stat, jS, jZ, jf, ext, row, box, map, inj, srt, mine⟩ := h
  refine ⟨low, stat, jS, jZ, jf, ext, row, box, fun b hb => ?_, inj, fun b => ?_, mine⟩
  · simp only [hb, if_true]
    exact map b hb
  · by_cases e : b ∈ A
    · simp only [e, if_true]; exact srt b
    · simp only [e, if_false]; exact List.Pairwise.nil
theorem bytes13_l {W w : World} {bj : Jk} {bb n : Nat} {h : Nat → Kvs} {Fr : Nat → Prop} (B : BS W w bj bb n h Fr) (hn : n ≤ 9000) :
    Calls Tryz.prog 31 #[.pointer (some ⟨bb, 0, none⟩)] w fun e w' => ∃ v, e = .returned v ∧ Bs w' w.heap.size v (txt (h n)) ∧ Below w.heap.size w w' := by
  obtain ⟨S, b, _⟩ := B.ex
  exact bbytes_any b (by omega)
end Go.Proofs.YtncnilplmklccaaGreat
