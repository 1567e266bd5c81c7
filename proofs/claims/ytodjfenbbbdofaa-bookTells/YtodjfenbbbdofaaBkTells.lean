/- What a loop over all balances keeps. -/
import Derived.Test.YtodjfenbbbdofaaBkLaw2
namespace Go.Proofs.Ytodjfenbbbdofaa
set_option linter.unusedSimpArgs false
set_option linter.unusedVariables false
open Go.RowKit Go.Lib Go.Shelf

/-- A key's number. -/
def idx (x : Kk × Nm) : Int := 18 * x.1.1 + x.1.2
/-- The last one's. -/
def lastI (pre : Kvs) : Int := (pre.getLast?).elim (-1) idx
def Rising (pre : Kvs) : Prop := pre.Pairwise fun a b => idx a < idx b
theorem lastI_snoc (pre : Kvs) (x : Kk × Nm) : lastI (pre ++ [x]) = idx x := by simp [lastI]
theorem rising_le : ∀ {pre : Kvs}, Rising pre → ∀ y ∈ pre, idx y ≤ lastI pre
  | [], _, y, hy => by simp at hy
  | [a], _, y, hy => by simp at hy; subst hy; simp [lastI]
  | a :: b :: r, h, y, hy => by
    obtain ⟨h1, h2⟩ := List.pairwise_cons.1 h
    have ih := rising_le h2
    have e : lastI (a :: b :: r) = lastI (b :: r) := by simp [lastI]
    rw [e]
    rcases List.mem_cons.1 hy with rfl | hy
    · have := h1 b (by simp)
      have := ih b (by simp)
      omega
    · exact ih y hy
theorem rising_snoc {pre : Kvs} {x : Kk × Nm} (h : Rising pre) (hx : lastI pre < idx x) : Rising (pre ++ [x]) := by
  refine List.pairwise_append.2 ⟨h, List.pairwise_singleton _ _, fun a ha b hb => ?_⟩
  simp at hb
  subst hb
  have := rising_le h a ha
  omega
theorem not_rising {pre : Kvs} {x : Kk × Nm} (hx : idx x ≤ lastI pre) (h0 : 0 ≤ idx x) : ¬ Rising (pre ++ [x]) := fun h => by
  obtain ⟨_, _, h3⟩ := List.pairwise_append.1 h
  cases hl : pre.getLast? with
  | none => simp [lastI, hl] at hx; omega
  | some y =>
    have := h3 y (List.mem_of_getLast? hl) x (by simp)
    simp [lastI, hl] at hx
    omega
theorem Good.rising {L : Kvs} (h : Good L) : Rising L := by
  refine h.srt.imp_of_mem fun {a b} ha hb hab => ?_
  have k1 := h.kin a ha
  have k2 := h.kin b hb
  simp [kyKey] at hab
  obtain ⟨⟨a1, a2⟩, a3, a4⟩ := k1
  obtain ⟨⟨b1, b2⟩, b3, b4⟩ := k2
  unfold idx
  omega
theorem getL_at : ∀ {L : Kvs}, Srt kyKey L → ∀ x ∈ L, getL x.1 L = some x.2
  | [], _, x, hx => by simp at hx
  | p :: r, h, x, hx => by
    obtain ⟨h1, h2⟩ := List.pairwise_cons.1 h
    unfold getL
    rcases List.mem_cons.1 hx with rfl | hx
    · rw [if_pos rfl]
    · rw [if_neg, getL_at h2 x hx]
      intro e
      have := h1 x hx
      rw [e] at this
      simp [kyKey.irr] at this
theorem Good.bal {L : Kvs} (h : Good L) {x : Kk × Nm} (hx : x ∈ L) : Proofs.Ytodjfenbbbdofaa.bal L x.1 = x.2.1 := by
  unfold Proofs.Ytodjfenbbbdofaa.bal
  rw [getL_at h.srt x hx]
theorem Rising.ahead {A B : Kvs} (h : Rising B) (hp : A <+: B) : Rising A := h.sublist hp.sublist
/-- What stands of blocks below B. -/
structure Ti (W0 : World) (B hi : Nat) (S : Nat → Prop) (bj bb n : Nat) (h : Nat → Kvs) (g g2 : Nat) (most : Int) (W : World) : Prop where
  bk : Bk W S bj bb n h
  c0 : W.cell? ⟨g, 0, none⟩ = some (.int .i64 most)
  c1 : W.cell? ⟨g + 1, 0, none⟩ = some (.bool false)
  f1 : W.frozen? ⟨g + 1, 0, none⟩ = false
  c2 : W.cell? ⟨g2, 0, none⟩ = some (.pointer (some ⟨bb, 0, none⟩))
  be : Below W0.heap.size W0 W
  sz : B ≤ W.heap.size
  hs : hi ≤ B
  lo : (∀ k, S k → k < B) ∧ bb < B ∧ g + 1 < g2 ∧ g2 < B ∧ W0.heap.size ≤ g
  ne : g2 ≠ bb ∧ g + 1 < bb
theorem Ti.of {W0 W W' : World} {B hi : Nat} {S : Nat → Prop} {bj bb n : Nat} {h : Nat → Kvs} {g g2 : Nat} {most : Int} (t : Ti W0 B hi S bj bb n h g g2 most W) (hs : W.heap.size ≤ W'.heap.size) (hb : ∀ k, k < B → k = g ∨ k = g + 1 ∨ k = g2 ∨ k = bb ∨ S k → W'.heap[k]? = W.heap[k]?) (hB : Below W0.heap.size W0 W') : Ti W0 B hi S bj bb n h g g2 most W' := by
  obtain ⟨bk, c0, c1, f1, c2, be, sz, hs', ⟨l1, l2, l3, l4, l5⟩, ne⟩ := t
  have e : ∀ k o, k < B → k = g ∨ k = g + 1 ∨ k = g2 ∨ k = bb ∨ S k → W'.cell? ⟨k, o, none⟩ = W.cell? ⟨k, o, none⟩ := fun k o h1 h2 => World.cell?_of_block (w := W) (a := ⟨k, o, none⟩) (hb k h1 h2)
  refine ⟨bk.of hs (fun k hk => hb k (l1 k hk) (.inr (.inr (.inr (.inr hk))))) (hb bb l2 (.inr (.inr (.inr (.inl rfl))))), (e g 0 (by omega) (.inl rfl)).trans c0, (e (g + 1) 0 (by omega) (.inr (.inl rfl))).trans c1, (World.frozen?_of_block (w := W) (a := ⟨g + 1, 0, none⟩) (hb (g + 1) (by omega) (.inr (.inl rfl)))).trans f1, (e g2 0 l4 (.inr (.inr (.inl rfl)))).trans c2, hB, Nat.le_trans sz hs, hs', ⟨l1, l2, l3, l4, l5⟩, ne⟩
theorem Ti.below {W0 W W' : World} {B hi : Nat} {S : Nat → Prop} {bj bb n : Nat} {h : Nat → Kvs} {g g2 : Nat} {most : Int} (t : Ti W0 B hi S bj bb n h g g2 most W) (hb : Below W.heap.size W W') : Ti W0 B hi S bj bb n h g g2 most W' :=
  t.of hb.size (fun k hk _ => hb.block k (Nat.lt_of_lt_of_le hk t.sz)) (bOn t.be hb)
/-- A box of a number. -/
def IBox (W : World) (g : Nat) (v : Int) : Prop := W.heap[g]? = some (.cells #[.int .i64 v] 3 (0, 0))
theorem IBox.cell {W : World} {g : Nat} {v : Int} (h : IBox W g v) : W.cell? ⟨g, 0, none⟩ = some (.int .i64 v) ∧ W.frozen? ⟨g, 0, none⟩ = false ∧ g < W.heap.size := ⟨by simp [World.cell?, show W.heap[g]? = _ from h], by simp [World.frozen?, show W.heap[g]? = _ from h], (Array.getElem?_eq_some_iff.1 h).1⟩
theorem IBox.set {W : World} {g : Nat} {v : Int} (h : IBox W g v) (u : Int) : IBox (W.setCell ⟨g, 0, none⟩ (.int .i64 u)) g u := by
  have := heap_setCell_same W g 0 #[.int .i64 v] 3 (.int .i64 u) h
  simpa [IBox] using this
theorem IBox.keep {W W' : World} {g : Nat} {v : Int} (h : IBox W g v) (hb : W'.heap[g]? = W.heap[g]?) : IBox W' g v := hb.trans h
/-- What the first loop over all balances keeps. -/
def TI (W0 : World) (gt : Nat) (S : Nat → Prop) (bj bb n : Nat) (h : Nat → Kvs) (g g2 : Nat) (most : Int) (L : Kvs) (pre : List (Of L)) (W : World) : Prop :=
  Rising (pre.map (·.1)) ∧ Ti W0 gt gt S bj bb n h g g2 most W ∧ IBox W gt (lastI (pre.map (·.1))) ∧ IBox W (gt + 1) (pre.length : Int)
/-- How it is left ahead of the end: never. -/
def TX (L : Kvs) (_ : Code) (pre : List (Of L)) (_ : World) : Prop := ¬ Rising (pre.map (·.1))
theorem TX.own {L : Kvs} (c : Code) (B : Nat) : OwnFrom B (TX L c) := fun _ _ _ _ hs _ _ => hs
theorem TI.own {W0 : World} {gt : Nat} {S : Nat → Prop} {bj bb n : Nat} {h : Nat → Kvs} {g g2 : Nat} {most : Int} {L : Kvs} {B : Nat} (hB : gt + 2 ≤ B) : OwnFrom B (TI W0 gt S bj bb n h g g2 most L) := fun s W W' row ⟨r1, r2, r3, r4⟩ hg hr => by
  have ne : ∀ k, k < B → some k ≠ row := fun k hk e => by have := (hr k e.symm).1; omega
  have l2 := r4.cell.2.2
  have q := r2.lo
  exact ⟨r1, r2.of hg.size (fun k hk _ => hg.block k (by omega) (ne k (by omega))) (r2.be.grown hg r2.be.size (fun k e => by have := (hr k e).1; omega)), r3.keep (hg.block gt (by omega) (ne gt (by omega))), r4.keep (hg.block (gt + 1) (by omega) (ne (gt + 1) (by omega)))⟩
theorem TI.step {W0 W W1 : World} {gt : Nat} {S : Nat → Prop} {bj bb n : Nat} {h : Nat → Kvs} {g g2 : Nat} {most : Int} {L : Kvs} {pre : List (Of L)} {x : Of L} {B lo : Nat} (t : TI W0 gt S bj bb n h g g2 most L pre W) (hb : Below W.heap.size W W1) (hB : gt + 2 ≤ B) (hx : lastI (pre.map (·.1)) < idx x.1) :
    KeepsFrom B W ((W1.setCell ⟨gt, 0, none⟩ (.int .i64 (idx x.1))).setCell ⟨gt + 1, 0, none⟩ (.int .i64 (pre.length + 1))) ∧ KIv lo gt W ((W1.setCell ⟨gt, 0, none⟩ (.int .i64 (idx x.1))).setCell ⟨gt + 1, 0, none⟩ (.int .i64 (pre.length + 1))) ∧ TI W0 gt S bj bb n h g g2 most L (pre ++ [x]) ((W1.setCell ⟨gt, 0, none⟩ (.int .i64 (idx x.1))).setCell ⟨gt + 1, 0, none⟩ (.int .i64 (pre.length + 1))) := by
  obtain ⟨r1, r2, r3, r4⟩ := t
  have l2 := r4.cell.2.2
  have hs := hb.size
  have q3 : IBox W1 gt (lastI (pre.map (·.1))) := r3.keep (hb.block gt (by omega))
  have q4 : IBox W1 (gt + 1) pre.length := r4.keep (hb.block _ l2)
  have s3 := q3.set (idx x.1)
  have s4 := (q4.keep (W' := W1.setCell ⟨gt, 0, none⟩ (.int .i64 (idx x.1))) (Below.heap_setCell _ _ _ _ (by simp only []; omega))).set (pre.length + 1)
  have o1 : ∀ k, k < W.heap.size → k ≠ gt → k ≠ gt + 1 → ((W1.setCell ⟨gt, 0, none⟩ (.int .i64 (idx x.1))).setCell ⟨gt + 1, 0, none⟩ (.int .i64 (pre.length + 1))).heap[k]? = W.heap[k]? := fun k hk h1 h2 =>
    (Below.heap_setCell _ _ _ _ (by simp only []; omega)).trans ((Below.heap_setCell _ _ _ _ (by simp only []; omega)).trans (hb.block k hk))
  have hz : ((W1.setCell ⟨gt, 0, none⟩ (.int .i64 (idx x.1))).setCell ⟨gt + 1, 0, none⟩ (.int .i64 (pre.length + 1))).heap.size = W1.heap.size := by simp [World.setCell]
  have hB2 := (bOn r2.be hb).setCell (p := ⟨gt, 0, none⟩) (by have := r2.lo; simp only []; omega) (.int .i64 (idx x.1))
  have hB3 := hB2.setCell (p := ⟨gt + 1, 0, none⟩) (by have := r2.lo; simp only []; omega) (.int .i64 (pre.length + 1))
  refine ⟨⟨by omega, fun k o h1 h2 _ => (o1 k (Array.getElem?_eq_some_iff.1 h2).1 (by omega) (by omega)).trans h2⟩, fun k h1 h2 => o1 k (by omega) (by omega) (by omega), ?_, ?_, ?_, ?_⟩
  · rw [List.map_append, List.map_cons, List.map_nil]
    exact rising_snoc r1 hx
  · exact r2.of (by omega) (fun k hk _ => o1 k (by omega) (by omega) (by omega)) hB3
  · rw [List.map_append, List.map_cons, List.map_nil, lastI_snoc]
    exact s3.keep (Below.heap_setCell _ _ _ _ (by simp only []; omega))
  · rw [List.length_append]
    exact s4
/-- A range over a book's balances whose key and number lie in boxes of their own. -/
theorem range_boxed {n : Nat} (hn : 2 ≤ n) {g : Operand} {p1 p2 : Tmp} (q1 q2 : Nat) {assign body : Code} {Q : Exit → Act → World → Prop} {a : Act} {w : World} {lo hi gb : Nat} {L : Kvs} (hg : a.eval g = .func (.func 53) #[] #[.pointer (some ⟨gb, 0, none⟩)]) (hlen : L.length ≤ 100000) (hI : It w lo hi gb L) (hh : hi ≤ w.heap.size)
    (I : List (Of L) → World → Prop) (Ix : Code → List (Of L) → World → Prop) (hIo : OwnFrom w.heap.size I) (hIx : ∀ c, OwnFrom w.heap.size (Ix c)) (h0 : I [] w)
    (hassign : ∀ (l : Nat) (pre : List (Of L)) (x : Of L) (W : World) (K : Act → World → Prop), I pre W → (∀ kb vb W', KeepsFrom w.heap.size W W' → KIv lo hi W W' → I pre W' → Bx2 w.heap.size kb vb x.1 W' → K { tmps := (((a.tmps.setIfInBounds p1 (.agg #[.int .u8 x.1.1.1, .int .u8 x.1.1.2])).setIfInBounds p2 (.agg #[.int .u64 (lm x.1.2.1 0), .int .u64 (lm x.1.2.1 1), .int .u64 (lm x.1.2.1 2), .int .u64 (lm x.1.2.1 3)])).setIfInBounds q1 (.pointer (some ⟨kb, 0, none⟩))).setIfInBounds q2 (.pointer (some ⟨vb, 0, none⟩)), defers := [] } W') →
      assign.wpIn (Fence.wide.inRound l) (n - 1 - 1) Try.prog (Exit.then K (fun _ _ _ => False)) { tmps := ((#[p1, p2] : Array Tmp).zip #[Value.agg #[.int .u8 x.1.1.1, .int .u8 x.1.1.2], Value.agg #[.int .u64 (lm x.1.2.1 0), .int .u64 (lm x.1.2.1 1), .int .u64 (lm x.1.2.1 2), .int .u64 (lm x.1.2.1 3)]]).foldl (fun t (p, v) => t.setIfInBounds p v) a.tmps, defers := [] } W)
    (hbody : ∀ (l : Nat) (pre : List (Of L)) (x : Of L) (kb vb : Nat) (W : World), I pre W → Bx2 w.heap.size kb vb x.1 W → pre.length < L.length →
      body.wpIn (Fence.wide.inRound l) (n - 1 - 1) Try.prog (ownPostG w.heap.size (KIv lo hi) I Ix (pre ++ [x]) W) { tmps := (((a.tmps.setIfInBounds p1 (.agg #[.int .u8 x.1.1.1, .int .u8 x.1.1.2])).setIfInBounds p2 (.agg #[.int .u64 (lm x.1.2.1 0), .int .u64 (lm x.1.2.1 1), .int .u64 (lm x.1.2.1 2), .int .u64 (lm x.1.2.1 3)])).setIfInBounds q1 (.pointer (some ⟨kb, 0, none⟩))).setIfInBounds q2 (.pointer (some ⟨vb, 0, none⟩)), defers := [] } W)
    (hdone : ∀ (D : Nat) (xs : List (Of L)) (W : World), w.heap.size ≤ D → xs.map (·.1) = L → I xs W → W.heap[D]? = some (.deferred (some [])) → Q .normal { a with defers := { target := .collected D, args := #[] } :: a.defers } W)
    (hstop : ∀ (D : Nat) (c : Code) (pre : List (Of L)) (W : World), w.heap.size ≤ D → pre.map (·.1) <+: L → Ix c pre W → W.heap[D]? = some (.deferred (some [])) → c.wpIn Fence.wide n Try.prog Q { a with defers := { target := .collected D, args := #[] } :: a.defers } W) :
    (Code.rangeFunc g #[p1, p2] assign body).wpIn Fence.wide n Try.prog Q a w :=
  wpIn_rangeFunc_ownH rfl (by omega) (gf := 53) (lb := #[.pointer (some ⟨gb, 0, none⟩)]) hg trivial (enters_of Try.func53 (by kernel_rfl) rfl)
    (iter_stops Fence.wide (n - 1) trivial rfl (by omega) hlen hI hh) (fun h k => h.t k) (KIv.b hh) (Below.refl _ _) (fun _ => rfl) I Ix hIo hIx h0
    (fun x a' W => ∃ kb vb, Bx2 w.heap.size kb vb x.1 W ∧ a' = { tmps := (((a.tmps.setIfInBounds p1 (.agg #[.int .u8 x.1.1.1, .int .u8 x.1.1.2])).setIfInBounds p2 (.agg #[.int .u64 (lm x.1.2.1 0), .int .u64 (lm x.1.2.1 1), .int .u64 (lm x.1.2.1 2), .int .u64 (lm x.1.2.1 3)])).setIfInBounds q1 (.pointer (some ⟨kb, 0, none⟩))).setIfInBounds q2 (.pointer (some ⟨vb, 0, none⟩)), defers := [] })
    (fun x a' s W W' row ⟨kb, vb, h1, h2⟩ hg hr => ⟨kb, vb, h1.grown hg (fun r e => (hr r e).2), h2⟩)
    (fun l pre x W K hI hK => hassign l pre x W K hI (fun kb vb W' k1 k2 k3 k4 => hK _ _ k1 k2 k3 ⟨kb, vb, k4, rfl⟩))
    (fun l pre x a' W _ _ hI ⟨kb, vb, hx, e⟩ hl => by subst e; exact hbody l pre x kb vb W hI hx hl) hdone hstop
/-- A range over a book's balances that looks at neither. -/
theorem range_plain {n : Nat} (hn : 2 ≤ n) {g : Operand} {p1 p2 : Tmp} {assign body : Code} {Q : Exit → Act → World → Prop} {a : Act} {w : World} {lo hi gb : Nat} {L : Kvs} (hg : a.eval g = .func (.func 53) #[] #[.pointer (some ⟨gb, 0, none⟩)]) (hlen : L.length ≤ 100000) (hI : It w lo hi gb L) (hh : hi ≤ w.heap.size)
    (I : List (Of L) → World → Prop) (Ix : Code → List (Of L) → World → Prop) (hIo : OwnFrom w.heap.size I) (hIx : ∀ c, OwnFrom w.heap.size (Ix c)) (h0 : I [] w)
    (hassign : ∀ (l : Nat) (x : Of L) (W : World) (K : Act → World → Prop), K { tmps := ((a.tmps.setIfInBounds p1 (.agg #[.int .u8 x.1.1.1, .int .u8 x.1.1.2])).setIfInBounds p2 (.agg #[.int .u64 (lm x.1.2.1 0), .int .u64 (lm x.1.2.1 1), .int .u64 (lm x.1.2.1 2), .int .u64 (lm x.1.2.1 3)])), defers := [] } W →
      assign.wpIn (Fence.wide.inRound l) (n - 1 - 1) Try.prog (Exit.then K (fun _ _ _ => False)) { tmps := ((#[p1, p2] : Array Tmp).zip #[Value.agg #[.int .u8 x.1.1.1, .int .u8 x.1.1.2], Value.agg #[.int .u64 (lm x.1.2.1 0), .int .u64 (lm x.1.2.1 1), .int .u64 (lm x.1.2.1 2), .int .u64 (lm x.1.2.1 3)]]).foldl (fun t (p, v) => t.setIfInBounds p v) a.tmps, defers := [] } W)
    (hbody : ∀ (l : Nat) (pre : List (Of L)) (x : Of L) (W : World), I pre W → pre.length < L.length →
      body.wpIn (Fence.wide.inRound l) (n - 1 - 1) Try.prog (ownPostG w.heap.size (KIv lo hi) I Ix (pre ++ [x]) W) { tmps := ((a.tmps.setIfInBounds p1 (.agg #[.int .u8 x.1.1.1, .int .u8 x.1.1.2])).setIfInBounds p2 (.agg #[.int .u64 (lm x.1.2.1 0), .int .u64 (lm x.1.2.1 1), .int .u64 (lm x.1.2.1 2), .int .u64 (lm x.1.2.1 3)])), defers := [] } W)
    (hdone : ∀ (D : Nat) (xs : List (Of L)) (W : World), w.heap.size ≤ D → xs.map (·.1) = L → I xs W → W.heap[D]? = some (.deferred (some [])) → Q .normal { a with defers := { target := .collected D, args := #[] } :: a.defers } W)
    (hstop : ∀ (D : Nat) (c : Code) (pre : List (Of L)) (W : World), w.heap.size ≤ D → pre.map (·.1) <+: L → Ix c pre W → W.heap[D]? = some (.deferred (some [])) → c.wpIn Fence.wide n Try.prog Q { a with defers := { target := .collected D, args := #[] } :: a.defers } W) :
    (Code.rangeFunc g #[p1, p2] assign body).wpIn Fence.wide n Try.prog Q a w :=
  wpIn_rangeFunc_ownG rfl (by omega) (gf := 53) (lb := #[.pointer (some ⟨gb, 0, none⟩)]) hg trivial (enters_of Try.func53 (by kernel_rfl) rfl)
    (iter_stops Fence.wide (n - 1) trivial rfl (by omega) hlen hI hh) (fun h k => h.t k) (KIv.b hh) (Below.refl _ _) (fun _ => rfl) I Ix hIo hIx h0
    (fun x => { tmps := ((a.tmps.setIfInBounds p1 (.agg #[.int .u8 x.1.1.1, .int .u8 x.1.1.2])).setIfInBounds p2 (.agg #[.int .u64 (lm x.1.2.1 0), .int .u64 (lm x.1.2.1 1), .int .u64 (lm x.1.2.1 2), .int .u64 (lm x.1.2.1 3)])), defers := [] })
    hassign (fun l pre x W hI hl => hbody l pre x W hI hl) hdone hstop
/-- What the second loop keeps: it has come to so many. -/
def FI (W0 : World) (gt : Nat) (S : Nat → Prop) (bj bb n : Nat) (h : Nat → Kvs) (g g2 : Nat) (most : Int) (cnt : Int) (gf D B : Nat) (k : Nat) (W : World) : Prop :=
  Ti W0 gt gt S bj bb n h g g2 most W ∧ IBox W (gt + 1) cnt ∧ IBox W gf (k : Int) ∧ W.heap[D]? = some (.deferred (some [])) ∧ gt + 1 < B ∧ gf < B ∧ D < B ∧ (gt + 1 < D ∧ D < gf)
theorem FI.own {W0 : World} {gt : Nat} {S : Nat → Prop} {bj bb n : Nat} {h : Nat → Kvs} {g g2 : Nat} {most : Int} {cnt : Int} {gf D B B' : Nat} (hB : B ≤ B') : OwnFrom B' (FI W0 gt S bj bb n h g g2 most cnt gf D B) := fun s W W' row ⟨r1, r2, r3, r4, b1, b2, b3, b4⟩ hg hr => by
  have ne : ∀ k, k < B → some k ≠ row := fun k hk e => by have := (hr k e.symm).1; omega
  have l2 := r2.cell.2.2
  have l3 := r3.cell.2.2
  have q := r1.lo
  exact ⟨r1.of hg.size (fun k hk _ => hg.block k (by omega) (ne k (by omega))) (r1.be.grown hg r1.be.size (fun k e => by have := (hr k e).1; omega)), r2.keep (hg.block _ l2 (ne _ b1)), r3.keep (hg.block gf l3 (ne gf b2)), (hg.block D (by omega) (ne D b3)).trans r4, b1, b2, b3, b4⟩
theorem FI.step {W0 W : World} {gt : Nat} {S : Nat → Prop} {bj bb n : Nat} {h : Nat → Kvs} {g g2 : Nat} {most : Int} {cnt : Int} {gf D B k lo hi : Nat} (t : FI W0 gt S bj bb n h g g2 most cnt gf D B k W) (hB : B ≤ W.heap.size) (hl : gf < lo) :
    KeepsFrom B W (W.setCell ⟨gf, 0, none⟩ (.int .i64 (k + 1))) ∧ KIv lo hi W (W.setCell ⟨gf, 0, none⟩ (.int .i64 (k + 1))) ∧ FI W0 gt S bj bb n h g g2 most cnt gf D B (k + 1) (W.setCell ⟨gf, 0, none⟩ (.int .i64 (k + 1))) := by
  obtain ⟨r1, r2, r3, r4, b1, b2, b3, b4⟩ := t
  have hz : (W.setCell ⟨gf, 0, none⟩ (.int .i64 (k + 1))).heap.size = W.heap.size := by simp [World.setCell]
  have o : ∀ j, j ≠ gf → (W.setCell ⟨gf, 0, none⟩ (.int .i64 (k + 1))).heap[j]? = W.heap[j]? := fun j hj => Below.heap_setCell _ _ _ _ (by simp only []; omega)
  have q := r1.lo
  refine ⟨⟨by omega, fun j ob h1 h2 _ => (o j (by omega)).trans h2⟩, fun j h1 h2 => o j (by omega), r1.of (by omega) (fun j hj _ => o j (by omega)) (r1.be.setCell (p := ⟨gf, 0, none⟩) (by simp only []; omega) _), r2.keep (o _ (by omega)), ?_, (o D (by omega)).trans r4, b1, b2, b3, b4⟩
  have := r3.set (k + 1)
  simpa using this
theorem keeps_set (B : Nat) (W : World) (n : Nat) (a : Addr) (v : Value) : KeepsFrom B W ((W.drewN n).setCell a v) := ⟨by simp [World.setCell], fun k o _ h ho => (KeepsOthers.setCell (W.drewN n) a v).same k o h ho⟩
/-- Ahead of each of its rounds, and where it breaks off. -/
def FJ (W0 : World) (gt : Nat) (S : Nat → Prop) (bj bb n : Nat) (h : Nat → Kvs) (g g2 : Nat) (most : Int) (cnt : Int) (gf D B : Nat) (L : Kvs) (pre : List (Of L)) (W : World) : Prop :=
  FI W0 gt S bj bb n h g g2 most cnt gf D B pre.length W ∧ B ≤ W.heap.size ∧ (pre.length = 0 ∨ (pre.length : Int) < most)
def FX (W0 : World) (gt : Nat) (S : Nat → Prop) (bj bb n : Nat) (h : Nat → Kvs) (g g2 : Nat) (most : Int) (cnt : Int) (gf D B : Nat) (L : Kvs) (c : Code) (pre : List (Of L)) (W : World) : Prop :=
  c = .exit 4 ∧ FI W0 gt S bj bb n h g g2 most cnt gf D B pre.length W ∧ B ≤ W.heap.size ∧ most ≤ (pre.length : Int) ∧ (pre.length = 1 ∨ (0 < pre.length ∧ (pre.length : Int) - 1 < most))
theorem FJ.own {W0 : World} {gt : Nat} {S : Nat → Prop} {bj bb n : Nat} {h : Nat → Kvs} {g g2 : Nat} {most : Int} {cnt : Int} {gf D B : Nat} {L : Kvs} : OwnFrom B (FJ W0 gt S bj bb n h g g2 most cnt gf D B L) := fun s W W' row ⟨r1, r2, r3⟩ hg hr =>
  ⟨FI.own (Nat.le_refl _) s.length W W' row r1 hg hr, Nat.le_trans r2 hg.size, r3⟩
theorem FX.own {W0 : World} {gt : Nat} {S : Nat → Prop} {bj bb n : Nat} {h : Nat → Kvs} {g g2 : Nat} {most : Int} {cnt : Int} {gf D B : Nat} {L : Kvs} (c : Code) : OwnFrom B (FX W0 gt S bj bb n h g g2 most cnt gf D B L c) := fun s W W' row ⟨r0, r1, r2, r3⟩ hg hr =>
  ⟨r0, FI.own (Nat.le_refl _) s.length W W' row r1 hg hr, Nat.le_trans r2 hg.size, r3⟩
/-- What the test of an entry reads. -/
structure TC (gt kb vb g2 bb : Nat) (la : Int) (x : Kk × Nm) (W : World) : Prop where
  a0 : W.cell? ⟨gt, 0, none⟩ = some (.int .i64 la)
  k0 : W.cell? ⟨kb, 0, none⟩ = some (.int .u8 x.1.1)
  k1 : W.cell? ⟨kb, 1, none⟩ = some (.int .u8 x.1.2)
  v0 : W.cell? ⟨vb, 0, none⟩ = some (.int .u64 (lm x.2.1 0))
  v1 : W.cell? ⟨vb, 1, none⟩ = some (.int .u64 (lm x.2.1 1))
  v2 : W.cell? ⟨vb, 2, none⟩ = some (.int .u64 (lm x.2.1 2))
  v3 : W.cell? ⟨vb, 3, none⟩ = some (.int .u64 (lm x.2.1 3))
  p0 : W.cell? ⟨g2, 0, none⟩ = some (.pointer (some ⟨bb, 0, none⟩))
theorem TC.after {gt kb vb g2 bb : Nat} {la : Int} {x : Kk × Nm} {W W' : World} (h : TC gt kb vb g2 bb la x W) (hb : Below W.heap.size W W') : TC gt kb vb g2 bb la x W' := by
  have q : ∀ k o v, W.cell? ⟨k, o, none⟩ = some v → W'.cell? ⟨k, o, none⟩ = some v := fun k o v e => ((bcell hb).1 k o (by obtain ⟨cs, t, f, e'⟩ := cells_of_cellS e; exact (Array.getElem?_eq_some_iff.1 e').1)).trans e
  obtain ⟨h0, h1, h2, h3, h4, h5, h6, h7⟩ := h
  exact ⟨q _ _ _ h0, q _ _ _ h1, q _ _ _ h2, q _ _ _ h3, q _ _ _ h4, q _ _ _ h5, q _ _ _ h6, q _ _ _ h7⟩
/-- What the last test reads. -/
structure FC (g2 gc gf g bb : Nat) (cnt k most : Int) (W : World) : Prop where
  p0 : W.cell? ⟨g2, 0, none⟩ = some (.pointer (some ⟨bb, 0, none⟩))
  n0 : W.cell? ⟨gc, 0, none⟩ = some (.int .i64 cnt)
  f0 : W.cell? ⟨gf, 0, none⟩ = some (.int .i64 k)
  m0 : W.cell? ⟨g, 0, none⟩ = some (.int .i64 most)
theorem FC.after {g2 gc gf g bb : Nat} {cnt k most : Int} {W W' : World} (h : FC g2 gc gf g bb cnt k most W) (hb : Below W.heap.size W W') : FC g2 gc gf g bb cnt k most W' := by
  have q : ∀ k o v, W.cell? ⟨k, o, none⟩ = some v → W'.cell? ⟨k, o, none⟩ = some v := fun k o v e => ((bcell hb).1 k o (by obtain ⟨cs, t, f, e'⟩ := cells_of_cellS e; exact (Array.getElem?_eq_some_iff.1 e').1)).trans e
  obtain ⟨h0, h1, h2, h3⟩ := h
  exact ⟨q _ _ _ h0, q _ _ _ h1, q _ _ _ h2, q _ _ _ h3⟩
end Go.Proofs.Ytodjfenbbbdofaa
