/- What stands while acts are played: a tree, its leaves in a slice, an act in a box; a copy beside it. -/
import Derived.Test.YtlkmebimgpigjaaDoorActs
import Derived.Test.YtlkmebimgpigjaaDoorRef10
namespace Go.Proofs.YtlkmebimgpigjaaDoor
open Go.RowKit Go.Lib
attribute [local go_sem] setCell_drewN alloc_drewN

/-- A slice with these sums. -/
structure Lv (w : World) (ao : Option Addr) (cap : Nat) (L : List Hs) : Prop where
  lies : Hl w ao L
  le : L.length ≤ cap
  max : cap ≤ maxLen
  noc : ao = none → cap = 0
  lt : ∀ k, blk ao = some k → k < w.heap.size
  form : ao = none ∨ ∃ b off, ao = some ⟨b, off, none⟩
theorem Lv.nil (w : World) : Lv w none 0 [] := ⟨.inl rfl, by simp, by simp [maxLen], fun _ => rfl, fun k hk => by simp [blk] at hk, .inl rfl⟩
theorem Lv.of {w w' : World} {ao : Option Addr} {cap : Nat} {L : List Hs} (h : Lv w ao cap L) (hs : w.heap.size ≤ w'.heap.size) (hb : ∀ k, blk ao = some k → w'.heap[k]? = w.heap[k]?) : Lv w' ao cap L :=
  ⟨h.lies.of hs (fun k hk _ => hb k hk), h.le, h.max, h.noc, fun k hk => Nat.lt_of_lt_of_le (h.lt k hk) hs, h.form⟩
theorem Lv.below {w w' : World} {ao : Option Addr} {cap : Nat} {L : List Hs} (h : Lv w ao cap L) (hb : Below w.heap.size w w') : Lv w' ao cap L := h.of hb.size fun k hk => hb.block k (h.lt k hk)
theorem Lv.take {w : World} {ao : Option Addr} {cap : Nat} {L : List Hs} (h : Lv w ao cap L) (n : Nat) : Lv w ao cap (L.take n) :=
  ⟨h.lies.take n, by rw [List.length_take]; have := h.le; omega, h.max, h.noc, h.lt, h.form⟩
theorem Lv.row {w : World} {v : Value} {L : List Hs} (h : HR w v L) : ∃ ao cap, v = .slice ao L.length cap ∧ Lv w ao cap L ∧ v.ownBlock = blk ao := by
  obtain ⟨ao, cap, rfl, h1, h2, h3, h4⟩ := h.form
  have hf : ao = none ∨ ∃ b off, ao = some ⟨b, off, none⟩ := by
    rcases h.2 with ⟨e, _⟩ | ⟨g, c, cur, e, _⟩
    · simp only [Value.slice.injEq] at e; exact .inl e.1
    · simp only [Value.slice.injEq] at e; exact .inr ⟨g, 0, e.1⟩
  exact ⟨ao, cap, rfl, ⟨h4, h1, h2, h3, fun k hk => (h.lt k (by rw [blk_own]; exact hk)).2, hf⟩, blk_own _ _ _⟩
/-- A tree and its leaves; gx: a block that the tree keeps off. -/
structure PL (w0 w : World) (gt d : Nat) (Lt : List Hs) (ao : Option Addr) (cap : Nat) (L : List Hs) (gx : Nat) : Prop where
  tree : ∃ S : Nat → Prop, Tr w gt S d Lt ∧ ∀ k, S k → w0.heap.size ≤ k ∧ k ≠ gx ∧ blk ao ≠ some k
  lv : Lv w ao cap L
  lt : gx < w.heap.size
  below : Below w0.heap.size w0 w
theorem PL.after {w0 w w' : World} {gt d : Nat} {Lt : List Hs} {ao : Option Addr} {cap : Nat} {L : List Hs} {gx : Nat} (q : PL w0 w gt d Lt ao cap L gx) (hb : Below w.heap.size w w') : PL w0 w' gt d Lt ao cap L gx := by
  obtain ⟨S, h1, h2⟩ := q.tree
  exact ⟨⟨S, h1.below hb, h2⟩, q.lv.below hb, Nat.lt_of_lt_of_le q.lt hb.size, bOn q.below hb⟩
theorem PL.box {w0 w : World} {gt d : Nat} {Lt : List Hs} {ao : Option Addr} {cap : Nat} {L : List Hs} {gx : Nat} (q : PL w0 w gt d Lt ao cap L gx) {w' : World} (hb : Below w.heap.size w w') (hlt : w.heap.size < w'.heap.size) : PL w0 w' gt d Lt ao cap L w.heap.size := by
  obtain ⟨S, h1, h2⟩ := q.tree
  exact ⟨⟨S, h1.below hb, fun k hk => ⟨(h2 k hk).1, Nat.ne_of_lt (h1.box.low k hk), (h2 k hk).2.2⟩⟩, q.lv.below hb, hlt, bOn q.below hb⟩
theorem PL.step {w0 w w' : World} {gt d : Nat} {ao : Option Addr} {cap : Nat} {L : List Hs} {gx : Nat} {S S' : Nat → Prop} {L' : List Hs} (h2 : ∀ k, S k → w0.heap.size ≤ k ∧ k ≠ gx ∧ blk ao ≠ some k) (lv : Lv w ao cap L) (lt : gx < w.heap.size) (hb : Below w0.heap.size w0 w)
    (hT : Tr w' gt S' d L') (m : Mv S S' w w') : PL w0 w' gt d L' ao cap L gx := by
  refine ⟨⟨S', hT, fun k hk => ?_⟩, lv.of m.size (fun k hk => m.block k (lv.lt k hk) (fun e => (h2 k e).2.2 hk)), Nat.lt_of_lt_of_le lt m.size, m.below hb (fun k hk => (h2 k hk).1)⟩
  rcases m.own k hk with e | e
  · exact h2 k e
  · exact ⟨Nat.le_trans hb.size e, by omega, fun e2 => by have := lv.lt k e2; omega⟩
/-- What is told of a box: it stays, as the tree keeps off. -/
theorem Ab.far {w w' : World} {gx : Nat} {x : Ac} (h : Ab w gx x) {S S' : Nat → Prop} (m : Mv S S' w w') (hn : ¬ S gx) : Ab w' gx x := h.of m.size (m.block _ h.lt hn)
theorem PL.app {w0 w : World} {gt d : Nat} {Lt : List Hs} {ao : Option Addr} {cap : Nat} {L : List Hs} {gx : Nat} (q : PL w0 w gt d Lt ao cap L gx) {x : Ac} (b : Ab w gx x) (hx : Hok x.h) (hl : Lt.length < 2 ^ d) (hf : Lt.length < 1000) (ht : Tab w0 1) :
    Calls Tryd.prog 16 #[.pointer (some ⟨gt, 0, none⟩), .agg (rowV 32 x.h).toArray] w fun e w' => e = .returned (.tuple #[.int .u64 Lt.length, .int .i64 0]) ∧ PL w0 w' gt d (Lt ++ [x.h]) ao cap L gx ∧ Ab w' gx x := by
  obtain ⟨S, h1, h2⟩ := q.tree
  refine (append_any h1 x.h hx hl hf ht q.below (fun k hk => (h2 k hk).1)).mono ?_
  rintro e w' ⟨rfl, S', hT, hM⟩
  exact ⟨rfl, PL.step h2 q.lv q.lt q.below hT hM, b.far hM (fun e => (h2 _ e).2.1 rfl)⟩
theorem PL.full {w0 w : World} {gt d : Nat} {Lt : List Hs} {ao : Option Addr} {cap : Nat} {L : List Hs} {gx : Nat} (q : PL w0 w gt d Lt ao cap L gx) {x : Ac} (b : Ab w gx x) (hl : Lt.length = 2 ^ d) :
    Calls Tryd.prog 16 #[.pointer (some ⟨gt, 0, none⟩), .agg (rowV 32 x.h).toArray] w fun e w' => e = .returned (.tuple #[.int .u64 0, .int .i64 7]) ∧ PL w0 w' gt d Lt ao cap L gx ∧ Ab w' gx x := by
  obtain ⟨S, h1, h2⟩ := q.tree
  refine (append_full h1 x.h hl).mono ?_
  rintro e w' ⟨rfl, hb⟩
  exact ⟨rfl, q.after hb, b.below hb⟩
theorem PL.cut {w0 w : World} {gt d : Nat} {Lt : List Hs} {ao : Option Addr} {cap : Nat} {L : List Hs} {gx : Nat} (q : PL w0 w gt d Lt ao cap L gx) {x : Ac} (b : Ab w gx x) (n : Nat) (hn : n ≤ Lt.length) :
    Calls Tryd.prog 17 #[.pointer (some ⟨gt, 0, none⟩), .int .u64 n] w fun e w' => e = .returned (.bool true) ∧ PL w0 w' gt d (Lt.take n) ao cap L gx ∧ Ab w' gx x := by
  obtain ⟨S, h1, h2⟩ := q.tree
  refine (cut_any h1 n hn).mono ?_
  rintro e w' ⟨rfl, S', hT, hM⟩
  exact ⟨rfl, PL.step h2 q.lv q.lt q.below hT hM, b.far hM (fun e => (h2 _ e).2.1 rfl)⟩
theorem PL.len {w0 w : World} {gt d : Nat} {Lt : List Hs} {ao : Option Addr} {cap : Nat} {L : List Hs} {gx : Nat} (q : PL w0 w gt d Lt ao cap L gx) :
    Calls Tryd.prog 18 #[.pointer (some ⟨gt, 0, none⟩)] w fun e w' => e = .returned (.int .u64 Lt.length) ∧ w' = w := by
  obtain ⟨S, h1, _⟩ := q.tree
  have h := len_any h1.box (by rw [lv_zero]; have := h1.few; omega)
  rwa [lv_zero] at h
theorem PL.cutno {w0 w : World} {gt d : Nat} {Lt : List Hs} {ao : Option Addr} {cap : Nat} {L : List Hs} {gx : Nat} (q : PL w0 w gt d Lt ao cap L gx) (n : Int) (hn : (Lt.length : Int) < n) :
    Calls Tryd.prog 17 #[.pointer (some ⟨gt, 0, none⟩), .int .u64 n] w fun e w' => e = .returned (.bool false) ∧ w' = w := by
  obtain ⟨S, h1, _⟩ := q.tree
  exact cut_no h1 n hn
/-- A tree and its leaves, and a second tree behind all that. -/
structure PC (w0 w : World) (gt d : Nat) (Lt : List Hs) (ao : Option Addr) (cap : Nat) (L : List Hs) (gx : Nat) (x : Ac) (g2 : Nat) (L2 : List Hs) : Prop where
  trees : ∃ (S S2 : Nat → Prop) (N : Nat), Tr w gt S d Lt ∧ (∀ k, S k → w0.heap.size ≤ k ∧ k ≠ gx ∧ blk ao ≠ some k ∧ k < N) ∧ Tr w g2 S2 d L2 ∧ (∀ k, S2 k → N ≤ k) ∧ w0.heap.size ≤ N ∧ gx < N ∧ (∀ k, blk ao = some k → k < N) ∧ N ≤ w.heap.size
  box : Ab w gx x
  lv : Lv w ao cap L
  below : Below w0.heap.size w0 w
theorem PC.back {w0 w : World} {gt d : Nat} {Lt : List Hs} {ao : Option Addr} {cap : Nat} {L : List Hs} {gx : Nat} {x : Ac} {g2 : Nat} {L2 : List Hs} (q : PC w0 w gt d Lt ao cap L gx x g2 L2) : PL w0 w gt d Lt ao cap L gx := by
  obtain ⟨S, S2, N, h1, h2, h3, h4, h5, h6, h7, h8⟩ := q.trees
  exact ⟨⟨S, h1, fun k hk => ⟨(h2 k hk).1, (h2 k hk).2.1, (h2 k hk).2.2.1⟩⟩, q.lv, q.box.lt, q.below⟩
theorem PC.two {w0 w : World} {gt d : Nat} {Lt : List Hs} {ao : Option Addr} {cap : Nat} {L : List Hs} {gx : Nat} {x : Ac} {g2 : Nat} {L2 : List Hs} (q : PC w0 w gt d Lt ao cap L gx x g2 L2) : PL w0 w g2 d L2 ao cap L gx := by
  obtain ⟨S, S2, N, h1, h2, h3, h4, h5, h6, h7, h8⟩ := q.trees
  exact ⟨⟨S2, h3, fun k hk => ⟨Nat.le_trans h5 (h4 k hk), fun e => by have := h4 k hk; omega, fun e => by have := h4 k hk; have := h7 k e; omega⟩⟩, q.lv, q.box.lt, q.below⟩
theorem PC.after {w0 w w' : World} {gt d : Nat} {Lt : List Hs} {ao : Option Addr} {cap : Nat} {L : List Hs} {gx : Nat} {x : Ac} {g2 : Nat} {L2 : List Hs} (q : PC w0 w gt d Lt ao cap L gx x g2 L2) (hb : Below w.heap.size w w') : PC w0 w' gt d Lt ao cap L gx x g2 L2 := by
  obtain ⟨S, S2, N, h1, h2, h3, h4, h5, h6, h7, h8⟩ := q.trees
  exact ⟨⟨S, S2, N, h1.below hb, h2, h3.below hb, h4, h5, h6, h7, Nat.le_trans h8 hb.size⟩, q.box.below hb, q.lv.below hb, bOn q.below hb⟩
theorem PL.copy {w0 w : World} {gt d : Nat} {Lt : List Hs} {ao : Option Addr} {cap : Nat} {L : List Hs} {gx : Nat} (q : PL w0 w gt d Lt ao cap L gx) {x : Ac} (b : Ab w gx x) :
    Calls Tryd.prog 20 #[.pointer (some ⟨gt, 0, none⟩)] w fun e w' => ∃ g2, e = .returned (.pointer (some ⟨g2, 0, none⟩)) ∧ PC w0 w' gt d Lt ao cap L gx x g2 Lt := by
  obtain ⟨S, h1, h2⟩ := q.tree
  refine (copy_any h1).mono ?_
  rintro e w' ⟨g2, S2, rfl, hT, hb, hS2⟩
  exact ⟨g2, rfl, ⟨S, S2, w.heap.size, h1.below hb, fun k hk => ⟨(h2 k hk).1, (h2 k hk).2.1, (h2 k hk).2.2, h1.box.low k hk⟩, hT, hS2, q.below.size, q.lt, q.lv.lt, hb.size⟩, b.below hb, q.lv.below hb, bOn q.below hb⟩
/-- The second tree is written. -/
theorem PC.step2 {w0 w w' : World} {gt d : Nat} {Lt : List Hs} {ao : Option Addr} {cap : Nat} {L : List Hs} {gx : Nat} {x : Ac} {g2 : Nat} {S S2 S2' : Nat → Prop} {N : Nat} {L2' : List Hs} (h1 : Tr w gt S d Lt) (h2 : ∀ k, S k → w0.heap.size ≤ k ∧ k ≠ gx ∧ blk ao ≠ some k ∧ k < N) (h4 : ∀ k, S2 k → N ≤ k)
    (h5 : w0.heap.size ≤ N) (h6 : gx < N) (h7 : ∀ k, blk ao = some k → k < N) (h8 : N ≤ w.heap.size) (box : Ab w gx x) (lv : Lv w ao cap L) (hb : Below w0.heap.size w0 w) (hT : Tr w' g2 S2' d L2') (m : Mv S2 S2' w w') : PC w0 w' gt d Lt ao cap L gx x g2 L2' := by
  refine ⟨⟨S, S2', N, h1.far m (fun k hk e => by have := (h2 k hk).2.2.2; have := h4 k e; omega), h2, hT, fun k hk => ?_, h5, h6, h7, Nat.le_trans h8 m.size⟩, box.far m (fun e => by have := h4 _ e; omega), lv.of m.size (fun k hk => m.block k (lv.lt k hk) (fun e => by have := h4 _ e; have := h7 k hk; omega)), m.below hb (fun k hk => Nat.le_trans h5 (h4 k hk))⟩
  rcases m.own k hk with e | e
  · exact h4 k e
  · exact Nat.le_trans h8 e
theorem PC.app2 {w0 w : World} {gt d : Nat} {Lt : List Hs} {ao : Option Addr} {cap : Nat} {L : List Hs} {gx : Nat} {x : Ac} {g2 : Nat} {L2 : List Hs} (q : PC w0 w gt d Lt ao cap L gx x g2 L2) (hx : Hok x.h) (hf : L2.length < 1000) (ht : Tab w0 1) :
    Calls Tryd.prog 16 #[.pointer (some ⟨g2, 0, none⟩), .agg (rowV 32 x.h).toArray] w fun e w' => ∃ (a b : Int) (L2' : List Hs), e = .returned (.tuple #[.int .u64 a, .int .i64 b]) ∧ PC w0 w' gt d Lt ao cap L gx x g2 L2' := by
  obtain ⟨S, S2, N, h1, h2, h3, h4, h5, h6, h7, h8⟩ := q.trees
  by_cases hl : L2.length = 2 ^ d
  · refine (append_full h3 x.h hl).mono ?_
    rintro e w' ⟨rfl, hb⟩
    exact ⟨0, 7, L2, rfl, q.after hb⟩
  · have hl2 : L2.length < 2 ^ d := by have := h3.len; omega
    refine (append_any h3 x.h hx hl2 hf ht q.below (fun k hk => Nat.le_trans h5 (h4 k hk))).mono ?_
    rintro e w' ⟨rfl, S', hT, hM⟩
    exact ⟨_, 0, _, rfl, PC.step2 h1 h2 h4 h5 h6 h7 h8 q.box q.lv q.below hT hM⟩
theorem PC.cut2 {w0 w : World} {gt d : Nat} {Lt : List Hs} {ao : Option Addr} {cap : Nat} {L : List Hs} {gx : Nat} {x : Ac} {g2 : Nat} {L2 : List Hs} (q : PC w0 w gt d Lt ao cap L gx x g2 L2) :
    Calls Tryd.prog 17 #[.pointer (some ⟨g2, 0, none⟩), .int .u64 0] w fun e w' => e = .returned (.bool true) ∧ PC w0 w' gt d Lt ao cap L gx x g2 [] := by
  obtain ⟨S, S2, N, h1, h2, h3, h4, h5, h6, h7, h8⟩ := q.trees
  refine (cut_any h3 0 (Nat.zero_le _)).mono ?_
  rintro e w' ⟨rfl, S', hT, hM⟩
  exact ⟨rfl, PC.step2 h1 h2 h4 h5 h6 h7 h8 q.box q.lv q.below hT hM⟩
/-- The first tree is written, and left; the second goes on. -/
theorem PC.app1 {w0 w : World} {gt d : Nat} {Lt : List Hs} {ao : Option Addr} {cap : Nat} {L : List Hs} {gx : Nat} {x : Ac} {g2 : Nat} {L2 : List Hs} (q : PC w0 w gt d Lt ao cap L gx x g2 L2) (hx : Hok x.h) (hf : Lt.length < 1000) (ht : Tab w0 1) :
    Calls Tryd.prog 16 #[.pointer (some ⟨gt, 0, none⟩), .agg (rowV 32 x.h).toArray] w fun e w' => ∃ (a b : Int), e = .returned (.tuple #[.int .u64 a, .int .i64 b]) ∧ PL w0 w' g2 d L2 ao cap L gx := by
  obtain ⟨S, S2, N, h1, h2, h3, h4, h5, h6, h7, h8⟩ := q.trees
  by_cases hl : Lt.length = 2 ^ d
  · refine (append_full h1 x.h hl).mono ?_
    rintro e w' ⟨rfl, hb⟩
    exact ⟨0, 7, rfl, q.two.after hb⟩
  · have hl2 : Lt.length < 2 ^ d := by have := h1.len; omega
    refine (append_any h1 x.h hx hl2 hf ht q.below (fun k hk => (h2 k hk).1)).mono ?_
    rintro e w' ⟨rfl, S', hT, hM⟩
    obtain ⟨S3, t1, t2⟩ := q.two.tree
    exact ⟨_, 0, rfl, ⟨⟨S2, h3.far hM (fun k hk e => by have := (h2 k e).2.2.2; have := h4 k hk; omega), fun k hk => ⟨Nat.le_trans h5 (h4 k hk), fun e => by have := h4 k hk; omega, fun e => by have := h4 k hk; have := h7 k e; omega⟩⟩, q.lv.of hM.size (fun k hk => hM.block k (q.lv.lt k hk) (fun e => (h2 k e).2.2.1 hk)), Nat.lt_of_lt_of_le q.box.lt hM.size, hM.below q.below (fun k hk => (h2 k hk).1)⟩⟩
theorem places0 {w : World} (d : Nat) (hd : d ≤ 32) :
    Calls Tryd.prog 15 #[.int .i64 d, .int .i64 0] w fun e w' => e = .returned (.int .u64 ((2 ^ d : Nat) : Int)) ∧ w' = w := places_yes d 0 hd (Nat.zero_le _)
end Go.Proofs.YtlkmebimgpigjaaDoor
