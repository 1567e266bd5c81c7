/- Rows of sums, and trees, in memory. -/
import Derived.Test.YtlkmebimgpigjaaDoorTreeMath
import Derived.Maps.AppendAt
import Derived.Great.BuildSlice
namespace Go.Proofs.YtlkmebimgpigjaaDoor
open Go.RowKit Go.Lib
attribute [local go_sem] setCell_drewN alloc_drewN

/-- These sums lie at this address. -/
def Hl (w : World) (ao : Option Addr) (L : List Hs) : Prop :=
  L = [] ∨ ∃ b off, ao = some ⟨b, off, none⟩ ∧ b < w.heap.size ∧ ∀ (j : Nat) x, L[j]? = some x → w.rangeAt b (off + j * 32) (rowV 32 x)
theorem Hl.nil (w : World) (ao : Option Addr) : Hl w ao [] := .inl rfl
theorem Hl.of {w w' : World} {ao : Option Addr} {L : List Hs} (h : Hl w ao L) (hs : w.heap.size ≤ w'.heap.size) (hb : ∀ k, blk ao = some k → k < w.heap.size → w'.heap[k]? = w.heap[k]?) : Hl w' ao L := by
  rcases h with h | ⟨b, off, rfl, hl, hc⟩
  · exact .inl h
  · exact .inr ⟨b, off, rfl, Nat.lt_of_lt_of_le hl hs, fun j x hx i v hv => (World.cell?_of_block (w := w) (a := ⟨b, off + j * 32 + i, none⟩) (hb b rfl hl)).trans (hc j x hx i v hv)⟩
theorem Hl.below {w w' : World} {ao : Option Addr} {L : List Hs} (h : Hl w ao L) (hb : Below w.heap.size w w') : Hl w' ao L := h.of hb.size fun k _ hk => hb.block k hk
theorem Hl.get {w : World} {ao : Option Addr} {L : List Hs} (h : Hl w ao L) {j : Nat} {x : Hs} (hx : L[j]? = some x) : ∃ b off, ao = some ⟨b, off, none⟩ ∧ b < w.heap.size ∧ w.rangeAt b (off + j * 32) (rowV 32 x) := by
  rcases h with rfl | ⟨b, off, e, hl, hc⟩
  · simp at hx
  · exact ⟨b, off, e, hl, hc j x hx⟩
theorem Hl.take {w : World} {ao : Option Addr} {L : List Hs} (h : Hl w ao L) (n : Nat) : Hl w ao (L.take n) := by
  rcases h with rfl | ⟨b, off, e, hl, hc⟩
  · exact .inl (by simp)
  · refine .inr ⟨b, off, e, hl, fun j x hx => hc j x ?_⟩
    rw [List.getElem?_take] at hx
    split at hx
    · exact hx
    · simp at hx
theorem Hl.drop {w : World} {b off : Nat} {L : List Hs} (h : Hl w (some ⟨b, off, none⟩) L) (n : Nat) : Hl w (some ⟨b, off + n * 32, none⟩) (L.drop n) := by
  rcases h with rfl | ⟨b', off', e, hl, hc⟩
  · exact .inl (by simp)
  · simp only [Option.some.injEq, Addr.mk.injEq, and_true] at e
    obtain ⟨rfl, rfl⟩ := e
    refine .inr ⟨b, off + n * 32, rfl, hl, fun j x hx => ?_⟩
    rw [List.getElem?_drop] at hx
    have := hc (n + j) x hx
    rwa [show off + (n + j) * 32 = off + n * 32 + j * 32 by rw [Nat.add_mul]; omega] at this
/-- The value v holds these sums, in a row of its own. -/
abbrev HR (w : World) (v : Value) (L : List Hs) : Prop := w.ownsRow 0 32 32 v L.length (hC L)
theorem HR.nil (w : World) : HR w (.slice none 0 0) [] := World.ownsRow_nil _ _ _ _
theorem HR.of {w w' : World} {v : Value} {L : List Hs} (h : HR w v L) (hb : ∀ k, v.ownBlock = some k → w'.heap[k]? = w.heap[k]?) : HR w' v L := by
  refine ⟨h.1, ?_⟩
  rcases h.2 with hn | ⟨g, cap, cur, rfl, hB, hg, r⟩
  · exact .inl hn
  · exact .inr ⟨g, cap, cur, rfl, hB, by rw [hb g rfl]; exact hg, r⟩
theorem HR.below {w w' : World} {v : Value} {L : List Hs} (h : HR w v L) (hb : Below w.heap.size w w') : HR w' v L := h.of fun k hk => hb.block k (h.lt k hk).2
theorem HR.form {w : World} {v : Value} {L : List Hs} (h : HR w v L) : ∃ ao cap, v = .slice ao L.length cap ∧ L.length ≤ cap ∧ cap ≤ maxLen ∧ (ao = none → cap = 0) ∧ Hl w ao L := by
  rcases h.2 with ⟨rfl, e⟩ | ⟨g, cap, cur, rfl, hb, hg, hcap, hm, hs, ht⟩
  · exact ⟨none, 0, by rw [e], by omega, by simp [maxLen], fun _ => rfl, .inl (List.eq_nil_of_length_eq_zero e)⟩
  · refine ⟨_, cap, rfl, hcap, hm, fun e => by simp at e, .inr ⟨g, 0, rfl, (Array.getElem?_eq_some_iff.1 hg).1, fun j x hx i v hv => ?_⟩⟩
    have hj : j < L.length := (List.getElem?_eq_some_iff.1 hx).1
    have hi : i < 32 := by have := (List.getElem?_eq_some_iff.1 hv).1; rwa [rowV_length] at this
    rw [Nat.zero_add, World.ownsRow.cellAt h (j * 32 + i) (by omega), hC_get L j x hx i v hv]
/-- Cut to its first: the row's further cells stay its own. -/
theorem HR.cut {w : World} {ao : Option Addr} {cap : Nat} {L : List Hs} (h : HR w (.slice ao L.length cap) L) (hao : ao ≠ none) (n : Nat) (hn : n ≤ L.length) : HR w (.slice ao n cap) (L.take n) := by
  have hl : (L.take n).length = n := by rw [List.length_take]; omega
  refine ⟨hC_length _, ?_⟩
  rcases h.2 with ⟨e, _⟩ | ⟨g, cap', cur, e, hb, hg, hcap, hm, hs, ht⟩
  · simp at e; exact absurd e.1 hao
  · simp only [Value.slice.injEq, true_and] at e
    obtain ⟨rfl, rfl⟩ := e
    refine .inr ⟨g, cap, cur, by rw [hl], hb, hg, by omega, hm, hs, ?_⟩
    rw [hC_take, ← ht, hl, List.take_take, Nat.min_eq_left (Nat.mul_le_mul_right _ hn)]
/-- What is written behind a row's end does not touch it. -/
theorem HR.behind {w : World} {g n cap : Nat} {L : List Hs} (h : HR w (.slice (some ⟨g, 0, none⟩) n cap) L) (o : Nat) (vs : List Value) (ho : n * 32 ≤ o) : HR (w.setCells g o vs) (.slice (some ⟨g, 0, none⟩) n cap) L := by
  induction vs generalizing w o with
  | nil => exact h
  | cons v r ih =>
    rw [World.setCells]
    refine ih ?_ (o + 1) (by omega)
    obtain ⟨h1, h2⟩ := h
    refine ⟨h1, ?_⟩
    rcases h2 with ⟨e, _⟩ | ⟨g', cap', cur, e, hb, hg, hcap, hm, hs, ht⟩
    · simp at e
    · simp only [Value.slice.injEq, Option.some.injEq, Addr.mk.injEq, and_true] at e
      obtain ⟨rfl, rfl, rfl⟩ := e
      refine .inr ⟨g, cap, cur.setIfInBounds o v, rfl, hb, heap_setCell_same w g o cur _ v hg, hcap, hm, by simpa using hs, ?_⟩
      rw [Array.toList_setIfInBounds, ← ht, List.take_set_of_le ho]
theorem infoHs : (Tryd.prog.info? 32).map (fun i => (i.zero.map (fun z => z.cells.size), i.size, i.bytes)) = some (some 32, 32, 32) := by kernel_rfl
theorem info_hs : ∃ i z, Tryd.prog.info? 32 = some i ∧ i.zero = some z ∧ z.cells.size = 32 ∧ i.size = 32 ∧ i.bytes = 32 := by
  have h := infoHs
  cases e : Tryd.prog.info? 32 with
  | none => rw [e] at h; simp at h
  | some i =>
    rw [e] at h
    cases ez : i.zero with
    | none => rw [Option.map_some, ez] at h; simp at h
    | some z => rw [Option.map_some, ez] at h; simp at h; exact ⟨i, z, rfl, ez, h.1, h.2.1, h.2.2⟩
/-- A tree's box: its depth and its rows; S: the blocks that may be its own. -/
structure Rw (w : World) (g : Nat) (S : Nat → Prop) (d : Nat) (M : Nat → List Hs) : Prop where
  lt : g < w.heap.size
  mine : S g
  low : ∀ k, S k → k < w.heap.size
  fr : ∀ o, w.frozen? ⟨g, o, none⟩ = false
  c0 : w.cell? ⟨g, 0, none⟩ = some (.int .i64 d)
  rows : ∃ V : Nat → Value, (∀ k, k < 33 → w.cell? ⟨g, k + 1, none⟩ = some (V k) ∧ HR w (V k) (M k) ∧ ∀ b, (V k).ownBlock = some b → S b ∧ b ≠ g) ∧ ∀ j k b, j < 33 → k < 33 → (V j).ownBlock = some b → (V k).ownBlock = some b → j = k
theorem Rw.of {w w' : World} {g : Nat} {S : Nat → Prop} {d : Nat} {M : Nat → List Hs} (h : Rw w g S d M) (hs : w.heap.size ≤ w'.heap.size) (hb : ∀ k, S k → w'.heap[k]? = w.heap[k]?) : Rw w' g S d M := by
  obtain ⟨lt, mine, low, fr, c0, V, hV, hd⟩ := h
  refine ⟨Nat.lt_of_lt_of_le lt hs, mine, fun k hk => Nat.lt_of_lt_of_le (low k hk) hs, fun o => (World.frozen?_of_block (w := w) (a := ⟨g, o, none⟩) (hb g mine)).trans (fr o), (World.cell?_of_block (w := w) (a := ⟨g, 0, none⟩) (hb g mine)).trans c0, V, fun k hk => ?_, hd⟩
  obtain ⟨h1, h2, h3⟩ := hV k hk
  exact ⟨(World.cell?_of_block (w := w) (a := ⟨g, k + 1, none⟩) (hb g mine)).trans h1, h2.of fun b hb' => hb b (h3 b hb').1, h3⟩
theorem Rw.below {w w' : World} {g : Nat} {S : Nat → Prop} {d : Nat} {M : Nat → List Hs} (h : Rw w g S d M) (hb : Below w.heap.size w w') : Rw w' g S d M := h.of hb.size fun k hk => hb.block k (h.low k hk)
theorem Rw.congr {w : World} {g : Nat} {S : Nat → Prop} {d : Nat} {M M' : Nat → List Hs} (h : Rw w g S d M) (e : ∀ k, k < 33 → M k = M' k) : Rw w g S d M' := by
  obtain ⟨lt, mine, low, fr, c0, V, hV, hd⟩ := h
  exact ⟨lt, mine, low, fr, c0, V, fun k hk => by rw [← e k hk]; exact hV k hk, hd⟩
/-- One row: the cell that holds it, and what it holds. -/
theorem Rw.row {w : World} {g : Nat} {S : Nat → Prop} {d : Nat} {M : Nat → List Hs} (h : Rw w g S d M) {k : Nat} (hk : k < 33) : ∃ v, w.cell? ⟨g, k + 1, none⟩ = some v ∧ HR w v (M k) ∧ ∀ b, v.ownBlock = some b → S b ∧ b ≠ g := by
  obtain ⟨_, _, _, _, _, V, hV, _⟩ := h
  exact ⟨V k, hV k hk⟩
/-- Only blocks of S may have turned; others may have come. -/
structure Mv (S S' : Nat → Prop) (w w' : World) : Prop where
  os : w'.os = w.os
  tape : w'.tape = w.tape
  output : w'.output = w.output
  size : w.heap.size ≤ w'.heap.size
  block : ∀ k, k < w.heap.size → ¬ S k → w'.heap[k]? = w.heap[k]?
  own : ∀ k, S' k → S k ∨ w.heap.size ≤ k
theorem Mv.refl (S : Nat → Prop) (w : World) : Mv S S w w := ⟨rfl, rfl, rfl, Nat.le_refl _, fun _ _ _ => rfl, fun _ h => .inl h⟩
theorem Mv.trans {S S' S'' : Nat → Prop} {a b c : World} (h : Mv S S' a b) (k : Mv S' S'' b c) : Mv S S'' a c := by
  refine ⟨k.os.trans h.os, k.tape.trans h.tape, k.output.trans h.output, Nat.le_trans h.size k.size, fun i hi hne => ?_, fun i hi => ?_⟩
  · refine (k.block i (Nat.lt_of_lt_of_le hi h.size) fun e => ?_).trans (h.block i hi hne)
    rcases h.own i e with e | e
    · exact hne e
    · omega
  · rcases k.own i hi with e | e
    · exact h.own i e
    · exact .inr (Nat.le_trans h.size e)
theorem Mv.of {S : Nat → Prop} {w w' : World} (h : Below w.heap.size w w') : Mv S S w w' := ⟨h.os, h.tape, h.output, h.size, fun k hk _ => h.block k hk, fun _ e => .inl e⟩
theorem Mv.on {S S' : Nat → Prop} {a w w' : World} (h : Mv S S' a w) (k : Below w.heap.size w w') : Mv S S' a w' := h.trans (Mv.of k)
theorem Mv.below {S S' : Nat → Prop} {a w w' : World} (h : Mv S S' w w') (hb : Below a.heap.size a w) (hS : ∀ k, S k → a.heap.size ≤ k) : Below a.heap.size a w' :=
  hb.trans ⟨h.os, h.tape, h.output, h.size, fun k hk => h.block k (Nat.lt_of_lt_of_le hk hb.size) fun e => by have := hS k e; omega⟩
/-- What is another's stays. -/
theorem Mv.far {S S' T : Nat → Prop} {w w' : World} (h : Mv S S' w w') (hT : ∀ k, T k → k < w.heap.size) (hd : ∀ k, T k → ¬ S k) : ∀ k, T k → w'.heap[k]? = w.heap[k]? := fun k hk => h.block k (hT k hk) (hd k hk)
theorem Mv.apart {S S' T : Nat → Prop} {w w' : World} (h : Mv S S' w w') (hT : ∀ k, T k → k < w.heap.size) (hd : ∀ k, T k → ¬ S k) : ∀ k, T k → ¬ S' k := fun k hk e => by
  rcases h.own k e with e | e
  · exact hd k hk e
  · have := hT k hk; omega
/-- One list for another. -/
def upd (M : Nat → List Hs) (k : Nat) (l : List Hs) : Nat → List Hs := fun j => if j = k then l else M j
/-- A row is written, or comes anew, and its cell is stored. -/
theorem Rw.put {w w1 w2 : World} {g : Nat} {S : Nat → Prop} {d : Nat} {M : Nat → List Hs} (h : Rw w g S d M) (hb : Below w.heap.size w w1) {k : Nat} (hk : k < 33) {v v' : Value} {l : List Hs} (hc : w.cell? ⟨g, k + 1, none⟩ = some v) (hown : HR w2 v' l) (hg : w1.grownBy w2 v.ownBlock)
    (hn : ∀ b, v'.ownBlock = some b → v.ownBlock = some b ∨ w1.heap.size ≤ b) :
    w2.cell? ⟨g, k + 1, none⟩ = some v ∧ w2.frozen? ⟨g, k + 1, none⟩ = false ∧ ∃ S', Rw (w2.setCell ⟨g, k + 1, none⟩ v') g S' d (upd M k l) ∧ Mv S S' w (w2.setCell ⟨g, k + 1, none⟩ v') := by
  have h1 := h.below hb
  obtain ⟨lt, mine, low, fr, c0, V, hV, hd⟩ := h1
  have hc1 : w1.cell? ⟨g, k + 1, none⟩ = some v := (World.cell?_of_block (w := w) (a := ⟨g, k + 1, none⟩) (hb.block g h.lt)).trans hc
  have hvk : V k = v := by have := (hV k hk).1; rw [hc1] at this; injection this with this; exact this.symm
  have hvg : some g ≠ v.ownBlock := fun e => ((hV k hk).2.2 g (by rw [hvk]; exact e.symm)).2 rfl
  have hgb : w2.heap[g]? = w1.heap[g]? := hg.block g lt hvg
  have e2 : ∀ o, w2.cell? ⟨g, o, none⟩ = w1.cell? ⟨g, o, none⟩ := fun o => World.cell?_of_block (w := w1) (a := ⟨g, o, none⟩) hgb
  have f2 : ∀ o, w2.frozen? ⟨g, o, none⟩ = false := fun o => (World.frozen?_of_block (w := w1) (a := ⟨g, o, none⟩) hgb).trans (fr o)
  have hz : (w2.setCell ⟨g, k + 1, none⟩ v').heap.size = w2.heap.size := by simp [World.setCell]
  refine ⟨(e2 _).trans hc1, f2 _, fun b => S b ∨ (w1.heap.size ≤ b ∧ b < w2.heap.size), ⟨?_, .inl mine, ?_, fun o => by simp [go_sem, f2], ?_, fun j => if j = k then v' else V j, fun j hj => ?_, ?_⟩, ⟨?_, ?_, ?_, ?_, ?_, ?_⟩⟩
  · rw [hz]; exact Nat.lt_of_lt_of_le lt hg.size
  · rintro b (e | e)
    · rw [hz]; exact Nat.lt_of_lt_of_le (low b e) hg.size
    · rw [hz]; exact e.2
  · have : w2.cell? ⟨g, 0, none⟩ = some (.int .i64 d) := (e2 0).trans c0
    simp [go_sem, this]
  · obtain ⟨q1, q2, q3⟩ := hV j hj
    have hcj : w2.cell? ⟨g, j + 1, none⟩ = some (V j) := (e2 _).trans q1
    by_cases e : j = k
    · subst e
      simp only [upd, if_true]
      refine ⟨by simp [go_sem, hcj], hown.of fun b hb' => ?_, fun b hb' => ?_⟩
      · refine Below.heap_setCell _ _ _ _ ?_
        simp only []
        rcases hn b hb' with e | e
        · rintro rfl; exact hvg e.symm
        · omega
      · rcases hn b hb' with e | e
        · rw [← hvk] at e
          exact ⟨.inl (q3 b e).1, (q3 b e).2⟩
        · exact ⟨.inr ⟨e, (hown.lt b hb').2⟩, by omega⟩
    · simp only [upd, if_neg e]
      refine ⟨by simp [go_sem, hcj], (q2.of fun b hb' => ?_), fun b hb' => ⟨.inl (q3 b hb').1, (q3 b hb').2⟩⟩
      rw [Below.heap_setCell _ _ _ _ (q3 b hb').2]
      exact hg.block b (low b (q3 b hb').1) fun e' => e (hd j k b hj hk hb' (by rw [hvk]; exact e'.symm))
  · intro i j b hi hj h1 h2
    by_cases ei : i = k
    · by_cases ej : j = k
      · omega
      · exfalso
        subst ei
        simp only [if_true] at h1
        simp only [if_neg ej] at h2
        rcases hn b h1 with e | e
        · exact ej (hd j i b hj hi h2 (by rw [hvk]; exact e))
        · have := low b ((hV j hj).2.2 b h2).1; omega
    · by_cases ej : j = k
      · exfalso
        subst ej
        simp only [if_true] at h2
        simp only [if_neg ei] at h1
        rcases hn b h2 with e | e
        · exact ei (hd i j b hi hj h1 (by rw [hvk]; exact e))
        · have := low b ((hV i hi).2.2 b h1).1; omega
      · simp only [if_neg ei] at h1
        simp only [if_neg ej] at h2
        exact hd i j b hi hj h1 h2
  · exact hg.os.trans hb.os
  · exact hg.tape.trans hb.tape
  · exact hg.output.trans hb.output
  · rw [hz]; exact Nat.le_trans hb.size hg.size
  · intro b hb1 hb2
    have hbg : b ≠ g := by rintro rfl; exact hb2 h.mine
    rw [Below.heap_setCell _ _ _ _ hbg, hg.block b (Nat.lt_of_lt_of_le hb1 hb.size) fun e => hb2 ((hV k hk).2.2 b (by rw [hvk]; exact e.symm)).1, hb.block b hb1]
  · rintro b (e | e)
    · exact .inl e
    · exact .inr (Nat.le_trans hb.size e.1)
/-- A tree of a depth with these leaves. -/
structure Tr (w : World) (g : Nat) (S : Nat → Prop) (d : Nat) (L : List Hs) : Prop where
  dep : d ≤ 32
  len : L.length ≤ 2 ^ d
  few : L.length ≤ 1000
  ok : Hoks L
  box : Rw w g S d (lv L)
theorem Tr.of {w w' : World} {g : Nat} {S : Nat → Prop} {d : Nat} {L : List Hs} (h : Tr w g S d L) (hs : w.heap.size ≤ w'.heap.size) (hb : ∀ k, S k → w'.heap[k]? = w.heap[k]?) : Tr w' g S d L := ⟨h.dep, h.len, h.few, h.ok, h.box.of hs hb⟩
theorem Tr.below {w w' : World} {g : Nat} {S : Nat → Prop} {d : Nat} {L : List Hs} (h : Tr w g S d L) (hb : Below w.heap.size w w') : Tr w' g S d L := ⟨h.dep, h.len, h.few, h.ok, h.box.below hb⟩
theorem Tr.far {w w' : World} {g : Nat} {S S1 S1' : Nat → Prop} {d : Nat} {L : List Hs} (h : Tr w g S d L) (m : Mv S1 S1' w w') (hd : ∀ k, S k → ¬ S1 k) : Tr w' g S d L := h.of m.size fun k hk => m.block k (h.box.low k hk) (hd k hk)
theorem Hl.far {w w' : World} {ao : Option Addr} {L : List Hs} {S S' : Nat → Prop} (h : Hl w ao L) (m : Mv S S' w w') (hd : ∀ k, blk ao = some k → ¬ S k) : Hl w' ao L := h.of m.size fun k hk hl => m.block k hl (hd k hk)
end Go.Proofs.YtlkmebimgpigjaaDoor
