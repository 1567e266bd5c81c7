/- What StagePlays holds together: the maps' pointers, the document's rows now, and all that they ever were. -/
import Derived.Test.YtnjijnphjiiceaaStgRows
namespace Go.Proofs.Ytnjijnphjiiceaa
set_option linter.unusedSimpArgs false
set_option linter.unusedVariables false
set_option linter.unusedSectionVars false
open Go.RowKit Go.Lib
attribute [local go_sem] setCell_drewN alloc_drewN

/-- Two rows' values, each, one behind the other. -/
def hC (H : List (Value × Value)) : List Value := H.flatMap fun u => [u.1, u.2]
theorem hC_cons (x : Value × Value) (H : List (Value × Value)) : hC (x :: H) = x.1 :: x.2 :: hC H := rfl
theorem hC_append (A B : List (Value × Value)) : hC (A ++ B) = hC A ++ hC B := by simp [hC]
theorem hC_one (x : Value × Value) : hC [x] = [x.1, x.2] := rfl
theorem hC_length : ∀ H : List (Value × Value), (hC H).length = H.length * 2
  | [] => rfl
  | x :: r => by rw [hC_cons]; simp only [List.length_cons, hC_length r]; omega
theorem hC_get : ∀ (H : List (Value × Value)) (j : Nat) (x : Value × Value), H[j]? = some x → (hC H)[j * 2]? = some x.1 ∧ (hC H)[j * 2 + 1]? = some x.2
  | [], j, x, h => by simp at h
  | y :: r, 0, x, h => by simp at h; subst h; rw [hC_cons]; exact ⟨rfl, rfl⟩
  | y :: r, j + 1, x, h => by
    have ih := hC_get r j x (by simpa using h)
    rw [hC_cons, show (j + 1) * 2 = j * 2 + 1 + 1 by omega]
    exact ih
theorem hC_take : ∀ (H : List (Value × Value)) (n : Nat), (hC H).take (n * 2) = hC (H.take n)
  | [], n => by simp [hC]
  | x :: r, 0 => rfl
  | x :: r, n + 1 => by
    rw [hC_cons, show (n + 1) * 2 = n * 2 + 1 + 1 by omega, List.take_succ_cons, List.take_succ_cons, List.take_succ_cons, hC_cons, hC_take r n]
/-- All that two maps ever were, behind each deed. -/
def hisL (a0 a1 : Nat) (X : Nat → Kvs) (ds : Deeds) : List (Kvs × Kvs) := (List.range ds.length).map fun i => (undoN kyInt (ds.drop i) X a0, undoN kyInt (ds.drop i) X a1)
theorem hisL_length (a0 a1 : Nat) (X : Nat → Kvs) (ds : Deeds) : (hisL a0 a1 X ds).length = ds.length := by simp [hisL]
theorem hisL_get (a0 a1 : Nat) (X : Nat → Kvs) (ds : Deeds) {i : Nat} (h : i < ds.length) : (hisL a0 a1 X ds)[i]? = some (undoN kyInt (ds.drop i) X a0, undoN kyInt (ds.drop i) X a1) := by
  unfold hisL
  rw [List.getElem?_map, List.getElem?_range h]
  rfl
theorem hisL_snoc (a0 a1 : Nat) {X X' : Nat → Kvs} (ds : Deeds) (d : Deed Int Int) (h : undo1 kyInt d X' = X) : hisL a0 a1 X' (ds ++ [d]) = hisL a0 a1 X ds ++ [(X a0, X a1)] := by
  apply List.ext_getElem?
  intro i
  by_cases hi : i < ds.length
  · rw [hisL_get _ _ _ _ (by simp; omega), List.getElem?_append_left (by rw [hisL_length]; exact hi), hisL_get _ _ _ _ hi, List.drop_append_of_le_length (by omega), undoN_snoc, h]
  · by_cases he : i = ds.length
    · subst he
      rw [hisL_get _ _ _ _ (by simp), List.getElem?_append_right (by rw [hisL_length]; exact Nat.le_refl _), hisL_length, Nat.sub_self, List.drop_left]
      show some (undo1 kyInt d X' a0, undo1 kyInt d X' a1) = _
      rw [h]
      rfl
    · rw [List.getElem?_eq_none (by rw [hisL_length]; simp; omega), List.getElem?_eq_none (by rw [List.length_append, hisL_length]; simp; omega)]
theorem hisL_take (a0 a1 : Nat) (X : Nat → Kvs) (ds : Deeds) {n : Nat} (h : n ≤ ds.length) : hisL a0 a1 (undoN kyInt (ds.drop n) X) (ds.take n) = (hisL a0 a1 X ds).take n := by
  apply List.ext_getElem?
  intro i
  by_cases hi : i < n
  · have hd : (ds.take n).drop i ++ ds.drop n = ds.drop i := by
      have h2 := congrArg (List.drop i) (List.take_append_drop n ds)
      rwa [List.drop_append_of_le_length (by rw [List.length_take]; omega)] at h2
    rw [hisL_get _ _ _ _ (by rw [List.length_take]; omega), ← undoN_append, hd, List.getElem?_take, if_pos hi, hisL_get _ _ _ _ (by omega)]
  · rw [List.getElem?_eq_none (by rw [hisL_length, List.length_take]; omega), List.getElem?_eq_none (by rw [List.length_take, hisL_length]; omega)]
/-- A row of pairs whose block is among N. -/
def RowN (w : World) (N : Nat → Prop) (v : Value) (L : Kvs) : Prop := PRow w 0 v L ∧ ∀ k, v.ownBlock = some k → N k
theorem RowN.of {w w' : World} {N N' : Nat → Prop} {v : Value} {L : Kvs} (h : RowN w N v L) (hb : ∀ k, N k → w'.heap[k]? = w.heap[k]?) (hN : ∀ k, N k → N' k) : RowN w' N' v L := ⟨h.1.of fun k hk => hb k (h.2 k hk), fun k hk => hN k (h.2 k hk)⟩
/-- What StagePlays holds: gm: the maps' pointers; gn: the rows now; vw: the rows that were. N: blocks of the document's rows. -/
structure Hold (w0 w : World) (S N : Nat → Prop) (gm gn a0 a1 : Nat) (v0 v1 : Value) (L0 L1 : Kvs) (vw : Value) (H : List (Value × Value)) (R : List (Kvs × Kvs)) : Prop where
  cm0 : w.cell? ⟨gm, 0, none⟩ = some (.pointer (some ⟨a0, 0, none⟩))
  cm1 : w.cell? ⟨gm, 1, none⟩ = some (.pointer (some ⟨a1, 0, none⟩))
  cn0 : w.cell? ⟨gn, 0, none⟩ = some v0
  cn1 : w.cell? ⟨gn, 1, none⟩ = some v1
  fn : ∀ o, w.frozen? ⟨gn, o, none⟩ = false
  r0 : RowN w N v0 L0
  r1 : RowN w N v1 L1
  row : w.ownsRow w0.heap.size 33 2 vw H.length (hC H)
  len : H.length = R.length
  hist : ∀ (i : Nat) u, H[i]? = some u → ∃ y, R[i]? = some y ∧ RowN w N u.1 y.1 ∧ RowN w N u.2 y.2
  sepN : ∀ k, N k → k < w.heap.size ∧ ¬ S k ∧ k ≠ gn ∧ vw.ownBlock ≠ some k
  sepS : ¬ S gn ∧ ¬ S gm ∧ gn ≠ gm ∧ gm < w.heap.size ∧ gn < w.heap.size
  sepW : ∀ k, vw.ownBlock = some k → ¬ S k ∧ k ≠ gn ∧ k ≠ gm
  lo : w0.heap.size ≤ gn
section
variable {w0 w w' : World} {S N : Nat → Prop} {gm gn a0 a1 : Nat} {v0 v1 : Value} {L0 L1 : Kvs} {vw : Value} {H : List (Value × Value)} {R : List (Kvs × Kvs)}
/-- Nothing of it turns. -/
theorem Hold.kept {S' : Nat → Prop} (h : Hold w0 w S N gm gn a0 a1 v0 v1 L0 L1 vw H R) (hs : w.heap.size ≤ w'.heap.size) (hb : ∀ k, k < w.heap.size → ¬ S k → w'.heap[k]? = w.heap[k]?) (hS : ∀ k, k < w.heap.size → ¬ S k → ¬ S' k) : Hold w0 w' S' N gm gn a0 a1 v0 v1 L0 L1 vw H R := by
  have hm := hb gm h.sepS.2.2.2.1 h.sepS.2.1
  have hn := hb gn h.sepS.2.2.2.2 h.sepS.1
  have hN : ∀ k, N k → w'.heap[k]? = w.heap[k]? := fun k hk => hb k (h.sepN k hk).1 (h.sepN k hk).2.1
  refine ⟨(World.cell?_of_block (w := w) (a := ⟨gm, 0, none⟩) hm).trans h.cm0, (World.cell?_of_block (w := w) (a := ⟨gm, 1, none⟩) hm).trans h.cm1, (World.cell?_of_block (w := w) (a := ⟨gn, 0, none⟩) hn).trans h.cn0, (World.cell?_of_block (w := w) (a := ⟨gn, 1, none⟩) hn).trans h.cn1,
    fun o => (World.frozen?_of_block (w := w) (a := ⟨gn, o, none⟩) hn).trans (h.fn o), h.r0.of hN fun _ e => e, h.r1.of hN fun _ e => e, ?_, h.len, fun i u hu => ?_, fun k hk => ?_, ?_, fun k hk => ?_, h.lo⟩
  · refine ⟨h.row.1, ?_⟩
    rcases h.row.2 with hh | ⟨g, cap, cur, rfl, hB, hg, r⟩
    · exact .inl hh
    · exact .inr ⟨g, cap, cur, rfl, hB, by rw [hb g (Array.getElem?_eq_some_iff.1 hg).1 (h.sepW g rfl).1]; exact hg, r⟩
  · obtain ⟨y, e, r1, r2⟩ := h.hist i u hu
    exact ⟨y, e, r1.of hN fun _ e => e, r2.of hN fun _ e => e⟩
  · obtain ⟨h1, h2, h3, h4⟩ := h.sepN k hk
    exact ⟨Nat.lt_of_lt_of_le h1 hs, hS k h1 h2, h3, h4⟩
  · obtain ⟨h1, h2, h3, h4, h5⟩ := h.sepS
    exact ⟨hS _ h5 h1, hS _ h4 h2, h3, Nat.lt_of_lt_of_le h4 hs, Nat.lt_of_lt_of_le h5 hs⟩
  · obtain ⟨h1, h2, h3⟩ := h.sepW k hk
    exact ⟨hS _ (World.ownsRow.lt h.row k hk).2 h1, h2, h3⟩
theorem Hold.mv {S' : Nat → Prop} (h : Hold w0 w S N gm gn a0 a1 v0 v1 L0 L1 vw H R) (m : Mv S S' w w') : Hold w0 w' S' N gm gn a0 a1 v0 v1 L0 L1 vw H R :=
  h.kept m.size m.block fun k hk hn e => (m.own k e).elim hn fun e => by omega
theorem Hold.below (h : Hold w0 w S N gm gn a0 a1 v0 v1 L0 L1 vw H R) (hb : Below w.heap.size w w') : Hold w0 w' S N gm gn a0 a1 v0 v1 L0 L1 vw H R := h.mv (Mv.of hb)
/-- A row more that is the document's. -/
theorem Hold.wide (h : Hold w0 w S N gm gn a0 a1 v0 v1 L0 L1 vw H R) (hb : Below w.heap.size w w') (hS : ∀ k, S k → k < w.heap.size) {u : Value} {M : Kvs} (hu : PRow w' w.heap.size u M) :
    ∃ N' : Nat → Prop, (∀ k, N k → N' k) ∧ Hold w0 w' S N' gm gn a0 a1 v0 v1 L0 L1 vw H R ∧ RowN w' N' u M := by
  have h' := h.below hb
  refine ⟨fun k => N k ∨ u.ownBlock = some k, fun k e => .inl e, ⟨h'.cm0, h'.cm1, h'.cn0, h'.cn1, h'.fn, h'.r0.of (fun _ _ => rfl) fun _ e => .inl e, h'.r1.of (fun _ _ => rfl) fun _ e => .inl e, h'.row, h'.len, fun i x hx => ?_, fun k hk => ?_, h'.sepS, h'.sepW, h'.lo⟩, hu.lower (Nat.zero_le _), fun k hk => .inr hk⟩
  · obtain ⟨y, e, r1, r2⟩ := h'.hist i x hx
    exact ⟨y, e, r1.of (fun _ _ => rfl) fun _ e => .inl e, r2.of (fun _ _ => rfl) fun _ e => .inl e⟩
  · rcases hk with hk | hk
    · exact h'.sepN k hk
    · obtain ⟨l1, l2⟩ := World.ownsRow.lt hu k hk
      refine ⟨l2, fun e => by have := hS k e; omega, fun e => by have := h.sepS.2.2.2.2; omega, fun e => by have := (World.ownsRow.lt h.row k e).2; omega⟩
/-- One row for another. -/
theorem Hold.put0 (h : Hold w0 w S N gm gn a0 a1 v0 v1 L0 L1 vw H R) {u : Value} {M : Kvs} (hu : RowN w N u M) : Hold w0 (w.setCell ⟨gn, 0, none⟩ u) S N gm gn a0 a1 u v1 M L1 vw H R := by
  have ho : ∀ k, k ≠ gn → (w.setCell ⟨gn, 0, none⟩ u).heap[k]? = w.heap[k]? := fun k hk => Below.heap_setCell _ _ _ _ hk
  have hz : (w.setCell ⟨gn, 0, none⟩ u).heap.size = w.heap.size := by simp [World.setCell]
  have hN : ∀ k, N k → (w.setCell ⟨gn, 0, none⟩ u).heap[k]? = w.heap[k]? := fun k hk => ho k (h.sepN k hk).2.2.1
  have hm := ho gm h.sepS.2.2.1.symm
  have c0 := h.cn0
  have c1 := h.cn1
  have f := h.fn
  refine ⟨(World.cell?_of_block (w := w) (a := ⟨gm, 0, none⟩) hm).trans h.cm0, (World.cell?_of_block (w := w) (a := ⟨gm, 1, none⟩) hm).trans h.cm1, by simp [go_sem, c0], by simp [go_sem, c1], fun o => by simp [go_sem, f], hu.of hN fun _ e => e, h.r1.of hN fun _ e => e, ?_, h.len, fun i x hx => ?_, fun k hk => ?_, ?_, h.sepW, h.lo⟩
  · refine ⟨h.row.1, ?_⟩
    rcases h.row.2 with hh | ⟨g, cap, cur, rfl, hB, hg, r⟩
    · exact .inl hh
    · exact .inr ⟨g, cap, cur, rfl, hB, by rw [ho g (h.sepW g rfl).2.1]; exact hg, r⟩
  · obtain ⟨y, e, r1, r2⟩ := h.hist i x hx
    exact ⟨y, e, r1.of hN fun _ e => e, r2.of hN fun _ e => e⟩
  · rw [hz]; exact h.sepN k hk
  · rw [hz]; exact h.sepS
theorem Hold.put1 (h : Hold w0 w S N gm gn a0 a1 v0 v1 L0 L1 vw H R) {u : Value} {M : Kvs} (hu : RowN w N u M) : Hold w0 (w.setCell ⟨gn, 1, none⟩ u) S N gm gn a0 a1 v0 u L0 M vw H R := by
  have ho : ∀ k, k ≠ gn → (w.setCell ⟨gn, 1, none⟩ u).heap[k]? = w.heap[k]? := fun k hk => Below.heap_setCell _ _ _ _ hk
  have hz : (w.setCell ⟨gn, 1, none⟩ u).heap.size = w.heap.size := by simp [World.setCell]
  have hN : ∀ k, N k → (w.setCell ⟨gn, 1, none⟩ u).heap[k]? = w.heap[k]? := fun k hk => ho k (h.sepN k hk).2.2.1
  have hm := ho gm h.sepS.2.2.1.symm
  have c0 := h.cn0
  have c1 := h.cn1
  have f := h.fn
  refine ⟨(World.cell?_of_block (w := w) (a := ⟨gm, 0, none⟩) hm).trans h.cm0, (World.cell?_of_block (w := w) (a := ⟨gm, 1, none⟩) hm).trans h.cm1, by simp [go_sem, c0], by simp [go_sem, c1], fun o => by simp [go_sem, f], h.r0.of hN fun _ e => e, hu.of hN fun _ e => e, ?_, h.len, fun i x hx => ?_, fun k hk => ?_, ?_, h.sepW, h.lo⟩
  · refine ⟨h.row.1, ?_⟩
    rcases h.row.2 with hh | ⟨g, cap, cur, rfl, hB, hg, r⟩
    · exact .inl hh
    · exact .inr ⟨g, cap, cur, rfl, hB, by rw [ho g (h.sepW g rfl).2.1]; exact hg, r⟩
  · obtain ⟨y, e, r1, r2⟩ := h.hist i x hx
    exact ⟨y, e, r1.of hN fun _ e => e, r2.of hN fun _ e => e⟩
  · rw [hz]; exact h.sepN k hk
  · rw [hz]; exact h.sepS
/-- The journal doesn't see it. -/
theorem Hold.st (h : Hold w0 w S N gm gn a0 a1 v0 v1 L0 L1 vw H R) {Z : Nat → Prop} {bj : Nat} {A : List Nat} {mb : Nat → Nat} {X : Nat → Kvs} {ds : Deeds} (hs : St w S Z bj A mb X ds) (o : Nat) (u : Value) : St (w.setCell ⟨gn, o, none⟩ u) S Z bj A mb X ds :=
  hs.of (by simp [World.setCell]) fun k hk => Below.heap_setCell _ _ _ _ (by rintro rfl; exact h.sepS.1 hk)
/-- What is now is remembered. -/
theorem Hold.more (h : Hold w0 w S N gm gn a0 a1 v0 v1 L0 L1 vw H R) (hS : ∀ k, S k → k < w.heap.size) {o : Obj} {vw' : Value} (r1 : w'.ownsRow w0.heap.size 33 2 vw' (H.length + 1) (hC H ++ [v0, v1])) (r2 : (w.alloc o).grownBy w' vw.ownBlock) (r4 : vw'.ownBlock = vw.ownBlock ∨ vw'.ownBlock = some (w.alloc o).heap.size) :
    Hold w0 w' S N gm gn a0 a1 v0 v1 L0 L1 vw' (H ++ [(v0, v1)]) (R ++ [(L0, L1)]) ∧ (∀ k, S k → w'.heap[k]? = w.heap[k]?) ∧ ∀ k, N k → w'.heap[k]? = w.heap[k]? := by
  have hs : w.heap.size ≤ w'.heap.size := by have := r2.size; rw [World.size_alloc] at this; omega
  have hb : ∀ k, k < w.heap.size → vw.ownBlock ≠ some k → w'.heap[k]? = w.heap[k]? := fun k hk hn =>
    (r2.block k (by rw [World.size_alloc]; omega) (fun e => hn e.symm)).trans (Below.heap_alloc _ _ _ hk)
  have hN : ∀ k, N k → w'.heap[k]? = w.heap[k]? := fun k hk => hb k (h.sepN k hk).1 (h.sepN k hk).2.2.2
  have hm := hb gm h.sepS.2.2.2.1 (fun e => (h.sepW gm e).2.2 rfl)
  have hn := hb gn h.sepS.2.2.2.2 (fun e => (h.sepW gn e).2.1 rfl)
  have hnew : ∀ k, vw'.ownBlock = some k → vw.ownBlock = some k ∨ w.heap.size ≤ k := fun k hk => by
    rcases r4 with e | e
    · exact .inl (e ▸ hk)
    · rw [e] at hk; simp at hk; exact .inr (by omega)
  refine ⟨⟨(World.cell?_of_block (w := w) (a := ⟨gm, 0, none⟩) hm).trans h.cm0, (World.cell?_of_block (w := w) (a := ⟨gm, 1, none⟩) hm).trans h.cm1, (World.cell?_of_block (w := w) (a := ⟨gn, 0, none⟩) hn).trans h.cn0, (World.cell?_of_block (w := w) (a := ⟨gn, 1, none⟩) hn).trans h.cn1,
    fun o => (World.frozen?_of_block (w := w) (a := ⟨gn, o, none⟩) hn).trans (h.fn o), h.r0.of hN fun _ e => e, h.r1.of hN fun _ e => e, ?_, by simp [h.len], fun i u hu => ?_, fun k hk => ?_, ?_, fun k hk => ?_, h.lo⟩, fun k hk => hb k (hS k hk) fun e => (h.sepW k e).1 hk, hN⟩
  · rw [List.length_append, hC_append, hC_one]; exact r1
  · by_cases hi : i < H.length
    · rw [List.getElem?_append_left hi] at hu
      obtain ⟨y, e, q1, q2⟩ := h.hist i u hu
      exact ⟨y, by rw [List.getElem?_append_left (by rw [← h.len]; exact hi)]; exact e, q1.of hN fun _ e => e, q2.of hN fun _ e => e⟩
    · have hl := (List.getElem?_eq_some_iff.1 hu).1
      simp at hl
      obtain rfl : i = H.length := by omega
      rw [List.getElem?_append_right (Nat.le_refl _), Nat.sub_self] at hu
      simp at hu
      subst hu
      exact ⟨(L0, L1), by rw [h.len, List.getElem?_append_right (Nat.le_refl _), Nat.sub_self]; rfl, h.r0.of hN fun _ e => e, h.r1.of hN fun _ e => e⟩
  · obtain ⟨h1, h2, h3, h4⟩ := h.sepN k hk
    exact ⟨Nat.lt_of_lt_of_le h1 hs, h2, h3, fun e => (hnew k e).elim h4 fun e => by omega⟩
  · obtain ⟨h1, h2, h3, h4, h5⟩ := h.sepS
    exact ⟨h1, h2, h3, Nat.lt_of_lt_of_le h4 hs, Nat.lt_of_lt_of_le h5 hs⟩
  · rcases hnew k hk with e | e
    · exact h.sepW k e
    · exact ⟨fun e2 => by have := hS k e2; omega, fun e2 => by have := h.sepS.2.2.2.2; omega, fun e2 => by have := h.sepS.2.2.2.1; omega⟩
/-- Only the first ones are remembered. -/
theorem Hold.cut {ao : Option Addr} {cap : Nat} (h : Hold w0 w S N gm gn a0 a1 v0 v1 L0 L1 (.slice ao H.length cap) H R) {n : Nat} (hn : n ≤ H.length) : Hold w0 w S N gm gn a0 a1 v0 v1 L0 L1 (.slice ao n cap) (H.take n) (R.take n) := by
  have hl : (H.take n).length = n := by rw [List.length_take]; omega
  refine ⟨h.cm0, h.cm1, h.cn0, h.cn1, h.fn, h.r0, h.r1, ?_, by rw [List.length_take, List.length_take, h.len], fun i u hu => ?_, fun k hk => ?_, h.sepS, fun k hk => ?_, h.lo⟩
  · refine ⟨hC_length _, ?_⟩
    rw [hl]
    rcases h.row.2 with ⟨e, h0⟩ | ⟨g, cap', cur, e, hB, hg, hc, hm, hs, hx⟩
    · obtain rfl : n = 0 := by omega
      simp only [Value.slice.injEq] at e
      exact .inl ⟨by rw [e.1, e.2.2], rfl⟩
    · simp only [Value.slice.injEq, true_and] at e
      obtain ⟨rfl, rfl⟩ := e
      refine .inr ⟨g, cap, cur, rfl, hB, hg, Nat.le_trans hn hc, hm, hs, ?_⟩
      have h2 := congrArg (List.take (n * 2)) hx
      rw [List.take_take, Nat.min_eq_left (by omega), hC_take] at h2
      exact h2
  · have hi : i < n := by have := (List.getElem?_eq_some_iff.1 hu).1; omega
    rw [List.getElem?_take, if_pos hi] at hu
    obtain ⟨y, e, q⟩ := h.hist i u hu
    exact ⟨y, by rw [List.getElem?_take, if_pos hi]; exact e, q⟩
  · obtain ⟨h1, h2, h3, h4⟩ := h.sepN k hk
    exact ⟨h1, h2, h3, fun e => h4 (by cases ao with
      | none => cases e
      | some a => exact e)⟩
  · exact h.sepW k (by cases ao with
      | none => cases hk
      | some a => exact hk)
/-- Nothing is remembered. -/
theorem Hold.none (h : Hold w0 w S N gm gn a0 a1 v0 v1 L0 L1 vw H R) : Hold w0 w S N gm gn a0 a1 v0 v1 L0 L1 (.slice none 0 0) [] [] :=
  ⟨h.cm0, h.cm1, h.cn0, h.cn1, h.fn, h.r0, h.r1, World.ownsRow_nil _ _ _ _, rfl, fun i u hu => by simp at hu, fun k hk => by
    obtain ⟨h1, h2, h3, _⟩ := h.sepN k hk
    exact ⟨h1, h2, h3, fun e => by simp [Value.ownBlock] at e⟩, h.sepS, fun k hk => by simp [Value.ownBlock] at hk, h.lo⟩
theorem Hold.form (h : Hold w0 w S N gm gn a0 a1 v0 v1 L0 L1 vw H R) : ∃ ao cap, vw = .slice ao H.length cap ∧ H.length ≤ cap := by
  rcases h.row.2 with ⟨e, h0⟩ | ⟨g, cap, cur, e, _, _, hc, _⟩
  · exact ⟨Option.none, 0, by rw [e, h0], by omega⟩
  · exact ⟨_, cap, e, hc⟩
/-- One of them, where it lies. -/
theorem Hold.get {ao : Option Addr} {cap : Nat} (h : Hold w0 w S N gm gn a0 a1 v0 v1 L0 L1 (.slice ao H.length cap) H R) {n : Nat} {y : Kvs × Kvs} (hy : R[n]? = some y) :
    ∃ g u0 u1, ao = some ⟨g, 0, Option.none⟩ ∧ g ≠ gn ∧ w.cell? ⟨g, n * 2, Option.none⟩ = some u0 ∧ w.cell? ⟨g, n * 2 + 1, Option.none⟩ = some u1 ∧ RowN w N u0 y.1 ∧ RowN w N u1 y.2 := by
  have hn : n < H.length := by rw [h.len]; exact (List.getElem?_eq_some_iff.1 hy).1
  obtain ⟨y', e, q1, q2⟩ := h.hist n H[n] (List.getElem?_eq_getElem hn)
  obtain rfl : y = y' := Option.some.inj (hy.symm.trans e)
  obtain ⟨e1, e2⟩ := hC_get H n _ (List.getElem?_eq_getElem hn)
  have hr := h.row
  rcases h.row.2 with ⟨e, h0⟩ | ⟨g, cap', cur, e, _, hg, _⟩
  · omega
  · simp only [Value.slice.injEq, true_and] at e
    obtain ⟨rfl, rfl⟩ := e
    exact ⟨g, _, _, rfl, (h.sepW g rfl).2.1, by rw [World.ownsRow.cellAt hr _ (by omega)]; exact e1, by rw [World.ownsRow.cellAt hr _ (by omega)]; exact e2, q1, q2⟩
end
/-- The keys are numbers. -/
def KW (X : Nat → Kvs) : Prop := ∀ a, ∀ p ∈ X a, (Lit.int .i64 p.1).wf = true
theorem KW.up {X : Nat → Kvs} (h : KW X) (a : Nat) {L : Kvs} (hL : ∀ p ∈ L, (Lit.int .i64 p.1).wf = true) : KW (upX X a L) := fun b => by
  by_cases e : b = a
  · rw [e, upX_same]; exact hL
  · rw [upX_other _ e]; exact h b
theorem KW.put {X : Nat → Kvs} (h : KW X) (a : Nat) {k v : Int} (hk : (Lit.int .i64 k).wf = true) : KW (upX X a (putL kyInt k v (X a))) := h.up a fun p hp => by
  rcases mem_putL kyInt hp with rfl | hp
  · exact hk
  · exact h a p hp
theorem KW.del {X : Nat → Kvs} (h : KW X) (a : Nat) (k : Int) : KW (upX X a (delL k (X a))) := h.up a fun p hp => h a p (List.mem_filter.1 hp).1
theorem KW.undo {X : Nat → Kvs} (h : KW X) (ds : Deeds) (hd : ∀ d ∈ ds, (Lit.int .i64 d.k).wf = true) : KW (undoN kyInt ds X) := by
  induction ds with
  | nil => exact h
  | cons d r ih =>
    have ih := ih fun d hd' => hd d (by simp [hd'])
    show KW (undo1 kyInt d (undoN kyInt r X))
    refine ih.up _ fun p hp => ?_
    unfold undoL at hp
    cases e : d.old with
    | none => rw [e] at hp; exact ih _ p (List.mem_filter.1 hp).1
    | some v =>
      rw [e] at hp
      rcases mem_putL kyInt hp with rfl | hp
      · exact hd d (by simp)
      · exact ih _ p hp
end Go.Proofs.Ytnjijnphjiiceaa
