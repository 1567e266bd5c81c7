/- Trees of sums: each node as a function of the leaves; rows of sums as cells. Rows of sums, and trees, in memory. Contracts of a tree's Depth, Len, room, Leaf, and of New, over this translation. The contract of a tree's Leaf over this translation. -/
import Derived.Test.YtjkhboejhcbdpaaDoorDomEmpty
import Derived.Maps.AppendAt
import Derived.Great.BuildSlice
/- Trees of sums: each node as a function of the leaves; rows of sums as cells. -/
namespace Go.Proofs.YtjkhboejhcbdpaaDoor
open Go.RowKit Go.Lib

/-- A sum: 32 bytes, one behind the other. -/
abbrev Hs := Nat → Int
/-- Each is a byte. -/
def Hok (f : Hs) : Prop := ∀ j, 0 ≤ f j ∧ f j < 256
def Hoks (L : List Hs) : Prop := ∀ f ∈ L, Hok f
theorem demp_ok (k : Nat) : Hok (demp k) := demp_bd k
theorem dnode_ok (f g : Hs) : Hok (dnode f g) := fun j => dsha_bd _ _ j
/-- The node of a level and a place. -/
def tn (L : List Hs) : Nat → Nat → Hs
  | 0, i => L.getD i (demp 0)
  | k + 1, i => dnode (tn L k (2 * i)) (tn L k (2 * i + 1))
theorem tn_zero (L : List Hs) (i : Nat) : tn L 0 i = L.getD i (demp 0) := rfl
theorem tn_next (L : List Hs) (k i : Nat) : tn L (k + 1) i = dnode (tn L k (2 * i)) (tn L k (2 * i + 1)) := rfl
theorem tn_ok {L : List Hs} (h : Hoks L) : ∀ k i, Hok (tn L k i)
  | 0, i => by
    rw [tn_zero]
    by_cases e : i < L.length
    · have : L.getD i (demp 0) = L[i] := by simp [e]
      rw [this]; exact h _ (List.getElem_mem e)
    · rw [List.getD_eq_getElem?_getD, List.getElem?_eq_none (by omega)]; exact demp_ok 0
  | _ + 1, _ => dnode_ok _ _
/-- Where there is no leaf any more. -/
theorem tn_out (L : List Hs) : ∀ k i, L.length ≤ i * 2 ^ k → tn L k i = demp k
  | 0, i, h => by
    rw [tn_zero, List.getD_eq_getElem?_getD, List.getElem?_eq_none (by simpa using h)]; rfl
  | k + 1, i, h => by
    have e : i * 2 ^ (k + 1) = 2 * i * 2 ^ k := by rw [Nat.pow_succ, Nat.mul_comm 2 i, Nat.mul_assoc, Nat.mul_comm 2]
    have h2 : 2 * i * 2 ^ k ≤ (2 * i + 1) * 2 ^ k := Nat.mul_le_mul_right _ (by omega)
    rw [tn_next, tn_out L k (2 * i) (by omega), tn_out L k (2 * i + 1) (by omega), demp_next]
/-- A node that has all its leaves hangs on these alone. -/
theorem tn_take (L : List Hs) (n : Nat) : ∀ k i, (i + 1) * 2 ^ k ≤ n → tn (L.take n) k i = tn L k i
  | 0, i, h => by
    rw [tn_zero, tn_zero, List.getD_eq_getElem?_getD, List.getD_eq_getElem?_getD, List.getElem?_take, if_pos (by simp at h; omega)]
  | k + 1, i, h => by
    have e : (i + 1) * 2 ^ (k + 1) = (2 * i + 1 + 1) * 2 ^ k := by rw [Nat.pow_succ, show 2 * i + 1 + 1 = (i + 1) * 2 by omega, Nat.mul_assoc, Nat.mul_comm 2]
    have h2 : (2 * i + 1) * 2 ^ k ≤ (2 * i + 1 + 1) * 2 ^ k := Nat.mul_le_mul_right _ (by omega)
    rw [tn_next, tn_next, tn_take L n k (2 * i) (by omega), tn_take L n k (2 * i + 1) (by omega)]
theorem tn_app (L M : List Hs) (k i : Nat) (h : (i + 1) * 2 ^ k ≤ L.length) : tn (L ++ M) k i = tn L k i := by
  have := tn_take (L ++ M) L.length k i h
  rw [List.take_left] at this
  exact this.symm
/-- The nodes of a level that have all their leaves. -/
def lv (L : List Hs) (k : Nat) : List Hs := (List.range (L.length / 2 ^ k)).map (tn L k)
theorem lv_length (L : List Hs) (k : Nat) : (lv L k).length = L.length / 2 ^ k := by simp [lv]
theorem lv_get (L : List Hs) (k i : Nat) (h : i < L.length / 2 ^ k) : (lv L k)[i]? = some (tn L k i) := by simp [lv, h]
theorem lv_zero (L : List Hs) : lv L 0 = L := by
  apply List.ext_getElem?
  intro i
  by_cases h : i < L.length
  · rw [lv_get L 0 i (by simpa using h), tn_zero]; simp [h]
  · rw [List.getElem?_eq_none (by rw [lv_length]; simpa using h), List.getElem?_eq_none (by omega)]
theorem lv_mem {L : List Hs} (h : Hoks L) (k : Nat) : Hoks (lv L k) := by
  intro f hf
  obtain ⟨i, _, rfl⟩ := List.mem_map.1 hf
  exact tn_ok h k i
theorem lv_nil (k : Nat) : lv [] k = [] := by simp [lv]
theorem lv_above (L : List Hs) (k d : Nat) (hk : d < k) (h : L.length ≤ 2 ^ d) : lv L k = [] := by
  have : (lv L k).length = 0 := by
    rw [lv_length]
    exact Nat.div_eq_of_lt (Nat.lt_of_le_of_lt h (Nat.pow_lt_pow_right (by omega) hk))
  exact List.eq_nil_of_length_eq_zero this
theorem lv_snoc (L : List Hs) (x : Hs) (k : Nat) (h : (L.length + 1) % 2 ^ k = 0) : lv (L ++ [x]) k = lv L k ++ [tn (L ++ [x]) k (L.length / 2 ^ k)] := by
  have hp : 0 < 2 ^ k := Nat.two_pow_pos k
  obtain ⟨q, hq⟩ := Nat.dvd_of_mod_eq_zero h
  have h0 : q ≠ 0 := by intro e; subst e; simp at hq
  obtain ⟨r, rfl⟩ : ∃ r, q = r + 1 := ⟨q - 1, by omega⟩
  have h1 : (L.length + 1) / 2 ^ k = r + 1 := by rw [hq, Nat.mul_div_cancel_left _ hp]
  have h2 : L.length / 2 ^ k = r := by
    have e : L.length = r * 2 ^ k + (2 ^ k - 1) := by rw [Nat.mul_comm]; rw [Nat.mul_succ] at hq; omega
    rw [e, Nat.mul_comm, Nat.mul_add_div hp, Nat.div_eq_of_lt (by omega)]; rfl
  unfold lv
  rw [List.length_append, List.length_singleton, h1, h2, List.range_succ, List.map_append]
  congr 1
  apply List.map_congr_left
  intro i hi
  have hi' : i < r := List.mem_range.1 hi
  refine tn_app L [x] k i ?_
  have : (i + 1) * 2 ^ k ≤ r * 2 ^ k := Nat.mul_le_mul_right _ (by omega)
  rw [Nat.mul_succ, Nat.mul_comm] at hq
  omega
theorem div_stays {n k : Nat} (h : (n + 1) % 2 ^ k ≠ 0) : (n + 1) / 2 ^ k = n / 2 ^ k := by
  have hp : 0 < 2 ^ k := Nat.two_pow_pos k
  rw [Nat.succ_div, if_neg (fun hd => h (Nat.mod_eq_zero_of_dvd hd)), Nat.add_zero]
theorem lv_same (L : List Hs) (x : Hs) (k : Nat) (h : (L.length + 1) % 2 ^ k ≠ 0) : lv (L ++ [x]) k = lv L k := by
  unfold lv
  rw [List.length_append, List.length_singleton, div_stays h]
  apply List.map_congr_left
  intro i hi
  have hi' : i < L.length / 2 ^ k := List.mem_range.1 hi
  refine tn_app L [x] k i ?_
  have : (i + 1) * 2 ^ k ≤ L.length / 2 ^ k * 2 ^ k := Nat.mul_le_mul_right _ (by omega)
  have := Nat.div_mul_le_self L.length (2 ^ k)
  omega
theorem lv_take (L : List Hs) (n k : Nat) (h : n ≤ L.length) : lv (L.take n) k = (lv L k).take (n / 2 ^ k) := by
  have hd : n / 2 ^ k ≤ L.length / 2 ^ k := Nat.div_le_div_right h
  unfold lv
  rw [List.length_take, Nat.min_eq_left h, ← List.map_take, List.take_range, Nat.min_eq_left hd]
  apply List.map_congr_left
  intro i hi
  have hi' : i < n / 2 ^ k := List.mem_range.1 hi
  refine tn_take L n k i ?_
  have : (i + 1) * 2 ^ k ≤ n / 2 ^ k * 2 ^ k := Nat.mul_le_mul_right _ (by omega)
  have := Nat.div_mul_le_self n (2 ^ k)
  omega
/-- The cells of sums, one behind the other. -/
def hC (L : List Hs) : List Value := (L.map (rowV 32)).flatten
theorem hC_nil : hC [] = [] := rfl
theorem hC_cons (x : Hs) (L : List Hs) : hC (x :: L) = rowV 32 x ++ hC L := by simp [hC]
theorem hC_append (L M : List Hs) : hC (L ++ M) = hC L ++ hC M := by simp [hC]
theorem hC_snoc (L : List Hs) (x : Hs) : hC (L ++ [x]) = hC L ++ rowV 32 x := by simp [hC]
theorem hC_length (L : List Hs) : (hC L).length = L.length * 32 := by
  induction L with
  | nil => simp [hC]
  | cons x r ih => rw [hC_cons, List.length_append, rowV_length, ih]; simp; omega
theorem hC_one (L : List Hs) : ∀ u ∈ hC L, u.oneCell' = true := by
  intro u hu
  obtain ⟨l, hl, hul⟩ := List.mem_flatten.1 hu
  obtain ⟨x, _, rfl⟩ := List.mem_map.1 hl
  exact rowV_one 32 x u hul
theorem hC_get : ∀ (L : List Hs) (j : Nat) (x : Hs), L[j]? = some x → ∀ i v, (rowV 32 x)[i]? = some v → (hC L)[j * 32 + i]? = some v := by
  intro L
  induction L with
  | nil => intro j x h; simp at h
  | cons y r ih =>
    intro j x h i v hv
    have hi : i < 32 := by have := (List.getElem?_eq_some_iff.1 hv).1; rwa [rowV_length] at this
    rw [hC_cons]
    cases j with
    | zero =>
      simp at h; subst h
      rw [List.getElem?_append_left (by rw [rowV_length]; omega), Nat.zero_mul, Nat.zero_add]; exact hv
    | succ j =>
      rw [List.getElem?_append_right (by rw [rowV_length]; omega), rowV_length]
      rw [show (j + 1) * 32 + i - 32 = j * 32 + i by omega]
      exact ih j x (by simpa using h) i v hv
theorem hC_take (L : List Hs) (n : Nat) : hC (L.take n) = (hC L).take (n * 32) := by
  induction L generalizing n with
  | nil => simp [hC]
  | cons x r ih =>
    cases n with
    | zero => simp [hC]
    | succ n =>
      rw [List.take_succ_cons, hC_cons, hC_cons, ih, List.take_append, rowV_length, List.take_of_length_le (l := rowV 32 x) (by rw [rowV_length]; omega)]
      rw [show (n + 1) * 32 - 32 = n * 32 by omega]
end Go.Proofs.YtjkhboejhcbdpaaDoor

/- Rows of sums, and trees, in memory. -/
namespace Go.Proofs.YtjkhboejhcbdpaaDoor
open Go.RowKit Go.Lib
attribute [local go_sem] setCell_drewN alloc_drewN

/-- These sums lie at this address. -/
def Hl (w : World) (ao : Option Addr) (L : List Hs) : Prop :=
  L = [] ∨ ∃ b off, ao = some ⟨b, off, none⟩ ∧ b < w.heap.size ∧ ∀ (j : Nat) x, L[j]? = some x → w.rangeAt b (off + j * 32) (rowV 32 x)
theorem Hl.nil (w : World) (ao : Option Addr) : Hl w ao [] := .inl rfl
theorem Hl.of {w w' : World} {ao : Option Addr} {L : List Hs} (h : Hl w ao L) (hs : w.heap.size ≤ w'.heap.size) (hb : ∀ k, blk ao = some k → k < w.heap.size → w'.heap[k]? = w.heap[k]?) : Hl w' ao L := by
  rcases h with h | ⟨b, off, rfl, hl, hc⟩
  · exact .inl h
  · exact .inr ⟨b, off, rfl, Nat.lt_of_lt_of_le hl hs, fun j x hx i v hv => (World.cell?_of_block (w := w) (a := ⟨b, off + j * 32 + i, none⟩) (hb b rfl hl)).trans (hc j x hx i v hv)⟩
theorem Hl.below {w w' : World} {ao : Option Addr} {L : List Hs} (h : Hl w ao L) (hb : Below w.heap.size w w') : Hl w' ao L := h.of hb.size fun k _ hk => hb.block k hk
theorem Hl.get {w : World} {ao : Option Addr} {L : List Hs} (h : Hl w ao L) {j : Nat} {x : Hs} (hx : L[j]? = some x) : ∃ b off, ao = some ⟨b, off, none⟩ ∧ b < w.heap.size ∧ w.rangeAt b (off + j * 32) (rowV 32 x) := by
  rcases h with rfl | ⟨b, off, e, hl, hc⟩
  · simp at hx
  · exact ⟨b, off, e, hl, hc j x hx⟩
theorem Hl.take {w : World} {ao : Option Addr} {L : List Hs} (h : Hl w ao L) (n : Nat) : Hl w ao (L.take n) := by
  rcases h with rfl | ⟨b, off, e, hl, hc⟩
  · exact .inl (by simp)
  · refine .inr ⟨b, off, e, hl, fun j x hx => hc j x ?_⟩
    rw [List.getElem?_take] at hx
    split at hx
    · exact hx
    · simp at hx
theorem Hl.drop {w : World} {b off : Nat} {L : List Hs} (h : Hl w (some ⟨b, off, none⟩) L) (n : Nat) : Hl w (some ⟨b, off + n * 32, none⟩) (L.drop n) := by
  rcases h with rfl | ⟨b', off', e, hl, hc⟩
  · exact .inl (by simp)
  · simp only [Option.some.injEq, Addr.mk.injEq, and_true] at e
    obtain ⟨rfl, rfl⟩ := e
    refine .inr ⟨b, off + n * 32, rfl, hl, fun j x hx => ?_⟩
    rw [List.getElem?_drop] at hx
    have := hc (n + j) x hx
    rwa [show off + (n + j) * 32 = off + n * 32 + j * 32 by rw [Nat.add_mul]; omega] at this
/-- The value v holds these sums, in a row of its own. -/
abbrev HR (w : World) (v : Value) (L : List Hs) : Prop := w.ownsRow 0 28 32 v L.length (hC L)
theorem HR.nil (w : World) : HR w (.slice none 0 0) [] := World.ownsRow_nil _ _ _ _
theorem HR.of {w w' : World} {v : Value} {L : List Hs} (h : HR w v L) (hb : ∀ k, v.ownBlock = some k → w'.heap[k]? = w.heap[k]?) : HR w' v L := by
  refine ⟨h.1, ?_⟩
  rcases h.2 with hn | ⟨g, cap, cur, rfl, hB, hg, r⟩
  · exact .inl hn
  · exact .inr ⟨g, cap, cur, rfl, hB, by rw [hb g rfl]; exact hg, r⟩
theorem HR.below {w w' : World} {v : Value} {L : List Hs} (h : HR w v L) (hb : Below w.heap.size w w') : HR w' v L := h.of fun k hk => hb.block k (h.lt k hk).2
theorem HR.form {w : World} {v : Value} {L : List Hs} (h : HR w v L) : ∃ ao cap, v = .slice ao L.length cap ∧ L.length ≤ cap ∧ cap ≤ maxLen ∧ (ao = none → cap = 0) ∧ Hl w ao L := by
  rcases h.2 with ⟨rfl, e⟩ | ⟨g, cap, cur, rfl, hb, hg, hcap, hm, hs, ht⟩
  · exact ⟨none, 0, by rw [e], by omega, by simp [maxLen], fun _ => rfl, .inl (List.eq_nil_of_length_eq_zero e)⟩
  · refine ⟨_, cap, rfl, hcap, hm, fun e => by simp at e, .inr ⟨g, 0, rfl, (Array.getElem?_eq_some_iff.1 hg).1, fun j x hx i v hv => ?_⟩⟩
    have hj : j < L.length := (List.getElem?_eq_some_iff.1 hx).1
    have hi : i < 32 := by have := (List.getElem?_eq_some_iff.1 hv).1; rwa [rowV_length] at this
    rw [Nat.zero_add, World.ownsRow.cellAt h (j * 32 + i) (by omega), hC_get L j x hx i v hv]
/-- Cut to its first: the row's further cells stay its own. -/
theorem HR.cut {w : World} {ao : Option Addr} {cap : Nat} {L : List Hs} (h : HR w (.slice ao L.length cap) L) (hao : ao ≠ none) (n : Nat) (hn : n ≤ L.length) : HR w (.slice ao n cap) (L.take n) := by
  have hl : (L.take n).length = n := by rw [List.length_take]; omega
  refine ⟨hC_length _, ?_⟩
  rcases h.2 with ⟨e, _⟩ | ⟨g, cap', cur, e, hb, hg, hcap, hm, hs, ht⟩
  · simp at e; exact absurd e.1 hao
  · simp only [Value.slice.injEq, true_and] at e
    obtain ⟨rfl, rfl⟩ := e
    refine .inr ⟨g, cap, cur, by rw [hl], hb, hg, by omega, hm, hs, ?_⟩
    rw [hC_take, ← ht, hl, List.take_take, Nat.min_eq_left (Nat.mul_le_mul_right _ hn)]
/-- What is written behind a row's end does not touch it. -/
theorem HR.behind {w : World} {g n cap : Nat} {L : List Hs} (h : HR w (.slice (some ⟨g, 0, none⟩) n cap) L) (o : Nat) (vs : List Value) (ho : n * 32 ≤ o) : HR (w.setCells g o vs) (.slice (some ⟨g, 0, none⟩) n cap) L := by
  induction vs generalizing w o with
  | nil => exact h
  | cons v r ih =>
    rw [World.setCells]
    refine ih ?_ (o + 1) (by omega)
    obtain ⟨h1, h2⟩ := h
    refine ⟨h1, ?_⟩
    rcases h2 with ⟨e, _⟩ | ⟨g', cap', cur, e, hb, hg, hcap, hm, hs, ht⟩
    · simp at e
    · simp only [Value.slice.injEq, Option.some.injEq, Addr.mk.injEq, and_true] at e
      obtain ⟨rfl, rfl, rfl⟩ := e
      refine .inr ⟨g, cap, cur.setIfInBounds o v, rfl, hb, heap_setCell_same w g o cur _ v hg, hcap, hm, by simpa using hs, ?_⟩
      rw [Array.toList_setIfInBounds, ← ht, List.take_set_of_le ho]
theorem infoHs : (Tryd.prog.info? 28).map (fun i => (i.zero.map (fun z => z.cells.size), i.size, i.bytes)) = some (some 32, 32, 32) := by kernel_rfl
theorem info_hs : ∃ i z, Tryd.prog.info? 28 = some i ∧ i.zero = some z ∧ z.cells.size = 32 ∧ i.size = 32 ∧ i.bytes = 32 := by
  have h := infoHs
  cases e : Tryd.prog.info? 28 with
  | none => rw [e] at h; simp at h
  | some i =>
    rw [e] at h
    cases ez : i.zero with
    | none => rw [Option.map_some, ez] at h; simp at h
    | some z => rw [Option.map_some, ez] at h; simp at h; exact ⟨i, z, rfl, ez, h.1, h.2.1, h.2.2⟩
/-- A tree's box: its depth and its rows; S: the blocks that may be its own. -/
structure Rw (w : World) (g : Nat) (S : Nat → Prop) (d : Nat) (M : Nat → List Hs) : Prop where
  lt : g < w.heap.size
  mine : S g
  low : ∀ k, S k → k < w.heap.size
  fr : ∀ o, w.frozen? ⟨g, o, none⟩ = false
  c0 : w.cell? ⟨g, 0, none⟩ = some (.int .i64 d)
  rows : ∃ V : Nat → Value, (∀ k, k < 33 → w.cell? ⟨g, k + 1, none⟩ = some (V k) ∧ HR w (V k) (M k) ∧ ∀ b, (V k).ownBlock = some b → S b ∧ b ≠ g) ∧ ∀ j k b, j < 33 → k < 33 → (V j).ownBlock = some b → (V k).ownBlock = some b → j = k
theorem Rw.of {w w' : World} {g : Nat} {S : Nat → Prop} {d : Nat} {M : Nat → List Hs} (h : Rw w g S d M) (hs : w.heap.size ≤ w'.heap.size) (hb : ∀ k, S k → w'.heap[k]? = w.heap[k]?) : Rw w' g S d M := by
  obtain ⟨lt, mine, low, fr, c0, V, hV, hd⟩ := h
  refine ⟨Nat.lt_of_lt_of_le lt hs, mine, fun k hk => Nat.lt_of_lt_of_le (low k hk) hs, fun o => (World.frozen?_of_block (w := w) (a := ⟨g, o, none⟩) (hb g mine)).trans (fr o), (World.cell?_of_block (w := w) (a := ⟨g, 0, none⟩) (hb g mine)).trans c0, V, fun k hk => ?_, hd⟩
  obtain ⟨h1, h2, h3⟩ := hV k hk
  exact ⟨(World.cell?_of_block (w := w) (a := ⟨g, k + 1, none⟩) (hb g mine)).trans h1, h2.of fun b hb' => hb b (h3 b hb').1, h3⟩
theorem Rw.below {w w' : World} {g : Nat} {S : Nat → Prop} {d : Nat} {M : Nat → List Hs} (h : Rw w g S d M) (hb : Below w.heap.size w w') : Rw w' g S d M := h.of hb.size fun k hk => hb.block k (h.low k hk)
theorem Rw.congr {w : World} {g : Nat} {S : Nat → Prop} {d : Nat} {M M' : Nat → List Hs} (h : Rw w g S d M) (e : ∀ k, k < 33 → M k = M' k) : Rw w g S d M' := by
  obtain ⟨lt, mine, low, fr, c0, V, hV, hd⟩ := h
  exact ⟨lt, mine, low, fr, c0, V, fun k hk => by rw [← e k hk]; exact hV k hk, hd⟩
/-- One row: the cell that holds it, and what it holds. -/
theorem Rw.row {w : World} {g : Nat} {S : Nat → Prop} {d : Nat} {M : Nat → List Hs} (h : Rw w g S d M) {k : Nat} (hk : k < 33) : ∃ v, w.cell? ⟨g, k + 1, none⟩ = some v ∧ HR w v (M k) ∧ ∀ b, v.ownBlock = some b → S b ∧ b ≠ g := by
  obtain ⟨_, _, _, _, _, V, hV, _⟩ := h
  exact ⟨V k, hV k hk⟩
/-- Only blocks of S may have turned; others may have come. -/
structure Mv (S S' : Nat → Prop) (w w' : World) : Prop where
  os : w'.os = w.os
  tape : w'.tape = w.tape
  output : w'.output = w.output
  size : w.heap.size ≤ w'.heap.size
  block : ∀ k, k < w.heap.size → ¬ S k → w'.heap[k]? = w.heap[k]?
  own : ∀ k, S' k → S k ∨ w.heap.size ≤ k
theorem Mv.refl (S : Nat → Prop) (w : World) : Mv S S w w := ⟨rfl, rfl, rfl, Nat.le_refl _, fun _ _ _ => rfl, fun _ h => .inl h⟩
theorem Mv.trans {S S' S'' : Nat → Prop} {a b c : World} (h : Mv S S' a b) (k : Mv S' S'' b c) : Mv S S'' a c := by
  refine ⟨k.os.trans h.os, k.tape.trans h.tape, k.output.trans h.output, Nat.le_trans h.size k.size, fun i hi hne => ?_, fun i hi => ?_⟩
  · refine (k.block i (Nat.lt_of_lt_of_le hi h.size) fun e => ?_).trans (h.block i hi hne)
    rcases h.own i e with e | e
    · exact hne e
    · omega
  · rcases k.own i hi with e | e
    · exact h.own i e
    · exact .inr (Nat.le_trans h.size e)
theorem Mv.of {S : Nat → Prop} {w w' : World} (h : Below w.heap.size w w') : Mv S S w w' := ⟨h.os, h.tape, h.output, h.size, fun k hk _ => h.block k hk, fun _ e => .inl e⟩
theorem Mv.on {S S' : Nat → Prop} {a w w' : World} (h : Mv S S' a w) (k : Below w.heap.size w w') : Mv S S' a w' := h.trans (Mv.of k)
theorem Mv.below {S S' : Nat → Prop} {a w w' : World} (h : Mv S S' w w') (hb : Below a.heap.size a w) (hS : ∀ k, S k → a.heap.size ≤ k) : Below a.heap.size a w' :=
  hb.trans ⟨h.os, h.tape, h.output, h.size, fun k hk => h.block k (Nat.lt_of_lt_of_le hk hb.size) fun e => by have := hS k e; omega⟩
/-- What is another's stays. -/
theorem Mv.far {S S' T : Nat → Prop} {w w' : World} (h : Mv S S' w w') (hT : ∀ k, T k → k < w.heap.size) (hd : ∀ k, T k → ¬ S k) : ∀ k, T k → w'.heap[k]? = w.heap[k]? := fun k hk => h.block k (hT k hk) (hd k hk)
theorem Mv.apart {S S' T : Nat → Prop} {w w' : World} (h : Mv S S' w w') (hT : ∀ k, T k → k < w.heap.size) (hd : ∀ k, T k → ¬ S k) : ∀ k, T k → ¬ S' k := fun k hk e => by
  rcases h.own k e with e | e
  · exact hd k hk e
  · have := hT k hk; omega
/-- One list for another. -/
def upd (M : Nat → List Hs) (k : Nat) (l : List Hs) : Nat → List Hs := fun j => if j = k then l else M j
/-- A row is written, or comes anew, and its cell is stored. -/
theorem Rw.put {w w1 w2 : World} {g : Nat} {S : Nat → Prop} {d : Nat} {M : Nat → List Hs} (h : Rw w g S d M) (hb : Below w.heap.size w w1) {k : Nat} (hk : k < 33) {v v' : Value} {l : List Hs} (hc : w.cell? ⟨g, k + 1, none⟩ = some v) (hown : HR w2 v' l) (hg : w1.grownBy w2 v.ownBlock)
    (hn : ∀ b, v'.ownBlock = some b → v.ownBlock = some b ∨ w1.heap.size ≤ b) :
    w2.cell? ⟨g, k + 1, none⟩ = some v ∧ w2.frozen? ⟨g, k + 1, none⟩ = false ∧ ∃ S', Rw (w2.setCell ⟨g, k + 1, none⟩ v') g S' d (upd M k l) ∧ Mv S S' w (w2.setCell ⟨g, k + 1, none⟩ v') := by
  have h1 := h.below hb
  obtain ⟨lt, mine, low, fr, c0, V, hV, hd⟩ := h1
  have hc1 : w1.cell? ⟨g, k + 1, none⟩ = some v := (World.cell?_of_block (w := w) (a := ⟨g, k + 1, none⟩) (hb.block g h.lt)).trans hc
  have hvk : V k = v := by have := (hV k hk).1; rw [hc1] at this; injection this with this; exact this.symm
  have hvg : some g ≠ v.ownBlock := fun e => ((hV k hk).2.2 g (by rw [hvk]; exact e.symm)).2 rfl
  have hgb : w2.heap[g]? = w1.heap[g]? := hg.block g lt hvg
  have e2 : ∀ o, w2.cell? ⟨g, o, none⟩ = w1.cell? ⟨g, o, none⟩ := fun o => World.cell?_of_block (w := w1) (a := ⟨g, o, none⟩) hgb
  have f2 : ∀ o, w2.frozen? ⟨g, o, none⟩ = false := fun o => (World.frozen?_of_block (w := w1) (a := ⟨g, o, none⟩) hgb).trans (fr o)
  have hz : (w2.setCell ⟨g, k + 1, none⟩ v').heap.size = w2.heap.size := by simp [World.setCell]
  refine ⟨(e2 _).trans hc1, f2 _, fun b => S b ∨ (w1.heap.size ≤ b ∧ b < w2.heap.size), ⟨?_, .inl mine, ?_, fun o => by simp [go_sem, f2], ?_, fun j => if j = k then v' else V j, fun j hj => ?_, ?_⟩, ⟨?_, ?_, ?_, ?_, ?_, ?_⟩⟩
  · rw [hz]; exact Nat.lt_of_lt_of_le lt hg.size
  · rintro b (e | e)
    · rw [hz]; exact Nat.lt_of_lt_of_le (low b e) hg.size
    · rw [hz]; exact e.2
  · have : w2.cell? ⟨g, 0, none⟩ = some (.int .i64 d) := (e2 0).trans c0
    simp [go_sem, this]
  · obtain ⟨q1, q2, q3⟩ := hV j hj
    have hcj : w2.cell? ⟨g, j + 1, none⟩ = some (V j) := (e2 _).trans q1
    by_cases e : j = k
    · subst e
      simp only [upd, if_true]
      refine ⟨by simp [go_sem, hcj], hown.of fun b hb' => ?_, fun b hb' => ?_⟩
      · refine Below.heap_setCell _ _ _ _ ?_
        simp only []
        rcases hn b hb' with e | e
        · rintro rfl; exact hvg e.symm
        · omega
      · rcases hn b hb' with e | e
        · rw [← hvk] at e
          exact ⟨.inl (q3 b e).1, (q3 b e).2⟩
        · exact ⟨.inr ⟨e, (hown.lt b hb').2⟩, by omega⟩
    · simp only [upd, if_neg e]
      refine ⟨by simp [go_sem, hcj], (q2.of fun b hb' => ?_), fun b hb' => ⟨.inl (q3 b hb').1, (q3 b hb').2⟩⟩
      rw [Below.heap_setCell _ _ _ _ (q3 b hb').2]
      exact hg.block b (low b (q3 b hb').1) fun e' => e (hd j k b hj hk hb' (by rw [hvk]; exact e'.symm))
  · intro i j b hi hj h1 h2
    by_cases ei : i = k
    · by_cases ej : j = k
      · omega
      · exfalso
        subst ei
        simp only [if_true] at h1
        simp only [if_neg ej] at h2
        rcases hn b h1 with e | e
        · exact ej (hd j i b hj hi h2 (by rw [hvk]; exact e))
        · have := low b ((hV j hj).2.2 b h2).1; omega
    · by_cases ej : j = k
      · exfalso
        subst ej
        simp only [if_true] at h2
        simp only [if_neg ei] at h1
        rcases hn b h2 with e | e
        · exact ei (hd i j b hi hj h1 (by rw [hvk]; exact e))
        · have := low b ((hV i hi).2.2 b h1).1; omega
      · simp only [if_neg ei] at h1
        simp only [if_neg ej] at h2
        exact hd i j b hi hj h1 h2
  · exact hg.os.trans hb.os
  · exact hg.tape.trans hb.tape
  · exact hg.output.trans hb.output
  · rw [hz]; exact Nat.le_trans hb.size hg.size
  · intro b hb1 hb2
    have hbg : b ≠ g := by rintro rfl; exact hb2 h.mine
    rw [Below.heap_setCell _ _ _ _ hbg, hg.block b (Nat.lt_of_lt_of_le hb1 hb.size) fun e => hb2 ((hV k hk).2.2 b (by rw [hvk]; exact e.symm)).1, hb.block b hb1]
  · rintro b (e | e)
    · exact .inl e
    · exact .inr (Nat.le_trans hb.size e.1)
/-- A tree of a depth with these leaves. -/
structure Tr (w : World) (g : Nat) (S : Nat → Prop) (d : Nat) (L : List Hs) : Prop where
  dep : d ≤ 32
  len : L.length ≤ 2 ^ d
  few : L.length ≤ 1000
  ok : Hoks L
  box : Rw w g S d (lv L)
theorem Tr.of {w w' : World} {g : Nat} {S : Nat → Prop} {d : Nat} {L : List Hs} (h : Tr w g S d L) (hs : w.heap.size ≤ w'.heap.size) (hb : ∀ k, S k → w'.heap[k]? = w.heap[k]?) : Tr w' g S d L := ⟨h.dep, h.len, h.few, h.ok, h.box.of hs hb⟩
theorem Tr.below {w w' : World} {g : Nat} {S : Nat → Prop} {d : Nat} {L : List Hs} (h : Tr w g S d L) (hb : Below w.heap.size w w') : Tr w' g S d L := ⟨h.dep, h.len, h.few, h.ok, h.box.below hb⟩
theorem Tr.far {w w' : World} {g : Nat} {S S1 S1' : Nat → Prop} {d : Nat} {L : List Hs} (h : Tr w g S d L) (m : Mv S1 S1' w w') (hd : ∀ k, S k → ¬ S1 k) : Tr w' g S d L := h.of m.size fun k hk => m.block k (h.box.low k hk) (hd k hk)
theorem Hl.far {w w' : World} {ao : Option Addr} {L : List Hs} {S S' : Nat → Prop} (h : Hl w ao L) (m : Mv S S' w w') (hd : ∀ k, blk ao = some k → ¬ S k) : Hl w' ao L := h.of m.size fun k hk hl => m.block k hl (hd k hk)
end Go.Proofs.YtjkhboejhcbdpaaDoor

/- Contracts of a tree's Depth, Len, room, Leaf, and of New, over this translation. -/
namespace Go.Proofs.YtjkhboejhcbdpaaDoor
open Go.RowKit Go.Lib
attribute [local go_sem] setCell_drewN alloc_drewN

theorem ret_numT {k : IntKind} {a b : Int} (h : a = b) : Ending.returned (.int k a) = .returned (.int k b) := by rw [h]
theorem depth_any {w : World} {g d : Nat} {S : Nat → Prop} {M : Nat → List Hs} (h : Rw w g S d M) :
    Calls Tryd.prog 19 #[.pointer (some ⟨g, 0, none⟩)] w fun e w' => e = .returned (.int .i64 d) ∧ w' = w := by
  have c0 := h.c0
  clear h
  go_enter Tryd.func19, Tryd.ntmps19
  go_wp2
  go_ret
  exact ⟨rfl, rfl⟩
theorem depth_nil {w : World} :
    Calls Tryd.prog 19 #[.pointer none] w fun e w' => e = .returned (.int .i64 0) ∧ w' = w := by
  go_enter Tryd.func19, Tryd.ntmps19
  go_wp2
  go_ret
  exact ⟨rfl, rfl⟩
theorem len_any {w : World} {g d : Nat} {S : Nat → Prop} {M : Nat → List Hs} (h : Rw w g S d M) (hl : (M 0).length ≤ 1000000) :
    Calls Tryd.prog 18 #[.pointer (some ⟨g, 0, none⟩)] w fun e w' => e = .returned (.int .u64 (M 0).length) ∧ w' = w := by
  obtain ⟨v, hc, hr, _⟩ := h.row (k := 0) (by omega)
  obtain ⟨ao, cap, rfl, _, _, _, _⟩ := hr.form
  clear h hr
  have hli : ((M 0).length : Int) ≤ 1000000 := by omega
  generalize (M 0).length = n at *
  have hc1 : w.cell? ⟨g, 1, none⟩ = some (.slice ao n cap) := hc
  clear hc
  go_enter Tryd.func18, Tryd.ntmps18
  go_wp2
  go_ret
  exact ⟨rfl, rfl⟩
theorem len_nil {w : World} :
    Calls Tryd.prog 18 #[.pointer none] w fun e w' => e = .returned (.int .u64 0) ∧ w' = w := by
  go_enter Tryd.func18, Tryd.ntmps18
  go_wp2
  go_ret
  exact ⟨rfl, rfl⟩
/-- So many places there are, as a program reckons it. -/
theorem wrap_pow (m : Nat) (hm : m ≤ 32) : IntKind.u64.wrap ((2 : Int) ^ m) = ((2 ^ m : Nat) : Int) := by
  have h2 : 2 ^ m ≤ 2 ^ 32 := Nat.pow_le_pow_right (by omega) hm
  have e : ((2 : Int) ^ m) = ((2 ^ m : Nat) : Int) := by simp
  rw [e, IntKind.wrap_u64]
  generalize 2 ^ m = p at *
  omega
theorem shr_any (x m : Nat) (hm : m ≤ 32) : Op.shift .shr .u64 (x : Int) .i64 (m : Int) = pure (.int .u64 ((x / 2 ^ m : Nat) : Int)) := by
  rw [shift_shr_any _ _ _ _ (by omega)]
  have h1 : min ((m : Int)).toNat IntKind.u64.bits = m := by simp [IntKind.bits]; omega
  rw [h1]
  simp
theorem room_any {w : World} {g d : Nat} {S : Nat → Prop} {M : Nat → List Hs} (h : Rw w g S d M) (hd : d ≤ 32) (k : Nat) (hk : k ≤ d) :
    Calls Tryd.prog 26 #[.pointer (some ⟨g, 0, none⟩), .int .i64 k] w fun e w' => e = .returned (.int .u64 ((2 ^ (d - k) : Nat) : Int)) ∧ w' = w := by
  have c0 := h.c0
  clear h
  have HP : Hid (IntKind.u64.wrap ((2 : Int) ^ (d - k)) = ((2 ^ (d - k) : Nat) : Int)) := wrap_pow (d - k) (by omega)
  have hm : ((d - k : Nat) : Int) ≤ 32 := by omega
  have hsub : (d : Int) - (k : Int) = ((d - k : Nat) : Int) := by omega
  have hsub2 : IntKind.i64.wrap ((d : Int) - (k : Int)) = ((d - k : Nat) : Int) := by rw [IntKind.wrap_i64]; omega
  generalize ((2 ^ (d - k) : Nat) : Int) = p at *
  generalize d - k = m at *
  go_enter Tryd.func26, Tryd.ntmps26
  go_wp2
  go_ret
  exact ⟨ret_numT HP.out, rfl⟩
theorem new_out {w : World} (x : Int) (h : x < 0 ∨ 32 < x) :
    Calls Tryd.prog 20 #[.int .i64 x] w fun e w' => e = .returned (.pointer none) ∧ w' = w := by
  by_cases h0 : x < 0
  · go_enter Tryd.func20, Tryd.ntmps20
    go_wp2
    go_ret
    exact ⟨rfl, rfl⟩
  · have h1 : 32 < x := by omega
    go_enter Tryd.func20, Tryd.ntmps20
    go_wp2
    go_ret
    exact ⟨rfl, rfl⟩
/-- The cells of a tree without leaves. -/
def newC (d : Nat) : List Value := .int .i64 d :: List.replicate 33 (.slice none 0 0)
theorem newC_get (d k : Nat) (hk : k < 33) : (newC d)[k + 1]? = some (.slice none 0 0) := by
  unfold newC
  rw [List.getElem?_cons_succ, List.getElem?_replicate, if_pos hk]
theorem new_box (w : World) (d : Nat) (t : TypeId) {g : Nat} (hg : w.heap.size = g) : Rw (w.alloc (.cells (newC d).toArray t)) g (fun b => b = g) d (fun _ => []) := by
  subst hg
  refine ⟨by simp, rfl, fun k hk => by subst hk; simp, fun o => World.frozen?_alloc_at _ _ _ _ rfl, by rw [World.cell?_alloc_at _ _ _ _ rfl]; simp [newC], fun _ => .slice none 0 0, fun k hk => ⟨?_, World.ownsRow_nil _ _ _ _, fun b hb => by simp [Value.ownBlock] at hb⟩, fun j k b hj hk h1 h2 => by simp [Value.ownBlock] at h1⟩
  rw [World.cell?_alloc_at _ _ _ _ rfl]
  simpa using newC_get d k hk
theorem Tr.new {w : World} {g d : Nat} (hd : d ≤ 32) (h : Rw w g (fun b => b = g) d (fun _ => [])) : Tr w g (fun b => b = g) d [] :=
  ⟨hd, by simp, by simp, fun f hf => by simp at hf, h.congr fun k _ => (lv_nil k).symm⟩
set_option maxHeartbeats 4000000 in
theorem tnew_any {w : World} (d : Nat) (hd : d ≤ 32) :
    Calls Tryd.prog 20 #[.int .i64 d] w fun e w' => e = .returned (.pointer (some ⟨w.heap.size, 0, none⟩)) ∧ Rw w' w.heap.size (fun b => b = w.heap.size) d (fun _ => []) ∧ Below w.heap.size w w' := by
  have hdi : (d : Int) ≤ 32 := by omega
  have R := hide (new_box w d 59 rfl)
  have B := hide (bAl (o := .cells (newC d).toArray 59) (bMe w))
  have e : (newC d).toArray = #[.int .i64 d, .slice none 0 0, .slice none 0 0, .slice none 0 0, .slice none 0 0, .slice none 0 0, .slice none 0 0, .slice none 0 0, .slice none 0 0, .slice none 0 0, .slice none 0 0, .slice none 0 0, .slice none 0 0, .slice none 0 0, .slice none 0 0, .slice none 0 0, .slice none 0 0, .slice none 0 0, .slice none 0 0, .slice none 0 0, .slice none 0 0, .slice none 0 0, .slice none 0 0, .slice none 0 0, .slice none 0 0, .slice none 0 0, .slice none 0 0, .slice none 0 0, .slice none 0 0, .slice none 0 0, .slice none 0 0, .slice none 0 0, .slice none 0 0, .slice none 0 0] := rfl
  rw [e] at R B
  clear e
  go_enter Tryd.func20, Tryd.ntmps20
  go_wp2
  go_ret
  exact ⟨rfl, R.out, B.out⟩
end Go.Proofs.YtjkhboejhcbdpaaDoor

/- The contract of a tree's Leaf over this translation. -/
namespace Go.Proofs.YtjkhboejhcbdpaaDoor
open Go.RowKit Go.Lib
attribute [local go_sem] setCell_drewN alloc_drewN

theorem results_two {P : Program} {fn : Func} {p u : Tmp} {ty : TypeId} (h : fn.results = #[.cell p ty, .tmp u]) {tmps : Array Value} {w : World} {ad : Addr} {v x : Value} (hp : tmps.getD p undef = .pointer (some ad)) (hx : tmps.getD u undef = x) (hl : (loadVar ty ad).run P w = .ok v w) :
    (results fn tmps).run P w = .ok (.tuple #[v, x]) w := by
  have hp' : tmps[p]?.getD undef = .pointer (some ad) := by simpa using hp
  have hx' : tmps[u]?.getD undef = x := by simpa using hx
  simp [results, h, hp', hx', asAddr, hl]
/-- The sum of noughts. -/
def hz : Hs := fun _ => 0
theorem BRow.zeroed (w : World) {g : Nat} (e : w.heap.size = g) : BRow (w.alloc (.cells #[.int .u8 0, .int .u8 0, .int .u8 0, .int .u8 0, .int .u8 0, .int .u8 0, .int .u8 0, .int .u8 0, .int .u8 0, .int .u8 0, .int .u8 0, .int .u8 0, .int .u8 0, .int .u8 0, .int .u8 0, .int .u8 0, .int .u8 0, .int .u8 0, .int .u8 0, .int .u8 0, .int .u8 0, .int .u8 0, .int .u8 0, .int .u8 0, .int .u8 0, .int .u8 0, .int .u8 0, .int .u8 0, .int .u8 0, .int .u8 0, .int .u8 0, .int .u8 0] 28)) g 32 hz := BRow.zeros32 w e
theorem hz_agg : (rowV 32 hz).toArray = #[.int .u8 0, .int .u8 0, .int .u8 0, .int .u8 0, .int .u8 0, .int .u8 0, .int .u8 0, .int .u8 0, .int .u8 0, .int .u8 0, .int .u8 0, .int .u8 0, .int .u8 0, .int .u8 0, .int .u8 0, .int .u8 0, .int .u8 0, .int .u8 0, .int .u8 0, .int .u8 0, .int .u8 0, .int .u8 0, .int .u8 0, .int .u8 0, .int .u8 0, .int .u8 0, .int .u8 0, .int .u8 0, .int .u8 0, .int .u8 0, .int .u8 0, .int .u8 0] := rfl
end Go.Proofs.YtjkhboejhcbdpaaDoor
