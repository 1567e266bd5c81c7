/- A slice of acts in memory (sponsionlaw10.Act); a box with one act. -/
import Derived.Test.YtlkmebimgpigjaaDoorTreeCopy
namespace Go.Proofs.YtlkmebimgpigjaaDoor
open Go.RowKit Go.Lib

/-- An act. -/
structure Ac where
  k : Int
  h : Hs
  n : Int
def Ac.Ok (x : Ac) : Prop := (0 ≤ x.k ∧ x.k ≤ 255) ∧ Hok x.h ∧ (0 ≤ x.n ∧ x.n ≤ 18446744073709551615)
/-- Its cells. -/
def acL (x : Ac) : List Value := .int .u8 x.k :: (rowV 32 x.h ++ [.int .u64 x.n])
theorem acL_length (x : Ac) : (acL x).length = 34 := by simp [acL, rowV_length]
theorem acL_one (x : Ac) : ∀ u ∈ acL x, u.oneCell' = true := by
  intro u hu
  unfold acL at hu
  rcases List.mem_cons.1 hu with rfl | hu
  · rfl
  · rcases List.mem_append.1 hu with hu | hu
    · exact rowV_one 32 _ u hu
    · simp at hu; subst hu; rfl
theorem acL_get0 (x : Ac) : (acL x)[0]? = some (.int .u8 x.k) := rfl
theorem acL_geth (x : Ac) (j : Nat) (v : Value) (h : (rowV 32 x.h)[j]? = some v) : (acL x)[1 + j]? = some v := by
  have hj : j < 32 := by have := (List.getElem?_eq_some_iff.1 h).1; rwa [rowV_length] at this
  unfold acL
  rw [Nat.add_comm, List.getElem?_cons_succ, List.getElem?_append_left (by rw [rowV_length]; exact hj)]
  exact h
theorem acL_getn (x : Ac) : (acL x)[33]? = some (.int .u64 x.n) := by
  unfold acL
  rw [List.getElem?_cons_succ, List.getElem?_append_right (by rw [rowV_length]; omega), rowV_length]
  rfl
/-- These acts lie at this address. -/
def Acts (w : World) (ao : Option Addr) (xs : List Ac) : Prop :=
  xs = [] ∨ ∃ b off, ao = some ⟨b, off, none⟩ ∧ b < w.heap.size ∧ ∀ (j : Nat) x, xs[j]? = some x → w.rangeAt b (off + j * 34) (acL x)
theorem Acts.below {w w' : World} {ao : Option Addr} {xs : List Ac} (h : Acts w ao xs) (hb : Below w.heap.size w w') : Acts w' ao xs := by
  rcases h with h | ⟨b, off, rfl, hl, hc⟩
  · exact .inl h
  · exact .inr ⟨b, off, rfl, Nat.lt_of_lt_of_le hl hb.size, fun j x hx i v hv => (World.cell?_of_block (w := w) (a := ⟨b, off + j * 34 + i, none⟩) (hb.block b hl)).trans (hc j x hx i v hv)⟩
theorem Acts.get {w : World} {ao : Option Addr} {xs : List Ac} (h : Acts w ao xs) {j : Nat} {x : Ac} (hx : xs[j]? = some x) : ∃ b off, ao = some ⟨b, off, none⟩ ∧ w.rangeAt b (off + j * 34) (acL x) := by
  rcases h with rfl | ⟨b, off, e, _, hc⟩
  · simp at hx
  · exact ⟨b, off, e, hc j x hx⟩
theorem info_ac (x : Ac) : (Tryd.prog.info? 56).map (·.size) = some (acL x).length := by rw [acL_length]; kernel_rfl
theorem info_acA (x : Ac) : (Tryd.prog.info? 56).map (·.size) = some (acL x).toArray.size := by rw [List.size_toArray, acL_length]; kernel_rfl
/-- A box with an act. -/
structure Ab (w : World) (g : Nat) (x : Ac) : Prop where
  lt : g < w.heap.size
  row : w.rangeAt g 0 (acL x)
theorem Ab.of {w w' : World} {g : Nat} {x : Ac} (h : Ab w g x) (hs : w.heap.size ≤ w'.heap.size) (hb : w'.heap[g]? = w.heap[g]?) : Ab w' g x :=
  ⟨Nat.lt_of_lt_of_le h.lt hs, fun j v hv => (World.cell?_of_block (w := w) (a := ⟨g, 0 + j, none⟩) hb).trans (h.row j v hv)⟩
theorem Ab.below {w w' : World} {g : Nat} {x : Ac} (h : Ab w g x) (hb : Below w.heap.size w w') : Ab w' g x := h.of hb.size (hb.block g h.lt)
theorem Ab.k {w : World} {g : Nat} {x : Ac} (h : Ab w g x) : w.cell? ⟨g, 0, none⟩ = some (.int .u8 x.k) := h.row 0 _ (acL_get0 x)
theorem Ab.n {w : World} {g : Nat} {x : Ac} (h : Ab w g x) : w.cell? ⟨g, 33, none⟩ = some (.int .u64 x.n) := by have := h.row 33 _ (acL_getn x); rwa [Nat.zero_add] at this
theorem Ab.h {w : World} {g : Nat} {x : Ac} (h : Ab w g x) : w.rangeAt g 1 (rowV 32 x.h) := fun j v hv => by have := h.row (1 + j) v (acL_geth x j v hv); rwa [Nat.zero_add] at this
theorem act_there (w : World) (x : Ac) (cs : Array Value) (hcs : cs.size = 34) (t : TypeId) : (w.alloc (.cells cs t)).there w.heap.size 0 (acL x).toArray.size := by
  have e : (acL x).toArray.size = 34 := by rw [List.size_toArray, acL_length]
  rw [e]
  intro j hj
  rw [Nat.zero_add]
  exact ⟨by rw [World.cell?_alloc_at _ _ _ _ rfl]; simp [hcs, hj], World.frozen?_alloc_at _ _ _ _ rfl⟩
theorem Ab.new (w : World) (x : Ac) (cs : Array Value) (hcs : cs.size = 34) (t : TypeId) : Ab ((w.alloc (.cells cs t)).setCells w.heap.size 0 (acL x)) w.heap.size x ∧ Below w.heap.size w ((w.alloc (.cells cs t)).setCells w.heap.size 0 (acL x)) := by
  have ht : (w.alloc (.cells cs t)).there w.heap.size 0 (acL x).length := by
    intro j hj
    rw [acL_length] at hj
    rw [Nat.zero_add]
    exact ⟨by rw [World.cell?_alloc_at _ _ _ _ rfl]; simp [hcs, hj], World.frozen?_alloc_at _ _ _ _ rfl⟩
  exact ⟨⟨by rw [setCells_size]; simp, World.rangeAt_setCells_same _ _ _ _ ht⟩, setCells_below (bAl (bMe w)) (Nat.le_refl _) _ _⟩
end Go.Proofs.YtlkmebimgpigjaaDoor
