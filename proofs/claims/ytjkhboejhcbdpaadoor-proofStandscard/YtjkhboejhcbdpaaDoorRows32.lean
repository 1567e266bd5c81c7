/- Rows of numbers of 32 bits in memory. -/
import Derived.Test.YtjkhboejhcbdpaaDoorPackBase
import Derived.Test.YtjkhboejhcbdpaaDoorSha
namespace Go.Proofs.YtjkhboejhcbdpaaDoor
open Go.RowKit Go.Lib

/-- Block g of w holds n numbers of 32 bits, and may be written. -/
structure R32 (w : World) (g n : Nat) (f : Nat → Int) : Prop where
  lt : g < w.heap.size
  cell : ∀ j, j < n → w.cell? ⟨g, j, none⟩ = some (.int .u32 (f j))
  fr : ∀ o, w.frozen? ⟨g, o, none⟩ = false
theorem R32.of {w w' : World} {g n : Nat} {f : Nat → Int} (h : R32 w g n f) (hs : w.heap.size ≤ w'.heap.size) (hb : w'.heap[g]? = w.heap[g]?) : R32 w' g n f :=
  ⟨Nat.lt_of_lt_of_le h.lt hs, fun j hj => (World.cell?_of_block (w := w) (a := ⟨g, j, none⟩) hb).trans (h.cell j hj), fun o => (World.frozen?_of_block (w := w) (a := ⟨g, o, none⟩) hb).trans (h.fr o)⟩
theorem R32.after {w w1 w' : World} {g n : Nat} {f : Nat → Int} (h : R32 w g n f) (hb : Below w1.heap.size w1 w') (e : w1.heap = w.heap) : R32 w' g n f :=
  h.of (by rw [← e]; exact hb.size) (by rw [hb.block g (by rw [e]; exact h.lt), e])
theorem R32.past {w : World} {g n : Nat} {f : Nat → Int} (h : R32 w g n f) (o : Obj) : R32 (w.alloc o) g n f := h.of (by simp) (Below.heap_alloc _ _ _ h.lt)
theorem R32.dn {w : World} {g n : Nat} {f : Nat → Int} (h : R32 w g n f) (k : Nat) : R32 (w.drewN k) g n f := h.of (Nat.le_refl _) rfl
theorem R32.other {w : World} {g n : Nat} {f : Nat → Int} (h : R32 w g n f) {p : Addr} (hp : g ≠ p.block) (v : Value) : R32 (w.setCell p v) g n f := h.of (by simp [World.setCell]) (Below.heap_setCell _ _ _ _ hp)
theorem R32.congr {w : World} {g n : Nat} {f f' : Nat → Int} (h : R32 w g n f) (e : ∀ j, j < n → f j = f' j) : R32 w g n f' :=
  ⟨h.lt, fun j hj => by rw [← e j hj]; exact h.cell j hj, h.fr⟩
theorem R32.set {w : World} {g n : Nat} {f : Nat → Int} (h : R32 w g n f) (m : Nat) (hm : m < n) (v : Int) : R32 (w.setCell ⟨g, m, none⟩ (.int .u32 v)) g n (fun j => if j = m then v else f j) := by
  refine ⟨by simpa [World.setCell] using h.lt, fun j hj => ?_, fun o => by simp [go_sem, h.fr]⟩
  have hc := h.cell j hj
  have hm' := h.cell m hm
  by_cases e : j = m
  · subst e; simp [go_sem, hc]
  · simp [go_sem, hc, e]
theorem R32.lit (w : World) (l : List Int) (t : TypeId) {g n : Nat} (e : w.heap.size = g) (hl : l.length = n) : R32 (w.alloc (.cells (l.map (Value.int .u32)).toArray t)) g n (fun j => l.getD j 0) := by
  subst e hl
  refine ⟨by simp, fun j hj => ?_, fun o => World.frozen?_alloc_at _ _ _ _ rfl⟩
  rw [World.cell?_alloc_at _ _ _ _ rfl]
  simp [hj]
/-- The eight by their place. -/
def s8 (s : St8) (j : Nat) : Int := [s.a, s.b, s.c, s.d, s.e, s.f, s.g, s.h].getD j 0
theorem words_length (f : Nat → Int) : ∀ k, (words f k).length = k
  | 0 => rfl
  | k + 1 => by show (words f k ++ [nextW f (words f k) k]).length = _; rw [List.length_append, words_length f k]; rfl
theorem words_next (f : Nat → Int) (k j : Nat) : (if j = k then nextW f (words f k) k else (words f k).getD j 0) = (words f (k + 1)).getD j 0 := by
  show _ = (words f k ++ [nextW f (words f k) k]).getD j 0
  have hl := words_length f k
  by_cases e : j = k
  · subst e
    rw [if_pos rfl, List.getD_eq_getElem?_getD, List.getElem?_append_right (by omega), hl]
    simp
  · rw [if_neg e]
    by_cases hj : j < k
    · rw [List.getD_eq_getElem?_getD, List.getD_eq_getElem?_getD, List.getElem?_append_left (by omega)]
    · rw [List.getD_eq_getElem?_getD, List.getD_eq_getElem?_getD, List.getElem?_eq_none (by omega), List.getElem?_eq_none (by simp; omega)]
theorem blockW_U {l : List Int} (h : Byt l) (j : Nat) : U32 (blockW l j) := by
  have h0 := h.get (4 * j)
  have h1 := h.get (4 * j + 1)
  have h2 := h.get (4 * j + 2)
  have h3 := h.get (4 * j + 3)
  unfold U32 blockW
  omega
theorem words_U {f : Nat → Int} (hf : ∀ j, U32 (f j)) : ∀ k, ∀ x ∈ words f k, U32 x
  | 0, x, hx => by simp [words] at hx
  | k + 1, x, hx => by
    rcases List.mem_append.1 (show x ∈ words f k ++ [nextW f (words f k) k] from hx) with hx | hx
    · exact words_U hf k x hx
    · simp at hx
      subst hx
      unfold nextW
      split
      · exact hf k
      · exact m32_U _
theorem words_get {f : Nat → Int} (hf : ∀ j, U32 (f j)) (k j : Nat) : U32 ((words f k).getD j 0) := by
  by_cases hj : j < (words f k).length
  · have : (words f k).getD j 0 = (words f k)[j] := by simp [hj]
    rw [this]; exact words_U hf k _ (List.getElem_mem hj)
  · rw [List.getD_eq_getElem?_getD, List.getElem?_eq_none (by omega)]; unfold U32; simp
theorem shr_U {x : Int} (hx : U32 x) (n : Nat) : U32 (x / 2 ^ n) :=
  ⟨Int.ediv_nonneg hx.1 (Int.le_of_lt (Int.pow_pos (by decide))), Int.lt_of_le_of_lt (Int.ediv_le_self _ hx.1) hx.2⟩
end Go.Proofs.YtjkhboejhcbdpaaDoor
