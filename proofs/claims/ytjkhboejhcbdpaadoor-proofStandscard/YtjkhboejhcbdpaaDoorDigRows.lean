/- Rows of numbers of 32 bits as values; a block's sixteen numbers, byte by byte. -/
import Derived.Test.YtjkhboejhcbdpaaDoorDigTurn
import Derived.Deep.MidRow
namespace Go.Proofs.YtjkhboejhcbdpaaDoor
open Go.RowKit Go.Lib

/-- So many numbers of 32 bits, as a program holds them. -/
def wordV (n : Nat) (f : Nat → Int) : List Value := (List.range n).map fun j => .int .u32 (f j)
theorem wordV_length (n : Nat) (f : Nat → Int) : (wordV n f).length = n := by simp [wordV]
theorem wordV_get {n : Nat} {f : Nat → Int} {j : Nat} (h : j < n) : (wordV n f)[j]? = some (.int .u32 (f j)) := by simp [wordV, h]
theorem wordV_congr {n : Nat} {f g : Nat → Int} (h : ∀ j, j < n → f j = g j) : wordV n f = wordV n g := by
  unfold wordV
  apply List.map_congr_left
  intro j hj
  rw [h j (List.mem_range.1 hj)]
theorem wordV_one (n : Nat) (f : Nat → Int) : ∀ v ∈ wordV n f, v.oneCell' = true := by
  intro v hv
  obtain ⟨j, _, rfl⟩ := List.mem_map.1 hv
  rfl
theorem R32.range {w : World} {g n : Nat} {f : Nat → Int} (h : R32 w g n f) : w.rangeAt g 0 (wordV n f) := by
  intro j v hv
  have hj : j < n := by have := (List.getElem?_eq_some_iff.1 hv).1; rwa [wordV_length] at this
  rw [wordV_get hj] at hv
  injection hv with hv
  subst hv
  rw [Nat.zero_add]
  exact h.cell j hj
theorem R32.there {w : World} {g n : Nat} {f : Nat → Int} (h : R32 w g n f) : w.there g 0 n := by
  intro j hj
  rw [Nat.zero_add]
  exact ⟨by rw [h.cell j hj]; rfl, h.fr j⟩
theorem R32.stored {w : World} {g n : Nat} {f : Nat → Int} (h : R32 w g n f) (f' : Nat → Int) : R32 (w.setCells g 0 (wordV n f')) g n f' := by
  have hr := World.rangeAt_setCells_same w g 0 (wordV n f') (by rw [wordV_length]; exact h.there)
  refine ⟨?_, fun j hj => ?_, fun o => ?_⟩
  · rw [setCells_size]; exact h.lt
  · have := hr j _ (wordV_get hj)
    rwa [Nat.zero_add] at this
  · rw [World.frozen?_setCells]; exact h.fr o
theorem R32.storing {P : Program} {w : World} {g n : Nat} {f : Nat → Int} (h : R32 w g n f) (f' : Nat → Int) : (storeCells ⟨g, 0, none⟩ (wordV n f')).run P w = .ok () (w.setCells g 0 (wordV n f')) := by
  have := run_storeCells_cells (P := P) g 0 (wordV n f') 0 w (fun j hj => (h.there j (by rwa [wordV_length] at hj)).1) (fun j hj => (h.there j (by rwa [wordV_length] at hj)).2) (wordV_one n f')
  rwa [Nat.zero_add] at this
theorem R32.box (w : World) (n : Nat) (f : Nat → Int) (t : TypeId) {g : Nat} (e : w.heap.size = g) : R32 (w.alloc (.cells (wordV n f).toArray t)) g n f := by
  subst e
  exact ⟨by simp, fun j hj => by rw [World.cell?_alloc_at _ _ _ _ rfl]; simp [wordV, hj], fun o => World.frozen?_alloc_at _ _ _ _ rfl⟩
theorem BRow.box (w : World) (n : Nat) (f : Nat → Int) (t : TypeId) {g : Nat} (e : w.heap.size = g) : BRow (w.alloc (.cells (rowV n f).toArray t)) g n f := by
  subst e
  exact ⟨by simp, fun j hj => by rw [World.cell?_alloc_at _ _ _ _ rfl]; simp [rowV, hj], fun o => World.frozen?_alloc_at _ _ _ _ rfl⟩
theorem BRow.dn {w : World} {g n : Nat} {f : Nat → Int} (h : BRow w g n f) (k : Nat) : BRow (w.drewN k) g n f := h.of (Nat.le_refl _) rfl
theorem R32.zeros64 (w : World) {g : Nat} (e : w.heap.size = g) : R32 (w.alloc (.cells #[.int .u32 0, .int .u32 0, .int .u32 0, .int .u32 0, .int .u32 0, .int .u32 0, .int .u32 0, .int .u32 0, .int .u32 0, .int .u32 0, .int .u32 0, .int .u32 0, .int .u32 0, .int .u32 0, .int .u32 0, .int .u32 0, .int .u32 0, .int .u32 0, .int .u32 0, .int .u32 0, .int .u32 0, .int .u32 0, .int .u32 0, .int .u32 0, .int .u32 0, .int .u32 0, .int .u32 0, .int .u32 0, .int .u32 0, .int .u32 0, .int .u32 0, .int .u32 0, .int .u32 0, .int .u32 0, .int .u32 0, .int .u32 0, .int .u32 0, .int .u32 0, .int .u32 0, .int .u32 0, .int .u32 0, .int .u32 0, .int .u32 0, .int .u32 0, .int .u32 0, .int .u32 0, .int .u32 0, .int .u32 0, .int .u32 0, .int .u32 0, .int .u32 0, .int .u32 0, .int .u32 0, .int .u32 0, .int .u32 0, .int .u32 0, .int .u32 0, .int .u32 0, .int .u32 0, .int .u32 0, .int .u32 0, .int .u32 0, .int .u32 0, .int .u32 0] 89)) g 64 (fun _ => 0) := by
  subst e
  have h : (Array.replicate 64 (Value.int .u32 0)) = #[.int .u32 0, .int .u32 0, .int .u32 0, .int .u32 0, .int .u32 0, .int .u32 0, .int .u32 0, .int .u32 0, .int .u32 0, .int .u32 0, .int .u32 0, .int .u32 0, .int .u32 0, .int .u32 0, .int .u32 0, .int .u32 0, .int .u32 0, .int .u32 0, .int .u32 0, .int .u32 0, .int .u32 0, .int .u32 0, .int .u32 0, .int .u32 0, .int .u32 0, .int .u32 0, .int .u32 0, .int .u32 0, .int .u32 0, .int .u32 0, .int .u32 0, .int .u32 0, .int .u32 0, .int .u32 0, .int .u32 0, .int .u32 0, .int .u32 0, .int .u32 0, .int .u32 0, .int .u32 0, .int .u32 0, .int .u32 0, .int .u32 0, .int .u32 0, .int .u32 0, .int .u32 0, .int .u32 0, .int .u32 0, .int .u32 0, .int .u32 0, .int .u32 0, .int .u32 0, .int .u32 0, .int .u32 0, .int .u32 0, .int .u32 0, .int .u32 0, .int .u32 0, .int .u32 0, .int .u32 0, .int .u32 0, .int .u32 0, .int .u32 0, .int .u32 0] := rfl
  refine ⟨by simp, fun j hj => ?_, fun o => World.frozen?_alloc_at _ _ _ _ rfl⟩
  rw [World.cell?_alloc_at _ _ _ _ rfl, ← h]; simp [hj]
theorem R32.thereA {w : World} {g n : Nat} {f : Nat → Int} (h : R32 w g n f) (V : Nat → Int) : w.there g 0 (wordV n V).toArray.size := by rw [List.size_toArray, wordV_length]; exact h.there
theorem BRow.thereA {w : World} {g n : Nat} {f : Nat → Int} (h : BRow w g n f) (V : Nat → Int) : w.there g 0 (rowV n V).toArray.size := by rw [List.size_toArray, rowV_length]; exact h.there
theorem wordV_oneA (n : Nat) (f : Nat → Int) : (wordV n f).toArray.all (·.oneCell') = true := all_oneCell_toArray (wordV_one n f)
theorem rowV_oneA (n : Nat) (f : Nat → Int) : (rowV n f).toArray.all (·.oneCell') = true := all_oneCell_toArray (rowV_one n f)
theorem info_w64A (f : Nat → Int) : (Tryd.prog.info? 89).map (·.size) = some (wordV 64 f).toArray.size := by rw [List.size_toArray, wordV_length]; kernel_rfl
theorem info_w8A (f : Nat → Int) : (Tryd.prog.info? 87).map (·.size) = some (wordV 8 f).toArray.size := by rw [List.size_toArray, wordV_length]; kernel_rfl
theorem info_w64 (f : Nat → Int) : (Tryd.prog.info? 89).map (·.size) = some (wordV 64 f).length := by rw [wordV_length]; kernel_rfl
theorem info_w8 (f : Nat → Int) : (Tryd.prog.info? 87).map (·.size) = some (wordV 8 f).length := by rw [wordV_length]; kernel_rfl
theorem info_b64 (f : Nat → Int) : (Tryd.prog.info? 93).map (·.size) = some (rowV 64 f).length := by rw [rowV_length]; kernel_rfl
/-- The first n bytes of a number. -/
def pn (f : Nat → Int) (j : Nat) : Nat → Int
  | 0 => 0
  | n + 1 => pn f j n * 256 + f (4 * j + n)
/-- The numbers when k bytes were read. -/
def acc (f : Nat → Int) (k j : Nat) : Int := pn f j (min 4 (k - 4 * j))
theorem pn_bd {f : Nat → Int} (hf : ∀ j, 0 ≤ f j ∧ f j < 256) (j : Nat) : (0 ≤ pn f j 0 ∧ pn f j 0 < 1) ∧ (0 ≤ pn f j 1 ∧ pn f j 1 < 256) ∧ (0 ≤ pn f j 2 ∧ pn f j 2 < 65536) ∧ (0 ≤ pn f j 3 ∧ pn f j 3 < 16777216) := by
  have h0 := hf (4 * j + 0); have h1 := hf (4 * j + 1); have h2 := hf (4 * j + 2)
  simp only [pn]
  omega
theorem acc_bd {f : Nat → Int} (hf : ∀ j, 0 ≤ f j ∧ f j < 256) (k : Nat) : 0 ≤ acc f k (k / 4) ∧ acc f k (k / 4) < 16777216 := by
  have h := pn_bd hf (k / 4)
  unfold acc
  rcases (by omega : min 4 (k - 4 * (k / 4)) = 0 ∨ min 4 (k - 4 * (k / 4)) = 1 ∨ min 4 (k - 4 * (k / 4)) = 2 ∨ min 4 (k - 4 * (k / 4)) = 3) with e | e | e | e <;> rw [e] <;> omega
theorem acc_next (f : Nat → Int) (k j : Nat) : (if j = k / 4 then acc f k (k / 4) * 256 + f k else acc f k j) = acc f (k + 1) j := by
  unfold acc
  by_cases e : j = k / 4
  · subst e
    rw [if_pos rfl]
    have h1 : min 4 (k - 4 * (k / 4)) = k - 4 * (k / 4) := by omega
    have h2 : min 4 (k + 1 - 4 * (k / 4)) = k - 4 * (k / 4) + 1 := by omega
    rw [h1, h2]
    simp only [pn]
    rw [show 4 * (k / 4) + (k - 4 * (k / 4)) = k by omega]
  · rw [if_neg e, show min 4 (k + 1 - 4 * j) = min 4 (k - 4 * j) by omega]
theorem or_byte {a b : Int} (ha : 0 ≤ a ∧ a < 16777216) (hb : 0 ≤ b ∧ b < 256) : bits .or .u32 (a * 256) b = a * 256 + b := by
  have h := or_sum32 (a := a) (b := b) 8 ha.1 hb.1 (by simp only [Nat.reducePow]; omega) (by simp only [Nat.reducePow]; omega)
  simp only [Nat.reducePow] at h
  exact h
/-- A block's numbers, of its bytes. -/
def bw (f : Nat → Int) (j : Nat) : Int := f (4 * j) * 16777216 + f (4 * j + 1) * 65536 + f (4 * j + 2) * 256 + f (4 * j + 3)
theorem bw_U {f : Nat → Int} (hf : ∀ j, 0 ≤ f j ∧ f j < 256) (j : Nat) : U32 (bw f j) := by
  have h0 := hf (4 * j); have h1 := hf (4 * j + 1); have h2 := hf (4 * j + 2); have h3 := hf (4 * j + 3)
  unfold bw U32; omega
theorem bw_list (l : List Int) : bw (fun j => l.getD j 0) = blockW l := rfl
theorem words_lo (F : Nat → Int) : ∀ (k j : Nat), k ≤ 16 → j < k → (words F k).getD j 0 = F j
  | k + 1, j, hk, hj => by
    rw [← words_next F k j]
    by_cases e : j = k
    · subst e; rw [if_pos rfl]; unfold nextW; rw [if_pos (by omega)]
    · rw [if_neg e]; exact words_lo F k j (by omega) (by omega)
theorem words_hi (F : Nat → Int) (k j : Nat) (hj : k ≤ j) : (words F k).getD j 0 = 0 := by
  rw [List.getD_eq_getElem?_getD, List.getElem?_eq_none (by rw [words_length]; exact hj)]; rfl
theorem acc_all (f : Nat → Int) (j : Nat) (hj : j < 64) : acc f 64 j = (words (bw f) 16).getD j 0 := by
  by_cases h : j < 16
  · rw [words_lo _ 16 j (Nat.le_refl _) h]
    unfold acc bw
    rw [show min 4 (64 - 4 * j) = 4 by omega]
    simp only [pn, Nat.add_zero]
    omega
  · rw [words_hi _ _ _ (by omega)]
    unfold acc
    rw [show min 4 (64 - 4 * j) = 0 by omega]
    rfl
end Go.Proofs.YtjkhboejhcbdpaaDoor
