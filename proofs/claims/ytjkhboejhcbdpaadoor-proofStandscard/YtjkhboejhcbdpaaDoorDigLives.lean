/- The contract of sponsionlaw05.lives over this translation; one part handed in. -/
import Derived.Test.YtjkhboejhcbdpaaDoorDigParts
import Derived.Lib.SlBytesConst
namespace Go.Proofs.YtjkhboejhcbdpaaDoor
open Go.RowKit Go.Lib
attribute [local go_sem] setCell_drewN alloc_drewN

/-- One part in a row of its own. -/
theorem one_part {w : World} (pa : Option Addr) (pc : Nat) (pl : List Int) (h : PtOk w ⟨pa, pc, pl⟩) (t : TypeId) {g : Nat} (e : w.heap.size = g) : Parts (w.alloc (.cells #[.slice pa pl.length pc] t)) (some ⟨g, 0, none⟩) [⟨pa, pc, pl⟩] := by
  subst e
  refine .inr ⟨w.heap.size, 0, rfl, by simp, fun j p hp => ?_⟩
  have hj : j = 0 := by have := (List.getElem?_eq_some_iff.1 hp).1; simp at this; exact this
  subst hj
  simp at hp
  subst hp
  exact ⟨by rw [World.cell?_alloc_at _ _ _ _ rfl]; rfl, h.below (bAl (bMe w))⟩
theorem cat_one (pa : Option Addr) (pc : Nat) (pl : List Int) : cat [⟨pa, pc, pl⟩] = pl := by simp [cat]
/-- A sum of one part. -/
theorem dsum_one {w : World} (pa : Option Addr) (pc : Nat) (pl : List Int) (h : PtOk w ⟨pa, pc, pl⟩) (hlen : pl.length ≤ 900000) (ht : Tab w 1) (t : TypeId) {g : Nat} (e : w.heap.size = g) :
    Calls Tryd.prog 33 #[.slice (some ⟨g, 0, none⟩) 1 1] (w.alloc (.cells #[.slice pa pl.length pc] t)) fun e w' => e = .returned (.agg (rowV 32 (sha pl)).toArray) ∧ Below w.heap.size w w' := by
  have h1 := dsum_any (w := w.alloc (.cells #[.slice pa pl.length pc] t)) (some ⟨g, 0, none⟩) 1 [⟨pa, pc, pl⟩] (one_part pa pc pl h t e) (by rw [cat_one]; exact h.byt) (by rw [cat_one]; exact hlen) (by simp) (ht.below (bAl (bMe w)))
  rw [cat_one] at h1
  refine h1.mono ?_
  rintro e w' ⟨he, hb⟩
  exact ⟨he, bOn (bAl (bMe w)) hb⟩
theorem abc_at (w : World) (t : TypeId) : At (w.alloc (.cells #[.int .u8 97, .int .u8 98, .int .u8 99] t (3, 4))) (some ⟨w.heap.size, 0, none⟩) [97, 98, 99] := by
  have hb : (w.alloc (.cells #[.int .u8 97, .int .u8 98, .int .u8 99] t (3, 4))).heap[w.heap.size]? = some (.cells #[.int .u8 97, .int .u8 98, .int .u8 99] t (3, 4)) := by
    show (w.heap.push _)[w.heap.size]? = _
    simp
  refine .inr ⟨_, _, rfl, by simp, fun j hj => ?_⟩
  rcases (by simp at hj; omega : j = 0 ∨ j = 1 ∨ j = 2) with rfl | rfl | rfl <;> (unfold World.cell?; rw [hb]; rfl)
theorem abc_byt : Byt [97, 98, 99] := fun x hx => by simp at hx; omega
end Go.Proofs.YtjkhboejhcbdpaaDoor
