/- The contract of sponsionlaw05.lives over this translation; one part handed in. -/
import Derived.Test.YthfijigjpaidaaaDoorDigParts
import Derived.Lib.SlBytesConst
namespace Go.Proofs.YthfijigjpaidaaaDoor
open Go.RowKit Go.Lib
attribute [local go_sem] setCell_drewN alloc_drewN

/-- One part in a row of its own. -/
theorem one_part {w : World} (pa : Option Addr) (pc : Nat) (pl : List Int) (h : PtOk w ⟨pa, pc, pl⟩) (t : TypeId) {g : Nat} (e : w.heap.size = g) : Parts (w.alloc (.cells #[.slice pa pl.length pc] t)) (some ⟨g, 0, none⟩) [⟨pa, pc, pl⟩] := by
  subst e
  refine .inr ⟨w.heap.size, 0, rfl, by simp, fun j p hp => ?_⟩
  have hj : j = 0 := by have := (List.getElem?_eq_some_iff.1 hp).1; simp at this; exact this
  subst hj
  simp at hp
  subst hp
  exact ⟨by rw [World.cell?_alloc_at _ _ _ _ rfl]; rfl, h.below (bAl (bMe w))⟩
theorem cat_one (pa : Option Addr) (pc : Nat) (pl : List Int) : cat [⟨pa, pc, pl⟩] = pl := by simp [cat]
/-- A sum of one part. -/
theorem dsum_one {w : World} (pa : Option Addr) (pc : Nat) (pl : List Int) (h : PtOk w ⟨pa, pc, pl⟩) (hlen : pl.length ≤ 900000) (ht : Tab w 1) (t : TypeId) {g : Nat} (e : w.heap.size = g) :
    Calls Tryd.prog 8 #[.slice (some ⟨g, 0, none⟩) 1 1] (w.alloc (.cells #[.slice pa pl.length pc] t)) fun e w' => e = .returned (.agg (rowV 32 (sha pl)).toArray) ∧ Below w.heap.size w w' := by
  have h1 := dsum_any (w := w.alloc (.cells #[.slice pa pl.length pc] t)) (some ⟨g, 0, none⟩) 1 [⟨pa, pc, pl⟩] (one_part pa pc pl h t e) (by rw [cat_one]; exact h.byt) (by rw [cat_one]; exact hlen) (by simp) (ht.below (bAl (bMe w)))
  rw [cat_one] at h1
  refine h1.mono ?_
  rintro e w' ⟨he, hb⟩
  exact ⟨he, bOn (bAl (bMe w)) hb⟩
theorem abc_at (w : World) (t : TypeId) : At (w.alloc (.cells #[.int .u8 97, .int .u8 98, .int .u8 99] t (3, 4))) (some ⟨w.heap.size, 0, none⟩) [97, 98, 99] := by
  have hb : (w.alloc (.cells #[.int .u8 97, .int .u8 98, .int .u8 99] t (3, 4))).heap[w.heap.size]? = some (.cells #[.int .u8 97, .int .u8 98, .int .u8 99] t (3, 4)) := by
    show (w.heap.push _)[w.heap.size]? = _
    simp
  refine .inr ⟨_, _, rfl, by simp, fun j hj => ?_⟩
  rcases (by simp at hj; omega : j = 0 ∨ j = 1 ∨ j = 2) with rfl | rfl | rfl <;> (unfold World.cell?; rw [hb]; rfl)
theorem abc_byt : Byt [97, 98, 99] := fun x hx => by simp at hx; omega
set_option maxRecDepth 100000 in
set_option maxHeartbeats 4000000 in
theorem lives5_any (w : World) (ht : Tab w 1) :
    Calls Tryd.prog 7 #[] w fun e w' => e = .returned (.bool true) ∧ Below w.heap.size w w' := by
  have HT := hide ht
  clear ht
  have P : Hid (PtOk (w.alloc (.cells #[.int .u8 97, .int .u8 98, .int .u8 99] 5 (3, 4))) ⟨some ⟨w.heap.size, 0, none⟩, 3, [97, 98, 99]⟩) := ⟨abc_at w _, by simp, by simp [maxLen], abc_byt⟩
  have hcv := run_convert_bytes_const (P := Tryd.prog) w 22 5 #[.int .u8 97, .int .u8 98, .int .u8 99] 3 3 Tryd.underlying22 Tryd.underlying5
  go_enter Tryd.func7, Tryd.ntmps7
  go_wp2_with fail
  refine (dsum_one (some ⟨w.heap.size, 0, none⟩) 3 [97, 98, 99] P.out (by simp) (HT.out.below (bAl (bMe w))) 22 (g := w.heap.size + 1) (by simp)).mono ?_
  rintro e w1 ⟨rfl, hb⟩
  have B := hide (bOn (bAl (bMe w)) hb)
  clear hb P
  have HF := hide abc_sum
  generalize sha [97, 98, 99] = F at *
  have R := hide (BRow.zeros32 w1 (g := w1.heap.size) rfl)
  go_wp2_with (refine wpList_store_stop rfl 25 _ _ rfl w1.heap.size 0 (rowV 32 F) rfl rfl (R.out.thereA F) (info_hash32A F) (rowV_oneA _ _) ?_)
  intro w2 hw2
  have R2 : Hid (BRow w2 w1.heap.size 32 F) := by
    show BRow _ _ _ _
    rw [hw2.out]; exact R.out.stored F
  have B2 : Hid (Below w.heap.size w w2) := by
    show Below _ _ _
    rw [hw2.out]; exact setCells_below (bAl B.out) B.out.size _ _
  clear hw2 R B
  have c0 := R2.out.cell 0 (by omega)
  have c1 := R2.out.cell 1 (by omega)
  have c2 := R2.out.cell 2 (by omega)
  have c3 := R2.out.cell 3 (by omega)
  rw [HF.out.1] at c0
  rw [HF.out.2.1] at c1
  rw [HF.out.2.2.1] at c2
  rw [HF.out.2.2.2] at c3
  go_wp2
  go_ret
  exact ⟨rfl, B2.out⟩
end Go.Proofs.YthfijigjpaidaaaDoor
