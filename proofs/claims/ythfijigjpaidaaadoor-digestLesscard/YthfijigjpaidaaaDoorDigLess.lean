/- The contract of digest.Less over this translation; the order of sums. -/
import Derived.Test.YthfijigjpaidaaaDoorDigLives
import Derived.Test.YthfijigjpaidaaaDoorHashEq
namespace Go.Proofs.YthfijigjpaidaaaDoor
open Go.RowKit Go.Lib
attribute [local go_sem] setCell_drewN alloc_drewN

/-- Is the first byte that differs, from place k on, the lesser one? -/
def lessFrom (f f' : Nat → Int) : Nat → Nat → Bool
  | 0, _ => false
  | n + 1, k => if f k = f' k then lessFrom f f' n (k + 1) else decide (f k < f' k)
def lessB (f f' : Nat → Int) : Bool := lessFrom f f' 32 0
theorem lessFrom_iff (f f' : Nat → Int) : ∀ n k, lessFrom f f' n k = true ↔ ∃ i, k ≤ i ∧ i < k + n ∧ (∀ j, k ≤ j → j < i → f j = f' j) ∧ f i < f' i
  | 0, k => by simp [lessFrom]; intro i h1 h2; omega
  | n + 1, k => by
    unfold lessFrom
    by_cases e : f k = f' k
    · rw [if_pos e, lessFrom_iff f f' n (k + 1)]
      constructor
      · rintro ⟨i, h1, h2, h3, h4⟩
        refine ⟨i, by omega, by omega, fun j hj hj2 => ?_, h4⟩
        by_cases ej : j = k
        · rw [ej]; exact e
        · exact h3 j (by omega) hj2
      · rintro ⟨i, h1, h2, h3, h4⟩
        have hik : i ≠ k := fun h => by rw [h] at h4; omega
        exact ⟨i, by omega, by omega, fun j hj hj2 => h3 j (by omega) hj2, h4⟩
    · rw [if_neg e]
      constructor
      · intro h
        exact ⟨k, Nat.le_refl _, by omega, fun j h1 h2 => by omega, by simpa using h⟩
      · rintro ⟨i, h1, h2, h3, h4⟩
        have hik : i = k := by
          by_cases h : i = k
          · exact h
          · exact absurd (h3 k (Nat.le_refl _) (by omega)) e
        rw [hik] at h4
        simpa using h4
theorem lessB_iff (f f' : Nat → Int) : lessB f f' = true ↔ ∃ i, i < 32 ∧ (∀ j, j < i → f j = f' j) ∧ f i < f' i := by
  unfold lessB
  rw [lessFrom_iff]
  constructor
  · rintro ⟨i, _, h2, h3, h4⟩; exact ⟨i, by omega, fun j hj => h3 j (by omega) hj, h4⟩
  · rintro ⟨i, h2, h3, h4⟩; exact ⟨i, by omega, by omega, fun j _ hj => h3 j hj, h4⟩
theorem less_asym {f f' : Nat → Int} (h : lessB f f' = true) : lessB f' f = false := by
  cases e : lessB f' f with
  | false => rfl
  | true =>
    obtain ⟨i, h1, h2, h3⟩ := (lessB_iff _ _).1 h
    obtain ⟨i', h1', h2', h3'⟩ := (lessB_iff _ _).1 e
    rcases (by omega : i < i' ∨ i = i' ∨ i' < i) with hh | hh | hh
    · have := h2' i hh; omega
    · subst hh; omega
    · have := h2 i' hh; omega
theorem less_same {f f' : Nat → Int} (h : lessB f f' = true) : sameH f f' = false := by
  cases e : sameH f f' with
  | false => rfl
  | true =>
    obtain ⟨i, h1, h2, h3⟩ := (lessB_iff _ _).1 h
    have := (sameH_iff f f').1 e i h1
    omega
theorem less_none (f f' : Nat → Int) : ∀ n k, lessFrom f f' n k = false → lessFrom f' f n k = false → ∀ j, k ≤ j → j < k + n → f j = f' j
  | 0, k, _, _, j, h1, h2 => by omega
  | n + 1, k, ha, hb, j, h1, h2 => by
    unfold lessFrom at ha hb
    by_cases e : f k = f' k
    · rw [if_pos e] at ha
      rw [if_pos e.symm] at hb
      by_cases ej : j = k
      · rw [ej]; exact e
      · exact less_none f f' n (k + 1) ha hb j (by omega) (by omega)
    · rw [if_neg e] at ha
      rw [if_neg (fun h => e h.symm)] at hb
      simp at ha hb
      omega
theorem less_eq {f f' : Nat → Int} (ha : lessB f f' = false) (hb : lessB f' f = false) : sameH f f' = true :=
  (sameH_iff f f').2 (fun j hj => less_none f f' 32 0 ha hb j (by omega) (by omega))
theorem less_trans {f g h : Nat → Int} (ha : lessB f g = true) (hb : lessB g h = true) : lessB f h = true := by
  obtain ⟨i, h1, h2, h3⟩ := (lessB_iff _ _).1 ha
  obtain ⟨i', h1', h2', h3'⟩ := (lessB_iff _ _).1 hb
  refine (lessB_iff _ _).2 ?_
  rcases (by omega : i < i' ∨ i = i' ∨ i' < i) with hh | hh | hh
  · exact ⟨i, h1, fun j hj => (h2 j hj).trans (h2' j (by omega)), by have := h2' i hh; omega⟩
  · subst hh; exact ⟨i, h1, fun j hj => (h2 j hj).trans (h2' j hj), by omega⟩
  · exact ⟨i', h1', fun j hj => (h2 j (by omega)).trans (h2' j hj), by have := h2 i' hh; omega⟩
set_option maxHeartbeats 4000000 in
theorem less_any (f f' : Nat → Int) (w : World) :
    Calls Tryd.prog 14 #[.agg (rowV 32 f).toArray, .agg (rowV 32 f').toArray] w fun e w' => e = .returned (.bool (lessB f f')) ∧ Below w.heap.size w w' := by
  have A := hide ((BRow.box w 32 f 25 (g := w.heap.size) rfl).past (.cells (rowV 32 f').toArray 25))
  have C := hide (BRow.box (w.alloc (.cells (rowV 32 f).toArray 25)) 32 f' 25 (g := w.heap.size + 1) (by simp))
  have B : Hid (Below w.heap.size w ((w.alloc (.cells (rowV 32 f).toArray 25)).alloc (.cells (rowV 32 f').toArray 25))) := bAl (bAl (bMe w))
  go_enter Tryd.func14, Tryd.ntmps14
  go_wp2
  generalize (w.alloc (.cells (rowV 32 f).toArray 25)).alloc (.cells (rowV 32 f').toArray 25) = w1 at *
  go_loopg [6] 32 (fun gk t wr => ∃ k : Nat, gk + k = 32 ∧ t = .int .i64 k ∧ Hid (lessFrom f f' gk k = lessB f f') ∧ BRow wr w.heap.size 32 f ∧ BRow wr (w.heap.size + 1) 32 f' ∧ Below w.heap.size w wr)
  case atStart => exact ⟨0, by omega, rfl, rfl, A.out, C.out, B.out⟩
  case round =>
    clear A C B
    obtain ⟨k, hk, rfl, HL, ha, hc, hb⟩ := hrel
    have A := hide ha; have C := hide hc; have B := hide hb; have HK := hide hk
    clear ha hc hb hk
    by_cases hlt : k < 32
    · have hki : (k : Int) < 32 := by omega
      have ca := A.out.cell k hlt
      have cc := C.out.cell k hlt
      obtain ⟨n, hn⟩ : ∃ n, gk = n + 1 := ⟨gk - 1, by have := HK.out; omega⟩
      subst hn
      have HS : Hid ((if f k = f' k then lessFrom f f' n (k + 1) else decide (f k < f' k)) = lessB f f') := HL
      clear HL
      by_cases he : f k = f' k
      · have HE := hide he
        rw [he] at ca
        generalize f' k = y at *
        go_wp2
        go_quiet (fail)
        go_wp2
        go_roundg n
        case measure => omega
        case rel => exact ⟨k + 1, by have := HK.out; omega, by go_num, by have := HS.out; rw [if_pos HE.out] at this; exact this, A.out.dn _, C.out.dn _, bDn B.out⟩
      · have HE := hide he
        have hne : (f k != f' k) = true := by simpa using he
        have HV : Hid (decide (f k < f' k) = lessB f f') := by have := HS.out; rw [if_neg he] at this; exact this
        generalize f k = x at *
        generalize f' k = y at *
        go_wp2
        go_quiet (fail)
        go_wp2
        go_quiet (fail)
        go_wp2
        go_ret
        exact ⟨congrArg (fun b => Ending.returned (.bool b)) HV.out, bDn (bDn B.out)⟩
    · obtain rfl : k = 32 := by have := HK.out; omega
      obtain rfl : gk = 0 := by have := HK.out; omega
      go_wp2
      go_ret
      exact ⟨by have := HL.out; rw [← this]; rfl, B.out⟩
theorem less_at (f f' : Nat → Int) (v : Bool) (w : World) (h : lessB f f' = v) :
    Calls Tryd.prog 14 #[.agg (rowV 32 f).toArray, .agg (rowV 32 f').toArray] w fun e w' => e = .returned (.bool v) ∧ Below w.heap.size w w' := by
  subst h; exact less_any f f' w
end Go.Proofs.YthfijigjpaidaaaDoor
