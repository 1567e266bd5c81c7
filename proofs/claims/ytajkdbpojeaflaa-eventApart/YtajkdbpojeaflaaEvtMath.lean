/- An event's bytes, and back; the row of any bytes. -/
import Derived.Test.YtajkdbpojeaflaaEvtGet
import Derived.Test.YtajkdbpojeaflaaBeMath
namespace Go.Proofs.Ytajkdbpojeaflaa
open Go.RowKit Go.Lib

theorem h32_take {l : List Int} (h : 32 ≤ l.length) : h32 (fun j => (l.take 32).getD j 0) = l.take 32 := by
  rw [take32_map h]
  unfold h32
  apply List.map_congr_left
  intro j hj
  have hj' : j < 32 := List.mem_range.1 hj
  simp [List.getD_eq_getElem?_getD, hj']
theorem split113 (l : List Int) : l.take 113 = l.take 1 ++ (l.drop 1).take 8 ++ (l.drop 9).take 32 ++ (l.drop 41).take 1 ++ (l.drop 42).take 1 ++ (l.drop 43).take 1 ++ (l.drop 44).take 1 ++ (l.drop 45).take 32 ++ (l.drop 77).take 32 ++ (l.drop 109).take 4 := by
  rw [show (113 : Nat) = 109 + 4 from rfl, List.take_add, show (109 : Nat) = 77 + 32 from rfl, List.take_add, show (77 : Nat) = 45 + 32 from rfl, List.take_add, show (45 : Nat) = 44 + 1 from rfl, List.take_add, show (44 : Nat) = 43 + 1 from rfl, List.take_add, show (43 : Nat) = 42 + 1 from rfl, List.take_add, show (42 : Nat) = 41 + 1 from rfl, List.take_add, show (41 : Nat) = 9 + 32 from rfl, List.take_add, show (9 : Nat) = 1 + 8 from rfl, List.take_add]
theorem ebytes_eof {l : List Int} (hb : Byt l) (h : 113 ≤ l.length) : ebytes (eof9 l) = l.take 113 := by
  unfold ebytes eof9
  simp only
  rw [be_bval hb 1 (by omega), be_bval (hb.drop 1) 8 (by simp; omega), h32_take (by simp; omega), be_bval (hb.drop 41) 1 (by simp; omega), be_bval (hb.drop 42) 1 (by simp; omega), be_bval (hb.drop 43) 1 (by simp; omega), be_bval (hb.drop 44) 1 (by simp; omega), b32_rv (hb.drop 45) (by simp; omega), b32_rv (hb.drop 77) (by simp; omega), be_bval (hb.drop 109) 4 (by simp; omega), split113 l]
theorem eof_ok {l : List Int} (hl : Byt l) (h : 113 ≤ l.length) : (eof9 l).Ok := by
  have b1 := bval_bd hl 1 (by omega)
  have b2 := bval_bd (hl.drop 1) 8 (by simp; omega)
  have b4 := bval_bd (hl.drop 41) 1 (by simp; omega)
  have b5 := bval_bd (hl.drop 42) 1 (by simp; omega)
  have b6 := bval_bd (hl.drop 43) 1 (by simp; omega)
  have b7 := bval_bd (hl.drop 44) 1 (by simp; omega)
  have b8 := bval_bd (hl.drop 109) 4 (by simp; omega)
  refine ⟨by simpa [eof9] using b1, by simpa [eof9] using b2, ((hl.drop 9).take 32).get, fun j hj => ?_, by simpa [eof9] using b4, by simpa [eof9] using b5, by simpa [eof9] using b6, by simpa [eof9] using b7, rv_in (hl.drop 45).get, rv_in (hl.drop 77).get, by simpa [eof9] using b8⟩
  show ((l.drop 9).take 32).getD j 0 = 0
  rw [List.getD_eq_getElem?_getD, List.getElem?_eq_none (by simp; omega)]; rfl
theorem eof_ebytes {x : Evt} (hx : x.Ok) (r : List Int) : eof9 (ebytes x ++ r) = x := by
  obtain ⟨k, b, h, s, t, f, u, a, c, n⟩ := x
  obtain ⟨h1, h2, h3, hz, h4, h5, h6, h7, h8, h9, h10⟩ := hx
  simp only at h1 h2 h3 hz h4 h5 h6 h7 h8 h9 h10
  have e : ebytes ⟨k, b, h, s, t, f, u, a, c, n⟩ ++ r = be k 1 ++ (be b 8 ++ (h32 h ++ (be s 1 ++ (be t 1 ++ (be f 1 ++ (be u 1 ++ (b32 a ++ (b32 c ++ (be n 4 ++ r))))))))) := by simp [ebytes, List.append_assoc]
  rw [e]
  have q (p m : List Int) (i j L : Nat) (H : L = i + j) (R : List Int) (hd : R.drop i = p ++ m) (hp : p.length = j) : R.drop L = m := by
    rw [H, ← List.drop_drop, hd]; exact List.drop_left' hp
  generalize hR : be k 1 ++ (be b 8 ++ (h32 h ++ (be s 1 ++ (be t 1 ++ (be f 1 ++ (be u 1 ++ (b32 a ++ (b32 c ++ (be n 4 ++ r))))))))) = R
  have d0 : R.drop 0 = _ := hR.symm
  have d1 := q _ _ 0 1 1 rfl R d0 (be_length _ _)
  have d2 := q _ _ 1 8 9 rfl R d1 (be_length _ _)
  have d3 := q _ _ 9 32 41 rfl R d2 (h32_length _)
  have d4 := q _ _ 41 1 42 rfl R d3 (be_length _ _)
  have d5 := q _ _ 42 1 43 rfl R d4 (be_length _ _)
  have d6 := q _ _ 43 1 44 rfl R d5 (be_length _ _)
  have d7 := q _ _ 44 1 45 rfl R d6 (be_length _ _)
  have d8 := q _ _ 45 32 77 rfl R d7 (b32_length _)
  have d9 := q _ _ 77 32 109 rfl R d8 (b32_length _)
  have hrv : ∀ (y : Int) (m : List Int), In y → rv (fun j => (b32 y ++ m).getD j 0) 32 = y := fun y m hy => by
    rw [rv_congr (f' := bt y) (fun j hj => by rw [List.getD_eq_getElem?_getD, List.getElem?_append_left (by rw [b32_length]; exact hj), ← List.getD_eq_getElem?_getD]; exact b32_get y hj) 32 (Nat.le_refl _), rv_bt_all hy]
  have hh : (fun j => (((h32 h ++ (be s 1 ++ (be t 1 ++ (be f 1 ++ (be u 1 ++ (b32 a ++ (b32 c ++ (be n 4 ++ r))))))))).take 32).getD j 0) = h := by
    rw [List.take_left' (h32_length _)]
    funext j
    by_cases hj : j < 32
    · simp [h32, List.getD_eq_getElem?_getD, hj]
    · rw [List.getD_eq_getElem?_getD, List.getElem?_eq_none (by rw [h32_length]; omega), hz j (by omega)]; rfl
  unfold eof9
  rw [show R.take 1 = (R.drop 0).take 1 by rw [List.drop_zero], d0, d1, d2, d3, d4, d5, d6, d7, d8, d9, hrv a _ h8, hrv c _ h9, hh]
  rw [List.take_left' (be_length _ _), List.take_left' (be_length _ _), List.take_left' (be_length _ _), List.take_left' (be_length _ _), List.take_left' (be_length _ _), List.take_left' (be_length _ _), List.take_left' (be_length _ _)]
  rw [bval_be h1.1 (by simpa using h1.2), bval_be h2.1 (by simpa using h2.2), bval_be h4.1 (by simpa using h4.2), bval_be h5.1 (by simpa using h5.2), bval_be h6.1 (by simpa using h6.2), bval_be h7.1 (by simpa using h7.2), bval_be h10.1 (by simpa using h10.2)]
theorem ebytes_inj {x y : Evt} (hx : x.Ok) (hy : y.Ok) (h : ebytes x = ebytes y) : x = y := by
  have e := eof_ebytes hx []
  rw [h, eof_ebytes hy []] at e
  exact e.symm
/-- The row of any bytes: the events, and the error. -/
def rdF : Nat → List Int → List Evt × Int
  | 0, _ => ([], 0)
  | m + 1, l => if l = [] then ([], 0) else if l.length < 113 then ([], 4) else if mayE (eof9 l) = true then (eof9 l :: (rdF m (l.drop 113)).1, (rdF m (l.drop 113)).2) else ([], 6)
theorem rdF_nil : ∀ m, rdF m [] = ([], 0)
  | 0 => rfl
  | m + 1 => by simp [rdF]
theorem rdF_short {m : Nat} {l : List Int} (h0 : l ≠ []) (h1 : l.length < 113) (hm : l.length ≤ m) : rdF m l = ([], 4) := by
  cases m with
  | zero => exact absurd (List.eq_nil_of_length_eq_zero (by omega)) h0
  | succ m => simp [rdF, h0, h1]
theorem rdF_bad {m : Nat} {l : List Int} (h1 : 113 ≤ l.length) (hm : l.length ≤ m) (hy : mayE (eof9 l) = false) : rdF m l = ([], 6) := by
  have h0 : l ≠ [] := fun e => by rw [e] at h1; simp at h1
  cases m with
  | zero => omega
  | succ m => simp [rdF, h0, show ¬ l.length < 113 by omega, hy]
theorem rdF_more {m : Nat} {l : List Int} (h1 : 113 ≤ l.length) (hm : l.length ≤ m) (hy : mayE (eof9 l) = true) : ∃ m', (l.drop 113).length ≤ m' ∧ rdF m l = (eof9 l :: (rdF m' (l.drop 113)).1, (rdF m' (l.drop 113)).2) := by
  have h0 : l ≠ [] := fun e => by rw [e] at h1; simp at h1
  cases m with
  | zero => omega
  | succ m => exact ⟨m, by simp; omega, by simp [rdF, h0, show ¬ l.length < 113 by omega, hy]⟩
theorem rdF_ok : ∀ (m : Nat) (l : List Int), l.length ≤ m → Byt l → (∀ x ∈ (rdF m l).1, Evt.Ok x) ∧ (rdF m l).1.all mayE = true ∧ ((rdF m l).2 = 0 → allE (rdF m l).1 = l) ∧ ((rdF m l).2 = 0 ∨ (rdF m l).2 = 4 ∨ (rdF m l).2 = 6) := by
  intro m
  induction m with
  | zero =>
    intro l hl hb
    have : l = [] := List.eq_nil_of_length_eq_zero (by omega)
    subst this
    exact ⟨fun x hx => by simp [rdF] at hx, rfl, fun _ => rfl, .inl rfl⟩
  | succ m ih =>
    intro l hl hb
    by_cases h0 : l = []
    · subst h0; rw [rdF_nil]; exact ⟨fun x hx => by simp at hx, rfl, fun _ => rfl, .inl rfl⟩
    · by_cases h1 : l.length < 113
      · rw [rdF_short h0 h1 hl]; exact ⟨fun x hx => by simp at hx, rfl, fun h => by simp at h, .inr (.inl rfl)⟩
      · by_cases hy : mayE (eof9 l) = true
        · have hx : rdF (m + 1) l = (eof9 l :: (rdF m (l.drop 113)).1, (rdF m (l.drop 113)).2) := by simp [rdF, h0, h1, hy]
          obtain ⟨i1, i2, i3, i4⟩ := ih (l.drop 113) (by simp; omega) (hb.drop 113)
          rw [hx]
          refine ⟨fun x hx => ?_, by simp [hy]; simpa using i2, fun he => ?_, i4⟩
          · rcases List.mem_cons.1 hx with rfl | hx
            · exact eof_ok hb (by omega)
            · exact i1 x hx
          · show allE (eof9 l :: _) = l
            rw [allE_cons, i3 he, ebytes_eof hb (by omega), List.take_append_drop]
        · rw [rdF_bad (by omega) hl (by simpa using hy)]; exact ⟨fun x hx => by simp at hx, rfl, fun h => by simp at h, .inr (.inr rfl)⟩
/-- The row of a row's bytes. -/
theorem rdF_all : ∀ (xs : List Evt) (m : Nat), (allE xs).length ≤ m → (∀ x ∈ xs, Evt.Ok x) → xs.all mayE = true → rdF m (allE xs) = (xs, 0) := by
  intro xs
  induction xs with
  | nil => intro m _ _ _; exact rdF_nil m
  | cons x r ih =>
    intro m hm hok hall
    rw [allE_cons] at hm ⊢
    have hx := hok x (by simp)
    have hl : 113 ≤ (ebytes x ++ allE r).length := by rw [List.length_append, ebytes_length]; omega
    have e := eof_ebytes hx (allE r)
    have hd : (ebytes x ++ allE r).drop 113 = allE r := List.drop_left' (ebytes_length x)
    have hall' : mayE x = true ∧ r.all mayE = true := by simpa using hall
    obtain ⟨m', hm', hr⟩ := rdF_more hl hm (by rw [e]; exact hall'.1)
    rw [hd] at hm' hr
    rw [hr, e, ih m' hm' (fun y hy => hok y (by simp [hy])) hall'.2]
/-- The row of any bytes. -/
def rdE (l : List Int) : List Evt × Int := rdF l.length l
end Go.Proofs.Ytajkdbpojeaflaa
