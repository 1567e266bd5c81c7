/- Plain arithmetic of rows of digits of 16 bits, the lowest first: no Go in sight. -/
namespace Go.Proofs.Ytodjfenbbbdofaa

/-- The number that a row of digits says. -/
def val : List Int → Int
  | [] => 0
  | d :: r => d + 65536 * val r
/-- Each digit has 16 bits. -/
def Ok (zs : List Int) : Prop := ∀ d ∈ zs, 0 ≤ d ∧ d < 65536
/-- No nought at the end. -/
def Trimmed (zs : List Int) : Prop := zs ≠ [] → zs.getD (zs.length - 1) 0 ≠ 0
/-- The weight of a place. -/
def pw (k : Nat) : Int := (65536 : Int) ^ k
theorem pw_zero : pw 0 = 1 := rfl
theorem pw_succ (k : Nat) : pw (k + 1) = pw k * 65536 := Int.pow_succ _ _
theorem pw_pos (k : Nat) : 0 < pw k := Int.pow_pos (by decide)
theorem pw_add (a b : Nat) : pw (a + b) = pw a * pw b := Int.pow_add _ _ _
theorem pw_mono {a b : Nat} (h : a ≤ b) : pw a ≤ pw b := by
  obtain ⟨c, rfl⟩ := Nat.le.dest h
  rw [pw_add]
  have h1 := pw_pos a
  have h2 := pw_pos c
  have := Int.mul_le_mul_of_nonneg_left (show 1 ≤ pw c by omega) (Int.le_of_lt h1)
  omega

theorem Ok.nil : Ok [] := fun _ h => by cases h
theorem Ok.cons {d : Int} {r : List Int} (h : Ok (d :: r)) : (0 ≤ d ∧ d < 65536) ∧ Ok r := ⟨h d (by simp), fun x hx => h x (by simp [hx])⟩
theorem Ok.mk {d : Int} {r : List Int} (h : 0 ≤ d ∧ d < 65536) (h2 : Ok r) : Ok (d :: r) := by
  intro x hx
  rcases List.mem_cons.1 hx with rfl | hx
  · exact h
  · exact h2 x hx
theorem Ok.append {xs ys : List Int} (h : Ok xs) (h2 : Ok ys) : Ok (xs ++ ys) := by
  intro x hx
  rcases List.mem_append.1 hx with hx | hx
  · exact h x hx
  · exact h2 x hx
theorem Ok.one {d : Int} (h : 0 ≤ d ∧ d < 65536) : Ok [d] := Ok.mk h Ok.nil
theorem Ok.take {zs : List Int} (h : Ok zs) (k : Nat) : Ok (zs.take k) := fun x hx => h x (List.mem_of_mem_take hx)
theorem Ok.getD {zs : List Int} (h : Ok zs) (j : Nat) : 0 ≤ zs.getD j 0 ∧ zs.getD j 0 < 65536 := by
  rw [List.getD_eq_getElem?_getD]
  by_cases hj : j < zs.length
  · simp only [List.getElem?_eq_getElem hj, Option.getD_some]
    exact h _ (List.getElem_mem hj)
  · rw [List.getElem?_eq_none (by omega)]; decide
theorem Ok.set {zs : List Int} (h : Ok zs) (j : Nat) {d : Int} (hd : 0 ≤ d ∧ d < 65536) : Ok (zs.set j d) := by
  intro x hx
  rcases List.mem_or_eq_of_mem_set hx with hx | rfl
  · exact h x hx
  · exact hd
theorem Ok.replicate (n : Nat) : Ok (List.replicate n 0) := by
  intro x hx
  rw [List.eq_of_mem_replicate hx]; decide

theorem val_nonneg {zs : List Int} (h : Ok zs) : 0 ≤ val zs := by
  induction zs with
  | nil => simp [val]
  | cons d r ih => obtain ⟨a, b⟩ := h.cons; have := ih b; simp only [val]; omega
theorem val_snoc (zs : List Int) (d : Int) : val (zs ++ [d]) = val zs + d * pw zs.length := by
  induction zs with
  | nil => simp [val, pw_zero]
  | cons x r ih =>
    simp only [List.cons_append, val, ih, List.length_cons, pw_succ]
    rw [Int.mul_add, Int.mul_comm (pw r.length) 65536, ← Int.mul_assoc d, Int.mul_comm d 65536, Int.mul_assoc]
    omega
theorem val_lt {zs : List Int} (h : Ok zs) : val zs < pw zs.length := by
  induction zs with
  | nil => simp [val, pw_zero]
  | cons x r ih =>
    obtain ⟨a, b⟩ := h.cons
    have := ih b
    simp only [val, List.length_cons, pw_succ]
    omega
theorem val_replicate (n : Nat) : val (List.replicate n 0) = 0 := by
  induction n with
  | zero => rfl
  | succ n ih => rw [List.replicate_succ]; simp only [val, ih]; rfl
theorem take_snoc (zs : List Int) (k : Nat) (h : k < zs.length) : zs.take (k + 1) = zs.take k ++ [zs.getD k 0] := by
  rw [List.take_succ_eq_append_getElem h, List.getD_eq_getElem?_getD, List.getElem?_eq_getElem h]; rfl
theorem val_take (zs : List Int) (k : Nat) : val (zs.take (k + 1)) = val (zs.take k) + zs.getD k 0 * pw k := by
  by_cases h : k < zs.length
  · rw [take_snoc zs k h, val_snoc, List.length_take, Nat.min_eq_left (by omega)]
  · rw [List.take_of_length_le (by omega), List.take_of_length_le (by omega), List.getD_eq_getElem?_getD, List.getElem?_eq_none (by omega)]
    simp
theorem val_take_all (zs : List Int) (k : Nat) (h : zs.length ≤ k) : val (zs.take k) = val zs := by rw [List.take_of_length_le h]
theorem val_set (zs : List Int) (j : Nat) (d : Int) (h : j < zs.length) : val (zs.set j d) = val zs + (d - zs.getD j 0) * pw j := by
  induction zs generalizing j with
  | nil => simp at h
  | cons x r ih =>
    cases j with
    | zero => simp only [List.set_cons_zero, val, pw_zero, List.getD_cons_zero]; omega
    | succ j =>
      simp only [List.set_cons_succ, val, List.getD_cons_succ, pw_succ]
      rw [ih j (by simpa using h), Int.mul_add, Int.mul_comm (pw j) 65536, ← Int.mul_assoc (d - r.getD j 0), Int.mul_comm (d - r.getD j 0) 65536, Int.mul_assoc]
      omega
theorem val_take_lt {zs : List Int} (h : Ok zs) (k : Nat) : val (zs.take k) < pw k := by
  have h1 := val_lt (h.take k)
  have h2 := pw_mono (show (zs.take k).length ≤ k from List.length_take_le _ _)
  omega
theorem val_take_le {zs : List Int} (h : Ok zs) (k : Nat) : val (zs.take k) ≤ val (zs.take (k + 1)) := by
  rw [val_take]
  have := Int.mul_nonneg (h.getD k).1 (Int.le_of_lt (pw_pos k))
  omega

/-- A trimmed row is at least its last place's weight. -/
theorem trimmed_ge {zs : List Int} (h : Ok zs) (ht : Trimmed zs) (hn : zs ≠ []) : pw (zs.length - 1) ≤ val zs := by
  have hl : 0 < zs.length := List.length_pos_iff.2 hn
  have e := val_take zs (zs.length - 1)
  rw [show zs.length - 1 + 1 = zs.length by omega, List.take_length] at e
  have h0 := val_nonneg (h.take (zs.length - 1))
  have h1 := ht hn
  have h2 := (h.getD (zs.length - 1)).1
  have h3 := Int.mul_le_mul_of_nonneg_right (show 1 ≤ zs.getD (zs.length - 1) 0 by omega) (Int.le_of_lt (pw_pos (zs.length - 1)))
  omega
theorem trimmed_len {zs ys : List Int} (h : Ok zs) (ht : Trimmed zs) (hy : Ok ys) (hle : val zs ≤ val ys) : zs.length ≤ ys.length := by
  by_cases hn : zs = []
  · subst hn; simp
  · have h1 := trimmed_ge h ht hn
    have h2 := val_lt hy
    have hl : 0 < zs.length := List.length_pos_iff.2 hn
    by_cases hc : zs.length ≤ ys.length
    · exact hc
    · have := pw_mono (show ys.length ≤ zs.length - 1 by omega)
      omega
theorem trimmed_short {zs : List Int} (h : Ok zs) (ht : Trimmed zs) (k : Nat) (hlt : val zs < pw k) : zs.length ≤ k := by
  by_cases hn : zs = []
  · subst hn; simp
  · have h1 := trimmed_ge h ht hn
    have hl : 0 < zs.length := List.length_pos_iff.2 hn
    by_cases hc : zs.length ≤ k
    · exact hc
    · have := pw_mono (show k ≤ zs.length - 1 by omega)
      omega
theorem long_val {zs : List Int} (h : Ok zs) (ht : Trimmed zs) (k : Nat) (hk : k < zs.length) : pw k ≤ val zs := by
  have hn : zs ≠ [] := by intro e; subst e; simp at hk
  have h1 := trimmed_ge h ht hn
  have := pw_mono (show k ≤ zs.length - 1 by omega)
  omega
/-- Behind the last place that isn't 0 there is nothing. -/
theorem val_dropped {zs : List Int} (n : Nat) (hz : ∀ j, n ≤ j → zs.getD j 0 = 0) : val (zs.take n) = val zs := by
  have : ∀ k, val (zs.take (n + k)) = val (zs.take n) := by
    intro k
    induction k with
    | zero => rfl
    | succ k ih => rw [← Nat.add_assoc, val_take, hz (n + k) (by omega), ih]; simp
  have e := this zs.length
  rw [List.take_of_length_le (by omega : zs.length ≤ n + zs.length)] at e
  exact e.symm
end Go.Proofs.Ytodjfenbbbdofaa
