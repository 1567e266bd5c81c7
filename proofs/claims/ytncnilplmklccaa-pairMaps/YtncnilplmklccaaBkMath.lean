/- Balances as rows of numbers under keys: no Go in sight. -/
import Derived.Test.YtncnilplmklccaaBkIter
import Derived.Test.YtncnilplmklccaaHugeSum
namespace Go.Proofs.Ytncnilplmklccaa
set_option linter.unusedSimpArgs false
set_option linter.unusedVariables false

/-- The balance under a key. -/
def bal (L : Kvs) (k : Kk) : Int := match getL k L with
  | some v => v.1
  | none => 0
theorem bal_in (L : Kvs) (k : Kk) : In (bal L k) := by
  unfold bal
  cases getL k L with
  | none => exact In.zero
  | some v => exact v.2
theorem bal_fv (L : Kvs) (k : Kk) : fv k L = bal L k := by
  unfold bal
  cases h : getL k L with
  | none => exact (fk_none h).2.1
  | some v => exact (fk_some h).2.1
/-- A balance under a key. -/
def putB (k : Kk) (v : Nm) (L : Kvs) : Kvs := if v.1 = 0 then delL k L else putL kyKey k v L
theorem bal_putB {L : Kvs} (h : Srt kyKey L) (k j : Kk) (v : Nm) : bal (putB k v L) j = if k = j then v.1 else bal L j := by
  unfold putB bal
  by_cases hv : v.1 = 0
  · rw [if_pos hv, getL_del]
    by_cases e : k = j
    · simp [e, hv]
    · simp [e]
  · rw [if_neg hv, getL_put kyKey h]
    by_cases e : k = j
    · simp [e]
    · simp [e]
/-- There is such a token, and such a place. -/
def Kin (k : Kk) : Prop := (0 ≤ k.1 ∧ k.1 < 4) ∧ (0 ≤ k.2 ∧ k.2 < 18)
theorem Kin.ok {k : Kk} (h : Kin k) : Kok k := ⟨⟨h.1.1, by have := h.1.2; omega⟩, ⟨h.2.1, by have := h.2.2; omega⟩⟩
/-- All that is kept is told. -/
structure Good (L : Kvs) : Prop where
  srt : Srt kyKey L
  kin : ∀ x ∈ L, Kin x.1
  non : ∀ x ∈ L, x.2.1 ≠ 0
theorem Good.nil : Good [] := ⟨List.Pairwise.nil, fun x h => absurd h (List.not_mem_nil), fun x h => absurd h (List.not_mem_nil)⟩
theorem Good.put {L : Kvs} (h : Good L) {k : Kk} (hk : Kin k) (v : Nm) : Good (putB k v L) := by
  unfold putB
  by_cases hv : v.1 = 0
  · rw [if_pos hv]
    exact ⟨h.srt.del kyKey, fun x hx => h.kin x (List.mem_filter.1 hx).1, fun x hx => h.non x (List.mem_filter.1 hx).1⟩
  · rw [if_neg hv]
    refine ⟨h.srt.put kyKey, fun x hx => ?_, fun x hx => ?_⟩
    · rcases mem_putL kyKey hx with rfl | hx
      · exact hk
      · exact h.kin x hx
    · rcases mem_putL kyKey hx with rfl | hx
      · exact hv
      · exact h.non x hx
theorem rise_len {f : Kk × Nm → Int} : ∀ (L : Kvs) (lo hi : Int), L.Pairwise (fun x y => f x < f y) → (∀ x ∈ L, lo ≤ f x ∧ f x < hi) → (L.length : Int) ≤ hi - lo ∨ L = []
  | [], _, _, _, _ => .inr rfl
  | x :: r, lo, hi, hp, hb => by
    obtain ⟨h1, h2⟩ := List.pairwise_cons.1 hp
    have hx := hb x (List.mem_cons_self)
    rcases rise_len r (f x + 1) hi h2 (fun y hy => ⟨by have := h1 y hy; omega, (hb y (List.mem_cons_of_mem _ hy)).2⟩) with h | h
    · exact .inl (by rw [List.length_cons]; omega)
    · subst h; exact .inl (by simp; omega)
/-- There are at most 72 tokens at places. -/
theorem Good.few {L : Kvs} (h : Good L) : L.length ≤ 72 := by
  have k : ∀ x ∈ L, 0 ≤ x.1.1 * 18 + x.1.2 ∧ x.1.1 * 18 + x.1.2 < 72 := fun x hx => by
    obtain ⟨⟨_, _⟩, _, _⟩ := h.kin x hx
    omega
  have p : L.Pairwise (fun x y => x.1.1 * 18 + x.1.2 < y.1.1 * 18 + y.1.2) := List.Pairwise.imp_of_mem (fun {x y} hx hy hxy => by
    have k1 := h.kin x hx
    have k2 := h.kin y hy
    have hl : kyKey.lt x.1 y.1 = true := hxy
    simp only [kyKey, decide_eq_true_eq] at hl
    obtain ⟨⟨_, _⟩, _, _⟩ := k1
    obtain ⟨⟨_, _⟩, _, _⟩ := k2
    omega) h.srt
  have H := rise_len (f := fun x => x.1.1 * 18 + x.1.2) L 0 72 p k
  rcases H with e | e
  · omega
  · simp [e]
theorem Good.out {L : Kvs} (h : Good L) {k : Kk} (hk : ¬ Kin k) : bal L k = 0 := by
  unfold bal
  cases e : getL k L with
  | none => rfl
  | some v => exact absurd (h.kin _ (getL_some_mem e)) hk
theorem putB_length (k : Kk) (v : Nm) (L : Kvs) : (putB k v L).length ≤ L.length + 1 := by
  unfold putB
  split
  · have := delL_length k L; omega
  · exact putL_length kyKey
/-- A token's supply. -/
def sup (L : Kvs) (t : Int) : Int := sums (fun p => bal L (t, (p : Int))) 18
theorem sums_congr {f g : Nat → Int} : ∀ (n : Nat), (∀ i, i < n → f i = g i) → sums f n = sums g n
  | 0, _ => rfl
  | n + 1, h => by
    unfold sums
    rw [sums_congr n (fun i hi => h i (by omega)), h n (by omega)]
theorem sums_one {f g : Nat → Int} {j : Nat} (h : ∀ i, i ≠ j → f i = g i) : ∀ (n : Nat), sums f n = sums g n + (if j < n then f j - g j else 0)
  | 0 => by simp [sums]
  | n + 1 => by
    unfold sums
    rw [sums_one h n]
    by_cases hj : j < n
    · rw [if_pos hj, if_pos (by omega), h n (by omega)]; omega
    · rw [if_neg hj]
      by_cases he : j = n
      · subst he; rw [if_pos (by omega)]; omega
      · rw [if_neg (by omega), h n (fun e => he e.symm)]; omega
theorem sup_putB {L : Kvs} (h : Srt kyKey L) {k : Kk} (hk : Kin k) (v : Nm) (t : Int) : sup (putB k v L) t = if k.1 = t then sup L t - bal L k + v.1 else sup L t := by
  obtain ⟨k1, k2⟩ := k
  unfold sup
  by_cases e : k1 = t
  · rw [if_pos e]
    subst e
    obtain ⟨p, rfl⟩ : ∃ p : Nat, k2 = (p : Int) := ⟨k2.toNat, by have := hk.2.1; simp only at this; omega⟩
    rw [sums_one (g := fun p => bal L (k1, (p : Int))) (j := p) (fun i hi => ?_) 18]
    · have hp : p < 18 := by have := hk.2.2; simp only at this; omega
      rw [if_pos hp]
      simp only [bal_putB h, if_true]
      omega
    · simp only [bal_putB h]
      rw [if_neg]
      intro e
      injection e with _ e
      exact hi (by omega)
  · rw [if_neg e]
    refine sums_congr 18 fun i _ => ?_
    rw [bal_putB h, if_neg]
    intro e2
    injection e2 with e2 _
    exact e e2
theorem bal_le_sup (L : Kvs) {k : Kk} (hk : Kin k) : bal L k ≤ sup L k.1 := by
  obtain ⟨k1, k2⟩ := k
  obtain ⟨p, rfl⟩ : ∃ p : Nat, k2 = (p : Int) := ⟨k2.toNat, by have := hk.2.1; simp only at this; omega⟩
  have hp : p < 18 := by have := hk.2.2; simp only at this; omega
  have h1 := sums_le (f := fun p => bal L (k1, (p : Int))) (fun i => bal_in _ _) (k := p + 1) (n := 18) (by omega)
  have h2 := sums_nonneg (f := fun p => bal L (k1, (p : Int))) (fun i => bal_in _ _) p
  unfold sup
  show bal L (k1, (p : Int)) ≤ sums (fun p => bal L (k1, (p : Int))) 18
  rw [show sums (fun p => bal L (k1, (p : Int))) (p + 1) = sums (fun p => bal L (k1, (p : Int))) p + bal L (k1, (p : Int)) from rfl] at h1
  omega
theorem sup_nonneg (L : Kvs) (t : Int) : 0 ≤ sup L t := sums_nonneg (fun _ => bal_in _ _) 18
end Go.Proofs.Ytncnilplmklccaa
