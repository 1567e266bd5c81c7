/- Rows of keys and values that rise, and what is taken back: plain lists, no Go in sight. -/
namespace Go.Proofs.Ytncnilplmklccaa
set_option linter.unusedSimpArgs false
set_option linter.unusedVariables false
set_option linter.unusedSectionVars false

/-- An order of keys: of two unlike ones just one stands ahead. -/
structure Ky (α : Type) where
  lt : α → α → Bool
  irr : ∀ a, lt a a = false
  tr : ∀ {a b c}, lt a b = true → lt b c = true → lt a c = true
  tri : ∀ {a b}, lt a b = false → lt b a = false → a = b
theorem Ky.ne {α : Type} (O : Ky α) {a b : α} (h : O.lt a b = true) : a ≠ b := fun e => by subst e; rw [O.irr] at h; cases h
theorem Ky.asym {α : Type} (O : Ky α) {a b : α} (h : O.lt a b = true) : O.lt b a = false := by
  cases h2 : O.lt b a with
  | false => rfl
  | true => have := O.tr h h2; rw [O.irr] at this; cases this
/-- Numbers. -/
def kyInt : Ky Int where
  lt a b := decide (a < b)
  irr a := by simp
  tr h k := by simp at *; omega
  tri h k := by simp at *; omega
/-- A row rises. -/
def Srt {α β : Type} (O : Ky α) (L : List (α × β)) : Prop := L.Pairwise fun a b => O.lt a.1 b.1 = true
/-- A value under a key. -/
def putL {α β : Type} [DecidableEq α] (O : Ky α) (k : α) (v : β) : List (α × β) → List (α × β)
  | [] => [(k, v)]
  | p :: r => if O.lt k p.1 = true then (k, v) :: p :: r else if p.1 = k then (k, v) :: r else p :: putL O k v r
/-- Without a key. -/
def delL {α β : Type} [DecidableEq α] (k : α) (L : List (α × β)) : List (α × β) := L.filter fun p => !decide (p.1 = k)
/-- The value under a key. -/
def getL {α β : Type} [DecidableEq α] (k : α) : List (α × β) → Option β
  | [] => none
  | p :: r => if p.1 = k then some p.2 else getL k r
section
variable {α β : Type} [DecidableEq α] (O : Ky α)

theorem mem_putL {k : α} {v : β} {x : α × β} : ∀ {L : List (α × β)}, x ∈ putL O k v L → x = (k, v) ∨ x ∈ L
  | [], h => by simpa [putL] using h
  | p :: r, h => by
    unfold putL at h
    split at h
    · rcases List.mem_cons.1 h with h | h
      · exact .inl h
      · exact .inr h
    · split at h
      · rcases List.mem_cons.1 h with h | h
        · exact .inl h
        · exact .inr (by simp [h])
      · rcases List.mem_cons.1 h with h | h
        · exact .inr (by simp [h])
        · rcases mem_putL h with h | h
          · exact .inl h
          · exact .inr (by simp [h])
theorem Srt.put {k : α} {v : β} : ∀ {L : List (α × β)}, Srt O L → Srt O (putL O k v L)
  | [], _ => by simp [putL, Srt]
  | p :: r, h => by
    obtain ⟨h1, h2⟩ := List.pairwise_cons.1 h
    unfold putL
    split
    · rename_i hk
      refine List.pairwise_cons.2 ⟨fun q hq => ?_, h⟩
      rcases List.mem_cons.1 hq with rfl | hq
      · exact hk
      · exact O.tr hk (h1 q hq)
    · rename_i hk
      split
      · rename_i he
        exact List.pairwise_cons.2 ⟨fun q hq => he ▸ h1 q hq, h2⟩
      · rename_i he
        refine List.pairwise_cons.2 ⟨fun q hq => ?_, Srt.put h2⟩
        rcases mem_putL O hq with rfl | hq
        · cases h3 : O.lt p.1 k with
          | true => rfl
          | false => exact absurd (O.tri h3 (by simpa using hk)) he
        · exact h1 q hq
theorem Srt.del {k : α} {L : List (α × β)} (h : Srt O L) : Srt O (delL k L) := h.filter _
theorem Srt.nodup {L : List (α × β)} (h : Srt O L) : L.Pairwise fun a b => a.1 ≠ b.1 := h.imp fun {_ _} hab => O.ne hab
theorem getL_ahead {k : α} : ∀ {L : List (α × β)}, (∀ p ∈ L, O.lt k p.1 = true) → getL k L = none
  | [], _ => rfl
  | p :: r, h => by
    unfold getL
    rw [if_neg (fun e => O.ne (h p (by simp)) e.symm)]
    exact getL_ahead fun q hq => h q (by simp [hq])
theorem getL_put {k j : α} {v : β} : ∀ {L : List (α × β)}, Srt O L → getL j (putL O k v L) = if k = j then some v else getL j L
  | [], _ => by simp [putL, getL]
  | p :: r, h => by
    obtain ⟨h1, h2⟩ := List.pairwise_cons.1 h
    unfold putL
    split
    · rw [getL]
    · split
      · rename_i he
        by_cases hj : k = j
        · simp [getL, hj]
        · simp [getL, he, hj]
      · rename_i he
        simp only [getL]
        by_cases hp : p.1 = j
        · have : k ≠ j := fun e => he (hp.trans e.symm)
          simp [hp, this]
        · rw [if_neg hp, getL_put h2]
          split
          · rfl
          · simp [hp]
theorem getL_del {k j : α} : ∀ {L : List (α × β)}, getL j (delL k L) = if k = j then none else getL j L
  | [] => by simp [delL, getL]
  | p :: r => by
    have ih := getL_del (k := k) (j := j) (L := r)
    unfold delL at ih ⊢
    by_cases hp : p.1 = k
    · rw [List.filter_cons_of_neg (by simp [hp]), ih]
      by_cases hj : k = j
      · simp [hj]
      · have : p.1 ≠ j := fun e => hj (hp.symm.trans e)
        simp [hj, getL, this]
    · rw [List.filter_cons_of_pos (by simp [hp])]
      simp only [getL, ih]
      by_cases hj : p.1 = j
      · have : k ≠ j := fun e => hp (hj.trans e.symm)
        simp [hj, this]
      · simp [hj]
/-- Rows that rise, and have the same under each key, are one. -/
theorem Srt.ext : ∀ {A B : List (α × β)}, Srt O A → Srt O B → (∀ k, getL k A = getL k B) → A = B
  | [], [], _, _, _ => rfl
  | [], p :: r, _, _, h => by have := h p.1; simp [getL] at this
  | p :: r, [], _, _, h => by have := h p.1; simp [getL] at this
  | p :: r, q :: s, ha, hb, h => by
    obtain ⟨a1, a2⟩ := List.pairwise_cons.1 ha
    obtain ⟨b1, b2⟩ := List.pairwise_cons.1 hb
    have e : p.1 = q.1 := by
      refine O.tri ?_ ?_
      · cases hl : O.lt p.1 q.1 with
        | false => rfl
        | true =>
          have h3 := h p.1
          rw [getL, if_pos rfl, getL_ahead O (L := q :: s) (fun x hx => by
            rcases List.mem_cons.1 hx with rfl | hx
            · exact hl
            · exact O.tr hl (b1 x hx))] at h3
          cases h3
      · cases hl : O.lt q.1 p.1 with
        | false => rfl
        | true =>
          have h3 := h q.1
          rw [getL_ahead O (L := p :: r) (fun x hx => by
            rcases List.mem_cons.1 hx with rfl | hx
            · exact hl
            · exact O.tr hl (a1 x hx)), getL, if_pos rfl] at h3
          cases h3
    have e2 : p.2 = q.2 := by
      have h3 := h p.1
      rw [getL, if_pos rfl, getL, if_pos e.symm] at h3
      exact Option.some.inj h3
    have ep : p = q := Prod.ext e e2
    subst ep
    have : r = s := Srt.ext a2 b2 fun k => by
      by_cases hk : p.1 = k
      · subst hk
        rw [getL_ahead O a1, getL_ahead O b1]
      · have h3 := h k
        rwa [getL, if_neg hk, getL, if_neg hk] at h3
    rw [this]
theorem getL_some_mem {k : α} {v : β} : ∀ {L : List (α × β)}, getL k L = some v → (k, v) ∈ L
  | [], h => by simp [getL] at h
  | p :: r, h => by
    unfold getL at h
    split at h
    · rename_i hp
      cases h
      rw [← hp]
      simp
    · exact List.mem_cons_of_mem _ (getL_some_mem h)
theorem getL_none {k : α} : ∀ {L : List (α × β)}, getL k L = none → ∀ p ∈ L, p.1 ≠ k
  | [], _, p, hp => by simp at hp
  | q :: r, h, p, hp => by
    unfold getL at h
    split at h
    · cases h
    · rename_i hq
      rcases List.mem_cons.1 hp with rfl | hp
      · exact hq
      · exact getL_none h p hp
theorem getL_mem {k : α} {v : β} : ∀ {L : List (α × β)}, Srt O L → (k, v) ∈ L → getL k L = some v
  | [], _, h => by simp at h
  | p :: r, hs, h => by
    obtain ⟨h1, h2⟩ := List.pairwise_cons.1 hs
    unfold getL
    rcases List.mem_cons.1 h with rfl | h
    · simp
    · rw [if_neg (O.ne (h1 _ h))]
      exact getL_mem h2 h
theorem delL_none {k : α} {L : List (α × β)} (h : getL k L = none) : delL k L = L :=
  List.filter_eq_self.2 fun p hp => by simpa using getL_none h p hp
/-- What is put stands ahead of, or in the place of, what was there: in whatever order. -/
theorem putL_perm {k : α} {v : β} : ∀ {L : List (α × β)}, Srt O L → (putL O k v L).Perm ((k, v) :: delL k L)
  | [], _ => by simp [putL, delL]
  | p :: r, h => by
    obtain ⟨h1, h2⟩ := List.pairwise_cons.1 h
    unfold putL
    split
    · rename_i hk
      rw [delL_none (getL_ahead O (fun x hx => by
        rcases List.mem_cons.1 hx with rfl | hx
        · exact hk
        · exact O.tr hk (h1 x hx)))]
    · split
      · rename_i he
        have : delL k (p :: r) = delL k r := by unfold delL; rw [List.filter_cons_of_neg (by simp [he])]
        rw [this, delL_none (getL_ahead O (fun x hx => he ▸ h1 x hx))]
      · rename_i he
        have : delL k (p :: r) = p :: delL k r := by unfold delL; rw [List.filter_cons_of_pos (by simp [he])]
        rw [this]
        exact ((putL_perm h2).cons p).trans (List.Perm.swap _ _ _)
theorem delL_length (k : α) (L : List (α × β)) : (delL k L).length ≤ L.length := List.length_filter_le _ _
theorem putL_length {k : α} {v : β} : ∀ {L : List (α × β)}, (putL O k v L).length ≤ L.length + 1
  | [] => by simp [putL]
  | p :: r => by
    unfold putL
    split
    · simp
    · split
      · simp
      · simp only [List.length_cons]; have := putL_length (k := k) (v := v) (L := r); omega
theorem putL_put {k : α} {u v : β} {L : List (α × β)} (h : Srt O L) (hk : getL k L = some u) : putL O k u (putL O k v L) = L :=
  Srt.ext O ((h.put O).put O) h fun j => by
    rw [getL_put O (h.put O), getL_put O h]
    by_cases e : k = j
    · subst e; simp [hk]
    · simp [e]
theorem delL_put {k : α} {v : β} {L : List (α × β)} (h : Srt O L) (hk : getL k L = none) : delL k (putL O k v L) = L :=
  Srt.ext O ((h.put O).del O) h fun j => by
    rw [getL_del, getL_put O h]
    by_cases e : k = j
    · subst e; simp [hk]
    · simp [e]
theorem putL_del {k : α} {u : β} {L : List (α × β)} (h : Srt O L) (hk : getL k L = some u) : putL O k u (delL k L) = L :=
  Srt.ext O ((h.del O).put O) h fun j => by
    rw [getL_put O (h.del O), getL_del]
    by_cases e : k = j
    · subst e; simp [hk]
    · simp [e]
/-- Two rows that rise, one the other in another order, are one. -/
theorem Srt.perm : ∀ {A B : List (α × β)}, Srt O A → Srt O B → A.Perm B → A = B := fun {A B} ha hb hp =>
  Srt.ext O ha hb fun k => by
    cases h : getL k A with
    | some v => exact (getL_mem O hb (hp.mem_iff.1 (getL_some_mem h))).symm
    | none =>
      cases h2 : getL k B with
      | none => rfl
      | some v =>
        have := hp.mem_iff.2 (getL_some_mem h2)
        exact absurd rfl (getL_none h _ this)

/-- What takes a deed back: of which map, which key, and what was there. -/
structure Deed (α β : Type) where
  m : Nat
  k : α
  old : Option β
/-- One map for another. -/
def upX (X : Nat → List (α × β)) (a : Nat) (L : List (α × β)) : Nat → List (α × β) := fun b => if b = a then L else X b
theorem upX_same (X : Nat → List (α × β)) (a : Nat) (L : List (α × β)) : upX X a L a = L := by simp [upX]
theorem upX_other (X : Nat → List (α × β)) {a b : Nat} (h : b ≠ a) (L : List (α × β)) : upX X a L b = X b := by simp [upX, h]
theorem upX_up (X : Nat → List (α × β)) (a : Nat) (L M : List (α × β)) : upX (upX X a L) a M = upX X a M := by funext b; by_cases h : b = a <;> simp [upX, h]
theorem upX_self (X : Nat → List (α × β)) (a : Nat) : upX X a (X a) = X := by
  funext b
  by_cases h : b = a
  · rw [h, upX_same]
  · rw [upX_other X h]
def undoL (d : Deed α β) (L : List (α × β)) : List (α × β) := match d.old with
  | some v => putL O d.k v L
  | none => delL d.k L
/-- One deed is taken back. -/
def undo1 (d : Deed α β) (X : Nat → List (α × β)) : Nat → List (α × β) := upX X d.m (undoL O d (X d.m))
/-- All of them, the last one first. -/
def undoN (ds : List (Deed α β)) (X : Nat → List (α × β)) : Nat → List (α × β) := ds.foldr (fun d X => undo1 O d X) X
theorem undoN_append (a b : List (Deed α β)) (X : Nat → List (α × β)) : undoN O (a ++ b) X = undoN O a (undoN O b X) := by simp [undoN]
theorem undoN_nil (X : Nat → List (α × β)) : undoN O [] X = X := rfl
theorem undoN_snoc (a : List (Deed α β)) (d : Deed α β) (X : Nat → List (α × β)) : undoN O (a ++ [d]) X = undoN O a (undo1 O d X) := by simp [undoN]
theorem undoL_srt {d : Deed α β} {L : List (α × β)} (h : Srt O L) : Srt O (undoL O d L) := by
  unfold undoL
  cases d.old with
  | none => exact h.del O
  | some v => exact h.put O
theorem undo1_srt {d : Deed α β} {X : Nat → List (α × β)} (h : ∀ a, Srt O (X a)) (a : Nat) : Srt O (undo1 O d X a) := by
  unfold undo1
  by_cases e : a = d.m
  · rw [e, upX_same]; exact undoL_srt O (h _)
  · rw [upX_other _ e]; exact h a
theorem undo_put (X : Nat → List (α × β)) (a : Nat) (k : α) (v : β) (h : Srt O (X a)) : undo1 O ⟨a, k, getL k (X a)⟩ (upX X a (putL O k v (X a))) = X := by
  unfold undo1 undoL
  simp only [upX_same, upX_up]
  cases e : getL k (X a) with
  | none => simp only; rw [delL_put O h e, upX_self]
  | some u => simp only; rw [putL_put O h e, upX_self]
theorem undo_del (X : Nat → List (α × β)) (a : Nat) (k : α) {u : β} (h : Srt O (X a)) (e : getL k (X a) = some u) : undo1 O ⟨a, k, some u⟩ (upX X a (delL k (X a))) = X := by
  unfold undo1 undoL
  simp only [upX_same, upX_up]
  rw [putL_del O h e, upX_self]
end
end Go.Proofs.Ytncnilplmklccaa
