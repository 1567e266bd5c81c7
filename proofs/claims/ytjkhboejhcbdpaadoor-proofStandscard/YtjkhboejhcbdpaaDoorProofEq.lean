/- Proofs as rows of 1,024 bytes; boxes of a call's own, listed; climbing as a function. Equality of proofs (rows of 32 sums) over this translation. -/
import Derived.Test.YtjkhboejhcbdpaaDoorRef6Empties
import Derived.Test.YtjkhboejhcbdpaaDoorHashEq
import Derived.Test.YtjkhboejhcbdpaaDoorTreeLeaf
/- Proofs as rows of 1,024 bytes; boxes of a call's own, listed; climbing as a function. -/
namespace Go.Proofs.YtjkhboejhcbdpaaDoor
open Go.RowKit Go.Lib
attribute [local go_sem] setCell_drewN alloc_drewN

/-- A proof: sums, level by level. -/
abbrev Pf := Nat → Hs
/-- Its bytes, one behind the other. -/
def pc (P : Pf) : Nat → Int := fun j => P (j / 32) (j % 32)
theorem pc_at (P : Pf) (k j : Nat) (h : j < 32) : pc P (k * 32 + j) = P k j := by
  unfold pc; rw [show (k * 32 + j) / 32 = k by omega, show (k * 32 + j) % 32 = j by omega]
def Pok (P : Pf) : Prop := ∀ k, Hok (P k)
/-- One level for another. -/
def updP (P : Pf) (k : Nat) (f : Hs) : Pf := fun i => if i = k then f else P i
theorem pc_upd (P : Pf) (k : Nat) (f : Hs) (j : Nat) : pc (updP P k f) j = if k * 32 ≤ j ∧ j < k * 32 + 32 then f (j - k * 32) else pc P j := by
  unfold pc updP
  by_cases e : j / 32 = k
  · rw [if_pos e, if_pos (by omega), show j % 32 = j - k * 32 by omega]
  · rw [if_neg e, if_neg (by omega)]
/-- Nothing but noughts. -/
def pz : Pf := fun _ => hz
theorem pz_ok : Pok pz := fun _ _ => ⟨by simp [pz, hz], by simp [pz, hz]⟩
theorem pc_pz (j : Nat) : pc pz j = 0 := rfl
/-- Boxes of bytes of a call's own: where, how many, which. -/
structure Bxs (w0 w : World) (l : List (Nat × Nat × (Nat → Int))) : Prop where
  row : ∀ x ∈ l, BRow w x.1 x.2.1 x.2.2
  lo : ∀ x ∈ l, w0.heap.size ≤ x.1
  apart : ∀ (i j : Nat) x y, l[i]? = some x → l[j]? = some y → x.1 = y.1 → i = j
  below : Below w0.heap.size w0 w
theorem Bxs.none (w : World) : Bxs w w [] := ⟨fun _ h => by simp at h, fun _ h => by simp at h, fun _ _ _ _ h => by simp at h, bMe w⟩
theorem Bxs.after {w0 w w' : World} {l : List (Nat × Nat × (Nat → Int))} (h : Bxs w0 w l) (hb : Below w.heap.size w w') : Bxs w0 w' l :=
  ⟨fun x hx => (h.row x hx).after hb rfl, h.lo, h.apart, bOn h.below hb⟩
theorem Bxs.past {w0 w : World} {l : List (Nat × Nat × (Nat → Int))} (h : Bxs w0 w l) (o : Obj) : Bxs w0 (w.alloc o) l := h.after (bAl (bMe w))
theorem Bxs.new {w0 w : World} {l : List (Nat × Nat × (Nat → Int))} (h : Bxs w0 w l) {o : Obj} {n : Nat} {f : Nat → Int} (hr : BRow (w.alloc o) w.heap.size n f) : Bxs w0 (w.alloc o) ((w.heap.size, n, f) :: l) := by
  have h1 := h.past o
  refine ⟨fun x hx => ?_, fun x hx => ?_, fun i j x y hi hj e => ?_, h1.below⟩
  · rcases List.mem_cons.1 hx with rfl | hx
    · exact hr
    · exact h1.row x hx
  · rcases List.mem_cons.1 hx with rfl | hx
    · exact h.below.size
    · exact h.lo x hx
  · cases i with
    | zero =>
      cases j with
      | zero => rfl
      | succ j =>
        simp only [List.getElem?_cons_zero, Option.some.injEq] at hi
        subst hi
        have := (h.row y (List.mem_of_getElem? (by simpa using hj))).lt
        simp only at e
        omega
    | succ i =>
      cases j with
      | zero =>
        simp only [List.getElem?_cons_zero, Option.some.injEq] at hj
        subst hj
        have := (h.row x (List.mem_of_getElem? (by simpa using hi))).lt
        simp only at e
        omega
      | succ j => rw [h.apart i j x y (by simpa using hi) (by simpa using hj) e]
theorem Bxs.add {w0 w : World} {l : List (Nat × Nat × (Nat → Int))} (h : Bxs w0 w l) {o : Obj} {g n : Nat} {f : Nat → Int} (e : w.heap.size = g) (hr : BRow (w.alloc o) g n f) : Bxs w0 (w.alloc o) ((g, n, f) :: l) := by
  subst e; exact h.new hr
theorem Bxs.get {w0 w : World} {l : List (Nat × Nat × (Nat → Int))} (h : Bxs w0 w l) (i : Nat) {g n : Nat} {f : Nat → Int} (e : l[i]? = some (g, n, f)) : BRow w g n f := h.row _ (List.mem_of_getElem? e)
theorem Bxs.putAt {w0 w : World} {l : List (Nat × Nat × (Nat → Int))} (h : Bxs w0 w l) (i : Nat) {g n : Nat} {f : Nat → Int} (e : l[i]? = some (g, n, f)) (o m : Nat) (F f' : Nat → Int) (hn : o + m ≤ n) (hf : ∀ j, j < n → f' j = if o ≤ j ∧ j < o + m then F (j - o) else f j) :
    Bxs w0 (w.setCells g o (rowV m F)) (l.set i (g, n, f')) := by
  have hi : i < l.length := (List.getElem?_eq_some_iff.1 e).1
  have hlo := h.lo _ (List.mem_of_getElem? e)
  have key : ∀ (j : Nat) x, (l.set i (g, n, f'))[j]? = some x → (j = i ∧ x = (g, n, f')) ∨ (j ≠ i ∧ l[j]? = some x) := by
    intro j x hj
    by_cases ej : i = j
    · subst ej; rw [List.getElem?_set_self hi] at hj; injection hj with hj; exact .inl ⟨rfl, hj.symm⟩
    · rw [List.getElem?_set_ne ej] at hj; exact .inr ⟨fun q => ej q.symm, hj⟩
  refine ⟨fun x hx => ?_, fun x hx => ?_, fun j k x y hj hk q => ?_, setCells_below h.below hlo _ _⟩
  · obtain ⟨j, hj⟩ := List.mem_iff_getElem?.1 hx
    rcases key j x hj with ⟨rfl, rfl⟩ | ⟨hne, hj⟩
    · exact (h.get _ e).putAt o m F f' hn hf
    · refine (h.row x (List.mem_of_getElem? hj)).of (by rw [setCells_size]; exact Nat.le_refl _) (setCells_block _ _ _ _ _ (fun q => hne ?_))
      exact h.apart j i x _ hj e q
  · obtain ⟨j, hj⟩ := List.mem_iff_getElem?.1 hx
    rcases key j x hj with ⟨rfl, rfl⟩ | ⟨hne, hj⟩
    · exact hlo
    · exact h.lo x (List.mem_of_getElem? hj)
  · rcases key j x hj with ⟨rfl, rfl⟩ | ⟨hne, hj2⟩
    · rcases key k y hk with ⟨rfl, rfl⟩ | ⟨hne2, hk2⟩
      · rfl
      · exact h.apart _ k _ y e hk2 q
    · rcases key k y hk with ⟨rfl, rfl⟩ | ⟨hne2, hk2⟩
      · exact h.apart j _ x _ hj2 e q
      · exact h.apart j k x y hj2 hk2 q
theorem Bxs.put {w0 w : World} {l : List (Nat × Nat × (Nat → Int))} (h : Bxs w0 w l) (i : Nat) {g n : Nat} {f : Nat → Int} (e : l[i]? = some (g, n, f)) (F : Nat → Int) : Bxs w0 (w.setCells g 0 (rowV n F)) (l.set i (g, n, F)) :=
  h.putAt i e 0 n F F (by omega) (fun j hj => by rw [if_pos (by omega), Nat.sub_zero])
theorem Bxs.tail {w0 w : World} {x : Nat × Nat × (Nat → Int)} {l : List (Nat × Nat × (Nat → Int))} (h : Bxs w0 w (x :: l)) : Bxs w0 w l :=
  ⟨fun y hy => h.row y (List.mem_cons_of_mem _ hy), fun y hy => h.lo y (List.mem_cons_of_mem _ hy), fun i j y z hi hj e => by
    have := h.apart (i + 1) (j + 1) y z (by simpa using hi) (by simpa using hj) e
    omega, h.below⟩
/-- A level's sum within a proof's box. -/
theorem BRow.lev {w : World} {g : Nat} {P : Pf} (h : BRow w g 1024 (pc P)) (k : Nat) (hk : k < 32) : w.rangeAt g (k * 32) (rowV 32 (P k)) := h.part (k * 32) 32 (P k) (by omega) (fun j hj => pc_at P k j hj)
theorem zero1024 (w : World) : (zeroValue 29).run Tryd.prog w = .ok (.agg (Array.replicate 1024 (.int .u8 0))) w := by kernel_rfl
theorem info_pf (f : Nat → Int) : (Tryd.prog.info? 29).map (·.size) = some (rowV 1024 f).length := by rw [rowV_length]; kernel_rfl
theorem info_pfA (f : Nat → Int) : (Tryd.prog.info? 29).map (·.size) = some (rowV 1024 f).toArray.size := by rw [List.size_toArray, rowV_length]; kernel_rfl
theorem rowV_zero (n : Nat) : (rowV n (fun _ => 0)).toArray = Array.replicate n (.int .u8 0) := by
  have : rowV n (fun _ => 0) = List.replicate n (.int .u8 0) := by
    apply List.ext_getElem?
    intro i
    by_cases h : i < n
    · rw [rowV_get h]; simp [h]
    · rw [List.getElem?_eq_none (by rw [rowV_length]; omega), List.getElem?_eq_none (by simp; omega)]
  rw [this]; simp
theorem pz_row : (rowV 1024 (pc pz)).toArray = Array.replicate 1024 (.int .u8 0) := rowV_zero 1024
/-- Is there nothing left from a level on? -/
def endB (P : Pf) (d : Nat) : Bool := (List.range 32).all fun k => decide (k < d) || sameH (P k) hz
theorem endB_iff (P : Pf) (d : Nat) : endB P d = true ↔ ∀ k, d ≤ k → k < 32 → sameH (P k) hz = true := by
  unfold endB
  rw [List.all_eq_true]
  constructor
  · intro h k h1 h2
    have := h k (List.mem_range.2 h2)
    simp only [Bool.or_eq_true, decide_eq_true_eq] at this
    rcases this with h | h
    · omega
    · exact h
  · intro h k hk
    by_cases e : k < d
    · simp [e]
    · simp [h k (by omega) (List.mem_range.1 hk)]
/-- Climbing, so many levels. -/
def cl (i : Nat) (P : Pf) (h : Hs) : Nat → Hs
  | 0 => h
  | k + 1 => if i / 2 ^ k % 2 = 0 then dnode (cl i P h k) (P k) else dnode (P k) (cl i P h k)
theorem cl_ok {i : Nat} {P : Pf} {h : Hs} (hh : Hok h) : ∀ k, Hok (cl i P h k)
  | 0 => hh
  | k + 1 => by unfold cl; split <;> exact dnode_ok _ _
theorem cl_even {i : Nat} {P : Pf} {h : Hs} {k : Nat} (e : i / 2 ^ k % 2 = 0) : cl i P h (k + 1) = dnode (cl i P h k) (P k) := by rw [cl, if_pos e]
theorem cl_odd {i : Nat} {P : Pf} {h : Hs} {k : Nat} (e : ¬ i / 2 ^ k % 2 = 0) : cl i P h (k + 1) = dnode (P k) (cl i P h k) := by rw [cl, if_neg e]
/-- The error of climbing, by its number. -/
def ce (d : Int) (i : Nat) (P : Pf) : Int := if d < 0 ∨ 32 < d then 1 else if 2 ^ d.toNat ≤ i then 10 else if endB P d.toNat = true then 0 else 6
/-- The sum at the end. -/
def ch (d : Int) (i : Nat) (h : Hs) (P : Pf) : Hs := if ce d i P = 0 then cl i P h d.toNat else hz
theorem ce_dep {d : Int} {i : Nat} {P : Pf} (h : d < 0 ∨ 32 < d) : ce d i P = 1 := by rw [ce, if_pos h]
theorem ce_far {d i : Nat} {P : Pf} (h : d ≤ 32) (hi : 2 ^ d ≤ i) : ce (d : Int) i P = 10 := by rw [ce, if_neg (by omega), if_pos (by simpa using hi)]
theorem ce_form {d i : Nat} {P : Pf} (h : d ≤ 32) (hi : i < 2 ^ d) (he : endB P d = false) : ce (d : Int) i P = 6 := by
  rw [ce, if_neg (by omega), if_neg (by simpa using hi), if_neg (by simp [he])]
theorem ce_ok {d i : Nat} {P : Pf} (h : d ≤ 32) (hi : i < 2 ^ d) (he : endB P d = true) : ce (d : Int) i P = 0 := by
  rw [ce, if_neg (by omega), if_neg (by simpa using hi), if_pos (by simp [he])]
theorem ce_cases (d : Int) (i : Nat) (P : Pf) : ce d i P = 0 ∨ ce d i P = 1 ∨ ce d i P = 6 ∨ ce d i P = 10 := by
  unfold ce; split
  · simp
  · split
    · simp
    · split <;> simp
theorem ch_ok {d i : Nat} {h : Hs} {P : Pf} (hd : d ≤ 32) (hi : i < 2 ^ d) (he : endB P d = true) : ch (d : Int) i h P = cl i P h d := by
  rw [ch, if_pos (ce_ok hd hi he)]; rfl
theorem ch_no {d : Int} {i : Nat} {h : Hs} {P : Pf} (he : ¬ ce d i P = 0) : ch d i h P = hz := by rw [ch, if_neg he]
end Go.Proofs.YtjkhboejhcbdpaaDoor

/- Equality of proofs (rows of 32 sums) over this translation. -/
namespace Go.Proofs.YtjkhboejhcbdpaaDoor
open Go.RowKit Go.Lib

theorem hash_loopD (d : Nat) (f f' : Nat → Int) (w : World) : ∀ is : List Nat, (∀ i ∈ is, i < 32) →
    (forIn is ((none : Option Bool), ()) fun i __s => do
      let __do_lift ← part 5 (rowV 32 f).toArray (i * 1)
      let __do_lift_1 ← part 5 (rowV 32 f').toArray (i * 1)
      let __do_lift ← Op.equalIn (d + 1) 5 __do_lift __do_lift_1
      if (!__do_lift) = true then pure (ForInStep.done (some false, ())) else pure (ForInStep.yield (none, ()))).run Tryd.prog w =
    .ok (if is.all (fun j => f j == f' j) then (none, ()) else (some false, ())) w
  | [], _ => by simp [Sem.run_pure]
  | i :: r, h => by
    have hi := h i (by simp)
    simp only [List.forIn_cons, Sem.run_bind, part_byte _ i hi, Result.andThen_ok, eq_byte _ _ d]
    by_cases e : f i = f' i
    · simp only [e, beq_self_eq_true, Bool.not_true, Bool.false_eq_true, if_false, Sem.run_pure, Result.andThen_ok, List.all_cons, Bool.true_and]
      exact hash_loopD d f f' w r (fun j hj => h j (by simp [hj]))
    · have eb : (f i == f' i) = false := by simpa using e
      simp only [eb, Bool.not_false, if_true, Sem.run_pure, Result.andThen_ok, List.all_cons, Bool.false_and, Bool.false_eq_true, if_false]
theorem eqHashD (d : Nat) (f f' : Nat → Int) (w : World) : (Op.equalIn (d + 2) 28 (.agg (rowV 32 f).toArray) (.agg (rowV 32 f').toArray)).run Tryd.prog w = .ok (sameH f f') w := by
  have hz : (sizeOf 5).run Tryd.prog w = .ok 1 w := by kernel_rfl
  rw [show d + 2 = (d + 1) + 1 from rfl, Op.equalIn]
  simp only [Sem.run_bind, run_underlying Tryd.underlying28, Result.andThen_ok, hz]
  simp only [Std.Legacy.Range.forIn_eq_forIn_range', Std.Legacy.Range.size, Nat.sub_zero, Nat.add_sub_cancel, Nat.div_one]
  rw [hash_loopD d f f' w _ (fun i hi => by have := List.mem_range'.1 hi; omega)]
  rw [show (List.range' 0 32).all (fun j => f j == f' j) = sameH f f' by unfold sameH; rw [List.range_eq_range']]
  cases sameH f f' <;> simp [Sem.run_pure]
/-- Are two proofs alike? -/
def sameP (P Q : Pf) : Bool := (List.range 32).all fun k => sameH (P k) (Q k)
theorem sameP_self (P : Pf) : sameP P P = true := by unfold sameP; simp [sameH_self]
theorem rowV_cut (n k : Nat) (P : Pf) (h : k * 32 + 32 ≤ n) : List.take 32 (List.drop (k * 32) (rowV n (pc P))) = rowV 32 (P k) := by
  apply List.ext_getElem?
  intro j
  by_cases hj : j < 32
  · rw [rowV_get hj, List.getElem?_take, if_pos (by omega), List.getElem?_drop, rowV_get (by omega), pc_at P k j hj]
  · rw [List.getElem?_eq_none (l := rowV 32 (P k)) (by rw [rowV_length]; omega), List.getElem?_eq_none (by rw [List.length_take]; omega)]
theorem part_hash (P : Pf) (k : Nat) (hk : k < 32) (w : World) : (part 28 (rowV 1024 (pc P)).toArray (k * 32)).run Tryd.prog w = .ok (.agg (rowV 32 (P k)).toArray) w := by
  have ha : (isAgg 28).run Tryd.prog w = .ok true w := by kernel_rfl
  have he := rowV_cut 1024 k P (by omega)
  unfold part
  simp [ha, he]
theorem proof_loop (d : Nat) (P Q : Pf) (w : World) : ∀ is : List Nat, (∀ i ∈ is, i < 32) →
    (forIn is ((none : Option Bool), ()) fun i __s => do
      let __do_lift ← part 28 (rowV 1024 (pc P)).toArray (i * 32)
      let __do_lift_1 ← part 28 (rowV 1024 (pc Q)).toArray (i * 32)
      let __do_lift ← Op.equalIn (d + 2) 28 __do_lift __do_lift_1
      if (!__do_lift) = true then pure (ForInStep.done (some false, ())) else pure (ForInStep.yield (none, ()))).run Tryd.prog w =
    .ok (if is.all (fun k => sameH (P k) (Q k)) then (none, ()) else (some false, ())) w
  | [], _ => by simp [Sem.run_pure]
  | i :: r, h => by
    have hi := h i (by simp)
    simp only [List.forIn_cons, Sem.run_bind, part_hash _ i hi, Result.andThen_ok, eqHashD d]
    cases e : sameH (P i) (Q i)
    · simp only [Bool.not_false, if_true, Sem.run_pure, Result.andThen_ok, List.all_cons, e, Bool.false_and, Bool.false_eq_true, if_false]
    · simp only [Bool.not_true, Bool.false_eq_true, if_false, Sem.run_pure, Result.andThen_ok, List.all_cons, e, Bool.true_and]
      exact proof_loop d P Q w r (fun j hj => h j (by simp [hj]))
theorem eqProof (P Q : Pf) (w : World) : (Op.equalIn 10000 29 (.agg (rowV 1024 (pc P)).toArray) (.agg (rowV 1024 (pc Q)).toArray)).run Tryd.prog w = .ok (sameP P Q) w := by
  have hz : (sizeOf 28).run Tryd.prog w = .ok 32 w := by kernel_rfl
  rw [show (10000 : Nat) = 9999 + 1 from rfl, Op.equalIn]
  simp only [Sem.run_bind, run_underlying Tryd.underlying29, Result.andThen_ok, hz]
  simp only [Std.Legacy.Range.forIn_eq_forIn_range', Std.Legacy.Range.size, Nat.sub_zero, Nat.add_sub_cancel, Nat.div_one]
  rw [show (9999 : Nat) = 9997 + 2 from rfl, proof_loop 9997 P Q w _ (fun i hi => by have := List.mem_range'.1 hi; omega)]
  rw [show (List.range' 0 32).all (fun k => sameH (P k) (Q k)) = sameP P Q by unfold sameP; rw [List.range_eq_range']]
  cases sameP P Q <;> simp [Sem.run_pure]
theorem eqHashZ (f : Nat → Int) (w : World) : (Op.equalIn 10000 28 (.agg (rowV 32 f).toArray) (.agg #[.int .u8 0, .int .u8 0, .int .u8 0, .int .u8 0, .int .u8 0, .int .u8 0, .int .u8 0, .int .u8 0, .int .u8 0, .int .u8 0, .int .u8 0, .int .u8 0, .int .u8 0, .int .u8 0, .int .u8 0, .int .u8 0, .int .u8 0, .int .u8 0, .int .u8 0, .int .u8 0, .int .u8 0, .int .u8 0, .int .u8 0, .int .u8 0, .int .u8 0, .int .u8 0, .int .u8 0, .int .u8 0, .int .u8 0, .int .u8 0, .int .u8 0, .int .u8 0])).run Tryd.prog w = .ok (sameH f hz) w := by
  have h := eqHash f hz w
  rw [hz_agg] at h
  exact h
end Go.Proofs.YtjkhboejhcbdpaaDoor
