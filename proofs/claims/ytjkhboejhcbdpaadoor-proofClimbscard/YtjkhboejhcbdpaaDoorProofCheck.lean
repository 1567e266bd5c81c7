/- Proofs as rows of 1,024 bytes; boxes of a call's own, listed; climbing as a function. Equality of proofs (rows of 32 sums) over this translation. The contract of proof.ends over this translation. The contract of proof.Climb over this translation (written by gen-proofclimb.py). The contract of proof.Check over this translation (written by gen-proofcheck.py). -/
import Derived.Test.YtjkhboejhcbdpaaDoorRef6Empties
import Derived.Test.YtjkhboejhcbdpaaDoorHashEq
import Derived.Test.YtjkhboejhcbdpaaDoorTreeLeaf
import Derived.Test.YtjkhboejhcbdpaaDoorDomNode
/- Proofs as rows of 1,024 bytes; boxes of a call's own, listed; climbing as a function. -/
namespace Go.Proofs.YtjkhboejhcbdpaaDoor
open Go.RowKit Go.Lib
attribute [local go_sem] setCell_drewN alloc_drewN

/-- A proof: sums, level by level. -/
abbrev Pf := Nat → Hs
/-- Its bytes, one behind the other. -/
def pc (P : Pf) : Nat → Int := fun j => P (j / 32) (j % 32)
theorem pc_at (P : Pf) (k j : Nat) (h : j < 32) : pc P (k * 32 + j) = P k j := by
  unfold pc; rw [show (k * 32 + j) / 32 = k by omega, show (k * 32 + j) % 32 = j by omega]
def Pok (P : Pf) : Prop := ∀ k, Hok (P k)
/-- One level for another. -/
def updP (P : Pf) (k : Nat) (f : Hs) : Pf := fun i => if i = k then f else P i
theorem pc_upd (P : Pf) (k : Nat) (f : Hs) (j : Nat) : pc (updP P k f) j = if k * 32 ≤ j ∧ j < k * 32 + 32 then f (j - k * 32) else pc P j := by
  unfold pc updP
  by_cases e : j / 32 = k
  · rw [if_pos e, if_pos (by omega), show j % 32 = j - k * 32 by omega]
  · rw [if_neg e, if_neg (by omega)]
/-- Nothing but noughts. -/
def pz : Pf := fun _ => hz
theorem pz_ok : Pok pz := fun _ _ => ⟨by simp [pz, hz], by simp [pz, hz]⟩
theorem pc_pz (j : Nat) : pc pz j = 0 := rfl
/-- Boxes of bytes of a call's own: where, how many, which. -/
structure Bxs (w0 w : World) (l : List (Nat × Nat × (Nat → Int))) : Prop where
  row : ∀ x ∈ l, BRow w x.1 x.2.1 x.2.2
  lo : ∀ x ∈ l, w0.heap.size ≤ x.1
  apart : ∀ (i j : Nat) x y, l[i]? = some x → l[j]? = some y → x.1 = y.1 → i = j
  below : Below w0.heap.size w0 w
theorem Bxs.none (w : World) : Bxs w w [] := ⟨fun _ h => by simp at h, fun _ h => by simp at h, fun _ _ _ _ h => by simp at h, bMe w⟩
theorem Bxs.after {w0 w w' : World} {l : List (Nat × Nat × (Nat → Int))} (h : Bxs w0 w l) (hb : Below w.heap.size w w') : Bxs w0 w' l :=
  ⟨fun x hx => (h.row x hx).after hb rfl, h.lo, h.apart, bOn h.below hb⟩
theorem Bxs.past {w0 w : World} {l : List (Nat × Nat × (Nat → Int))} (h : Bxs w0 w l) (o : Obj) : Bxs w0 (w.alloc o) l := h.after (bAl (bMe w))
theorem Bxs.new {w0 w : World} {l : List (Nat × Nat × (Nat → Int))} (h : Bxs w0 w l) {o : Obj} {n : Nat} {f : Nat → Int} (hr : BRow (w.alloc o) w.heap.size n f) : Bxs w0 (w.alloc o) ((w.heap.size, n, f) :: l) := by
  have h1 := h.past o
  refine ⟨fun x hx => ?_, fun x hx => ?_, fun i j x y hi hj e => ?_, h1.below⟩
  · rcases List.mem_cons.1 hx with rfl | hx
    · exact hr
    · exact h1.row x hx
  · rcases List.mem_cons.1 hx with rfl | hx
    · exact h.below.size
    · exact h.lo x hx
  · cases i with
    | zero =>
      cases j with
      | zero => rfl
      | succ j =>
        simp only [List.getElem?_cons_zero, Option.some.injEq] at hi
        subst hi
        have := (h.row y (List.mem_of_getElem? (by simpa using hj))).lt
        simp only at e
        omega
    | succ i =>
      cases j with
      | zero =>
        simp only [List.getElem?_cons_zero, Option.some.injEq] at hj
        subst hj
        have := (h.row x (List.mem_of_getElem? (by simpa using hi))).lt
        simp only at e
        omega
      | succ j => rw [h.apart i j x y (by simpa using hi) (by simpa using hj) e]
theorem Bxs.add {w0 w : World} {l : List (Nat × Nat × (Nat → Int))} (h : Bxs w0 w l) {o : Obj} {g n : Nat} {f : Nat → Int} (e : w.heap.size = g) (hr : BRow (w.alloc o) g n f) : Bxs w0 (w.alloc o) ((g, n, f) :: l) := by
  subst e; exact h.new hr
theorem Bxs.get {w0 w : World} {l : List (Nat × Nat × (Nat → Int))} (h : Bxs w0 w l) (i : Nat) {g n : Nat} {f : Nat → Int} (e : l[i]? = some (g, n, f)) : BRow w g n f := h.row _ (List.mem_of_getElem? e)
theorem Bxs.putAt {w0 w : World} {l : List (Nat × Nat × (Nat → Int))} (h : Bxs w0 w l) (i : Nat) {g n : Nat} {f : Nat → Int} (e : l[i]? = some (g, n, f)) (o m : Nat) (F f' : Nat → Int) (hn : o + m ≤ n) (hf : ∀ j, j < n → f' j = if o ≤ j ∧ j < o + m then F (j - o) else f j) :
    Bxs w0 (w.setCells g o (rowV m F)) (l.set i (g, n, f')) := by
  have hi : i < l.length := (List.getElem?_eq_some_iff.1 e).1
  have hlo := h.lo _ (List.mem_of_getElem? e)
  have key : ∀ (j : Nat) x, (l.set i (g, n, f'))[j]? = some x → (j = i ∧ x = (g, n, f')) ∨ (j ≠ i ∧ l[j]? = some x) := by
    intro j x hj
    by_cases ej : i = j
    · subst ej; rw [List.getElem?_set_self hi] at hj; injection hj with hj; exact .inl ⟨rfl, hj.symm⟩
    · rw [List.getElem?_set_ne ej] at hj; exact .inr ⟨fun q => ej q.symm, hj⟩
  refine ⟨fun x hx => ?_, fun x hx => ?_, fun j k x y hj hk q => ?_, setCells_below h.below hlo _ _⟩
  · obtain ⟨j, hj⟩ := List.mem_iff_getElem?.1 hx
    rcases key j x hj with ⟨rfl, rfl⟩ | ⟨hne, hj⟩
    · exact (h.get _ e).putAt o m F f' hn hf
    · refine (h.row x (List.mem_of_getElem? hj)).of (by rw [setCells_size]; exact Nat.le_refl _) (setCells_block _ _ _ _ _ (fun q => hne ?_))
      exact h.apart j i x _ hj e q
  · obtain ⟨j, hj⟩ := List.mem_iff_getElem?.1 hx
    rcases key j x hj with ⟨rfl, rfl⟩ | ⟨hne, hj⟩
    · exact hlo
    · exact h.lo x (List.mem_of_getElem? hj)
  · rcases key j x hj with ⟨rfl, rfl⟩ | ⟨hne, hj2⟩
    · rcases key k y hk with ⟨rfl, rfl⟩ | ⟨hne2, hk2⟩
      · rfl
      · exact h.apart _ k _ y e hk2 q
    · rcases key k y hk with ⟨rfl, rfl⟩ | ⟨hne2, hk2⟩
      · exact h.apart j _ x _ hj2 e q
      · exact h.apart j k x y hj2 hk2 q
theorem Bxs.put {w0 w : World} {l : List (Nat × Nat × (Nat → Int))} (h : Bxs w0 w l) (i : Nat) {g n : Nat} {f : Nat → Int} (e : l[i]? = some (g, n, f)) (F : Nat → Int) : Bxs w0 (w.setCells g 0 (rowV n F)) (l.set i (g, n, F)) :=
  h.putAt i e 0 n F F (by omega) (fun j hj => by rw [if_pos (by omega), Nat.sub_zero])
theorem Bxs.tail {w0 w : World} {x : Nat × Nat × (Nat → Int)} {l : List (Nat × Nat × (Nat → Int))} (h : Bxs w0 w (x :: l)) : Bxs w0 w l :=
  ⟨fun y hy => h.row y (List.mem_cons_of_mem _ hy), fun y hy => h.lo y (List.mem_cons_of_mem _ hy), fun i j y z hi hj e => by
    have := h.apart (i + 1) (j + 1) y z (by simpa using hi) (by simpa using hj) e
    omega, h.below⟩
/-- A level's sum within a proof's box. -/
theorem BRow.lev {w : World} {g : Nat} {P : Pf} (h : BRow w g 1024 (pc P)) (k : Nat) (hk : k < 32) : w.rangeAt g (k * 32) (rowV 32 (P k)) := h.part (k * 32) 32 (P k) (by omega) (fun j hj => pc_at P k j hj)
theorem zero1024 (w : World) : (zeroValue 29).run Tryd.prog w = .ok (.agg (Array.replicate 1024 (.int .u8 0))) w := by kernel_rfl
theorem info_pf (f : Nat → Int) : (Tryd.prog.info? 29).map (·.size) = some (rowV 1024 f).length := by rw [rowV_length]; kernel_rfl
theorem info_pfA (f : Nat → Int) : (Tryd.prog.info? 29).map (·.size) = some (rowV 1024 f).toArray.size := by rw [List.size_toArray, rowV_length]; kernel_rfl
theorem rowV_zero (n : Nat) : (rowV n (fun _ => 0)).toArray = Array.replicate n (.int .u8 0) := by
  have : rowV n (fun _ => 0) = List.replicate n (.int .u8 0) := by
    apply List.ext_getElem?
    intro i
    by_cases h : i < n
    · rw [rowV_get h]; simp [h]
    · rw [List.getElem?_eq_none (by rw [rowV_length]; omega), List.getElem?_eq_none (by simp; omega)]
  rw [this]; simp
theorem pz_row : (rowV 1024 (pc pz)).toArray = Array.replicate 1024 (.int .u8 0) := rowV_zero 1024
/-- Is there nothing left from a level on? -/
def endB (P : Pf) (d : Nat) : Bool := (List.range 32).all fun k => decide (k < d) || sameH (P k) hz
theorem endB_iff (P : Pf) (d : Nat) : endB P d = true ↔ ∀ k, d ≤ k → k < 32 → sameH (P k) hz = true := by
  unfold endB
  rw [List.all_eq_true]
  constructor
  · intro h k h1 h2
    have := h k (List.mem_range.2 h2)
    simp only [Bool.or_eq_true, decide_eq_true_eq] at this
    rcases this with h | h
    · omega
    · exact h
  · intro h k hk
    by_cases e : k < d
    · simp [e]
    · simp [h k (by omega) (List.mem_range.1 hk)]
/-- Climbing, so many levels. -/
def cl (i : Nat) (P : Pf) (h : Hs) : Nat → Hs
  | 0 => h
  | k + 1 => if i / 2 ^ k % 2 = 0 then dnode (cl i P h k) (P k) else dnode (P k) (cl i P h k)
theorem cl_ok {i : Nat} {P : Pf} {h : Hs} (hh : Hok h) : ∀ k, Hok (cl i P h k)
  | 0 => hh
  | k + 1 => by unfold cl; split <;> exact dnode_ok _ _
theorem cl_even {i : Nat} {P : Pf} {h : Hs} {k : Nat} (e : i / 2 ^ k % 2 = 0) : cl i P h (k + 1) = dnode (cl i P h k) (P k) := by rw [cl, if_pos e]
theorem cl_odd {i : Nat} {P : Pf} {h : Hs} {k : Nat} (e : ¬ i / 2 ^ k % 2 = 0) : cl i P h (k + 1) = dnode (P k) (cl i P h k) := by rw [cl, if_neg e]
/-- The error of climbing, by its number. -/
def ce (d : Int) (i : Nat) (P : Pf) : Int := if d < 0 ∨ 32 < d then 1 else if 2 ^ d.toNat ≤ i then 10 else if endB P d.toNat = true then 0 else 6
/-- The sum at the end. -/
def ch (d : Int) (i : Nat) (h : Hs) (P : Pf) : Hs := if ce d i P = 0 then cl i P h d.toNat else hz
theorem ce_dep {d : Int} {i : Nat} {P : Pf} (h : d < 0 ∨ 32 < d) : ce d i P = 1 := by rw [ce, if_pos h]
theorem ce_far {d i : Nat} {P : Pf} (h : d ≤ 32) (hi : 2 ^ d ≤ i) : ce (d : Int) i P = 10 := by rw [ce, if_neg (by omega), if_pos (by simpa using hi)]
theorem ce_form {d i : Nat} {P : Pf} (h : d ≤ 32) (hi : i < 2 ^ d) (he : endB P d = false) : ce (d : Int) i P = 6 := by
  rw [ce, if_neg (by omega), if_neg (by simpa using hi), if_neg (by simp [he])]
theorem ce_ok {d i : Nat} {P : Pf} (h : d ≤ 32) (hi : i < 2 ^ d) (he : endB P d = true) : ce (d : Int) i P = 0 := by
  rw [ce, if_neg (by omega), if_neg (by simpa using hi), if_pos (by simp [he])]
theorem ce_cases (d : Int) (i : Nat) (P : Pf) : ce d i P = 0 ∨ ce d i P = 1 ∨ ce d i P = 6 ∨ ce d i P = 10 := by
  unfold ce; split
  · simp
  · split
    · simp
    · split <;> simp
theorem ch_ok {d i : Nat} {h : Hs} {P : Pf} (hd : d ≤ 32) (hi : i < 2 ^ d) (he : endB P d = true) : ch (d : Int) i h P = cl i P h d := by
  rw [ch, if_pos (ce_ok hd hi he)]; rfl
theorem ch_no {d : Int} {i : Nat} {h : Hs} {P : Pf} (he : ¬ ce d i P = 0) : ch d i h P = hz := by rw [ch, if_neg he]
end Go.Proofs.YtjkhboejhcbdpaaDoor

/- Equality of proofs (rows of 32 sums) over this translation. -/
namespace Go.Proofs.YtjkhboejhcbdpaaDoor
open Go.RowKit Go.Lib

theorem hash_loopD (d : Nat) (f f' : Nat → Int) (w : World) : ∀ is : List Nat, (∀ i ∈ is, i < 32) →
    (forIn is ((none : Option Bool), ()) fun i __s => do
      let __do_lift ← part 5 (rowV 32 f).toArray (i * 1)
      let __do_lift_1 ← part 5 (rowV 32 f').toArray (i * 1)
      let __do_lift ← Op.equalIn (d + 1) 5 __do_lift __do_lift_1
      if (!__do_lift) = true then pure (ForInStep.done (some false, ())) else pure (ForInStep.yield (none, ()))).run Tryd.prog w =
    .ok (if is.all (fun j => f j == f' j) then (none, ()) else (some false, ())) w
  | [], _ => by simp [Sem.run_pure]
  | i :: r, h => by
    have hi := h i (by simp)
    simp only [List.forIn_cons, Sem.run_bind, part_byte _ i hi, Result.andThen_ok, eq_byte _ _ d]
    by_cases e : f i = f' i
    · simp only [e, beq_self_eq_true, Bool.not_true, Bool.false_eq_true, if_false, Sem.run_pure, Result.andThen_ok, List.all_cons, Bool.true_and]
      exact hash_loopD d f f' w r (fun j hj => h j (by simp [hj]))
    · have eb : (f i == f' i) = false := by simpa using e
      simp only [eb, Bool.not_false, if_true, Sem.run_pure, Result.andThen_ok, List.all_cons, Bool.false_and, Bool.false_eq_true, if_false]
theorem eqHashD (d : Nat) (f f' : Nat → Int) (w : World) : (Op.equalIn (d + 2) 28 (.agg (rowV 32 f).toArray) (.agg (rowV 32 f').toArray)).run Tryd.prog w = .ok (sameH f f') w := by
  have hz : (sizeOf 5).run Tryd.prog w = .ok 1 w := by kernel_rfl
  rw [show d + 2 = (d + 1) + 1 from rfl, Op.equalIn]
  simp only [Sem.run_bind, run_underlying Tryd.underlying28, Result.andThen_ok, hz]
  simp only [Std.Legacy.Range.forIn_eq_forIn_range', Std.Legacy.Range.size, Nat.sub_zero, Nat.add_sub_cancel, Nat.div_one]
  rw [hash_loopD d f f' w _ (fun i hi => by have := List.mem_range'.1 hi; omega)]
  rw [show (List.range' 0 32).all (fun j => f j == f' j) = sameH f f' by unfold sameH; rw [List.range_eq_range']]
  cases sameH f f' <;> simp [Sem.run_pure]
/-- Are two proofs alike? -/
def sameP (P Q : Pf) : Bool := (List.range 32).all fun k => sameH (P k) (Q k)
theorem sameP_self (P : Pf) : sameP P P = true := by unfold sameP; simp [sameH_self]
theorem rowV_cut (n k : Nat) (P : Pf) (h : k * 32 + 32 ≤ n) : List.take 32 (List.drop (k * 32) (rowV n (pc P))) = rowV 32 (P k) := by
  apply List.ext_getElem?
  intro j
  by_cases hj : j < 32
  · rw [rowV_get hj, List.getElem?_take, if_pos (by omega), List.getElem?_drop, rowV_get (by omega), pc_at P k j hj]
  · rw [List.getElem?_eq_none (l := rowV 32 (P k)) (by rw [rowV_length]; omega), List.getElem?_eq_none (by rw [List.length_take]; omega)]
theorem part_hash (P : Pf) (k : Nat) (hk : k < 32) (w : World) : (part 28 (rowV 1024 (pc P)).toArray (k * 32)).run Tryd.prog w = .ok (.agg (rowV 32 (P k)).toArray) w := by
  have ha : (isAgg 28).run Tryd.prog w = .ok true w := by kernel_rfl
  have he := rowV_cut 1024 k P (by omega)
  unfold part
  simp [ha, he]
theorem proof_loop (d : Nat) (P Q : Pf) (w : World) : ∀ is : List Nat, (∀ i ∈ is, i < 32) →
    (forIn is ((none : Option Bool), ()) fun i __s => do
      let __do_lift ← part 28 (rowV 1024 (pc P)).toArray (i * 32)
      let __do_lift_1 ← part 28 (rowV 1024 (pc Q)).toArray (i * 32)
      let __do_lift ← Op.equalIn (d + 2) 28 __do_lift __do_lift_1
      if (!__do_lift) = true then pure (ForInStep.done (some false, ())) else pure (ForInStep.yield (none, ()))).run Tryd.prog w =
    .ok (if is.all (fun k => sameH (P k) (Q k)) then (none, ()) else (some false, ())) w
  | [], _ => by simp [Sem.run_pure]
  | i :: r, h => by
    have hi := h i (by simp)
    simp only [List.forIn_cons, Sem.run_bind, part_hash _ i hi, Result.andThen_ok, eqHashD d]
    cases e : sameH (P i) (Q i)
    · simp only [Bool.not_false, if_true, Sem.run_pure, Result.andThen_ok, List.all_cons, e, Bool.false_and, Bool.false_eq_true, if_false]
    · simp only [Bool.not_true, Bool.false_eq_true, if_false, Sem.run_pure, Result.andThen_ok, List.all_cons, e, Bool.true_and]
      exact proof_loop d P Q w r (fun j hj => h j (by simp [hj]))
theorem eqProof (P Q : Pf) (w : World) : (Op.equalIn 10000 29 (.agg (rowV 1024 (pc P)).toArray) (.agg (rowV 1024 (pc Q)).toArray)).run Tryd.prog w = .ok (sameP P Q) w := by
  have hz : (sizeOf 28).run Tryd.prog w = .ok 32 w := by kernel_rfl
  rw [show (10000 : Nat) = 9999 + 1 from rfl, Op.equalIn]
  simp only [Sem.run_bind, run_underlying Tryd.underlying29, Result.andThen_ok, hz]
  simp only [Std.Legacy.Range.forIn_eq_forIn_range', Std.Legacy.Range.size, Nat.sub_zero, Nat.add_sub_cancel, Nat.div_one]
  rw [show (9999 : Nat) = 9997 + 2 from rfl, proof_loop 9997 P Q w _ (fun i hi => by have := List.mem_range'.1 hi; omega)]
  rw [show (List.range' 0 32).all (fun k => sameH (P k) (Q k)) = sameP P Q by unfold sameP; rw [List.range_eq_range']]
  cases sameP P Q <;> simp [Sem.run_pure]
theorem eqHashZ (f : Nat → Int) (w : World) : (Op.equalIn 10000 28 (.agg (rowV 32 f).toArray) (.agg #[.int .u8 0, .int .u8 0, .int .u8 0, .int .u8 0, .int .u8 0, .int .u8 0, .int .u8 0, .int .u8 0, .int .u8 0, .int .u8 0, .int .u8 0, .int .u8 0, .int .u8 0, .int .u8 0, .int .u8 0, .int .u8 0, .int .u8 0, .int .u8 0, .int .u8 0, .int .u8 0, .int .u8 0, .int .u8 0, .int .u8 0, .int .u8 0, .int .u8 0, .int .u8 0, .int .u8 0, .int .u8 0, .int .u8 0, .int .u8 0, .int .u8 0, .int .u8 0])).run Tryd.prog w = .ok (sameH f hz) w := by
  have h := eqHash f hz w
  rw [hz_agg] at h
  exact h
end Go.Proofs.YtjkhboejhcbdpaaDoor

/- The contract of proof.ends over this translation. -/
namespace Go.Proofs.YtjkhboejhcbdpaaDoor
open Go.RowKit Go.Lib
attribute [local go_sem] setCell_drewN alloc_drewN eqHash

set_option maxRecDepth 100000 in
set_option maxHeartbeats 4000000 in
theorem ends_any {w : World} (P : Pf) (d : Nat) (hd : d ≤ 32) :
    Calls Tryd.prog 23 #[.agg (rowV 1024 (pc P)).toArray, .int .i64 d] w fun e w' => e = .returned (.bool (endB P d)) ∧ Below w.heap.size w w' := by
  have hdi : (d : Int) ≤ 32 := by omega
  have HD := hide hd
  have E0 : Hid (Bxs w (w.alloc (.cells (rowV 1024 (pc P)).toArray 29)) [(w.heap.size, 1024, pc P)]) := (Bxs.none w).new (BRow.box w 1024 (pc P) _ rfl)
  clear hd
  by_cases h32 : d = 32
  · subst h32
    have HE : Hid (endB P 32 = true) := (endB_iff P 32).2 fun k h1 h2 => by omega
    go_enter Tryd.func23, Tryd.ntmps23
    go_wp2_with fail
    generalize w.alloc (.cells (rowV 1024 (pc P)).toArray 29) = w1 at *
    go_loopg [10] 1 (fun gk t wr => gk = 1 ∧ t = .int .i64 0 ∧ wr = w1)
    case atStart => exact ⟨rfl, rfl, rfl⟩
    case round =>
      obtain ⟨rfl, rfl, rfl⟩ := hrel
      go_wp2
      go_ret
      exact ⟨by rw [HE.out]; rfl, E0.out.below⟩
  · have hne : ¬ 32 = d := fun e => h32 e.symm
    obtain ⟨m, hm⟩ : ∃ m, 32 - d = m := ⟨_, rfl⟩
    have HM : Hid (m + d = 32) := by have := HD.out; show _ = _; omega
    go_enter Tryd.func23, Tryd.ntmps23
    go_wp2_with fail
    generalize w.alloc (.cells (rowV 1024 (pc P)).toArray 29) = w1 at *
    clear hm h32 hne
    go_loopg [10] m (fun gk t wr => ∃ b : Nat, gk + b = m ∧ t = .int .i64 b ∧ Bxs w wr [(w.heap.size, 1024, pc P)] ∧ Hid (∀ k, d ≤ k → k < d + b → sameH (P k) hz = true))
    case atStart => exact ⟨0, by omega, rfl, E0.out, fun k h1 h2 => by omega⟩
    case round =>
      clear E0
      obtain ⟨b, hb0, rfl, he, hall⟩ := hrel
      have E := hide he; have HK := hide hb0
      clear he hb0
      by_cases hlt : b < m
      · have hbi : (b : Int) < (m : Int) := by omega
        have hmi : (m : Int) ≤ 32 := by have := HM.out; omega
        obtain ⟨F, hF⟩ : ∃ F, P (d + b) = F := ⟨_, rfl⟩
        have HF := hide hF
        have R1 : Hid (Bxs w (wr.alloc (.cells #[.int .u8 0, .int .u8 0, .int .u8 0, .int .u8 0, .int .u8 0, .int .u8 0, .int .u8 0, .int .u8 0, .int .u8 0, .int .u8 0, .int .u8 0, .int .u8 0, .int .u8 0, .int .u8 0, .int .u8 0, .int .u8 0, .int .u8 0, .int .u8 0, .int .u8 0, .int .u8 0, .int .u8 0, .int .u8 0, .int .u8 0, .int .u8 0, .int .u8 0, .int .u8 0, .int .u8 0, .int .u8 0, .int .u8 0, .int .u8 0, .int .u8 0, .int .u8 0] 28)) [(wr.heap.size, 32, fun _ => 0), (w.heap.size, 1024, pc P)]) := E.out.new (BRow.zeros32 wr rfl)
        have hrow : Hid (wr.rangeAt w.heap.size (d * 32 + b * 32) (rowV 32 F)) := by
          have := (E.out.get 0 rfl).lev (d + b) (by have := HM.out; omega)
          rw [hF] at this
          rwa [Nat.add_mul] at this
        clear hF
        go_wp2_with (first
          | refine wpList_load_mid rfl 28 _ rfl w.heap.size (d * 32 + b * 32) rfl (rowV 32 F) _ hrow.out Tryd.underlying28 rfl (info_hash32 _) ?_
          | refine wpList_store_stop rfl 28 _ _ rfl wr.heap.size 0 (rowV 32 F) rfl rfl ((R1.out.get 0 rfl).thereA F) (info_hash32A F) (rowV_oneA _ _) ?_)
        intro w3 hw3
        have E3 : Hid (Bxs w w3 [(wr.heap.size, 32, F), (w.heap.size, 1024, pc P)]) := by
          show Bxs _ _ _
          rw [hw3.out]; exact R1.out.put 0 rfl F
        have hzq := fun w => eqHashZ F w
        clear hw3 R1 hrow E
        generalize wr.heap.size = g at *
        cases hs : sameH F hz with
        | true =>
          rw [hs] at hzq
          go_wp2_with (refine wpList_load_mid rfl 28 _ rfl g 0 rfl (rowV 32 F) _ (E3.out.get 0 rfl).range Tryd.underlying28 rfl (info_hash32 _) ?_)
          go_roundg (m - b - 1)
          case measure => have := HK.out; omega
          case rel => exact ⟨b + 1, by omega, by go_num, E3.out.tail, fun k h1 h2 => by
            by_cases e : k = d + b
            · rw [e, HF.out]; exact hs
            · exact hall.out k h1 (by omega)⟩
        | false =>
          rw [hs] at hzq
          have HE : Hid (endB P d = false) := by
            show _ = _
            cases e : endB P d
            · rfl
            · have := (endB_iff P d).1 e (d + b) (by omega) (by have := HM.out; omega)
              rw [HF.out, hs] at this
              cases this
          go_wp2_with (refine wpList_load_mid rfl 28 _ rfl g 0 rfl (rowV 32 F) _ (E3.out.get 0 rfl).range Tryd.underlying28 rfl (info_hash32 _) ?_)
          go_ret
          exact ⟨by rw [HE.out]; rfl, E3.out.below⟩
      · obtain rfl : b = m := by have := HK.out; omega
        have HE : Hid (endB P d = true) := (endB_iff P d).2 fun k h1 h2 => hall.out k h1 (by have := HM.out; omega)
        go_wp2
        go_ret
        exact ⟨by rw [HE.out]; rfl, E.out.below⟩
end Go.Proofs.YtjkhboejhcbdpaaDoor

/- The contract of proof.Climb over this translation (written by gen-proofclimb.py). -/
namespace Go.Proofs.YtjkhboejhcbdpaaDoor
open Go.RowKit Go.Lib
attribute [local go_sem] setCell_drewN alloc_drewN

set_option maxRecDepth 100000 in
set_option maxHeartbeats 8000000 in
theorem climb_any {w : World} (d : Int) (i : Nat) (h : Hs) (P : Pf) (hd0 : -9223372036854775808 ≤ d) (hd1 : d ≤ 9223372036854775807) (hi : i ≤ 18446744073709551615) (hh : Hok h) (hP : Pok P) (ht : Tab w 1) :
    Calls Tryd.prog 12 #[.int .i64 d, .int .u64 i, .agg (rowV 32 h).toArray, .agg (rowV 1024 (pc P)).toArray] w fun e w' => e = .returned (.tuple #[.agg (rowV 32 (ch d i h P)).toArray, .int .i64 (ce d i P)]) ∧ Below w.heap.size w w' := by
  have HT := hide ht; have HH := hide hh; have HPO := hide hP
  have E0 : Hid (Bxs w (((w.alloc (.cells (rowV 32 h).toArray 28)).alloc (.cells (rowV 1024 (pc P)).toArray 29)).alloc (.cells #[.int .u8 0, .int .u8 0, .int .u8 0, .int .u8 0, .int .u8 0, .int .u8 0, .int .u8 0, .int .u8 0, .int .u8 0, .int .u8 0, .int .u8 0, .int .u8 0, .int .u8 0, .int .u8 0, .int .u8 0, .int .u8 0, .int .u8 0, .int .u8 0, .int .u8 0, .int .u8 0, .int .u8 0, .int .u8 0, .int .u8 0, .int .u8 0, .int .u8 0, .int .u8 0, .int .u8 0, .int .u8 0, .int .u8 0, .int .u8 0, .int .u8 0, .int .u8 0] 28)) [(w.heap.size + 2, 32, fun _ => 0), (w.heap.size + 1, 1024, pc P), (w.heap.size, 32, h)]) :=
    (((Bxs.none w).add rfl (BRow.box w 32 h _ rfl)).add (by simp) (BRow.box _ 1024 (pc P) _ (by simp))).add (by simp) (BRow.zeros32 _ (by simp))
  clear ht hh hP
  by_cases hdep : d < 0 ∨ 32 < d
  · have HC : Hid (ce d i P = 1) := ce_dep hdep
    have HZ : Hid (ch d i h P = hz) := ch_no (by rw [HC.out]; decide)
    rw [HC.out, HZ.out]
    go_enter Tryd.func12, Tryd.ntmps12
    rcases hdep with hdep | hdep
    · go_wp2_with (refine wpList_store_mid rfl 28 _ _ rfl (w.heap.size + 2) 0 (rowV 32 hz).toArray rfl rfl ((E0.out.get 0 rfl).thereA _) (info_hash32A _) (rowV_oneA _ _) ?_)
      have EE := hide (E0.out.put 0 rfl hz)
      refine bodyPost_ret (v := .tuple #[.agg (rowV 32 hz).toArray, .int .i64 1]) ?_ rfl ⟨rfl, EE.out.below⟩
      have hlv := run_loadVar_mid (P := Tryd.prog) _ _ _ _ _ _ (EE.out.get 0 rfl).range Tryd.underlying28 rfl (info_hash32 _)
      exact results_two Tryd.results12 rfl rfl hlv
    · go_wp2_with (refine wpList_store_mid rfl 28 _ _ rfl (w.heap.size + 2) 0 (rowV 32 hz).toArray rfl rfl ((E0.out.get 0 rfl).thereA _) (info_hash32A _) (rowV_oneA _ _) ?_)
      have EE := hide (E0.out.put 0 rfl hz)
      refine bodyPost_ret (v := .tuple #[.agg (rowV 32 hz).toArray, .int .i64 1]) ?_ rfl ⟨rfl, EE.out.below⟩
      have hlv := run_loadVar_mid (P := Tryd.prog) _ _ _ _ _ _ (EE.out.get 0 rfl).range Tryd.underlying28 rfl (info_hash32 _)
      exact results_two Tryd.results12 rfl rfl hlv
  · obtain ⟨k, rfl⟩ : ∃ k : Nat, d = (k : Int) := ⟨d.toNat, by omega⟩
    have hk : k ≤ 32 := by omega
    have hki : (k : Int) ≤ 32 := by omega
    have hk0 : ¬ (k : Int) < 0 := by omega
    have hk1 : ¬ (32 : Int) < (k : Int) := by omega
    have HK := hide hk
    clear hdep hd0 hd1 hk
    obtain ⟨q, hq⟩ : ∃ q, i / 2 ^ k = q := ⟨_, rfl⟩
    have hdq : (i : Int) / 2 ^ k = (q : Int) := by rw [← hq]; simp
    have hp : 0 < 2 ^ k := Nat.two_pow_pos k
    by_cases hfar : q = 0
    · subst hfar
      have HLT : Hid (i < 2 ^ k) := (Nat.div_eq_zero_iff_lt hp).1 hq
      clear hq hp
      go_enter Tryd.func12, Tryd.ntmps12
      go_wp2_with (refine wpList_load_mid rfl 29 _ rfl (w.heap.size + 1) 0 rfl (rowV 1024 (pc P)) _ (E0.out.get 1 rfl).range Tryd.underlying29 rfl (info_pf _) ?_)
      generalize ((w.alloc (.cells (rowV 32 h).toArray 28)).alloc (.cells (rowV 1024 (pc P)).toArray 29)).alloc (.cells #[.int .u8 0, .int .u8 0, .int .u8 0, .int .u8 0, .int .u8 0, .int .u8 0, .int .u8 0, .int .u8 0, .int .u8 0, .int .u8 0, .int .u8 0, .int .u8 0, .int .u8 0, .int .u8 0, .int .u8 0, .int .u8 0, .int .u8 0, .int .u8 0, .int .u8 0, .int .u8 0, .int .u8 0, .int .u8 0, .int .u8 0, .int .u8 0, .int .u8 0, .int .u8 0, .int .u8 0, .int .u8 0, .int .u8 0, .int .u8 0, .int .u8 0, .int .u8 0] 28) = w1 at *
      refine (ends_any P k HK.out).mono ?_
      rintro e w2 ⟨rfl, hb⟩
      replace E0 := hide (E0.out.after hb)
      clear hb hdq
      cases hend : endB P k with
      | false =>
        have HC : Hid (ce (k : Int) i P = 6) := ce_form HK.out HLT.out hend
        have HZ : Hid (ch (k : Int) i h P = hz) := ch_no (by rw [HC.out]; decide)
        go_wp2_with (refine wpList_store_mid rfl 28 _ _ rfl (w.heap.size + 2) 0 (rowV 32 hz).toArray rfl rfl ((E0.out.get 0 rfl).thereA _) (info_hash32A _) (rowV_oneA _ _) ?_)
        have EE := hide (E0.out.put 0 rfl hz)
        refine bodyPost_ret (v := .tuple #[.agg (rowV 32 hz).toArray, .int .i64 6]) ?_ rfl ⟨by rw [HC.out, HZ.out], EE.out.below⟩
        have hlv := run_loadVar_mid (P := Tryd.prog) _ _ _ _ _ _ (EE.out.get 0 rfl).range Tryd.underlying28 rfl (info_hash32 _)
        exact results_two Tryd.results12 rfl rfl hlv
      | true =>
        have HC : Hid (ce (k : Int) i P = 0) := ce_ok HK.out HLT.out hend
        have HZ : Hid (ch (k : Int) i h P = cl i P h k) := ch_ok HK.out HLT.out hend
        have E1 : Hid (Bxs w (w2.alloc (.cells #[.int .u8 0, .int .u8 0, .int .u8 0, .int .u8 0, .int .u8 0, .int .u8 0, .int .u8 0, .int .u8 0, .int .u8 0, .int .u8 0, .int .u8 0, .int .u8 0, .int .u8 0, .int .u8 0, .int .u8 0, .int .u8 0, .int .u8 0, .int .u8 0, .int .u8 0, .int .u8 0, .int .u8 0, .int .u8 0, .int .u8 0, .int .u8 0, .int .u8 0, .int .u8 0, .int .u8 0, .int .u8 0, .int .u8 0, .int .u8 0, .int .u8 0, .int .u8 0] 28)) [(w2.heap.size, 32, fun _ => 0), (w.heap.size + 2, 32, fun _ => 0), (w.heap.size + 1, 1024, pc P), (w.heap.size, 32, h)]) := E0.out.new (BRow.zeros32 w2 rfl)
        clear hend HLT
        go_wp2_with (first
          | refine wpList_load_mid rfl 28 _ rfl (w.heap.size) 0 rfl (rowV 32 h) _ (E0.out.get 2 rfl).range Tryd.underlying28 rfl (info_hash32 _) ?_
          | refine wpList_store_stop rfl 28 _ _ rfl (w2.heap.size) 0 (rowV 32 h) rfl rfl ((E1.out.get 0 rfl).thereA h) (info_hash32A h) (rowV_oneA _ _) ?_)
        intro w3 hw3
        have E : Hid (Bxs w w3 [(w2.heap.size, 32, cl i P h 0), (w.heap.size + 2, 32, fun _ => 0), (w.heap.size + 1, 1024, pc P), (w.heap.size, 32, h)]) := by
          show Bxs _ _ _
          rw [hw3.out]; exact E1.out.put 0 rfl h
        clear hw3 E1 E0
        generalize w2.heap.size = g at *
        go_wp2_with fail
        go_loopg [34] k (fun gk t wr => ∃ b : Nat, gk + b = k ∧ t = .int .i64 b ∧ Bxs w wr [(g, 32, cl i P h b), (w.heap.size + 2, 32, fun _ => 0), (w.heap.size + 1, 1024, pc P), (w.heap.size, 32, h)])
        case atStart => exact ⟨0, by omega, rfl, E.out⟩
        case round =>
          clear E
          obtain ⟨b, hb0, rfl, he⟩ := hrel
          have E := hide he; have HB := hide hb0
          clear he hb0
          obtain ⟨C, hC⟩ : ∃ C, cl i P h b = C := ⟨_, rfl⟩
          have HCL := hide hC
          have HCO : Hid (Hok C) := by rw [← hC]; exact cl_ok HH.out b
          rw [hC] at E
          clear hC
          by_cases hlt : b < k
          · have hbi : (b : Int) < (k : Int) := by omega
            obtain ⟨r, hr⟩ : ∃ r, i / 2 ^ b = r := ⟨_, rfl⟩
            have hdr : (i : Int) / 2 ^ b = (r : Int) := by rw [← hr]; simp
            have hri : (r : Int) ≤ 18446744073709551615 := by have := Nat.div_le_self i (2 ^ b); omega
            have HR := hide hr
            obtain ⟨F, hF⟩ : ∃ F, P b = F := ⟨_, rfl⟩
            have HF := hide hF
            have HFO : Hid (Hok F) := by rw [← hF]; exact HPO.out b
            have hrow : Hid (wr.rangeAt (w.heap.size + 1) (b * 32) (rowV 32 F)) := by
              have := (E.out.get 2 rfl).lev b (by have := HK.out; omega)
              rwa [hF] at this
            have E1 : Hid (Bxs w (wr.alloc (.cells #[.int .u8 0, .int .u8 0, .int .u8 0, .int .u8 0, .int .u8 0, .int .u8 0, .int .u8 0, .int .u8 0, .int .u8 0, .int .u8 0, .int .u8 0, .int .u8 0, .int .u8 0, .int .u8 0, .int .u8 0, .int .u8 0, .int .u8 0, .int .u8 0, .int .u8 0, .int .u8 0, .int .u8 0, .int .u8 0, .int .u8 0, .int .u8 0, .int .u8 0, .int .u8 0, .int .u8 0, .int .u8 0, .int .u8 0, .int .u8 0, .int .u8 0, .int .u8 0] 28)) [(wr.heap.size, 32, fun _ => 0), (g, 32, C), (w.heap.size + 2, 32, fun _ => 0), (w.heap.size + 1, 1024, pc P), (w.heap.size, 32, h)]) := E.out.new (BRow.zeros32 wr rfl)
            clear hr hF
            by_cases hev : r % 2 = 0
            · have hevi : (r : Int) % 2 = 0 := by omega
              have HN : Hid (cl i P h (b + 1) = dnode C F) := by show _ = _; rw [cl_even (by rw [HR.out]; exact hev), HCL.out, HF.out]
              go_wp2_with (first
                | refine wpList_load_mid rfl 28 _ rfl (w.heap.size + 1) (b * 32) rfl (rowV 32 F) _ hrow.out Tryd.underlying28 rfl (info_hash32 _) ?_
                | refine wpList_store_stop rfl 28 _ _ rfl (wr.heap.size) 0 (rowV 32 F) rfl rfl ((E1.out.get 0 rfl).thereA F) (info_hash32A F) (rowV_oneA _ _) ?_)
              intro w4 hw4
              have E4 : Hid (Bxs w w4 [(wr.heap.size, 32, F), (g, 32, C), (w.heap.size + 2, 32, fun _ => 0), (w.heap.size + 1, 1024, pc P), (w.heap.size, 32, h)]) := by
                show Bxs _ _ _
                rw [hw4.out]; exact E1.out.put 0 rfl F
              clear hw4 E1 E hrow
              generalize wr.heap.size = g4 at *
              go_wp2_with (first
                | refine wpList_load_mid rfl 28 _ rfl (g) 0 rfl (rowV 32 C) _ (E4.out.get 1 rfl).range Tryd.underlying28 rfl (info_hash32 _) ?_
                | refine wpList_load_mid rfl 28 _ rfl (g4) 0 rfl (rowV 32 F) _ (E4.out.get 0 rfl).range Tryd.underlying28 rfl (info_hash32 _) ?_)
              refine (node_any C F HCO.out HFO.out (HT.out.below E4.out.below)).mono ?_
              rintro e w5 ⟨rfl, hb⟩
              replace E4 := hide (E4.out.after hb)
              clear hb
              obtain ⟨N, hN⟩ : ∃ N, dnode C F = N := ⟨_, rfl⟩
              rw [hN] at HN
              rw [hN]
              clear hN
              go_wp2_with (refine wpList_store_stop rfl 28 _ _ rfl (g) 0 (rowV 32 N) rfl rfl ((E4.out.get 1 rfl).thereA N) (info_hash32A N) (rowV_oneA _ _) ?_)
              intro w6 hw6
              have E6 : Hid (Bxs w w6 [(g4, 32, F), (g, 32, N), (w.heap.size + 2, 32, fun _ => 0), (w.heap.size + 1, 1024, pc P), (w.heap.size, 32, h)]) := by
                show Bxs _ _ _
                rw [hw6.out]; exact E4.out.put 1 rfl N
              clear hw6 E4
              go_wp2
              go_roundg (k - b - 1)
              case measure => have := HB.out; omega
              case rel => exact ⟨b + 1, by omega, by go_num, by rw [HN.out]; exact E6.out.tail⟩
            · have hevi : (r : Int) % 2 = 1 := by omega
              have HN : Hid (cl i P h (b + 1) = dnode F C) := by show _ = _; rw [cl_odd (by rw [HR.out]; exact hev), HCL.out, HF.out]
              go_wp2_with (first
                | refine wpList_load_mid rfl 28 _ rfl (w.heap.size + 1) (b * 32) rfl (rowV 32 F) _ hrow.out Tryd.underlying28 rfl (info_hash32 _) ?_
                | refine wpList_store_stop rfl 28 _ _ rfl (wr.heap.size) 0 (rowV 32 F) rfl rfl ((E1.out.get 0 rfl).thereA F) (info_hash32A F) (rowV_oneA _ _) ?_)
              intro w4 hw4
              have E4 : Hid (Bxs w w4 [(wr.heap.size, 32, F), (g, 32, C), (w.heap.size + 2, 32, fun _ => 0), (w.heap.size + 1, 1024, pc P), (w.heap.size, 32, h)]) := by
                show Bxs _ _ _
                rw [hw4.out]; exact E1.out.put 0 rfl F
              clear hw4 E1 E hrow
              generalize wr.heap.size = g4 at *
              go_wp2_with (first
                | refine wpList_load_mid rfl 28 _ rfl (g) 0 rfl (rowV 32 C) _ (E4.out.get 1 rfl).range Tryd.underlying28 rfl (info_hash32 _) ?_
                | refine wpList_load_mid rfl 28 _ rfl (g4) 0 rfl (rowV 32 F) _ (E4.out.get 0 rfl).range Tryd.underlying28 rfl (info_hash32 _) ?_)
              refine (node_any F C HFO.out HCO.out (HT.out.below E4.out.below)).mono ?_
              rintro e w5 ⟨rfl, hb⟩
              replace E4 := hide (E4.out.after hb)
              clear hb
              obtain ⟨N, hN⟩ : ∃ N, dnode F C = N := ⟨_, rfl⟩
              rw [hN] at HN
              rw [hN]
              clear hN
              go_wp2_with (refine wpList_store_stop rfl 28 _ _ rfl (g) 0 (rowV 32 N) rfl rfl ((E4.out.get 1 rfl).thereA N) (info_hash32A N) (rowV_oneA _ _) ?_)
              intro w6 hw6
              have E6 : Hid (Bxs w w6 [(g4, 32, F), (g, 32, N), (w.heap.size + 2, 32, fun _ => 0), (w.heap.size + 1, 1024, pc P), (w.heap.size, 32, h)]) := by
                show Bxs _ _ _
                rw [hw6.out]; exact E4.out.put 1 rfl N
              clear hw6 E4
              go_wp2
              go_roundg (k - b - 1)
              case measure => have := HB.out; omega
              case rel => exact ⟨b + 1, by omega, by go_num, by rw [HN.out]; exact E6.out.tail⟩
          · obtain rfl : b = k := by have := HB.out; omega
            go_wp2_with (first
              | refine wpList_load_mid rfl 28 _ rfl (g) 0 rfl (rowV 32 C) _ (E.out.get 0 rfl).range Tryd.underlying28 rfl (info_hash32 _) ?_
              | refine wpList_store_mid rfl 28 _ _ rfl (w.heap.size + 2) 0 (rowV 32 C).toArray rfl rfl ((E.out.get 1 rfl).thereA _) (info_hash32A _) (rowV_oneA _ _) ?_)
            have EE := hide (E.out.put 1 rfl C)
            refine bodyPost_ret (v := .tuple #[.agg (rowV 32 C).toArray, .int .i64 0]) ?_ rfl ⟨by rw [HC.out, HZ.out, HCL.out], EE.out.below⟩
            have hlv := run_loadVar_mid (P := Tryd.prog) _ _ _ _ _ _ (EE.out.get 1 rfl).range Tryd.underlying28 rfl (info_hash32 _)
            exact results_two Tryd.results12 rfl rfl hlv
    · have HC : Hid (ce (k : Int) i P = 10) := ce_far HK.out (by
        rcases Nat.lt_or_ge i (2 ^ k) with h | h
        · exact absurd (hq.symm.trans (Nat.div_eq_of_lt h)) hfar
        · exact h)
      have HZ : Hid (ch (k : Int) i h P = hz) := ch_no (by rw [HC.out]; decide)
      rw [HC.out, HZ.out]
      have hqi : 0 < (q : Int) := by omega
      clear hq hp
      go_enter Tryd.func12, Tryd.ntmps12
      go_wp2_with (refine wpList_store_mid rfl 28 _ _ rfl (w.heap.size + 2) 0 (rowV 32 hz).toArray rfl rfl ((E0.out.get 0 rfl).thereA _) (info_hash32A _) (rowV_oneA _ _) ?_)
      have EE := hide (E0.out.put 0 rfl hz)
      refine bodyPost_ret (v := .tuple #[.agg (rowV 32 hz).toArray, .int .i64 10]) ?_ rfl ⟨rfl, EE.out.below⟩
      have hlv := run_loadVar_mid (P := Tryd.prog) _ _ _ _ _ _ (EE.out.get 0 rfl).range Tryd.underlying28 rfl (info_hash32 _)
      exact results_two Tryd.results12 rfl rfl hlv
end Go.Proofs.YtjkhboejhcbdpaaDoor

/- The contract of proof.Check over this translation (written by gen-proofcheck.py). -/
namespace Go.Proofs.YtjkhboejhcbdpaaDoor
open Go.RowKit Go.Lib
attribute [local go_sem] setCell_drewN alloc_drewN eqHash

/-- What is checked, by its number. -/
def ck (d : Int) (root : Hs) (n i : Nat) (h : Hs) (P : Pf) : Int := if ce d i P = 0 then (if n ≤ i then 10 else if sameH (ch d i h P) root = true then 0 else 14) else ce d i P
theorem ret_err {a b : Int} (h : a = b) : Ending.returned (.int .i64 a) = .returned (.int .i64 b) := by rw [h]
set_option maxRecDepth 100000 in
set_option maxHeartbeats 8000000 in
theorem check_any {w : World} (d : Int) (root : Hs) (n i : Nat) (h : Hs) (P : Pf) (hd0 : -9223372036854775808 ≤ d) (hd1 : d ≤ 9223372036854775807) (hi : i ≤ 18446744073709551615) (hh : Hok h) (hP : Pok P) (ht : Tab w 1) :
    Calls Tryd.prog 14 #[.int .i64 d, .agg (rowV 32 root).toArray, .int .u64 n, .int .u64 i, .agg (rowV 32 h).toArray, .agg (rowV 1024 (pc P)).toArray] w fun e w' => e = .returned (.int .i64 (ck d root n i h P)) ∧ Below w.heap.size w w' := by
  have HT := hide ht; have HH := hide hh; have HPO := hide hP; have HD0 := hide hd0; have HD1 := hide hd1; have HI := hide hi
  have E0 : Hid (Bxs w (((w.alloc (.cells (rowV 32 root).toArray 28)).alloc (.cells (rowV 32 h).toArray 28)).alloc (.cells (rowV 1024 (pc P)).toArray 29)) [(w.heap.size + 2, 1024, pc P), (w.heap.size + 1, 32, h), (w.heap.size, 32, root)]) :=
    (((Bxs.none w).add rfl (BRow.box w 32 root _ rfl)).add (by simp) (BRow.box _ 32 h _ (by simp))).add (by simp) (BRow.box _ 1024 (pc P) _ (by simp))
  clear ht hh hP hd0 hd1 hi
  go_enter Tryd.func14, Tryd.ntmps14
  go_wp2_with (first
    | refine wpList_load_mid rfl 29 _ rfl (w.heap.size + 2) 0 rfl (rowV 1024 (pc P)) _ (E0.out.get 0 rfl).range Tryd.underlying29 rfl (info_pf _) ?_
    | refine wpList_load_mid rfl 28 _ rfl (w.heap.size + 1) 0 rfl (rowV 32 h) _ (E0.out.get 1 rfl).range Tryd.underlying28 rfl (info_hash32 _) ?_)
  generalize ((w.alloc (.cells (rowV 32 root).toArray 28)).alloc (.cells (rowV 32 h).toArray 28)).alloc (.cells (rowV 1024 (pc P)).toArray 29) = w1 at *
  refine (climb_any d i h P HD0.out HD1.out HI.out HH.out HPO.out (HT.out.below E0.out.below)).mono ?_
  rintro e w2 ⟨rfl, hb⟩
  replace E0 := hide (E0.out.after hb)
  clear hb
  obtain ⟨H, hH⟩ : ∃ H, ch d i h P = H := ⟨_, rfl⟩
  obtain ⟨c, hc⟩ : ∃ c, ce d i P = c := ⟨_, rfl⟩
  have HC := hide hc; have HHH := hide hH
  rw [hH, hc]
  have E1 : Hid (Bxs w (w2.alloc (.cells #[.int .u8 0, .int .u8 0, .int .u8 0, .int .u8 0, .int .u8 0, .int .u8 0, .int .u8 0, .int .u8 0, .int .u8 0, .int .u8 0, .int .u8 0, .int .u8 0, .int .u8 0, .int .u8 0, .int .u8 0, .int .u8 0, .int .u8 0, .int .u8 0, .int .u8 0, .int .u8 0, .int .u8 0, .int .u8 0, .int .u8 0, .int .u8 0, .int .u8 0, .int .u8 0, .int .u8 0, .int .u8 0, .int .u8 0, .int .u8 0, .int .u8 0, .int .u8 0] 28)) [(w2.heap.size, 32, fun _ => 0), (w.heap.size + 2, 1024, pc P), (w.heap.size + 1, 32, h), (w.heap.size, 32, root)]) := E0.out.new (BRow.zeros32 w2 rfl)
  have hcc : c = 0 ∨ c = 1 ∨ c = 6 ∨ c = 10 := by rw [← hc]; exact ce_cases d i P
  clear hc hH
  go_wp2_with (refine wpList_store_stop rfl 28 _ _ rfl (w2.heap.size) 0 (rowV 32 H) rfl rfl ((E1.out.get 0 rfl).thereA H) (info_hash32A H) (rowV_oneA _ _) ?_)
  intro w3 hw3
  have E : Hid (Bxs w w3 [(w2.heap.size, 32, H), (w.heap.size + 2, 1024, pc P), (w.heap.size + 1, 32, h), (w.heap.size, 32, root)]) := by
    show Bxs _ _ _
    rw [hw3.out]; exact E1.out.put 0 rfl H
  clear hw3 E1 E0
  generalize w2.heap.size = g at *
  by_cases h0 : c = 0
  · subst h0
    clear hcc
    by_cases hin : n ≤ i
    · have HR : Hid (ck d root n i h P = 10) := by show _ = _; rw [ck, if_pos HC.out, if_pos hin]
      have hini : (n : Int) ≤ (i : Int) := by omega
      go_wp2
      go_ret
      exact ⟨ret_err HR.out.symm, E.out.below⟩
    · have hini : (i : Int) < (n : Int) := by omega
      have hse := fun w => eqHash H root w
      cases hs : sameH H root with
      | true =>
        rw [hs] at hse
        have HR : Hid (ck d root n i h P = 0) := by show _ = _; rw [ck, if_pos HC.out, if_neg hin, HHH.out, if_pos hs]
        clear hs
        go_wp2_with (first
          | refine wpList_load_mid rfl 28 _ rfl (g) 0 rfl (rowV 32 H) _ (E.out.get 0 rfl).range Tryd.underlying28 rfl (info_hash32 _) ?_
          | refine wpList_load_mid rfl 28 _ rfl (w.heap.size) 0 rfl (rowV 32 root) _ (E.out.get 3 rfl).range Tryd.underlying28 rfl (info_hash32 _) ?_)
        go_ret
        exact ⟨ret_err HR.out.symm, E.out.below⟩
      | false =>
        rw [hs] at hse
        have HR : Hid (ck d root n i h P = 14) := by show _ = _; rw [ck, if_pos HC.out, if_neg hin, HHH.out, hs, if_neg (by decide)]
        clear hs
        go_wp2_with (first
          | refine wpList_load_mid rfl 28 _ rfl (g) 0 rfl (rowV 32 H) _ (E.out.get 0 rfl).range Tryd.underlying28 rfl (info_hash32 _) ?_
          | refine wpList_load_mid rfl 28 _ rfl (w.heap.size) 0 rfl (rowV 32 root) _ (E.out.get 3 rfl).range Tryd.underlying28 rfl (info_hash32 _) ?_)
        go_ret
        exact ⟨ret_err HR.out.symm, E.out.below⟩
  · have HR : Hid (ck d root n i h P = c) := by show _ = _; rw [ck, if_neg (by rw [HC.out]; exact h0), HC.out]
    go_wp2
    go_ret
    exact ⟨ret_err HR.out.symm, E.out.below⟩
end Go.Proofs.YtjkhboejhcbdpaaDoor
