/- Equality of sums (rows of 32 bytes) over this translation. -/
import Derived.Test.YtjkhboejhcbdpaaDoorBRow
namespace Go.Proofs.YtjkhboejhcbdpaaDoor
open Go.RowKit Go.Lib

/-- Are two sums alike? -/
def sameH (f f' : Nat → Int) : Bool := (List.range 32).all fun j => f j == f' j
theorem sameH_self (f : Nat → Int) : sameH f f = true := by unfold sameH; simp
theorem sameH_iff (f f' : Nat → Int) : sameH f f' = true ↔ ∀ j, j < 32 → f j = f' j := by
  unfold sameH; simp [List.all_eq_true]
theorem part_byte (f : Nat → Int) (i : Nat) (hi : i < 32) (w : World) : (part 5 (rowV 32 f).toArray (i * 1)).run Tryd.prog w = .ok (.int .u8 (f i)) w := by
  have ha : (isAgg 5).run Tryd.prog w = .ok false w := by kernel_rfl
  unfold part
  simp [ha, rowV_get hi, Sem.run_pure]
theorem eq_byte (a b : Int) (d : Nat) (w : World) : (Op.equalIn (d + 1) 5 (.int .u8 a) (.int .u8 b)).run Tryd.prog w = .ok (a == b) w := by
  rw [Op.equalIn]
  simp [run_underlying Tryd.underlying5]
theorem hash_loop (f f' : Nat → Int) (w : World) : ∀ is : List Nat, (∀ i ∈ is, i < 32) →
    (forIn is ((none : Option Bool), ()) fun i __s => do
      let __do_lift ← part 5 (rowV 32 f).toArray (i * 1)
      let __do_lift_1 ← part 5 (rowV 32 f').toArray (i * 1)
      let __do_lift ← Op.equalIn 9999 5 __do_lift __do_lift_1
      if (!__do_lift) = true then pure (ForInStep.done (some false, ())) else pure (ForInStep.yield (none, ()))).run Tryd.prog w =
    .ok (if is.all (fun j => f j == f' j) then (none, ()) else (some false, ())) w
  | [], _ => by simp [Sem.run_pure]
  | i :: r, h => by
    have hi := h i (by simp)
    simp only [List.forIn_cons, Sem.run_bind, part_byte _ i hi, Result.andThen_ok, eq_byte _ _ 9998]
    by_cases e : f i = f' i
    · simp only [e, beq_self_eq_true, Bool.not_true, Bool.false_eq_true, if_false, Sem.run_pure, Result.andThen_ok, List.all_cons, Bool.true_and]
      exact hash_loop f f' w r (fun j hj => h j (by simp [hj]))
    · have eb : (f i == f' i) = false := by simpa using e
      simp only [eb, Bool.not_false, if_true, Sem.run_pure, Result.andThen_ok, List.all_cons, Bool.false_and, Bool.false_eq_true, if_false]
theorem eqHash (f f' : Nat → Int) (w : World) : (Op.equalIn 10000 28 (.agg (rowV 32 f).toArray) (.agg (rowV 32 f').toArray)).run Tryd.prog w = .ok (sameH f f') w := by
  have hz : (sizeOf 5).run Tryd.prog w = .ok 1 w := by kernel_rfl
  rw [show (10000 : Nat) = 9999 + 1 from rfl, Op.equalIn]
  simp only [Sem.run_bind, run_underlying Tryd.underlying28, Result.andThen_ok, hz]
  simp only [Std.Legacy.Range.forIn_eq_forIn_range', Std.Legacy.Range.size, Nat.sub_zero, Nat.add_sub_cancel, Nat.div_one]
  rw [hash_loop f f' w _ (fun i hi => by have := List.mem_range'.1 hi; omega)]
  rw [show (List.range' 0 32).all (fun j => f j == f' j) = sameH f f' by unfold sameH; rw [List.range_eq_range']]
  cases sameH f f' <;> simp [Sem.run_pure]
end Go.Proofs.YtjkhboejhcbdpaaDoor
