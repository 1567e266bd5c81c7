/- Contracts of package huge's functions over this translation. -/
import Derived.Test.YtncnilplmklccaaLimb
import Derived.Test.YtncnilplmklccaaHugeMath
import Derived.Deep.RegionWith
namespace Go.Proofs.Ytncnilplmklccaa
open Go.RowKit Go.Lib

/-- A number as the four limbs that the program holds it in. -/
abbrev big (n : Int) : Value := .agg #[.int .u64 (lm n 0), .int .u64 (lm n 1), .int .u64 (lm n 2), .int .u64 (lm n 3)]

theorem ret_four {a b c d a' b' c' d' : Int} (h0 : a = a') (h1 : b = b') (h2 : c = c') (h3 : d = d') : Ending.returned (.agg #[.int .u64 a, .int .u64 b, .int .u64 c, .int .u64 d]) = .returned (.agg #[.int .u64 a', .int .u64 b', .int .u64 c', .int .u64 d']) := by rw [h0, h1, h2, h3]
theorem setCell_drewN (w : World) (n : Nat) (a : Addr) (v : Value) : (w.drewN n).setCell a v = (w.setCell a v).drewN n := rfl
theorem alloc_drewN (w : World) (n : Nat) (o : Obj) : (w.drewN n).alloc o = (w.alloc o).drewN n := rfl

theorem ret_i64 {a b : Int} (h : a = b) : Ending.returned (.int .i64 a) = .returned (.int .i64 b) := by rw [h]
theorem ret_num {n : Int} {k : Int} {a b c d : Int} (h0 : a = lm n 0) (h1 : b = lm n 1) (h2 : c = lm n 2) (h3 : d = lm n 3) : Ending.returned (.tuple #[.agg #[.int .u64 a, .int .u64 b, .int .u64 c, .int .u64 d], .int .i64 k]) = .returned (.tuple #[big n, .int .i64 k]) := by rw [h0, h1, h2, h3]

theorem unless_yes (a b c d : Int) (w : World) :
    Calls Try.prog 58 #[.bool true, .agg #[.int .u64 a, .int .u64 b, .int .u64 c, .int .u64 d]] w fun e w' => e = .returned (.tuple #[.agg #[.int .u64 0, .int .u64 0, .int .u64 0, .int .u64 0], .int .i64 2]) ∧ Below w.heap.size w w' := by
  go_enter Try.func58, Try.ntmps58
  go_wp2
  exact bodyPost_ret (v := .tuple #[.agg #[.int .u64 0, .int .u64 0, .int .u64 0, .int .u64 0], .int .i64 2]) (by simp [results, Try.results58, go_sem]) rfl ⟨rfl, ((Below.refl _ _).alloc (Nat.le_refl _) _).alloc (by simp) _⟩
theorem unless_no (a b c d : Int) (w : World) :
    Calls Try.prog 58 #[.bool false, .agg #[.int .u64 a, .int .u64 b, .int .u64 c, .int .u64 d]] w fun e w' => e = .returned (.tuple #[.agg #[.int .u64 a, .int .u64 b, .int .u64 c, .int .u64 d], .int .i64 0]) ∧ Below w.heap.size w w' := by
  go_enter Try.func58, Try.ntmps58
  go_wp2
  exact bodyPost_ret (v := .tuple #[.agg #[.int .u64 a, .int .u64 b, .int .u64 c, .int .u64 d], .int .i64 0]) (by simp [results, Try.results58, go_sem]) rfl ⟨rfl, ((Below.refl _ _).alloc (Nat.le_refl _) _).alloc (by simp) _⟩

theorem bOn {a b c : World} (h : Below a.heap.size a b) (k : Below b.heap.size b c) : Below a.heap.size a c := h.trans (k.mono h.size)
theorem bAl {a w : World} {o : Obj} (h : Below a.heap.size a w) : Below a.heap.size a (w.alloc o) := h.alloc h.size o
theorem bDn {a w : World} {n : Nat} (h : Below a.heap.size a w) : Below a.heap.size a (w.drewN n) := below_drewN h n
theorem bMe (a : World) : Below a.heap.size a a := Below.refl _ _
theorem bcell {W w1 : World} (hb : Below W.heap.size W w1) : (∀ b o, b < W.heap.size → w1.cell? ⟨b, o, none⟩ = W.cell? ⟨b, o, none⟩) ∧ (∀ b o, b < W.heap.size → w1.frozen? ⟨b, o, none⟩ = W.frozen? ⟨b, o, none⟩) :=
  ⟨fun b o h => hb.cell (p := ⟨b, o, none⟩) h, fun b o h => hb.frozen (p := ⟨b, o, none⟩) h⟩
/-- Block g of w holds four limbs. -/
structure Lims (w : World) (g : Nat) (a b c d : Int) : Prop where
  lt : g < w.heap.size
  c0 : w.cell? ⟨g, 0, none⟩ = some (.int .u64 a)
  c1 : w.cell? ⟨g, 1, none⟩ = some (.int .u64 b)
  c2 : w.cell? ⟨g, 2, none⟩ = some (.int .u64 c)
  c3 : w.cell? ⟨g, 3, none⟩ = some (.int .u64 d)
theorem Lims.dn {w : World} {g : Nat} {a b c d : Int} (h : Lims w g a b c d) (n : Nat) : Lims (w.drewN n) g a b c d := ⟨h.lt, h.c0, h.c1, h.c2, h.c3⟩
theorem Lims.below {w w' : World} {g : Nat} {a b c d : Int} (h : Lims w g a b c d) (hb : Below w.heap.size w w') : Lims w' g a b c d :=
  ⟨Nat.lt_of_lt_of_le h.lt hb.size, (hb.cell (p := ⟨g, 0, none⟩) h.lt).trans h.c0, (hb.cell (p := ⟨g, 1, none⟩) h.lt).trans h.c1, (hb.cell (p := ⟨g, 2, none⟩) h.lt).trans h.c2, (hb.cell (p := ⟨g, 3, none⟩) h.lt).trans h.c3⟩
theorem Lims.new (w : World) (a b c d : Int) (t : TypeId) : Lims (w.alloc (.cells #[.int .u64 a, .int .u64 b, .int .u64 c, .int .u64 d] t)) w.heap.size a b c d :=
  ⟨by simp, by simp [go_sem], by simp [go_sem], by simp [go_sem], by simp [go_sem]⟩
theorem Lims.past {w : World} {g : Nat} {a b c d : Int} (h : Lims w g a b c d) (o : Obj) : Lims (w.alloc o) g a b c d := h.below (bAl (bMe w))
/-- Are two rows of limbs alike? -/
def same4 (a0 a1 a2 a3 b0 b1 b2 b3 : Int) : Bool := a0 == b0 && a1 == b1 && a2 == b2 && a3 == b3
theorem eqInt (a0 a1 a2 a3 b0 b1 b2 b3 : Int) (w : World) : (Op.equalIn 10000 55 (.agg #[.int .u64 a0, .int .u64 a1, .int .u64 a2, .int .u64 a3]) (.agg #[.int .u64 b0, .int .u64 b1, .int .u64 b2, .int .u64 b3])).run Try.prog w = .ok (same4 a0 a1 a2 a3 b0 b1 b2 b3) w := by
  unfold same4
  have u3 := Try.underlying23
  have a3' := Try.isAgg23
  have z3 := Try.sizeOf23
  rw [show (10000 : Nat) = 9999 + 1 from rfl, Op.equalIn]
  simp only [Sem.run_bind, run_underlying Try.underlying55, Result.andThen_ok]
  simp only [Std.Legacy.Range.forIn_eq_forIn_range', Std.Legacy.Range.size, Nat.sub_zero, Nat.add_sub_cancel, Nat.div_one, List.range'_succ, List.range'_zero, List.forIn_cons, List.forIn_nil]
  go_simp
  by_cases h0 : a0 = b0 <;> by_cases h1 : a1 = b1 <;> by_cases h2 : a2 = b2 <;> by_cases h3 : a3 = b3 <;> simp [h0, h1, h2, h3]
theorem big_eq {a b : Int} (ha : In a) (hb : In b) : same4 (lm a 0) (lm a 1) (lm a 2) (lm a 3) (lm b 0) (lm b 1) (lm b 2) (lm b 3) = decide (a = b) := by
  unfold same4
  rw [Bool.eq_iff_iff]
  simp only [Bool.and_eq_true, beq_iff_eq, decide_eq_true_eq]
  constructor
  · rintro ⟨⟨⟨h0, h1⟩, h2⟩, h3⟩; exact lm_inj ha hb h0 h1 h2 h3
  · rintro rfl; exact ⟨⟨⟨rfl, rfl⟩, rfl⟩, rfl⟩
theorem idx0 (a b c d : Value) (w : World) : (Instr.index 55 (.agg #[a, b, c, d]) (.int .i64 0)).run Try.prog w = .ok a w := by kernel_rfl
theorem idx1 (a b c d : Value) (w : World) : (Instr.index 55 (.agg #[a, b, c, d]) (.int .i64 1)).run Try.prog w = .ok b w := by kernel_rfl
theorem idx2 (a b c d : Value) (w : World) : (Instr.index 55 (.agg #[a, b, c, d]) (.int .i64 2)).run Try.prog w = .ok c w := by kernel_rfl
theorem idx3 (a b c d : Value) (w : World) : (Instr.index 55 (.agg #[a, b, c, d]) (.int .i64 3)).run Try.prog w = .ok d w := by kernel_rfl
theorem ret_num0 (k : Int) : Ending.returned (.tuple #[.agg #[.int .u64 0, .int .u64 0, .int .u64 0, .int .u64 0], .int .i64 k]) = .returned (.tuple #[big 0, .int .i64 k]) := ret_num (lm_zero 0).symm (lm_zero 1).symm (lm_zero 2).symm (lm_zero 3).symm
end Go.Proofs.Ytncnilplmklccaa
