/- Equality of events over this translation. -/
import Derived.Test.YtajkdbpojeaflaaEvt
import Derived.Laws.StructEq
namespace Go.Proofs.Ytajkdbpojeaflaa
open Go.RowKit Go.Lib

theorem hash_loopE (d : Nat) (f f' : Nat → Int) (w : World) : ∀ is : List Nat, (∀ i ∈ is, i < 32) →
    (forIn is ((none : Option Bool), ()) fun i __s => do
      let __do_lift ← part 5 (rowV 32 f).toArray (i * 1)
      let __do_lift_1 ← part 5 (rowV 32 f').toArray (i * 1)
      let __do_lift ← Op.equalIn (d + 1) 5 __do_lift __do_lift_1
      if (!__do_lift) = true then pure (ForInStep.done (some false, ())) else pure (ForInStep.yield (none, ()))).run Try.prog w =
    .ok (if is.all (fun j => f j == f' j) then (none, ()) else (some false, ())) w
  | [], _ => by simp [Sem.run_pure]
  | i :: r, h => by
    have hi := h i (by simp)
    simp only [List.forIn_cons, Sem.run_bind, part_byte _ i hi, Result.andThen_ok, eq_byte _ _ d]
    by_cases e : f i = f' i
    · simp only [e, beq_self_eq_true, Bool.not_true, Bool.false_eq_true, if_false, Sem.run_pure, Result.andThen_ok, List.all_cons, Bool.true_and]
      exact hash_loopE d f f' w r (fun j hj => h j (by simp [hj]))
    · have eb : (f i == f' i) = false := by simpa using e
      simp only [eb, Bool.not_false, if_true, Sem.run_pure, Result.andThen_ok, List.all_cons, Bool.false_and, Bool.false_eq_true, if_false]
theorem eqHashE (d : Nat) (f f' : Nat → Int) (w : World) : (Op.equalIn (d + 2) 32 (.agg (rowV 32 f).toArray) (.agg (rowV 32 f').toArray)).run Try.prog w = .ok (sameH f f') w := by
  have hz : (sizeOf 5).run Try.prog w = .ok 1 w := by kernel_rfl
  rw [Op.equalIn]
  simp only [Sem.run_bind, run_underlying Try.underlying32, Result.andThen_ok, hz]
  simp only [Std.Legacy.Range.forIn_eq_forIn_range', Std.Legacy.Range.size, Nat.sub_zero, Nat.add_sub_cancel, Nat.div_one]
  rw [hash_loopE d f f' w _ (fun i hi => by have := List.mem_range'.1 hi; omega)]
  rw [show (List.range' 0 32).all (fun j => f j == f' j) = sameH f f' by unfold sameH; rw [List.range_eq_range']]
  cases sameH f f' <;> simp [Sem.run_pure]
theorem eqIntE (k : Nat) (a0 a1 a2 a3 b0 b1 b2 b3 : Int) (w : World) : (Op.equalIn (k + 2) 34 (.agg #[.int .u64 a0, .int .u64 a1, .int .u64 a2, .int .u64 a3]) (.agg #[.int .u64 b0, .int .u64 b1, .int .u64 b2, .int .u64 b3])).run Try.prog w = .ok (same4 a0 a1 a2 a3 b0 b1 b2 b3) w := by
  unfold same4
  have u3 := Try.underlying30
  have a3' := Try.isAgg30
  have z3 := Try.sizeOf30
  rw [Op.equalIn]
  simp only [Sem.run_bind, run_underlying Try.underlying34, Result.andThen_ok]
  simp only [Std.Legacy.Range.forIn_eq_forIn_range', Std.Legacy.Range.size, Nat.sub_zero, Nat.add_sub_cancel, Nat.div_one, List.range'_succ, List.range'_zero, List.forIn_cons, List.forIn_nil]
  go_simp
  by_cases h0 : a0 = b0 <;> by_cases h1 : a1 = b1 <;> by_cases h2 : a2 = b2 <;> by_cases h3 : a3 = b3 <;> simp [h0, h1, h2, h3]
theorem eqF_consE (d : Nat) (xs ys : Array Value) (w : World) (f : Field) (fs : List Field) {a b : Value} {e : Bool} (hn : (f.name == "_") = false) (h1 : (part f.type xs f.offset).run Try.prog w = .ok a w) (h2 : (part f.type ys f.offset).run Try.prog w = .ok b w) (h3 : (Op.equalIn d f.type a b).run Try.prog w = .ok e w) {r : Bool} (hr : (Op.eqFields d xs ys fs).run Try.prog w = .ok r w) :
    (Op.eqFields d xs ys (f :: fs)).run Try.prog w = .ok (e && r) w := by
  have hn' : f.name ≠ "_" := by simpa using hn
  unfold Op.eqFields
  rw [if_pos hn']
  simp only [Sem.run_bind, h1, h2, h3, Result.andThen_ok]
  cases e <;> simp [hr]
/-- Are two events alike? -/
def sameE (x y : Evt) : Bool := x.k == y.k && (x.b == y.b && (sameH x.h y.h && (x.s == y.s && (x.t == y.t && (x.f == y.f && (x.u == y.u && (same4 (lm x.a 0) (lm x.a 1) (lm x.a 2) (lm x.a 3) (lm y.a 0) (lm y.a 1) (lm y.a 2) (lm y.a 3) && (same4 (lm x.c 0) (lm x.c 1) (lm x.c 2) (lm x.c 3) (lm y.c 0) (lm y.c 1) (lm y.c 2) (lm y.c 3) && x.n == y.n))))))))
theorem sameE_iff {x y : Evt} (hx : x.Ok) (hy : y.Ok) : sameE x y = true ↔ x = y := by
  unfold sameE
  rw [big_eq hx.a hy.a, big_eq hx.c hy.c]
  constructor
  · intro h
    simp only [Bool.and_eq_true, beq_iff_eq, decide_eq_true_eq] at h
    obtain ⟨h1, h2, h3, h4, h5, h6, h7, h8, h9, h10⟩ := h
    have hh : x.h = y.h := by
      funext j
      by_cases hj : j < 32
      · exact (sameH_iff _ _).1 h3 j hj
      · rw [hx.z j (by omega), hy.z j (by omega)]
    obtain ⟨a1, a2, a3, a4, a5, a6, a7, a8, a9, a10⟩ := x
    obtain ⟨b1, b2, b3, b4, b5, b6, b7, b8, b9, b10⟩ := y
    simp only at h1 h2 hh h4 h5 h6 h7 h8 h9 h10
    subst h1 h2 hh h4 h5 h6 h7 h8 h9 h10
    rfl
  · rintro rfl
    simp [sameH_self]
theorem ten_fields (l : List Field) (h : l.length = 10) : ∃ a b c d e f g i j k, l = [a, b, c, d, e, f, g, i, j, k] := by
  match l, h with
  | [a, b, c, d, e, f, g, i, j, k], _ => exact ⟨a, b, c, d, e, f, g, i, j, k, rfl⟩
theorem partE_k (x : Evt) (w : World) : (part 5 (ec x).toArray 0).run Try.prog w = .ok (.int .u8 x.k) w := by kernel_rfl
theorem partE_b (x : Evt) (w : World) : (part 30 (ec x).toArray 1).run Try.prog w = .ok (.int .u64 x.b) w := by kernel_rfl
theorem partE_h (x : Evt) (w : World) : (part 32 (ec x).toArray 2).run Try.prog w = .ok (.agg (rowV 32 x.h).toArray) w := by kernel_rfl
theorem partE_s (x : Evt) (w : World) : (part 5 (ec x).toArray 34).run Try.prog w = .ok (.int .u8 x.s) w := by kernel_rfl
theorem partE_t (x : Evt) (w : World) : (part 5 (ec x).toArray 35).run Try.prog w = .ok (.int .u8 x.t) w := by kernel_rfl
theorem partE_f (x : Evt) (w : World) : (part 5 (ec x).toArray 36).run Try.prog w = .ok (.int .u8 x.f) w := by kernel_rfl
theorem partE_u (x : Evt) (w : World) : (part 5 (ec x).toArray 37).run Try.prog w = .ok (.int .u8 x.u) w := by kernel_rfl
theorem partE_a (x : Evt) (w : World) : (part 34 (ec x).toArray 38).run Try.prog w = .ok (big x.a) w := by kernel_rfl
theorem partE_c (x : Evt) (w : World) : (part 34 (ec x).toArray 42).run Try.prog w = .ok (big x.c) w := by kernel_rfl
theorem partE_n (x : Evt) (w : World) : (part 35 (ec x).toArray 46).run Try.prog w = .ok (.int .u32 x.n) w := by kernel_rfl
theorem evR_fields : Try.prog.underlying 37 = some (.struct (Try.prog.fieldsOf 37)) := by kernel_rfl
theorem evR_held : Try.prog.stoodInHeld 37 = false := by kernel_rfl
theorem evR_list : ((Try.prog.fieldsOf 37).toList.map fun f => (f.name == "_", f.type, f.offset)) = [(false, 5, 0), (false, 30, 1), (false, 32, 2), (false, 5, 34), (false, 5, 35), (false, 5, 36), (false, 5, 37), (false, 34, 38), (false, 34, 42), (false, 35, 46)] := by kernel_rfl
theorem eqEvtR (x y : Evt) (w : World) : (Op.equalIn 10000 37 (evV x) (evV y)).run Try.prog w = .ok (sameE x y) w := by
  rw [show (10000 : Nat) = 9999 + 1 from rfl, run_equalIn_struct w 9999 37 _ _ evR_fields evR_held]
  have hl := evR_list
  generalize (Try.prog.fieldsOf 37).toList = fs at hl ⊢
  obtain ⟨f0, f1, f2, f3, f4, f5, f6, f7, f8, f9, rfl⟩ := ten_fields fs (by have := congrArg List.length hl; simpa using this)
  simp only [List.map_cons, List.map_nil, List.cons.injEq, Prod.mk.injEq, and_true] at hl
  obtain ⟨⟨n0, t0, o0⟩, ⟨n1, t1, o1⟩, ⟨n2, t2, o2⟩, ⟨n3, t3, o3⟩, ⟨n4, t4, o4⟩, ⟨n5, t5, o5⟩, ⟨n6, t6, o6⟩, ⟨n7, t7, o7⟩, ⟨n8, t8, o8⟩, n9, t9, o9⟩ := hl
  have h9 := eqF_consE 9999 (ec x).toArray (ec y).toArray w f9 [] n9 (by rw [t9, o9]; exact partE_n x w) (by rw [t9, o9]; exact partE_n y w) (by rw [t9]; exact run_equalIn_int w 9998 _ .u32 .u32 _ _ Try.underlying35) (r := true) rfl
  have h8 := eqF_consE 9999 (ec x).toArray (ec y).toArray w f8 [f9] n8 (by rw [t8, o8]; exact partE_c x w) (by rw [t8, o8]; exact partE_c y w) (by rw [t8]; exact eqIntE 9997 ..) h9
  have h7 := eqF_consE 9999 (ec x).toArray (ec y).toArray w f7 [f8, f9] n7 (by rw [t7, o7]; exact partE_a x w) (by rw [t7, o7]; exact partE_a y w) (by rw [t7]; exact eqIntE 9997 ..) h8
  have h6 := eqF_consE 9999 (ec x).toArray (ec y).toArray w f6 [f7, f8, f9] n6 (by rw [t6, o6]; exact partE_u x w) (by rw [t6, o6]; exact partE_u y w) (by rw [t6]; exact run_equalIn_int w 9998 _ .u8 .u8 _ _ Try.underlying5) h7
  have h5 := eqF_consE 9999 (ec x).toArray (ec y).toArray w f5 [f6, f7, f8, f9] n5 (by rw [t5, o5]; exact partE_f x w) (by rw [t5, o5]; exact partE_f y w) (by rw [t5]; exact run_equalIn_int w 9998 _ .u8 .u8 _ _ Try.underlying5) h6
  have h4 := eqF_consE 9999 (ec x).toArray (ec y).toArray w f4 [f5, f6, f7, f8, f9] n4 (by rw [t4, o4]; exact partE_t x w) (by rw [t4, o4]; exact partE_t y w) (by rw [t4]; exact run_equalIn_int w 9998 _ .u8 .u8 _ _ Try.underlying5) h5
  have h3 := eqF_consE 9999 (ec x).toArray (ec y).toArray w f3 [f4, f5, f6, f7, f8, f9] n3 (by rw [t3, o3]; exact partE_s x w) (by rw [t3, o3]; exact partE_s y w) (by rw [t3]; exact run_equalIn_int w 9998 _ .u8 .u8 _ _ Try.underlying5) h4
  have h2 := eqF_consE 9999 (ec x).toArray (ec y).toArray w f2 [f3, f4, f5, f6, f7, f8, f9] n2 (by rw [t2, o2]; exact partE_h x w) (by rw [t2, o2]; exact partE_h y w) (by rw [t2]; exact eqHashE 9997 ..) h3
  have h1 := eqF_consE 9999 (ec x).toArray (ec y).toArray w f1 [f2, f3, f4, f5, f6, f7, f8, f9] n1 (by rw [t1, o1]; exact partE_b x w) (by rw [t1, o1]; exact partE_b y w) (by rw [t1]; exact run_equalIn_int w 9998 _ .u64 .u64 _ _ Try.underlying30) h2
  have h0 := eqF_consE 9999 (ec x).toArray (ec y).toArray w f0 [f1, f2, f3, f4, f5, f6, f7, f8, f9] n0 (by rw [t0, o0]; exact partE_k x w) (by rw [t0, o0]; exact partE_k y w) (by rw [t0]; exact run_equalIn_int w 9998 _ .u8 .u8 _ _ Try.underlying5) h1
  rw [h0]
  unfold sameE
  simp only [Bool.and_true]
theorem evE_fields : Try.prog.underlying 40 = some (.struct (Try.prog.fieldsOf 40)) := by kernel_rfl
theorem evE_held : Try.prog.stoodInHeld 40 = false := by kernel_rfl
theorem evE_list : ((Try.prog.fieldsOf 40).toList.map fun f => (f.name == "_", f.type, f.offset)) = [(false, 5, 0), (false, 30, 1), (false, 32, 2), (false, 5, 34), (false, 5, 35), (false, 5, 36), (false, 5, 37), (false, 34, 38), (false, 34, 42), (false, 35, 46)] := by kernel_rfl
theorem eqEvtE (x y : Evt) (w : World) : (Op.equalIn 10000 40 (evV x) (evV y)).run Try.prog w = .ok (sameE x y) w := by
  rw [show (10000 : Nat) = 9999 + 1 from rfl, run_equalIn_struct w 9999 40 _ _ evE_fields evE_held]
  have hl := evE_list
  generalize (Try.prog.fieldsOf 40).toList = fs at hl ⊢
  obtain ⟨f0, f1, f2, f3, f4, f5, f6, f7, f8, f9, rfl⟩ := ten_fields fs (by have := congrArg List.length hl; simpa using this)
  simp only [List.map_cons, List.map_nil, List.cons.injEq, Prod.mk.injEq, and_true] at hl
  obtain ⟨⟨n0, t0, o0⟩, ⟨n1, t1, o1⟩, ⟨n2, t2, o2⟩, ⟨n3, t3, o3⟩, ⟨n4, t4, o4⟩, ⟨n5, t5, o5⟩, ⟨n6, t6, o6⟩, ⟨n7, t7, o7⟩, ⟨n8, t8, o8⟩, n9, t9, o9⟩ := hl
  have h9 := eqF_consE 9999 (ec x).toArray (ec y).toArray w f9 [] n9 (by rw [t9, o9]; exact partE_n x w) (by rw [t9, o9]; exact partE_n y w) (by rw [t9]; exact run_equalIn_int w 9998 _ .u32 .u32 _ _ Try.underlying35) (r := true) rfl
  have h8 := eqF_consE 9999 (ec x).toArray (ec y).toArray w f8 [f9] n8 (by rw [t8, o8]; exact partE_c x w) (by rw [t8, o8]; exact partE_c y w) (by rw [t8]; exact eqIntE 9997 ..) h9
  have h7 := eqF_consE 9999 (ec x).toArray (ec y).toArray w f7 [f8, f9] n7 (by rw [t7, o7]; exact partE_a x w) (by rw [t7, o7]; exact partE_a y w) (by rw [t7]; exact eqIntE 9997 ..) h8
  have h6 := eqF_consE 9999 (ec x).toArray (ec y).toArray w f6 [f7, f8, f9] n6 (by rw [t6, o6]; exact partE_u x w) (by rw [t6, o6]; exact partE_u y w) (by rw [t6]; exact run_equalIn_int w 9998 _ .u8 .u8 _ _ Try.underlying5) h7
  have h5 := eqF_consE 9999 (ec x).toArray (ec y).toArray w f5 [f6, f7, f8, f9] n5 (by rw [t5, o5]; exact partE_f x w) (by rw [t5, o5]; exact partE_f y w) (by rw [t5]; exact run_equalIn_int w 9998 _ .u8 .u8 _ _ Try.underlying5) h6
  have h4 := eqF_consE 9999 (ec x).toArray (ec y).toArray w f4 [f5, f6, f7, f8, f9] n4 (by rw [t4, o4]; exact partE_t x w) (by rw [t4, o4]; exact partE_t y w) (by rw [t4]; exact run_equalIn_int w 9998 _ .u8 .u8 _ _ Try.underlying5) h5
  have h3 := eqF_consE 9999 (ec x).toArray (ec y).toArray w f3 [f4, f5, f6, f7, f8, f9] n3 (by rw [t3, o3]; exact partE_s x w) (by rw [t3, o3]; exact partE_s y w) (by rw [t3]; exact run_equalIn_int w 9998 _ .u8 .u8 _ _ Try.underlying5) h4
  have h2 := eqF_consE 9999 (ec x).toArray (ec y).toArray w f2 [f3, f4, f5, f6, f7, f8, f9] n2 (by rw [t2, o2]; exact partE_h x w) (by rw [t2, o2]; exact partE_h y w) (by rw [t2]; exact eqHashE 9997 ..) h3
  have h1 := eqF_consE 9999 (ec x).toArray (ec y).toArray w f1 [f2, f3, f4, f5, f6, f7, f8, f9] n1 (by rw [t1, o1]; exact partE_b x w) (by rw [t1, o1]; exact partE_b y w) (by rw [t1]; exact run_equalIn_int w 9998 _ .u64 .u64 _ _ Try.underlying30) h2
  have h0 := eqF_consE 9999 (ec x).toArray (ec y).toArray w f0 [f1, f2, f3, f4, f5, f6, f7, f8, f9] n0 (by rw [t0, o0]; exact partE_k x w) (by rw [t0, o0]; exact partE_k y w) (by rw [t0]; exact run_equalIn_int w 9998 _ .u8 .u8 _ _ Try.underlying5) h1
  rw [h0]
  unfold sameE
  simp only [Bool.and_true]
theorem neqEvtR (x y : Evt) (w : World) : (binOp .neq 37 (evV x) (evV y)).run Try.prog w = .ok (.bool (!(sameE x y))) w := by
  simp only [binOp]
  rw [Sem.run_bind]
  show ((Op.equalIn 10000 37 (evV x) (evV y)).run Try.prog w).andThen _ = _
  rw [eqEvtR]
  rfl
theorem neqEvtE (x y : Evt) (w : World) : (binOp .neq 40 (evV x) (evV y)).run Try.prog w = .ok (.bool (!(sameE x y))) w := by
  simp only [binOp]
  rw [Sem.run_bind]
  show ((Op.equalIn 10000 40 (evV x) (evV y)).run Try.prog w).andThen _ = _
  rw [eqEvtE]
  rfl
theorem guardEvtR (xo yo : Operand) (x y : Evt) (w : World) : (eqGuard .neq 37 xo yo (evV x) (evV y)).run Try.prog w = .ok () w := by kernel_rfl
theorem exec_neqR (ρ : Operand → Value) (o : Oper) (xo yo : Operand) (ho : o.op = .binOp .neq 37 xo yo 37) (x y : Evt) (hx : ρ xo = evV x) (hy : ρ yo = evV y) (w : World) : (execOp ρ o).run Try.prog w = .ok (.value (.bool (!(sameE x y)))) w := by
  unfold execOp
  simp only [ho, hx, hy, Sem.run_bind, guardEvtR, neqEvtR, Result.andThen_ok, Sem.run_pure]
theorem guardEvtE (xo yo : Operand) (x y : Evt) (w : World) : (eqGuard .neq 40 xo yo (evV x) (evV y)).run Try.prog w = .ok () w := by kernel_rfl
theorem exec_neqE (ρ : Operand → Value) (o : Oper) (xo yo : Operand) (ho : o.op = .binOp .neq 40 xo yo 40) (x y : Evt) (hx : ρ xo = evV x) (hy : ρ yo = evV y) (w : World) : (execOp ρ o).run Try.prog w = .ok (.value (.bool (!(sameE x y)))) w := by
  unfold execOp
  simp only [ho, hx, hy, Sem.run_bind, guardEvtE, neqEvtE, Result.andThen_ok, Sem.run_pure]
end Go.Proofs.Ytajkdbpojeaflaa
