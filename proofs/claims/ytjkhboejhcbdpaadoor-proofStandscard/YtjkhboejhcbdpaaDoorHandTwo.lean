/- Operations of an ordered region run one by one, by hand: equality of sums and of proofs, and what a guard says. A region that draws its order, by hand, under a condition on the world that hangs on what has come up: loads ahead of stores into the same cells (written by gen-handt.py). A region that draws its order and makes two boxes for sums, in whatever order: one way. -/
import Derived.Test.YtjkhboejhcbdpaaDoorProofEq
import Derived.Deep.RegionHeld
import Derived.Below
import Derived.Test.YtjkhboejhcbdpaaDoorHide
import Derived.Test.YtjkhboejhcbdpaaDoorDigSum
/- Operations of an ordered region run one by one, by hand: equality of sums and of proofs, and what a guard says. -/
namespace Go.Proofs.YtjkhboejhcbdpaaDoor
open Go.RowKit Go.Lib

/-- An operation that its guard wants (or that has none), by its run. -/
theorem wpList_run {ops : Array Oper} {rest : List Oper} {o : Oper} {a : Act} {w : World} {Q : Exit → Act → World → Prop} (v : Value) (hw : Region.wanted o (yielded ops a.tmps) = true) (hr : (execOp a.eval o).run Tryd.prog w = .ok (.value v) w)
    (h : wpList Tryd.prog ops Q rest (a.put o.dst v) w) : wpList Tryd.prog ops Q (o :: rest) a w :=
  wpList_step fun K hK => by
    rw [if_pos hw]
    unfold Oper.wp
    rw [hr]
    exact hK _ _ h
/-- An operation that its guard doesn't want. -/
theorem wpList_no {ops : Array Oper} {rest : List Oper} {o : Oper} {a : Act} {w : World} {Q : Exit → Act → World → Prop} (hw : Region.wanted o (yielded ops a.tmps) = false)
    (h : wpList Tryd.prog ops Q rest (a.put o.dst undef) w) : wpList Tryd.prog ops Q (o :: rest) a w := Go.wpList_skip hw h
theorem neqH (x y : Hs) (w : World) : (binOp .neq 28 (.agg (rowV 32 x).toArray) (.agg (rowV 32 y).toArray)).run Tryd.prog w = .ok (.bool (!(sameH x y))) w := by
  simp only [binOp]
  rw [Sem.run_bind]
  show ((Op.equalIn 10000 28 _ _).run Tryd.prog w).andThen _ = _
  rw [eqHash]
  rfl
theorem eqlH (x y : Hs) (w : World) : (binOp .eql 28 (.agg (rowV 32 x).toArray) (.agg (rowV 32 y).toArray)).run Tryd.prog w = .ok (.bool (sameH x y)) w := by
  simp only [binOp]
  rw [Sem.run_bind]
  show ((Op.equalIn 10000 28 _ _).run Tryd.prog w).andThen _ = _
  rw [eqHash]
  rfl
theorem eqlP (x y : Pf) (w : World) : (binOp .eql 29 (.agg (rowV 1024 (pc x)).toArray) (.agg (rowV 1024 (pc y)).toArray)).run Tryd.prog w = .ok (.bool (sameP x y)) w := by
  simp only [binOp]
  rw [Sem.run_bind]
  show ((Op.equalIn 10000 29 _ _).run Tryd.prog w).andThen _ = _
  rw [eqProof]
  rfl
theorem guardNH (xo yo : Operand) (x y : Array Value) (w : World) : (eqGuard .neq 28 xo yo (.agg x) (.agg y)).run Tryd.prog w = .ok () w := by kernel_rfl
theorem guardEH (xo yo : Operand) (x y : Array Value) (w : World) : (eqGuard .eql 28 xo yo (.agg x) (.agg y)).run Tryd.prog w = .ok () w := by kernel_rfl
theorem guardEP (xo yo : Operand) (x y : Array Value) (w : World) : (eqGuard .eql 29 xo yo (.agg x) (.agg y)).run Tryd.prog w = .ok () w := by kernel_rfl
theorem exec_neqH {ρ : Operand → Value} {o : Oper} {xo yo : Operand} {x y : Hs} {w : World} {b : Bool} (e : sameH x y = b) (ho : o.op = .binOp .neq 28 xo yo 28) (hx : ρ xo = .agg (rowV 32 x).toArray) (hy : ρ yo = .agg (rowV 32 y).toArray) :
    (execOp ρ o).run Tryd.prog w = .ok (.value (.bool (!b))) w := by
  unfold execOp
  simp only [ho, hx, hy, Sem.run_bind, guardNH, neqH, e, Result.andThen_ok, Sem.run_pure]
theorem exec_eqlH {ρ : Operand → Value} {o : Oper} {xo yo : Operand} {x y : Hs} {w : World} {b : Bool} (e : sameH x y = b) (ho : o.op = .binOp .eql 28 xo yo 28) (hx : ρ xo = .agg (rowV 32 x).toArray) (hy : ρ yo = .agg (rowV 32 y).toArray) :
    (execOp ρ o).run Tryd.prog w = .ok (.value (.bool b)) w := by
  unfold execOp
  simp only [ho, hx, hy, Sem.run_bind, guardEH, eqlH, e, Result.andThen_ok, Sem.run_pure]
theorem exec_eqlP {ρ : Operand → Value} {o : Oper} {xo yo : Operand} {x y : Pf} {w : World} {b : Bool} (e : sameP x y = b) (ho : o.op = .binOp .eql 29 xo yo 29) (hx : ρ xo = .agg (rowV 1024 (pc x)).toArray) (hy : ρ yo = .agg (rowV 1024 (pc y)).toArray) :
    (execOp ρ o).run Tryd.prog w = .ok (.value (.bool b)) w := by
  unfold execOp
  simp only [ho, hx, hy, Sem.run_bind, guardEP, eqlP, e, Result.andThen_ok, Sem.run_pure]
end Go.Proofs.YtjkhboejhcbdpaaDoor

/- A region that draws its order, by hand, under a condition on the world that hangs on what has come up: loads ahead of stores into the same cells (written by gen-handt.py). -/
namespace Go.Proofs.YtjkhboejhcbdpaaDoor
open Go.RowKit

section
variable {P : Program} {ops : Array Oper} {Q : Exit → Act → World → Prop} {md : Region.Mode} {T : Array Bool → World → Prop}
/-- Whatever order is picked from here on, and T holds behind each operation, of what has come up till then. -/
def wpAnyT (P : Program) (md : Region.Mode) (ops : Array Oper) (Q : Exit → Act → World → Prop) (T : Array Bool → World → Prop) : Nat → Array Bool → Act → World → Prop
  | 0, listed, a, w => Region.ready md ops listed = [] ∧ Q .normal a w
  | fuel + 1, listed, a, w =>
    (Region.ready md ops listed = [] → Q .normal a w) ∧
    ∀ i ∈ Region.ready md ops listed, wpOp P ops Q i (fun a' w' => T (listed.setIfInBounds i true) w' ∧ wpAnyT P md ops Q T fuel (listed.setIfInBounds i true) a' w') a w
theorem wpAny_ofT : ∀ (fuel : Nat) (listed : Array Bool) (a : Act) (w : World), wpAnyT P md ops Q T fuel listed a w → wpAny P md ops Q fuel listed a w
  | 0, _, _, _, h => h
  | fuel + 1, _, _, _, h => ⟨h.1, fun i hi => wpOp_mono (fun _ _ h' => wpAny_ofT fuel _ _ _ h'.2) (h.2 i hi)⟩
/-- Does operation k wait for operation i? -/
def waits (md : Region.Mode) (ops : Array Oper) (k i : Nat) : Bool := match ops[k]? with
  | some o => o.after.any fun e => Region.binds md e && e.on == i
  | none => false
theorem waits_not {listed : Array Bool} {i j k : Nat} (hw : waits md ops k i = true) (hj : j ∈ Region.ready md ops listed) (hi : i ∈ Region.ready md ops listed) : j ≠ k := by
  rintro rfl
  obtain ⟨_, oj, hoj, hall⟩ := mem_ready.1 hj
  unfold waits at hw
  rw [hoj] at hw
  obtain ⟨e, he, hb⟩ := Array.any_eq_true'.1 hw
  simp only [Bool.and_eq_true, beq_iff_eq] at hb
  have h1 := hall e he hb.1
  have h0 := (mem_ready.1 hi).1
  rw [hb.2] at h1
  rcases Nat.lt_or_ge i listed.size with h' | h'
  · simp [h'] at h0 h1; rw [h0] at h1; cases h1
  · simp [Array.getElem?_eq_none h'] at h1
theorem wpAnyT_first {S : World → Prop} {i k : Nat} {oi : Oper} {v : Value} (hw : k = i ∨ waits md ops k i = true) (soon : ∀ l w, (k = i ∨ l.getD k true = false) → T l w → S w) (stays : ∀ l w, T (l.setIfInBounds i true) w ↔ T l w)
    (hi : ops[i]? = some oi) (hsel : ∀ (j : Nat) (o : Oper) cs b, ops[j]? = some o → o.op ≠ .select cs b)
    (hQ : ∀ c a w, Q (.panic c) (a.put oi.dst v) w → Q (.panic c) a w) :
    ∀ (fuel : Nat) (listed : Array Bool) (a : Act) (w : World),
      (∀ j oj, ops[j]? = some oj → j ≠ i → listed.getD j true = false → (∀ e ∈ oj.after, Region.binds md e = true → e.on ≠ i) → oi.apart ops oj = true) →
      i ∈ Region.ready md ops listed → YieldsIf P ops S oi v a → (k = i ∨ listed.getD k true = false) → T listed w →
      wpAnyT P md ops Q T fuel (listed.setIfInBounds i true) (a.put oi.dst v) w → wpAnyT P md ops Q T (fuel + 1) listed a w := by
  intro fuel
  induction fuel with
  | zero =>
    intro listed a w _ hr hy hk hT H
    refine ⟨fun h => (by rw [h] at hr; cases hr), fun j hj => ?_⟩
    by_cases hji : j = i
    · subst hji; exact hy.wpOp hi (soon _ _ hk hT) ⟨(stays _ _).2 hT, H⟩
    · have := ready_mono hj hji
      rw [H.1] at this
      cases this
  | succ fuel ih =>
    intro listed a w hfree hr hy hk hT H
    refine ⟨fun h => (by rw [h] at hr; cases hr), fun j hj => ?_⟩
    by_cases hji : j = i
    · subst hji; exact hy.wpOp hi (soon _ _ hk hT) ⟨(stays _ _).2 hT, H⟩
    · have h1 := H.2 j (ready_mono hj hji)
      obtain ⟨hjun, oj, hoj, hall⟩ := mem_ready.1 hj
      have hnot : ∀ e ∈ oj.after, Region.binds md e = true → e.on ≠ i := fun e he hb heq => by
        have h1 := hall e he hb
        have h0 := (mem_ready.1 hr).1
        rw [heq] at h1
        rcases Nat.lt_or_ge i listed.size with h' | h'
        · simp [h'] at h0 h1; rw [h0] at h1; cases h1
        · simp [Array.getElem?_eq_none h'] at h1
      have h2 := wpOp_putIf hoj (hfree j oj hoj hji hjun hnot) (fun cs b => hsel i oi cs b hi) (fun cs b => hsel j oj cs b hoj) hQ hy h1
      have hfree' : ∀ k ok, ops[k]? = some ok → k ≠ i → (listed.setIfInBounds j true).getD k true = false →
          (∀ e ∈ ok.after, Region.binds md e = true → e.on ≠ i) → oi.apart ops ok = true := fun k ok hk hki hun hno => by
        refine hfree k ok hk hki ?_ hno
        by_cases hjk : j = k
        · subst hjk; exact hjun
        · rw [getD_set_ne true hjk] at hun; exact hun
      have hk' : k = i ∨ (listed.setIfInBounds j true).getD k true = false := by
        rcases hw with e | e
        · exact .inl e
        · rcases hk with q | q
          · exact .inl q
          · exact .inr (by rw [getD_set_ne true (waits_not e hj hr)]; exact q)
      refine wpOp_mono (fun a' w' h3 => ?_) h2
      have hT' : T (listed.setIfInBounds j true) w' := by
        have := h3.2.1
        rw [Array.setIfInBounds_comm _ _ (Ne.symm hji)] at this
        exact (stays _ _).1 this
      refine ⟨hT', ih (listed.setIfInBounds j true) a' w' hfree' (ready_mono hr (Ne.symm hji)) h3.1 hk' hT' ?_⟩
      rw [Array.setIfInBounds_comm _ _ hji]
      exact h3.2.2
theorem wpAnyT_take {S : World → Prop} {i : Nat} {oi : Oper} {v : Value} {fuel : Nat} {listed : Array Bool} {a : Act} {w : World} (k : Nat) (hi : ops[i]? = some oi)
    (hw : waits md ops k i = true) (hk : listed.getD k true = false) (soon : ∀ l w, l.getD k true = false → T l w → S w) (stays : ∀ l w, T (l.setIfInBounds i true) w ↔ T l w)
    (hs : Region.noSelect ops = true) (hf : Region.free md ops listed i = true) (hr : (Region.ready md ops listed).contains i = true)
    (hQ : ∀ c a w, Q (.panic c) (a.put oi.dst v) w → Q (.panic c) a w) (hT : T listed w) (hy : YieldsIf P ops S oi v a)
    (h : wpAnyT P md ops Q T fuel (listed.setIfInBounds i true) (a.put oi.dst v) w) : wpAnyT P md ops Q T (fuel + 1) listed a w := by
  have hki : k ≠ i := by
    rintro rfl
    exact waits_not hw (by simpa using hr) (by simpa using hr) rfl
  exact wpAnyT_first (k := k) (.inr hw) (fun l w e => soon l w (e.resolve_left hki)) stays hi (Region.noSelect_spec hs) hQ fuel listed a w (Region.free_spec hi hf) (by simpa using hr) hy (.inr hk) hT h
theorem wpAnyT_takeP {i : Nat} {oi : Oper} {v : Value} {fuel : Nat} {listed : Array Bool} {a : Act} {w : World} (hi : ops[i]? = some oi)
    (stays : ∀ l w, T (l.setIfInBounds i true) w ↔ T l w)
    (hs : Region.noSelect ops = true) (hf : Region.free md ops listed i = true) (hr : (Region.ready md ops listed).contains i = true)
    (hQ : ∀ c a w, Q (.panic c) (a.put oi.dst v) w → Q (.panic c) a w) (hT : T listed w) (hy : YieldsIf P ops (fun _ => True) oi v a)
    (h : wpAnyT P md ops Q T fuel (listed.setIfInBounds i true) (a.put oi.dst v) w) : wpAnyT P md ops Q T (fuel + 1) listed a w :=
  wpAnyT_first (k := i) (.inl rfl) (fun _ _ _ _ => trivial) stays hi (Region.noSelect_spec hs) hQ fuel listed a w (Region.free_spec hi hf) (by simpa using hr) hy (.inl rfl) hT h
/-- Each of the operations 'rs' comes up next; behind it T holds. -/
def AllReadyT (P : Program) (md : Region.Mode) (ops : Array Oper) (Q : Exit → Act → World → Prop) (T : Array Bool → World → Prop) (fuel : Nat) (listed : Array Bool) (a : Act) (w : World) (rs : List Nat) : Prop :=
  ∀ i ∈ rs, wpOp P ops Q i (fun a' w' => T (listed.setIfInBounds i true) w' ∧ wpAnyT P md ops Q T fuel (listed.setIfInBounds i true) a' w') a w
theorem AllReadyT.nil {fuel : Nat} {listed : Array Bool} {a : Act} {w : World} : AllReadyT P md ops Q T fuel listed a w [] := fun _ h => by cases h
theorem AllReadyT.cons {fuel : Nat} {listed : Array Bool} {a : Act} {w : World} {i : Nat} {o : Oper} {rs : List Nat} (ho : ops[i]? = some o)
    (h : ∀ K' : Act → World → Prop, Shut (∀ a w, T (listed.setIfInBounds i true) w → wpAnyT P md ops Q T fuel (listed.setIfInBounds i true) a w → K' a w) → if Region.wanted o (yielded ops a.tmps) = true then Oper.wp P o a w K' Q else K' (a.put o.dst undef) w)
    (hs : AllReadyT P md ops Q T fuel listed a w rs) : AllReadyT P md ops Q T fuel listed a w (i :: rs) := fun j hj => by
  rcases List.mem_cons.1 hj with rfl | hj
  · exact wpOp_step ho (fun K' hK => h K' (fun a w hS hW => hK a w ⟨hS, hW⟩))
  · exact hs j hj
theorem wpAnyT_ready {rs : List Nat} {fuel : Nat} {listed : Array Bool} {a : Act} {w : World} (hr : Region.ready md ops listed = rs) (hne : rs ≠ [])
    (h : AllReadyT P md ops Q T fuel listed a w rs) : wpAnyT P md ops Q T (fuel + 1) listed a w := ⟨fun h0 => absurd (hr ▸ h0) hne, hr ▸ h⟩
theorem wpAnyT_done {listed : Array Bool} {a : Act} {w : World} (hr : Region.ready md ops listed = []) (h : Q .normal a w) : ∀ fuel, wpAnyT P md ops Q T fuel listed a w
  | 0 => ⟨hr, h⟩
  | _ + 1 => ⟨fun _ => h, by rw [hr]; simp⟩
theorem wp_region_T {id : Nat} {a : Act} {w : World} (hm : P.follows .mixedOrders = true)
    (h : wpAnyT P .any ops Q T ops.size (Array.replicate ops.size false) a w.drew) : (Code.region id ops true).wp P Q a w := wp_region_any hm (wpAny_ofT _ _ _ _ h)
/-- The walk stands still ahead of the operation that writes slot n. -/
theorem wpList_stop {rest : List Oper} {o : Oper} {a : Act} {w : World} (n : Nat) (_hd : o.dst = some n) (h : Hid (wpList P ops Q (o :: rest) a w)) : wpList P ops Q (o :: rest) a w := h
end
theorem tkT0 {P : Program} {md : Region.Mode} {Q : Exit → Act → World → Prop} {T : Array Bool → World → Prop} {o0 : Oper} {r : List Oper} {fuel : Nat} {listed : Array Bool} {a : Act} {w : World} {S : World → Prop} {v : Value} (k : Nat)
    (hw : waits md (o0 :: r).toArray k 0 = true) (hk : listed.getD k true = false) (soon : ∀ l w, l.getD k true = false → T l w → S w) (stays : ∀ l w, T (l.setIfInBounds 0 true) w ↔ T l w)
    (hs : Region.noSelect (o0 :: r).toArray = true) (hf : Region.free md (o0 :: r).toArray listed 0 = true) (hr : (Region.ready md (o0 :: r).toArray listed).contains 0 = true)
    (hQ : ∀ c a w, Q (.panic c) (a.put o0.dst v) w → Q (.panic c) a w) (hT : T listed w) (hy : YieldsIf P (o0 :: r).toArray S o0 v a)
    (h : wpAnyT P md (o0 :: r).toArray Q T fuel (listed.setIfInBounds 0 true) (a.put o0.dst v) w) : wpAnyT P md (o0 :: r).toArray Q T (fuel + 1) listed a w :=
  wpAnyT_take k rfl hw hk soon stays hs hf hr hQ hT hy h
theorem tkP0 {P : Program} {md : Region.Mode} {Q : Exit → Act → World → Prop} {T : Array Bool → World → Prop} {o0 : Oper} {r : List Oper} {fuel : Nat} {listed : Array Bool} {a : Act} {w : World} {v : Value} (stays : ∀ l w, T (l.setIfInBounds 0 true) w ↔ T l w)
    (hs : Region.noSelect (o0 :: r).toArray = true) (hf : Region.free md (o0 :: r).toArray listed 0 = true) (hr : (Region.ready md (o0 :: r).toArray listed).contains 0 = true)
    (hQ : ∀ c a w, Q (.panic c) (a.put o0.dst v) w → Q (.panic c) a w) (hT : T listed w) (hy : YieldsIf P (o0 :: r).toArray (fun _ => True) o0 v a)
    (h : wpAnyT P md (o0 :: r).toArray Q T fuel (listed.setIfInBounds 0 true) (a.put o0.dst v) w) : wpAnyT P md (o0 :: r).toArray Q T (fuel + 1) listed a w :=
  wpAnyT_takeP rfl stays hs hf hr hQ hT hy h
theorem rdT0 {P : Program} {md : Region.Mode} {Q : Exit → Act → World → Prop} {T : Array Bool → World → Prop} {o0 : Oper} {r : List Oper} {fuel : Nat} {listed : Array Bool} {a : Act} {w : World} {rs : List Nat}
    (h : ∀ K' : Act → World → Prop, Shut (∀ a w, T (listed.setIfInBounds 0 true) w → wpAnyT P md (o0 :: r).toArray Q T fuel (listed.setIfInBounds 0 true) a w → K' a w) → if Region.wanted o0 (yielded (o0 :: r).toArray a.tmps) = true then Oper.wp P o0 a w K' Q else K' (a.put o0.dst undef) w)
    (hs : AllReadyT P md (o0 :: r).toArray Q T fuel listed a w rs) : AllReadyT P md (o0 :: r).toArray Q T fuel listed a w (0 :: rs) :=
  AllReadyT.cons rfl h hs
theorem tkT1 {P : Program} {md : Region.Mode} {Q : Exit → Act → World → Prop} {T : Array Bool → World → Prop} {o0 o1 : Oper} {r : List Oper} {fuel : Nat} {listed : Array Bool} {a : Act} {w : World} {S : World → Prop} {v : Value} (k : Nat)
    (hw : waits md (o0 :: o1 :: r).toArray k 1 = true) (hk : listed.getD k true = false) (soon : ∀ l w, l.getD k true = false → T l w → S w) (stays : ∀ l w, T (l.setIfInBounds 1 true) w ↔ T l w)
    (hs : Region.noSelect (o0 :: o1 :: r).toArray = true) (hf : Region.free md (o0 :: o1 :: r).toArray listed 1 = true) (hr : (Region.ready md (o0 :: o1 :: r).toArray listed).contains 1 = true)
    (hQ : ∀ c a w, Q (.panic c) (a.put o1.dst v) w → Q (.panic c) a w) (hT : T listed w) (hy : YieldsIf P (o0 :: o1 :: r).toArray S o1 v a)
    (h : wpAnyT P md (o0 :: o1 :: r).toArray Q T fuel (listed.setIfInBounds 1 true) (a.put o1.dst v) w) : wpAnyT P md (o0 :: o1 :: r).toArray Q T (fuel + 1) listed a w :=
  wpAnyT_take k rfl hw hk soon stays hs hf hr hQ hT hy h
theorem tkP1 {P : Program} {md : Region.Mode} {Q : Exit → Act → World → Prop} {T : Array Bool → World → Prop} {o0 o1 : Oper} {r : List Oper} {fuel : Nat} {listed : Array Bool} {a : Act} {w : World} {v : Value} (stays : ∀ l w, T (l.setIfInBounds 1 true) w ↔ T l w)
    (hs : Region.noSelect (o0 :: o1 :: r).toArray = true) (hf : Region.free md (o0 :: o1 :: r).toArray listed 1 = true) (hr : (Region.ready md (o0 :: o1 :: r).toArray listed).contains 1 = true)
    (hQ : ∀ c a w, Q (.panic c) (a.put o1.dst v) w → Q (.panic c) a w) (hT : T listed w) (hy : YieldsIf P (o0 :: o1 :: r).toArray (fun _ => True) o1 v a)
    (h : wpAnyT P md (o0 :: o1 :: r).toArray Q T fuel (listed.setIfInBounds 1 true) (a.put o1.dst v) w) : wpAnyT P md (o0 :: o1 :: r).toArray Q T (fuel + 1) listed a w :=
  wpAnyT_takeP rfl stays hs hf hr hQ hT hy h
theorem rdT1 {P : Program} {md : Region.Mode} {Q : Exit → Act → World → Prop} {T : Array Bool → World → Prop} {o0 o1 : Oper} {r : List Oper} {fuel : Nat} {listed : Array Bool} {a : Act} {w : World} {rs : List Nat}
    (h : ∀ K' : Act → World → Prop, Shut (∀ a w, T (listed.setIfInBounds 1 true) w → wpAnyT P md (o0 :: o1 :: r).toArray Q T fuel (listed.setIfInBounds 1 true) a w → K' a w) → if Region.wanted o1 (yielded (o0 :: o1 :: r).toArray a.tmps) = true then Oper.wp P o1 a w K' Q else K' (a.put o1.dst undef) w)
    (hs : AllReadyT P md (o0 :: o1 :: r).toArray Q T fuel listed a w rs) : AllReadyT P md (o0 :: o1 :: r).toArray Q T fuel listed a w (1 :: rs) :=
  AllReadyT.cons rfl h hs
theorem tkT2 {P : Program} {md : Region.Mode} {Q : Exit → Act → World → Prop} {T : Array Bool → World → Prop} {o0 o1 o2 : Oper} {r : List Oper} {fuel : Nat} {listed : Array Bool} {a : Act} {w : World} {S : World → Prop} {v : Value} (k : Nat)
    (hw : waits md (o0 :: o1 :: o2 :: r).toArray k 2 = true) (hk : listed.getD k true = false) (soon : ∀ l w, l.getD k true = false → T l w → S w) (stays : ∀ l w, T (l.setIfInBounds 2 true) w ↔ T l w)
    (hs : Region.noSelect (o0 :: o1 :: o2 :: r).toArray = true) (hf : Region.free md (o0 :: o1 :: o2 :: r).toArray listed 2 = true) (hr : (Region.ready md (o0 :: o1 :: o2 :: r).toArray listed).contains 2 = true)
    (hQ : ∀ c a w, Q (.panic c) (a.put o2.dst v) w → Q (.panic c) a w) (hT : T listed w) (hy : YieldsIf P (o0 :: o1 :: o2 :: r).toArray S o2 v a)
    (h : wpAnyT P md (o0 :: o1 :: o2 :: r).toArray Q T fuel (listed.setIfInBounds 2 true) (a.put o2.dst v) w) : wpAnyT P md (o0 :: o1 :: o2 :: r).toArray Q T (fuel + 1) listed a w :=
  wpAnyT_take k rfl hw hk soon stays hs hf hr hQ hT hy h
theorem tkP2 {P : Program} {md : Region.Mode} {Q : Exit → Act → World → Prop} {T : Array Bool → World → Prop} {o0 o1 o2 : Oper} {r : List Oper} {fuel : Nat} {listed : Array Bool} {a : Act} {w : World} {v : Value} (stays : ∀ l w, T (l.setIfInBounds 2 true) w ↔ T l w)
    (hs : Region.noSelect (o0 :: o1 :: o2 :: r).toArray = true) (hf : Region.free md (o0 :: o1 :: o2 :: r).toArray listed 2 = true) (hr : (Region.ready md (o0 :: o1 :: o2 :: r).toArray listed).contains 2 = true)
    (hQ : ∀ c a w, Q (.panic c) (a.put o2.dst v) w → Q (.panic c) a w) (hT : T listed w) (hy : YieldsIf P (o0 :: o1 :: o2 :: r).toArray (fun _ => True) o2 v a)
    (h : wpAnyT P md (o0 :: o1 :: o2 :: r).toArray Q T fuel (listed.setIfInBounds 2 true) (a.put o2.dst v) w) : wpAnyT P md (o0 :: o1 :: o2 :: r).toArray Q T (fuel + 1) listed a w :=
  wpAnyT_takeP rfl stays hs hf hr hQ hT hy h
theorem rdT2 {P : Program} {md : Region.Mode} {Q : Exit → Act → World → Prop} {T : Array Bool → World → Prop} {o0 o1 o2 : Oper} {r : List Oper} {fuel : Nat} {listed : Array Bool} {a : Act} {w : World} {rs : List Nat}
    (h : ∀ K' : Act → World → Prop, Shut (∀ a w, T (listed.setIfInBounds 2 true) w → wpAnyT P md (o0 :: o1 :: o2 :: r).toArray Q T fuel (listed.setIfInBounds 2 true) a w → K' a w) → if Region.wanted o2 (yielded (o0 :: o1 :: o2 :: r).toArray a.tmps) = true then Oper.wp P o2 a w K' Q else K' (a.put o2.dst undef) w)
    (hs : AllReadyT P md (o0 :: o1 :: o2 :: r).toArray Q T fuel listed a w rs) : AllReadyT P md (o0 :: o1 :: o2 :: r).toArray Q T fuel listed a w (2 :: rs) :=
  AllReadyT.cons rfl h hs
theorem tkT3 {P : Program} {md : Region.Mode} {Q : Exit → Act → World → Prop} {T : Array Bool → World → Prop} {o0 o1 o2 o3 : Oper} {r : List Oper} {fuel : Nat} {listed : Array Bool} {a : Act} {w : World} {S : World → Prop} {v : Value} (k : Nat)
    (hw : waits md (o0 :: o1 :: o2 :: o3 :: r).toArray k 3 = true) (hk : listed.getD k true = false) (soon : ∀ l w, l.getD k true = false → T l w → S w) (stays : ∀ l w, T (l.setIfInBounds 3 true) w ↔ T l w)
    (hs : Region.noSelect (o0 :: o1 :: o2 :: o3 :: r).toArray = true) (hf : Region.free md (o0 :: o1 :: o2 :: o3 :: r).toArray listed 3 = true) (hr : (Region.ready md (o0 :: o1 :: o2 :: o3 :: r).toArray listed).contains 3 = true)
    (hQ : ∀ c a w, Q (.panic c) (a.put o3.dst v) w → Q (.panic c) a w) (hT : T listed w) (hy : YieldsIf P (o0 :: o1 :: o2 :: o3 :: r).toArray S o3 v a)
    (h : wpAnyT P md (o0 :: o1 :: o2 :: o3 :: r).toArray Q T fuel (listed.setIfInBounds 3 true) (a.put o3.dst v) w) : wpAnyT P md (o0 :: o1 :: o2 :: o3 :: r).toArray Q T (fuel + 1) listed a w :=
  wpAnyT_take k rfl hw hk soon stays hs hf hr hQ hT hy h
theorem tkP3 {P : Program} {md : Region.Mode} {Q : Exit → Act → World → Prop} {T : Array Bool → World → Prop} {o0 o1 o2 o3 : Oper} {r : List Oper} {fuel : Nat} {listed : Array Bool} {a : Act} {w : World} {v : Value} (stays : ∀ l w, T (l.setIfInBounds 3 true) w ↔ T l w)
    (hs : Region.noSelect (o0 :: o1 :: o2 :: o3 :: r).toArray = true) (hf : Region.free md (o0 :: o1 :: o2 :: o3 :: r).toArray listed 3 = true) (hr : (Region.ready md (o0 :: o1 :: o2 :: o3 :: r).toArray listed).contains 3 = true)
    (hQ : ∀ c a w, Q (.panic c) (a.put o3.dst v) w → Q (.panic c) a w) (hT : T listed w) (hy : YieldsIf P (o0 :: o1 :: o2 :: o3 :: r).toArray (fun _ => True) o3 v a)
    (h : wpAnyT P md (o0 :: o1 :: o2 :: o3 :: r).toArray Q T fuel (listed.setIfInBounds 3 true) (a.put o3.dst v) w) : wpAnyT P md (o0 :: o1 :: o2 :: o3 :: r).toArray Q T (fuel + 1) listed a w :=
  wpAnyT_takeP rfl stays hs hf hr hQ hT hy h
theorem rdT3 {P : Program} {md : Region.Mode} {Q : Exit → Act → World → Prop} {T : Array Bool → World → Prop} {o0 o1 o2 o3 : Oper} {r : List Oper} {fuel : Nat} {listed : Array Bool} {a : Act} {w : World} {rs : List Nat}
    (h : ∀ K' : Act → World → Prop, Shut (∀ a w, T (listed.setIfInBounds 3 true) w → wpAnyT P md (o0 :: o1 :: o2 :: o3 :: r).toArray Q T fuel (listed.setIfInBounds 3 true) a w → K' a w) → if Region.wanted o3 (yielded (o0 :: o1 :: o2 :: o3 :: r).toArray a.tmps) = true then Oper.wp P o3 a w K' Q else K' (a.put o3.dst undef) w)
    (hs : AllReadyT P md (o0 :: o1 :: o2 :: o3 :: r).toArray Q T fuel listed a w rs) : AllReadyT P md (o0 :: o1 :: o2 :: o3 :: r).toArray Q T fuel listed a w (3 :: rs) :=
  AllReadyT.cons rfl h hs
theorem tkT4 {P : Program} {md : Region.Mode} {Q : Exit → Act → World → Prop} {T : Array Bool → World → Prop} {o0 o1 o2 o3 o4 : Oper} {r : List Oper} {fuel : Nat} {listed : Array Bool} {a : Act} {w : World} {S : World → Prop} {v : Value} (k : Nat)
    (hw : waits md (o0 :: o1 :: o2 :: o3 :: o4 :: r).toArray k 4 = true) (hk : listed.getD k true = false) (soon : ∀ l w, l.getD k true = false → T l w → S w) (stays : ∀ l w, T (l.setIfInBounds 4 true) w ↔ T l w)
    (hs : Region.noSelect (o0 :: o1 :: o2 :: o3 :: o4 :: r).toArray = true) (hf : Region.free md (o0 :: o1 :: o2 :: o3 :: o4 :: r).toArray listed 4 = true) (hr : (Region.ready md (o0 :: o1 :: o2 :: o3 :: o4 :: r).toArray listed).contains 4 = true)
    (hQ : ∀ c a w, Q (.panic c) (a.put o4.dst v) w → Q (.panic c) a w) (hT : T listed w) (hy : YieldsIf P (o0 :: o1 :: o2 :: o3 :: o4 :: r).toArray S o4 v a)
    (h : wpAnyT P md (o0 :: o1 :: o2 :: o3 :: o4 :: r).toArray Q T fuel (listed.setIfInBounds 4 true) (a.put o4.dst v) w) : wpAnyT P md (o0 :: o1 :: o2 :: o3 :: o4 :: r).toArray Q T (fuel + 1) listed a w :=
  wpAnyT_take k rfl hw hk soon stays hs hf hr hQ hT hy h
theorem tkP4 {P : Program} {md : Region.Mode} {Q : Exit → Act → World → Prop} {T : Array Bool → World → Prop} {o0 o1 o2 o3 o4 : Oper} {r : List Oper} {fuel : Nat} {listed : Array Bool} {a : Act} {w : World} {v : Value} (stays : ∀ l w, T (l.setIfInBounds 4 true) w ↔ T l w)
    (hs : Region.noSelect (o0 :: o1 :: o2 :: o3 :: o4 :: r).toArray = true) (hf : Region.free md (o0 :: o1 :: o2 :: o3 :: o4 :: r).toArray listed 4 = true) (hr : (Region.ready md (o0 :: o1 :: o2 :: o3 :: o4 :: r).toArray listed).contains 4 = true)
    (hQ : ∀ c a w, Q (.panic c) (a.put o4.dst v) w → Q (.panic c) a w) (hT : T listed w) (hy : YieldsIf P (o0 :: o1 :: o2 :: o3 :: o4 :: r).toArray (fun _ => True) o4 v a)
    (h : wpAnyT P md (o0 :: o1 :: o2 :: o3 :: o4 :: r).toArray Q T fuel (listed.setIfInBounds 4 true) (a.put o4.dst v) w) : wpAnyT P md (o0 :: o1 :: o2 :: o3 :: o4 :: r).toArray Q T (fuel + 1) listed a w :=
  wpAnyT_takeP rfl stays hs hf hr hQ hT hy h
theorem rdT4 {P : Program} {md : Region.Mode} {Q : Exit → Act → World → Prop} {T : Array Bool → World → Prop} {o0 o1 o2 o3 o4 : Oper} {r : List Oper} {fuel : Nat} {listed : Array Bool} {a : Act} {w : World} {rs : List Nat}
    (h : ∀ K' : Act → World → Prop, Shut (∀ a w, T (listed.setIfInBounds 4 true) w → wpAnyT P md (o0 :: o1 :: o2 :: o3 :: o4 :: r).toArray Q T fuel (listed.setIfInBounds 4 true) a w → K' a w) → if Region.wanted o4 (yielded (o0 :: o1 :: o2 :: o3 :: o4 :: r).toArray a.tmps) = true then Oper.wp P o4 a w K' Q else K' (a.put o4.dst undef) w)
    (hs : AllReadyT P md (o0 :: o1 :: o2 :: o3 :: o4 :: r).toArray Q T fuel listed a w rs) : AllReadyT P md (o0 :: o1 :: o2 :: o3 :: o4 :: r).toArray Q T fuel listed a w (4 :: rs) :=
  AllReadyT.cons rfl h hs
theorem tkT5 {P : Program} {md : Region.Mode} {Q : Exit → Act → World → Prop} {T : Array Bool → World → Prop} {o0 o1 o2 o3 o4 o5 : Oper} {r : List Oper} {fuel : Nat} {listed : Array Bool} {a : Act} {w : World} {S : World → Prop} {v : Value} (k : Nat)
    (hw : waits md (o0 :: o1 :: o2 :: o3 :: o4 :: o5 :: r).toArray k 5 = true) (hk : listed.getD k true = false) (soon : ∀ l w, l.getD k true = false → T l w → S w) (stays : ∀ l w, T (l.setIfInBounds 5 true) w ↔ T l w)
    (hs : Region.noSelect (o0 :: o1 :: o2 :: o3 :: o4 :: o5 :: r).toArray = true) (hf : Region.free md (o0 :: o1 :: o2 :: o3 :: o4 :: o5 :: r).toArray listed 5 = true) (hr : (Region.ready md (o0 :: o1 :: o2 :: o3 :: o4 :: o5 :: r).toArray listed).contains 5 = true)
    (hQ : ∀ c a w, Q (.panic c) (a.put o5.dst v) w → Q (.panic c) a w) (hT : T listed w) (hy : YieldsIf P (o0 :: o1 :: o2 :: o3 :: o4 :: o5 :: r).toArray S o5 v a)
    (h : wpAnyT P md (o0 :: o1 :: o2 :: o3 :: o4 :: o5 :: r).toArray Q T fuel (listed.setIfInBounds 5 true) (a.put o5.dst v) w) : wpAnyT P md (o0 :: o1 :: o2 :: o3 :: o4 :: o5 :: r).toArray Q T (fuel + 1) listed a w :=
  wpAnyT_take k rfl hw hk soon stays hs hf hr hQ hT hy h
theorem tkP5 {P : Program} {md : Region.Mode} {Q : Exit → Act → World → Prop} {T : Array Bool → World → Prop} {o0 o1 o2 o3 o4 o5 : Oper} {r : List Oper} {fuel : Nat} {listed : Array Bool} {a : Act} {w : World} {v : Value} (stays : ∀ l w, T (l.setIfInBounds 5 true) w ↔ T l w)
    (hs : Region.noSelect (o0 :: o1 :: o2 :: o3 :: o4 :: o5 :: r).toArray = true) (hf : Region.free md (o0 :: o1 :: o2 :: o3 :: o4 :: o5 :: r).toArray listed 5 = true) (hr : (Region.ready md (o0 :: o1 :: o2 :: o3 :: o4 :: o5 :: r).toArray listed).contains 5 = true)
    (hQ : ∀ c a w, Q (.panic c) (a.put o5.dst v) w → Q (.panic c) a w) (hT : T listed w) (hy : YieldsIf P (o0 :: o1 :: o2 :: o3 :: o4 :: o5 :: r).toArray (fun _ => True) o5 v a)
    (h : wpAnyT P md (o0 :: o1 :: o2 :: o3 :: o4 :: o5 :: r).toArray Q T fuel (listed.setIfInBounds 5 true) (a.put o5.dst v) w) : wpAnyT P md (o0 :: o1 :: o2 :: o3 :: o4 :: o5 :: r).toArray Q T (fuel + 1) listed a w :=
  wpAnyT_takeP rfl stays hs hf hr hQ hT hy h
theorem rdT5 {P : Program} {md : Region.Mode} {Q : Exit → Act → World → Prop} {T : Array Bool → World → Prop} {o0 o1 o2 o3 o4 o5 : Oper} {r : List Oper} {fuel : Nat} {listed : Array Bool} {a : Act} {w : World} {rs : List Nat}
    (h : ∀ K' : Act → World → Prop, Shut (∀ a w, T (listed.setIfInBounds 5 true) w → wpAnyT P md (o0 :: o1 :: o2 :: o3 :: o4 :: o5 :: r).toArray Q T fuel (listed.setIfInBounds 5 true) a w → K' a w) → if Region.wanted o5 (yielded (o0 :: o1 :: o2 :: o3 :: o4 :: o5 :: r).toArray a.tmps) = true then Oper.wp P o5 a w K' Q else K' (a.put o5.dst undef) w)
    (hs : AllReadyT P md (o0 :: o1 :: o2 :: o3 :: o4 :: o5 :: r).toArray Q T fuel listed a w rs) : AllReadyT P md (o0 :: o1 :: o2 :: o3 :: o4 :: o5 :: r).toArray Q T fuel listed a w (5 :: rs) :=
  AllReadyT.cons rfl h hs
theorem tkT6 {P : Program} {md : Region.Mode} {Q : Exit → Act → World → Prop} {T : Array Bool → World → Prop} {o0 o1 o2 o3 o4 o5 o6 : Oper} {r : List Oper} {fuel : Nat} {listed : Array Bool} {a : Act} {w : World} {S : World → Prop} {v : Value} (k : Nat)
    (hw : waits md (o0 :: o1 :: o2 :: o3 :: o4 :: o5 :: o6 :: r).toArray k 6 = true) (hk : listed.getD k true = false) (soon : ∀ l w, l.getD k true = false → T l w → S w) (stays : ∀ l w, T (l.setIfInBounds 6 true) w ↔ T l w)
    (hs : Region.noSelect (o0 :: o1 :: o2 :: o3 :: o4 :: o5 :: o6 :: r).toArray = true) (hf : Region.free md (o0 :: o1 :: o2 :: o3 :: o4 :: o5 :: o6 :: r).toArray listed 6 = true) (hr : (Region.ready md (o0 :: o1 :: o2 :: o3 :: o4 :: o5 :: o6 :: r).toArray listed).contains 6 = true)
    (hQ : ∀ c a w, Q (.panic c) (a.put o6.dst v) w → Q (.panic c) a w) (hT : T listed w) (hy : YieldsIf P (o0 :: o1 :: o2 :: o3 :: o4 :: o5 :: o6 :: r).toArray S o6 v a)
    (h : wpAnyT P md (o0 :: o1 :: o2 :: o3 :: o4 :: o5 :: o6 :: r).toArray Q T fuel (listed.setIfInBounds 6 true) (a.put o6.dst v) w) : wpAnyT P md (o0 :: o1 :: o2 :: o3 :: o4 :: o5 :: o6 :: r).toArray Q T (fuel + 1) listed a w :=
  wpAnyT_take k rfl hw hk soon stays hs hf hr hQ hT hy h
theorem tkP6 {P : Program} {md : Region.Mode} {Q : Exit → Act → World → Prop} {T : Array Bool → World → Prop} {o0 o1 o2 o3 o4 o5 o6 : Oper} {r : List Oper} {fuel : Nat} {listed : Array Bool} {a : Act} {w : World} {v : Value} (stays : ∀ l w, T (l.setIfInBounds 6 true) w ↔ T l w)
    (hs : Region.noSelect (o0 :: o1 :: o2 :: o3 :: o4 :: o5 :: o6 :: r).toArray = true) (hf : Region.free md (o0 :: o1 :: o2 :: o3 :: o4 :: o5 :: o6 :: r).toArray listed 6 = true) (hr : (Region.ready md (o0 :: o1 :: o2 :: o3 :: o4 :: o5 :: o6 :: r).toArray listed).contains 6 = true)
    (hQ : ∀ c a w, Q (.panic c) (a.put o6.dst v) w → Q (.panic c) a w) (hT : T listed w) (hy : YieldsIf P (o0 :: o1 :: o2 :: o3 :: o4 :: o5 :: o6 :: r).toArray (fun _ => True) o6 v a)
    (h : wpAnyT P md (o0 :: o1 :: o2 :: o3 :: o4 :: o5 :: o6 :: r).toArray Q T fuel (listed.setIfInBounds 6 true) (a.put o6.dst v) w) : wpAnyT P md (o0 :: o1 :: o2 :: o3 :: o4 :: o5 :: o6 :: r).toArray Q T (fuel + 1) listed a w :=
  wpAnyT_takeP rfl stays hs hf hr hQ hT hy h
theorem rdT6 {P : Program} {md : Region.Mode} {Q : Exit → Act → World → Prop} {T : Array Bool → World → Prop} {o0 o1 o2 o3 o4 o5 o6 : Oper} {r : List Oper} {fuel : Nat} {listed : Array Bool} {a : Act} {w : World} {rs : List Nat}
    (h : ∀ K' : Act → World → Prop, Shut (∀ a w, T (listed.setIfInBounds 6 true) w → wpAnyT P md (o0 :: o1 :: o2 :: o3 :: o4 :: o5 :: o6 :: r).toArray Q T fuel (listed.setIfInBounds 6 true) a w → K' a w) → if Region.wanted o6 (yielded (o0 :: o1 :: o2 :: o3 :: o4 :: o5 :: o6 :: r).toArray a.tmps) = true then Oper.wp P o6 a w K' Q else K' (a.put o6.dst undef) w)
    (hs : AllReadyT P md (o0 :: o1 :: o2 :: o3 :: o4 :: o5 :: o6 :: r).toArray Q T fuel listed a w rs) : AllReadyT P md (o0 :: o1 :: o2 :: o3 :: o4 :: o5 :: o6 :: r).toArray Q T fuel listed a w (6 :: rs) :=
  AllReadyT.cons rfl h hs
theorem tkT7 {P : Program} {md : Region.Mode} {Q : Exit → Act → World → Prop} {T : Array Bool → World → Prop} {o0 o1 o2 o3 o4 o5 o6 o7 : Oper} {r : List Oper} {fuel : Nat} {listed : Array Bool} {a : Act} {w : World} {S : World → Prop} {v : Value} (k : Nat)
    (hw : waits md (o0 :: o1 :: o2 :: o3 :: o4 :: o5 :: o6 :: o7 :: r).toArray k 7 = true) (hk : listed.getD k true = false) (soon : ∀ l w, l.getD k true = false → T l w → S w) (stays : ∀ l w, T (l.setIfInBounds 7 true) w ↔ T l w)
    (hs : Region.noSelect (o0 :: o1 :: o2 :: o3 :: o4 :: o5 :: o6 :: o7 :: r).toArray = true) (hf : Region.free md (o0 :: o1 :: o2 :: o3 :: o4 :: o5 :: o6 :: o7 :: r).toArray listed 7 = true) (hr : (Region.ready md (o0 :: o1 :: o2 :: o3 :: o4 :: o5 :: o6 :: o7 :: r).toArray listed).contains 7 = true)
    (hQ : ∀ c a w, Q (.panic c) (a.put o7.dst v) w → Q (.panic c) a w) (hT : T listed w) (hy : YieldsIf P (o0 :: o1 :: o2 :: o3 :: o4 :: o5 :: o6 :: o7 :: r).toArray S o7 v a)
    (h : wpAnyT P md (o0 :: o1 :: o2 :: o3 :: o4 :: o5 :: o6 :: o7 :: r).toArray Q T fuel (listed.setIfInBounds 7 true) (a.put o7.dst v) w) : wpAnyT P md (o0 :: o1 :: o2 :: o3 :: o4 :: o5 :: o6 :: o7 :: r).toArray Q T (fuel + 1) listed a w :=
  wpAnyT_take k rfl hw hk soon stays hs hf hr hQ hT hy h
theorem tkP7 {P : Program} {md : Region.Mode} {Q : Exit → Act → World → Prop} {T : Array Bool → World → Prop} {o0 o1 o2 o3 o4 o5 o6 o7 : Oper} {r : List Oper} {fuel : Nat} {listed : Array Bool} {a : Act} {w : World} {v : Value} (stays : ∀ l w, T (l.setIfInBounds 7 true) w ↔ T l w)
    (hs : Region.noSelect (o0 :: o1 :: o2 :: o3 :: o4 :: o5 :: o6 :: o7 :: r).toArray = true) (hf : Region.free md (o0 :: o1 :: o2 :: o3 :: o4 :: o5 :: o6 :: o7 :: r).toArray listed 7 = true) (hr : (Region.ready md (o0 :: o1 :: o2 :: o3 :: o4 :: o5 :: o6 :: o7 :: r).toArray listed).contains 7 = true)
    (hQ : ∀ c a w, Q (.panic c) (a.put o7.dst v) w → Q (.panic c) a w) (hT : T listed w) (hy : YieldsIf P (o0 :: o1 :: o2 :: o3 :: o4 :: o5 :: o6 :: o7 :: r).toArray (fun _ => True) o7 v a)
    (h : wpAnyT P md (o0 :: o1 :: o2 :: o3 :: o4 :: o5 :: o6 :: o7 :: r).toArray Q T fuel (listed.setIfInBounds 7 true) (a.put o7.dst v) w) : wpAnyT P md (o0 :: o1 :: o2 :: o3 :: o4 :: o5 :: o6 :: o7 :: r).toArray Q T (fuel + 1) listed a w :=
  wpAnyT_takeP rfl stays hs hf hr hQ hT hy h
theorem rdT7 {P : Program} {md : Region.Mode} {Q : Exit → Act → World → Prop} {T : Array Bool → World → Prop} {o0 o1 o2 o3 o4 o5 o6 o7 : Oper} {r : List Oper} {fuel : Nat} {listed : Array Bool} {a : Act} {w : World} {rs : List Nat}
    (h : ∀ K' : Act → World → Prop, Shut (∀ a w, T (listed.setIfInBounds 7 true) w → wpAnyT P md (o0 :: o1 :: o2 :: o3 :: o4 :: o5 :: o6 :: o7 :: r).toArray Q T fuel (listed.setIfInBounds 7 true) a w → K' a w) → if Region.wanted o7 (yielded (o0 :: o1 :: o2 :: o3 :: o4 :: o5 :: o6 :: o7 :: r).toArray a.tmps) = true then Oper.wp P o7 a w K' Q else K' (a.put o7.dst undef) w)
    (hs : AllReadyT P md (o0 :: o1 :: o2 :: o3 :: o4 :: o5 :: o6 :: o7 :: r).toArray Q T fuel listed a w rs) : AllReadyT P md (o0 :: o1 :: o2 :: o3 :: o4 :: o5 :: o6 :: o7 :: r).toArray Q T fuel listed a w (7 :: rs) :=
  AllReadyT.cons rfl h hs
theorem tkT8 {P : Program} {md : Region.Mode} {Q : Exit → Act → World → Prop} {T : Array Bool → World → Prop} {o0 o1 o2 o3 o4 o5 o6 o7 o8 : Oper} {r : List Oper} {fuel : Nat} {listed : Array Bool} {a : Act} {w : World} {S : World → Prop} {v : Value} (k : Nat)
    (hw : waits md (o0 :: o1 :: o2 :: o3 :: o4 :: o5 :: o6 :: o7 :: o8 :: r).toArray k 8 = true) (hk : listed.getD k true = false) (soon : ∀ l w, l.getD k true = false → T l w → S w) (stays : ∀ l w, T (l.setIfInBounds 8 true) w ↔ T l w)
    (hs : Region.noSelect (o0 :: o1 :: o2 :: o3 :: o4 :: o5 :: o6 :: o7 :: o8 :: r).toArray = true) (hf : Region.free md (o0 :: o1 :: o2 :: o3 :: o4 :: o5 :: o6 :: o7 :: o8 :: r).toArray listed 8 = true) (hr : (Region.ready md (o0 :: o1 :: o2 :: o3 :: o4 :: o5 :: o6 :: o7 :: o8 :: r).toArray listed).contains 8 = true)
    (hQ : ∀ c a w, Q (.panic c) (a.put o8.dst v) w → Q (.panic c) a w) (hT : T listed w) (hy : YieldsIf P (o0 :: o1 :: o2 :: o3 :: o4 :: o5 :: o6 :: o7 :: o8 :: r).toArray S o8 v a)
    (h : wpAnyT P md (o0 :: o1 :: o2 :: o3 :: o4 :: o5 :: o6 :: o7 :: o8 :: r).toArray Q T fuel (listed.setIfInBounds 8 true) (a.put o8.dst v) w) : wpAnyT P md (o0 :: o1 :: o2 :: o3 :: o4 :: o5 :: o6 :: o7 :: o8 :: r).toArray Q T (fuel + 1) listed a w :=
  wpAnyT_take k rfl hw hk soon stays hs hf hr hQ hT hy h
theorem tkP8 {P : Program} {md : Region.Mode} {Q : Exit → Act → World → Prop} {T : Array Bool → World → Prop} {o0 o1 o2 o3 o4 o5 o6 o7 o8 : Oper} {r : List Oper} {fuel : Nat} {listed : Array Bool} {a : Act} {w : World} {v : Value} (stays : ∀ l w, T (l.setIfInBounds 8 true) w ↔ T l w)
    (hs : Region.noSelect (o0 :: o1 :: o2 :: o3 :: o4 :: o5 :: o6 :: o7 :: o8 :: r).toArray = true) (hf : Region.free md (o0 :: o1 :: o2 :: o3 :: o4 :: o5 :: o6 :: o7 :: o8 :: r).toArray listed 8 = true) (hr : (Region.ready md (o0 :: o1 :: o2 :: o3 :: o4 :: o5 :: o6 :: o7 :: o8 :: r).toArray listed).contains 8 = true)
    (hQ : ∀ c a w, Q (.panic c) (a.put o8.dst v) w → Q (.panic c) a w) (hT : T listed w) (hy : YieldsIf P (o0 :: o1 :: o2 :: o3 :: o4 :: o5 :: o6 :: o7 :: o8 :: r).toArray (fun _ => True) o8 v a)
    (h : wpAnyT P md (o0 :: o1 :: o2 :: o3 :: o4 :: o5 :: o6 :: o7 :: o8 :: r).toArray Q T fuel (listed.setIfInBounds 8 true) (a.put o8.dst v) w) : wpAnyT P md (o0 :: o1 :: o2 :: o3 :: o4 :: o5 :: o6 :: o7 :: o8 :: r).toArray Q T (fuel + 1) listed a w :=
  wpAnyT_takeP rfl stays hs hf hr hQ hT hy h
theorem rdT8 {P : Program} {md : Region.Mode} {Q : Exit → Act → World → Prop} {T : Array Bool → World → Prop} {o0 o1 o2 o3 o4 o5 o6 o7 o8 : Oper} {r : List Oper} {fuel : Nat} {listed : Array Bool} {a : Act} {w : World} {rs : List Nat}
    (h : ∀ K' : Act → World → Prop, Shut (∀ a w, T (listed.setIfInBounds 8 true) w → wpAnyT P md (o0 :: o1 :: o2 :: o3 :: o4 :: o5 :: o6 :: o7 :: o8 :: r).toArray Q T fuel (listed.setIfInBounds 8 true) a w → K' a w) → if Region.wanted o8 (yielded (o0 :: o1 :: o2 :: o3 :: o4 :: o5 :: o6 :: o7 :: o8 :: r).toArray a.tmps) = true then Oper.wp P o8 a w K' Q else K' (a.put o8.dst undef) w)
    (hs : AllReadyT P md (o0 :: o1 :: o2 :: o3 :: o4 :: o5 :: o6 :: o7 :: o8 :: r).toArray Q T fuel listed a w rs) : AllReadyT P md (o0 :: o1 :: o2 :: o3 :: o4 :: o5 :: o6 :: o7 :: o8 :: r).toArray Q T fuel listed a w (8 :: rs) :=
  AllReadyT.cons rfl h hs
theorem tkT9 {P : Program} {md : Region.Mode} {Q : Exit → Act → World → Prop} {T : Array Bool → World → Prop} {o0 o1 o2 o3 o4 o5 o6 o7 o8 o9 : Oper} {r : List Oper} {fuel : Nat} {listed : Array Bool} {a : Act} {w : World} {S : World → Prop} {v : Value} (k : Nat)
    (hw : waits md (o0 :: o1 :: o2 :: o3 :: o4 :: o5 :: o6 :: o7 :: o8 :: o9 :: r).toArray k 9 = true) (hk : listed.getD k true = false) (soon : ∀ l w, l.getD k true = false → T l w → S w) (stays : ∀ l w, T (l.setIfInBounds 9 true) w ↔ T l w)
    (hs : Region.noSelect (o0 :: o1 :: o2 :: o3 :: o4 :: o5 :: o6 :: o7 :: o8 :: o9 :: r).toArray = true) (hf : Region.free md (o0 :: o1 :: o2 :: o3 :: o4 :: o5 :: o6 :: o7 :: o8 :: o9 :: r).toArray listed 9 = true) (hr : (Region.ready md (o0 :: o1 :: o2 :: o3 :: o4 :: o5 :: o6 :: o7 :: o8 :: o9 :: r).toArray listed).contains 9 = true)
    (hQ : ∀ c a w, Q (.panic c) (a.put o9.dst v) w → Q (.panic c) a w) (hT : T listed w) (hy : YieldsIf P (o0 :: o1 :: o2 :: o3 :: o4 :: o5 :: o6 :: o7 :: o8 :: o9 :: r).toArray S o9 v a)
    (h : wpAnyT P md (o0 :: o1 :: o2 :: o3 :: o4 :: o5 :: o6 :: o7 :: o8 :: o9 :: r).toArray Q T fuel (listed.setIfInBounds 9 true) (a.put o9.dst v) w) : wpAnyT P md (o0 :: o1 :: o2 :: o3 :: o4 :: o5 :: o6 :: o7 :: o8 :: o9 :: r).toArray Q T (fuel + 1) listed a w :=
  wpAnyT_take k rfl hw hk soon stays hs hf hr hQ hT hy h
theorem tkP9 {P : Program} {md : Region.Mode} {Q : Exit → Act → World → Prop} {T : Array Bool → World → Prop} {o0 o1 o2 o3 o4 o5 o6 o7 o8 o9 : Oper} {r : List Oper} {fuel : Nat} {listed : Array Bool} {a : Act} {w : World} {v : Value} (stays : ∀ l w, T (l.setIfInBounds 9 true) w ↔ T l w)
    (hs : Region.noSelect (o0 :: o1 :: o2 :: o3 :: o4 :: o5 :: o6 :: o7 :: o8 :: o9 :: r).toArray = true) (hf : Region.free md (o0 :: o1 :: o2 :: o3 :: o4 :: o5 :: o6 :: o7 :: o8 :: o9 :: r).toArray listed 9 = true) (hr : (Region.ready md (o0 :: o1 :: o2 :: o3 :: o4 :: o5 :: o6 :: o7 :: o8 :: o9 :: r).toArray listed).contains 9 = true)
    (hQ : ∀ c a w, Q (.panic c) (a.put o9.dst v) w → Q (.panic c) a w) (hT : T listed w) (hy : YieldsIf P (o0 :: o1 :: o2 :: o3 :: o4 :: o5 :: o6 :: o7 :: o8 :: o9 :: r).toArray (fun _ => True) o9 v a)
    (h : wpAnyT P md (o0 :: o1 :: o2 :: o3 :: o4 :: o5 :: o6 :: o7 :: o8 :: o9 :: r).toArray Q T fuel (listed.setIfInBounds 9 true) (a.put o9.dst v) w) : wpAnyT P md (o0 :: o1 :: o2 :: o3 :: o4 :: o5 :: o6 :: o7 :: o8 :: o9 :: r).toArray Q T (fuel + 1) listed a w :=
  wpAnyT_takeP rfl stays hs hf hr hQ hT hy h
theorem rdT9 {P : Program} {md : Region.Mode} {Q : Exit → Act → World → Prop} {T : Array Bool → World → Prop} {o0 o1 o2 o3 o4 o5 o6 o7 o8 o9 : Oper} {r : List Oper} {fuel : Nat} {listed : Array Bool} {a : Act} {w : World} {rs : List Nat}
    (h : ∀ K' : Act → World → Prop, Shut (∀ a w, T (listed.setIfInBounds 9 true) w → wpAnyT P md (o0 :: o1 :: o2 :: o3 :: o4 :: o5 :: o6 :: o7 :: o8 :: o9 :: r).toArray Q T fuel (listed.setIfInBounds 9 true) a w → K' a w) → if Region.wanted o9 (yielded (o0 :: o1 :: o2 :: o3 :: o4 :: o5 :: o6 :: o7 :: o8 :: o9 :: r).toArray a.tmps) = true then Oper.wp P o9 a w K' Q else K' (a.put o9.dst undef) w)
    (hs : AllReadyT P md (o0 :: o1 :: o2 :: o3 :: o4 :: o5 :: o6 :: o7 :: o8 :: o9 :: r).toArray Q T fuel listed a w rs) : AllReadyT P md (o0 :: o1 :: o2 :: o3 :: o4 :: o5 :: o6 :: o7 :: o8 :: o9 :: r).toArray Q T fuel listed a w (9 :: rs) :=
  AllReadyT.cons rfl h hs
theorem tkT10 {P : Program} {md : Region.Mode} {Q : Exit → Act → World → Prop} {T : Array Bool → World → Prop} {o0 o1 o2 o3 o4 o5 o6 o7 o8 o9 o10 : Oper} {r : List Oper} {fuel : Nat} {listed : Array Bool} {a : Act} {w : World} {S : World → Prop} {v : Value} (k : Nat)
    (hw : waits md (o0 :: o1 :: o2 :: o3 :: o4 :: o5 :: o6 :: o7 :: o8 :: o9 :: o10 :: r).toArray k 10 = true) (hk : listed.getD k true = false) (soon : ∀ l w, l.getD k true = false → T l w → S w) (stays : ∀ l w, T (l.setIfInBounds 10 true) w ↔ T l w)
    (hs : Region.noSelect (o0 :: o1 :: o2 :: o3 :: o4 :: o5 :: o6 :: o7 :: o8 :: o9 :: o10 :: r).toArray = true) (hf : Region.free md (o0 :: o1 :: o2 :: o3 :: o4 :: o5 :: o6 :: o7 :: o8 :: o9 :: o10 :: r).toArray listed 10 = true) (hr : (Region.ready md (o0 :: o1 :: o2 :: o3 :: o4 :: o5 :: o6 :: o7 :: o8 :: o9 :: o10 :: r).toArray listed).contains 10 = true)
    (hQ : ∀ c a w, Q (.panic c) (a.put o10.dst v) w → Q (.panic c) a w) (hT : T listed w) (hy : YieldsIf P (o0 :: o1 :: o2 :: o3 :: o4 :: o5 :: o6 :: o7 :: o8 :: o9 :: o10 :: r).toArray S o10 v a)
    (h : wpAnyT P md (o0 :: o1 :: o2 :: o3 :: o4 :: o5 :: o6 :: o7 :: o8 :: o9 :: o10 :: r).toArray Q T fuel (listed.setIfInBounds 10 true) (a.put o10.dst v) w) : wpAnyT P md (o0 :: o1 :: o2 :: o3 :: o4 :: o5 :: o6 :: o7 :: o8 :: o9 :: o10 :: r).toArray Q T (fuel + 1) listed a w :=
  wpAnyT_take k rfl hw hk soon stays hs hf hr hQ hT hy h
theorem tkP10 {P : Program} {md : Region.Mode} {Q : Exit → Act → World → Prop} {T : Array Bool → World → Prop} {o0 o1 o2 o3 o4 o5 o6 o7 o8 o9 o10 : Oper} {r : List Oper} {fuel : Nat} {listed : Array Bool} {a : Act} {w : World} {v : Value} (stays : ∀ l w, T (l.setIfInBounds 10 true) w ↔ T l w)
    (hs : Region.noSelect (o0 :: o1 :: o2 :: o3 :: o4 :: o5 :: o6 :: o7 :: o8 :: o9 :: o10 :: r).toArray = true) (hf : Region.free md (o0 :: o1 :: o2 :: o3 :: o4 :: o5 :: o6 :: o7 :: o8 :: o9 :: o10 :: r).toArray listed 10 = true) (hr : (Region.ready md (o0 :: o1 :: o2 :: o3 :: o4 :: o5 :: o6 :: o7 :: o8 :: o9 :: o10 :: r).toArray listed).contains 10 = true)
    (hQ : ∀ c a w, Q (.panic c) (a.put o10.dst v) w → Q (.panic c) a w) (hT : T listed w) (hy : YieldsIf P (o0 :: o1 :: o2 :: o3 :: o4 :: o5 :: o6 :: o7 :: o8 :: o9 :: o10 :: r).toArray (fun _ => True) o10 v a)
    (h : wpAnyT P md (o0 :: o1 :: o2 :: o3 :: o4 :: o5 :: o6 :: o7 :: o8 :: o9 :: o10 :: r).toArray Q T fuel (listed.setIfInBounds 10 true) (a.put o10.dst v) w) : wpAnyT P md (o0 :: o1 :: o2 :: o3 :: o4 :: o5 :: o6 :: o7 :: o8 :: o9 :: o10 :: r).toArray Q T (fuel + 1) listed a w :=
  wpAnyT_takeP rfl stays hs hf hr hQ hT hy h
theorem rdT10 {P : Program} {md : Region.Mode} {Q : Exit → Act → World → Prop} {T : Array Bool → World → Prop} {o0 o1 o2 o3 o4 o5 o6 o7 o8 o9 o10 : Oper} {r : List Oper} {fuel : Nat} {listed : Array Bool} {a : Act} {w : World} {rs : List Nat}
    (h : ∀ K' : Act → World → Prop, Shut (∀ a w, T (listed.setIfInBounds 10 true) w → wpAnyT P md (o0 :: o1 :: o2 :: o3 :: o4 :: o5 :: o6 :: o7 :: o8 :: o9 :: o10 :: r).toArray Q T fuel (listed.setIfInBounds 10 true) a w → K' a w) → if Region.wanted o10 (yielded (o0 :: o1 :: o2 :: o3 :: o4 :: o5 :: o6 :: o7 :: o8 :: o9 :: o10 :: r).toArray a.tmps) = true then Oper.wp P o10 a w K' Q else K' (a.put o10.dst undef) w)
    (hs : AllReadyT P md (o0 :: o1 :: o2 :: o3 :: o4 :: o5 :: o6 :: o7 :: o8 :: o9 :: o10 :: r).toArray Q T fuel listed a w rs) : AllReadyT P md (o0 :: o1 :: o2 :: o3 :: o4 :: o5 :: o6 :: o7 :: o8 :: o9 :: o10 :: r).toArray Q T fuel listed a w (10 :: rs) :=
  AllReadyT.cons rfl h hs
theorem tkT11 {P : Program} {md : Region.Mode} {Q : Exit → Act → World → Prop} {T : Array Bool → World → Prop} {o0 o1 o2 o3 o4 o5 o6 o7 o8 o9 o10 o11 : Oper} {r : List Oper} {fuel : Nat} {listed : Array Bool} {a : Act} {w : World} {S : World → Prop} {v : Value} (k : Nat)
    (hw : waits md (o0 :: o1 :: o2 :: o3 :: o4 :: o5 :: o6 :: o7 :: o8 :: o9 :: o10 :: o11 :: r).toArray k 11 = true) (hk : listed.getD k true = false) (soon : ∀ l w, l.getD k true = false → T l w → S w) (stays : ∀ l w, T (l.setIfInBounds 11 true) w ↔ T l w)
    (hs : Region.noSelect (o0 :: o1 :: o2 :: o3 :: o4 :: o5 :: o6 :: o7 :: o8 :: o9 :: o10 :: o11 :: r).toArray = true) (hf : Region.free md (o0 :: o1 :: o2 :: o3 :: o4 :: o5 :: o6 :: o7 :: o8 :: o9 :: o10 :: o11 :: r).toArray listed 11 = true) (hr : (Region.ready md (o0 :: o1 :: o2 :: o3 :: o4 :: o5 :: o6 :: o7 :: o8 :: o9 :: o10 :: o11 :: r).toArray listed).contains 11 = true)
    (hQ : ∀ c a w, Q (.panic c) (a.put o11.dst v) w → Q (.panic c) a w) (hT : T listed w) (hy : YieldsIf P (o0 :: o1 :: o2 :: o3 :: o4 :: o5 :: o6 :: o7 :: o8 :: o9 :: o10 :: o11 :: r).toArray S o11 v a)
    (h : wpAnyT P md (o0 :: o1 :: o2 :: o3 :: o4 :: o5 :: o6 :: o7 :: o8 :: o9 :: o10 :: o11 :: r).toArray Q T fuel (listed.setIfInBounds 11 true) (a.put o11.dst v) w) : wpAnyT P md (o0 :: o1 :: o2 :: o3 :: o4 :: o5 :: o6 :: o7 :: o8 :: o9 :: o10 :: o11 :: r).toArray Q T (fuel + 1) listed a w :=
  wpAnyT_take k rfl hw hk soon stays hs hf hr hQ hT hy h
theorem tkP11 {P : Program} {md : Region.Mode} {Q : Exit → Act → World → Prop} {T : Array Bool → World → Prop} {o0 o1 o2 o3 o4 o5 o6 o7 o8 o9 o10 o11 : Oper} {r : List Oper} {fuel : Nat} {listed : Array Bool} {a : Act} {w : World} {v : Value} (stays : ∀ l w, T (l.setIfInBounds 11 true) w ↔ T l w)
    (hs : Region.noSelect (o0 :: o1 :: o2 :: o3 :: o4 :: o5 :: o6 :: o7 :: o8 :: o9 :: o10 :: o11 :: r).toArray = true) (hf : Region.free md (o0 :: o1 :: o2 :: o3 :: o4 :: o5 :: o6 :: o7 :: o8 :: o9 :: o10 :: o11 :: r).toArray listed 11 = true) (hr : (Region.ready md (o0 :: o1 :: o2 :: o3 :: o4 :: o5 :: o6 :: o7 :: o8 :: o9 :: o10 :: o11 :: r).toArray listed).contains 11 = true)
    (hQ : ∀ c a w, Q (.panic c) (a.put o11.dst v) w → Q (.panic c) a w) (hT : T listed w) (hy : YieldsIf P (o0 :: o1 :: o2 :: o3 :: o4 :: o5 :: o6 :: o7 :: o8 :: o9 :: o10 :: o11 :: r).toArray (fun _ => True) o11 v a)
    (h : wpAnyT P md (o0 :: o1 :: o2 :: o3 :: o4 :: o5 :: o6 :: o7 :: o8 :: o9 :: o10 :: o11 :: r).toArray Q T fuel (listed.setIfInBounds 11 true) (a.put o11.dst v) w) : wpAnyT P md (o0 :: o1 :: o2 :: o3 :: o4 :: o5 :: o6 :: o7 :: o8 :: o9 :: o10 :: o11 :: r).toArray Q T (fuel + 1) listed a w :=
  wpAnyT_takeP rfl stays hs hf hr hQ hT hy h
theorem rdT11 {P : Program} {md : Region.Mode} {Q : Exit → Act → World → Prop} {T : Array Bool → World → Prop} {o0 o1 o2 o3 o4 o5 o6 o7 o8 o9 o10 o11 : Oper} {r : List Oper} {fuel : Nat} {listed : Array Bool} {a : Act} {w : World} {rs : List Nat}
    (h : ∀ K' : Act → World → Prop, Shut (∀ a w, T (listed.setIfInBounds 11 true) w → wpAnyT P md (o0 :: o1 :: o2 :: o3 :: o4 :: o5 :: o6 :: o7 :: o8 :: o9 :: o10 :: o11 :: r).toArray Q T fuel (listed.setIfInBounds 11 true) a w → K' a w) → if Region.wanted o11 (yielded (o0 :: o1 :: o2 :: o3 :: o4 :: o5 :: o6 :: o7 :: o8 :: o9 :: o10 :: o11 :: r).toArray a.tmps) = true then Oper.wp P o11 a w K' Q else K' (a.put o11.dst undef) w)
    (hs : AllReadyT P md (o0 :: o1 :: o2 :: o3 :: o4 :: o5 :: o6 :: o7 :: o8 :: o9 :: o10 :: o11 :: r).toArray Q T fuel listed a w rs) : AllReadyT P md (o0 :: o1 :: o2 :: o3 :: o4 :: o5 :: o6 :: o7 :: o8 :: o9 :: o10 :: o11 :: r).toArray Q T fuel listed a w (11 :: rs) :=
  AllReadyT.cons rfl h hs
end Go.Proofs.YtjkhboejhcbdpaaDoor

/- A region that draws its order and makes two boxes for sums, in whatever order: one way. -/
namespace Go.Proofs.YtjkhboejhcbdpaaDoor
open Go.RowKit Go.Lib

theorem exec_allocH (e : Operand → Value) (o : Oper) (ho : o.op = .alloc 28) (w : World) : (execOp e o).run Tryd.prog w = .ok (.value (.pointer (some ⟨w.heap.size, 0, none⟩))) (w.alloc (.cells #[.int .u8 0, .int .u8 0, .int .u8 0, .int .u8 0, .int .u8 0, .int .u8 0, .int .u8 0, .int .u8 0, .int .u8 0, .int .u8 0, .int .u8 0, .int .u8 0, .int .u8 0, .int .u8 0, .int .u8 0, .int .u8 0, .int .u8 0, .int .u8 0, .int .u8 0, .int .u8 0, .int .u8 0, .int .u8 0, .int .u8 0, .int .u8 0, .int .u8 0, .int .u8 0, .int .u8 0, .int .u8 0, .int .u8 0, .int .u8 0, .int .u8 0, .int .u8 0] 28)) := by
  obtain ⟨dst, op, ty, pos, af, g⟩ := o
  simp only at ho
  subst ho
  kernel_rfl
theorem wp_allocH {o : Oper} {a : Act} {w : World} {K : Act → World → Prop} {Q : Exit → Act → World → Prop} {ops : Array Oper} (ho : o.op = .alloc 28) (hg : o.guard = none)
    (h : K (a.put o.dst (.pointer (some ⟨w.heap.size, 0, none⟩))) (w.alloc (.cells #[.int .u8 0, .int .u8 0, .int .u8 0, .int .u8 0, .int .u8 0, .int .u8 0, .int .u8 0, .int .u8 0, .int .u8 0, .int .u8 0, .int .u8 0, .int .u8 0, .int .u8 0, .int .u8 0, .int .u8 0, .int .u8 0, .int .u8 0, .int .u8 0, .int .u8 0, .int .u8 0, .int .u8 0, .int .u8 0, .int .u8 0, .int .u8 0, .int .u8 0, .int .u8 0, .int .u8 0, .int .u8 0, .int .u8 0, .int .u8 0, .int .u8 0, .int .u8 0] 28))) : if Region.wanted o (yielded ops a.tmps) = true then Oper.wp Tryd.prog o a w K Q else K (a.put o.dst undef) w := by
  have hw : Region.wanted o (yielded ops a.tmps) = true := by unfold Region.wanted; rw [hg]
  rw [if_pos hw]
  unfold Oper.wp
  rw [exec_allocH _ _ ho, Oper.upon_value]
  exact h
theorem two_new {md : Region.Mode} {Q : Exit → Act → World → Prop} {S : World → Prop} {ops : Array Oper} {oi oj : Oper} {fuel : Nat} {listed : Array Bool} {a : Act} {w : World} (i j : Nat)
    (hi : ops[i]? = some oi) (hj : ops[j]? = some oj) (ai : oi.op = .alloc 28) (aj : oj.op = .alloc 28) (gi : oi.guard = none) (gj : oj.guard = none) (hd : oi.dst ≠ oj.dst)
    (hij : i ≠ j) (hr : Region.ready md ops listed = [i, j]) (hri : Region.ready md ops (listed.setIfInBounds i true) = [j]) (hrj : Region.ready md ops (listed.setIfInBounds j true) = [i])
    (S1 : S (w.alloc (.cells #[.int .u8 0, .int .u8 0, .int .u8 0, .int .u8 0, .int .u8 0, .int .u8 0, .int .u8 0, .int .u8 0, .int .u8 0, .int .u8 0, .int .u8 0, .int .u8 0, .int .u8 0, .int .u8 0, .int .u8 0, .int .u8 0, .int .u8 0, .int .u8 0, .int .u8 0, .int .u8 0, .int .u8 0, .int .u8 0, .int .u8 0, .int .u8 0, .int .u8 0, .int .u8 0, .int .u8 0, .int .u8 0, .int .u8 0, .int .u8 0, .int .u8 0, .int .u8 0] 28))) (S2 : S ((w.alloc (.cells #[.int .u8 0, .int .u8 0, .int .u8 0, .int .u8 0, .int .u8 0, .int .u8 0, .int .u8 0, .int .u8 0, .int .u8 0, .int .u8 0, .int .u8 0, .int .u8 0, .int .u8 0, .int .u8 0, .int .u8 0, .int .u8 0, .int .u8 0, .int .u8 0, .int .u8 0, .int .u8 0, .int .u8 0, .int .u8 0, .int .u8 0, .int .u8 0, .int .u8 0, .int .u8 0, .int .u8 0, .int .u8 0, .int .u8 0, .int .u8 0, .int .u8 0, .int .u8 0] 28)).alloc (.cells #[.int .u8 0, .int .u8 0, .int .u8 0, .int .u8 0, .int .u8 0, .int .u8 0, .int .u8 0, .int .u8 0, .int .u8 0, .int .u8 0, .int .u8 0, .int .u8 0, .int .u8 0, .int .u8 0, .int .u8 0, .int .u8 0, .int .u8 0, .int .u8 0, .int .u8 0, .int .u8 0, .int .u8 0, .int .u8 0, .int .u8 0, .int .u8 0, .int .u8 0, .int .u8 0, .int .u8 0, .int .u8 0, .int .u8 0, .int .u8 0, .int .u8 0, .int .u8 0] 28)))
    (h : ∀ gA gB, (gA = w.heap.size ∧ gB = w.heap.size + 1) ∨ (gA = w.heap.size + 1 ∧ gB = w.heap.size) →
      wpAnyH Tryd.prog md ops Q S fuel ((listed.setIfInBounds i true).setIfInBounds j true) ((a.put oi.dst (.pointer (some ⟨gA, 0, none⟩))).put oj.dst (.pointer (some ⟨gB, 0, none⟩))) ((w.alloc (.cells #[.int .u8 0, .int .u8 0, .int .u8 0, .int .u8 0, .int .u8 0, .int .u8 0, .int .u8 0, .int .u8 0, .int .u8 0, .int .u8 0, .int .u8 0, .int .u8 0, .int .u8 0, .int .u8 0, .int .u8 0, .int .u8 0, .int .u8 0, .int .u8 0, .int .u8 0, .int .u8 0, .int .u8 0, .int .u8 0, .int .u8 0, .int .u8 0, .int .u8 0, .int .u8 0, .int .u8 0, .int .u8 0, .int .u8 0, .int .u8 0, .int .u8 0, .int .u8 0] 28)).alloc (.cells #[.int .u8 0, .int .u8 0, .int .u8 0, .int .u8 0, .int .u8 0, .int .u8 0, .int .u8 0, .int .u8 0, .int .u8 0, .int .u8 0, .int .u8 0, .int .u8 0, .int .u8 0, .int .u8 0, .int .u8 0, .int .u8 0, .int .u8 0, .int .u8 0, .int .u8 0, .int .u8 0, .int .u8 0, .int .u8 0, .int .u8 0, .int .u8 0, .int .u8 0, .int .u8 0, .int .u8 0, .int .u8 0, .int .u8 0, .int .u8 0, .int .u8 0, .int .u8 0] 28))) :
    wpAnyH Tryd.prog md ops Q S (fuel + 2) listed a w := by
  have hz : (w.alloc (.cells #[.int .u8 0, .int .u8 0, .int .u8 0, .int .u8 0, .int .u8 0, .int .u8 0, .int .u8 0, .int .u8 0, .int .u8 0, .int .u8 0, .int .u8 0, .int .u8 0, .int .u8 0, .int .u8 0, .int .u8 0, .int .u8 0, .int .u8 0, .int .u8 0, .int .u8 0, .int .u8 0, .int .u8 0, .int .u8 0, .int .u8 0, .int .u8 0, .int .u8 0, .int .u8 0, .int .u8 0, .int .u8 0, .int .u8 0, .int .u8 0, .int .u8 0, .int .u8 0] 28)).heap.size = w.heap.size + 1 := by simp
  refine wpAnyH_ready hr (by simp) (AllReadyH.cons hi (fun K hK => wp_allocH ai gi (hK.out _ _ S1 fun _ => ?_)) (AllReadyH.cons hj (fun K hK => wp_allocH aj gj (hK.out _ _ S1 fun _ => ?_)) AllReadyH.nil))
  · refine wpAnyH_ready hri (by simp) (AllReadyH.cons hj (fun K2 hK2 => wp_allocH aj gj (hK2.out _ _ S2 fun _ => ?_)) AllReadyH.nil)
    rw [hz]
    exact h _ _ (.inl ⟨rfl, rfl⟩)
  · refine wpAnyH_ready hrj (by simp) (AllReadyH.cons hi (fun K2 hK2 => wp_allocH ai gi (hK2.out _ _ S2 fun _ => ?_)) AllReadyH.nil)
    rw [hz, Act.put_comm _ _ _ (fun d h1 h2 => hd (h2.trans h1.symm)), Array.setIfInBounds_comm _ _ (Ne.symm hij)]
    exact h _ _ (.inr ⟨rfl, rfl⟩)
theorem two45 {md : Region.Mode} {Q : Exit → Act → World → Prop} {S : World → Prop} {o0 o1 o2 o3 o4 o5 : Oper} {r : List Oper} {fuel : Nat} {listed : Array Bool} {a : Act} {w : World}
    (ai : o4.op = .alloc 28) (aj : o5.op = .alloc 28) (gi : o4.guard = none) (gj : o5.guard = none) (hd : o4.dst ≠ o5.dst)
    (hr : Region.ready md (o0 :: o1 :: o2 :: o3 :: o4 :: o5 :: r).toArray listed = [4, 5]) (hri : Region.ready md (o0 :: o1 :: o2 :: o3 :: o4 :: o5 :: r).toArray (listed.setIfInBounds 4 true) = [5]) (hrj : Region.ready md (o0 :: o1 :: o2 :: o3 :: o4 :: o5 :: r).toArray (listed.setIfInBounds 5 true) = [4])
    (S1 : S (w.alloc (.cells #[.int .u8 0, .int .u8 0, .int .u8 0, .int .u8 0, .int .u8 0, .int .u8 0, .int .u8 0, .int .u8 0, .int .u8 0, .int .u8 0, .int .u8 0, .int .u8 0, .int .u8 0, .int .u8 0, .int .u8 0, .int .u8 0, .int .u8 0, .int .u8 0, .int .u8 0, .int .u8 0, .int .u8 0, .int .u8 0, .int .u8 0, .int .u8 0, .int .u8 0, .int .u8 0, .int .u8 0, .int .u8 0, .int .u8 0, .int .u8 0, .int .u8 0, .int .u8 0] 28))) (S2 : S ((w.alloc (.cells #[.int .u8 0, .int .u8 0, .int .u8 0, .int .u8 0, .int .u8 0, .int .u8 0, .int .u8 0, .int .u8 0, .int .u8 0, .int .u8 0, .int .u8 0, .int .u8 0, .int .u8 0, .int .u8 0, .int .u8 0, .int .u8 0, .int .u8 0, .int .u8 0, .int .u8 0, .int .u8 0, .int .u8 0, .int .u8 0, .int .u8 0, .int .u8 0, .int .u8 0, .int .u8 0, .int .u8 0, .int .u8 0, .int .u8 0, .int .u8 0, .int .u8 0, .int .u8 0] 28)).alloc (.cells #[.int .u8 0, .int .u8 0, .int .u8 0, .int .u8 0, .int .u8 0, .int .u8 0, .int .u8 0, .int .u8 0, .int .u8 0, .int .u8 0, .int .u8 0, .int .u8 0, .int .u8 0, .int .u8 0, .int .u8 0, .int .u8 0, .int .u8 0, .int .u8 0, .int .u8 0, .int .u8 0, .int .u8 0, .int .u8 0, .int .u8 0, .int .u8 0, .int .u8 0, .int .u8 0, .int .u8 0, .int .u8 0, .int .u8 0, .int .u8 0, .int .u8 0, .int .u8 0] 28)))
    (h : ∀ gA gB, (gA = w.heap.size ∧ gB = w.heap.size + 1) ∨ (gA = w.heap.size + 1 ∧ gB = w.heap.size) →
      wpAnyH Tryd.prog md (o0 :: o1 :: o2 :: o3 :: o4 :: o5 :: r).toArray Q S fuel ((listed.setIfInBounds 4 true).setIfInBounds 5 true) ((a.put o4.dst (.pointer (some ⟨gA, 0, none⟩))).put o5.dst (.pointer (some ⟨gB, 0, none⟩))) ((w.alloc (.cells #[.int .u8 0, .int .u8 0, .int .u8 0, .int .u8 0, .int .u8 0, .int .u8 0, .int .u8 0, .int .u8 0, .int .u8 0, .int .u8 0, .int .u8 0, .int .u8 0, .int .u8 0, .int .u8 0, .int .u8 0, .int .u8 0, .int .u8 0, .int .u8 0, .int .u8 0, .int .u8 0, .int .u8 0, .int .u8 0, .int .u8 0, .int .u8 0, .int .u8 0, .int .u8 0, .int .u8 0, .int .u8 0, .int .u8 0, .int .u8 0, .int .u8 0, .int .u8 0] 28)).alloc (.cells #[.int .u8 0, .int .u8 0, .int .u8 0, .int .u8 0, .int .u8 0, .int .u8 0, .int .u8 0, .int .u8 0, .int .u8 0, .int .u8 0, .int .u8 0, .int .u8 0, .int .u8 0, .int .u8 0, .int .u8 0, .int .u8 0, .int .u8 0, .int .u8 0, .int .u8 0, .int .u8 0, .int .u8 0, .int .u8 0, .int .u8 0, .int .u8 0, .int .u8 0, .int .u8 0, .int .u8 0, .int .u8 0, .int .u8 0, .int .u8 0, .int .u8 0, .int .u8 0] 28))) :
    wpAnyH Tryd.prog md (o0 :: o1 :: o2 :: o3 :: o4 :: o5 :: r).toArray Q S (fuel + 2) listed a w :=
  two_new 4 5 rfl rfl ai aj gi gj hd (by decide) hr hri hrj S1 S2 h
end Go.Proofs.YtjkhboejhcbdpaaDoor
