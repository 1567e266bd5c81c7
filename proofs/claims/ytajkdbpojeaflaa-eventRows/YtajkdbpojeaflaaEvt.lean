/- Events (event.Event, sponsionref09.Event): as values, in memory; what may be. -/
import Derived.Test.YtajkdbpojeaflaaVRow
import Derived.Test.YtajkdbpojeaflaaBar
import Derived.Test.YtajkdbpojeaflaaPackMore
import Derived.Test.YtajkdbpojeaflaaHashEq
import Derived.Laws.StructEq
import Derived.Deep.MidRow
import Derived.Deep.DeepCutAuto
import Derived.Deep.CutBlock
namespace Go.Proofs.Ytajkdbpojeaflaa
open Go.RowKit Go.Lib
attribute [local go_sem] setCell_drewN alloc_drewN

/-- What an event has. -/
structure Evt where
  k : Int
  b : Int
  h : Nat → Int
  s : Int
  t : Int
  f : Int
  u : Int
  a : Int
  c : Int
  n : Int
structure Evt.Ok (x : Evt) : Prop where
  k : 0 ≤ x.k ∧ x.k < 256
  b : 0 ≤ x.b ∧ x.b < 18446744073709551616
  h : ∀ j, 0 ≤ x.h j ∧ x.h j < 256
  z : ∀ j, 32 ≤ j → x.h j = 0
  s : 0 ≤ x.s ∧ x.s < 256
  t : 0 ≤ x.t ∧ x.t < 256
  f : 0 ≤ x.f ∧ x.f < 256
  u : 0 ≤ x.u ∧ x.u < 256
  a : In x.a
  c : In x.c
  n : 0 ≤ x.n ∧ x.n < 4294967296
def noEvt : Evt := ⟨0, 0, fun _ => 0, 0, 0, 0, 0, 0, 0, 0⟩
theorem in_zero9 : In 0 := by unfold In; omega
theorem noEvt_ok : noEvt.Ok := ⟨by simp [noEvt], by simp [noEvt], by simp [noEvt], by simp [noEvt], by simp [noEvt], by simp [noEvt], by simp [noEvt], by simp [noEvt], in_zero9, in_zero9, by simp [noEvt]⟩
/-- An event's cells behind its sum. -/
def ecT (x : Evt) : List Value := [.int .u8 x.s, .int .u8 x.t, .int .u8 x.f, .int .u8 x.u, .int .u64 (lm x.a 0), .int .u64 (lm x.a 1), .int .u64 (lm x.a 2), .int .u64 (lm x.a 3), .int .u64 (lm x.c 0), .int .u64 (lm x.c 1), .int .u64 (lm x.c 2), .int .u64 (lm x.c 3), .int .u32 x.n]
/-- An event's cells. -/
def ec (x : Evt) : List Value := [.int .u8 x.k, .int .u64 x.b] ++ (rowV 32 x.h ++ ecT x)
/-- An event as a value. -/
abbrev evV (x : Evt) : Value := .agg (ec x).toArray
theorem ec_length (x : Evt) : (ec x).length = 47 := by simp [ec, ecT, rowV_length]
theorem ec_one (x : Evt) : ∀ v ∈ ec x, v.oneCell' = true := by
  intro v hv
  unfold ec at hv
  rcases List.mem_append.1 hv with hv | hv
  · simp at hv; rcases hv with rfl | rfl <;> rfl
  · rcases List.mem_append.1 hv with hv | hv
    · exact rowV_one 32 x.h v hv
    · simp [ecT] at hv; rcases hv with rfl | rfl | rfl | rfl | rfl | rfl | rfl | rfl | rfl | rfl | rfl | rfl | rfl <;> rfl
theorem ec_oneA (x : Evt) : (ec x).toArray.all (·.oneCell') = true := by
  rw [Array.all_eq_true]
  intro i hi
  exact ec_one x _ (by simp)
theorem ec_tail (x : Evt) (j : Nat) : (ec x)[34 + j]? = (ecT x)[j]? := by
  unfold ec
  rw [List.getElem?_append_right (by simp; omega), List.getElem?_append_right (by rw [rowV_length]; simp; omega), rowV_length]
  congr 1
  simp
  omega
theorem ec_hash (x : Evt) {j : Nat} (hj : j < 32) : (ec x)[2 + j]? = some (.int .u8 (x.h j)) := by
  unfold ec
  rw [List.getElem?_append_right (by simp), List.getElem?_append_left (by rw [rowV_length]; simp; omega)]
  simp [rowV_get hj]
theorem ec_inj {x y : Evt} (hx : x.Ok) (hy : y.Ok) (h : ec x = ec y) : x = y := by
  have g : ∀ j : Nat, (ec x)[j]? = (ec y)[j]? := fun j => by rw [h]
  have t : ∀ j : Nat, (ecT x)[j]? = (ecT y)[j]? := fun j => by rw [← ec_tail, ← ec_tail, h]
  have e0 := g 0
  have e1 := g 1
  have i0 : x.k = y.k := by simpa [ec] using e0
  have i1 : x.b = y.b := by simpa [ec] using e1
  have i2 : x.h = y.h := by
    funext j
    by_cases hj : j < 32
    · have := g (2 + j)
      rw [ec_hash x hj, ec_hash y hj] at this
      simpa using this
    · rw [hx.z j (by omega), hy.z j (by omega)]
  have t0 : x.s = y.s := by simpa [ecT] using t 0
  have t1 : x.t = y.t := by simpa [ecT] using t 1
  have t2 : x.f = y.f := by simpa [ecT] using t 2
  have t3 : x.u = y.u := by simpa [ecT] using t 3
  have t4 : lm x.a 0 = lm y.a 0 := by simpa [ecT] using t 4
  have t5 : lm x.a 1 = lm y.a 1 := by simpa [ecT] using t 5
  have t6 : lm x.a 2 = lm y.a 2 := by simpa [ecT] using t 6
  have t7 : lm x.a 3 = lm y.a 3 := by simpa [ecT] using t 7
  have t8 : lm x.c 0 = lm y.c 0 := by simpa [ecT] using t 8
  have t9 : lm x.c 1 = lm y.c 1 := by simpa [ecT] using t 9
  have t10 : lm x.c 2 = lm y.c 2 := by simpa [ecT] using t 10
  have t11 : lm x.c 3 = lm y.c 3 := by simpa [ecT] using t 11
  have t12 : x.n = y.n := by simpa [ecT] using t 12
  have ia : x.a = y.a := by
    have := big_eq hx.a hy.a
    rw [t4, t5, t6, t7] at this
    have h1 : same4 (lm y.a 0) (lm y.a 1) (lm y.a 2) (lm y.a 3) (lm y.a 0) (lm y.a 1) (lm y.a 2) (lm y.a 3) = true := by unfold same4; simp
    rw [h1] at this
    exact of_decide_eq_true this.symm
  have ic : x.c = y.c := by
    have := big_eq hx.c hy.c
    rw [t8, t9, t10, t11] at this
    have h1 : same4 (lm y.c 0) (lm y.c 1) (lm y.c 2) (lm y.c 3) (lm y.c 0) (lm y.c 1) (lm y.c 2) (lm y.c 3) = true := by unfold same4; simp
    rw [h1] at this
    exact of_decide_eq_true this.symm
  obtain ⟨a1, a2, a3, a4, a5, a6, a7, a8, a9, a10⟩ := x
  obtain ⟨b1, b2, b3, b4, b5, b6, b7, b8, b9, b10⟩ := y
  simp only at i0 i1 i2 t0 t1 t2 t3 ia ic t12
  subst i0 i1 i2 t0 t1 t2 t3 ia ic t12
  rfl
theorem info_evt (x : Evt) : (Try.prog.info? 40).map (·.size) = some (ec x).length := by rw [ec_length]; kernel_rfl
theorem info_evtA (x : Evt) : (Try.prog.info? 40).map (·.size) = some (ec x).toArray.size := by rw [List.size_toArray]; exact info_evt x
theorem info_rev (x : Evt) : (Try.prog.info? 37).map (·.size) = some (ec x).length := by rw [ec_length]; kernel_rfl
theorem info_revA (x : Evt) : (Try.prog.info? 37).map (·.size) = some (ec x).toArray.size := by rw [List.size_toArray]; exact info_rev x
theorem VRow.new (w : World) (vs : List Value) (t : TypeId) : VRow (w.alloc (.cells vs.toArray t)) w.heap.size vs :=
  ⟨by simp, fun j v hv => by rw [Nat.zero_add, World.cell?_alloc_at _ _ _ _ rfl]; simpa using hv, fun o => World.frozen?_alloc_at _ _ _ _ rfl⟩
/-- May it be? -/
def mayE (x : Evt) : Bool := decide (x.k ≤ 18 ∧ x.b ≤ 1099511627776 ∧ x.s ≤ 1 ∧ x.t ≤ 3 ∧ x.f ≤ 15 ∧ x.u ≤ 15)
/-- Check's answer. -/
def chkE (x : Evt) : Int := if mayE x = true then 0 else 6
theorem mayE_cases (x : Evt) : (mayE x = true ∧ x.k ≤ 18 ∧ x.b ≤ 1099511627776 ∧ x.s ≤ 1 ∧ x.t ≤ 3 ∧ x.f ≤ 15 ∧ x.u ≤ 15) ∨ (mayE x = false ∧ 18 < x.k) ∨ (mayE x = false ∧ x.k ≤ 18 ∧ 1099511627776 < x.b) ∨ (mayE x = false ∧ x.k ≤ 18 ∧ x.b ≤ 1099511627776 ∧ 1 < x.s) ∨ (mayE x = false ∧ x.k ≤ 18 ∧ x.b ≤ 1099511627776 ∧ x.s ≤ 1 ∧ 3 < x.t) ∨ (mayE x = false ∧ x.k ≤ 18 ∧ x.b ≤ 1099511627776 ∧ x.s ≤ 1 ∧ x.t ≤ 3 ∧ 15 < x.f) ∨ (mayE x = false ∧ x.k ≤ 18 ∧ x.b ≤ 1099511627776 ∧ x.s ≤ 1 ∧ x.t ≤ 3 ∧ x.f ≤ 15 ∧ 15 < x.u) := by
  unfold mayE
  simp only [decide_eq_true_eq, decide_eq_false_iff_not]
  omega
theorem ret_boolE {a b : Bool} (h : a = b) : Ending.returned (.bool a) = .returned (.bool b) := by rw [h]
theorem acct_yes (a : Int) (w : World) (h : a ≤ 15) : Calls Try.prog 21 #[.int .u8 a] w fun e w' => e = .returned (.bool true) ∧ w' = w := by
  go_enter Try.func21, Try.ntmps21
  go_wp2
  go_ret
  exact ⟨ret_boolE (by simp; omega), rfl⟩
theorem acct_no (a : Int) (w : World) (h : 15 < a) : Calls Try.prog 21 #[.int .u8 a] w fun e w' => e = .returned (.bool false) ∧ w' = w := by
  go_enter Try.func21, Try.ntmps21
  go_wp2
  go_ret
  exact ⟨ret_boolE (by simp; omega), rfl⟩
set_option maxHeartbeats 4000000 in
theorem check9_any (x : Evt) (hx : x.Ok) (w : World) : Calls Try.prog 11 #[evV x] w fun e w' => e = .returned (.int .i64 (chkE x)) ∧ Below w.heap.size w w' := by
  obtain ⟨k0, k1⟩ := hx.k
  obtain ⟨b0, b1⟩ := hx.b
  obtain ⟨s0, s1⟩ := hx.s
  obtain ⟨t0, t1⟩ := hx.t
  obtain ⟨f0, f1⟩ := hx.f
  obtain ⟨u0, u1⟩ := hx.u
  clear hx
  have V := hide (VRow.new w (ec x) 40)
  have B : Hid (Below w.heap.size w (w.alloc (.cells (ec x).toArray 40))) := bAl (bMe w)
  have hc := mayE_cases x
  obtain ⟨w1, hw1⟩ : ∃ w1, w.alloc (.cells (ec x).toArray 40) = w1 := ⟨_, rfl⟩
  rw [hw1] at V B
  obtain ⟨g, hg⟩ : ∃ g, w.heap.size = g := ⟨_, rfl⟩
  rw [hg] at V
  have c0 := V.out.cell 0 rfl
  have c1 := V.out.cell 1 rfl
  have c2 := V.out.cell 34 (ec_tail x 0)
  have c3 := V.out.cell 35 (ec_tail x 1)
  have c4 := V.out.cell 36 (ec_tail x 2)
  have c5 := V.out.cell 37 (ec_tail x 3)
  clear V
  rcases hc with ⟨hm, a1, a2, a3, a4, a5, a6⟩ | ⟨hm, a1⟩ | ⟨hm, a1, a2⟩ | ⟨hm, a1, a2, a3⟩ | ⟨hm, a1, a2, a3, a4⟩ | ⟨hm, a1, a2, a3, a4, a5⟩ | ⟨hm, a1, a2, a3, a4, a5, a6⟩
  all_goals
    have E := hide hm
    clear hm
    go_enter Try.func11, Try.ntmps11
    go_wp2_with (first
      | (go_at_call 21; refine (acct_yes _ _ (by omega)).mono ?_; rintro e w2 ⟨rfl, rfl⟩)
      | (go_at_call 21; refine (acct_no _ _ (by omega)).mono ?_; rintro e w2 ⟨rfl, rfl⟩))
    go_ret
    refine ⟨?_, by first | exact B.out | (rw [← hg]; exact B.out)⟩
    unfold chkE
    rw [E.out]
    rfl
set_option maxHeartbeats 4000000 in
theorem may9_any (x : Evt) (hx : x.Ok) (w : World) : Calls Try.prog 10 #[evV x] w fun e w' => e = .returned (.bool (mayE x)) ∧ Below w.heap.size w w' := by
  obtain ⟨k0, k1⟩ := hx.k
  obtain ⟨b0, b1⟩ := hx.b
  obtain ⟨s0, s1⟩ := hx.s
  obtain ⟨t0, t1⟩ := hx.t
  obtain ⟨f0, f1⟩ := hx.f
  obtain ⟨u0, u1⟩ := hx.u
  clear hx
  have V := hide (VRow.new w (ec x) 37)
  have B : Hid (Below w.heap.size w (w.alloc (.cells (ec x).toArray 37))) := bAl (bMe w)
  have hc := mayE_cases x
  obtain ⟨w1, hw1⟩ : ∃ w1, w.alloc (.cells (ec x).toArray 37) = w1 := ⟨_, rfl⟩
  rw [hw1] at V B
  obtain ⟨g, hg⟩ : ∃ g, w.heap.size = g := ⟨_, rfl⟩
  rw [hg] at V
  have c0 := V.out.cell 0 rfl
  have c1 := V.out.cell 1 rfl
  have c2 := V.out.cell 34 (ec_tail x 0)
  have c3 := V.out.cell 35 (ec_tail x 1)
  have c4 := V.out.cell 36 (ec_tail x 2)
  have c5 := V.out.cell 37 (ec_tail x 3)
  clear V
  rcases hc with ⟨hm, a1, a2, a3, a4, a5, a6⟩ | ⟨hm, a1⟩ | ⟨hm, a1, a2⟩ | ⟨hm, a1, a2, a3⟩ | ⟨hm, a1, a2, a3, a4⟩ | ⟨hm, a1, a2, a3, a4, a5⟩ | ⟨hm, a1, a2, a3, a4, a5, a6⟩
  all_goals
    have E := hide hm
    clear hm
    go_enter Try.func10, Try.ntmps10
    go_wp2
    go_ret
    refine ⟨?_, by first | exact B.out | (rw [← hg]; exact B.out)⟩
    rw [E.out]
    first | rfl | exact ret_boolE (by simp; omega)
end Go.Proofs.Ytajkdbpojeaflaa
