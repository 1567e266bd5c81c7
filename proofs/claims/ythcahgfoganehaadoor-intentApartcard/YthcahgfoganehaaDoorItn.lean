/- Intents (api.Intent): as values, in memory, alike or not; what may be (intent.Check, sponsionref07.May). -/
import Derived.Test.YthcahgfoganehaaDoorPackWriter
import Derived.Test.YthcahgfoganehaaDoorBar
import Derived.Test.YthcahgfoganehaaDoorPackMore
import Derived.Laws.StructEq
namespace Go.Proofs.YthcahgfoganehaaDoor
open Go.RowKit Go.Lib
attribute [local go_sem] setCell_drewN alloc_drewN eqInt

/-- What an intent has. -/
structure Itn where
  i : Int
  t : Int
  o : Int
  a : Int
structure Itn.Ok (x : Itn) : Prop where
  i : 0 ≤ x.i ∧ x.i < 4294967296
  t : 0 ≤ x.t ∧ x.t < 256
  o : 0 ≤ x.o ∧ x.o < 256
  a : In x.a
def noItn : Itn := ⟨0, 0, 0, 0⟩
theorem in_zero : In 0 := by unfold In; omega
theorem noItn_ok : noItn.Ok := ⟨by simp [noItn], by simp [noItn], by simp [noItn], in_zero⟩
/-- An intent's cells. -/
abbrev itn7 (i t o a b c d : Int) : Value := .agg #[.int .u32 i, .int .u8 t, .int .u8 o, .int .u64 a, .int .u64 b, .int .u64 c, .int .u64 d]
abbrev itnV (x : Itn) : Value := itn7 x.i x.t x.o (lm x.a 0) (lm x.a 1) (lm x.a 2) (lm x.a 3)
theorem noItn_V : itnV noItn = itn7 0 0 0 0 0 0 0 := by
  show itn7 0 0 0 (lm 0 0) (lm 0 1) (lm 0 2) (lm 0 3) = _
  rw [lm_zero, lm_zero, lm_zero, lm_zero]
/-- An intent's bytes. -/
def ibytes (x : Itn) : List Int := be x.i 4 ++ be x.t 1 ++ be x.o 1 ++ b32 x.a
theorem ibytes_length (x : Itn) : (ibytes x).length = 38 := by simp [ibytes, be_length, b32_length]
theorem b32_byt (a : Int) : Byt (b32 a) := by
  intro y hy; obtain ⟨i, _, rfl⟩ := List.mem_map.1 hy; exact bt_bd a i
theorem ibytes_byt (x : Itn) : Byt (ibytes x) := (((pre_byt _ _ _).app (pre_byt _ _ _)).app (pre_byt _ _ _)).app (b32_byt _)
/-- May it be? -/
def may (x : Itn) : Bool := decide (x.t < 4 ∧ x.o < 16 ∧ x.a ≠ 0)
/-- Are two intents alike? -/
def same7 (i t o a b c d i' t' o' a' b' c' d' : Int) : Bool := i == i' && t == t' && o == o' && same4 a b c d a' b' c' d'
theorem eqIntD (k : Nat) (a0 a1 a2 a3 b0 b1 b2 b3 : Int) (w : World) : (Op.equalIn (k + 2) 25 (.agg #[.int .u64 a0, .int .u64 a1, .int .u64 a2, .int .u64 a3]) (.agg #[.int .u64 b0, .int .u64 b1, .int .u64 b2, .int .u64 b3])).run Tryd.prog w = .ok (same4 a0 a1 a2 a3 b0 b1 b2 b3) w := by
  unfold same4
  have u3 := Tryd.underlying23
  have a3' := Tryd.isAgg23
  have z3 := Tryd.sizeOf23
  rw [Op.equalIn]
  simp only [Sem.run_bind, run_underlying Tryd.underlying25, Result.andThen_ok]
  simp only [Std.Legacy.Range.forIn_eq_forIn_range', Std.Legacy.Range.size, Nat.sub_zero, Nat.add_sub_cancel, Nat.div_one, List.range'_succ, List.range'_zero, List.forIn_cons, List.forIn_nil]
  go_simp
  by_cases h0 : a0 = b0 <;> by_cases h1 : a1 = b1 <;> by_cases h2 : a2 = b2 <;> by_cases h3 : a3 = b3 <;> simp [h0, h1, h2, h3]
theorem eqInt9 (a0 a1 a2 a3 b0 b1 b2 b3 : Int) (w : World) : (Op.equalIn 9999 25 (.agg #[.int .u64 a0, .int .u64 a1, .int .u64 a2, .int .u64 a3]) (.agg #[.int .u64 b0, .int .u64 b1, .int .u64 b2, .int .u64 b3])).run Tryd.prog w = .ok (same4 a0 a1 a2 a3 b0 b1 b2 b3) w := eqIntD 9997 ..
theorem same4_me (a : Int) : same4 (lm a 0) (lm a 1) (lm a 2) (lm a 3) (lm a 0) (lm a 1) (lm a 2) (lm a 3) = true := by unfold same4; simp
theorem itn_fields : Tryd.prog.underlying 27 = some (.struct (Tryd.prog.fieldsOf 27)) := by kernel_rfl
theorem itn_held : Tryd.prog.stoodInHeld 27 = false := by kernel_rfl
theorem itn_list : ((Tryd.prog.fieldsOf 27).toList.map fun f => (f.name == "_", f.type, f.offset)) = [(false, 22, 0), (false, 5, 1), (false, 5, 2), (false, 25, 3)] := by kernel_rfl
theorem four_fields (l : List Field) (h : l.length = 4) : ∃ a b c d, l = [a, b, c, d] := by
  match l, h with
  | [a, b, c, d], _ => exact ⟨a, b, c, d, rfl⟩
theorem eqF_cons (d : Nat) (xs ys : Array Value) (w : World) (f : Field) (fs : List Field) {a b : Value} {e : Bool} (hn : (f.name == "_") = false) (h1 : (part f.type xs f.offset).run Tryd.prog w = .ok a w) (h2 : (part f.type ys f.offset).run Tryd.prog w = .ok b w) (h3 : (Op.equalIn d f.type a b).run Tryd.prog w = .ok e w) {r : Bool} (hr : (Op.eqFields d xs ys fs).run Tryd.prog w = .ok r w) :
    (Op.eqFields d xs ys (f :: fs)).run Tryd.prog w = .ok (e && r) w := by
  have hn' : f.name ≠ "_" := by simpa using hn
  unfold Op.eqFields
  rw [if_pos hn']
  simp only [Sem.run_bind, h1, h2, h3, Result.andThen_ok]
  cases e <;> simp [hr]
theorem part0 (i t o a b c d : Int) (w : World) : (part 22 #[.int .u32 i, .int .u8 t, .int .u8 o, .int .u64 a, .int .u64 b, .int .u64 c, .int .u64 d] 0).run Tryd.prog w = .ok (.int .u32 i) w := by kernel_rfl
theorem part1 (i t o a b c d : Int) (w : World) : (part 5 #[.int .u32 i, .int .u8 t, .int .u8 o, .int .u64 a, .int .u64 b, .int .u64 c, .int .u64 d] 1).run Tryd.prog w = .ok (.int .u8 t) w := by kernel_rfl
theorem part2 (i t o a b c d : Int) (w : World) : (part 5 #[.int .u32 i, .int .u8 t, .int .u8 o, .int .u64 a, .int .u64 b, .int .u64 c, .int .u64 d] 2).run Tryd.prog w = .ok (.int .u8 o) w := by kernel_rfl
theorem part3 (i t o a b c d : Int) (w : World) : (part 25 #[.int .u32 i, .int .u8 t, .int .u8 o, .int .u64 a, .int .u64 b, .int .u64 c, .int .u64 d] 3).run Tryd.prog w = .ok (.agg #[.int .u64 a, .int .u64 b, .int .u64 c, .int .u64 d]) w := by kernel_rfl
theorem eqItn (i t o a b c d i' t' o' a' b' c' d' : Int) (w : World) : (Op.equalIn 10000 27 (itn7 i t o a b c d) (itn7 i' t' o' a' b' c' d')).run Tryd.prog w = .ok (same7 i t o a b c d i' t' o' a' b' c' d') w := by
  rw [show (10000 : Nat) = 9999 + 1 from rfl, run_equalIn_struct w 9999 27 _ _ itn_fields itn_held]
  have hl := itn_list
  generalize (Tryd.prog.fieldsOf 27).toList = fs at hl ⊢
  obtain ⟨f0, f1, f2, f3, rfl⟩ := four_fields fs (by have := congrArg List.length hl; simpa using this)
  · simp only [List.map_cons, List.map_nil, List.cons.injEq, Prod.mk.injEq, and_true] at hl
    obtain ⟨⟨n0, t0, o0⟩, ⟨n1, t1, o1⟩, ⟨n2, t2, o2⟩, n3, t3, o3⟩ := hl
    have h0 := eqF_cons 9999 #[.int .u32 i, .int .u8 t, .int .u8 o, .int .u64 a, .int .u64 b, .int .u64 c, .int .u64 d] #[.int .u32 i', .int .u8 t', .int .u8 o', .int .u64 a', .int .u64 b', .int .u64 c', .int .u64 d'] w f3 [] n3 (by rw [t3, o3]; exact part3 ..) (by rw [t3, o3]; exact part3 ..) (by rw [t3]; exact eqIntD 9997 ..) (r := true) rfl
    have h1 := eqF_cons 9999 #[.int .u32 i, .int .u8 t, .int .u8 o, .int .u64 a, .int .u64 b, .int .u64 c, .int .u64 d] #[.int .u32 i', .int .u8 t', .int .u8 o', .int .u64 a', .int .u64 b', .int .u64 c', .int .u64 d'] w f2 [f3] n2 (by rw [t2, o2]; exact part2 ..) (by rw [t2, o2]; exact part2 ..) (by rw [t2]; exact run_equalIn_int w 9998 _ .u8 .u8 _ _ Tryd.underlying5) h0
    have h2 := eqF_cons 9999 #[.int .u32 i, .int .u8 t, .int .u8 o, .int .u64 a, .int .u64 b, .int .u64 c, .int .u64 d] #[.int .u32 i', .int .u8 t', .int .u8 o', .int .u64 a', .int .u64 b', .int .u64 c', .int .u64 d'] w f1 [f2, f3] n1 (by rw [t1, o1]; exact part1 ..) (by rw [t1, o1]; exact part1 ..) (by rw [t1]; exact run_equalIn_int w 9998 _ .u8 .u8 _ _ Tryd.underlying5) h1
    have h3 := eqF_cons 9999 #[.int .u32 i, .int .u8 t, .int .u8 o, .int .u64 a, .int .u64 b, .int .u64 c, .int .u64 d] #[.int .u32 i', .int .u8 t', .int .u8 o', .int .u64 a', .int .u64 b', .int .u64 c', .int .u64 d'] w f0 [f1, f2, f3] n0 (by rw [t0, o0]; exact part0 ..) (by rw [t0, o0]; exact part0 ..) (by rw [t0]; exact run_equalIn_int w 9998 _ .u32 .u32 _ _ Tryd.underlying22) h2
    rw [h3]
    unfold same7
    simp [Bool.and_assoc]
theorem itn_inj {x y : Itn} (hx : x.Ok) (hy : y.Ok) : same7 x.i x.t x.o (lm x.a 0) (lm x.a 1) (lm x.a 2) (lm x.a 3) y.i y.t y.o (lm y.a 0) (lm y.a 1) (lm y.a 2) (lm y.a 3) = true ↔ x = y := by
  unfold same7
  rw [big_eq hx.a hy.a]
  obtain ⟨i, t, o, a⟩ := x
  obtain ⟨i', t', o', a'⟩ := y
  simp [and_assoc]
theorem itn_self (x : Itn) : same7 x.i x.t x.o (lm x.a 0) (lm x.a 1) (lm x.a 2) (lm x.a 3) x.i x.t x.o (lm x.a 0) (lm x.a 1) (lm x.a 2) (lm x.a 3) = true := by
  unfold same7 same4; simp
/-- Block g of w holds an intent, and may be written. -/
structure Bx (w : World) (g : Nat) (i t o a b c d : Int) : Prop where
  lt : g < w.heap.size
  c0 : w.cell? ⟨g, 0, none⟩ = some (.int .u32 i)
  c1 : w.cell? ⟨g, 1, none⟩ = some (.int .u8 t)
  c2 : w.cell? ⟨g, 2, none⟩ = some (.int .u8 o)
  c3 : w.cell? ⟨g, 3, none⟩ = some (.int .u64 a)
  c4 : w.cell? ⟨g, 4, none⟩ = some (.int .u64 b)
  c5 : w.cell? ⟨g, 5, none⟩ = some (.int .u64 c)
  c6 : w.cell? ⟨g, 6, none⟩ = some (.int .u64 d)
  fr : ∀ o, w.frozen? ⟨g, o, none⟩ = false
theorem Bx.of {w w' : World} {g : Nat} {i t o a b c d : Int} (h : Bx w g i t o a b c d) (hs : w.heap.size ≤ w'.heap.size) (hb : w'.heap[g]? = w.heap[g]?) : Bx w' g i t o a b c d := by
  have hc : ∀ j, w'.cell? ⟨g, j, none⟩ = w.cell? ⟨g, j, none⟩ := fun j => World.cell?_of_block (w := w) (a := ⟨g, j, none⟩) hb
  exact ⟨Nat.lt_of_lt_of_le h.lt hs, (hc 0).trans h.c0, (hc 1).trans h.c1, (hc 2).trans h.c2, (hc 3).trans h.c3, (hc 4).trans h.c4, (hc 5).trans h.c5, (hc 6).trans h.c6, fun o => (World.frozen?_of_block (w := w) (a := ⟨g, o, none⟩) hb).trans (h.fr o)⟩
theorem Bx.after {w w1 w' : World} {g : Nat} {i t o a b c d : Int} (h : Bx w g i t o a b c d) (hb : Below w1.heap.size w1 w') (e : w1.heap = w.heap) : Bx w' g i t o a b c d :=
  h.of (by rw [← e]; exact hb.size) (by rw [hb.block g (by rw [e]; exact h.lt), e])
theorem Bx.past {w : World} {g : Nat} {i t o a b c d : Int} (h : Bx w g i t o a b c d) (x : Obj) : Bx (w.alloc x) g i t o a b c d := h.of (by simp) (Below.heap_alloc _ _ _ h.lt)
theorem Bx.bar {w w' : World} {g g' : Nat} {i t o a b c d : Int} (h : Bx w g i t o a b c d) (hb : Bar g' w w') (hne : g ≠ g') : Bx w' g i t o a b c d := h.of hb.size (hb.block g h.lt hne)
theorem Bx.wrote {w w' : World} {g g' : Nat} {i t o a b c d : Int} {ao ao' : Option Addr} (h : Bx w g i t o a b c d) (hb : Wrote g' ao ao' w w') (hne : g ≠ g') (hr : blk ao ≠ some g) : Bx w' g i t o a b c d := h.of hb.size (hb.block g h.lt hne hr)
theorem Bx.other {w : World} {g : Nat} {i t o a b c d : Int} (h : Bx w g i t o a b c d) {p : Addr} (hp : g ≠ p.block) (v : Value) : Bx (w.setCell p v) g i t o a b c d := h.of (by simp [World.setCell]) (Below.heap_setCell _ _ _ _ hp)
theorem Bx.new (w : World) (i t o a b c d : Int) (ty : TypeId) {g : Nat} (e : w.heap.size = g) : Bx (w.alloc (.cells #[.int .u32 i, .int .u8 t, .int .u8 o, .int .u64 a, .int .u64 b, .int .u64 c, .int .u64 d] ty)) g i t o a b c d := by
  subst e
  exact ⟨by simp, by simp [go_sem], by simp [go_sem], by simp [go_sem], by simp [go_sem], by simp [go_sem], by simp [go_sem], by simp [go_sem], fun o => by simp [go_sem]⟩
theorem Bx.set0 {w : World} {g : Nat} {i t o a b c d : Int} (h : Bx w g i t o a b c d) (v : Int) : Bx (w.setCell ⟨g, 0, none⟩ (.int .u32 v)) g v t o a b c d := by
  obtain ⟨lt, c0, c1, c2, c3, c4, c5, c6, fr⟩ := h
  exact ⟨by simpa [World.setCell] using lt, by simp [go_sem, c0], by simp [go_sem, c1], by simp [go_sem, c2], by simp [go_sem, c3], by simp [go_sem, c4], by simp [go_sem, c5], by simp [go_sem, c6], fun o => by simp [go_sem, fr]⟩
theorem Bx.set1 {w : World} {g : Nat} {i t o a b c d : Int} (h : Bx w g i t o a b c d) (v : Int) : Bx (w.setCell ⟨g, 1, none⟩ (.int .u8 v)) g i v o a b c d := by
  obtain ⟨lt, c0, c1, c2, c3, c4, c5, c6, fr⟩ := h
  exact ⟨by simpa [World.setCell] using lt, by simp [go_sem, c0], by simp [go_sem, c1], by simp [go_sem, c2], by simp [go_sem, c3], by simp [go_sem, c4], by simp [go_sem, c5], by simp [go_sem, c6], fun o => by simp [go_sem, fr]⟩
theorem Bx.set2 {w : World} {g : Nat} {i t o a b c d : Int} (h : Bx w g i t o a b c d) (v : Int) : Bx (w.setCell ⟨g, 2, none⟩ (.int .u8 v)) g i t v a b c d := by
  obtain ⟨lt, c0, c1, c2, c3, c4, c5, c6, fr⟩ := h
  exact ⟨by simpa [World.setCell] using lt, by simp [go_sem, c0], by simp [go_sem, c1], by simp [go_sem, c2], by simp [go_sem, c3], by simp [go_sem, c4], by simp [go_sem, c5], by simp [go_sem, c6], fun o => by simp [go_sem, fr]⟩
/-- A number is stored from the fourth cell on. -/
abbrev putA (w : World) (g : Nat) (a b c d : Int) : World := (((w.setCell ⟨g, 3, none⟩ (.int .u64 a)).setCell ⟨g, 4, none⟩ (.int .u64 b)).setCell ⟨g, 5, none⟩ (.int .u64 c)).setCell ⟨g, 6, none⟩ (.int .u64 d)
theorem Bx.putA {w : World} {g : Nat} {i t o a b c d : Int} (h : Bx w g i t o a b c d) (a' b' c' d' : Int) : Bx (putA w g a' b' c' d') g i t o a' b' c' d' := by
  obtain ⟨lt, c0, c1, c2, c3, c4, c5, c6, fr⟩ := h
  exact ⟨by simpa [World.setCell] using lt, by simp [go_sem, c0], by simp [go_sem, c1], by simp [go_sem, c2], by simp [go_sem, c3], by simp [go_sem, c4], by simp [go_sem, c5], by simp [go_sem, c6], fun o => by simp [go_sem, fr]⟩
/-- An intent is stored. -/
abbrev put7 (w : World) (g : Nat) (i t o a b c d : Int) : World := putA (((w.setCell ⟨g, 0, none⟩ (.int .u32 i)).setCell ⟨g, 1, none⟩ (.int .u8 t)).setCell ⟨g, 2, none⟩ (.int .u8 o)) g a b c d
theorem Bx.put {w : World} {g : Nat} {i t o a b c d : Int} (h : Bx w g i t o a b c d) (i' t' o' a' b' c' d' : Int) : Bx (put7 w g i' t' o' a' b' c' d') g i' t' o' a' b' c' d' := (((h.set0 i').set1 t').set2 o').putA a' b' c' d'
theorem put7_below {B : Nat} {a w : World} {g : Nat} {i t o x y z u : Int} (h : Below B a w) (hg : B ≤ g) : Below B a (put7 w g i t o x y z u) :=
  ((((((h.setCell hg _).setCell hg _).setCell hg _).setCell hg _).setCell hg _).setCell hg _).setCell hg _
theorem Bx.range {w : World} {g : Nat} {i t o a b c d : Int} (h : Bx w g i t o a b c d) : w.rangeAt g 0 [.int .u32 i, .int .u8 t, .int .u8 o, .int .u64 a, .int .u64 b, .int .u64 c, .int .u64 d] := by
  intro j v hv
  have hj : j = 0 ∨ j = 1 ∨ j = 2 ∨ j = 3 ∨ j = 4 ∨ j = 5 ∨ j = 6 := by have := (List.getElem?_eq_some_iff.1 hv).1; simp at this; omega
  rcases hj with rfl | rfl | rfl | rfl | rfl | rfl | rfl <;> simp at hv <;> subst hv
  · exact h.c0
  · exact h.c1
  · exact h.c2
  · exact h.c3
  · exact h.c4
  · exact h.c5
  · exact h.c6

theorem same4_zero {a : Int} (ha : In a) : same4 (lm a 0) (lm a 1) (lm a 2) (lm a 3) 0 0 0 0 = decide (a = 0) := by
  have := big_eq ha in_zero
  rwa [lm_zero, lm_zero, lm_zero, lm_zero] at this
theorem ret_bool7 {a b : Bool} (h : a = b) : Ending.returned (.bool a) = .returned (.bool b) := by rw [h]
/-- Check's answer. -/
def chk (x : Itn) : Int := if may x = true then 0 else 6
set_option maxHeartbeats 4000000 in
theorem check_any (x : Itn) (hx : x.Ok) (w : World) : Calls Tryd.prog 14 #[itnV x] w fun e w' => e = .returned (.int .i64 (chk x)) ∧ Below w.heap.size w w' := by
  have H := hide hx
  obtain ⟨t0, t1⟩ := hx.t
  obtain ⟨o0, o1⟩ := hx.o
  have h4 := same4_zero hx.a
  clear hx
  by_cases ht : x.t < 4
  · have ht' : ¬ 4 ≤ x.t := by omega
    by_cases ho : x.o < 16
    · have ho' : ¬ 16 ≤ x.o := by omega
      by_cases ha : x.a = 0
      · have hd : decide (x.a = 0) = true := by simpa using ha
        rw [hd] at h4
        have E : Hid (chk x = 6) := by show chk x = 6; unfold chk may; simp [ha]
        clear ha hd
        go_enter Tryd.func14, Tryd.ntmps14
        go_wp2
        go_ret
        exact ⟨by rw [E.out]; rfl, bAl (bMe w)⟩
      · have hd : decide (x.a = 0) = false := by simpa using ha
        rw [hd] at h4
        have E : Hid (chk x = 0) := by show chk x = 0; unfold chk may; simp [ha, ht, ho]
        clear ha hd
        go_enter Tryd.func14, Tryd.ntmps14
        go_wp2
        go_ret
        exact ⟨by rw [E.out]; rfl, bAl (bMe w)⟩
    · have ho' : 16 ≤ x.o := by omega
      have E : Hid (chk x = 6) := by show chk x = 6; unfold chk may; simp [ho]
      clear h4
      go_enter Tryd.func14, Tryd.ntmps14
      go_wp2
      go_ret
      exact ⟨by rw [E.out]; rfl, bAl (bMe w)⟩
  · have ht' : 4 ≤ x.t := by omega
    have E : Hid (chk x = 6) := by show chk x = 6; unfold chk may; simp [ht]
    clear h4
    go_enter Tryd.func14, Tryd.ntmps14
    go_wp2
    go_ret
    exact ⟨by rw [E.out]; rfl, bAl (bMe w)⟩
end Go.Proofs.YthcahgfoganehaaDoor
