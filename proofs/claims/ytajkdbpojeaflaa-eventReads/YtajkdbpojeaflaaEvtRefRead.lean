/- The contract of sponsionref09.Read over this translation. -/
import Derived.Test.YtajkdbpojeaflaaEvtRead
import Derived.Test.YtajkdbpojeaflaaEvtLives
import Derived.Test.YtajkdbpojeaflaaRef4Read
import Derived.Test.YtajkdbpojeaflaaHand
import Derived.Lib.Bytes
namespace Go.Proofs.Ytajkdbpojeaflaa
open Go.RowKit Go.Lib
attribute [local go_sem] setCell_drewN alloc_drewN

theorem Es.other {ty : TypeId} {w0 w : World} {v : Value} {xs : List Evt} (h : Es ty w0 w v xs) {w' : World} {g : Nat} (_hs : w.heap.size ≤ w'.heap.size) (hb : ∀ k, k ≠ g → k < w.heap.size → w'.heap[k]? = w.heap[k]?) (hbel : Below w0.heap.size w0 w') (hne : ∀ k, v.ownBlock = some k → k ≠ g) : Es ty w0 w' v xs := by
  refine ⟨⟨h.own.1, ?_⟩, hbel⟩
  rcases h.own.2 with hn | ⟨b, cap, cur, rfl, hB, hg', r⟩
  · exact .inl hn
  · exact .inr ⟨b, cap, cur, rfl, hB, by rw [hb b (hne b rfl) (Array.getElem?_eq_some_iff.1 hg').1]; exact hg', r⟩
/-- What stands while one event is read. -/
structure YS9 (w0 w : World) (gx : Nat) (x : Evt) (v : Value) (ys : List Evt) : Prop where
  box : VRow w gx (ec x)
  es : Es 37 w0 w v ys
  low : w0.heap.size ≤ gx
  ne : ∀ k, v.ownBlock = some k → k ≠ gx
theorem YS9.after {w0 w w' : World} {gx : Nat} {x : Evt} {v : Value} {ys : List Evt} (h : YS9 w0 w gx x v ys) (hb : Below w.heap.size w w') : YS9 w0 w' gx x v ys := ⟨h.box.after hb rfl, h.es.after hb, h.low, h.ne⟩
theorem YS9.set {w0 w : World} {gx : Nat} {x x' : Evt} {v : Value} {ys : List Evt} (h : YS9 w0 w gx x v ys) (j : Nat) (u : Value) (hx : (ec x).set j u = ec x') : YS9 w0 (w.setCell ⟨gx, j, none⟩ u) gx x' v ys :=
  ⟨by rw [← hx]; exact h.box.set j u, h.es.other (g := gx) (by simp [World.setCell]) (fun k hk _ => Below.heap_setCell _ _ _ _ hk) (h.es.below.setCell (p := ⟨gx, j, none⟩) h.low u) h.ne, h.low, h.ne⟩
theorem YS9.seta {w0 w : World} {gx : Nat} {x : Evt} {v : Value} {ys : List Evt} (h : YS9 w0 w gx x v ys) (a : Int) : YS9 w0 ((((w.setCell ⟨gx, 38, none⟩ (.int .u64 (lm a 0))).setCell ⟨gx, 39, none⟩ (.int .u64 (lm a 1))).setCell ⟨gx, 40, none⟩ (.int .u64 (lm a 2))).setCell ⟨gx, 41, none⟩ (.int .u64 (lm a 3))) gx { x with a := a } v ys := by
  refine ⟨by rw [← ec_a]; exact (((h.box.set 38 _).set 39 _).set 40 _).set 41 _, h.es.other (g := gx) (by simp [World.setCell]) (fun k hk _ => ?_) ((((h.es.below.setCell (p := ⟨gx, 38, none⟩) h.low _).setCell (p := ⟨gx, 39, none⟩) h.low _).setCell (p := ⟨gx, 40, none⟩) h.low _).setCell (p := ⟨gx, 41, none⟩) h.low _) h.ne, h.low, h.ne⟩
  rw [Below.heap_setCell _ _ _ _ hk, Below.heap_setCell _ _ _ _ hk, Below.heap_setCell _ _ _ _ hk, Below.heap_setCell _ _ _ _ hk]
theorem YS9.setc {w0 w : World} {gx : Nat} {x : Evt} {v : Value} {ys : List Evt} (h : YS9 w0 w gx x v ys) (a : Int) : YS9 w0 ((((w.setCell ⟨gx, 42, none⟩ (.int .u64 (lm a 0))).setCell ⟨gx, 43, none⟩ (.int .u64 (lm a 1))).setCell ⟨gx, 44, none⟩ (.int .u64 (lm a 2))).setCell ⟨gx, 45, none⟩ (.int .u64 (lm a 3))) gx { x with c := a } v ys := by
  refine ⟨by rw [← ec_c]; exact (((h.box.set 42 _).set 43 _).set 44 _).set 45 _, h.es.other (g := gx) (by simp [World.setCell]) (fun k hk _ => ?_) ((((h.es.below.setCell (p := ⟨gx, 42, none⟩) h.low _).setCell (p := ⟨gx, 43, none⟩) h.low _).setCell (p := ⟨gx, 44, none⟩) h.low _).setCell (p := ⟨gx, 45, none⟩) h.low _) h.ne, h.low, h.ne⟩
  rw [Below.heap_setCell _ _ _ _ hk, Below.heap_setCell _ _ _ _ hk, Below.heap_setCell _ _ _ _ hk, Below.heap_setCell _ _ _ _ hk]
theorem YS9.as {w0 w : World} {gx : Nat} {x x' : Evt} {v : Value} {ys : List Evt} (h : YS9 w0 w gx x v ys) (e : x = x') : YS9 w0 w gx x' v ys := e ▸ h
theorem zeroR_is (w : World) : VRow (w.alloc (.cells #[.int .u8 0, .int .u64 0, .int .u8 0, .int .u8 0, .int .u8 0, .int .u8 0, .int .u8 0, .int .u8 0, .int .u8 0, .int .u8 0, .int .u8 0, .int .u8 0, .int .u8 0, .int .u8 0, .int .u8 0, .int .u8 0, .int .u8 0, .int .u8 0, .int .u8 0, .int .u8 0, .int .u8 0, .int .u8 0, .int .u8 0, .int .u8 0, .int .u8 0, .int .u8 0, .int .u8 0, .int .u8 0, .int .u8 0, .int .u8 0, .int .u8 0, .int .u8 0, .int .u8 0, .int .u8 0, .int .u8 0, .int .u8 0, .int .u8 0, .int .u8 0, .int .u64 0, .int .u64 0, .int .u64 0, .int .u64 0, .int .u64 0, .int .u64 0, .int .u64 0, .int .u64 0, .int .u32 0] 37)) w.heap.size (ec noEvt) := by
  have h := VRow.new w (ec noEvt) 37
  have e : (ec noEvt).toArray = #[.int .u8 0, .int .u64 0, .int .u8 0, .int .u8 0, .int .u8 0, .int .u8 0, .int .u8 0, .int .u8 0, .int .u8 0, .int .u8 0, .int .u8 0, .int .u8 0, .int .u8 0, .int .u8 0, .int .u8 0, .int .u8 0, .int .u8 0, .int .u8 0, .int .u8 0, .int .u8 0, .int .u8 0, .int .u8 0, .int .u8 0, .int .u8 0, .int .u8 0, .int .u8 0, .int .u8 0, .int .u8 0, .int .u8 0, .int .u8 0, .int .u8 0, .int .u8 0, .int .u8 0, .int .u8 0, .int .u8 0, .int .u8 0, .int .u8 0, .int .u8 0, .int .u64 0, .int .u64 0, .int .u64 0, .int .u64 0, .int .u64 0, .int .u64 0, .int .u64 0, .int .u64 0, .int .u32 0] := by
    simp [ec, ecT, noEvt, lm_zero, rowV, List.range, List.range.loop]
  rw [e] at h
  exact h
theorem YS9.new {w0 w : World} {v : Value} {ys : List Evt} (h : Es 37 w0 w v ys) : YS9 w0 (w.alloc (.cells #[.int .u8 0, .int .u64 0, .int .u8 0, .int .u8 0, .int .u8 0, .int .u8 0, .int .u8 0, .int .u8 0, .int .u8 0, .int .u8 0, .int .u8 0, .int .u8 0, .int .u8 0, .int .u8 0, .int .u8 0, .int .u8 0, .int .u8 0, .int .u8 0, .int .u8 0, .int .u8 0, .int .u8 0, .int .u8 0, .int .u8 0, .int .u8 0, .int .u8 0, .int .u8 0, .int .u8 0, .int .u8 0, .int .u8 0, .int .u8 0, .int .u8 0, .int .u8 0, .int .u8 0, .int .u8 0, .int .u8 0, .int .u8 0, .int .u8 0, .int .u8 0, .int .u64 0, .int .u64 0, .int .u64 0, .int .u64 0, .int .u64 0, .int .u64 0, .int .u64 0, .int .u64 0, .int .u32 0] 37)) w.heap.size noEvt v ys :=
  ⟨zeroR_is w, h.after (bAl (bMe w)), h.below.size, fun k hk => by have := (h.lt k hk).2; omega⟩
theorem YS9.put {w0 w : World} {gx : Nat} {x : Evt} {v : Value} {ys : List Evt} (h : YS9 w0 w gx x v ys) (y : Evt) : YS9 w0 (w.setCells gx 0 (ec y)) gx y v ys :=
  ⟨h.box.stored _ (by rw [ec_length, ec_length]), h.es.other (g := gx) (by rw [setCells_size]; exact Nat.le_refl _) (fun k hk _ => setCells_block _ _ _ _ _ hk) (setCells_below h.es.below h.low _ _) h.ne, h.low, h.ne⟩
theorem YS9.there {w0 w : World} {gx : Nat} {x : Evt} {v : Value} {ys : List Evt} (h : YS9 w0 w gx x v ys) (y : Evt) : w.there gx 0 (ec y).toArray.size := by
  rw [List.size_toArray, ec_length]; exact h.box.thereAt 0 47 (by rw [ec_length]; omega)
theorem build_six {o : Oper} {s0 s1 s3 s4 s5 s6 : Operand} (ho : o.op = .build 37 #[(0, s0), (1, s1), (3, s3), (4, s4), (5, s5), (6, s6)]) (ρ : Operand → Value) (k b s t f u : Int)
    (h0 : ρ s0 = .int .u8 k) (h1 : ρ s1 = .int .u64 b) (h3 : ρ s3 = .int .u8 s) (h4 : ρ s4 = .int .u8 t) (h5 : ρ s5 = .int .u8 f) (h6 : ρ s6 = .int .u8 u) (w : World) : (execOp ρ o).run Try.prog w = .ok (.value (evV ⟨k, b, fun _ => 0, s, t, f, u, 0, 0, 0⟩)) w := by
  unfold execOp
  simp only [ho, List.map_toArray, List.map_cons, List.map_nil, h0, h1, h3, h4, h5, h6]
  kernel_rfl
theorem bval_at {l : List Int} (k : Nat) (hk : k < l.length) : bval ((l.drop k).take 1) = l.getD k 0 := by
  have e : (l.drop k).take 1 = [l.getD k 0] := by
    rw [List.take_one, List.head?_drop, List.getElem?_eq_getElem hk]
    simp [hk]
  rw [e]
  simp [bval]
/-- The first k bytes of an event's sum. -/
def hUp (f : Nat → Int) (k : Nat) : Nat → Int := fun j => if j < k then f j else 0
theorem ec_hset (x : Evt) (f : Nat → Int) (k : Nat) (hk : k < 32) : (ec { x with h := hUp f k }).set (2 + k) (.int .u8 (f k)) = ec { x with h := hUp f (k + 1) } := by
  apply List.ext_getElem?
  intro i
  rw [List.getElem?_set]
  by_cases hi : 2 ≤ i ∧ i < 34
  · obtain ⟨j, rfl⟩ : ∃ j, i = 2 + j := ⟨i - 2, by omega⟩
    rw [ec_hash _ (by omega), ec_hash _ (by omega)]
    by_cases e : j = k
    · subst e
      rw [if_pos rfl, if_pos (by rw [ec_length]; omega)]
      simp [hUp]
    · rw [if_neg (by omega)]
      simp only [hUp]
      by_cases e2 : j < k
      · rw [if_pos e2, if_pos (by omega)]
      · rw [if_neg e2, if_neg (by omega)]
  · rw [if_neg (by omega)]
    by_cases h2 : i < 2
    · have hi2 : i = 0 ∨ i = 1 := by omega
      rcases hi2 with rfl | rfl <;> rfl
    · obtain ⟨j, rfl⟩ : ∃ j, i = 34 + j := ⟨i - 34, by omega⟩
      rw [ec_tail, ec_tail]; rfl
/-- What Read answers. -/
def RefReads (w w' : World) (l : List Int) (r : Ending) : Prop :=
  ((rdE l).2 = 0 ∧ ∃ v, r = .returned (.tuple #[v, .int .i64 0]) ∧ Es 37 w w' v (rdE l).1) ∨ ((rdE l).2 ≠ 0 ∧ r = .returned (.tuple #[.slice none 0 0, .int .i64 (rdE l).2]) ∧ Below w.heap.size w w')
set_option maxRecDepth 100000 in
set_option maxHeartbeats 8000000 in
theorem refread9_any (l : List Int) (w : World) (hl : Byt l) (hll : l.length ≤ 20000) :
    Calls Try.prog 15 #[.string (strOfNums l)] w fun r w' => RefReads w w' l r := by
  have HL := hide hl
  clear hl
  go_enter Try.func15, Try.ntmps15
  go_wp2
  go_loopg [0, 4] l.length (fun gk t v wr => ∃ (L : List Int) (ys : List Evt) (m : Nat), L.length = gk ∧ ys.length + gk ≤ 20000 ∧ Byt L ∧ t = .string (strOfNums L) ∧ Es 37 w wr v ys ∧ L.length ≤ m ∧ (rdE l).1 = ys ++ (rdF m L).1 ∧ (rdE l).2 = (rdF m L).2)
  case atStart => exact ⟨l, [], l.length, rfl, by simpa using hll, HL.out, rfl, ⟨World.ownsRow_nil _ _ _ _, bMe w⟩, Nat.le_refl _, by simp [rdE], rfl⟩
  case round =>
    clear HL
    obtain ⟨L, ys, m, hlen, hy, hby, rfl, hes, hm, h1, h2⟩ := hrel
    have S := hide hes; have HY := hide hy; have HB := hide hby; have HLEN := hide hlen; have H1 := hide h1; have H2 := hide h2; have HM := hide hm
    clear hes hy hby hlen h1 h2 hm
    by_cases h0 : L = []
    · subst h0
      have E1 : Hid ((rdE l).2 = 0 ∧ (rdE l).1 = ys) := by
        have a := H1.out; have b := H2.out
        rw [rdF_nil] at a b
        exact ⟨b, by simpa using a⟩
      have e : strOfNums [] = ⟨#[]⟩ := rfl
      rw [e]
      clear e
      go_wp2
      go_ret2
      exact .inl ⟨E1.out.1, _, rfl, by rw [E1.out.2]; exact S.out⟩
    · have hpos : 0 < L.length := List.length_pos_iff.2 h0
      have hsz : (strOfNums L).size = L.length := strOfNums_size L
      have hie : (strOfNums L).toList.isEmpty = false := by
        rw [strOfNums_toList]
        cases L with
        | nil => exact absurd rfl h0
        | cons a r => rfl
      by_cases hs : L.length < 113
      · have hsi : (L.length : Int) < 113 := by omega
        have E1 : Hid ((rdE l).2 = 4) := by show _ = _; rw [H2.out, rdF_short h0 hs HM.out]
        generalize strOfNums L = T at *
        go_wp2
        go_ret2
        exact .inr ⟨by rw [E1.out]; omega, by rw [E1.out]; rfl, S.out.below⟩
      · have h113 : 113 ≤ L.length := by omega
        have hsi : ¬ (L.length : Int) < 113 := by omega
        obtain ⟨x, hx⟩ : ∃ x, eof9 L = x := ⟨_, rfl⟩
        have HX : Hid x.Ok := by rw [← hx]; exact eof_ok HB.out h113
        have HXX := hide hx
        have e0 : ∀ h, (((strOfNums L)[0]'h).toNat : Int) = x.k := fun h => by rw [str_get HB.out 0 h, ← hx]; exact (bval_at 0 (by omega)).symm
        have e1 : ∀ h, (((strOfNums L)[41]'h).toNat : Int) = x.s := fun h => by rw [str_get HB.out 41 h, ← hx]; exact (bval_at 41 (by omega)).symm
        have e2 : ∀ h, (((strOfNums L)[42]'h).toNat : Int) = x.t := fun h => by rw [str_get HB.out 42 h, ← hx]; exact (bval_at 42 (by omega)).symm
        have e3 : ∀ h, (((strOfNums L)[43]'h).toNat : Int) = x.f := fun h => by rw [str_get HB.out 43 h, ← hx]; exact (bval_at 43 (by omega)).symm
        have e4 : ∀ h, (((strOfNums L)[44]'h).toNat : Int) = x.u := fun h => by rw [str_get HB.out 44 h, ← hx]; exact (bval_at 44 (by omega)).symm
        have eh : Hid (∀ (j : Nat) h, j < 32 → (((strOfNums L)[9 + j]'h).toNat : Int) = x.h j) := fun j h hj => by
          rw [str_get HB.out (9 + j) h, ← hx]
          show _ = ((L.drop 9).take 32).getD j 0
          simp [List.getD_eq_getElem?_getD, hj]
        have c1 : (strOfNums L).extract 1 9 = strOfNums ((L.drop 1).take 8) := by rw [str_cut, List.take_drop]
        have c2 : (strOfNums L).extract 45 77 = strOfNums (b32 x.a) := by
          rw [str_cut, show (77 : Nat) = 32 + 45 from rfl, ← hx]
          congr 1
          rw [show (L.take (32 + 45)).drop 45 = (L.drop 45).take 32 by rw [List.take_drop, Nat.add_comm]]
          exact (b32_rv (HB.out.drop 45) (by simp; omega)).symm
        have c3 : (strOfNums L).extract 77 109 = strOfNums (b32 x.c) := by
          rw [str_cut, show (109 : Nat) = 32 + 77 from rfl, ← hx]
          congr 1
          rw [show (L.take (32 + 77)).drop 77 = (L.drop 77).take 32 by rw [List.take_drop, Nat.add_comm]]
          exact (b32_rv (HB.out.drop 77) (by simp; omega)).symm
        have c4 : (strOfNums L).extract 109 113 = strOfNums ((L.drop 109).take 4) := by rw [str_cut, List.take_drop]
        have c5 : (strOfNums L).extract 113 L.length = strOfNums (L.drop 113) := str_drop L 113
        have V0 : Hid (∀ w, Calls Try.prog 28 #[.string (strOfNums ((L.drop 1).take 8))] w fun e w' => e = .returned (.int .u64 x.b) ∧ w' = w) := fun w => by
          have := value_any ((L.drop 1).take 8) w ((HB.out.drop 1).take 8) (by simp; omega)
          rw [← hx]; exact this
        have V1 : Hid (∀ w, Calls Try.prog 29 #[.string (strOfNums (b32 x.a))] w fun e w' => e = .returned (big x.a) ∧ Below w.heap.size w w') := fun w => intOf_any x.a w HX.out.a
        have V2 : Hid (∀ w, Calls Try.prog 29 #[.string (strOfNums (b32 x.c))] w fun e w' => e = .returned (big x.c) ∧ Below w.heap.size w w') := fun w => intOf_any x.c w HX.out.c
        have V3 : Hid (∀ w, Calls Try.prog 28 #[.string (strOfNums ((L.drop 109).take 4))] w fun e w' => e = .returned (.int .u64 x.n) ∧ w' = w) := fun w => by
          have := value_any ((L.drop 109).take 4) w ((HB.out.drop 109).take 4) (by simp; omega)
          rw [← hx]; exact this
        have wn : IntKind.u32.wrap x.n = x.n := by have := HX.out.n; rw [IntKind.wrap_u32]; omega
        have DR : Hid (strOfNums (L.drop 113) = strOfNums (L.drop 113)) := rfl
        clear hx
        generalize strOfNums (b32 x.a) = T2 at *
        generalize strOfNums (b32 x.c) = T3 at *
        generalize strOfNums ((L.drop 1).take 8) = T1 at *
        generalize strOfNums ((L.drop 109).take 4) = T4 at *
        obtain ⟨T5, hT5⟩ : ∃ T5, strOfNums (L.drop 113) = T5 := ⟨_, rfl⟩
        rw [hT5] at c5
        have HT5 := hide hT5
        clear hT5 DR
        generalize strOfNums L = T at *
        obtain ⟨n9, hn9⟩ : ∃ n, L.length = n := ⟨_, rfl⟩
        rw [hn9] at hsz c5 hsi h113 hpos
        have HN9 := hide hn9
        clear hn9
        obtain ⟨y1, hy1⟩ : ∃ y1 : Evt, (⟨x.k, x.b, fun _ => 0, x.s, x.t, x.f, x.u, 0, 0, 0⟩ : Evt) = y1 := ⟨_, rfl⟩
        go_wp2
        have X0 := hide (S.out.after (bMe wr).drew)
        refine wp_region_held_drew (S := fun _ => True) (by kernel_rfl) trivial (fun _ => ?_)
        generalize wr.drew = w4 at *
        refine tk0 (v := .string T) (by kernel_rfl) (by kernel_rfl) (by kernel_rfl) (fun _ _ _ h => h) trivial (Or.inl ⟨by rfl, fun w hw => by go_simp; try (with_reducible rfl)⟩) ?_
        simp only [Act.put, List.setIfInBounds_toArray, List.set_cons_zero, List.set_cons_succ]
        refine tk1 (v := .int .u8 x.k) (by kernel_rfl) (by kernel_rfl) (by kernel_rfl) (fun _ _ _ h => h) trivial (Or.inl ⟨by rfl, fun w hw => by go_simp; try (with_reducible rfl)⟩) ?_
        simp only [Act.put, List.setIfInBounds_toArray, List.set_cons_zero, List.set_cons_succ]
        refine tk2 (v := .string T) (by kernel_rfl) (by kernel_rfl) (by kernel_rfl) (fun _ _ _ h => h) trivial (Or.inl ⟨by rfl, fun w hw => by go_simp; try (with_reducible rfl)⟩) ?_
        simp only [Act.put, List.setIfInBounds_toArray, List.set_cons_zero, List.set_cons_succ]
        refine tk3 (v := .string T1) (by kernel_rfl) (by kernel_rfl) (by kernel_rfl) (fun _ _ _ h => h) trivial (Or.inl ⟨by rfl, fun w hw => by have q : ¬ (n9 : Int) < 9 := (by omega); have q2 : (9 : Int) ≤ n9 := (by omega); go_simp; try (with_reducible rfl)⟩) ?_
        simp only [Act.put, List.setIfInBounds_toArray, List.set_cons_zero, List.set_cons_succ]
        refine tk5 (v := .string T) (by kernel_rfl) (by kernel_rfl) (by kernel_rfl) (fun _ _ _ h => h) trivial (Or.inl ⟨by rfl, fun w hw => by go_simp; try (with_reducible rfl)⟩) ?_
        simp only [Act.put, List.setIfInBounds_toArray, List.set_cons_zero, List.set_cons_succ]
        refine tk6 (v := .int .u8 x.s) (by kernel_rfl) (by kernel_rfl) (by kernel_rfl) (fun _ _ _ h => h) trivial (Or.inl ⟨by rfl, fun w hw => by have q : ¬ (n9 : Int) ≤ 41 := (by omega); go_simp; try (with_reducible rfl)⟩) ?_
        simp only [Act.put, List.setIfInBounds_toArray, List.set_cons_zero, List.set_cons_succ]
        refine tk7 (v := .string T) (by kernel_rfl) (by kernel_rfl) (by kernel_rfl) (fun _ _ _ h => h) trivial (Or.inl ⟨by rfl, fun w hw => by go_simp; try (with_reducible rfl)⟩) ?_
        simp only [Act.put, List.setIfInBounds_toArray, List.set_cons_zero, List.set_cons_succ]
        refine tk8 (v := .int .u8 x.t) (by kernel_rfl) (by kernel_rfl) (by kernel_rfl) (fun _ _ _ h => h) trivial (Or.inl ⟨by rfl, fun w hw => by have q : ¬ (n9 : Int) ≤ 42 := (by omega); go_simp; try (with_reducible rfl)⟩) ?_
        simp only [Act.put, List.setIfInBounds_toArray, List.set_cons_zero, List.set_cons_succ]
        refine tk9 (v := .string T) (by kernel_rfl) (by kernel_rfl) (by kernel_rfl) (fun _ _ _ h => h) trivial (Or.inl ⟨by rfl, fun w hw => by go_simp; try (with_reducible rfl)⟩) ?_
        simp only [Act.put, List.setIfInBounds_toArray, List.set_cons_zero, List.set_cons_succ]
        refine tk10 (v := .int .u8 x.f) (by kernel_rfl) (by kernel_rfl) (by kernel_rfl) (fun _ _ _ h => h) trivial (Or.inl ⟨by rfl, fun w hw => by have q : ¬ (n9 : Int) ≤ 43 := (by omega); go_simp; try (with_reducible rfl)⟩) ?_
        simp only [Act.put, List.setIfInBounds_toArray, List.set_cons_zero, List.set_cons_succ]
        refine tk11 (v := .string T) (by kernel_rfl) (by kernel_rfl) (by kernel_rfl) (fun _ _ _ h => h) trivial (Or.inl ⟨by rfl, fun w hw => by go_simp; try (with_reducible rfl)⟩) ?_
        simp only [Act.put, List.setIfInBounds_toArray, List.set_cons_zero, List.set_cons_succ]
        refine tk12 (v := .int .u8 x.u) (by kernel_rfl) (by kernel_rfl) (by kernel_rfl) (fun _ _ _ h => h) trivial (Or.inl ⟨by rfl, fun w hw => by have q : ¬ (n9 : Int) ≤ 44 := (by omega); go_simp; try (with_reducible rfl)⟩) ?_
        simp only [Act.put, List.setIfInBounds_toArray, List.set_cons_zero, List.set_cons_succ]
        refine wpAnyH_ready (rs := [4, 14]) (by kernel_rfl) (by simp) ?_
        refine rd4 (fun K hK => ?_) (rd14 (fun K hK => ?_) AllReadyH.nil)
        go_simp
        refine (V0.out _).mono ?_
        rintro e w5 ⟨rfl, rfl⟩
        simp only []
        refine hK.out _ _ trivial (fun _ => ?_)
        clear hK K
        refine tk13 (v := evV y1) (by kernel_rfl) (by kernel_rfl) (by kernel_rfl) (fun _ _ _ h => h) trivial (Or.inl ⟨by rfl, fun w hw => by rw [← hy1]; exact build_six rfl _ _ _ _ _ _ _ rfl rfl rfl rfl rfl rfl w⟩) ?_
        simp only [Act.put, List.setIfInBounds_toArray, List.set_cons_zero, List.set_cons_succ]
        refine wpAnyH_ready (rs := [14]) (by kernel_rfl) (by simp) ?_
        refine rd14 (fun K hK => ?_) AllReadyH.nil
        go_simp
        have X1 := hide (YS9.new X0.out)
        generalize w5.alloc (.cells #[.int .u8 0, .int .u64 0, .int .u8 0, .int .u8 0, .int .u8 0, .int .u8 0, .int .u8 0, .int .u8 0, .int .u8 0, .int .u8 0, .int .u8 0, .int .u8 0, .int .u8 0, .int .u8 0, .int .u8 0, .int .u8 0, .int .u8 0, .int .u8 0, .int .u8 0, .int .u8 0, .int .u8 0, .int .u8 0, .int .u8 0, .int .u8 0, .int .u8 0, .int .u8 0, .int .u8 0, .int .u8 0, .int .u8 0, .int .u8 0, .int .u8 0, .int .u8 0, .int .u8 0, .int .u8 0, .int .u8 0, .int .u8 0, .int .u8 0, .int .u8 0, .int .u64 0, .int .u64 0, .int .u64 0, .int .u64 0, .int .u64 0, .int .u64 0, .int .u64 0, .int .u64 0, .int .u32 0] 37) = w7 at *
        generalize w5.heap.size = gx at *
        refine hK.out _ _ trivial (fun _ => ?_)
        clear hK K
        refine wpAnyH_ready (rs := [15]) (by kernel_rfl) (by simp) ?_
        refine rd15 (fun K hK => ?_) AllReadyH.nil
        rw [if_pos (by rfl)]
        refine wp_store_mid _ _ _ rfl gx 0 (ec y1).toArray rfl rfl (X1.out.there y1) (info_revA y1) (ec_oneA y1) ?_
        have X := hide (X1.out.put y1)
        rw [List.toList_toArray]
        generalize w7.setCells gx 0 (ec y1) = w8 at *
        clear X0 X1
        refine hK.out _ _ trivial (fun _ => ?_)
        clear hK K
        refine wpAnyH_done (by kernel_rfl) ?_ _
        rotate_left
        go_simp
        have X1 := hide (YS9.new X0.out)
        generalize w4.alloc (.cells #[.int .u8 0, .int .u64 0, .int .u8 0, .int .u8 0, .int .u8 0, .int .u8 0, .int .u8 0, .int .u8 0, .int .u8 0, .int .u8 0, .int .u8 0, .int .u8 0, .int .u8 0, .int .u8 0, .int .u8 0, .int .u8 0, .int .u8 0, .int .u8 0, .int .u8 0, .int .u8 0, .int .u8 0, .int .u8 0, .int .u8 0, .int .u8 0, .int .u8 0, .int .u8 0, .int .u8 0, .int .u8 0, .int .u8 0, .int .u8 0, .int .u8 0, .int .u8 0, .int .u8 0, .int .u8 0, .int .u8 0, .int .u8 0, .int .u8 0, .int .u8 0, .int .u64 0, .int .u64 0, .int .u64 0, .int .u64 0, .int .u64 0, .int .u64 0, .int .u64 0, .int .u64 0, .int .u32 0] 37) = w7 at *
        generalize w4.heap.size = gx at *
        refine hK.out _ _ trivial (fun _ => ?_)
        clear hK K
        refine wpAnyH_ready (rs := [4]) (by kernel_rfl) (by simp) ?_
        refine rd4 (fun K hK => ?_) AllReadyH.nil
        go_simp
        refine (V0.out _).mono ?_
        rintro e w5 ⟨rfl, rfl⟩
        simp only []
        refine hK.out _ _ trivial (fun _ => ?_)
        clear hK K
        refine tk13 (v := evV y1) (by kernel_rfl) (by kernel_rfl) (by kernel_rfl) (fun _ _ _ h => h) trivial (Or.inl ⟨by rfl, fun w hw => by rw [← hy1]; exact build_six rfl _ _ _ _ _ _ _ rfl rfl rfl rfl rfl rfl w⟩) ?_
        simp only [Act.put, List.setIfInBounds_toArray, List.set_cons_zero, List.set_cons_succ]
        refine wpAnyH_ready (rs := [15]) (by kernel_rfl) (by simp) ?_
        refine rd15 (fun K hK => ?_) AllReadyH.nil
        rw [if_pos (by rfl)]
        refine wp_store_mid _ _ _ rfl gx 0 (ec y1).toArray rfl rfl (X1.out.there y1) (info_revA y1) (ec_oneA y1) ?_
        have X := hide (X1.out.put y1)
        rw [List.toList_toArray]
        generalize w5.setCells gx 0 (ec y1) = w8 at *
        clear X0 X1
        refine hK.out _ _ trivial (fun _ => ?_)
        clear hK K
        refine wpAnyH_done (by kernel_rfl) ?_ _
        all_goals
          simp only [Act.put]
          go_wp2
          go_loopw [26] (fun t wq => ∃ k : Nat, k ≤ 32 ∧ t = .int .i64 k ∧ YS9 w wq gx { y1 with h := hUp x.h k } u4 ys) (fun t _ => 32 - (intOf t).toNat)
          case atStart => exact ⟨0, by omega, rfl, X.out.as (by subst hy1; have e : hUp x.h 0 = fun _ => 0 := (by funext j; simp [hUp]); rw [e])⟩
          case round =>
            clear X
            obtain ⟨k, hk, rfl, hX⟩ := hrel
            have X := hide hX
            clear hX
            by_cases hlt : k < 32
            · have hki : (k : Int) < 32 := by omega
              obtain ⟨q, hq⟩ : ∃ q : Nat, 9 + k = q := ⟨_, rfl⟩
              have hqi : (9 : Int) + (k : Int) = (q : Int) := by omega
              have ek : ∀ h, ((T[q]'h).toNat : Int) = x.h k := by
                subst hq
                exact fun h => eh.out k h hlt
              have hqn : (q : Int) < (n9 : Int) := by omega
              have hqn2 : ¬ (n9 : Int) ≤ (q : Int) := by omega
              have cc := X.out.box.cell (2 + k) (ec_hash _ hlt)
              have ff := X.out.box.fr (2 + k)
              have HX2 := hide (X.out.set (2 + k) (.int .u8 (x.h k)) (ec_hset y1 x.h k hlt))
              clear hq
              go_wp2
              go_roundw
              case rel => exact ⟨k + 1, by omega, by go_num, HX2.out⟩
              case measure => simp [intOf]; omega
            · obtain rfl : k = 32 := by omega
              have hU : hUp x.h 32 = x.h := by
                funext j
                unfold hUp
                by_cases hj : j < 32
                · rw [if_pos hj]
                · rw [if_neg hj, HX.out.z j (by omega)]
              rw [hU] at X
              clear hU hlt hk
              have q45 : (77 : Int) ≤ (n9 : Int) := by omega
              have q77 : (109 : Int) ≤ (n9 : Int) := by omega
              have q109 : (113 : Int) ≤ (n9 : Int) := by omega
              go_wp2_with fail
              refine (V1.out _).mono ?_
              rintro r wa ⟨rfl, hb⟩
              replace X := hide (X.out.after hb)
              clear hb
              have d0 := X.out.box.cell 38 (ec_tail _ 4)
              have g0 := X.out.box.fr 38
              have d1 := X.out.box.cell 39 (ec_tail _ 5)
              have g1 := X.out.box.fr 39
              have d2 := X.out.box.cell 40 (ec_tail _ 6)
              have g2 := X.out.box.fr 40
              have d3 := X.out.box.cell 41 (ec_tail _ 7)
              have g3 := X.out.box.fr 41
              go_wp2_with fail
              clear d0 g0 d1 g1 d2 g2 d3 g3
              replace X := hide (X.out.seta x.a)
              refine (V2.out _).mono ?_
              rintro r wb ⟨rfl, hb⟩
              replace X := hide (X.out.after hb)
              clear hb
              have d0 := X.out.box.cell 42 (ec_tail _ 8)
              have g0 := X.out.box.fr 42
              have d1 := X.out.box.cell 43 (ec_tail _ 9)
              have g1 := X.out.box.fr 43
              have d2 := X.out.box.cell 44 (ec_tail _ 10)
              have g2 := X.out.box.fr 44
              have d3 := X.out.box.cell 45 (ec_tail _ 11)
              have g3 := X.out.box.fr 45
              go_wp2_with fail
              clear d0 g0 d1 g1 d2 g2 d3 g3
              replace X := hide (X.out.setc x.c)
              refine (V3.out _).mono ?_
              rintro r wc ⟨rfl, hwc⟩
              replace X := hide (hwc.symm ▸ X.out)
              clear hwc
              have d0 := X.out.box.cell 46 (ec_tail _ 12)
              have g0 := X.out.box.fr 46
              replace X := hide ((X.out.set 46 (.int .u32 x.n) (ec_n _ _)).as (x' := x) (by rw [← hy1]))
              go_wp2_with (refine wpList_load_mid rfl 37 _ rfl gx 0 rfl (ec x) _ ?hr Try.underlying37 rfl (info_rev x) ?_; (case hr => exact X.out.box.range))
              clear d0 g0
              refine (may9_any x HX.out _).mono ?_
              rintro r wd ⟨rfl, hb⟩
              replace X := hide (X.out.after hb)
              clear hb
              have HC : Hid (113 ≤ L.length) := by show _ ≤ _; rw [HN9.out]; exact h113
              cases hm : mayE x with
              | false =>
                have E1 : Hid ((rdE l).2 = 6) := by show _ = _; rw [H2.out, rdF_bad HC.out HM.out (by rw [HXX.out]; exact hm)]
                clear hm
                go_wp2
                go_ret2
                exact .inr ⟨by rw [E1.out]; omega, by rw [E1.out]; rfl, X.out.es.below⟩
              | true =>
                obtain ⟨m', hm', hr'⟩ := rdF_more HC.out HM.out (by rw [HXX.out]; exact hm)
                have E1 : Hid ((rdE l).1 = (ys ++ [x]) ++ (rdF m' (L.drop 113)).1 ∧ (rdE l).2 = (rdF m' (L.drop 113)).2) := by
                  have a := H1.out; have b := H2.out
                  rw [hr'] at a b
                  exact ⟨by rw [a, HXX.out]; simp, b⟩
                have HM' := hide hm'
                have hly : ys.length ≤ 100000 := by have := HY.out; omega
                clear hm hm' hr'
                go_wp2_with (first
                  | (refine wpList_load_mid rfl 37 _ rfl gx 0 rfl (ec x) _ ?hr Try.underlying37 rfl (info_rev x) ?_; (case hr => exact X.out.box.range))
                  | refine build_evR rfl _ rfl x rfl ?_
                  | (at_builtin; refine app_evR rfl _ _ rfl _ ys x rfl rfl X.out.es hly ?_))
                intro v' we hv' _ _
                have S2 := hide hv'
                clear hv'
                go_wp2
                go_roundg (L.drop 113).length
                case measure => have := HLEN.out; have := HC.out; simp; omega
                case rel => exact ⟨L.drop 113, ys ++ [x], m', rfl, by have := HY.out; have := HLEN.out; have := HC.out; simp; omega, HB.out.drop 113, by rw [HT5.out], S2.out, HM'.out, E1.out.1, E1.out.2⟩
end Go.Proofs.Ytajkdbpojeaflaa
