/- The contract of digest.through over this translation. -/
import Derived.Test.YtjkhboejhcbdpaaDoorDigWords
import Derived.Test.YtjkhboejhcbdpaaDoorRef5Sum
namespace Go.Proofs.YtjkhboejhcbdpaaDoor
open Go.RowKit Go.Lib
attribute [local go_sem] setCell_drewN alloc_drewN

/-- All eight have 32 bits. -/
structure U8 (s : St8) : Prop where
  a : U32 s.a
  b : U32 s.b
  c : U32 s.c
  d : U32 s.d
  e : U32 s.e
  f : U32 s.f
  g : U32 s.g
  h : U32 s.h
theorem U8.round {s : St8} (h : U8 s) (k w : Int) : U8 (round1 s k w) := ⟨m32_U _, h.a, h.b, h.c, m32_U _, h.e, h.f, h.g⟩
theorem U8.rounds {s : St8} (h : U8 s) (ws : List Int) : ∀ k, U8 (rounds8 s ws k)
  | 0 => h
  | k + 1 => (U8.rounds h ws k).round _ _
theorem U8.grow (s t : St8) : U8 (grow s t) := ⟨m32_U _, m32_U _, m32_U _, m32_U _, m32_U _, m32_U _, m32_U _, m32_U _⟩
theorem U8.get {s : St8} (h : U8 s) (j : Nat) : U32 (s8 s j) := by
  by_cases hj : j < 8
  · rcases (by omega : j = 0 ∨ j = 1 ∨ j = 2 ∨ j = 3 ∨ j = 4 ∨ j = 5 ∨ j = 6 ∨ j = 7) with rfl | rfl | rfl | rfl | rfl | rfl | rfl | rfl
    · exact h.a
    · exact h.b
    · exact h.c
    · exact h.d
    · exact h.e
    · exact h.f
    · exact h.g
    · exact h.h
  · unfold s8
    rw [List.getD_eq_getElem?_getD, List.getElem?_eq_none (by simp; omega)]
    unfold U32; simp
theorem not_nat (e : Nat) (he : e < 2 ^ 32) : (2 ^ 32 - 1) ^^^ e = 2 ^ 32 - (e + 1) := by
  apply Nat.eq_of_testBit_eq
  intro i
  rw [Nat.testBit_xor, Nat.testBit_two_pow_sub_succ he, Nat.testBit_two_pow_sub_one]
  by_cases hi : i < 32
  · simp [hi]
  · have : e.testBit i = false := Nat.testBit_lt_two_pow (Nat.lt_of_lt_of_le he (Nat.pow_le_pow_right (by decide) (by omega)))
    simp [hi, this]
theorem not_is {e : Int} (he : U32 e) : bits .xor .u32 (if IntKind.u32.signed = true then -1 else IntKind.u32.max) e = 4294967295 - e := by
  have h1 : (if IntKind.u32.signed = true then -1 else IntKind.u32.max) = (4294967295 : Int) := by decide
  have h := not_nat e.toNat (nat32 he)
  have := he.1; have := he.2
  rw [h1, u32_xor _ _ (by omega) (by omega) he.1 he.2, show ((4294967295 : Int).toNat) = 2 ^ 32 - 1 from rfl, h]
  omega
theorem grown_get (s r : St8) (i : Nat) (hi : i < 8) : s8 (grow s r) i = (s8 s i + s8 r i) % 4294967296 := by
  rcases (by omega : i = 0 ∨ i = 1 ∨ i = 2 ∨ i = 3 ∨ i = 4 ∨ i = 5 ∨ i = 6 ∨ i = 7) with rfl | rfl | rfl | rfl | rfl | rfl | rfl | rfl <;> simp [s8, grow, m32]
theorem grown_next {s r t : St8} (h : grow s r = t) (i : Nat) (hi : i < 8) (v : Int) (hv : v = (s8 s i + s8 r i) % 4294967296) : (fun j => if j = i then v else if j < i then s8 t j else s8 s j) = (fun j => if j < i + 1 then s8 t j else s8 s j) := by
  funext j
  by_cases e : j = i
  · subst e; rw [if_pos rfl, if_pos (by omega), ← h, grown_get _ _ _ hi, hv]
  · rw [if_neg e]
    by_cases e2 : j < i
    · rw [if_pos e2, if_pos (by omega)]
    · rw [if_neg e2, if_neg (by omega)]
theorem ix80 (a b c d e f g h : Value) (w : World) : (Instr.index 87 (.agg #[a, b, c, d, e, f, g, h]) (.int .i64 0)).run Tryd.prog w = .ok a w := by kernel_rfl
theorem ix81 (a b c d e f g h : Value) (w : World) : (Instr.index 87 (.agg #[a, b, c, d, e, f, g, h]) (.int .i64 1)).run Tryd.prog w = .ok b w := by kernel_rfl
theorem ix82 (a b c d e f g h : Value) (w : World) : (Instr.index 87 (.agg #[a, b, c, d, e, f, g, h]) (.int .i64 2)).run Tryd.prog w = .ok c w := by kernel_rfl
theorem ix83 (a b c d e f g h : Value) (w : World) : (Instr.index 87 (.agg #[a, b, c, d, e, f, g, h]) (.int .i64 3)).run Tryd.prog w = .ok d w := by kernel_rfl
theorem ix84 (a b c d e f g h : Value) (w : World) : (Instr.index 87 (.agg #[a, b, c, d, e, f, g, h]) (.int .i64 4)).run Tryd.prog w = .ok e w := by kernel_rfl
theorem ix85 (a b c d e f g h : Value) (w : World) : (Instr.index 87 (.agg #[a, b, c, d, e, f, g, h]) (.int .i64 5)).run Tryd.prog w = .ok f w := by kernel_rfl
theorem ix86 (a b c d e f g h : Value) (w : World) : (Instr.index 87 (.agg #[a, b, c, d, e, f, g, h]) (.int .i64 6)).run Tryd.prog w = .ok g w := by kernel_rfl
theorem ix87 (a b c d e f g h : Value) (w : World) : (Instr.index 87 (.agg #[a, b, c, d, e, f, g, h]) (.int .i64 7)).run Tryd.prog w = .ok h w := by kernel_rfl
/-- What stands while a block goes through. -/
structure TD (w0 w : World) (s : Nat → Int) (V : Nat → Int) (g5 : Nat) : Prop where
  eight : R32 w w0.heap.size 8 s
  res : R32 w (w0.heap.size + 1 + 1) 8 (fun _ => 0)
  ws : R32 w g5 64 V
  tab : Tab w 1
  lo : w0.heap.size + 1 + 1 < g5 ∧ 1 < w0.heap.size
  below : Below w0.heap.size w0 w
theorem TD.after {w0 w w' : World} {s V : Nat → Int} {g5 : Nat} (h : TD w0 w s V g5) (hb : Below w.heap.size w w') : TD w0 w' s V g5 :=
  ⟨h.eight.after hb rfl, h.res.after hb rfl, h.ws.after hb rfl, h.tab.below hb, h.lo, bOn h.below hb⟩
theorem TD.set {w0 w : World} {s V : Nat → Int} {g5 : Nat} (h : TD w0 w s V g5) (m : Nat) (hm : m < 8) (v : Int) : TD w0 (w.setCell ⟨w0.heap.size, m, none⟩ (.int .u32 v)) (fun j => if j = m then v else s j) V g5 := by
  obtain ⟨l1, l2⟩ := h.lo
  refine ⟨h.eight.set m hm v, h.res.other (by simp only []; omega) _, h.ws.other (by simp only []; omega) _, ⟨by simpa [World.setCell] using h.tab.1, fun j hj => ?_⟩, h.lo, h.below.setCell (Nat.le_refl _) _⟩
  exact (World.cell?_of_block (w := w) (a := ⟨_, j, none⟩) (Below.heap_setCell _ _ _ _ (by simp only []; omega))).trans (h.tab.2 j hj)
theorem R32.zeros8 (w : World) {g : Nat} (e : w.heap.size = g) : R32 (w.alloc (.cells #[.int .u32 0, .int .u32 0, .int .u32 0, .int .u32 0, .int .u32 0, .int .u32 0, .int .u32 0, .int .u32 0] 87)) g 8 (fun _ => 0) := by
  subst e
  have h : (Array.replicate 8 (Value.int .u32 0)) = #[.int .u32 0, .int .u32 0, .int .u32 0, .int .u32 0, .int .u32 0, .int .u32 0, .int .u32 0, .int .u32 0] := rfl
  refine ⟨by simp, fun j hj => ?_, fun o => World.frozen?_alloc_at _ _ _ _ rfl⟩
  rw [World.cell?_alloc_at _ _ _ _ rfl, ← h]; simp [hj]
set_option maxRecDepth 100000 in
set_option maxHeartbeats 8000000 in
theorem through_any (s t : St8) (f : Nat → Int) (w : World) (hs : U8 s) (hf : ∀ j, 0 ≤ f j ∧ f j < 256) (HT : Hid (grow s (rounds8 s (words (bw f) 64) 64) = t)) (ht : Tab w 1) :
    Calls Tryd.prog 52 #[.agg (wordV 8 (s8 s)).toArray, .agg (rowV 64 f).toArray] w fun e w' => e = .returned (.agg (wordV 8 (s8 t)).toArray) ∧ Below w.heap.size w w' := by
  have HF := hide hf; have HS := hide hs; have HTB := hide ht
  have HWU := hide (fun j => words_get (bw_U hf) 64 j)
  obtain ⟨WL, hWL⟩ : ∃ WL, words (bw f) 64 = WL := ⟨_, rfl⟩
  rw [hWL] at HT HWU
  obtain ⟨V, hV⟩ : ∃ V : Nat → Int, ∀ j, WL.getD j 0 = V j := ⟨_, fun _ => rfl⟩
  have HVW : Hid (∀ j, (words (bw f) 64).getD j 0 = V j) := fun j => by rw [hWL]; exact hV j
  have HV := hide hV
  clear hf hs ht hWL hV
  go_enter Tryd.func52, Tryd.ntmps52
  have BR := hide ((BRow.box (w.alloc (.cells (wordV 8 (s8 s)).toArray 87)) 64 f 93 (g := w.heap.size + 1) (by simp)).past (.cells #[.int .u32 0, .int .u32 0, .int .u32 0, .int .u32 0, .int .u32 0, .int .u32 0, .int .u32 0, .int .u32 0] 87))
  go_wp2_with (refine wpList_load_mid rfl 93 _ rfl (w.heap.size + 1) 0 rfl (rowV 64 f) _ BR.out.range Tryd.underlying93 rfl (info_b64 _) ?_)
  have R0 := hide (((R32.box w 8 (s8 s) 87 (g := w.heap.size) rfl).past (.cells (rowV 64 f).toArray 93)).past (.cells #[.int .u32 0, .int .u32 0, .int .u32 0, .int .u32 0, .int .u32 0, .int .u32 0, .int .u32 0, .int .u32 0] 87))
  have R2 := hide (R32.zeros8 ((w.alloc (.cells (wordV 8 (s8 s)).toArray 87)).alloc (.cells (rowV 64 f).toArray 93)) (g := w.heap.size + 1 + 1) (by simp))
  have B : Hid (Below w.heap.size w (((w.alloc (.cells (wordV 8 (s8 s)).toArray 87)).alloc (.cells (rowV 64 f).toArray 93)).alloc (.cells #[.int .u32 0, .int .u32 0, .int .u32 0, .int .u32 0, .int .u32 0, .int .u32 0, .int .u32 0, .int .u32 0] 87))) := bAl (bAl (bAl (bMe w)))
  have hsz : (((w.alloc (.cells (wordV 8 (s8 s)).toArray 87)).alloc (.cells (rowV 64 f).toArray 93)).alloc (.cells #[.int .u32 0, .int .u32 0, .int .u32 0, .int .u32 0, .int .u32 0, .int .u32 0, .int .u32 0, .int .u32 0] 87)).heap.size = w.heap.size + 3 := by simp
  generalize ((w.alloc (.cells (wordV 8 (s8 s)).toArray 87)).alloc (.cells (rowV 64 f).toArray 93)).alloc (.cells #[.int .u32 0, .int .u32 0, .int .u32 0, .int .u32 0, .int .u32 0, .int .u32 0, .int .u32 0, .int .u32 0] 87) = w1 at *
  refine (words_any f V w1 HF.out HVW).mono ?_
  rintro e w2 ⟨rfl, hb⟩
  have hsz2 : Hid (w.heap.size + 1 + 1 < w2.heap.size) := by have := hb.size; show _ < _; omega
  replace R0 := hide (R0.out.after hb rfl); replace R2 := hide (R2.out.after hb rfl); replace B := hide (bOn B.out hb)
  clear BR hb hsz
  have W0 := hide (R32.zeros64 w2 (g := w2.heap.size) rfl)
  go_wp2_with (refine wpList_store_mid rfl 89 _ _ rfl w2.heap.size 0 (wordV 64 V).toArray rfl rfl (W0.out.thereA V) (info_w64A V) (wordV_oneA _ _) ?_)
  have D : Hid (TD w ((w2.alloc (.cells #[.int .u32 0, .int .u32 0, .int .u32 0, .int .u32 0, .int .u32 0, .int .u32 0, .int .u32 0, .int .u32 0, .int .u32 0, .int .u32 0, .int .u32 0, .int .u32 0, .int .u32 0, .int .u32 0, .int .u32 0, .int .u32 0, .int .u32 0, .int .u32 0, .int .u32 0, .int .u32 0, .int .u32 0, .int .u32 0, .int .u32 0, .int .u32 0, .int .u32 0, .int .u32 0, .int .u32 0, .int .u32 0, .int .u32 0, .int .u32 0, .int .u32 0, .int .u32 0, .int .u32 0, .int .u32 0, .int .u32 0, .int .u32 0, .int .u32 0, .int .u32 0, .int .u32 0, .int .u32 0, .int .u32 0, .int .u32 0, .int .u32 0, .int .u32 0, .int .u32 0, .int .u32 0, .int .u32 0, .int .u32 0, .int .u32 0, .int .u32 0, .int .u32 0, .int .u32 0, .int .u32 0, .int .u32 0, .int .u32 0, .int .u32 0, .int .u32 0, .int .u32 0, .int .u32 0, .int .u32 0, .int .u32 0, .int .u32 0, .int .u32 0, .int .u32 0] 89)).setCells w2.heap.size 0 (wordV 64 V)) (s8 s) V w2.heap.size) := by
    have hb2 : Below w2.heap.size w2 ((w2.alloc (.cells #[.int .u32 0, .int .u32 0, .int .u32 0, .int .u32 0, .int .u32 0, .int .u32 0, .int .u32 0, .int .u32 0, .int .u32 0, .int .u32 0, .int .u32 0, .int .u32 0, .int .u32 0, .int .u32 0, .int .u32 0, .int .u32 0, .int .u32 0, .int .u32 0, .int .u32 0, .int .u32 0, .int .u32 0, .int .u32 0, .int .u32 0, .int .u32 0, .int .u32 0, .int .u32 0, .int .u32 0, .int .u32 0, .int .u32 0, .int .u32 0, .int .u32 0, .int .u32 0, .int .u32 0, .int .u32 0, .int .u32 0, .int .u32 0, .int .u32 0, .int .u32 0, .int .u32 0, .int .u32 0, .int .u32 0, .int .u32 0, .int .u32 0, .int .u32 0, .int .u32 0, .int .u32 0, .int .u32 0, .int .u32 0, .int .u32 0, .int .u32 0, .int .u32 0, .int .u32 0, .int .u32 0, .int .u32 0, .int .u32 0, .int .u32 0, .int .u32 0, .int .u32 0, .int .u32 0, .int .u32 0, .int .u32 0, .int .u32 0, .int .u32 0, .int .u32 0] 89)).setCells w2.heap.size 0 (wordV 64 V)) := setCells_below (bAl (bMe w2)) (Nat.le_refl _) _ _
    exact ⟨R0.out.after hb2 rfl, R2.out.after hb2 rfl, W0.out.stored V, HTB.out.below (bOn B.out hb2), ⟨hsz2.out, HTB.out.1⟩, bOn B.out hb2⟩
  generalize (w2.alloc (.cells #[.int .u32 0, .int .u32 0, .int .u32 0, .int .u32 0, .int .u32 0, .int .u32 0, .int .u32 0, .int .u32 0, .int .u32 0, .int .u32 0, .int .u32 0, .int .u32 0, .int .u32 0, .int .u32 0, .int .u32 0, .int .u32 0, .int .u32 0, .int .u32 0, .int .u32 0, .int .u32 0, .int .u32 0, .int .u32 0, .int .u32 0, .int .u32 0, .int .u32 0, .int .u32 0, .int .u32 0, .int .u32 0, .int .u32 0, .int .u32 0, .int .u32 0, .int .u32 0, .int .u32 0, .int .u32 0, .int .u32 0, .int .u32 0, .int .u32 0, .int .u32 0, .int .u32 0, .int .u32 0, .int .u32 0, .int .u32 0, .int .u32 0, .int .u32 0, .int .u32 0, .int .u32 0, .int .u32 0, .int .u32 0, .int .u32 0, .int .u32 0, .int .u32 0, .int .u32 0, .int .u32 0, .int .u32 0, .int .u32 0, .int .u32 0, .int .u32 0, .int .u32 0, .int .u32 0, .int .u32 0, .int .u32 0, .int .u32 0, .int .u32 0, .int .u32 0] 89)).setCells w2.heap.size 0 (wordV 64 V) = w3 at *
  clear R0 R2 W0 B hsz2
  generalize w2.heap.size = g5 at *
  have d0 := D.out.eight.cell 0 (by omega)
  have d1 := D.out.eight.cell 1 (by omega)
  have d2 := D.out.eight.cell 2 (by omega)
  have d3 := D.out.eight.cell 3 (by omega)
  have d4 := D.out.eight.cell 4 (by omega)
  have d5 := D.out.eight.cell 5 (by omega)
  have d6 := D.out.eight.cell 6 (by omega)
  have d7 := D.out.eight.cell 7 (by omega)
  go_wp2
  go_quiet (fail)
  have D1 : Hid (TD w (w3.drewN nq) (s8 s) V g5) := D.out.after (bDn (bMe w3))
  clear d0 d1 d2 d3 d4 d5 d6 d7 D
  generalize w3.drewN nq = w35 at *
  have d4 := D1.out.eight.cell 4 (by omega)
  have d5 := D1.out.eight.cell 5 (by omega)
  have d6 := D1.out.eight.cell 6 (by omega)
  have d7 := D1.out.eight.cell 7 (by omega)
  go_wp2
  go_quiet (fail)
  have D : Hid (TD w (w35.drewN nq) (s8 s) V g5) := D1.out.after (bDn (bMe w35))
  clear d4 d5 d6 d7 D1
  generalize w35.drewN nq = w4 at *
  go_wp2
  go_loopg [6, 7, 8, 9, 10, 11, 12, 13, 37] 64 (fun gk t6 t7 t8 t9 t10 t11 t12 t13 t37 wr => ∃ (k : Nat) (r : St8), gk + k = 64 ∧ t37 = .int .i64 k ∧ rounds8 s WL k = r ∧ t6 = .int .u32 r.a ∧ t7 = .int .u32 r.b ∧ t8 = .int .u32 r.c ∧ t9 = .int .u32 r.d ∧ t10 = .int .u32 r.e ∧ t11 = .int .u32 r.f ∧ t12 = .int .u32 r.g ∧ t13 = .int .u32 r.h ∧ TD w wr (s8 s) V g5)
  case atStart => exact ⟨0, s, by omega, rfl, rfl, rfl, rfl, rfl, rfl, rfl, rfl, rfl, rfl, D.out⟩
  case round =>
    clear D
    obtain ⟨k, r, hk, rfl, hr, rfl, rfl, rfl, rfl, rfl, rfl, rfl, rfl, hd⟩ := hrel
    have D := hide hd; have HK := hide hk; have HR := hide hr
    have HU : Hid (U8 r) := by rw [← hr]; exact HS.out.rounds WL k
    have HN : Hid (rounds8 s WL (k + 1) = round1 r (keysL.getD k 0) (V k)) := by
      show round1 (rounds8 s WL k) (keysL.getD k 0) (WL.getD k 0) = _
      rw [hr, HV.out k]
    clear hd hk hr
    by_cases hlt : k < 64
    · have hki : (k : Int) < 64 := by omega
      have ck := D.out.tab.2 k hlt
      have cv := D.out.ws.cell k hlt
      obtain ⟨ra, rb, rc, rd, re, rf, rg, rh⟩ := r
      obtain ⟨ua, ub, uc, ud, ue, uf, ug, uh⟩ := HU.out
      simp only [] at ua ub uc ud ue uf ug uh
      have Ua := hide ua; have Ub := hide ub; have Uc := hide uc; have Ue := hide ue; have Uf := hide uf; have Ug := hide ug
      have x1 := xr_is (rotr_U ue (n := 6) (by decide)) (rotr_U ue (n := 11) (by decide))
      have x2 := xr_is (xr_U (rotr_U ue (n := 6) (by decide)) (rotr_U ue (n := 11) (by decide))) (rotr_U ue (n := 25) (by decide))
      have x3 := an_is ue uf
      have un : U32 (4294967295 - re) := by unfold U32 at ue ⊢; omega
      have x4 := an_is un ug
      have x5 := xr_is (an_U ue uf) (an_U un ug)
      have y1 := xr_is (rotr_U ua (n := 2) (by decide)) (rotr_U ua (n := 13) (by decide))
      have y2 := xr_is (xr_U (rotr_U ua (n := 2) (by decide)) (rotr_U ua (n := 13) (by decide))) (rotr_U ua (n := 22) (by decide))
      have y3 := an_is ua ub
      have y4 := an_is ua uc
      have y5 := an_is ub uc
      have y6 := xr_is (an_U ua ub) (an_U ua uc)
      have y7 := xr_is (xr_U (an_U ua ub) (an_U ua uc)) (an_U ub uc)
      have xn := not_is ue
      have HC := hide (cho_is (f := rf) (g := rg) ue)
      have HM := hide (maj_is ra rb rc)
      clear ua ub uc ud ue uf ug uh un
      generalize keysL.getD k 0 = kk at *
      generalize V k = vk at *
      simp only []
      go_wp2
      go_quiet (first
        | (go_at_call_of 54 (Value.int .i64 6); exact Calls.quiet_of_same (turned6 _ _ Ue.out))
        | (go_at_call_of 54 (Value.int .i64 11); exact Calls.quiet_of_same (turned11 _ _ Ue.out))
        | (go_at_call_of 54 (Value.int .i64 25); exact Calls.quiet_of_same (turned25 _ _ Ue.out)))
      have D2 : Hid (TD w (wr.drewN nq) (s8 s) V g5) := D.out.after (bDn (bMe wr))
      clear ck cv D
      generalize wr.drewN nq = w5 at *
      go_wp2_with fail
      refine (turned2 ra _ Ua.out).mono ?_
      rintro e w6 ⟨rfl, rfl⟩
      go_wp2_with fail
      refine (turned13 ra _ Ua.out).mono ?_
      rintro e w6 ⟨rfl, rfl⟩
      go_wp2_with fail
      refine (turned22 ra _ Ua.out).mono ?_
      rintro e w6 ⟨rfl, rfl⟩
      go_wp2
      go_roundg (64 - k - 1)
      case measure => have := HK.out; omega
      case rel =>
        refine ⟨k + 1, _, by omega, by go_num, HN.out, val_i ?_, rfl, rfl, rfl, val_i ?_, rfl, rfl, rfl, D2.out⟩
        · rw [HC.out, HM.out]; simp only [round1, t1, t2, m32, Sg1, Sg0, xr3]
        · rw [HC.out]; simp only [round1, t1, t2, m32, Sg1, Sg0, xr3]
    · obtain rfl : k = 64 := by have := HK.out; omega
      rw [HR.out] at HT
      obtain ⟨ra, rb, rc, rd, re, rf, rg, rh⟩ := r
      clear HN HU HR hlt HK
      simp only []
      go_wp2
      go_loopg [109] 8 (fun gk t109 wr => ∃ i : Nat, gk + i = 8 ∧ t109 = .int .i64 i ∧ TD w wr (fun j => if j < i then s8 t j else s8 s j) V g5)
      case atStart => exact ⟨0, by omega, rfl, D.out⟩
      case round =>
        clear D
        obtain ⟨i, hi, rfl, hd⟩ := hrel
        have D := hide hd; have HI := hide hi
        clear hd hi
        by_cases hlti : i < 8
        · rcases (by omega : i = 0 ∨ i = 1 ∨ i = 2 ∨ i = 3 ∨ i = 4 ∨ i = 5 ∨ i = 6 ∨ i = 7) with rfl | rfl | rfl | rfl | rfl | rfl | rfl | rfl
          · have ci : wr.cell? ⟨w.heap.size, 0, none⟩ = some (.int .u32 (s8 s 0)) := by simpa using D.out.eight.cell 0 (by omega)
            have fi := D.out.eight.fr 0
            have ix := ix80 (.int .u32 ra) (.int .u32 rb) (.int .u32 rc) (.int .u32 rd) (.int .u32 re) (.int .u32 rf) (.int .u32 rg) (.int .u32 rh) wr
            go_wp2
            go_roundg (8 - 0 - 1)
            case measure => have := HI.out; omega
            case rel =>
              refine ⟨0 + 1, by omega, by go_num, ?_⟩
              have Z := D.out.set 0 (by omega) ((s8 s 0 + ra) % 4294967296)
              rw [grown_next HT.out 0 (by omega) ((s8 s 0 + ra) % 4294967296) rfl] at Z
              exact Z
          · have ci : wr.cell? ⟨w.heap.size, 1, none⟩ = some (.int .u32 (s8 s 1)) := by simpa using D.out.eight.cell 1 (by omega)
            have fi := D.out.eight.fr 1
            have ix := ix81 (.int .u32 ra) (.int .u32 rb) (.int .u32 rc) (.int .u32 rd) (.int .u32 re) (.int .u32 rf) (.int .u32 rg) (.int .u32 rh) wr
            go_wp2
            go_roundg (8 - 1 - 1)
            case measure => have := HI.out; omega
            case rel =>
              refine ⟨1 + 1, by omega, by go_num, ?_⟩
              have Z := D.out.set 1 (by omega) ((s8 s 1 + rb) % 4294967296)
              rw [grown_next HT.out 1 (by omega) ((s8 s 1 + rb) % 4294967296) rfl] at Z
              exact Z
          · have ci : wr.cell? ⟨w.heap.size, 2, none⟩ = some (.int .u32 (s8 s 2)) := by simpa using D.out.eight.cell 2 (by omega)
            have fi := D.out.eight.fr 2
            have ix := ix82 (.int .u32 ra) (.int .u32 rb) (.int .u32 rc) (.int .u32 rd) (.int .u32 re) (.int .u32 rf) (.int .u32 rg) (.int .u32 rh) wr
            go_wp2
            go_roundg (8 - 2 - 1)
            case measure => have := HI.out; omega
            case rel =>
              refine ⟨2 + 1, by omega, by go_num, ?_⟩
              have Z := D.out.set 2 (by omega) ((s8 s 2 + rc) % 4294967296)
              rw [grown_next HT.out 2 (by omega) ((s8 s 2 + rc) % 4294967296) rfl] at Z
              exact Z
          · have ci : wr.cell? ⟨w.heap.size, 3, none⟩ = some (.int .u32 (s8 s 3)) := by simpa using D.out.eight.cell 3 (by omega)
            have fi := D.out.eight.fr 3
            have ix := ix83 (.int .u32 ra) (.int .u32 rb) (.int .u32 rc) (.int .u32 rd) (.int .u32 re) (.int .u32 rf) (.int .u32 rg) (.int .u32 rh) wr
            go_wp2
            go_roundg (8 - 3 - 1)
            case measure => have := HI.out; omega
            case rel =>
              refine ⟨3 + 1, by omega, by go_num, ?_⟩
              have Z := D.out.set 3 (by omega) ((s8 s 3 + rd) % 4294967296)
              rw [grown_next HT.out 3 (by omega) ((s8 s 3 + rd) % 4294967296) rfl] at Z
              exact Z
          · have ci : wr.cell? ⟨w.heap.size, 4, none⟩ = some (.int .u32 (s8 s 4)) := by simpa using D.out.eight.cell 4 (by omega)
            have fi := D.out.eight.fr 4
            have ix := ix84 (.int .u32 ra) (.int .u32 rb) (.int .u32 rc) (.int .u32 rd) (.int .u32 re) (.int .u32 rf) (.int .u32 rg) (.int .u32 rh) wr
            go_wp2
            go_roundg (8 - 4 - 1)
            case measure => have := HI.out; omega
            case rel =>
              refine ⟨4 + 1, by omega, by go_num, ?_⟩
              have Z := D.out.set 4 (by omega) ((s8 s 4 + re) % 4294967296)
              rw [grown_next HT.out 4 (by omega) ((s8 s 4 + re) % 4294967296) rfl] at Z
              exact Z
          · have ci : wr.cell? ⟨w.heap.size, 5, none⟩ = some (.int .u32 (s8 s 5)) := by simpa using D.out.eight.cell 5 (by omega)
            have fi := D.out.eight.fr 5
            have ix := ix85 (.int .u32 ra) (.int .u32 rb) (.int .u32 rc) (.int .u32 rd) (.int .u32 re) (.int .u32 rf) (.int .u32 rg) (.int .u32 rh) wr
            go_wp2
            go_roundg (8 - 5 - 1)
            case measure => have := HI.out; omega
            case rel =>
              refine ⟨5 + 1, by omega, by go_num, ?_⟩
              have Z := D.out.set 5 (by omega) ((s8 s 5 + rf) % 4294967296)
              rw [grown_next HT.out 5 (by omega) ((s8 s 5 + rf) % 4294967296) rfl] at Z
              exact Z
          · have ci : wr.cell? ⟨w.heap.size, 6, none⟩ = some (.int .u32 (s8 s 6)) := by simpa using D.out.eight.cell 6 (by omega)
            have fi := D.out.eight.fr 6
            have ix := ix86 (.int .u32 ra) (.int .u32 rb) (.int .u32 rc) (.int .u32 rd) (.int .u32 re) (.int .u32 rf) (.int .u32 rg) (.int .u32 rh) wr
            go_wp2
            go_roundg (8 - 6 - 1)
            case measure => have := HI.out; omega
            case rel =>
              refine ⟨6 + 1, by omega, by go_num, ?_⟩
              have Z := D.out.set 6 (by omega) ((s8 s 6 + rg) % 4294967296)
              rw [grown_next HT.out 6 (by omega) ((s8 s 6 + rg) % 4294967296) rfl] at Z
              exact Z
          · have ci : wr.cell? ⟨w.heap.size, 7, none⟩ = some (.int .u32 (s8 s 7)) := by simpa using D.out.eight.cell 7 (by omega)
            have fi := D.out.eight.fr 7
            have ix := ix87 (.int .u32 ra) (.int .u32 rb) (.int .u32 rc) (.int .u32 rd) (.int .u32 re) (.int .u32 rf) (.int .u32 rg) (.int .u32 rh) wr
            go_wp2
            go_roundg (8 - 7 - 1)
            case measure => have := HI.out; omega
            case rel =>
              refine ⟨7 + 1, by omega, by go_num, ?_⟩
              have Z := D.out.set 7 (by omega) ((s8 s 7 + rh) % 4294967296)
              rw [grown_next HT.out 7 (by omega) ((s8 s 7 + rh) % 4294967296) rfl] at Z
              exact Z
        · obtain rfl : i = 8 := by have := HI.out; omega
          have E := hide (D.out.eight.congr (f' := s8 t) (fun j hj => if_pos hj))
          have RS := hide D.out.res
          have BS := hide D.out.below
          clear D HI hlti
          go_wp2_with (first
            | refine wpList_load_mid rfl 87 _ rfl w.heap.size 0 rfl (wordV 8 (s8 t)) _ E.out.range Tryd.underlying87 rfl (info_w8 _) ?_
            | refine wpList_store_mid rfl 87 _ _ rfl (w.heap.size + 1 + 1) 0 (wordV 8 (s8 t)).toArray rfl rfl (RS.out.thereA _) (info_w8A _) (wordV_oneA _ _) ?_)
          refine bodyPost_ret (v := .agg (wordV 8 (s8 t)).toArray) ?_ rfl ⟨rfl, setCells_below BS.out (by omega) _ _⟩
          have hlv := run_loadVar_mid (P := Tryd.prog) _ _ _ _ _ _ (RS.out.stored (s8 t)).range Tryd.underlying87 rfl (info_w8 _)
          exact results_one Tryd.results52 rfl hlv
end Go.Proofs.YtjkhboejhcbdpaaDoor
