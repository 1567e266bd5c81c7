/- The walk of sponsionlaw07.IntentReads over this translation. -/
import Derived.Test.YthcahgfoganehaaItnRefGet
import Derived.Lib.Bytes
namespace Go.Proofs.Ythcahgfoganehaa
open Go.RowKit Go.Lib
attribute [local go_sem] setCell_drewN alloc_drewN eqInt9

theorem refget_any (l : List Int) (w : World) (hb : Byt l) :
    Calls Try.prog 7 #[rd l 0] w fun r w' => ∃ x l' e', r = .returned (.tuple #[rd l' e', itnV x]) ∧ Got l 0 x l' e' ∧ Below w.heap.size w w' := by
  by_cases h : 38 ≤ l.length
  · exact refget_yes l w h hb
  · refine (refget_no l 0 w (.inr (by omega))).mono ?_
    rintro r w' ⟨rfl, hb⟩
    exact ⟨noItn, [], errOf 0, by rw [noItn_V], .inr (.inr ⟨.inr (by omega), rfl, rfl, rfl⟩), hb⟩
/-- The three ways in which bytes are read. -/
theorem reads_cases {l : List Int} {x : Itn} {e : Int} (h : ReadA l x e) (hl : Byt l) : ∃ x1 l1 e1, Got l 0 x1 l1 e1 ∧ ((l1 ≠ [] ∧ e1 = 0 ∧ e = 5 ∧ x = noItn) ∨ (l1 = [] ∧ e1 = 0 ∧ e = 0 ∧ x = x1 ∧ ibytes x = l ∧ x.Ok) ∨ (l1 = [] ∧ e1 ≠ 0 ∧ e = e1 ∧ x = noItn ∧ x1 = noItn)) := by
  obtain ⟨x1, l1, e1, hg, he, hx⟩ := h
  refine ⟨x1, l1, e1, hg, ?_⟩
  obtain ⟨k1, k2, k3⟩ := hg.ok hl
  unfold endOf at he
  by_cases hl1 : l1 = []
  · rw [if_neg (by simp [hl1])] at he
    by_cases he1 : e1 = 0
    · rcases hx with ⟨h1, rfl⟩ | ⟨h1, _⟩
      · refine .inr (.inl ⟨hl1, he1, h1, rfl, ?_, k1⟩)
        rcases hg with ⟨_, g2, _, rfl, g5, _⟩ | ⟨_, _, _, _, _, g6⟩ | ⟨_, _, _, g4⟩
        · have hlen : l.length ≤ 38 := by
            rw [hl1] at g5
            have := List.drop_eq_nil_iff.1 g5.symm
            exact this
          rw [ibytes_iof hl g2, List.take_of_length_le hlen]
        · omega
        · exact absurd (g4.symm.trans he1) (errOf_ne 0)
      · exact absurd (he.trans he1) h1
    · rcases hx with ⟨h1, _⟩ | ⟨_, rfl⟩
      · exact absurd (he.symm.trans h1) he1
      · refine .inr (.inr ⟨hl1, he1, he, rfl, ?_⟩)
        rcases hg with ⟨_, _, _, _, _, g6⟩ | ⟨_, _, _, g4, _, _⟩ | ⟨_, g4, _⟩
        · exact absurd g6 he1
        · exact g4
        · exact g4
  · have hp : 0 < l1.length := by cases l1 with
      | nil => exact absurd rfl hl1
      | cons a r => simp
    rw [if_pos hp] at he
    have he1 : e1 = 0 := Classical.byContradiction fun hc => hl1 (k3 hc)
    rcases hx with ⟨h1, _⟩ | ⟨_, rfl⟩
    · omega
    · exact .inl ⟨hl1, he1, he, rfl⟩
theorem str_nil_iff {l : List Int} (h : l ≠ []) : (strOfNums l).toList.isEmpty = false := by
  rw [strOfNums_toList]
  cases l with
  | nil => exact absurd rfl h
  | cons a r => rfl
/-- What stands behind both reads: what was read, the document's reader and intent. -/
structure RS7 (w0 : World) (g3 g5 g6 : Nat) (x : Itn) (S : ByteArray) (e1 i t o a b c d : Int) (w : World) : Prop where
  b3 : Bx w g3 x.i x.t x.o (lm x.a 0) (lm x.a 1) (lm x.a 2) (lm x.a 3)
  r5 : R2 w g5 S e1
  b6 : Bx w g6 i t o a b c d
  below : Below w0.heap.size w0 w
theorem RS7.after {w0 w w' : World} {g3 g5 g6 : Nat} {x : Itn} {S : ByteArray} {e1 i t o a b c d : Int} (h : RS7 w0 g3 g5 g6 x S e1 i t o a b c d w) (hb : Below w.heap.size w w') : RS7 w0 g3 g5 g6 x S e1 i t o a b c d w' :=
  ⟨h.b3.after hb rfl, h.r5.after hb rfl, h.b6.after hb rfl, bOn h.below hb⟩
theorem RS7.new {w0 w : World} {g3 : Nat} {x : Itn} (h : Bx w g3 x.i x.t x.o (lm x.a 0) (lm x.a 1) (lm x.a 2) (lm x.a 3)) (hb : Below w0.heap.size w0 w) (S : ByteArray) (e1 : Int) (i t o a b c d : Int) (t1 t2 : TypeId) :
    RS7 w0 g3 w.heap.size (w.heap.size + 1) x S e1 i t o a b c d ((w.alloc (.cells #[.string S, .int .i64 e1] t1)).alloc (.cells #[.int .u32 i, .int .u8 t, .int .u8 o, .int .u64 a, .int .u64 b, .int .u64 c, .int .u64 d] t2)) :=
  ⟨(h.past _).past _, (R2.new w S e1 t1 rfl).past _, Bx.new _ _ _ _ _ _ _ _ _ (by simp), bAl (bAl hb)⟩
theorem no7 {x : Itn} (h : x = noItn) : x.i = 0 ∧ x.t = 0 ∧ x.o = 0 ∧ same4 (lm x.a 0) (lm x.a 1) (lm x.a 2) (lm x.a 3) 0 0 0 0 = true := by
  subst h
  refine ⟨rfl, rfl, rfl, ?_⟩
  show same4 (lm 0 0) (lm 0 1) (lm 0 2) (lm 0 3) 0 0 0 0 = true
  rw [lm_zero, lm_zero, lm_zero, lm_zero]; rfl
set_option maxRecDepth 100000 in
set_option maxHeartbeats 8000000 in
theorem intentReads_walk (ao : Option Addr) (cap : Nat) (l : List Int) (w : World) (hbs : l.length ≤ cap ∧ cap ≤ maxLen ∧ (ao = none → cap = 0) ∧ At w ao l ∧ Byt l) :
    Calls Try.prog 3 #[.slice ao l.length cap] w fun e w' => e = .returned (.bool true) ∧ Below w.heap.size w w' := by
  obtain ⟨h1, h2, h3, h4, h5⟩ := hbs
  have HA := hide h4; have HB := hide h5; have HN := hide h3
  clear h3 h4 h5
  by_cases hlen : l.length ≤ 200
  · have hli : ¬ (200 : Int) < (l.length : Int) := by omega
    have HLN := hide hlen
    go_enter Try.func3, Try.ntmps3
    go_wp2_with fail
    refine (lives7_any w).mono ?_
    rintro e w1 ⟨rfl, hb⟩
    have B := hide hb
    clear hb
    go_wp2_with fail
    refine (read_any ao cap l (HA.out.below B.out) HN.out HB.out (by omega)).mono ?_
    rintro r w2 ⟨x, e, rfl, hr, hb⟩
    replace B := hide (bOn B.out hb)
    obtain ⟨x1, l1, e1, hg, hc⟩ := reads_cases hr HB.out
    have HG := hide hg; have HC := hide hc
    clear hr hb hg hc
    have P := hide (Bx.new w2 x.i x.t x.o (lm x.a 0) (lm x.a 1) (lm x.a 2) (lm x.a 3) 29 rfl)
    replace B := hide (bAl (o := .cells #[.int .u32 x.i, .int .u8 x.t, .int .u8 x.o, .int .u64 (lm x.a 0), .int .u64 (lm x.a 1), .int .u64 (lm x.a 2), .int .u64 (lm x.a 3)] 29) B.out)
    have hcv : ∀ w', Below w.heap.size w w' → (convert 22 9 (.slice ao l.length cap)).run Try.prog w' = .ok (.string (strOfNums l)) w' := fun w' hb => (HA.out.below hb).str cap
    have hcv1 := hcv _ B.out
    have HCV := hide hcv
    clear hcv
    go_wp2_with fail
    generalize w2.alloc (.cells #[.int .u32 x.i, .int .u8 x.t, .int .u8 x.o, .int .u64 (lm x.a 0), .int .u64 (lm x.a 1), .int .u64 (lm x.a 2), .int .u64 (lm x.a 3)] 29) = w3 at *
    generalize w2.heap.size = g3 at *
    clear hcv1
    refine (refget_any l w3 HB.out).mono ?_
    rintro r w4 ⟨x2, l2, e2, rfl, hg, hb⟩
    obtain ⟨rfl, rfl, rfl⟩ := HG.out.one hg
    have P4 := hide (P.out.after hb rfl)
    replace B := hide (bOn B.out hb)
    clear hg hb P
    obtain ⟨S, hS⟩ : ∃ S, strOfNums l1 = S := ⟨_, rfl⟩
    simp only [rd, hS]
    have HS := hide hS
    clear hS
    rcases HC.out with ⟨k1, k2, k3, k4⟩ | ⟨k1, k2, k3, k4, k5, k6⟩ | ⟨k1, k2, k3, k4, k5⟩
    · have hne := str_nil_iff k1
      rw [HS.out] at hne
      obtain ⟨hs1, hs2, hs3, hs4⟩ := no7 k4
      clear HC HS HG k1 hlen hli k4
      subst k2 k3
      go_wp2
      have R := hide (RS7.new P4.out B.out S 5 0 0 0 0 0 0 0 34 29)
      generalize (w4.alloc (.cells #[.string S, .int .i64 5] 34)).alloc (.cells #[.int .u32 0, .int .u8 0, .int .u8 0, .int .u64 0, .int .u64 0, .int .u64 0, .int .u64 0] 29) = w5 at *
      generalize w4.heap.size + 1 = g6 at *
      generalize w4.heap.size = g5 at *
      have X := hide (R.out.after (bMe w5).drew)
      clear R
      refine wp_region_held_drew (S := fun w' => RS7 w g3 g5 g6 x S 5 0 0 0 0 0 0 0 w') (by kernel_rfl) X.out (fun _ => ?_)
      generalize w5.drew = w6 at *
      refine tk0 (by kernel_rfl) (by kernel_rfl) (by kernel_rfl) (fun _ _ _ h => h) X.out (yieldsIf_load_mid (by rfl) _ _ rfl g3 (0) rfl ([.int .u32 x.i, .int .u8 x.t, .int .u8 x.o, .int .u64 (lm x.a 0), .int .u64 (lm x.a 1), .int .u64 (lm x.a 2), .int .u64 (lm x.a 3)]) _ (fun _ hw => hw.b3.range) Try.underlying29 rfl (by kernel_rfl)) ?_
      simp only [Act.put, List.setIfInBounds_toArray, List.set_cons_zero, List.set_cons_succ]
      refine tk1 (by kernel_rfl) (by kernel_rfl) (by kernel_rfl) (fun _ _ _ h => h) X.out (yieldsIf_load_mid (by rfl) _ _ rfl g6 (0) rfl ([.int .u32 0, .int .u8 0, .int .u8 0, .int .u64 0, .int .u64 0, .int .u64 0, .int .u64 0]) _ (fun _ hw => hw.b6.range) Try.underlying29 rfl (by kernel_rfl)) ?_
      simp only [Act.put, List.setIfInBounds_toArray, List.set_cons_zero, List.set_cons_succ]
      refine tk2 (v := .bool true) (by kernel_rfl) (by kernel_rfl) (by kernel_rfl) (fun _ _ _ h => h) X.out (Or.inl ⟨by rfl, fun w hw => by go_simp; try (with_reducible rfl)⟩) ?_
      simp only [Act.put, List.setIfInBounds_toArray, List.set_cons_zero, List.set_cons_succ]
      refine tk3 (v := .bool true) (by kernel_rfl) (by kernel_rfl) (by kernel_rfl) (fun _ _ _ h => h) X.out (Or.inl ⟨by rfl, fun w hw => by go_simp; try (with_reducible rfl)⟩) ?_
      simp only [Act.put, List.setIfInBounds_toArray, List.set_cons_zero, List.set_cons_succ]
      refine tk4 (v := .int .i64 5) (by kernel_rfl) (by kernel_rfl) (by kernel_rfl) (fun _ _ _ h => h) X.out (Or.inl ⟨by rfl, fun w hw => by go_simp; try (with_reducible rfl)⟩) ?_
      simp only [Act.put, List.setIfInBounds_toArray, List.set_cons_zero, List.set_cons_succ]
      refine tk5 (v := .pointer (some ⟨g5, 1, none⟩)) (by kernel_rfl) (by kernel_rfl) (by kernel_rfl) (fun _ _ _ h => h) X.out (Or.inl ⟨by rfl, fun w hw => by go_simp; try (with_reducible rfl)⟩) ?_
      simp only [Act.put, List.setIfInBounds_toArray, List.set_cons_zero, List.set_cons_succ]
      refine tk6 (v := .int .i64 5) (by kernel_rfl) (by kernel_rfl) (by kernel_rfl) (fun _ _ _ h => h) X.out (Or.inl ⟨by rfl, fun w hw => by have c := hw.r5.c1; go_simp; try (with_reducible rfl)⟩) ?_
      simp only [Act.put, List.setIfInBounds_toArray, List.set_cons_zero, List.set_cons_succ]
      refine tk7 (v := .bool true) (by kernel_rfl) (by kernel_rfl) (by kernel_rfl) (fun _ _ _ h => h) X.out (Or.inl ⟨by rfl, fun w hw => by go_simp; try (with_reducible rfl)⟩) ?_
      simp only [Act.put, List.setIfInBounds_toArray, List.set_cons_zero, List.set_cons_succ]
      refine tk8 (v := .bool true) (by kernel_rfl) (by kernel_rfl) (by kernel_rfl) (fun _ _ _ h => h) X.out (Or.inl ⟨by rfl, fun w hw => by go_simp; try (with_reducible rfl)⟩) ?_
      simp only [Act.put, List.setIfInBounds_toArray, List.set_cons_zero, List.set_cons_succ]
      refine tk9 (v := .bool true) (by kernel_rfl) (by kernel_rfl) (by kernel_rfl) (fun _ _ _ h => h) X.out (Or.inl ⟨by rfl, fun w hw => by go_simp; try (with_reducible rfl)⟩) ?_
      simp only [Act.put, List.setIfInBounds_toArray, List.set_cons_zero, List.set_cons_succ]
      refine tk10 (v := .int .i64 5) (by kernel_rfl) (by kernel_rfl) (by kernel_rfl) (fun _ _ _ h => h) X.out (Or.inl ⟨by rfl, fun w hw => by go_simp; try (with_reducible rfl)⟩) ?_
      simp only [Act.put, List.setIfInBounds_toArray, List.set_cons_zero, List.set_cons_succ]
      refine tk11 (v := .bool true) (by kernel_rfl) (by kernel_rfl) (by kernel_rfl) (fun _ _ _ h => h) X.out (Or.inl ⟨by rfl, fun w hw => by go_simp; try (with_reducible rfl)⟩) ?_
      simp only [Act.put, List.setIfInBounds_toArray, List.set_cons_zero, List.set_cons_succ]
      refine tk12 (v := .bool true) (by kernel_rfl) (by kernel_rfl) (by kernel_rfl) (fun _ _ _ h => h) X.out (Or.inl ⟨by rfl, fun w hw => by go_simp; try (with_reducible rfl)⟩) ?_
      simp only [Act.put, List.setIfInBounds_toArray, List.set_cons_zero, List.set_cons_succ]
      refine tk13 (v := undef) (by kernel_rfl) (by kernel_rfl) (by kernel_rfl) (fun _ _ _ h => h) X.out (Or.inr ⟨by rfl, rfl⟩) ?_
      simp only [Act.put, List.setIfInBounds_toArray, List.set_cons_zero, List.set_cons_succ]
      refine tk14 (v := undef) (by kernel_rfl) (by kernel_rfl) (by kernel_rfl) (fun _ _ _ h => h) X.out (Or.inr ⟨by rfl, rfl⟩) ?_
      simp only [Act.put, List.setIfInBounds_toArray, List.set_cons_zero, List.set_cons_succ]
      refine tk15 (v := undef) (by kernel_rfl) (by kernel_rfl) (by kernel_rfl) (fun _ _ _ h => h) X.out (Or.inr ⟨by rfl, rfl⟩) ?_
      simp only [Act.put, List.setIfInBounds_toArray, List.set_cons_zero, List.set_cons_succ]
      refine tk16 (v := undef) (by kernel_rfl) (by kernel_rfl) (by kernel_rfl) (fun _ _ _ h => h) X.out (Or.inr ⟨by rfl, rfl⟩) ?_
      simp only [Act.put, List.setIfInBounds_toArray, List.set_cons_zero, List.set_cons_succ]
      refine tk17 (v := undef) (by kernel_rfl) (by kernel_rfl) (by kernel_rfl) (fun _ _ _ h => h) X.out (Or.inr ⟨by rfl, rfl⟩) ?_
      simp only [Act.put, List.setIfInBounds_toArray, List.set_cons_zero, List.set_cons_succ]
      refine tk18 (v := undef) (by kernel_rfl) (by kernel_rfl) (by kernel_rfl) (fun _ _ _ h => h) X.out (Or.inr ⟨by rfl, rfl⟩) ?_
      simp only [Act.put, List.setIfInBounds_toArray, List.set_cons_zero, List.set_cons_succ]
      refine tk19 (v := .bool true) (by kernel_rfl) (by kernel_rfl) (by kernel_rfl) (fun _ _ _ h => h) X.out (Or.inl ⟨by rfl, fun w hw => by go_simp; try (with_reducible rfl)⟩) ?_
      simp only [Act.put, List.setIfInBounds_toArray, List.set_cons_zero, List.set_cons_succ]
      refine tk20 (v := .bool true) (by kernel_rfl) (by kernel_rfl) (by kernel_rfl) (fun _ _ _ h => h) X.out (Or.inl ⟨by rfl, fun w hw => by go_simp; try (with_reducible rfl)⟩) ?_
      simp only [Act.put, List.setIfInBounds_toArray, List.set_cons_zero, List.set_cons_succ]
      refine tk21 (v := .bool true) (by kernel_rfl) (by kernel_rfl) (by kernel_rfl) (fun _ _ _ h => h) X.out (Or.inl ⟨by rfl, fun w hw => by go_simp; try (with_reducible rfl)⟩) ?_
      simp only [Act.put, List.setIfInBounds_toArray, List.set_cons_zero, List.set_cons_succ]
      refine wpAnyH_done (by kernel_rfl) ?_ _
      go_wp2
      go_ret
      exact ⟨rfl, X.out.below⟩
    · have hne : S.toList.isEmpty = true := by rw [← HS.out, k1, strOfNums_toList]; rfl
      have hs4 := same4_me x.a
      have HX := hide k6
      clear HC HS HG k1 hlen hli k6
      subst k2 k3 k4
      go_wp2
      have R := hide (RS7.new P4.out B.out S 0 x.i x.t x.o (lm x.a 0) (lm x.a 1) (lm x.a 2) (lm x.a 3) 34 29)
      generalize (w4.alloc (.cells #[.string S, .int .i64 0] 34)).alloc (.cells #[.int .u32 x.i, .int .u8 x.t, .int .u8 x.o, .int .u64 (lm x.a 0), .int .u64 (lm x.a 1), .int .u64 (lm x.a 2), .int .u64 (lm x.a 3)] 29) = w5 at *
      generalize w4.heap.size + 1 = g6 at *
      generalize w4.heap.size = g5 at *
      have X := hide (R.out.after (bMe w5).drew)
      clear R
      refine wp_region_held_drew (S := fun w' => RS7 w g3 g5 g6 x S 0 x.i x.t x.o (lm x.a 0) (lm x.a 1) (lm x.a 2) (lm x.a 3) w') (by kernel_rfl) X.out (fun _ => ?_)
      generalize w5.drew = w6 at *
      refine tk0 (by kernel_rfl) (by kernel_rfl) (by kernel_rfl) (fun _ _ _ h => h) X.out (yieldsIf_load_mid (by rfl) _ _ rfl g3 (0) rfl ([.int .u32 x.i, .int .u8 x.t, .int .u8 x.o, .int .u64 (lm x.a 0), .int .u64 (lm x.a 1), .int .u64 (lm x.a 2), .int .u64 (lm x.a 3)]) _ (fun _ hw => hw.b3.range) Try.underlying29 rfl (by kernel_rfl)) ?_
      simp only [Act.put, List.setIfInBounds_toArray, List.set_cons_zero, List.set_cons_succ]
      refine tk1 (by kernel_rfl) (by kernel_rfl) (by kernel_rfl) (fun _ _ _ h => h) X.out (yieldsIf_load_mid (by rfl) _ _ rfl g6 (0) rfl ([.int .u32 x.i, .int .u8 x.t, .int .u8 x.o, .int .u64 (lm x.a 0), .int .u64 (lm x.a 1), .int .u64 (lm x.a 2), .int .u64 (lm x.a 3)]) _ (fun _ hw => hw.b6.range) Try.underlying29 rfl (by kernel_rfl)) ?_
      simp only [Act.put, List.setIfInBounds_toArray, List.set_cons_zero, List.set_cons_succ]
      refine tk2 (v := .bool true) (by kernel_rfl) (by kernel_rfl) (by kernel_rfl) (fun _ _ _ h => h) X.out (Or.inl ⟨by rfl, fun w hw => by go_simp; try (with_reducible rfl)⟩) ?_
      simp only [Act.put, List.setIfInBounds_toArray, List.set_cons_zero, List.set_cons_succ]
      refine tk3 (v := .bool true) (by kernel_rfl) (by kernel_rfl) (by kernel_rfl) (fun _ _ _ h => h) X.out (Or.inl ⟨by rfl, fun w hw => by go_simp; try (with_reducible rfl)⟩) ?_
      simp only [Act.put, List.setIfInBounds_toArray, List.set_cons_zero, List.set_cons_succ]
      refine tk4 (v := .int .i64 0) (by kernel_rfl) (by kernel_rfl) (by kernel_rfl) (fun _ _ _ h => h) X.out (Or.inl ⟨by rfl, fun w hw => by go_simp; try (with_reducible rfl)⟩) ?_
      simp only [Act.put, List.setIfInBounds_toArray, List.set_cons_zero, List.set_cons_succ]
      refine tk5 (v := .pointer (some ⟨g5, 1, none⟩)) (by kernel_rfl) (by kernel_rfl) (by kernel_rfl) (fun _ _ _ h => h) X.out (Or.inl ⟨by rfl, fun w hw => by go_simp; try (with_reducible rfl)⟩) ?_
      simp only [Act.put, List.setIfInBounds_toArray, List.set_cons_zero, List.set_cons_succ]
      refine tk6 (v := .int .i64 0) (by kernel_rfl) (by kernel_rfl) (by kernel_rfl) (fun _ _ _ h => h) X.out (Or.inl ⟨by rfl, fun w hw => by have c := hw.r5.c1; go_simp; try (with_reducible rfl)⟩) ?_
      simp only [Act.put, List.setIfInBounds_toArray, List.set_cons_zero, List.set_cons_succ]
      refine tk7 (v := .bool true) (by kernel_rfl) (by kernel_rfl) (by kernel_rfl) (fun _ _ _ h => h) X.out (Or.inl ⟨by rfl, fun w hw => by go_simp; try (with_reducible rfl)⟩) ?_
      simp only [Act.put, List.setIfInBounds_toArray, List.set_cons_zero, List.set_cons_succ]
      refine tk8 (v := .bool true) (by kernel_rfl) (by kernel_rfl) (by kernel_rfl) (fun _ _ _ h => h) X.out (Or.inl ⟨by rfl, fun w hw => by go_simp; try (with_reducible rfl)⟩) ?_
      simp only [Act.put, List.setIfInBounds_toArray, List.set_cons_zero, List.set_cons_succ]
      refine tk9 (v := .bool true) (by kernel_rfl) (by kernel_rfl) (by kernel_rfl) (fun _ _ _ h => h) X.out (Or.inl ⟨by rfl, fun w hw => by go_simp; try (with_reducible rfl)⟩) ?_
      simp only [Act.put, List.setIfInBounds_toArray, List.set_cons_zero, List.set_cons_succ]
      refine tk10 (v := .int .i64 0) (by kernel_rfl) (by kernel_rfl) (by kernel_rfl) (fun _ _ _ h => h) X.out (Or.inl ⟨by rfl, fun w hw => by go_simp; try (with_reducible rfl)⟩) ?_
      simp only [Act.put, List.setIfInBounds_toArray, List.set_cons_zero, List.set_cons_succ]
      refine tk11 (v := .bool false) (by kernel_rfl) (by kernel_rfl) (by kernel_rfl) (fun _ _ _ h => h) X.out (Or.inl ⟨by rfl, fun w hw => by go_simp; try (with_reducible rfl)⟩) ?_
      simp only [Act.put, List.setIfInBounds_toArray, List.set_cons_zero, List.set_cons_succ]
      refine tk12 (v := .bool false) (by kernel_rfl) (by kernel_rfl) (by kernel_rfl) (fun _ _ _ h => h) X.out (Or.inl ⟨by rfl, fun w hw => by go_simp; try (with_reducible rfl)⟩) ?_
      simp only [Act.put, List.setIfInBounds_toArray, List.set_cons_zero, List.set_cons_succ]
      refine tk13 (by kernel_rfl) (by kernel_rfl) (by kernel_rfl) (fun _ _ _ h => h) X.out (yieldsIf_load_mid (by rfl) _ _ rfl g3 (0) rfl ([.int .u32 x.i, .int .u8 x.t, .int .u8 x.o, .int .u64 (lm x.a 0), .int .u64 (lm x.a 1), .int .u64 (lm x.a 2), .int .u64 (lm x.a 3)]) _ (fun _ hw => hw.b3.range) Try.underlying29 rfl (by kernel_rfl)) ?_
      simp only [Act.put, List.setIfInBounds_toArray, List.set_cons_zero, List.set_cons_succ]
      refine tk16 (v := .slice ao l.length cap) (by kernel_rfl) (by kernel_rfl) (by kernel_rfl) (fun _ _ _ h => h) X.out (Or.inl ⟨by rfl, fun w hw => by go_simp; try (with_reducible rfl)⟩) ?_
      simp only [Act.put, List.setIfInBounds_toArray, List.set_cons_zero, List.set_cons_succ]
      refine tk17 (v := .string (strOfNums l)) (by kernel_rfl) (by kernel_rfl) (by kernel_rfl) (fun _ _ _ h => h) X.out (Or.inl ⟨by rfl, fun w hw => by have c := HCV.out _ hw.below; go_simp; try (with_reducible rfl)⟩) ?_
      simp only [Act.put, List.setIfInBounds_toArray, List.set_cons_zero, List.set_cons_succ]
      refine wpAnyH_ready (rs := [14]) (by kernel_rfl) (by simp) ?_
      refine rd14 (fun K hK => ?_) AllReadyH.nil
      go_simp
      refine (ibytes_any x HX.out w6).mono ?_
      rintro r w7 ⟨v, rfl, hv, hb⟩
      simp only []
      rw [k5] at hv
      obtain ⟨bo, bc, rfl, -, -, k7⟩ := hv.cell
      replace X : Hid (RS7 w g3 g5 g6 x S 0 x.i x.t x.o (lm x.a 0) (lm x.a 1) (lm x.a 2) (lm x.a 3) w7 ∧ At w7 bo l) := ⟨X.out.after hb, k7⟩
      clear hv hb k7
      refine hK.out _ _ X.out.1 (fun _ => ?_)
      clear hK K
      refine hand_more (S' := fun w' => RS7 w g3 g5 g6 x S 0 x.i x.t x.o (lm x.a 0) (lm x.a 1) (lm x.a 2) (lm x.a 3) w' ∧ At w' bo l) (fun _ h => h.1) _ _ _ _ ?_
      refine tk15 (v := .string (strOfNums l)) (by kernel_rfl) (by kernel_rfl) (by kernel_rfl) (fun _ _ _ h => h) X.out (Or.inl ⟨by rfl, fun w hw => by have c := hw.2.str bc; go_simp; try (with_reducible rfl)⟩) ?_
      simp only [Act.put, List.setIfInBounds_toArray, List.set_cons_zero, List.set_cons_succ]
      refine tk18 (v := .bool true) (by kernel_rfl) (by kernel_rfl) (by kernel_rfl) (fun _ _ _ h => h) X.out (Or.inl ⟨by rfl, fun w hw => by go_simp; try (with_reducible rfl)⟩) ?_
      simp only [Act.put, List.setIfInBounds_toArray, List.set_cons_zero, List.set_cons_succ]
      refine tk19 (v := .bool true) (by kernel_rfl) (by kernel_rfl) (by kernel_rfl) (fun _ _ _ h => h) X.out (Or.inl ⟨by rfl, fun w hw => by go_simp; try (with_reducible rfl)⟩) ?_
      simp only [Act.put, List.setIfInBounds_toArray, List.set_cons_zero, List.set_cons_succ]
      refine tk20 (v := .bool true) (by kernel_rfl) (by kernel_rfl) (by kernel_rfl) (fun _ _ _ h => h) X.out (Or.inl ⟨by rfl, fun w hw => by go_simp; try (with_reducible rfl)⟩) ?_
      simp only [Act.put, List.setIfInBounds_toArray, List.set_cons_zero, List.set_cons_succ]
      refine tk21 (v := .bool true) (by kernel_rfl) (by kernel_rfl) (by kernel_rfl) (fun _ _ _ h => h) X.out (Or.inl ⟨by rfl, fun w hw => by go_simp; try (with_reducible rfl)⟩) ?_
      simp only [Act.put, List.setIfInBounds_toArray, List.set_cons_zero, List.set_cons_succ]
      refine wpAnyH_done (by kernel_rfl) ?_ _
      go_wp2
      go_ret
      exact ⟨rfl, X.out.1.below⟩
    · have hne : S.toList.isEmpty = true := by rw [← HS.out, k1, strOfNums_toList]; rfl
      have k6 := k4.trans k5.symm
      have hs4 := same4_me x.a
      clear HC HS HG k1 hlen hli k4 k5
      subst k3 k6
      have he : (e != 0) = true := by simpa using k2
      have he2 : (e == 0) = false := by simpa using k2
      clear k2
      go_wp2
      have R := hide (RS7.new P4.out B.out S e x.i x.t x.o (lm x.a 0) (lm x.a 1) (lm x.a 2) (lm x.a 3) 34 29)
      generalize (w4.alloc (.cells #[.string S, .int .i64 e] 34)).alloc (.cells #[.int .u32 x.i, .int .u8 x.t, .int .u8 x.o, .int .u64 (lm x.a 0), .int .u64 (lm x.a 1), .int .u64 (lm x.a 2), .int .u64 (lm x.a 3)] 29) = w5 at *
      generalize w4.heap.size + 1 = g6 at *
      generalize w4.heap.size = g5 at *
      have X := hide (R.out.after (bMe w5).drew)
      clear R
      refine wp_region_held_drew (S := fun w' => RS7 w g3 g5 g6 x S e x.i x.t x.o (lm x.a 0) (lm x.a 1) (lm x.a 2) (lm x.a 3) w') (by kernel_rfl) X.out (fun _ => ?_)
      generalize w5.drew = w6 at *
      refine tk0 (by kernel_rfl) (by kernel_rfl) (by kernel_rfl) (fun _ _ _ h => h) X.out (yieldsIf_load_mid (by rfl) _ _ rfl g3 (0) rfl ([.int .u32 x.i, .int .u8 x.t, .int .u8 x.o, .int .u64 (lm x.a 0), .int .u64 (lm x.a 1), .int .u64 (lm x.a 2), .int .u64 (lm x.a 3)]) _ (fun _ hw => hw.b3.range) Try.underlying29 rfl (by kernel_rfl)) ?_
      simp only [Act.put, List.setIfInBounds_toArray, List.set_cons_zero, List.set_cons_succ]
      refine tk1 (by kernel_rfl) (by kernel_rfl) (by kernel_rfl) (fun _ _ _ h => h) X.out (yieldsIf_load_mid (by rfl) _ _ rfl g6 (0) rfl ([.int .u32 x.i, .int .u8 x.t, .int .u8 x.o, .int .u64 (lm x.a 0), .int .u64 (lm x.a 1), .int .u64 (lm x.a 2), .int .u64 (lm x.a 3)]) _ (fun _ hw => hw.b6.range) Try.underlying29 rfl (by kernel_rfl)) ?_
      simp only [Act.put, List.setIfInBounds_toArray, List.set_cons_zero, List.set_cons_succ]
      refine tk2 (v := .bool true) (by kernel_rfl) (by kernel_rfl) (by kernel_rfl) (fun _ _ _ h => h) X.out (Or.inl ⟨by rfl, fun w hw => by go_simp; try (with_reducible rfl)⟩) ?_
      simp only [Act.put, List.setIfInBounds_toArray, List.set_cons_zero, List.set_cons_succ]
      refine tk3 (v := .bool true) (by kernel_rfl) (by kernel_rfl) (by kernel_rfl) (fun _ _ _ h => h) X.out (Or.inl ⟨by rfl, fun w hw => by go_simp; try (with_reducible rfl)⟩) ?_
      simp only [Act.put, List.setIfInBounds_toArray, List.set_cons_zero, List.set_cons_succ]
      refine tk4 (v := .int .i64 e) (by kernel_rfl) (by kernel_rfl) (by kernel_rfl) (fun _ _ _ h => h) X.out (Or.inl ⟨by rfl, fun w hw => by go_simp; try (with_reducible rfl)⟩) ?_
      simp only [Act.put, List.setIfInBounds_toArray, List.set_cons_zero, List.set_cons_succ]
      refine tk5 (v := .pointer (some ⟨g5, 1, none⟩)) (by kernel_rfl) (by kernel_rfl) (by kernel_rfl) (fun _ _ _ h => h) X.out (Or.inl ⟨by rfl, fun w hw => by go_simp; try (with_reducible rfl)⟩) ?_
      simp only [Act.put, List.setIfInBounds_toArray, List.set_cons_zero, List.set_cons_succ]
      refine tk6 (v := .int .i64 e) (by kernel_rfl) (by kernel_rfl) (by kernel_rfl) (fun _ _ _ h => h) X.out (Or.inl ⟨by rfl, fun w hw => by have c := hw.r5.c1; go_simp; try (with_reducible rfl)⟩) ?_
      simp only [Act.put, List.setIfInBounds_toArray, List.set_cons_zero, List.set_cons_succ]
      refine tk7 (v := .bool true) (by kernel_rfl) (by kernel_rfl) (by kernel_rfl) (fun _ _ _ h => h) X.out (Or.inl ⟨by rfl, fun w hw => by go_simp; try (with_reducible rfl)⟩) ?_
      simp only [Act.put, List.setIfInBounds_toArray, List.set_cons_zero, List.set_cons_succ]
      refine tk8 (v := .bool true) (by kernel_rfl) (by kernel_rfl) (by kernel_rfl) (fun _ _ _ h => h) X.out (Or.inl ⟨by rfl, fun w hw => by go_simp; try (with_reducible rfl)⟩) ?_
      simp only [Act.put, List.setIfInBounds_toArray, List.set_cons_zero, List.set_cons_succ]
      refine tk9 (v := .bool true) (by kernel_rfl) (by kernel_rfl) (by kernel_rfl) (fun _ _ _ h => h) X.out (Or.inl ⟨by rfl, fun w hw => by go_simp; try (with_reducible rfl)⟩) ?_
      simp only [Act.put, List.setIfInBounds_toArray, List.set_cons_zero, List.set_cons_succ]
      refine tk10 (v := .int .i64 e) (by kernel_rfl) (by kernel_rfl) (by kernel_rfl) (fun _ _ _ h => h) X.out (Or.inl ⟨by rfl, fun w hw => by go_simp; try (with_reducible rfl)⟩) ?_
      simp only [Act.put, List.setIfInBounds_toArray, List.set_cons_zero, List.set_cons_succ]
      refine tk11 (v := .bool true) (by kernel_rfl) (by kernel_rfl) (by kernel_rfl) (fun _ _ _ h => h) X.out (Or.inl ⟨by rfl, fun w hw => by go_simp; try (with_reducible rfl)⟩) ?_
      simp only [Act.put, List.setIfInBounds_toArray, List.set_cons_zero, List.set_cons_succ]
      refine tk12 (v := .bool true) (by kernel_rfl) (by kernel_rfl) (by kernel_rfl) (fun _ _ _ h => h) X.out (Or.inl ⟨by rfl, fun w hw => by go_simp; try (with_reducible rfl)⟩) ?_
      simp only [Act.put, List.setIfInBounds_toArray, List.set_cons_zero, List.set_cons_succ]
      refine tk13 (v := undef) (by kernel_rfl) (by kernel_rfl) (by kernel_rfl) (fun _ _ _ h => h) X.out (Or.inr ⟨by rfl, rfl⟩) ?_
      simp only [Act.put, List.setIfInBounds_toArray, List.set_cons_zero, List.set_cons_succ]
      refine tk14 (v := undef) (by kernel_rfl) (by kernel_rfl) (by kernel_rfl) (fun _ _ _ h => h) X.out (Or.inr ⟨by rfl, rfl⟩) ?_
      simp only [Act.put, List.setIfInBounds_toArray, List.set_cons_zero, List.set_cons_succ]
      refine tk15 (v := undef) (by kernel_rfl) (by kernel_rfl) (by kernel_rfl) (fun _ _ _ h => h) X.out (Or.inr ⟨by rfl, rfl⟩) ?_
      simp only [Act.put, List.setIfInBounds_toArray, List.set_cons_zero, List.set_cons_succ]
      refine tk16 (v := undef) (by kernel_rfl) (by kernel_rfl) (by kernel_rfl) (fun _ _ _ h => h) X.out (Or.inr ⟨by rfl, rfl⟩) ?_
      simp only [Act.put, List.setIfInBounds_toArray, List.set_cons_zero, List.set_cons_succ]
      refine tk17 (v := undef) (by kernel_rfl) (by kernel_rfl) (by kernel_rfl) (fun _ _ _ h => h) X.out (Or.inr ⟨by rfl, rfl⟩) ?_
      simp only [Act.put, List.setIfInBounds_toArray, List.set_cons_zero, List.set_cons_succ]
      refine tk18 (v := undef) (by kernel_rfl) (by kernel_rfl) (by kernel_rfl) (fun _ _ _ h => h) X.out (Or.inr ⟨by rfl, rfl⟩) ?_
      simp only [Act.put, List.setIfInBounds_toArray, List.set_cons_zero, List.set_cons_succ]
      refine tk19 (v := .bool true) (by kernel_rfl) (by kernel_rfl) (by kernel_rfl) (fun _ _ _ h => h) X.out (Or.inl ⟨by rfl, fun w hw => by go_simp; try (with_reducible rfl)⟩) ?_
      simp only [Act.put, List.setIfInBounds_toArray, List.set_cons_zero, List.set_cons_succ]
      refine tk20 (v := .bool true) (by kernel_rfl) (by kernel_rfl) (by kernel_rfl) (fun _ _ _ h => h) X.out (Or.inl ⟨by rfl, fun w hw => by go_simp; try (with_reducible rfl)⟩) ?_
      simp only [Act.put, List.setIfInBounds_toArray, List.set_cons_zero, List.set_cons_succ]
      refine tk21 (v := .bool true) (by kernel_rfl) (by kernel_rfl) (by kernel_rfl) (fun _ _ _ h => h) X.out (Or.inl ⟨by rfl, fun w hw => by go_simp; try (with_reducible rfl)⟩) ?_
      simp only [Act.put, List.setIfInBounds_toArray, List.set_cons_zero, List.set_cons_succ]
      refine wpAnyH_done (by kernel_rfl) ?_ _
      go_wp2
      go_ret
      exact ⟨rfl, X.out.below⟩
  · have hli : (200 : Int) < (l.length : Int) := by omega
    go_enter Try.func3, Try.ntmps3
    go_wp2_with fail
    refine (lives7_any w).mono ?_
    rintro e w1 ⟨rfl, hb⟩
    have B := hide hb
    clear hb
    go_wp2_with fail
    refine (lives7_any w1).mono ?_
    rintro e w2 ⟨rfl, hb⟩
    replace B := hide (bOn B.out hb)
    clear hb
    go_wp2
    go_ret
    exact ⟨rfl, B.out⟩
end Go.Proofs.Ythcahgfoganehaa
