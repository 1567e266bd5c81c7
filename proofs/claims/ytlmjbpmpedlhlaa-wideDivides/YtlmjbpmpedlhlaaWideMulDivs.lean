/- The contracts of wide.MulDiv and wide.MulDivUp over this translation. -/
import Derived.Test.YtlmjbpmpedlhlaaWideMulDiv
import Derived.Test.YtlmjbpmpedlhlaaHugeAdd
import Derived.Deep.RegionHeld3
namespace Go.Proofs.Ytlmjbpmpedlhlaa
open Go.RowKit Go.Lib
attribute [local go_sem] setCell_drewN alloc_drewN eqInt

/-- What a quotient u by d is told as. -/
def Sp (u d q c : Int) : Prop := (d = 0 ∧ q = 0 ∧ c = 3) ∨ (d ≠ 0 ∧ ¬ In u ∧ q = 0 ∧ c = 2) ∨ (d ≠ 0 ∧ In u ∧ q = u ∧ c = 0)
theorem Sp.one {u d q c q' c' : Int} (h : Sp u d q c) (k : Sp u d q' c') : q = q' ∧ c = c' := by
  rcases h with ⟨h0, rfl, rfl⟩ | ⟨h0, h1, rfl, rfl⟩ | ⟨h0, h1, rfl, rfl⟩ <;> rcases k with ⟨k0, rfl, rfl⟩ | ⟨k0, k1, rfl, rfl⟩ | ⟨k0, k1, rfl, rfl⟩ <;> first | exact ⟨rfl, rfl⟩ | exact absurd k0 h0 | exact absurd h0 k0 | exact absurd k1 h1 | exact absurd h1 k1
/-- A product by a number, rounded up. -/
def upq (a b d : Int) : Int := a * b / d + if a * b % d = 0 then 0 else 1
theorem Md.sp {a b d q r c : Int} (h : Md a b d q r c) : Sp (a * b / d) d q c := by
  rcases h with ⟨h0, h1, _, h2⟩ | ⟨h0, h1, h2, _, h3⟩ | ⟨h0, h1, h2, _, h3⟩
  · exact .inl ⟨h0, h1, h2⟩
  · exact .inr (.inl ⟨h0, h1, h2, h3⟩)
  · exact .inr (.inr ⟨h0, h1, h2, h3⟩)

set_option maxHeartbeats 1000000 in
theorem mul_div_down (a b d : Int) (w : World) (ha : In a) (hb : In b) (hd : In d) :
    Calls Try.prog 15 #[big a, big b, big d] w fun e w' => ∃ q c, e = .returned (.tuple #[big q, .int .i64 c]) ∧ Hid (Sp (a * b / d) d q c) ∧ Below w.heap.size w w' := by
  have HA := hide ha; have HB := hide hb; have HD := hide hd
  clear ha hb hd
  go_enter Try.func15, Try.ntmps15
  go_wp2_with fail
  refine (mul_div_any a b d _ HA.out HB.out HD.out).mono ?_
  rintro e w1 ⟨q, r, c, rfl, M, hb1⟩
  have Z := hide ((Own.new' (((w.alloc (.cells #[.int .u64 (lm a 0), .int .u64 (lm a 1), .int .u64 (lm a 2), .int .u64 (lm a 3)] 24)).alloc (.cells #[.int .u64 (lm b 0), .int .u64 (lm b 1), .int .u64 (lm b 2), .int .u64 (lm b 3)] 24)).alloc (.cells #[.int .u64 (lm d 0), .int .u64 (lm d 1), .int .u64 (lm d 2), .int .u64 (lm d 3)] 24)) (g := w.heap.size + 1 + 1 + 1) 0 0 0 0 24 (by simp)).after hb1 rfl)
  have B := hide (bOn (bAl (bAl (bAl (bAl (bMe w))))) hb1)
  have sz := hb1.size
  simp only [World.size_alloc] at sz
  clear hb1
  obtain ⟨zl, z0, z1, z2, z3, zf⟩ := Z.out
  have zl2 : w.heap.size + 1 + 1 + 1 < w1.heap.size + 1 := by omega
  have ne1 : ¬ w.heap.size + 1 + 1 + 1 = w1.heap.size := by omega
  have ne2 : ¬ w.heap.size + 1 + 1 + 1 = w1.heap.size + 1 := by omega
  go_wp2
  refine bodyPost_ret (v := .tuple #[big q, .int .i64 c]) ?_ rfl ⟨q, c, rfl, M.out.sp, ?_⟩
  · simp [results, Try.results15, go_sem, *]
  · first
      | exact bAl (bAl (put_below B.out (by omega)))
      | exact put_below (bAl (bAl B.out)) (by omega)

theorem huge_add_x (a b : Int) (w : World) (ha : In a) (hb : In b) :
    Calls Try.prog 20 #[big a, big b] w fun e w' => ∃ s c, e = .returned (.tuple #[big s, .int .i64 c]) ∧ Hid ((In (a + b) ∧ s = a + b ∧ c = 0) ∨ (¬ In (a + b) ∧ s = 0 ∧ c = 2)) ∧ Below w.heap.size w w' := by
  by_cases h : In (a + b)
  · refine (huge_add_ok a b w ha hb h).mono ?_
    rintro e w' ⟨rfl, hw⟩
    exact ⟨_, _, rfl, .inl ⟨h, rfl, rfl⟩, hw⟩
  · refine (huge_add_over a b w ha hb h).mono ?_
    rintro e w' ⟨rfl, hw⟩
    exact ⟨_, _, rfl, .inr ⟨h, rfl, rfl⟩, hw⟩
theorem held4 {w : World} {g : Nat} {q : Int} (h : LRow w g 4 (lm q)) : w.cell? ⟨g, 0, none⟩ = some (.int .u64 (lm q 0)) ∧ w.cell? ⟨g, 1, none⟩ = some (.int .u64 (lm q 1)) ∧ w.cell? ⟨g, 2, none⟩ = some (.int .u64 (lm q 2)) ∧ w.cell? ⟨g, 3, none⟩ = some (.int .u64 (lm q 3)) :=
  ⟨h.cell 0 (by omega), h.cell 1 (by omega), h.cell 2 (by omega), h.cell 3 (by omega)⟩
theorem Md.up {a b d q r c : Int} (h : Md a b d q r c) (ha : In a) (hb : In b) (hd : In d) (hs : c ≠ 0 ∨ r = 0) : Sp (upq a b d) d q c := by
  have h00 : 0 ≤ a * b / d := Int.ediv_nonneg (Int.mul_nonneg ha.1 hb.1) hd.1
  rcases h with ⟨h0, h1, _, h2⟩ | ⟨h0, h1, h2, _, h3⟩ | ⟨h0, h1, h2, h4, h3⟩
  · exact .inl ⟨h0, h1, h2⟩
  · refine .inr (.inl ⟨h0, fun hi => h1 ?_, h2, h3⟩)
    unfold upq at hi
    unfold In at *
    split at hi <;> omega
  · have hr : a * b % d = 0 := by rcases hs with hs | hs <;> omega
    have e : upq a b d = a * b / d := by unfold upq; rw [if_pos hr, Int.add_zero]
    exact .inr (.inr ⟨h0, by rw [e]; exact h1, by rw [e]; exact h2, h3⟩)
theorem Md.more {a b d q r c s f : Int} (h : Md a b d q r c) (hc : c = 0) (hr : r ≠ 0) (hs : (In (q + 1) ∧ s = q + 1 ∧ f = 0) ∨ (¬ In (q + 1) ∧ s = 0 ∧ f = 2)) : In q ∧ Sp (upq a b d) d s f := by
  rcases h with ⟨_, _, _, h2⟩ | ⟨_, _, _, _, h3⟩ | ⟨h0, h1, h2, h4, _⟩
  · omega
  · omega
  · have e : upq a b d = q + 1 := by unfold upq; rw [if_neg (by omega), h2]
    refine ⟨by rw [h2]; exact h1, ?_⟩
    rcases hs with ⟨k1, k2, k3⟩ | ⟨k1, k2, k3⟩
    · exact .inr (.inr ⟨h0, by rw [e]; exact k1, by rw [e]; exact k2, k3⟩)
    · exact .inr (.inl ⟨h0, by rw [e]; exact k1, k2, k3⟩)
theorem Md.bd {a b d q r c : Int} (h : Md a b d q r c) (hd : In d) : In r ∧ In q := by
  unfold In at hd
  rcases h with ⟨_, h1, h2, _⟩ | ⟨_, _, h1, h2, _⟩ | ⟨h0, h1, h2, h4, _⟩
  · rw [h1, h2]; exact ⟨In.zero, In.zero⟩
  · rw [h1, h2]; exact ⟨In.zero, In.zero⟩
  · have b0 := Int.emod_nonneg (a * b) h0
    have b1 := Int.emod_lt_of_pos (a * b) (show 0 < d by omega)
    refine ⟨?_, by rw [h2]; exact h1⟩
    unfold In
    omega

set_option maxHeartbeats 2000000 in
theorem mul_div_up (a b d : Int) (w : World) (ha : In a) (hb : In b) (hd : In d) :
    Calls Try.prog 16 #[big a, big b, big d] w fun e w' => ∃ q c, e = .returned (.tuple #[big q, .int .i64 c]) ∧ Hid (Sp (upq a b d) d q c) ∧ Below w.heap.size w w' := by
  have HA := hide ha; have HB := hide hb; have HD := hide hd
  clear ha hb hd
  go_enter Try.func16, Try.ntmps16
  go_wp2_with fail
  refine (mul_div_any a b d _ HA.out HB.out HD.out).mono ?_
  rintro e w1 ⟨q, r, c, rfl, M, hb1⟩
  have Z := hide ((Own.new' (((w.alloc (.cells #[.int .u64 (lm a 0), .int .u64 (lm a 1), .int .u64 (lm a 2), .int .u64 (lm a 3)] 24)).alloc (.cells #[.int .u64 (lm b 0), .int .u64 (lm b 1), .int .u64 (lm b 2), .int .u64 (lm b 3)] 24)).alloc (.cells #[.int .u64 (lm d 0), .int .u64 (lm d 1), .int .u64 (lm d 2), .int .u64 (lm d 3)] 24)) (g := w.heap.size + 1 + 1 + 1) 0 0 0 0 24 (by simp)).after hb1 rfl)
  have B := hide (bOn (bAl (bAl (bAl (bAl (bMe w))))) hb1)
  have sz := hb1.size
  simp only [World.size_alloc] at sz
  clear hb1
  obtain ⟨zl, z0, z1, z2, z3, zf⟩ := Z.out
  have zl2 : w.heap.size + 1 + 1 + 1 < w1.heap.size + 1 := by omega
  have ne1 : ¬ w.heap.size + 1 + 1 + 1 = w1.heap.size := by omega
  have ne2 : ¬ w.heap.size + 1 + 1 + 1 = w1.heap.size + 1 := by omega
  by_cases hc : c = 0
  · by_cases hr : r = 0
    · have s0 : same4 (lm r 0) (lm r 1) (lm r 2) (lm r 3) 0 0 0 0 = true := by rw [hr]; exact same_null
      have HS := hide (M.out.up HA.out HB.out HD.out (.inr hr))
      clear hr
      subst hc
      go_wp2
      refine bodyPost_ret (v := .tuple #[big q, .int .i64 0]) ?_ rfl ⟨q, 0, rfl, HS.out, ?_⟩
      · simp [results, Try.results16, go_sem, *]
      · first
          | exact bAl (bAl (put_below B.out (by omega)))
          | exact put_below (bAl (bAl B.out)) (by omega)
    · obtain ⟨br, bq⟩ := M.out.bd HD.out
      have s0 := not_same br hr
      have HR := hide hr; have HQ := hide bq
      clear hr br bq
      subst hc
      go_wp2
      clear zl z0 z1 z2 z3 zf zl2 ne1 ne2
      obtain ⟨gq, hgq⟩ : ∃ g, Hid (w1.heap.size = g) := ⟨_, rfl⟩
      have QQ := hide (((LRow.new4 w1 (lm q 0) (lm q 1) (lm q 2) (lm q 3) 24 hgq.out).congr (lit_lm4 q)).past (.cells #[.int .u64 (lm r 0), .int .u64 (lm r 1), .int .u64 (lm r 2), .int .u64 (lm r 3)] 24))
      replace Z := hide ((Z.out.past (.cells #[.int .u64 (lm q 0), .int .u64 (lm q 1), .int .u64 (lm q 2), .int .u64 (lm q 3)] 24)).past (.cells #[.int .u64 (lm r 0), .int .u64 (lm r 1), .int .u64 (lm r 2), .int .u64 (lm r 3)] 24))
      replace B := hide (bAl (o := .cells #[.int .u64 (lm r 0), .int .u64 (lm r 1), .int .u64 (lm r 2), .int .u64 (lm r 3)] 24) (bAl (o := .cells #[.int .u64 (lm q 0), .int .u64 (lm q 1), .int .u64 (lm q 2), .int .u64 (lm q 3)] 24) B.out))
      rw [hgq.out] at sz
      rw [hgq.out]
      generalize (w1.alloc (.cells #[.int .u64 (lm q 0), .int .u64 (lm q 1), .int .u64 (lm q 2), .int .u64 (lm q 3)] 24)).alloc (.cells #[.int .u64 (lm r 0), .int .u64 (lm r 1), .int .u64 (lm r 2), .int .u64 (lm r 3)] 24) = w2 at *
      clear hgq
      go_region_held3 (fun w' => w'.cell? ⟨gq, 0, none⟩ = some (.int .u64 (lm q 0)) ∧ w'.cell? ⟨gq, 1, none⟩ = some (.int .u64 (lm q 1)) ∧ w'.cell? ⟨gq, 2, none⟩ = some (.int .u64 (lm q 2)) ∧ w'.cell? ⟨gq, 3, none⟩ = some (.int .u64 (lm q 3))) (first | with_reducible exact held4 (QQ.out) | with_reducible exact held4 (QQ.out.drew) | with_reducible exact held4 (QQ.out.put4o (by omega)))
        (first | (go_at_call 22; refine (hof_any 1 _ (by omega) (by omega)).mono ?_; rintro e w3 ⟨rfl, hb3⟩; replace QQ := hide (QQ.out.after hb3 rfl); replace Z := hide (Z.out.after hb3 rfl); replace B := hide (by first | exact bOn B.out hb3 | exact bOn B.out.drew hb3); clear hb3) | (go_at_call 20; refine (huge_add_x q 1 _ HQ.out (by unfold In; omega)).mono ?_; rintro e w4 ⟨s, f, rfl, HS, hb4⟩; replace QQ := hide (QQ.out.after hb4 rfl); replace Z := hide (Z.out.after hb4 rfl); replace B := hide (by first | exact bOn B.out hb4 | exact bOn B.out.drew hb4); clear hb4; obtain ⟨zl, z0, z1, z2, z3, zf⟩ := Z.out))
      all_goals
        obtain ⟨_, SS⟩ := M.out.more rfl HR.out HS.out
        have HSS := hide SS
        clear SS
        go_wp2
        refine bodyPost_ret (v := .tuple #[big s, .int .i64 f]) ?_ rfl ⟨s, f, rfl, HSS.out, ?_⟩
        · simp [results, Try.results16, go_sem, *]
        · exact put_below B.out (by omega)
  · have HS := hide (M.out.up HA.out HB.out HD.out (.inl hc))
    go_wp2
    refine bodyPost_ret (v := .tuple #[big q, .int .i64 c]) ?_ rfl ⟨q, c, rfl, HS.out, ?_⟩
    · simp [results, Try.results16, go_sem, *]
    · first
        | exact bAl (bAl (put_below B.out (by omega)))
        | exact put_below (bAl (bAl B.out)) (by omega)
end Go.Proofs.Ytlmjbpmpedlhlaa
