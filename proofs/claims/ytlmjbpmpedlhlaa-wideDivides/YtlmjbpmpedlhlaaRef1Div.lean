/- Contract of sponsionref01.Div over this translation: a quotient and what is left, bit by bit. -/
import Derived.Test.YtlmjbpmpedlhlaaRef1
namespace Go.Proofs.Ytlmjbpmpedlhlaa
open Go.RowKit

theorem two_pow_cases {t : Nat} (h : t < 16) (Q : Int → Int → Prop) (h0 : Q 1 2) (h1 : Q 2 4) (h2 : Q 4 8) (h3 : Q 8 16) (h4 : Q 16 32) (h5 : Q 32 64) (h6 : Q 64 128) (h7 : Q 128 256)
    (h8 : Q 256 512) (h9 : Q 512 1024) (h10 : Q 1024 2048) (h11 : Q 2048 4096) (h12 : Q 4096 8192) (h13 : Q 8192 16384) (h14 : Q 16384 32768) (h15 : Q 32768 65536) : Q (2 ^ t) (2 ^ (t + 1)) := by
  match t, h with
  | 0, _ => exact h0
  | 1, _ => exact h1
  | 2, _ => exact h2
  | 3, _ => exact h3
  | 4, _ => exact h4
  | 5, _ => exact h5
  | 6, _ => exact h6
  | 7, _ => exact h7
  | 8, _ => exact h8
  | 9, _ => exact h9
  | 10, _ => exact h10
  | 11, _ => exact h11
  | 12, _ => exact h12
  | 13, _ => exact h13
  | 14, _ => exact h14
  | 15, _ => exact h15
  | t + 16, h => omega
theorem bit_even (D hi a : Int) (t : Nat) (ht : t < 16) (h : D = hi * 65536 + a) : a / 2 ^ t % 2 = D / 2 ^ t % 2 := by
  refine two_pow_cases ht (fun p _ => a / p % 2 = D / p % 2) ?_ ?_ ?_ ?_ ?_ ?_ ?_ ?_ ?_ ?_ ?_ ?_ ?_ ?_ ?_ ?_ <;> omega
theorem room_bit (z : Int) (t : Nat) (ht : t < 16) (h0 : 0 ≤ z) (h1 : z < 65536) (hz : z % 2 ^ (t + 1) = 0) : z + 2 ^ t < 65536 ∧ (z + 2 ^ t) % 2 ^ t = 0 ∧ z % 2 ^ t = 0 := by
  revert hz
  refine two_pow_cases ht (fun p q => z % q = 0 → z + p < 65536 ∧ (z + p) % p = 0 ∧ z % p = 0) ?_ ?_ ?_ ?_ ?_ ?_ ?_ ?_ ?_ ?_ ?_ ?_ ?_ ?_ ?_ ?_ <;> omega
theorem half_unit (t : Nat) : ((2 : Int) ^ (t + 1)) / 2 = 2 ^ t := by rw [Int.pow_succ]; exact Int.mul_ediv_cancel _ (by decide)
theorem unit_pos (t : Nat) : 0 < (2 : Int) ^ t := Int.pow_pos (by decide)
theorem unit_le (t : Nat) (ht : t < 16) : (2 : Int) ^ t ≤ 32768 := by
  refine two_pow_cases ht (fun p _ => p ≤ 32768) ?_ ?_ ?_ ?_ ?_ ?_ ?_ ?_ ?_ ?_ ?_ ?_ ?_ ?_ ?_ ?_ <;> omega

/-- The digit at a place. -/
theorem digit_at {xs : List Int} (hx : Ok xs) (i : Nat) : val xs / pw i = val xs / pw (i + 1) * 65536 + xs.getD i 0 := by
  have hp := pw_pos i
  have h1 := val_take_lt hx i
  have h0 := val_nonneg (hx.take i)
  have hd := hx.getD i
  have e := val_take xs i
  have hs : ∃ H, val xs = val (xs.take (i + 1)) + H * pw (i + 1) := by
    have : ∀ k, ∃ H, val (xs.take (i + 1 + k)) = val (xs.take (i + 1)) + H * pw (i + 1) := by
      intro k
      induction k with
      | zero => exact ⟨0, by simp⟩
      | succ k ih =>
        obtain ⟨H, hH⟩ := ih
        refine ⟨H + xs.getD (i + 1 + k) 0 * pw k, ?_⟩
        rw [← Nat.add_assoc, val_take, hH, pw_add (i + 1) k, Int.add_mul, Int.mul_comm (pw (i + 1)) (pw k), ← Int.mul_assoc]
        omega
    obtain ⟨H, hH⟩ := this xs.length
    rw [List.take_of_length_le (by omega : xs.length ≤ i + 1 + xs.length)] at hH
    exact ⟨H, hH⟩
  obtain ⟨H, hH⟩ := hs
  have q1 : val xs / pw (i + 1) = H := by
    rw [hH, Int.add_mul_ediv_right _ _ (by have := pw_pos (i + 1); omega), Int.ediv_eq_zero_of_lt (val_nonneg (hx.take (i + 1))) (val_take_lt hx (i + 1)), Int.zero_add]
  have q0 : val xs = val (xs.take i) + (H * 65536 + xs.getD i 0) * pw i := by
    rw [hH, e, pw_succ, Int.add_mul, Int.mul_assoc, Int.mul_comm 65536]
    omega
  rw [q1, q0, Int.add_mul_ediv_right _ _ (by omega), Int.ediv_eq_zero_of_lt h0 h1, Int.zero_add]

theorem bit_step {xs : List Int} (hx : Ok xs) (i t : Nat) (ht : t < 16) :
    let Y := val xs / (2 ^ t * pw i)
    val xs / (2 ^ (t + 1) * pw i) = Y / 2 ∧ xs.getD i 0 / 2 ^ t % 2 = Y % 2 ∧ 0 ≤ Y := by
  intro Y
  have hp := pw_pos i
  have hu := unit_pos t
  have hY : Y = val xs / pw i / 2 ^ t := by
    show val xs / (2 ^ t * pw i) = _
    rw [Int.mul_comm, Int.ediv_ediv_of_nonneg (Int.le_of_lt hp)]
  refine ⟨?_, ?_, Int.ediv_nonneg (val_nonneg hx) (Int.le_of_lt (Int.mul_pos hu hp))⟩
  · rw [hY, Int.ediv_ediv_of_nonneg (Int.le_of_lt hu), Int.ediv_ediv_of_nonneg (Int.le_of_lt hp), Int.pow_succ, Int.mul_comm (2 ^ t * 2)]
  · rw [hY]
    exact bit_even _ _ _ t ht (digit_at hx i)

/-- The quotient and what is left, a bit further. -/
theorem div_bit {Y B : Int} (hB : 0 < B) :
    (B ≤ 2 * (Y / 2 % B) + Y % 2 → Y / B = 2 * (Y / 2 / B) + 1 ∧ Y % B = 2 * (Y / 2 % B) + Y % 2 - B) ∧
    (2 * (Y / 2 % B) + Y % 2 < B → Y / B = 2 * (Y / 2 / B) ∧ Y % B = 2 * (Y / 2 % B) + Y % 2) := by
  have e := Int.mul_ediv_add_emod (Y / 2) B
  have r0 := Int.emod_nonneg (Y / 2) (by omega : B ≠ 0)
  have r1 := Int.emod_lt_of_pos (Y / 2) hB
  generalize Y / 2 / B = q at *
  generalize hr : Y / 2 % B = r at *
  have eY : Y = B * (2 * q) + (2 * r + Y % 2) := by
    rw [Int.mul_left_comm]; omega
  have b0 : 0 ≤ Y % 2 := by omega
  have b1 : Y % 2 ≤ 1 := by omega
  generalize Y % 2 = b at *
  constructor
  · intro h
    have e2 : Y = (2 * r + b - B) + B * (2 * q + 1) := by rw [Int.mul_add]; omega
    constructor
    · rw [e2, Int.add_mul_ediv_left _ _ (by omega), Int.ediv_eq_zero_of_lt (by omega) (by omega), Int.zero_add]
    · rw [e2, Int.add_mul_emod_self_left, Int.emod_eq_of_lt (by omega) (by omega)]
  · intro h
    constructor
    · rw [eY, Int.add_comm, Int.add_mul_ediv_left _ _ (by omega), Int.ediv_eq_zero_of_lt (by omega) (by omega), Int.zero_add]
    · rw [eY, Int.add_comm, Int.add_mul_emod_self_left, Int.emod_eq_of_lt (by omega) (by omega)]

theorem Made.below {w wr w' : World} {v : Value} {zs : List Int} (h : Made w wr v zs) (hb : Below wr.heap.size wr w') : Made w w' v zs :=
  ⟨h.1.kept (row := none) ⟨hb.os, hb.tape, hb.output, hb.size, fun k hk _ => hb.block k hk⟩ (by cases v.ownBlock <;> simp), Below.trans h.2 (hb.mono h.2.size)⟩

/-- What holds ahead of each bit: what is left, and the quotient's digits so far. -/
structure DivInv (A B : Int) (n i t : Nat) (R : Int) (zs : List Int) : Prop where
  len : zs.length = n
  ok : Ok zs
  left : R = A / (2 ^ t * pw i) % B
  quo : val zs = A / (2 ^ t * pw i) / B * (2 ^ t * pw i)
  low : ∀ j, j < i → zs.getD j 0 = 0
  here : zs.getD i 0 % 2 ^ t = 0

theorem div_start {A B : Int} {n : Nat} (hA : 0 ≤ A) (hA1 : A < pw n) : DivInv A B n n 0 0 (List.replicate n 0) := by
  have e : A / (2 ^ 0 * pw n) = 0 := by rw [Int.pow_zero, Int.one_mul]; exact Int.ediv_eq_zero_of_lt hA hA1
  refine ⟨by simp, Ok.replicate n, by rw [e]; simp, by rw [e, val_replicate]; simp, fun j _ => rep_zero n j, ?_⟩
  rw [rep_zero]; decide

/-- From one digit to the next. -/
theorem div_next {A B R : Int} {n i : Nat} {zs : List Int} (h : DivInv A B n (i + 1) 0 R zs) : DivInv A B n i 16 R zs := by
  obtain ⟨h1, h2, h3, h4, h5, _⟩ := h
  have e : (2 : Int) ^ 16 * pw i = 2 ^ 0 * pw (i + 1) := by
    rw [pw_succ, Int.pow_zero, Int.one_mul, Int.mul_comm]; rfl
  refine ⟨h1, h2, by rw [e]; exact h3, by rw [e]; exact h4, fun j hj => h5 j (by omega), ?_⟩
  rw [h5 i (by omega)]; decide

theorem getD_set_same (zs : List Int) (j : Nat) (d : Int) (h : j < zs.length) : (zs.set j d).getD j 0 = d := by
  rw [List.getD_eq_getElem?_getD, List.getElem?_set_self h]; rfl
theorem getD_set_other (zs : List Int) (j k : Nat) (d : Int) (h : j ≠ k) : (zs.set j d).getD k 0 = zs.getD k 0 := by
  rw [List.getD_eq_getElem?_getD, List.getElem?_set_ne h, ← List.getD_eq_getElem?_getD]

/-- One bit, where the divisor goes in. -/
theorem div_in {xs : List Int} {B R : Int} {n i t : Nat} {zs : List Int} (hx : Ok xs) (hB : 0 < B) (ht : t < 16) (hi : i < n) (h : DivInv (val xs) B n i (t + 1) R zs) (hge : B ≤ 2 * R + xs.getD i 0 / 2 ^ t % 2) :
    DivInv (val xs) B n i t (2 * R + xs.getD i 0 / 2 ^ t % 2 - B) (zs.set i (zs.getD i 0 + 2 ^ t)) ∧ zs.getD i 0 + 2 ^ t < 65536 := by
  obtain ⟨h1, h2, h3, h4, h5, h6⟩ := h
  obtain ⟨s1, s2, s3⟩ := bit_step hx i t ht
  have hz := h2.getD i
  obtain ⟨r1, r2, r3⟩ := room_bit _ t ht hz.1 hz.2 h6
  have hp := unit_pos t
  rw [s1] at h3 h4
  rw [s2] at hge ⊢
  rw [h3] at hge ⊢
  obtain ⟨d1, d2⟩ := (div_bit hB).1 hge
  refine ⟨⟨by simpa using h1, h2.set _ ⟨by omega, r1⟩, d2.symm, ?_, ?_, ?_⟩, r1⟩
  · rw [val_set _ _ _ (by omega), d1, h4, Int.pow_succ, Int.add_mul]
    have e : zs.getD i 0 + 2 ^ t - zs.getD i 0 = 2 ^ t := by omega
    rw [e, Int.one_mul, Int.mul_right_comm (2 ^ t) 2, Int.mul_comm _ 2, Int.mul_comm 2 (_ / 2 / B), ← Int.mul_assoc (_ / 2 / B), Int.mul_assoc]
  · intro j hj
    rw [getD_set_other _ _ _ _ (by omega)]
    exact h5 j hj
  · rw [getD_set_same _ _ _ (by omega)]
    exact r2

/-- One bit, where it doesn't. -/
theorem div_out {xs : List Int} {B R : Int} {n i t : Nat} {zs : List Int} (hx : Ok xs) (hB : 0 < B) (ht : t < 16) (h : DivInv (val xs) B n i (t + 1) R zs) (hlt : 2 * R + xs.getD i 0 / 2 ^ t % 2 < B) :
    DivInv (val xs) B n i t (2 * R + xs.getD i 0 / 2 ^ t % 2) zs := by
  obtain ⟨h1, h2, h3, h4, h5, h6⟩ := h
  obtain ⟨s1, s2, s3⟩ := bit_step hx i t ht
  have hz := h2.getD i
  obtain ⟨r1, r2, r3⟩ := room_bit _ t ht hz.1 hz.2 h6
  rw [s1] at h3 h4
  rw [s2] at hlt ⊢
  rw [h3] at hlt ⊢
  obtain ⟨d1, d2⟩ := (div_bit hB).2 hlt
  refine ⟨h1, h2, d2.symm, ?_, h5, r3⟩
  rw [d1, h4, Int.pow_succ, Int.mul_right_comm (2 ^ t) 2, Int.mul_comm _ 2, Int.mul_comm 2 (_ / 2 / B), ← Int.mul_assoc (_ / 2 / B), Int.mul_assoc]

theorem div_end {xs : List Int} {B R : Int} {n : Nat} {zs : List Int} (h : DivInv (val xs) B n 0 0 R zs) : R = val xs % B ∧ val zs = val xs / B := by
  obtain ⟨h1, h2, h3, h4, h5, h6⟩ := h
  have e : (2 : Int) ^ 0 * pw 0 = 1 := by decide
  rw [e, Int.ediv_one] at h3 h4
  exact ⟨h3, by rw [h4, Int.mul_one]⟩

/-- Not in the block g. -/
def Off (g : Nat) (ao : Option Addr) : Prop := ∀ a, ao = some a → a.block ≠ g
theorem Off.none (g : Nat) : Off g none := fun a h => by cases h
theorem Off.of_new {w wr : World} {g n : Nat} {zs : List Int} {ao : Option Addr} (h : Made w wr (.slice (some ⟨g, 0, .none⟩) n n) zs) (hn : New wr ao) : Off g ao := by
  intro a e
  have h1 := hn a e
  have h2 := (h.1.lt g rfl).2
  omega
theorem Num.setCell {w : World} {ao : Option Addr} {n cap : Nat} {N : Int} {L g : Nat} (h : Num w ao n cap N L) (ho : Off g ao) (j : Nat) (d : Value) : Num (w.setCell ⟨g, j, .none⟩ d) ao n cap N L := by
  obtain ⟨zs, ⟨h1, h2, h3, h4⟩, h5⟩ := h
  refine ⟨zs, ⟨h1, h2, h3, ?_⟩, h5⟩
  rcases h4 with h4 | ⟨b, off, e, hb, hc⟩
  · exact .inl h4
  · refine .inr ⟨b, off, e, by simpa using hb, fun k hk => ?_⟩
    rw [← hc k hk]
    have hne : b ≠ g := ho _ e
    exact World.cell?_of_block (Below.heap_setCell w ⟨g, j, .none⟩ d b hne)

set_option maxHeartbeats 4000000 in
theorem div_raw {ao bo : Option Addr} {n m cap cap' : Nat} {xs : List Int} {B : Int} {M : Nat} {w : World} (hx : Digs w ao n cap xs) (ox : Ok xs) (hy : Num w bo m cap' B M) (hB : 0 < B) (bn : n ≤ 1000000) (bM : M ≤ 1000000) :
    Calls Try.prog 14 #[.slice ao n cap, .slice bo m cap'] w fun e w' => ∃ qo qn qc lo ln lc, e = .returned (.tuple #[.slice qo qn qc, .slice lo ln lc]) ∧ Num w' qo qn qc (val xs / B) n ∧ Num w' lo ln lc (val xs % B) M ∧ Below w.heap.size w w' := by
  have HX := hide hx; have HY := hide hy; have HOX := hide ox
  have Hln : Hid (n = xs.length) := hx.1
  clear hx hy ox
  go_enter Try.func14, Try.ntmps14
  go_wp2_with (at_make; refine make_int rfl _ _ rfl _ _ n rfl rfl rfl rfl (by omega) (Below.refl _ _) ?_)
  intro w1 hm1
  obtain ⟨g, hg⟩ : ∃ g, g = w.heap.size := ⟨_, rfl⟩
  rw [← hg] at hm1 ⊢
  have HG := hide hg
  clear hg
  go_wp2
  go_loopw [7, 8] (fun v t wr => ∃ (i : Nat) (zs : List Int) (R : Int) (lo : Option Addr) (ln lc : Nat), t = .int .i64 (i - 1 : Int) ∧ v = .slice lo ln lc ∧ i ≤ n ∧ Made w wr (.slice (some ⟨g, 0, none⟩) n n) zs ∧ Num wr lo ln lc R M ∧ Off g lo ∧ DivInv (val xs) B n i 0 R zs)
    (fun _ t _ => (intOf t + 1).toNat)
  case atStart => exact ⟨n, _, 0, none, 0, 0, rfl, rfl, by omega, hm1, Num.nil _ _, Off.none _, div_start (val_nonneg HOX.out) (by rw [Hln.out]; exact val_lt HOX.out)⟩
  case round =>
    obtain ⟨i', zs0, R0, lo, ln, lc, rfl, rfl, hi, hm0, hN0, hO0, hI0⟩ := hrel
    have HM0 := hide hm0; have HN0 := hide hN0; have HI0 := hide hI0; have HO0 := hide hO0
    clear hm0 hN0 hI0 hm1 hO0
    by_cases hi0 : i' = 0
    · subst hi0
      go_wp2_with fail
      refine (trim_any (zs := zs0) ?_ HI0.out.ok).mono ?_
      · obtain ⟨ao1, cap1, e1, hd⟩ := HM0.out.digs (by rw [HI0.out.len]; omega)
        rw [HI0.out.len] at e1 hd
        injection e1 with e1 _ e2
        subst e1 e2
        exact hd
      rintro e w2 ⟨ao2, n2, cap2, vs, rfl, t1, t2, t3, t4, t5, t6, rfl⟩
      have T4 := hide t4; have T5 := hide t5
      clear t4 t5 t6
      go_wp2
      go_ret2
      obtain ⟨e1, e2⟩ := div_end HI0.out
      refine ⟨_, _, _, _, _, _, rfl, ⟨vs, t1, t2, t3, by rw [T4.out, e2], ?_⟩, by rw [← e1]; exact HN0.out, HM0.out.2⟩
      have := T5.out; rw [HI0.out.len] at this; rw [t1.1]; exact this
    · obtain ⟨i, rfl⟩ : ∃ i, i' = i + 1 := ⟨i' - 1, by omega⟩
      clear hi0
      have ix : (((i + 1 : Nat) : Int) - 1) = (i : Int) := by omega
      rw [ix]
      clear ix
      obtain ⟨x, ex⟩ : ∃ x, Hid (x = xs.getD i 0) := ⟨_, rfl⟩
      have bx : 0 ≤ x ∧ x < 65536 := by rw [ex.out]; exact HOX.out.getD i
      obtain ⟨bx0, bx1⟩ := bx
      have hin : (i : Int) < (n : Int) := by omega
      obtain ⟨b1, off1, rfl, hb1, c1⟩ := HX.out.cell i (by omega)
      replace c1 := c1 i (by omega)
      rw [← ex.out] at c1
      have C1 := hide c1
      clear c1
      go_wp2
      go_loopw [7, 9] (fun v u wr => ∃ (t : Nat) (zs : List Int) (R : Int) (lo : Option Addr) (ln lc : Nat), u = .int .i64 (2 ^ t / 2 : Int) ∧ v = .slice lo ln lc ∧ t ≤ 16 ∧ Made w wr (.slice (some ⟨g, 0, none⟩) n n) zs ∧ Num wr lo ln lc R M ∧ Off g lo ∧ DivInv (val xs) B n i t R zs)
        (fun _ u _ => (intOf u).toNat)
      case atStart => exact ⟨16, zs0, R0, lo, ln, lc, rfl, rfl, by omega, HM0.out, HN0.out, HO0.out, div_next HI0.out⟩
      case round =>
        obtain ⟨t', zs, R, lo, ln, lc, rfl, rfl, ht, hm, hN, hO, hI⟩ := hrel
        have HM := hide hm; have HN := hide hN; have HI := hide hI; have HO := hide hO
        clear hm hN hI hO
        by_cases ht0 : t' = 0
        · subst ht0
          have e0 : (2 : Int) ^ 0 / 2 = 0 := rfl
          rw [e0]
          clear e0
          go_wp2
          go_roundw
          case rel => exact ⟨i, zs, R, lo, ln, lc, by go_num, rfl, by omega, HM.out, HN.out, HO.out, HI.out⟩
          case measure => simp [intOf]
        · obtain ⟨t, rfl⟩ : ∃ t, t' = t + 1 := ⟨t' - 1, by omega⟩
          clear ht0
          rw [half_unit]
          obtain ⟨u, hu⟩ : ∃ u : Int, Hid (u = 2 ^ t) := ⟨_, rfl⟩
          rw [← hu.out]
          have u0 : 0 < u := by rw [hu.out]; exact unit_pos t
          have u1 : u ≤ 32768 := by rw [hu.out]; exact unit_le t (by omega)
          have hub : (u == 0) = false := by rw [beq_eq_false_iff_ne]; omega
          obtain ⟨z, ez⟩ : ∃ z, Hid (z = zs.getD i 0) := ⟨_, rfl⟩
          have bz : 0 ≤ z ∧ z < 65536 := by rw [ez.out]; exact HI.out.ok.getD i
          obtain ⟨bz0, bz1⟩ := bz
          have hxu : 0 ≤ x / u := Int.ediv_nonneg bx0 (by omega)
          have hxu1 : x / u ≤ x := Int.ediv_le_self _ bx0
          have hR0 := HN.out.nonneg
          have HR1 : Hid (R < B) := by rw [HI.out.left]; exact Int.emod_lt_of_pos _ hB
          go_wp2_with fail
          refine (add_new HN.out HN.out (by omega)).mono ?_
          rintro e w2 ⟨l2, n2, k2, rfl, N2, B2, F2⟩
          have O2 := Off.of_new HM.out F2
          have M2 := HM.out.below B2
          have c1 : w2.cell? ⟨b1, off1 + i, none⟩ = some (.int .i64 x) := ((Below.trans HM.out.2 (B2.mono HM.out.2.size)).cell (p := ⟨b1, off1 + i, none⟩) hb1).trans C1.out
          have HY2 := hide (HY.out.below M2.2)
          have HM2 := hide M2
          clear M2
          rcases (show x / u % 2 = 1 ∨ x / u % 2 = 0 by omega) with hbit | hbit
          · have hbt : (x / u % 2 == 1) = true := by rw [beq_iff_eq]; exact hbit
            by_cases hge : B ≤ R + R + 1
            · go_wp2_with fail
              have L1 := lit1 w2
              refine (add_new (N2.below (below_lit w2 _)) (L1.mono (by omega)) (by omega)).mono ?_
              rintro e w3 ⟨l3, n3, k3, rfl, N3, B3, F3⟩
              have O3 := Off.of_new (HM2.out.below (below_lit w2 (.cells #[.int .i64 1] 3))) F3
              have B3' := Below.on (below_lit w2 (.cells #[.int .i64 1] 3)) B3
              have HM3 := hide (HM2.out.below B3')
              have HY3 := hide (HY2.out.below B3')
              clear c1 L1 N2 HM2 HY2 B3 B3' B2
              go_wp2_with fail
              refine (cmp_num N3 HY3.out).mono ?_
              rintro e w4 ⟨⟨c, rfl, hc⟩, rfl⟩
              have hc0 : 0 ≤ c := by omega
              clear hc
              have D := div_in HOX.out hB (by omega) (by omega) HI.out (by rw [← ex.out, ← hu.out, hbit]; omega)
              rw [← ex.out, ← hu.out, ← ez.out, hbit] at D
              obtain ⟨D1, D2⟩ := D
              have HD1 := hide D1
              clear D1
              have HB := hide hbit
              clear hbit
              go_wp2_with fail
              refine (sub_new N3 HY3.out hge).mono ?_
              rintro e w5 ⟨l5, n5, k5, rfl, N5, B5, F5⟩
              have O5 := Off.of_new HM3.out F5
              have HM5 := hide (HM3.out.below B5)
              have N5' := N5.short (HY.out.below (Below.trans HM3.out.2 (B5.mono HM3.out.2.size))) (by have := HR1.out; omega)
              have c5 := HM5.out.cell HI.out.len.symm i (by rw [HI.out.len]; omega)
              rw [← ez.out] at c5
              have f5 := HM5.out.frozen HI.out.len.symm i
              clear N5 N3 B5
              go_wp2
              go_roundw
              case rel => exact ⟨t, zs.set i (z + u), R + R + 1 - B, l5, n5, k5, by rw [hu.out], rfl, by omega, HM5.out.store HI.out.len.symm i _, N5'.setCell O5 i _, O5, by have := HD1.out; rw [show 2 * R + 1 - B = R + R + 1 - B by omega] at this; exact this⟩
              case measure => simp [intOf]; omega
            · go_wp2_with fail
              have L1 := lit1 w2
              refine (add_new (N2.below (below_lit w2 _)) (L1.mono (by omega)) (by omega)).mono ?_
              rintro e w3 ⟨l3, n3, k3, rfl, N3, B3, F3⟩
              have O3 := Off.of_new (HM2.out.below (below_lit w2 (.cells #[.int .i64 1] 3))) F3
              have B3' := Below.on (below_lit w2 (.cells #[.int .i64 1] 3)) B3
              have HM3 := hide (HM2.out.below B3')
              have HY3 := hide (HY2.out.below B3')
              clear c1 L1 N2 HM2 HY2 B3 B3' B2
              go_wp2_with fail
              refine (cmp_num N3 HY3.out).mono ?_
              rintro e w4 ⟨⟨c, rfl, hc⟩, rfl⟩
              have hc0 : c < 0 := by omega
              clear hc
              have D := div_out HOX.out hB (by omega) HI.out (by rw [← ex.out, ← hu.out, hbit]; omega)
              rw [← ex.out, ← hu.out, hbit] at D
              have HD1 := hide D
              have HB := hide hbit
              clear D hbit
              have N5' := N3.short HY3.out (by omega)
              clear N3
              go_wp2
              go_roundw
              case rel => exact ⟨t, zs, R + R + 1, _, _, _, by rw [hu.out], rfl, by omega, HM3.out, N5', O3, by have := HD1.out; rw [show 2 * R + 1 = R + R + 1 by omega] at this; exact this⟩
              case measure => simp [intOf]; omega
          · have hbt : (x / u % 2 == 1) = false := by rw [beq_eq_false_iff_ne]; omega
            by_cases hge : B ≤ R + R
            · go_wp2_with fail
              refine (cmp_num N2 HY2.out).mono ?_
              rintro e w4 ⟨⟨c, rfl, hc⟩, rfl⟩
              have hc0 : 0 ≤ c := by omega
              clear hc
              have D := div_in HOX.out hB (by omega) (by omega) HI.out (by rw [← ex.out, ← hu.out, hbit]; omega)
              rw [← ex.out, ← hu.out, ← ez.out, hbit] at D
              obtain ⟨D1, D2⟩ := D
              have HD1 := hide D1
              clear D1
              have HB := hide hbit
              clear hbit
              go_wp2_with fail
              refine (sub_new N2 HY2.out hge).mono ?_
              rintro e w5 ⟨l5, n5, k5, rfl, N5, B5, F5⟩
              have O5 := Off.of_new HM2.out F5
              have HM5 := hide (HM2.out.below B5)
              have N5' := N5.short (HY.out.below (Below.trans HM2.out.2 (B5.mono HM2.out.2.size))) (by have := HR1.out; omega)
              have c5 := HM5.out.cell HI.out.len.symm i (by rw [HI.out.len]; omega)
              rw [← ez.out] at c5
              have f5 := HM5.out.frozen HI.out.len.symm i
              clear N5 N2 B5
              go_wp2
              go_roundw
              case rel => exact ⟨t, zs.set i (z + u), R + R - B, l5, n5, k5, by rw [hu.out], rfl, by omega, HM5.out.store HI.out.len.symm i _, N5'.setCell O5 i _, O5, by have := HD1.out; rw [show 2 * R + 0 - B = R + R - B by omega] at this; exact this⟩
              case measure => simp [intOf]; omega
            · go_wp2_with fail
              refine (cmp_num N2 HY2.out).mono ?_
              rintro e w4 ⟨⟨c, rfl, hc⟩, rfl⟩
              have hc0 : c < 0 := by omega
              clear hc
              have D := div_out HOX.out hB (by omega) HI.out (by rw [← ex.out, ← hu.out, hbit]; omega)
              rw [← ex.out, ← hu.out, hbit] at D
              have HD1 := hide D
              have HB := hide hbit
              clear D hbit
              have N5' := N2.short HY2.out (by omega)
              clear N2
              go_wp2
              go_roundw
              case rel => exact ⟨t, zs, R + R, _, _, _, by rw [hu.out], rfl, by omega, HM2.out, N5', O2, by have := HD1.out; rw [show 2 * R + 0 = R + R by omega] at this; exact this⟩
              case measure => simp [intOf]; omega

theorem div_any {ao bo : Option Addr} {n m cap cap' : Nat} {A B : Int} {L M : Nat} {w : World} (hx : Num w ao n cap A L) (hy : Num w bo m cap' B M) (hB : 0 < B) (hL : L ≤ 1000000) (hM : M ≤ 1000000) :
    Calls Try.prog 14 #[.slice ao n cap, .slice bo m cap'] w fun e w' => ∃ qo qn qc lo ln lc, e = .returned (.tuple #[.slice qo qn qc, .slice lo ln lc]) ∧ Num w' qo qn qc (A / B) L ∧ Num w' lo ln lc (A % B) M ∧ Below w.heap.size w w' := by
  obtain ⟨xs, dx, ox, tx, rfl, lx⟩ := hx
  refine (div_raw dx ox hy hB (by omega) hM).mono ?_
  rintro e w' ⟨qo, qn, qc, lo, ln, lc, h1, h2, h3, h4⟩
  exact ⟨qo, qn, qc, lo, ln, lc, h1, h2.mono lx, h3, h4⟩
theorem Num.len_le {w : World} {ao : Option Addr} {n cap : Nat} {A : Int} {L : Nat} (h : Num w ao n cap A L) (k : Nat) (hlt : A < pw k) : n ≤ k := by
  obtain ⟨_, _, _, _, _, h⟩ := h.upto k hlt
  exact h
theorem Num.len_gt {w : World} {ao : Option Addr} {n cap : Nat} {A : Int} {L : Nat} (h : Num w ao n cap A L) (k : Nat) (hge : pw k ≤ A) : k < n := by
  obtain ⟨zs, d, o, _, rfl, _⟩ := h
  have h1 := val_lt o
  have h2 := d.1
  by_cases hc : k < n
  · exact hc
  · have := pw_mono (show zs.length ≤ k by omega)
    omega
end Go.Proofs.Ytlmjbpmpedlhlaa
