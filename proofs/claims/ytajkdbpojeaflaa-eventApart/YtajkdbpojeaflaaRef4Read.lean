/- Contracts of sponsionref04's Take, Value and IntOf over this translation. -/
import Derived.Test.YtajkdbpojeaflaaRef4
import Derived.Test.YtajkdbpojeaflaaPackReader3
namespace Go.Proofs.Ytajkdbpojeaflaa
open Go.RowKit Go.Lib
attribute [local go_sem] setCell_drewN alloc_drewN

theorem ret_int' {k : IntKind} {a b : Int} (h : a = b) : Ending.returned (.int k a) = .returned (.int k b) := by rw [h]
theorem str_cut (l : List Int) (i j : Nat) : (strOfNums l).extract i j = strOfNums ((l.take j).drop i) := by
  apply ByteArray.ext
  unfold strOfNums
  simp [ByteArray.data_extract, List.map_take, List.map_drop, List.drop_take]
theorem str_drop (l : List Int) (i : Nat) : (strOfNums l).extract i l.length = strOfNums (l.drop i) := by
  rw [str_cut, List.take_length]
theorem str_take (l : List Int) (j : Nat) : (strOfNums l).extract 0 j = strOfNums (l.take j) := by
  rw [str_cut, List.drop_zero]
theorem str_get {l : List Int} (h : Byt l) (k : Nat) (hk : k < (strOfNums l).size) : (((strOfNums l)[k]).toNat : Int) = l.getD k 0 := by
  have hk' : k < l.length := by rwa [strOfNums_size] at hk
  have e : (strOfNums l)[k] = UInt8.ofNat (l[k]).toNat := by
    show ((l.map fun n => UInt8.ofNat n.toNat).toArray)[k]'(by simpa using hk') = _
    rw [List.getElem_toArray, List.getElem_map]
  have e2 : l.getD k 0 = l[k] := by simp [hk']
  have hb := h.get k
  rw [e, e2]
  rw [e2] at hb
  rw [UInt8.toNat_ofNat']
  omega
theorem u64_step {l : List Int} {k : Nat} {V : Int} (v0 : 0 ≤ V) (v2 : V < 72057594037927936) (b0 : 0 ≤ l.getD k 0) (b1 : l.getD k 0 < 256) (hlt : k < l.length) : IntKind.u64.wrap (V * 256 + IntKind.u64.wrap l[k]) = V * 256 + l.getD k 0 := by
  have e : l[k] = l.getD k 0 := by simp [hlt]
  rw [e, IntKind.wrap_u64, IntKind.wrap_u64]
  omega
set_option maxHeartbeats 4000000 in
theorem value_any (l : List Int) (w : World) (h : Byt l) (hl : l.length ≤ 8) :
    Calls Try.prog 28 #[.string (strOfNums l)] w fun e w' => e = .returned (.int .u64 (bval l)) ∧ w' = w := by
  have H := hide h
  have hs : (strOfNums l).size = l.length := strOfNums_size l
  clear h
  go_enter Try.func28, Try.ntmps28
  go_wp2
  go_loop [3, 4] (fun t3 t4 => ∃ k : Nat, k ≤ l.length ∧ t4 = .int .i64 k ∧ t3 = .int .u64 (bval (l.take k))) (fun _ t => l.length - (intOf t).toNat)
  case atStart => exact ⟨0, by omega, rfl, rfl⟩
  case round =>
    obtain ⟨k, hk, rfl, rfl⟩ := hrel
    by_cases hlt : k < l.length
    · have hki : (k : Int) < (l.length : Int) := by omega
      obtain ⟨b0, b1⟩ := H.out.get k
      obtain ⟨v0, v1⟩ := bval_bd H.out k (by omega)
      have HS : Hid (bval (l.take (k + 1)) = bval (l.take k) * 256 + l.getD k 0) := by rw [take_snoc' l k (by omega), bval_snoc]; exact rfl
      have p7 : (256 : Int) ^ k ≤ 72057594037927936 := by
        rcases (by omega : k = 0 ∨ k = 1 ∨ k = 2 ∨ k = 3 ∨ k = 4 ∨ k = 5 ∨ k = 6 ∨ k = 7) with rfl | rfl | rfl | rfl | rfl | rfl | rfl | rfl <;> decide
      have v2 : bval (l.take k) < 72057594037927936 := by omega
      have hg := str_get H.out k
      have hks : k < (strOfNums l).size := by omega
      clear p7 v1
      generalize bval (l.take k) = V at *
      go_wp2
      go_round
      case rel => exact ⟨k + 1, by omega, by go_num, by rw [HS.out]; exact num_eq (u64_step v0 v2 b0 b1 hlt)⟩
      case measure => simp [intOf]; omega
    · obtain rfl : k = l.length := by omega
      go_wp2
      go_ret
      exact ⟨rfl, rfl⟩
/-- The reader of the reference, as a value. -/
abbrev rd (l : List Int) (e : Int) : Value := .agg #[.string (strOfNums l), .int .i64 e]
theorem four_cuts (p q r s : List Int) (hp : p.length = 8) (hq : q.length = 8) (hr : r.length = 8) (hs : s.length = 8) :
    (((p ++ q ++ r ++ s).take 32).drop 24 = s ∧ ((p ++ q ++ r ++ s).take 24).drop 16 = r) ∧ ((p ++ q ++ r ++ s).take 16).drop 8 = q ∧ (p ++ q ++ r ++ s).take 8 = p := by
  have h1 : (p ++ q ++ r ++ s).take 32 = p ++ q ++ r ++ s := List.take_of_length_le (by simp only [List.length_append]; omega)
  have h2 : (p ++ q ++ r ++ s).take 24 = p ++ q ++ r := List.take_left' (by simp only [List.length_append]; omega)
  have h3 : (p ++ q ++ r ++ s).take 16 = p ++ q := by rw [List.append_assoc (p ++ q)]; exact List.take_left' (by simp only [List.length_append]; omega)
  have h4 : (p ++ q ++ r ++ s).take 8 = p := by rw [List.append_assoc (p ++ q), List.append_assoc p]; exact List.take_left' hp
  refine ⟨⟨?_, ?_⟩, ?_, h4⟩
  · rw [h1]; exact List.drop_left' (by simp only [List.length_append]; omega)
  · rw [h2]; exact List.drop_left' (by simp only [List.length_append]; omega)
  · rw [h3]; exact List.drop_left' hp
theorem bval_pre (x : Int) (k : Nat) : ∀ j, j ≤ k → bval (pre x k j) = x / 2 ^ (8 * (k - j)) % 256 ^ j
  | 0, _ => by simp [pre, bval, Int.emod_one]
  | j + 1, h => by
    rw [pre_snoc, bval_snoc, bval_pre x k j (by omega)]
    obtain ⟨m, hm⟩ : ∃ m, k = m + j + 1 := ⟨k - j - 1, by omega⟩
    subst hm
    rw [show m + j + 1 - j = m + 1 by omega, show m + j + 1 - 1 - j = m by omega, show m + j + 1 - (j + 1) = m by omega]
    have e : x / 2 ^ (8 * (m + 1)) = x / 2 ^ (8 * m) / 256 := by
      rw [show 8 * (m + 1) = 8 * m + 8 by omega, Int.pow_add, ← Int.ediv_ediv_of_nonneg (Int.le_of_lt (Int.pow_pos (by decide)))]
      rfl
    rw [e, Int.pow_succ, Int.mul_comm (256 ^ j) 256, mod_stepB (x / 2 ^ (8 * m)) 256 (256 ^ j) (by decide) (Int.pow_pos (by decide))]
    omega
theorem bval_lm (a : Int) (i : Nat) : bval (be (lm a i) 8) = lm a i := by
  unfold be
  rw [bval_pre _ 8 8 (Nat.le_refl _), Nat.sub_self, Nat.mul_zero]
  have := lm_bd a i
  simp
  omega
set_option maxHeartbeats 4000000 in
theorem intOf_any (a : Int) (w : World) (ha : In a) :
    Calls Try.prog 29 #[.string (strOfNums (b32 a))] w fun r w' => r = .returned (big a) ∧ Below w.heap.size w w' := by
  have hs : (strOfNums (b32 a)).size = 32 := by rw [strOfNums_size, b32_length]
  obtain ⟨⟨q0, q1⟩, q2, q3⟩ := four_cuts (be (lm a 3) 8) (be (lm a 2) 8) (be (lm a 1) 8) (be (lm a 0) 8) (be_length _ _) (be_length _ _) (be_length _ _) (be_length _ _)
  rw [← b32_four ha] at q0 q1 q2 q3
  have s0 : (strOfNums (b32 a)).extract 24 32 = strOfNums (be (lm a 0) 8) := by rw [str_cut, q0]
  have s1 : (strOfNums (b32 a)).extract 16 24 = strOfNums (be (lm a 1) 8) := by rw [str_cut, q1]
  have s2 : (strOfNums (b32 a)).extract 8 16 = strOfNums (be (lm a 2) 8) := by rw [str_cut, q2]
  have s3 : (strOfNums (b32 a)).extract 0 8 = strOfNums (be (lm a 3) 8) := by rw [str_take, q3]
  clear q0 q1 q2 q3
  generalize strOfNums (b32 a) = t at *
  have V0 : Hid (∀ w, Calls Try.prog 28 #[.string (strOfNums (be (lm a 0) 8))] w fun e w' => e = .returned (.int .u64 (lm a 0)) ∧ w' = w) := fun w => by
    have := value_any (be (lm a 0) 8) w (pre_byt _ _ _) (by rw [be_length]; exact Nat.le_refl _)
    rwa [bval_lm] at this
  have V1 : Hid (∀ w, Calls Try.prog 28 #[.string (strOfNums (be (lm a 1) 8))] w fun e w' => e = .returned (.int .u64 (lm a 1)) ∧ w' = w) := fun w => by
    have := value_any (be (lm a 1) 8) w (pre_byt _ _ _) (by rw [be_length]; exact Nat.le_refl _)
    rwa [bval_lm] at this
  have V2 : Hid (∀ w, Calls Try.prog 28 #[.string (strOfNums (be (lm a 2) 8))] w fun e w' => e = .returned (.int .u64 (lm a 2)) ∧ w' = w) := fun w => by
    have := value_any (be (lm a 2) 8) w (pre_byt _ _ _) (by rw [be_length]; exact Nat.le_refl _)
    rwa [bval_lm] at this
  have V3 : Hid (∀ w, Calls Try.prog 28 #[.string (strOfNums (be (lm a 3) 8))] w fun e w' => e = .returned (.int .u64 (lm a 3)) ∧ w' = w) := fun w => by
    have := value_any (be (lm a 3) 8) w (pre_byt _ _ _) (by rw [be_length]; exact Nat.le_refl _)
    rwa [bval_lm] at this
  generalize strOfNums (be (lm a 0) 8) = t0 at *
  generalize strOfNums (be (lm a 1) 8) = t1 at *
  generalize strOfNums (be (lm a 2) 8) = t2 at *
  generalize strOfNums (be (lm a 3) 8) = t3 at *
  go_enter Try.func29, Try.ntmps29
  go_wp2
  have P := hide (Own.new w 0 0 0 0 34)
  have B : Hid (Below w.heap.size w (w.alloc (.cells #[.int .u64 0, .int .u64 0, .int .u64 0, .int .u64 0] 34))) := bAl (bMe w)
  generalize w.alloc (.cells #[.int .u64 0, .int .u64 0, .int .u64 0, .int .u64 0] 34) = w1 at *
  obtain ⟨p5, p0, p1, p2, p3, pf⟩ := P.out
  go_region_held3 (fun _ => True) (exact trivial)
    (first
      | (go_at_call_of 28 (Value.string t0); refine (V0.out _).mono ?_; rintro e w2 ⟨rfl, rfl⟩)
      | (go_at_call_of 28 (Value.string t1); refine (V1.out _).mono ?_; rintro e w2 ⟨rfl, rfl⟩)
      | (go_at_call_of 28 (Value.string t2); refine (V2.out _).mono ?_; rintro e w2 ⟨rfl, rfl⟩)
      | (go_at_call_of 28 (Value.string t3); refine (V3.out _).mono ?_; rintro e w2 ⟨rfl, rfl⟩))
  all_goals
    go_wp2
    refine bodyPost_ret (v := big a) (by simp [results, Try.results29, go_sem, p0, p1, p2, p3]) rfl ⟨rfl, ?_⟩
    exact (put_below B.out (Nat.le_refl _)).drew
end Go.Proofs.Ytajkdbpojeaflaa
