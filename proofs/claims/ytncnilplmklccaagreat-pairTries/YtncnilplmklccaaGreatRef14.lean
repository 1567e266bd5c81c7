/- Contracts of sponsionref04's Num and Int over this translation. The text of the document's table (gen-ref13d.py). The document's pair of tables: sponsionref14.Text. -/
import Derived.Test.YtncnilplmklccaaGreatPackWriter
import Derived.Laws.Concat
import Derived.Deep.RegionHeld3
import Derived.Test.YtncnilplmklccaaGreatTabTxt
import Derived.Test.YtncnilplmklccaaGreatPackMore
import Derived.Test.YtncnilplmklccaaGreatPrRun
/- Contracts of sponsionref04's Num and Int over this translation. -/
namespace Go.Proofs.YtncnilplmklccaaGreat
open Go.RowKit Go.Lib
attribute [local go_sem] setCell_drewN alloc_drewN

theorem str_append (a b : List Int) : strOfNums a ++ strOfNums b = strOfNums (a ++ b) := by
  unfold strOfNums
  rw [Go.ByteArray.mk_append_mk, List.map_append]
theorem ret_str {a b : ByteArray} (h : a = b) : Ending.returned (.string a) = .returned (.string b) := by rw [h]
theorem str_nil : (⟨#[]⟩ : ByteArray) = strOfNums [] := rfl
theorem conv1 (w : World) (d : Int) : (convert 52 9 (.slice (some ⟨w.heap.size, 0, none⟩) 1 1)).run Tryz.prog (w.alloc (.cells #[.int .u8 d] 5)) = .ok (.string (strOfNums [d])) (w.alloc (.cells #[.int .u8 d] 5)) :=
  run_convert_bytes_arg _ 52 5 Tryz.underlying52 Tryz.underlying5 w.heap.size 0 1 1 [d] rfl (fun i hi => by
    obtain rfl : i = 0 := by omega
    rw [World.cell?_alloc_at _ _ _ _ rfl]; rfl) 9 Tryz.underlying9
/-- The last j bytes of a number. -/
def low (x : Int) (j : Nat) : List Int := (List.range j).map fun i => x / 256 ^ (j - 1 - i) % 256
theorem low_length (x : Int) (j : Nat) : (low x j).length = j := by simp [low]
theorem low_cons (x : Int) (j : Nat) : low x (j + 1) = (x / 256 ^ j % 256) :: low x j := by
  unfold low
  rw [List.range_succ_eq_map, List.map_cons, List.map_map]
  congr 1
  apply List.map_congr_left
  intro i hi
  simp only [Function.comp]
  rw [show j + 1 - 1 - (i + 1) = j - 1 - i by omega]
theorem pow_256 (n : Nat) : (2 : Int) ^ (8 * n) = 256 ^ n := by
  rw [Int.pow_mul]; rfl
theorem low_be (x : Int) (k : Nat) : low x k = be x k := by
  unfold low be pre
  apply List.map_congr_left
  intro i _
  rw [pow_256]
set_option maxHeartbeats 4000000 in
theorem num_any (x : Int) (k : Nat) (w : World) (h0 : 0 ≤ x) (h1 : x < 18446744073709551616) (hk : k ≤ 8) :
    Calls Tryz.prog 35 #[.int .u64 x, .int .i64 k] w fun e w' => e = .returned (.string (strOfNums (be x k))) ∧ Below w.heap.size w w' := by
  have hki : (k : Int) ≤ 8 := by omega
  go_enter Tryz.func35, Tryz.ntmps35
  go_wp2
  go_loopw [0, 5, 7] (fun t0 t5 t7 wr => ∃ j : Nat, j ≤ k ∧ t7 = .int .i64 j ∧ t0 = .int .u64 (x / 256 ^ j) ∧ t5 = .string (strOfNums (low x j)) ∧ Below w.heap.size w wr) (fun _ _ t _ => k - (intOf t).toNat)
  case atStart => exact ⟨0, by omega, rfl, by simp, rfl, bMe w⟩
  case round =>
    obtain ⟨j, hj, rfl, rfl, rfl, hb⟩ := hrel
    have HB := hide hb
    clear hb
    by_cases hlt : j < k
    · have hji : (j : Int) < (k : Int) := by omega
      have p0 : (0 : Int) < 256 ^ j := Int.pow_pos (by decide)
      have y0 : 0 ≤ x / 256 ^ j := Int.ediv_nonneg h0 (by omega)
      have y1 : x / 256 ^ j < 18446744073709551616 := Int.lt_of_le_of_lt (Int.ediv_le_self _ h0) h1
      have hn : x / 256 ^ (j + 1) = x / 256 ^ j / 256 := by rw [Int.pow_succ, Int.ediv_ediv_of_nonneg (by omega)]
      have HL : Hid (strOfNums (low x (j + 1)) = strOfNums [x / 256 ^ j % 256] ++ strOfNums (low x j)) := by
        show _ = _
        rw [low_cons, str_append]; rfl
      have HN := hide hn
      have hs : (strOfNums (low x j)).size = j := by rw [strOfNums_size, low_length]
      clear hn p0
      generalize x / 256 ^ j = y at *
      have hcv := conv1 wr (y % 256)
      have hs1 : (strOfNums [y % 256]).size = 1 := by rw [strOfNums_size]; rfl
      go_wp2
      go_roundw
      case rel => exact ⟨j + 1, by omega, by go_num, by rw [HN.out], by rw [HL.out], bAl HB.out⟩
      case measure => simp [intOf]; omega
    · obtain rfl : j = k := by omega
      have HE : Hid (low x j = be x j) := low_be x j
      go_wp2
      go_ret
      exact ⟨ret_str (by rw [HE.out]), HB.out⟩
/-- A number's 32 bytes, eight by eight. -/
theorem b32_four {a : Int} (ha : In a) : b32 a = be (lm a 3) 8 ++ be (lm a 2) 8 ++ be (lm a 1) 8 ++ be (lm a 0) 8 := by
  unfold b32 be pre
  rw [show List.range 32 = [0, 1, 2, 3, 4, 5, 6, 7, 8, 9, 10, 11, 12, 13, 14, 15, 16, 17, 18, 19, 20, 21, 22, 23, 24, 25, 26, 27, 28, 29, 30, 31] from rfl, show List.range 8 = [0, 1, 2, 3, 4, 5, 6, 7] from rfl]
  have key : ∀ k q, k < 32 → k / 8 = q → lm a q / 2 ^ (k % 8 * 8) % 256 = bt a (31 - k) := fun k q hk hq => byte_of ha hk hq
  simp only [List.map_cons, List.map_nil, List.cons_append, List.nil_append]
  have e0 : bt a 0 = lm a 3 / 2 ^ (8 * (8 - 1 - 0)) % 256 := (key 31 3 (by omega) rfl).symm
  have e1 : bt a 1 = lm a 3 / 2 ^ (8 * (8 - 1 - 1)) % 256 := (key 30 3 (by omega) rfl).symm
  have e2 : bt a 2 = lm a 3 / 2 ^ (8 * (8 - 1 - 2)) % 256 := (key 29 3 (by omega) rfl).symm
  have e3 : bt a 3 = lm a 3 / 2 ^ (8 * (8 - 1 - 3)) % 256 := (key 28 3 (by omega) rfl).symm
  have e4 : bt a 4 = lm a 3 / 2 ^ (8 * (8 - 1 - 4)) % 256 := (key 27 3 (by omega) rfl).symm
  have e5 : bt a 5 = lm a 3 / 2 ^ (8 * (8 - 1 - 5)) % 256 := (key 26 3 (by omega) rfl).symm
  have e6 : bt a 6 = lm a 3 / 2 ^ (8 * (8 - 1 - 6)) % 256 := (key 25 3 (by omega) rfl).symm
  have e7 : bt a 7 = lm a 3 / 2 ^ (8 * (8 - 1 - 7)) % 256 := (key 24 3 (by omega) rfl).symm
  have e8 : bt a 8 = lm a 2 / 2 ^ (8 * (8 - 1 - 0)) % 256 := (key 23 2 (by omega) rfl).symm
  have e9 : bt a 9 = lm a 2 / 2 ^ (8 * (8 - 1 - 1)) % 256 := (key 22 2 (by omega) rfl).symm
  have e10 : bt a 10 = lm a 2 / 2 ^ (8 * (8 - 1 - 2)) % 256 := (key 21 2 (by omega) rfl).symm
  have e11 : bt a 11 = lm a 2 / 2 ^ (8 * (8 - 1 - 3)) % 256 := (key 20 2 (by omega) rfl).symm
  have e12 : bt a 12 = lm a 2 / 2 ^ (8 * (8 - 1 - 4)) % 256 := (key 19 2 (by omega) rfl).symm
  have e13 : bt a 13 = lm a 2 / 2 ^ (8 * (8 - 1 - 5)) % 256 := (key 18 2 (by omega) rfl).symm
  have e14 : bt a 14 = lm a 2 / 2 ^ (8 * (8 - 1 - 6)) % 256 := (key 17 2 (by omega) rfl).symm
  have e15 : bt a 15 = lm a 2 / 2 ^ (8 * (8 - 1 - 7)) % 256 := (key 16 2 (by omega) rfl).symm
  have e16 : bt a 16 = lm a 1 / 2 ^ (8 * (8 - 1 - 0)) % 256 := (key 15 1 (by omega) rfl).symm
  have e17 : bt a 17 = lm a 1 / 2 ^ (8 * (8 - 1 - 1)) % 256 := (key 14 1 (by omega) rfl).symm
  have e18 : bt a 18 = lm a 1 / 2 ^ (8 * (8 - 1 - 2)) % 256 := (key 13 1 (by omega) rfl).symm
  have e19 : bt a 19 = lm a 1 / 2 ^ (8 * (8 - 1 - 3)) % 256 := (key 12 1 (by omega) rfl).symm
  have e20 : bt a 20 = lm a 1 / 2 ^ (8 * (8 - 1 - 4)) % 256 := (key 11 1 (by omega) rfl).symm
  have e21 : bt a 21 = lm a 1 / 2 ^ (8 * (8 - 1 - 5)) % 256 := (key 10 1 (by omega) rfl).symm
  have e22 : bt a 22 = lm a 1 / 2 ^ (8 * (8 - 1 - 6)) % 256 := (key 9 1 (by omega) rfl).symm
  have e23 : bt a 23 = lm a 1 / 2 ^ (8 * (8 - 1 - 7)) % 256 := (key 8 1 (by omega) rfl).symm
  have e24 : bt a 24 = lm a 0 / 2 ^ (8 * (8 - 1 - 0)) % 256 := (key 7 0 (by omega) rfl).symm
  have e25 : bt a 25 = lm a 0 / 2 ^ (8 * (8 - 1 - 1)) % 256 := (key 6 0 (by omega) rfl).symm
  have e26 : bt a 26 = lm a 0 / 2 ^ (8 * (8 - 1 - 2)) % 256 := (key 5 0 (by omega) rfl).symm
  have e27 : bt a 27 = lm a 0 / 2 ^ (8 * (8 - 1 - 3)) % 256 := (key 4 0 (by omega) rfl).symm
  have e28 : bt a 28 = lm a 0 / 2 ^ (8 * (8 - 1 - 4)) % 256 := (key 3 0 (by omega) rfl).symm
  have e29 : bt a 29 = lm a 0 / 2 ^ (8 * (8 - 1 - 5)) % 256 := (key 2 0 (by omega) rfl).symm
  have e30 : bt a 30 = lm a 0 / 2 ^ (8 * (8 - 1 - 6)) % 256 := (key 1 0 (by omega) rfl).symm
  have e31 : bt a 31 = lm a 0 / 2 ^ (8 * (8 - 1 - 7)) % 256 := (key 0 0 (by omega) rfl).symm
  rw [e0, e1, e2, e3, e4, e5, e6, e7, e8, e9, e10, e11, e12, e13, e14, e15, e16, e17, e18, e19, e20, e21, e22, e23, e24, e25, e26, e27, e28, e29, e30, e31]
set_option maxHeartbeats 4000000 in
theorem refint_any (a : Int) (w : World) (ha : In a) :
    Calls Tryz.prog 58 #[big a] w fun e w' => e = .returned (.string (strOfNums (b32 a))) ∧ Below w.heap.size w w' := by
  have HA := hide ha
  clear ha
  have l0 := lm_bd a 0
  have l1 := lm_bd a 1
  have l2 := lm_bd a 2
  have l3 := lm_bd a 3
  go_enter Tryz.func58, Tryz.ntmps58
  go_wp2
  have P := hide (Own.new w (lm a 0) (lm a 1) (lm a 2) (lm a 3) 29)
  have B : Hid (Below w.heap.size w (w.alloc (.cells #[.int .u64 (lm a 0), .int .u64 (lm a 1), .int .u64 (lm a 2), .int .u64 (lm a 3)] 29))) := bAl (bMe w)
  generalize w.alloc (.cells #[.int .u64 (lm a 0), .int .u64 (lm a 1), .int .u64 (lm a 2), .int .u64 (lm a 3)] 29) = w1 at *
  have z0 : (strOfNums (be (lm a 0) 8)).size = 8 := by rw [strOfNums_size, be_length]
  have z1 : (strOfNums (be (lm a 1) 8)).size = 8 := by rw [strOfNums_size, be_length]
  have z2 : (strOfNums (be (lm a 2) 8)).size = 8 := by rw [strOfNums_size, be_length]
  have z3 : (strOfNums (be (lm a 3) 8)).size = 8 := by rw [strOfNums_size, be_length]
  go_region_held3 (fun w' => w'.cell? ⟨w.heap.size, 0, none⟩ = some (.int .u64 (lm a 0)) ∧ w'.cell? ⟨w.heap.size, 1, none⟩ = some (.int .u64 (lm a 1)) ∧ w'.cell? ⟨w.heap.size, 2, none⟩ = some (.int .u64 (lm a 2)) ∧ w'.cell? ⟨w.heap.size, 3, none⟩ = some (.int .u64 (lm a 3))) (exact ⟨P.out.c0, P.out.c1, P.out.c2, P.out.c3⟩) (first | (go_at_call 35; refine (num_any _ 8 _ (by omega) (by omega) (by omega)).mono ?_; rintro e w2 ⟨rfl, hb⟩; replace P := hide (P.out.after hb rfl); replace B := hide (by first | exact bOn B.out hb | exact bOn B.out.drew hb); clear hb))
  go_wp2
  go_ret
  exact ⟨ret_str (by rw [str_append, str_append, str_append, b32_four HA.out]), B.out⟩
end Go.Proofs.YtncnilplmklccaaGreat

/- The text of the document's table (gen-ref13d.py). -/
namespace Go.Proofs.YtncnilplmklccaaGreat
set_option linter.unusedSimpArgs false
set_option linter.unusedVariables false
open Go.RowKit Go.Lib
attribute [local go_sem] setCell_drewN alloc_drewN

theorem be_one {t : Nat} (h : t < 256) : be (t : Int) 1 = [(t : Int)] := by
  unfold be pre
  simp only [List.range_succ, List.range_zero, List.nil_append, List.map_cons, List.map_nil]
  rw [show 8 * (1 - 1 - 0) = 0 from rfl]
  congr 1
  omega
theorem at_two (w : World) (t p : Nat) {g : Nat} (e : w.heap.size = g) : At (w.alloc (.cells #[.int .u8 (t : Int), .int .u8 (p : Int)] 5)) (some ⟨g, 0, none⟩) [(t : Int), (p : Int)] := by
  subst e
  refine .inr ⟨_, 0, rfl, by simp, fun j hj => ?_⟩
  rw [World.cell?_alloc_at _ _ _ _ rfl]
  have hj2 : j < 2 := hj
  rcases (show j = 0 ∨ j = 1 by omega) with rfl | rfl <;> rfl
set_option maxRecDepth 100000 in
set_option maxHeartbeats 4000000 in
theorem text13_any {B : Tb} (hB : Tok B) (w : World) :
    Calls Tryz.prog 34 #[tv B] w fun e w' => e = .returned (.string (strOfNums (txT B 72))) ∧ Below w.heap.size w w' := by
  have HB := hide hB
  clear hB
  obtain ⟨W, hW⟩ : ∃ W, w.alloc (.cells (rowU 288 (tl B)).toArray 33) = W := ⟨_, rfl⟩
  obtain ⟨g, hg⟩ : ∃ g, w.heap.size = g := ⟨_, rfl⟩
  have E : Hid (Uxs w W [(g, 288, tl B)]) := by rw [← hW]; exact hide ((Uxs.none w).add hg (URow.box w 288 (tl B) _ hg))
  go_enter Tryz.func34, Tryz.ntmps34
  go_wp2
  try rw [hW]
  try rw [hg]
  clear hW hg
  go_loopw [3, 7] (fun s q wr => ∃ t : Nat, t ≤ 4 ∧ q = .int .i64 t ∧ s = .string (strOfNums (txT B (18 * t))) ∧ Uxs w wr [(g, 288, tl B)]) (fun _ q _ => 4 - (intOf q).toNat)
  case atStart => exact ⟨0, by omega, rfl, rfl, E.out⟩
  case round =>
    obtain ⟨t, ht, rfl, rfl, hx⟩ := hrel
    have X0 := hide hx
    clear hx E
    by_cases hlt : t < 4
    · have hlt' : (t : Int) < 4 := by omega
      go_wp2
      go_loopw [3, 10] (fun s q wr => ∃ p : Nat, p ≤ 18 ∧ q = .int .i64 p ∧ s = .string (strOfNums (txT B (18 * t + p))) ∧ Uxs w wr [(g, 288, tl B)]) (fun _ q _ => 18 - (intOf q).toNat)
      case atStart => exact ⟨0, by omega, rfl, rfl, X0.out⟩
      case round =>
        obtain ⟨p, hp, rfl, rfl, hx⟩ := hrel
        have X1 := hide hx
        clear hx X0
        by_cases hlp : p < 18
        · have hlp' : (p : Int) < 18 := by omega
          have hbt := hide (be_one (t := t) (by omega))
          have hbp := hide (be_one (t := p) (by omega))
          have HS := hide (fun h => txT_more (B := B) (t := t) hlp h)
          have HK := hide (fun h => txT_skip (B := B) (n := 18 * t + p) h)
          have RB := hide ((X1.out.get 0 rfl).balAt hlt hlp)
          have hN := HB.out (18 * t + p)
          obtain ⟨N, hNe⟩ : ∃ N, B (18 * t + p) = N := ⟨_, rfl⟩
          rw [hNe] at HS HK RB hN
          have HN := hide hN
          have hTl := txT_length B (18 * t + p)
          obtain ⟨T, hT⟩ : ∃ T, txT B (18 * t + p) = T := ⟨_, rfl⟩
          rw [hT] at HS HK hTl ⊢
          clear hNe hN hT
          obtain ⟨g6, hg6⟩ : ∃ g6, wr.heap.size = g6 := ⟨_, rfl⟩
          obtain ⟨W1, hW1⟩ : ∃ W1, wr.alloc (.cells #[.int .u64 0, .int .u64 0, .int .u64 0, .int .u64 0] 29) = W1 := ⟨_, rfl⟩
          have E1 : Hid (Uxs w W1 [(g6, 4, fun _ => 0), (g, 288, tl B)]) := by rw [← hW1]; exact hide (X1.out.add hg6 (URow.box wr 4 (fun _ => 0) _ hg6))
          obtain ⟨W2, hW2⟩ : ∃ W2, W1.setCells g6 0 (rowU 4 (lm N)) = W2 := ⟨_, rfl⟩
          have E2 : Hid (Uxs w W2 [(g6, 4, lm N), (g, 288, tl B)]) := by rw [← hW2]; exact hide (E1.out.put 0 rfl (lm N))
          go_wp2_with (first | (refine wpList_load_mid rfl 29 _ rfl g (t * 72 + p * 4) rfl (rowU 4 (lm N)) _ ?hr Tryz.underlying29 rfl (info_lm _) ?_; (case hr => exact RB.out)) | (refine wpList_store_mid rfl 29 _ _ rfl g6 0 (rowU 4 (lm N)).toArray rfl rfl ?hr (info_lmA _) (rowU_oneA _ _) ?_; (case hr => exact (E1.out.get 0 rfl).thereA _); try simp only [List.toList_toArray]; try rw [hW2]) | (refine wpList_load_mid rfl 29 _ rfl g6 0 rfl (rowU 4 (lm N)) _ ?hr Tryz.underlying29 rfl (info_lm _) ?_; (case hr => exact (E2.out.get 0 rfl).range)))
          refine (row_of N _ HN.out).mono ?_
          rintro e w3 ⟨ao, n, cap, rfl, hn, hb⟩
          have X3 := hide (E2.out.after hb)
          have hz := hn.none
          clear hn hb E1 E2 hW1 hW2 hg6 RB X1
          by_cases h0 : N = 0
          · obtain rfl : n = 0 := hz.2 h0
            have HK2 := hide (HK.out h0)
            clear hz HK HS h0
            go_wp2
            exact ⟨⟨p + 1, by omega, by simp, by rw [show 18 * t + (p + 1) = 18 * t + p + 1 from rfl, HK2.out], X3.out.tail⟩, by simp [intOf]; omega⟩
          · have hn0 : 0 < n := by have := fun e => h0 (hz.1 e); omega
            have hn1 : (0 : Int) < (n : Int) := by omega
            have HS2 := hide (HS.out h0)
            have hT9 : T.length ≤ 2448 := by omega
            have hwt : IntKind.u8.wrap (t : Int) = (t : Int) := by rw [IntKind.wrap_u8]; omega
            have hwp : IntKind.u8.wrap (p : Int) = (p : Int) := by rw [IntKind.wrap_u8]; omega
            have HBT := hbt
            have HBP := hbp
            clear hbt hbp
            have hsT : (strOfNums T).size = T.length := by rw [strOfNums_size]
            have hsP : (strOfNums [(t : Int), (p : Int)]).size = 2 := by rw [strOfNums_size]; rfl
            have hsQ : (strOfNums (T ++ [(t : Int), (p : Int)])).size = T.length + 2 := by rw [strOfNums_size, List.length_append]; rfl
            have hsN : (strOfNums (b32 N)).size = 32 := by rw [strOfNums_size, b32_length]
            have hap := str_append T [(t : Int), (p : Int)]
            have haq := str_append (T ++ [(t : Int), (p : Int)]) (b32 N)
            clear hz HK HS h0
            go_wp2
            have X : Hid (Uxs w w3.drew [(g6, 4, lm N), (g, 288, tl B)]) := hide (X3.out.after (bMe w3).drew)
            clear X3
            refine wp_region_held_drew (S := fun w1 => Uxs w w1 [(g6, 4, lm N), (g, 288, tl B)]) (by kernel_rfl) X.out (fun _ => ?_)
            generalize w3.drew = w4 at *
            refine tk0 (v := .string (strOfNums T)) (by kernel_rfl) (by kernel_rfl) (by kernel_rfl) (fun _ _ _ h => h) X.out (Or.inl ⟨by rfl, fun w hw => by go_simp; try (with_reducible rfl)⟩) ?_
            simp only [Act.put, List.setIfInBounds_toArray, List.set_cons_zero, List.set_cons_succ]
            refine tk1 (v := .int .i64 (t : Int)) (by kernel_rfl) (by kernel_rfl) (by kernel_rfl) (fun _ _ _ h => h) X.out (Or.inl ⟨by rfl, fun w hw => by go_simp; try (with_reducible rfl)⟩) ?_
            simp only [Act.put, List.setIfInBounds_toArray, List.set_cons_zero, List.set_cons_succ]
            refine tk2 (v := .int .u8 (t : Int)) (by kernel_rfl) (by kernel_rfl) (by kernel_rfl) (fun _ _ _ h => h) X.out (Or.inl ⟨by rfl, fun w hw => by go_simp; try rw [hwt]; try (with_reducible rfl)⟩) ?_
            simp only [Act.put, List.setIfInBounds_toArray, List.set_cons_zero, List.set_cons_succ]
            refine tk3 (v := .int .i64 (p : Int)) (by kernel_rfl) (by kernel_rfl) (by kernel_rfl) (fun _ _ _ h => h) X.out (Or.inl ⟨by rfl, fun w hw => by go_simp; try (with_reducible rfl)⟩) ?_
            simp only [Act.put, List.setIfInBounds_toArray, List.set_cons_zero, List.set_cons_succ]
            refine tk4 (v := .int .u8 (p : Int)) (by kernel_rfl) (by kernel_rfl) (by kernel_rfl) (fun _ _ _ h => h) X.out (Or.inl ⟨by rfl, fun w hw => by go_simp; try rw [hwp]; try (with_reducible rfl)⟩) ?_
            simp only [Act.put, List.setIfInBounds_toArray, List.set_cons_zero, List.set_cons_succ]
            refine tk8 (by kernel_rfl) (by kernel_rfl) (by kernel_rfl) (fun _ _ _ h => h) X.out (yieldsIf_load_mid (by rfl) _ _ rfl (g6) (0) rfl (rowU 4 (lm N)) _ (fun _ hw => (hw.get 0 rfl).range) Tryz.underlying29 rfl (info_lm _)) ?_
            simp only [Act.put, List.setIfInBounds_toArray, List.set_cons_zero, List.set_cons_succ]
            refine wpAnyH_ready (rs := [5, 9]) (by kernel_rfl) (by simp) ?_
            refine rd5 (fun K hK => ?_) (rd9 (fun K hK => ?_) AllReadyH.nil)
            · go_simp
              obtain ⟨gb, hgb⟩ : ∃ gb, w4.heap.size = gb := ⟨_, rfl⟩
              obtain ⟨w5, hw5⟩ : ∃ w5, w4.alloc (.cells #[.int .u8 (t : Int), .int .u8 (p : Int)] 5) = w5 := ⟨_, rfl⟩
              have hb : Below w4.heap.size w4 w5 := by rw [← hw5]; exact bAl (bMe w4)
              have hA : At w5 (some ⟨gb, 0, none⟩) [(t : Int), (p : Int)] := by rw [← hw5]; exact at_two w4 t p hgb
              replace X : Hid (Uxs w w5 [(g6, 4, lm N), (g, 288, tl B)] ∧ At w5 (some ⟨gb, 0, none⟩) [(t : Int), (p : Int)]) := ⟨X.out.after hb, hA⟩
              rw [hgb, hw5]
              clear hb hA hw5
              refine hK.out _ _ X.out.1 (fun _ => ?_)
              clear hK K
              refine hand_more (S' := fun w' => Uxs w w' [(g6, 4, lm N), (g, 288, tl B)] ∧ At w' (some ⟨gb, 0, none⟩) [(t : Int), (p : Int)]) (fun _ h => h.1) _ _ _ _ ?_
              refine tk6 (v := .string (strOfNums [(t : Int), (p : Int)])) (by kernel_rfl) (by kernel_rfl) (by kernel_rfl) (fun _ _ _ h => h) X.out (Or.inl ⟨by rfl, fun w hw => by have c := hw.2.str 2; rw [show ([(t : Int), (p : Int)] : List Int).length = 2 from rfl] at c; go_simp; try (with_reducible rfl)⟩) ?_
              simp only [Act.put, List.setIfInBounds_toArray, List.set_cons_zero, List.set_cons_succ]
              refine tk7 (v := .string (strOfNums (T ++ [(t : Int), (p : Int)]))) (by kernel_rfl) (by kernel_rfl) (by kernel_rfl) (fun _ _ _ h => h) X.out (Or.inl ⟨by rfl, fun w hw => by go_simp; try (first | (with_reducible rfl) | omega)⟩) ?_
              simp only [Act.put, List.setIfInBounds_toArray, List.set_cons_zero, List.set_cons_succ]
              refine wpAnyH_ready (rs := [9]) (by kernel_rfl) (by simp) ?_
              refine rd9 (fun K hK => ?_) AllReadyH.nil
              go_simp
              refine (refint_any N _ HN.out).mono ?_
              rintro e w6 ⟨rfl, hb⟩
              simp only []
              replace X := hide (⟨X.out.1.after hb, X.out.2.below hb⟩ : Uxs w w6 [(g6, 4, lm N), (g, 288, tl B)] ∧ At w6 (some ⟨gb, 0, none⟩) [(t : Int), (p : Int)])
              clear hb
              refine hK.out _ _ X.out (fun _ => ?_)
              clear hK K
              refine tk10 (v := .string (strOfNums (T ++ [(t : Int), (p : Int)] ++ b32 N))) (by kernel_rfl) (by kernel_rfl) (by kernel_rfl) (fun _ _ _ h => h) X.out (Or.inl ⟨by rfl, fun w hw => by go_simp; try (first | (with_reducible rfl) | omega)⟩) ?_
              simp only [Act.put, List.setIfInBounds_toArray, List.set_cons_zero, List.set_cons_succ]
              refine tk11 (v := .string (strOfNums (T ++ [(t : Int), (p : Int)] ++ b32 N))) (by kernel_rfl) (by kernel_rfl) (by kernel_rfl) (fun _ _ _ h => h) X.out (Or.inl ⟨by rfl, fun w hw => by go_simp; try (with_reducible rfl)⟩) ?_
              simp only [Act.put, List.setIfInBounds_toArray, List.set_cons_zero, List.set_cons_succ]
              refine wpAnyH_done (by kernel_rfl) ?_ _
              replace X := hide X.out.1
              go_wp2
              exact ⟨⟨p + 1, by omega, by simp, by rw [show 18 * t + (p + 1) = 18 * t + p + 1 from rfl, HS2.out, HBT.out, HBP.out]; rfl, X.out.tail⟩, by simp [intOf]; omega⟩
            · go_simp
              refine (refint_any N _ HN.out).mono ?_
              rintro e w7 ⟨rfl, hb⟩
              simp only []
              replace X := hide (X.out.after hb)
              clear hb
              refine hK.out _ _ X.out (fun _ => ?_)
              clear hK K
              refine wpAnyH_ready (rs := [5]) (by kernel_rfl) (by simp) ?_
              refine rd5 (fun K hK => ?_) AllReadyH.nil
              go_simp
              obtain ⟨gb, hgb⟩ : ∃ gb, w7.heap.size = gb := ⟨_, rfl⟩
              obtain ⟨w5, hw5⟩ : ∃ w5, w7.alloc (.cells #[.int .u8 (t : Int), .int .u8 (p : Int)] 5) = w5 := ⟨_, rfl⟩
              have hb : Below w7.heap.size w7 w5 := by rw [← hw5]; exact bAl (bMe w7)
              have hA : At w5 (some ⟨gb, 0, none⟩) [(t : Int), (p : Int)] := by rw [← hw5]; exact at_two w7 t p hgb
              replace X : Hid (Uxs w w5 [(g6, 4, lm N), (g, 288, tl B)] ∧ At w5 (some ⟨gb, 0, none⟩) [(t : Int), (p : Int)]) := ⟨X.out.after hb, hA⟩
              rw [hgb, hw5]
              clear hb hA hw5
              refine hK.out _ _ X.out.1 (fun _ => ?_)
              clear hK K
              refine hand_more (S' := fun w' => Uxs w w' [(g6, 4, lm N), (g, 288, tl B)] ∧ At w' (some ⟨gb, 0, none⟩) [(t : Int), (p : Int)]) (fun _ h => h.1) _ _ _ _ ?_
              refine tk6 (v := .string (strOfNums [(t : Int), (p : Int)])) (by kernel_rfl) (by kernel_rfl) (by kernel_rfl) (fun _ _ _ h => h) X.out (Or.inl ⟨by rfl, fun w hw => by have c := hw.2.str 2; rw [show ([(t : Int), (p : Int)] : List Int).length = 2 from rfl] at c; go_simp; try (with_reducible rfl)⟩) ?_
              simp only [Act.put, List.setIfInBounds_toArray, List.set_cons_zero, List.set_cons_succ]
              refine tk7 (v := .string (strOfNums (T ++ [(t : Int), (p : Int)]))) (by kernel_rfl) (by kernel_rfl) (by kernel_rfl) (fun _ _ _ h => h) X.out (Or.inl ⟨by rfl, fun w hw => by go_simp; try (first | (with_reducible rfl) | omega)⟩) ?_
              simp only [Act.put, List.setIfInBounds_toArray, List.set_cons_zero, List.set_cons_succ]
              refine tk10 (v := .string (strOfNums (T ++ [(t : Int), (p : Int)] ++ b32 N))) (by kernel_rfl) (by kernel_rfl) (by kernel_rfl) (fun _ _ _ h => h) X.out (Or.inl ⟨by rfl, fun w hw => by go_simp; try (first | (with_reducible rfl) | omega)⟩) ?_
              simp only [Act.put, List.setIfInBounds_toArray, List.set_cons_zero, List.set_cons_succ]
              refine tk11 (v := .string (strOfNums (T ++ [(t : Int), (p : Int)] ++ b32 N))) (by kernel_rfl) (by kernel_rfl) (by kernel_rfl) (fun _ _ _ h => h) X.out (Or.inl ⟨by rfl, fun w hw => by go_simp; try (with_reducible rfl)⟩) ?_
              simp only [Act.put, List.setIfInBounds_toArray, List.set_cons_zero, List.set_cons_succ]
              refine wpAnyH_done (by kernel_rfl) ?_ _
              replace X := hide X.out.1
              go_wp2
              exact ⟨⟨p + 1, by omega, by simp, by rw [show 18 * t + (p + 1) = 18 * t + p + 1 from rfl, HS2.out, HBT.out, HBP.out]; rfl, X.out.tail⟩, by simp [intOf]; omega⟩
        · obtain rfl : p = 18 := by omega
          go_wp2
          exact ⟨⟨t + 1, by omega, by simp, rfl, X1.out⟩, by simp [intOf]; omega⟩
    · obtain rfl : t = 4 := by omega
      go_wp2
      go_ret
      exact ⟨rfl, X0.out.below⟩
end Go.Proofs.YtncnilplmklccaaGreat

/- The document's pair of tables: sponsionref14.Text. -/
namespace Go.Proofs.YtncnilplmklccaaGreat
set_option linter.unusedSimpArgs false
set_option linter.unusedVariables false
open Go.RowKit Go.Lib
attribute [local go_sem] setCell_drewN alloc_drewN

/-- Both tables and the nonces, one behind the other. -/
def pf (L : Nat → Kvs) (N : List Int) : Nat → Int := fun j => if j < 288 then tl (tb (L 0)) j else if j < 576 then tl (tb (L 1)) (j - 288) else N.getD (j - 576) 0
/-- The document's pair as a value. -/
abbrev pv (L : Nat → Kvs) (N : List Int) : Value := .agg (rowU 592 (pf L N)).toArray
theorem pf_book (L : Nat → Kvs) (N : List Int) {s : Nat} (hs : s < 2) (j : Nat) (hj : j < 288) : pf L N (s * 288 + j) = tl (tb (L s)) j := by
  unfold pf
  rcases (show s = 0 ∨ s = 1 by omega) with rfl | rfl
  · rw [if_pos (by omega), show 0 * 288 + j = j by omega]
  · rw [if_neg (by omega), if_pos (by omega), show 1 * 288 + j - 288 = j by omega]
theorem pf_nonce (L : Nat → Kvs) (N : List Int) (j : Nat) : pf L N (576 + j) = N.getD j 0 := by
  unfold pf
  rw [if_neg (by omega), if_neg (by omega), show 576 + j - 576 = j by omega]
theorem uV_row {N : List Int} (hN : N.length = 16) : uV N = rowU 16 (fun j => N.getD j 0) := by
  apply List.ext_getElem?
  intro j
  by_cases h : j < 16
  · rw [rowU_get h, uV, List.getElem?_map, List.getD_eq_getElem?_getD, List.getElem?_eq_getElem (by omega)]
    rfl
  · rw [List.getElem?_eq_none (by simp [uV]; omega), List.getElem?_eq_none (by rw [rowU_length]; omega)]
theorem info_pv (f : Nat → Int) : (Tryz.prog.info? 37).map (·.size) = some (rowU 592 f).length := by rw [rowU_length]; kernel_rfl
theorem info_pvA (f : Nat → Int) : (Tryz.prog.info? 37).map (·.size) = some (rowU 592 f).toArray.size := by rw [List.size_toArray, rowU_length]; kernel_rfl
theorem info_16 {N : List Int} (h : N.length = 16) : (Tryz.prog.info? 35).map (·.size) = some (uV N).length := by rw [show (uV N).length = 16 by simp [uV, h]]; kernel_rfl
theorem URow.bookP {w : World} {g : Nat} {L : Nat → Kvs} {N : List Int} (h : URow w g 592 (pf L N)) {s : Nat} (hs : s < 2) : w.rangeAt g (s * 288) (rowU 288 (tl (tb (L s)))) :=
  h.part (s * 288) 288 _ (by omega) fun j hj => pf_book L N hs j hj
theorem URow.nonceP {w : World} {g : Nat} {L : Nat → Kvs} {N : List Int} (h : URow w g 592 (pf L N)) (hN : N.length = 16) : w.rangeAt g 576 (uV N) := by
  rw [uV_row hN]
  exact h.part 576 16 _ (by omega) fun j hj => pf_nonce L N j
set_option maxRecDepth 100000 in
set_option maxHeartbeats 4000000 in
theorem text14_any {L : Nat → Kvs} {N : List Int} (hL : ∀ s, s < 2 → Good (L s)) (hN : N.length = 16) (hNb : ∀ x ∈ N, 0 ≤ x ∧ x < 18446744073709551616) (w : World) :
    Calls Tryz.prog 13 #[pv L N] w fun e w' => e = .returned (.string (strOfNums (pairT L N))) ∧ Below w.heap.size w w' := by
  obtain ⟨W, hW⟩ : ∃ W, w.alloc (.cells (rowU 592 (pf L N)).toArray 37) = W := ⟨_, rfl⟩
  obtain ⟨g, hg⟩ : ∃ g, w.heap.size = g := ⟨_, rfl⟩
  have U : URow W g 592 (pf L N) := by rw [← hW]; exact URow.box w 592 (pf L N) _ hg
  have hb : Below w.heap.size w W := by rw [← hW]; exact bAl (bMe w)
  have HU := hide (And.intro U hb)
  have HN := hide (And.intro hN hNb)
  clear U hb hNb
  go_enter Tryz.func13, Tryz.ntmps13
  go_wp2
  try rw [hW]
  try rw [hg]
  clear hW hg
  go_loopw [3, 8] (fun s q wr => ∃ k : Nat, k ≤ 2 ∧ q = .int .i64 k ∧ s = .string (strOfNums (pT L k)) ∧ Below W.heap.size W wr) (fun _ q _ => 2 - (intOf q).toNat)
  case atStart => exact ⟨0, by omega, rfl, rfl, bMe W⟩
  case round =>
    obtain ⟨k, hk, rfl, rfl, hbr⟩ := hrel
    by_cases hlt : k < 2
    · have hlt1 : (k : Int) < 2 := by omega
      have HR := hide (((HU.out.1.after hbr rfl)).bookP hlt)
      have HB := hide hbr
      have hgd := hL k hlt
      have hlen := hgd.few
      have C := hide (text13_any (tb_ok (L k)) wr)
      rw [txt_tb hgd] at C
      have hsz : (strOfNums (txt (L k))).size = (L k).length * 34 := by rw [strOfNums_size, txt_length]
      have hdv : (((L k).length * 34 : Nat) : Int).tdiv 34 = ((L k).length : Int) := by
        rw [Int.tdiv_eq_ediv_of_nonneg (by omega)]; omega
      have hwr : IntKind.u64.wrap ((L k).length : Int) = ((L k).length : Int) := by rw [IntKind.wrap_u64]; omega
      have CN := hide (fun w => num_any ((L k).length : Int) 4 w (by omega) (by omega) (by omega))
      have hap := str_append (pT L k) (be ((L k).length : Int) 4)
      have haq := str_append (pT L k ++ be ((L k).length : Int) 4) (txt (L k))
      have hpl : (pT L k).length ≤ 3000 := by
        rcases (show k = 0 ∨ k = 1 by omega) with rfl | rfl
        · simp [pT]
        · have := (hL 0 (by omega)).few; simp [pT, be_length, txt_length]; omega
      have s1 : (strOfNums (pT L k)).size = (pT L k).length := by rw [strOfNums_size]
      have s2 : (strOfNums (be ((L k).length : Int) 4)).size = 4 := by rw [strOfNums_size, be_length]
      have s3 : (strOfNums (pT L k ++ be ((L k).length : Int) 4)).size = (pT L k).length + 4 := by rw [strOfNums_size, List.length_append, be_length]
      clear hbr hgd
      go_wp2_with (refine wpList_load_mid rfl 33 _ rfl g (k * 288) rfl (rowU 288 (tl (tb (L k)))) _ ?hr Tryz.underlying33 rfl (info_tb _) ?_; (case hr => exact HR.out))
      refine C.out.mono ?_
      clear C
      rintro e w3 ⟨rfl, hb3⟩
      have HB3 := hide (bOn HB.out hb3)
      clear hb3
      go_wp2_with fail
      refine (CN.out w3).mono ?_
      rintro e w4 ⟨rfl, hb4⟩
      have HB4 := hide (bOn HB3.out hb4)
      clear hb4
      go_wp2
      go_roundw
      case rel => exact ⟨k + 1, by omega, by simp, by rw [← List.append_assoc]; rfl, HB4.out⟩
      case measure => simp [intOf]; omega
    · obtain rfl : k = 2 := by omega
      have HB := hide hbr
      have HR := hide (((HU.out.1.after hbr rfl)).nonceP HN.out.1)
      have hpl : (pT L 2).length ≤ 6000 := by
        have h0 := (hL 0 (by omega)).few; have h1 := (hL 1 (by omega)).few; simp [pT, be_length, txt_length]; omega
      clear hbr
      go_wp2_with (refine wpList_load_mid rfl 35 _ rfl g 576 rfl (uV N) _ ?hr Tryz.underlying35 rfl (info_16 HN.out.1) ?_; (case hr => exact HR.out))
      go_loopw [3, 28] (fun s q wr => ∃ k : Nat, k ≤ 16 ∧ q = .int .i64 k ∧ s = .string (strOfNums (pT L 2 ++ nT (N.take k))) ∧ Below W.heap.size W wr) (fun _ q _ => 16 - (intOf q).toNat)
      case atStart => exact ⟨0, by omega, rfl, by simp [nT], HB.out⟩
      case round =>
        obtain ⟨k, hk, rfl, rfl, hbr⟩ := hrel
        by_cases hlt : k < 16
        · have hlt1 : (k : Int) < 16 := by omega
          obtain ⟨x, hx⟩ : ∃ x, N[k]? = some x := ⟨N[k]'(by omega), List.getElem?_eq_getElem _⟩
          have ix := fun w => idx16 hN hx w
          have hxb := HN.out.2 x (List.mem_of_getElem? hx)
          have CN := hide (fun w => num_any x 8 w hxb.1 hxb.2 (by omega))
          have hl1 : (nT (N.take k)).length ≤ 128 := by rw [nT_length, List.length_take]; omega
          have hap := str_append (pT L 2 ++ nT (N.take k)) (be x 8)
          rw [List.append_assoc, ← nT_snoc hx] at hap
          have s1 : (strOfNums (pT L 2 ++ nT (N.take k))).size = (pT L 2).length + (nT (N.take k)).length := by rw [strOfNums_size, List.length_append]
          have s2 : (strOfNums (be x 8)).size = 8 := by rw [strOfNums_size, be_length]
          have HB := hide hbr
          clear hbr hx
          go_wp2_with fail
          refine (CN.out wr).mono ?_
          rintro e w4 ⟨rfl, hb4⟩
          have HB4 := hide (bOn HB.out hb4)
          clear hb4
          go_wp2
          go_roundw
          case rel => exact ⟨k + 1, by omega, by simp, rfl, HB4.out⟩
          case measure => simp [intOf]; omega
        · obtain rfl : k = 16 := by omega
          have e16 : N.take 16 = N := List.take_of_length_le (by omega)
          rw [e16]
          have HB := hide hbr
          clear hbr
          go_wp2
          go_ret
          exact ⟨rfl, bOn HU.out.2 HB.out⟩
end Go.Proofs.YtncnilplmklccaaGreat
