/- Contracts of sponsionref10 over this translation (written by gen-ref10.py). -/
import Derived.Test.YtjkhboejhcbdpaaDoorRef6Empties
import Derived.Test.YtjkhboejhcbdpaaDoorProofMake
import Derived.Deep.LoopGhost
namespace Go.Proofs.YtjkhboejhcbdpaaDoor
open Go.RowKit Go.Lib
attribute [local go_sem] setCell_drewN alloc_drewN

theorem places_no {w : World} (d level : Int) (h : level < 0 ∨ d < level) :
    Calls Tryd.prog 17 #[.int .i64 d, .int .i64 level] w fun e w' => e = .returned (.int .u64 0) ∧ w' = w := by
  by_cases h0 : level < 0
  · clear h
    go_enter Tryd.func17, Tryd.ntmps17
    go_wp2
    go_ret
    exact ⟨rfl, rfl⟩
  · have h1 : d < level := by omega
    clear h
    go_enter Tryd.func17, Tryd.ntmps17
    go_wp2
    go_ret
    exact ⟨rfl, rfl⟩
theorem places_yes {w : World} (d k : Nat) (hd : d ≤ 32) (hk : k ≤ d) :
    Calls Tryd.prog 17 #[.int .i64 d, .int .i64 k] w fun e w' => e = .returned (.int .u64 ((2 ^ (d - k) : Nat) : Int)) ∧ w' = w := by
  have hki : (k : Int) ≤ (d : Int) := by omega
  have hdi : (d : Int) ≤ 32 := by omega
  have hsub : (d : Int) - (k : Int) = ((d - k : Nat) : Int) := by omega
  obtain ⟨m, hm⟩ : ∃ m, d - k = m := ⟨_, rfl⟩
  rw [hm] at hsub
  rw [hm]
  have hm32 : m ≤ 32 := by omega
  have hmi : (m : Int) ≤ 32 := by omega
  clear hm
  go_enter Tryd.func17, Tryd.ntmps17
  go_wp2
  go_loop [5, 16] (fun x t => ∃ b : Nat, b ≤ m ∧ t = .int .i64 b ∧ x = .int .u64 ((2 ^ b : Nat) : Int)) (fun _ t => m - (intOf t).toNat)
  case atStart => exact ⟨0, Nat.zero_le _, rfl, rfl⟩
  case round =>
    obtain ⟨b, hb, rfl, rfl⟩ := hrel
    by_cases hlt : b < m
    · have hbi : (b : Int) < (m : Int) := by omega
      obtain ⟨p, hp⟩ : ∃ p, 2 ^ b = p := ⟨_, rfl⟩
      have hp2 : 2 ^ (b + 1) = 2 * p := by rw [Nat.pow_succ, hp, Nat.mul_comm]
      have hle : p ≤ 2 ^ 32 := by rw [← hp]; exact Nat.pow_le_pow_right (by omega) (by omega)
      have hpi : (p : Int) ≤ 4294967296 := by omega
      have HP := hide hp2
      rw [hp]
      clear hp hp2 hle
      go_wp2
      go_round
      case rel => exact ⟨b + 1, by omega, by go_num, by rw [HP.out]; first | rfl | go_num⟩
      case measure => simp [intOf]; omega
    · obtain rfl : b = m := by omega
      obtain ⟨p, hp⟩ : ∃ p, 2 ^ b = p := ⟨_, rfl⟩
      rw [hp]
      go_wp2
      go_ret
      exact ⟨rfl, rfl⟩
set_option maxRecDepth 100000 in
set_option maxHeartbeats 8000000 in
theorem rnode_any {ao : Option Addr} {cap : Nat} {L : List Hs} (hL : L.length ≤ 1000) (hok : Hoks L) : ∀ (k : Nat), k ≤ 32 → ∀ {w : World}, Tab w 0 → ∀ (i : Nat), Hl w ao L → (i + 1) * 2 ^ k ≤ 4294967296 →
    Calls Tryd.prog 29 #[.agg (rowV 1056 (empF 32)).toArray, .slice ao L.length cap, .int .i64 k, .int .u64 i] w fun e w' => e = .returned (.agg (rowV 32 (tn L k i)).toArray) ∧ Below w.heap.size w w' := by
  intro k
  induction k with
  | zero =>
    intro hk w ht i hl hi
    obtain ⟨E, hE⟩ : ∃ E, empF 32 = E := ⟨_, rfl⟩
    rw [hE]
    have HE := hide hE
    have iL : (Tryd.prog.info? 64).map (·.size) = some (rowV 1056 E).length := by rw [rowV_length]; kernel_rfl
    have HIL := hide iL
    have HT := hide ht; have HLL := hide hl
    have B : Hid (Below w.heap.size w ((w.alloc (.cells (rowV 1056 E).toArray 64)).alloc (.cells #[.int .u8 0, .int .u8 0, .int .u8 0, .int .u8 0, .int .u8 0, .int .u8 0, .int .u8 0, .int .u8 0, .int .u8 0, .int .u8 0, .int .u8 0, .int .u8 0, .int .u8 0, .int .u8 0, .int .u8 0, .int .u8 0, .int .u8 0, .int .u8 0, .int .u8 0, .int .u8 0, .int .u8 0, .int .u8 0, .int .u8 0, .int .u8 0, .int .u8 0, .int .u8 0, .int .u8 0, .int .u8 0, .int .u8 0, .int .u8 0, .int .u8 0, .int .u8 0] 28))) := bAl (bAl (bMe w))
    have X0 := hide ((BRow.box w 1056 E 64 (g := w.heap.size) rfl).past (.cells #[.int .u8 0, .int .u8 0, .int .u8 0, .int .u8 0, .int .u8 0, .int .u8 0, .int .u8 0, .int .u8 0, .int .u8 0, .int .u8 0, .int .u8 0, .int .u8 0, .int .u8 0, .int .u8 0, .int .u8 0, .int .u8 0, .int .u8 0, .int .u8 0, .int .u8 0, .int .u8 0, .int .u8 0, .int .u8 0, .int .u8 0, .int .u8 0, .int .u8 0, .int .u8 0, .int .u8 0, .int .u8 0, .int .u8 0, .int .u8 0, .int .u8 0, .int .u8 0] 28))
    have R := hide (BRow.zeros32 (w.alloc (.cells (rowV 1056 E).toArray 64)) (g := w.heap.size + 1) (by simp))
    have HL : Hid (Hl ((w.alloc (.cells (rowV 1056 E).toArray 64)).alloc (.cells #[.int .u8 0, .int .u8 0, .int .u8 0, .int .u8 0, .int .u8 0, .int .u8 0, .int .u8 0, .int .u8 0, .int .u8 0, .int .u8 0, .int .u8 0, .int .u8 0, .int .u8 0, .int .u8 0, .int .u8 0, .int .u8 0, .int .u8 0, .int .u8 0, .int .u8 0, .int .u8 0, .int .u8 0, .int .u8 0, .int .u8 0, .int .u8 0, .int .u8 0, .int .u8 0, .int .u8 0, .int .u8 0, .int .u8 0, .int .u8 0, .int .u8 0, .int .u8 0] 28)) ao L) := hl.below B.out
    have hli : (L.length : Int) ≤ 1000 := by omega
    have hki32 : ((0 : Nat) : Int) ≤ (32 : Int) := by omega
    have hki33 : ((0 : Nat) : Int) < (33 : Int) := by omega
    have hki33n : ¬ (33 : Int) ≤ ((0 : Nat) : Int) := by omega
    clear hE iL ht hl
    obtain ⟨N, hN⟩ : ∃ N, tn L (0) i = N := ⟨_, rfl⟩
    have HN := hide hN
    have hi2 : i < 4294967296 := by simp at hi; omega
    have hii : (i : Int) ≤ 4294967295 := by omega
    have hki0 : ((0 : Nat) : Int) = 0 := rfl
    rw [hki0]
    clear hki0 hki32 hki33 hki33n
    by_cases hout : L.length ≤ i
    · have hlo : (L.length : Int) ≤ (i : Int) := by omega
      have HD : Hid (demp 0 = N) := by show _ = _; rw [← hN, tn_out L 0 i (by simpa using hout)]
      have HP := hide (X0.out.part 0 32 N (by omega) (fun j hj => by rw [← HE.out]; unfold empF; rw [if_pos (by omega), Nat.zero_add, show j / 32 = 0 by omega, show j % 32 = j by omega, HD.out]))
      clear hN hout hi hi2
      go_enter Tryd.func29, Tryd.ntmps29
      go_wp2_with fail
      generalize (w.alloc (.cells (rowV 1056 E).toArray 64)).alloc (.cells #[.int .u8 0, .int .u8 0, .int .u8 0, .int .u8 0, .int .u8 0, .int .u8 0, .int .u8 0, .int .u8 0, .int .u8 0, .int .u8 0, .int .u8 0, .int .u8 0, .int .u8 0, .int .u8 0, .int .u8 0, .int .u8 0, .int .u8 0, .int .u8 0, .int .u8 0, .int .u8 0, .int .u8 0, .int .u8 0, .int .u8 0, .int .u8 0, .int .u8 0, .int .u8 0, .int .u8 0, .int .u8 0, .int .u8 0, .int .u8 0, .int .u8 0, .int .u8 0] 28) = w1 at *
      go_loop [9, 12] (fun x t => x = .int .u64 i ∧ t = .int .i64 0) (fun _ _ => 0)
      case atStart => exact ⟨rfl, rfl⟩
      case round =>
        obtain ⟨rfl, rfl⟩ := hrel
        go_wp2_with (first
          | refine wpList_load_mid rfl 28 _ rfl w.heap.size 0 rfl (rowV 32 N) _ HP.out Tryd.underlying28 rfl (info_hash32 _) ?_
          | refine wpList_store_mid rfl 28 _ _ rfl (w.heap.size + 1) 0 (rowV 32 N).toArray rfl rfl (R.out.thereA _) (info_hash32A _) (rowV_oneA _ _) ?_)
        refine bodyPost_ret (v := .agg (rowV 32 N).toArray) ?_ rfl ⟨by rw [HN.out], setCells_below B.out (by omega) _ _⟩
        have hlv := run_loadVar_mid (P := Tryd.prog) _ _ _ _ _ _ (R.out.stored N).range Tryd.underlying28 rfl (info_hash32 _)
        exact results_one Tryd.results29 rfl hlv
    · have hlo : (i : Int) < (L.length : Int) := by omega
      have hlo2 : ¬ (L.length : Int) ≤ (i : Int) := by omega
      have hx : L[i]? = some N := by
        have h1 := hN
        rw [tn_zero, List.getD_eq_getElem?_getD] at h1
        obtain ⟨y, hy⟩ : ∃ y, L[i]? = some y := ⟨L[i], by rw [List.getElem?_eq_getElem (by omega)]⟩
        rw [hy] at h1
        rw [hy]
        exact congrArg some h1
      obtain ⟨b, off, rfl, _, hra⟩ := HL.out.get hx
      have HP := hide hra
      clear hN hout hi hi2 hx hra
      clear hok hL hk HLL hii hlo2
      generalize L.length = m at *
      go_enter Tryd.func29, Tryd.ntmps29
      go_wp2_with fail
      generalize (w.alloc (.cells (rowV 1056 E).toArray 64)).alloc (.cells #[.int .u8 0, .int .u8 0, .int .u8 0, .int .u8 0, .int .u8 0, .int .u8 0, .int .u8 0, .int .u8 0, .int .u8 0, .int .u8 0, .int .u8 0, .int .u8 0, .int .u8 0, .int .u8 0, .int .u8 0, .int .u8 0, .int .u8 0, .int .u8 0, .int .u8 0, .int .u8 0, .int .u8 0, .int .u8 0, .int .u8 0, .int .u8 0, .int .u8 0, .int .u8 0, .int .u8 0, .int .u8 0, .int .u8 0, .int .u8 0, .int .u8 0, .int .u8 0] 28) = w1 at *
      go_loop [9, 12] (fun x t => x = .int .u64 i ∧ t = .int .i64 0) (fun _ _ => 0)
      case atStart => exact ⟨rfl, rfl⟩
      case round =>
        obtain ⟨rfl, rfl⟩ := hrel
        go_wp2_with (first
          | refine wpList_load_mid rfl 28 _ rfl b (off + i * 32) rfl (rowV 32 N) _ HP.out Tryd.underlying28 rfl (info_hash32 _) ?_
          | refine wpList_store_mid rfl 28 _ _ rfl (w.heap.size + 1) 0 (rowV 32 N).toArray rfl rfl (R.out.thereA _) (info_hash32A _) (rowV_oneA _ _) ?_)
        refine bodyPost_ret (v := .agg (rowV 32 N).toArray) ?_ rfl ⟨by rw [HN.out], setCells_below B.out (by omega) _ _⟩
        have hlv := run_loadVar_mid (P := Tryd.prog) _ _ _ _ _ _ (R.out.stored N).range Tryd.underlying28 rfl (info_hash32 _)
        exact results_one Tryd.results29 rfl hlv
  | succ k ih =>
    intro hk w ht i hl hi
    obtain ⟨E, hE⟩ : ∃ E, empF 32 = E := ⟨_, rfl⟩
    rw [hE]
    have HE := hide hE
    have iL : (Tryd.prog.info? 64).map (·.size) = some (rowV 1056 E).length := by rw [rowV_length]; kernel_rfl
    have HIL := hide iL
    have HT := hide ht; have HLL := hide hl
    have B : Hid (Below w.heap.size w ((w.alloc (.cells (rowV 1056 E).toArray 64)).alloc (.cells #[.int .u8 0, .int .u8 0, .int .u8 0, .int .u8 0, .int .u8 0, .int .u8 0, .int .u8 0, .int .u8 0, .int .u8 0, .int .u8 0, .int .u8 0, .int .u8 0, .int .u8 0, .int .u8 0, .int .u8 0, .int .u8 0, .int .u8 0, .int .u8 0, .int .u8 0, .int .u8 0, .int .u8 0, .int .u8 0, .int .u8 0, .int .u8 0, .int .u8 0, .int .u8 0, .int .u8 0, .int .u8 0, .int .u8 0, .int .u8 0, .int .u8 0, .int .u8 0] 28))) := bAl (bAl (bMe w))
    have X0 := hide ((BRow.box w 1056 E 64 (g := w.heap.size) rfl).past (.cells #[.int .u8 0, .int .u8 0, .int .u8 0, .int .u8 0, .int .u8 0, .int .u8 0, .int .u8 0, .int .u8 0, .int .u8 0, .int .u8 0, .int .u8 0, .int .u8 0, .int .u8 0, .int .u8 0, .int .u8 0, .int .u8 0, .int .u8 0, .int .u8 0, .int .u8 0, .int .u8 0, .int .u8 0, .int .u8 0, .int .u8 0, .int .u8 0, .int .u8 0, .int .u8 0, .int .u8 0, .int .u8 0, .int .u8 0, .int .u8 0, .int .u8 0, .int .u8 0] 28))
    have R := hide (BRow.zeros32 (w.alloc (.cells (rowV 1056 E).toArray 64)) (g := w.heap.size + 1) (by simp))
    have HL : Hid (Hl ((w.alloc (.cells (rowV 1056 E).toArray 64)).alloc (.cells #[.int .u8 0, .int .u8 0, .int .u8 0, .int .u8 0, .int .u8 0, .int .u8 0, .int .u8 0, .int .u8 0, .int .u8 0, .int .u8 0, .int .u8 0, .int .u8 0, .int .u8 0, .int .u8 0, .int .u8 0, .int .u8 0, .int .u8 0, .int .u8 0, .int .u8 0, .int .u8 0, .int .u8 0, .int .u8 0, .int .u8 0, .int .u8 0, .int .u8 0, .int .u8 0, .int .u8 0, .int .u8 0, .int .u8 0, .int .u8 0, .int .u8 0, .int .u8 0] 28)) ao L) := hl.below B.out
    have hli : (L.length : Int) ≤ 1000 := by omega
    have hki32 : ((k : Int) + 1) ≤ (32 : Int) := by omega
    have hki33 : ((k : Int) + 1) < (33 : Int) := by omega
    have hki33n : ¬ (33 : Int) ≤ ((k : Int) + 1) := by omega
    clear hE iL ht hl
    obtain ⟨N, hN⟩ : ∃ N, tn L (k + 1) i = N := ⟨_, rfl⟩
    have HN := hide hN
    have HK := hide hk
    have hkc : (((k + 1 : Nat)) : Int) = (k : Int) + 1 := rfl
    rw [hkc]
    have hip : i * 2 ^ (k + 1) < 4294967296 := by
      have hp : 0 < 2 ^ (k + 1) := Nat.two_pow_pos _
      rw [Nat.add_mul, Nat.one_mul] at hi; omega
    have hii : i < 4294967296 := Nat.lt_of_le_of_lt (Nat.le_mul_of_pos_right _ (Nat.two_pow_pos _)) hip
    have hiz : (i : Int) ≤ 4294967295 := by omega
    have HIP : Hid (i * 2 ^ (k + 1) < 4294967296) := hip
    have hsplit : (i + 1) * 2 ^ (k + 1) = (2 * i + 1 + 1) * 2 ^ k := by rw [Nat.pow_succ, show 2 * i + 1 + 1 = (i + 1) * 2 by omega, Nat.mul_assoc, Nat.mul_comm 2]
    have HI14 : Hid ((2 * i + 1 + 1) * 2 ^ k ≤ 4294967296) := by show _ ≤ _; omega
    have HI6 : Hid ((2 * i + 1) * 2 ^ k ≤ 4294967296) := Nat.le_trans (Nat.mul_le_mul_right _ (by omega)) HI14.out
    obtain ⟨FA, hFA⟩ : ∃ F, tn L k (2 * i) = F := ⟨_, rfl⟩
    obtain ⟨FB, hFB⟩ : ∃ F, tn L k (2 * i + 1) = F := ⟨_, rfl⟩
    obtain ⟨i2, hi2⟩ : ∃ i2 : Nat, 2 * i = i2 := ⟨_, rfl⟩
    have hm1 : (2 : Int) * (i : Int) = (i2 : Int) := by omega
    have hi2z : (i2 : Int) ≤ 8589934590 := by omega
    have IHA : Hid (∀ {w : World}, Tab w 0 → Hl w ao L → Calls Tryd.prog 29 #[.agg (rowV 1056 E).toArray, .slice ao L.length cap, .int .i64 k, .int .u64 (i2 : Int)] w fun e w' => e = .returned (.agg (rowV 32 FA).toArray) ∧ Below w.heap.size w w') := by
      intro w1 h1 h2
      have h3 := ih (by omega) h1 (2 * i) h2 HI6.out
      rwa [HE.out, hFA, hi2] at h3
    have IHB : Hid (∀ {w : World}, Tab w 0 → Hl w ao L → Calls Tryd.prog 29 #[.agg (rowV 1056 E).toArray, .slice ao L.length cap, .int .i64 k, .int .u64 ((i2 : Int) + 1)] w fun e w' => e = .returned (.agg (rowV 32 FB).toArray) ∧ Below w.heap.size w w') := by
      intro w1 h1 h2
      have h3 := ih (by omega) h1 (2 * i + 1) h2 HI14.out
      rw [HE.out, hFB, hi2] at h3
      exact h3
    have HOA : Hid (Hok FA) := by rw [← hFA]; exact tn_ok hok _ _
    have HOB : Hid (Hok FB) := by rw [← hFB]; exact tn_ok hok _ _
    have HNN : Hid (dnode FA FB = N) := by show _ = _; rw [← hN, tn_next, hFA, hFB]
    have HOUT : Hid (L.length ≤ i * 2 ^ (k + 1) → demp (k + 1) = N) := fun hout => by rw [← hN, tn_out L (k + 1) i hout]
    clear hN ih hk hkc hFA hFB hsplit hi hip hii hi2
    go_enter Tryd.func29, Tryd.ntmps29
    go_wp2_with fail
    generalize (w.alloc (.cells (rowV 1056 E).toArray 64)).alloc (.cells #[.int .u8 0, .int .u8 0, .int .u8 0, .int .u8 0, .int .u8 0, .int .u8 0, .int .u8 0, .int .u8 0, .int .u8 0, .int .u8 0, .int .u8 0, .int .u8 0, .int .u8 0, .int .u8 0, .int .u8 0, .int .u8 0, .int .u8 0, .int .u8 0, .int .u8 0, .int .u8 0, .int .u8 0, .int .u8 0, .int .u8 0, .int .u8 0, .int .u8 0, .int .u8 0, .int .u8 0, .int .u8 0, .int .u8 0, .int .u8 0, .int .u8 0, .int .u8 0] 28) = w1 at *
    go_loop [9, 12] (fun x t => ∃ b : Nat, b ≤ k + 1 ∧ t = .int .i64 b ∧ x = .int .u64 ((i * 2 ^ b : Nat) : Int)) (fun _ t => (k + 1) - (intOf t).toNat)
    case atStart => exact ⟨0, Nat.zero_le _, rfl, by simp⟩
    case round =>
      obtain ⟨b, hb, rfl, rfl⟩ := hrel
      by_cases hlt : b < k + 1
      · have hbi : (b : Int) < (k : Int) + 1 := by omega
        have hle : i * 2 ^ b ≤ i * 2 ^ k := Nat.mul_le_mul_left _ (Nat.pow_le_pow_right (by omega) (by omega))
        have hle2 : i * 2 ^ (k + 1) = 2 * (i * 2 ^ k) := by rw [Nat.pow_succ, ← Nat.mul_assoc, Nat.mul_comm]
        have hup : i * 2 ^ (b + 1) = 2 * (i * 2 ^ b) := by rw [Nat.pow_succ, ← Nat.mul_assoc, Nat.mul_comm]
        obtain ⟨p, hp⟩ : ∃ p, i * 2 ^ b = p := ⟨_, rfl⟩
        rw [hp] at hle hup
        rw [hp]
        have hpi : (p : Int) < 2147483648 := by have := HIP.out; omega
        have HUP := hide hup
        clear hle hle2 hup hp
        go_wp2
        go_round
        case rel => exact ⟨b + 1, by omega, by go_num, by rw [HUP.out]; first | rfl | go_num⟩
        case measure => simp [intOf]; omega
      · obtain rfl : b = k + 1 := by omega
        obtain ⟨p, hp⟩ : ∃ p, i * 2 ^ (k + 1) = p := ⟨_, rfl⟩
        have hpm : p < 4294967296 := by rw [← hp]; exact HIP.out
        have hpi : (p : Int) ≤ 4294967295 := by omega
        have hcast : (((k + 1 : Nat)) : Int) = (k : Int) + 1 := rfl
        rw [hp, hcast]
        by_cases hout : L.length ≤ p
        · have hlo : (L.length : Int) ≤ (p : Int) := by omega
          have HD : Hid (demp (k + 1) = N) := HOUT.out (by rw [hp]; exact hout)
          have HP := hide (X0.out.part ((k + 1) * 32) 32 N (by have := HK.out; omega) (fun j hj => by rw [← HE.out]; unfold empF; rw [if_pos (by have := HK.out; omega), show ((k + 1) * 32 + j) / 32 = k + 1 by omega, show ((k + 1) * 32 + j) % 32 = j by omega, HD.out]))
          clear hp hout hpm hcast hb hlt HOUT
          go_wp2_with (first
            | refine wpList_load_mid rfl 28 _ rfl w.heap.size ((k + 1) * 32) rfl (rowV 32 N) _ HP.out Tryd.underlying28 rfl (info_hash32 _) ?_
            | refine wpList_store_mid rfl 28 _ _ rfl (w.heap.size + 1) 0 (rowV 32 N).toArray rfl rfl (R.out.thereA _) (info_hash32A _) (rowV_oneA _ _) ?_)
          refine bodyPost_ret (v := .agg (rowV 32 N).toArray) ?_ rfl ⟨by rw [HN.out], setCells_below B.out (by omega) _ _⟩
          have hlv := run_loadVar_mid (P := Tryd.prog) _ _ _ _ _ _ (R.out.stored N).range Tryd.underlying28 rfl (info_hash32 _)
          exact results_one Tryd.results29 rfl hlv
        · have hlo : (p : Int) < (L.length : Int) := by omega
          clear hp hout hpm hcast hb hlt HOUT hpi
          have hk1 : ¬ (k : Int) + 1 = 0 := by omega
          have hwk : IntKind.i64.wrap (k : Int) = (k : Int) := by rw [IntKind.wrap_i64]; omega
          have hwi : IntKind.u64.wrap (i2 : Int) = (i2 : Int) := by rw [IntKind.wrap_u64]; omega
          have hwj : IntKind.u64.wrap ((i2 : Int) + 1) = (i2 : Int) + 1 := by rw [IntKind.wrap_u64]; omega
          clear hok hL
          generalize L.length = m at *
          go_wp2_with fail
          have X : Hid (BRow w1.drew w.heap.size 1056 E) := X0.out.after (bMe w1).drew rfl
          replace R := hide (R.out.after (bMe w1).drew rfl)
          replace B := hide (B.out.drew)
          replace HL := HLL
          clear X0
          refine wp_region_held_drew (S := fun w' => BRow w' w.heap.size 1056 E) (by kernel_rfl) X.out (fun _ => ?_)
          refine tk0 (by kernel_rfl) (by kernel_rfl) (by kernel_rfl) (fun _ _ _ h => h) X.out (yieldsIf_load_mid (by rfl) _ _ rfl w.heap.size 0 rfl (rowV 1056 E) _ (fun _ hw => hw.range) Tryd.underlying64 rfl HIL.out) ?_
          simp only [Act.put, List.setIfInBounds_toArray, List.set_cons_zero, List.set_cons_succ]
          refine tk1 (v := .slice ao m cap) (by kernel_rfl) (by kernel_rfl) (by kernel_rfl) (fun _ _ _ h => h) X.out (Or.inl ⟨by rfl, fun w hw => by go_simp; try (with_reducible rfl)⟩) ?_
          simp only [Act.put, List.setIfInBounds_toArray, List.set_cons_zero, List.set_cons_succ]
          refine tk2 (v := .int .i64 ((k : Int) + 1)) (by kernel_rfl) (by kernel_rfl) (by kernel_rfl) (fun _ _ _ h => h) X.out (Or.inl ⟨by rfl, fun w hw => by go_simp; try (with_reducible rfl)⟩) ?_
          simp only [Act.put, List.setIfInBounds_toArray, List.set_cons_zero, List.set_cons_succ]
          refine tk3 (v := .int .i64 (k : Int)) (by kernel_rfl) (by kernel_rfl) (by kernel_rfl) (fun _ _ _ h => h) X.out (Or.inl ⟨by rfl, fun w hw => by go_simp; try (with_reducible rfl)⟩) ?_
          simp only [Act.put, List.setIfInBounds_toArray, List.set_cons_zero, List.set_cons_succ]
          refine tk4 (v := .int .u64 (i : Int)) (by kernel_rfl) (by kernel_rfl) (by kernel_rfl) (fun _ _ _ h => h) X.out (Or.inl ⟨by rfl, fun w hw => by go_simp; try (with_reducible rfl)⟩) ?_
          simp only [Act.put, List.setIfInBounds_toArray, List.set_cons_zero, List.set_cons_succ]
          refine tk5 (v := .int .u64 (i2 : Int)) (by kernel_rfl) (by kernel_rfl) (by kernel_rfl) (fun _ _ _ h => h) X.out (Or.inl ⟨by rfl, fun w hw => by go_simp; try (with_reducible rfl)⟩) ?_
          simp only [Act.put, List.setIfInBounds_toArray, List.set_cons_zero, List.set_cons_succ]
          refine tk7 (by kernel_rfl) (by kernel_rfl) (by kernel_rfl) (fun _ _ _ h => h) X.out (yieldsIf_load_mid (by rfl) _ _ rfl w.heap.size 0 rfl (rowV 1056 E) _ (fun _ hw => hw.range) Tryd.underlying64 rfl HIL.out) ?_
          simp only [Act.put, List.setIfInBounds_toArray, List.set_cons_zero, List.set_cons_succ]
          refine tk8 (v := .slice ao m cap) (by kernel_rfl) (by kernel_rfl) (by kernel_rfl) (fun _ _ _ h => h) X.out (Or.inl ⟨by rfl, fun w hw => by go_simp; try (with_reducible rfl)⟩) ?_
          simp only [Act.put, List.setIfInBounds_toArray, List.set_cons_zero, List.set_cons_succ]
          refine tk9 (v := .int .i64 ((k : Int) + 1)) (by kernel_rfl) (by kernel_rfl) (by kernel_rfl) (fun _ _ _ h => h) X.out (Or.inl ⟨by rfl, fun w hw => by go_simp; try (with_reducible rfl)⟩) ?_
          simp only [Act.put, List.setIfInBounds_toArray, List.set_cons_zero, List.set_cons_succ]
          refine tk10 (v := .int .i64 (k : Int)) (by kernel_rfl) (by kernel_rfl) (by kernel_rfl) (fun _ _ _ h => h) X.out (Or.inl ⟨by rfl, fun w hw => by go_simp; try (with_reducible rfl)⟩) ?_
          simp only [Act.put, List.setIfInBounds_toArray, List.set_cons_zero, List.set_cons_succ]
          refine tk11 (v := .int .u64 (i : Int)) (by kernel_rfl) (by kernel_rfl) (by kernel_rfl) (fun _ _ _ h => h) X.out (Or.inl ⟨by rfl, fun w hw => by go_simp; try (with_reducible rfl)⟩) ?_
          simp only [Act.put, List.setIfInBounds_toArray, List.set_cons_zero, List.set_cons_succ]
          refine tk12 (v := .int .u64 (i2 : Int)) (by kernel_rfl) (by kernel_rfl) (by kernel_rfl) (fun _ _ _ h => h) X.out (Or.inl ⟨by rfl, fun w hw => by go_simp; try (with_reducible rfl)⟩) ?_
          simp only [Act.put, List.setIfInBounds_toArray, List.set_cons_zero, List.set_cons_succ]
          refine tk13 (v := .int .u64 ((i2 : Int) + 1)) (by kernel_rfl) (by kernel_rfl) (by kernel_rfl) (fun _ _ _ h => h) X.out (Or.inl ⟨by rfl, fun w hw => by go_simp; try (with_reducible rfl)⟩) ?_
          simp only [Act.put, List.setIfInBounds_toArray, List.set_cons_zero, List.set_cons_succ]
          refine wpAnyH_ready (rs := [6]) (by kernel_rfl) (by simp) ?_
          refine rd6 (fun K hK => ?_) AllReadyH.nil
          go_simp
          refine (IHA.out (HT.out.below B.out) (HL.out.below B.out)).mono ?_
          rintro e6 w6 ⟨rfl, hb⟩
          simp only []
          replace X := hide (X.out.after hb rfl)
          replace R := hide (R.out.after hb rfl)
          replace B := hide (bOn B.out hb)
          clear hb
          refine hK.out _ _ X.out (fun _ => ?_)
          clear hK K
          refine wpAnyH_ready (rs := [14]) (by kernel_rfl) (by simp) ?_
          refine rd14 (fun K hK => ?_) AllReadyH.nil
          go_simp
          refine (IHB.out (HT.out.below B.out) (HL.out.below B.out)).mono ?_
          rintro e14 w14 ⟨rfl, hb⟩
          simp only []
          replace X := hide (X.out.after hb rfl)
          replace R := hide (R.out.after hb rfl)
          replace B := hide (bOn B.out hb)
          clear hb
          refine hK.out _ _ X.out (fun _ => ?_)
          clear hK K
          refine wpAnyH_ready (rs := [15]) (by kernel_rfl) (by simp) ?_
          refine rd15 (fun K hK => ?_) AllReadyH.nil
          go_simp
          refine (refnode_any FA FB HOA.out HOB.out (HT.out.below B.out)).mono ?_
          rintro e15 w15 ⟨rfl, hb⟩
          simp only []
          replace X := hide (X.out.after hb rfl)
          replace R := hide (R.out.after hb rfl)
          replace B := hide (bOn B.out hb)
          clear hb
          refine hK.out _ _ X.out (fun _ => ?_)
          clear hK K
          rw [HNN.out]
          refine wpAnyH_ready (rs := [16]) (by kernel_rfl) (by simp) ?_
          refine rd16 (fun K hK => ?_) AllReadyH.nil
          rw [if_pos (by rfl)]
          refine wp_store_mid _ _ _ rfl (w.heap.size + 1) 0 (rowV 32 N).toArray rfl rfl (R.out.thereA N) (info_hash32A _) (rowV_oneA _ _) ?_
          refine hK.out _ _ (X.out.off (by omega) _ _) (fun _ => ?_)
          clear hK K
          refine wpAnyH_done (by kernel_rfl) ?_ _
          try simp only [Act.put]
          go_wp2
          refine bodyPost_ret (v := .agg (rowV 32 N).toArray) ?_ rfl ⟨by rw [HN.out], setCells_below B.out (by omega) _ _⟩
          have hlv := run_loadVar_mid (P := Tryd.prog) _ _ _ _ _ _ (R.out.stored N).range Tryd.underlying28 rfl (info_hash32 _)
          exact results_one Tryd.results29 rfl hlv
set_option maxRecDepth 100000 in
set_option maxHeartbeats 8000000 in
theorem rNode_any {ao : Option Addr} {cap : Nat} {L : List Hs} (hL : L.length ≤ 1000) (hok : Hoks L) (k : Nat) (hk : k ≤ 32) {w : World} (ht : Tab w 0) (i : Nat) (hl : Hl w ao L) (hi : (i + 1) * 2 ^ k ≤ 4294967296) :
    Calls Tryd.prog 22 #[.slice ao L.length cap, .int .i64 k, .int .u64 i] w fun e w' => e = .returned (.agg (rowV 32 (tn L k i)).toArray) ∧ Below w.heap.size w w' := by
  have HT := hide ht; have HLL := hide hl; have HI := hide hi; have HK := hide hk; have HO := hide hok; have HLN := hide hL
  have R := hide (BRow.zeros32 w (g := w.heap.size) rfl)
  have B : Hid (Below w.heap.size w (w.alloc (.cells #[.int .u8 0, .int .u8 0, .int .u8 0, .int .u8 0, .int .u8 0, .int .u8 0, .int .u8 0, .int .u8 0, .int .u8 0, .int .u8 0, .int .u8 0, .int .u8 0, .int .u8 0, .int .u8 0, .int .u8 0, .int .u8 0, .int .u8 0, .int .u8 0, .int .u8 0, .int .u8 0, .int .u8 0, .int .u8 0, .int .u8 0, .int .u8 0, .int .u8 0, .int .u8 0, .int .u8 0, .int .u8 0, .int .u8 0, .int .u8 0, .int .u8 0, .int .u8 0] 28))) := bAl (bMe w)
  clear ht hl hi hk hok hL
  go_enter Tryd.func22, Tryd.ntmps22
  go_wp2_with fail
  generalize w.alloc (.cells #[.int .u8 0, .int .u8 0, .int .u8 0, .int .u8 0, .int .u8 0, .int .u8 0, .int .u8 0, .int .u8 0, .int .u8 0, .int .u8 0, .int .u8 0, .int .u8 0, .int .u8 0, .int .u8 0, .int .u8 0, .int .u8 0, .int .u8 0, .int .u8 0, .int .u8 0, .int .u8 0, .int .u8 0, .int .u8 0, .int .u8 0, .int .u8 0, .int .u8 0, .int .u8 0, .int .u8 0, .int .u8 0, .int .u8 0, .int .u8 0, .int .u8 0, .int .u8 0] 28) = w1 at *
  refine (empties_any (HT.out.below B.out)).mono ?_
  rintro e w2 ⟨rfl, hb⟩
  replace R := hide (R.out.after hb rfl)
  replace B := hide (bOn B.out hb)
  clear hb
  obtain ⟨E, hE⟩ : ∃ E, empF 32 = E := ⟨_, rfl⟩
  have hr := fun (w : World) (h1 : Tab w 0) (h2 : Hl w ao L) => rnode_any (cap := cap) HLN.out HO.out k HK.out (w := w) h1 i h2 HI.out
  rw [hE] at hr
  rw [hE]
  have HR := hide hr
  clear hr hE
  obtain ⟨N, hN⟩ : ∃ N, tn L k i = N := ⟨_, rfl⟩
  rw [hN] at HR
  have HN := hide hN
  clear hN
  go_wp2_with fail
  refine (HR.out w2 (HT.out.below B.out) (HLL.out.below B.out)).mono ?_
  rintro e w3 ⟨rfl, hb⟩
  replace R := hide (R.out.after hb rfl)
  replace B := hide (bOn B.out hb)
  clear hb
  go_wp2_with (refine wpList_store_mid rfl 28 _ _ rfl w.heap.size 0 (rowV 32 N).toArray rfl rfl (R.out.thereA _) (info_hash32A _) (rowV_oneA _ _) ?_)
  refine bodyPost_ret (v := .agg (rowV 32 N).toArray) ?_ rfl ⟨by rw [HN.out], setCells_below B.out (Nat.le_refl _) _ _⟩
  have hlv := run_loadVar_mid (P := Tryd.prog) _ _ _ _ _ _ (R.out.stored N).range Tryd.underlying28 rfl (info_hash32 _)
  exact results_one Tryd.results22 rfl hlv
end Go.Proofs.YtjkhboejhcbdpaaDoor
