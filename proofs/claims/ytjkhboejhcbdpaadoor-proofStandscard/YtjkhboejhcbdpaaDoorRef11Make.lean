/- The contract of sponsionref11.Make over this translation (written by gen-ref11make.py). -/
import Derived.Test.YtjkhboejhcbdpaaDoorProofMake
import Derived.Test.YtjkhboejhcbdpaaDoorRef10
namespace Go.Proofs.YtjkhboejhcbdpaaDoor
open Go.RowKit Go.Lib
attribute [local go_sem] setCell_drewN alloc_drewN

set_option maxRecDepth 100000 in
set_option maxHeartbeats 8000000 in
theorem rmake_any {w : World} (d : Nat) (hd : d ≤ 32) (ao : Option Addr) (cap : Nat) (L : List Hs) (i : Nat) (hl : Hl w ao L) (hok : Hoks L) (hfew : L.length ≤ 1000) (hi : i < 2 ^ d) (ht : Tab w 0) :
    Calls Tryd.prog 11 #[.int .i64 d, .slice ao L.length cap, .int .u64 i] w fun e w' => e = .returned (.agg (rowV 1024 (pc (mp L d i))).toArray) ∧ Below w.heap.size w w' := by
  have E0 : Hid (Bxs w ((w.alloc (.cells (rowV 1024 (pc pz)).toArray 29)).alloc (.cells (rowV 1024 (pc pz)).toArray 29)) [(w.heap.size + 1, 1024, pc pz), (w.heap.size, 1024, pc pz)]) := ((Bxs.none w).add rfl (BRow.box w 1024 _ _ rfl)).add (by simp) (BRow.box _ 1024 _ _ (by simp))
  have HT := hide ht; have HL := hide hl; have HOK := hide hok; have HFEW := hide hfew; have HI := hide hi; have HD := hide hd
  have hzp := fun w => zeroPf w
  have hdi : (d : Int) ≤ 32 := by omega
  clear ht hl hok hfew hi hd
  go_enter Tryd.func11, Tryd.ntmps11
  go_wp2_with fail
  generalize (w.alloc (.cells (rowV 1024 (pc pz)).toArray 29)).alloc (.cells (rowV 1024 (pc pz)).toArray 29) = w1 at *
  clear hzp
  go_loopg [2, 10] d (fun gk t2 t wr => ∃ b : Nat, gk + b = d ∧ t = .int .i64 b ∧ t2 = .int .u64 ((i / 2 ^ b : Nat) : Int) ∧ Bxs w wr [(w.heap.size + 1, 1024, pc (mp L b i)), (w.heap.size, 1024, pc pz)])
  case atStart => exact ⟨0, by omega, rfl, by simp, by rw [mp_zero]; exact E0.out⟩
  case round =>
    clear E0
    obtain ⟨b, hb0, rfl, rfl, he⟩ := hrel
    have E := hide he; have HB := hide hb0
    clear he hb0
    by_cases hlt : b < d
    · have hbi : (b : Int) < (d : Int) := by omega
      have hb32 : ¬ (32 : Int) ≤ (b : Int) := by omega
      have hbd : b ≤ 31 := by have := HD.out; omega
      obtain ⟨r, hr⟩ : ∃ r, i / 2 ^ b = r := ⟨_, rfl⟩
      have hr2 : r < 2 ^ (d - b) := by
        rw [← hr]
        refine (Nat.div_lt_iff_lt_mul (Nat.two_pow_pos b)).2 ?_
        rw [← Nat.pow_add, Nat.sub_add_cancel (by omega)]
        exact HI.out
      have h32 : 2 ^ (d - b) ≤ 2 ^ 32 := Nat.pow_le_pow_right (by omega) (by have := HD.out; omega)
      have hrl : (r : Int) ≤ 4294967295 := by omega
      have hwh : IntKind.u64.wrap ((r : Int) / 2) = (r : Int) / 2 := by rw [IntKind.wrap_u64]; omega
      have HNX : Hid (i / 2 ^ (b + 1) = r / 2) := by show _ = _; rw [Nat.pow_succ, ← Nat.div_div_eq_div_mul, hr]
      have hs2 : sib r < 2 ^ (d - b) := by
        obtain ⟨m, hm⟩ : ∃ m, d - b = m + 1 := ⟨d - b - 1, by omega⟩
        rw [hm, Nat.pow_succ, Nat.mul_comm] at hr2 ⊢
        exact sib_lt hr2
      have HBIG : Hid ((sib r + 1) * 2 ^ b ≤ 4294967296) := by
        have h1 : (sib r + 1) * 2 ^ b ≤ 2 ^ (d - b) * 2 ^ b := Nat.mul_le_mul_right _ hs2
        rw [← Nat.pow_add, Nat.sub_add_cancel (by omega)] at h1
        have h2 : 2 ^ d ≤ 2 ^ 32 := Nat.pow_le_pow_right (by omega) HD.out
        show _ ≤ _
        omega
      have HR := hide hr
      have HSB : Hid (sib (i / 2 ^ b) = sib r) := by show _ = _; rw [hr]
      rw [hr]
      clear hr hr2 h32 hs2
      obtain ⟨N, hN⟩ : ∃ N, tn L b (sib r) = N := ⟨_, rfl⟩
      have HNN := hide hN
      clear hN
      by_cases hev : r % 2 = 0
      · have hevi : (r : Int) % 2 = 0 := by omega
        have HS1 : Hid (sib r = r + 1) := by show _ = _; unfold sib; rw [if_pos hev]
        go_wp2_with fail
        have hc := rNode_any (cap := cap) HFEW.out HOK.out b (by omega) (HT.out.below E.out.below) (r + 1) (HL.out.below E.out.below) (by have := HBIG.out; rw [HS1.out] at this; exact this)
        refine hc.mono ?_
        clear hc
        rintro e w3 ⟨rfl, hb⟩
        rw [show tn L b (r + 1) = N by rw [← HNN.out, HS1.out]]
        replace E := hide (E.out.after hb)
        clear hb
        go_wp2_with (refine wpList_store_stop rfl 28 _ _ rfl (w.heap.size + 1) (b * 32) (rowV 32 N) rfl rfl ((E.out.get 0 rfl).thereAt (b * 32) 32 N (by omega)) (info_hash32A N) (rowV_oneA _ _) ?_)
        intro w4 hw4
        have E4 : Hid (Bxs w w4 [(w.heap.size + 1, 1024, pc (mp L (b + 1) i)), (w.heap.size, 1024, pc pz)]) := by
          show Bxs _ _ _
          rw [hw4.out]
          exact E.out.putAt 0 rfl (b * 32) 32 N (pc (mp L (b + 1) i)) (by omega) (fun j hj => by rw [mp_next, HSB.out, HNN.out]; exact pc_upd _ _ _ j)
        clear hw4 E
        go_wp2
        go_roundg (d - b - 1)
        case measure => have := HB.out; omega
        case rel => exact ⟨b + 1, by omega, by go_num, by rw [HNX.out]; go_num, E4.out⟩
      · have hevi : (r : Int) % 2 = 1 := by omega
        obtain ⟨s, rfl⟩ : ∃ s, r = s + 1 := ⟨r - 1, by omega⟩
        have HS1 : Hid (sib (s + 1) = s) := by show _ = _; unfold sib; rw [if_neg hev]; rfl
        have hwsi : (s : Int) + 1 - 1 = (s : Int) := by omega
        have hsl : (s : Int) ≤ 4294967294 := by omega
        clear hrl
        go_wp2_with fail
        have hc := rNode_any (cap := cap) HFEW.out HOK.out b (by omega) (HT.out.below E.out.below) s (HL.out.below E.out.below) (by have := HBIG.out; rw [HS1.out] at this; exact this)
        refine hc.mono ?_
        clear hc
        rintro e w3 ⟨rfl, hb⟩
        rw [show tn L b s = N by rw [← HNN.out, HS1.out]]
        replace E := hide (E.out.after hb)
        clear hb
        go_wp2_with (refine wpList_store_stop rfl 28 _ _ rfl (w.heap.size + 1) (b * 32) (rowV 32 N) rfl rfl ((E.out.get 0 rfl).thereAt (b * 32) 32 N (by omega)) (info_hash32A N) (rowV_oneA _ _) ?_)
        intro w4 hw4
        have E4 : Hid (Bxs w w4 [(w.heap.size + 1, 1024, pc (mp L (b + 1) i)), (w.heap.size, 1024, pc pz)]) := by
          show Bxs _ _ _
          rw [hw4.out]
          exact E.out.putAt 0 rfl (b * 32) 32 N (pc (mp L (b + 1) i)) (by omega) (fun j hj => by rw [mp_next, HSB.out, HNN.out]; exact pc_upd _ _ _ j)
        clear hw4 E
        go_wp2
        go_roundg (d - b - 1)
        case measure => have := HB.out; omega
        case rel => exact ⟨b + 1, by omega, by go_num, by rw [HNX.out]; go_num, E4.out⟩
    · obtain rfl : b = d := by have := HB.out; omega
      obtain ⟨R, hR⟩ : ∃ R, mp L b i = R := ⟨_, rfl⟩
      rw [hR] at E
      have HRR := hide hR
      clear hR
      go_wp2_with (first
        | refine wpList_load_mid rfl 29 _ rfl (w.heap.size + 1) 0 rfl (rowV 1024 (pc R)) _ (E.out.get 0 rfl).range Tryd.underlying29 rfl (info_pf _) ?_
        | refine wpList_store_mid rfl 29 _ _ rfl w.heap.size 0 (rowV 1024 (pc R)).toArray rfl rfl ((E.out.get 1 rfl).thereA _) (info_pfA _) (rowV_oneA _ _) ?_)
      have EE := hide (E.out.put 1 rfl (pc R))
      refine bodyPost_ret (v := .agg (rowV 1024 (pc R)).toArray) ?_ rfl ⟨by rw [HRR.out], EE.out.below⟩
      have hlv := run_loadVar_mid (P := Tryd.prog) _ _ _ _ _ _ (EE.out.get 1 rfl).range Tryd.underlying29 rfl (info_pf _)
      exact results_one Tryd.results11 rfl hlv
end Go.Proofs.YtjkhboejhcbdpaaDoor
