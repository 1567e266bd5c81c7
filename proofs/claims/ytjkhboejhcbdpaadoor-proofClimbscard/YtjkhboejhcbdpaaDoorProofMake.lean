/- The contracts of proof.Make over this translation (written by gen-proofmake.py). -/
import Derived.Test.YtjkhboejhcbdpaaDoorProofCheck
import Derived.Test.YtjkhboejhcbdpaaDoorTreeNode
import Derived.Laws.BitsAllLaws
namespace Go.Proofs.YtjkhboejhcbdpaaDoor
open Go.RowKit Go.Lib
attribute [local go_sem] setCell_drewN alloc_drewN

theorem zeroPf (w : World) : (zeroValue 29).run Tryd.prog w = .ok (.agg (rowV 1024 (pc pz)).toArray) w := by rw [pz_row]; exact zero1024 w
/-- The place beside. -/
def sib (x : Nat) : Nat := if x % 2 = 0 then x + 1 else x - 1
theorem sib_lt {x m : Nat} (h : x < 2 * m) : sib x < 2 * m := by unfold sib; split <;> omega
theorem xor_sib (x : Nat) (h : x < 18446744073709551616) : bits .xor .u64 (x : Int) 1 = ((sib x : Nat) : Int) := by
  have h1 := u64_xor_nat x 1 h (by omega)
  have h2 : x ^^^ 1 = sib x := by
    have a := Nat.xor_div_two (a := x) (b := 1)
    have b := Nat.xor_mod_two_eq_one (a := x) (b := 1)
    rw [show (1 : Nat) / 2 = 0 from rfl, Nat.xor_zero] at a
    rw [show (1 : Nat) % 2 = 1 from rfl] at b
    unfold sib
    by_cases h : x % 2 = 1
    · have : ¬ (x ^^^ 1) % 2 = 1 := fun e => (b.1 e) ⟨fun _ => rfl, fun _ => h⟩
      rw [if_neg (by omega)]; omega
    · have : (x ^^^ 1) % 2 = 1 := b.2 fun e => h (e.2 rfl)
      rw [if_pos (by omega)]; omega
  rw [h2] at h1
  exact h1
/-- The proof of a place, level by level. -/
def mp (L : List Hs) (d i : Nat) : Pf := fun k => if k < d then tn L k (sib (i / 2 ^ k)) else hz
theorem mp_zero (L : List Hs) (i : Nat) : mp L 0 i = pz := by funext k; simp [mp, pz]
theorem mp_next (L : List Hs) (d i : Nat) : mp L (d + 1) i = updP (mp L d i) d (tn L d (sib (i / 2 ^ d))) := by
  funext k
  unfold mp updP
  by_cases e : k = d
  · subst e; rw [if_pos (by omega), if_pos rfl]
  · rw [if_neg e]
    by_cases e2 : k < d
    · simp only []; rw [if_pos (by omega), if_pos e2]
    · simp only []; rw [if_neg (by omega), if_neg e2]
theorem mp_ok {L : List Hs} (h : Hoks L) (d i : Nat) : Pok (mp L d i) := by
  intro k; unfold mp; split
  · exact tn_ok h _ _
  · exact pz_ok k
set_option maxRecDepth 100000 in
set_option maxHeartbeats 4000000 in
theorem make_nil {w : World} (n i : Int) :
    Calls Tryd.prog 9 #[.pointer none, .int .u64 n, .int .u64 i] w fun e w' => e = .returned (.tuple #[.agg (rowV 1024 (pc pz)).toArray, .int .i64 1]) ∧ Below w.heap.size w w' := by
  have E : Hid (Bxs w (w.alloc (.cells (rowV 1024 (pc pz)).toArray 29)) [(w.heap.size, 1024, pc pz)]) := (Bxs.none w).add rfl (BRow.box w 1024 _ _ rfl)
  have hzp := fun w => zeroPf w
  go_enter Tryd.func9, Tryd.ntmps9
  go_wp2_with (first
    | refine wpList_store_mid rfl 29 _ _ rfl (w.heap.size) 0 (rowV 1024 (pc pz)).toArray rfl rfl ((E.out.get 0 rfl).thereA _) (info_pfA _) (rowV_oneA _ _) ?_)
  have EE := hide (E.out.put 0 rfl (pc pz))
  refine bodyPost_ret (v := .tuple #[.agg (rowV 1024 (pc pz)).toArray, .int .i64 1]) ?_ rfl ⟨rfl, EE.out.below⟩
  have hlv := run_loadVar_mid (P := Tryd.prog) _ _ _ _ _ _ (EE.out.get 0 rfl).range Tryd.underlying29 rfl (info_pf _)
  exact results_two Tryd.results9 rfl rfl hlv
set_option maxRecDepth 100000 in
set_option maxHeartbeats 8000000 in
theorem make_arg {w : World} {g d : Nat} {S : Nat → Prop} {L : List Hs} (h : Tr w g S d L) (n i : Int) (hn : (L.length : Int) < n) :
    Calls Tryd.prog 9 #[.pointer (some ⟨g, 0, none⟩), .int .u64 n, .int .u64 i] w fun e w' => e = .returned (.tuple #[.agg (rowV 1024 (pc pz)).toArray, .int .i64 1]) ∧ Below w.heap.size w w' := by
  have E : Hid (Bxs w (w.alloc (.cells (rowV 1024 (pc pz)).toArray 29)) [(w.heap.size, 1024, pc pz)]) := (Bxs.none w).add rfl (BRow.box w 1024 _ _ rfl)
  have HTR := hide (h.below E.out.below)
  have hfew := h.few
  have hzp := fun w => zeroPf w
  clear h
  go_enter Tryd.func9, Tryd.ntmps9
  go_wp2_with (first
    | (go_at_call 18; refine (len_any HTR.out.box (by rw [lv_zero]; omega)).mono ?_; rintro e w' ⟨rfl, rfl⟩; rw [lv_zero])
    | refine wpList_store_mid rfl 29 _ _ rfl (w.heap.size) 0 (rowV 1024 (pc pz)).toArray rfl rfl ((E.out.get 0 rfl).thereA _) (info_pfA _) (rowV_oneA _ _) ?_)
  have EE := hide (E.out.put 0 rfl (pc pz))
  refine bodyPost_ret (v := .tuple #[.agg (rowV 1024 (pc pz)).toArray, .int .i64 1]) ?_ rfl ⟨rfl, EE.out.below⟩
  have hlv := run_loadVar_mid (P := Tryd.prog) _ _ _ _ _ _ (EE.out.get 0 rfl).range Tryd.underlying29 rfl (info_pf _)
  exact results_two Tryd.results9 rfl rfl hlv
set_option maxRecDepth 100000 in
set_option maxHeartbeats 8000000 in
theorem make_none {w : World} {g d : Nat} {S : Nat → Prop} {L : List Hs} (h : Tr w g S d L) (n i : Int) (hn : n ≤ (L.length : Int)) (hi : n ≤ i) :
    Calls Tryd.prog 9 #[.pointer (some ⟨g, 0, none⟩), .int .u64 n, .int .u64 i] w fun e w' => e = .returned (.tuple #[.agg (rowV 1024 (pc pz)).toArray, .int .i64 10]) ∧ Below w.heap.size w w' := by
  have E : Hid (Bxs w (w.alloc (.cells (rowV 1024 (pc pz)).toArray 29)) [(w.heap.size, 1024, pc pz)]) := (Bxs.none w).add rfl (BRow.box w 1024 _ _ rfl)
  have HTR := hide (h.below E.out.below)
  have hfew := h.few
  have hzp := fun w => zeroPf w
  clear h
  go_enter Tryd.func9, Tryd.ntmps9
  go_wp2_with (first
    | (go_at_call 18; refine (len_any HTR.out.box (by rw [lv_zero]; omega)).mono ?_; rintro e w' ⟨rfl, rfl⟩; rw [lv_zero])
    | refine wpList_store_mid rfl 29 _ _ rfl (w.heap.size) 0 (rowV 1024 (pc pz)).toArray rfl rfl ((E.out.get 0 rfl).thereA _) (info_pfA _) (rowV_oneA _ _) ?_)
  have EE := hide (E.out.put 0 rfl (pc pz))
  refine bodyPost_ret (v := .tuple #[.agg (rowV 1024 (pc pz)).toArray, .int .i64 10]) ?_ rfl ⟨rfl, EE.out.below⟩
  have hlv := run_loadVar_mid (P := Tryd.prog) _ _ _ _ _ _ (EE.out.get 0 rfl).range Tryd.underlying29 rfl (info_pf _)
  exact results_two Tryd.results9 rfl rfl hlv
set_option maxRecDepth 100000 in
set_option maxHeartbeats 8000000 in
theorem make_yes {w : World} {g d : Nat} {S : Nat → Prop} {L : List Hs} (h : Tr w g S d L) (n i : Nat) (hn : n ≤ L.length) (hi : i < n) (ht : Tab w 1) :
    Calls Tryd.prog 9 #[.pointer (some ⟨g, 0, none⟩), .int .u64 n, .int .u64 i] w fun e w' => e = .returned (.tuple #[.agg (rowV 1024 (pc (mp (L.take n) d i))).toArray, .int .i64 0]) ∧ Below w.heap.size w w' := by
  have E0 : Hid (Bxs w ((w.alloc (.cells (rowV 1024 (pc pz)).toArray 29)).alloc (.cells (rowV 1024 (pc pz)).toArray 29)) [(w.heap.size + 1, 1024, pc pz), (w.heap.size, 1024, pc pz)]) := ((Bxs.none w).add rfl (BRow.box w 1024 _ _ rfl)).add (by simp) (BRow.box _ 1024 _ _ (by simp))
  have HTR := hide h
  have HTR1 := hide (h.below ((Bxs.none w).past (.cells (rowV 1024 (pc pz)).toArray 29)).below)
  have HTR2 := hide (h.below E0.out.below)
  have HT := hide ht
  have hfew := h.few
  have hdi : (d : Int) ≤ 32 := by have := h.dep; omega
  have hni : (n : Int) ≤ (L.length : Int) := by omega
  have hii : (i : Int) < (n : Int) := by omega
  have HN := hide hn; have HI := hide hi; have HLN := hide h.len; have HD := hide h.dep
  have hzp := fun w => zeroPf w
  have HLOW := hide h.box.low
  clear h ht hn hi
  go_enter Tryd.func9, Tryd.ntmps9
  go_wp2_with (first
    | (go_at_call 18; refine (len_any HTR1.out.box (by rw [lv_zero]; omega)).mono ?_; rintro e w' ⟨rfl, rfl⟩; rw [lv_zero])
    | (go_at_call 19; refine (depth_any HTR2.out.box).mono ?_; rintro e w' ⟨rfl, rfl⟩))
  generalize (w.alloc (.cells (rowV 1024 (pc pz)).toArray 29)).alloc (.cells (rowV 1024 (pc pz)).toArray 29) = w1 at *
  obtain ⟨M, hM⟩ : ∃ M, L.take n = M := ⟨_, rfl⟩
  have HM := hide hM
  have HOK : Hid (Hoks M) := by rw [← hM]; exact fun f hf => HTR.out.ok f (List.mem_of_mem_take hf)
  clear hM HTR HTR1 hzp
  go_loopg [25] d (fun gk t wr => ∃ b : Nat, gk + b = d ∧ t = .int .i64 b ∧ Bxs w wr [(w.heap.size + 1, 1024, pc (mp M b i)), (w.heap.size, 1024, pc pz)] ∧ Tr wr g S d L)
  case atStart => exact ⟨0, by omega, rfl, by rw [mp_zero]; exact E0.out, HTR2.out⟩
  case round =>
    clear E0 HTR2
    obtain ⟨b, hb0, rfl, he, htr⟩ := hrel
    have E := hide he; have HB := hide hb0; have HTR := hide htr
    clear he hb0 htr
    by_cases hlt : b < d
    · have hbi : (b : Int) < (d : Int) := by omega
      have hb32 : ¬ (32 : Int) ≤ (b : Int) := by omega
      obtain ⟨r, hr⟩ : ∃ r, i / 2 ^ b = r := ⟨_, rfl⟩
      have hdr : (i : Int) / 2 ^ b = (r : Int) := by rw [← hr]; simp
      have hrl : r ≤ 1000 := by have := Nat.div_le_self i (2 ^ b); have := HI.out; have := HN.out; omega
      have hri : (r : Int) ≤ 1000 := by omega
      have hxs := xor_sib r (by omega)
      have hpl : Hid (sib r < 2 ^ (d - b)) := by
        obtain ⟨m, hm⟩ : ∃ m, d - b = m + 1 := ⟨d - b - 1, by omega⟩
        have h2 : r < 2 ^ (d - b) := by
          rw [← hr]
          refine (Nat.div_lt_iff_lt_mul (Nat.two_pow_pos b)).2 ?_
          rw [← Nat.pow_add, Nat.sub_add_cancel (by omega)]
          have := HLN.out; have := HI.out; have := HN.out; omega
        show _ < _
        rw [hm, Nat.pow_succ, Nat.mul_comm] at h2 ⊢
        exact sib_lt h2
      have hsl : sib r ≤ 1001 := by unfold sib; split <;> omega
      have HR := hide hr
      clear hr
      have HSB : Hid (sib (i / 2 ^ b) = sib r) := by show _ = _; rw [HR.out]
      generalize sib r = s at *
      have hsi : (s : Int) ≤ 1001 := by omega
      have hbd : b ≤ 31 := by have := HD.out; omega
      go_wp2_with fail
      refine (node_yes HTR.out n b s HN.out (by omega) hpl.out (HT.out.below E.out.below)).mono ?_
      rintro e w3 ⟨rfl, hb⟩
      rw [HM.out]
      obtain ⟨N, hN⟩ : ∃ N, tn M b s = N := ⟨_, rfl⟩
      have HNN := hide hN
      rw [hN]
      replace E := hide (E.out.after hb)
      replace HTR := hide (HTR.out.below hb)
      clear hb hN
      go_wp2_with (refine wpList_store_stop rfl 28 _ _ rfl (w.heap.size + 1) (b * 32) (rowV 32 N) rfl rfl ((E.out.get 0 rfl).thereAt (b * 32) 32 N (by omega)) (info_hash32A N) (rowV_oneA _ _) ?_)
      intro w4 hw4
      have E4 : Hid (Bxs w w4 [(w.heap.size + 1, 1024, pc (mp M (b + 1) i)), (w.heap.size, 1024, pc pz)] ∧ Tr w4 g S d L) := by
        show Bxs _ _ _ ∧ _
        rw [hw4.out]
        exact ⟨E.out.putAt 0 rfl (b * 32) 32 N (pc (mp M (b + 1) i)) (by omega) (fun j hj => by rw [mp_next, HSB.out, HNN.out]; exact pc_upd _ _ _ j),
          HTR.out.of (by rw [setCells_size]; exact Nat.le_refl _) fun k hk => setCells_block _ _ _ _ _ (by have := HLOW.out k hk; omega)⟩
      clear hw4 E HTR
      go_wp2
      go_roundg (d - b - 1)
      case measure => have := HB.out; omega
      case rel => exact ⟨b + 1, by omega, by go_num, E4.out.1, E4.out.2⟩
    · obtain rfl : b = d := by have := HB.out; omega
      obtain ⟨R, hR⟩ : ∃ R, mp M b i = R := ⟨_, rfl⟩
      rw [hR] at E
      have HRR := hide hR
      clear hR
      go_wp2_with (first
        | refine wpList_load_mid rfl 29 _ rfl (w.heap.size + 1) 0 rfl (rowV 1024 (pc R)) _ (E.out.get 0 rfl).range Tryd.underlying29 rfl (info_pf _) ?_
        | refine wpList_store_mid rfl 29 _ _ rfl (w.heap.size) 0 (rowV 1024 (pc R)).toArray rfl rfl ((E.out.get 1 rfl).thereA _) (info_pfA _) (rowV_oneA _ _) ?_)
      have EE := hide (E.out.put 1 rfl (pc R))
      refine bodyPost_ret (v := .tuple #[.agg (rowV 1024 (pc R)).toArray, .int .i64 0]) ?_ rfl ⟨by rw [HM.out, HRR.out], EE.out.below⟩
      have hlv := run_loadVar_mid (P := Tryd.prog) _ _ _ _ _ _ (EE.out.get 1 rfl).range Tryd.underlying29 rfl (info_pf _)
      exact results_two Tryd.results9 rfl rfl hlv
end Go.Proofs.YtjkhboejhcbdpaaDoor
