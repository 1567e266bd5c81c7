/- The contract of domain.Empty over this translation. -/
import Derived.Test.YtjkhboejhcbdpaaDoorDomNode
namespace Go.Proofs.YtjkhboejhcbdpaaDoor
open Go.RowKit Go.Lib
attribute [local go_sem] setCell_drewN alloc_drewN

/-- The sum of a tree without leaves, of a level. -/
def demp : Nat → Nat → Int
  | 0 => dsha 2 []
  | k + 1 => dnode (demp k) (demp k)
theorem demp_next (k : Nat) : demp (k + 1) = dnode (demp k) (demp k) := rfl
theorem out8_bd (s : St8) (j : Nat) : 0 ≤ out8 s j ∧ out8 s j < 256 := by unfold out8; omega
theorem dsha_bd (tag : Int) (ls : List (List Int)) (j : Nat) : 0 ≤ dsha tag ls j ∧ dsha tag ls j < 256 := out8_bd _ j
theorem demp_bd : ∀ (k j : Nat), 0 ≤ demp k j ∧ demp k j < 256
  | 0, j => dsha_bd _ _ j
  | _ + 1, j => dsha_bd _ _ j
/-- A level, as it counts. -/
def lev (x : Int) : Nat := if x < 0 then 0 else if 32 < x then 32 else x.toNat
theorem lev_is (x : Int) : ∃ (k : Nat) (m : Int), k ≤ 32 ∧ lev x = k ∧ (if x < 0 then 0 else x) = m ∧ (if 32 < m then 32 else m) = (k : Int) := by
  unfold lev
  by_cases h : x < 0
  · exact ⟨0, 0, by omega, by rw [if_pos h], by rw [if_pos h], by simp⟩
  · by_cases h2 : 32 < x
    · exact ⟨32, x, by omega, by rw [if_neg h, if_pos h2], by rw [if_neg h], by rw [if_pos h2]; rfl⟩
    · exact ⟨x.toNat, x, by omega, by rw [if_neg h, if_neg h2], by rw [if_neg h], by rw [if_neg h2]; omega⟩
/-- What stands while levels are gone up. -/
structure EM (w0 w : World) (g : Nat) (F : Nat → Int) : Prop where
  res : BRow w w0.heap.size 32 (fun _ => 0)
  h : BRow w g 32 F
  lo : w0.heap.size < g
  below : Below w0.heap.size w0 w
theorem EM.after {w0 w w' : World} {g : Nat} {F : Nat → Int} (h : EM w0 w g F) (hb : Below w.heap.size w w') : EM w0 w' g F :=
  ⟨h.res.after hb rfl, h.h.after hb rfl, h.lo, bOn h.below hb⟩
theorem EM.put {w0 w : World} {g : Nat} {F : Nat → Int} (h : EM w0 w g F) (F' : Nat → Int) : EM w0 (w.setCells g 0 (rowV 32 F')) g F' :=
  ⟨h.res.of (by rw [setCells_size]; exact Nat.le_refl _) (setCells_block _ _ _ _ _ (by have := h.lo; omega)), h.h.stored F', h.lo, setCells_below h.below (by have := h.lo; omega) _ _⟩
set_option maxRecDepth 100000 in
set_option maxHeartbeats 4000000 in
theorem empty_any {w : World} (x : Int) (ht : Tab w 1) :
    Calls Tryd.prog 27 #[.int .i64 x] w fun e w' => e = .returned (.agg (rowV 32 (demp (lev x))).toArray) ∧ Below w.heap.size w w' := by
  have HT := hide ht
  clear ht
  have R := hide (BRow.zeros32 w (g := w.heap.size) rfl)
  have B : Hid (Below w.heap.size w (w.alloc (.cells #[.int .u8 0, .int .u8 0, .int .u8 0, .int .u8 0, .int .u8 0, .int .u8 0, .int .u8 0, .int .u8 0, .int .u8 0, .int .u8 0, .int .u8 0, .int .u8 0, .int .u8 0, .int .u8 0, .int .u8 0, .int .u8 0, .int .u8 0, .int .u8 0, .int .u8 0, .int .u8 0, .int .u8 0, .int .u8 0, .int .u8 0, .int .u8 0, .int .u8 0, .int .u8 0, .int .u8 0, .int .u8 0, .int .u8 0, .int .u8 0, .int .u8 0, .int .u8 0] 28))) := bAl (bMe w)
  obtain ⟨k, m, hk32, hk, hm1, hm2⟩ := lev_is x
  rw [hk]
  clear hk
  go_enter Tryd.func27, Tryd.ntmps27
  go_wp2_with fail
  generalize w.alloc (.cells #[.int .u8 0, .int .u8 0, .int .u8 0, .int .u8 0, .int .u8 0, .int .u8 0, .int .u8 0, .int .u8 0, .int .u8 0, .int .u8 0, .int .u8 0, .int .u8 0, .int .u8 0, .int .u8 0, .int .u8 0, .int .u8 0, .int .u8 0, .int .u8 0, .int .u8 0, .int .u8 0, .int .u8 0, .int .u8 0, .int .u8 0, .int .u8 0, .int .u8 0, .int .u8 0, .int .u8 0, .int .u8 0, .int .u8 0, .int .u8 0, .int .u8 0, .int .u8 0] 28) = w1 at *
  refine (of_any 2 (by omega) (by omega) none 0 [] (Handed.none w1) (by simp [dtext, lsOf, ptexts, be_length]) (HT.out.below B.out)).mono ?_
  rintro e w2 ⟨rfl, hb⟩
  replace R := hide (R.out.after hb rfl)
  replace B := hide (bOn B.out hb)
  clear hb
  obtain ⟨F, hF⟩ : ∃ F, dsha 2 (lsOf []) = F := ⟨_, rfl⟩
  rw [hF]
  have HF : Hid (demp 0 = F) := hF
  have hlo : Hid (w.heap.size < w2.heap.size) := R.out.lt
  have R2 := hide (BRow.zeros32 w2 (g := w2.heap.size) rfl)
  replace R := hide (R.out.past (.cells #[.int .u8 0, .int .u8 0, .int .u8 0, .int .u8 0, .int .u8 0, .int .u8 0, .int .u8 0, .int .u8 0, .int .u8 0, .int .u8 0, .int .u8 0, .int .u8 0, .int .u8 0, .int .u8 0, .int .u8 0, .int .u8 0, .int .u8 0, .int .u8 0, .int .u8 0, .int .u8 0, .int .u8 0, .int .u8 0, .int .u8 0, .int .u8 0, .int .u8 0, .int .u8 0, .int .u8 0, .int .u8 0, .int .u8 0, .int .u8 0, .int .u8 0, .int .u8 0] 28))
  replace B := hide (bAl (o := (.cells #[.int .u8 0, .int .u8 0, .int .u8 0, .int .u8 0, .int .u8 0, .int .u8 0, .int .u8 0, .int .u8 0, .int .u8 0, .int .u8 0, .int .u8 0, .int .u8 0, .int .u8 0, .int .u8 0, .int .u8 0, .int .u8 0, .int .u8 0, .int .u8 0, .int .u8 0, .int .u8 0, .int .u8 0, .int .u8 0, .int .u8 0, .int .u8 0, .int .u8 0, .int .u8 0, .int .u8 0, .int .u8 0, .int .u8 0, .int .u8 0, .int .u8 0, .int .u8 0] 28)) B.out)
  clear hF
  go_wp2_with (refine wpList_store_stop rfl 28 _ _ rfl w2.heap.size 0 (rowV 32 F) rfl rfl (R2.out.thereA F) (info_hash32A F) (rowV_oneA _ _) ?_)
  intro w3 hw3
  have E : Hid (EM w w3 w2.heap.size F) := by
    show EM _ _ _ _
    rw [hw3.out]
    exact EM.put ⟨R.out, R2.out, hlo.out, B.out⟩ F
  clear hw3 R R2 B hlo
  generalize w2.heap.size = g at *
  go_wp2
  go_loopg [8] k (fun gk t wr => ∃ j : Nat, gk + j = k ∧ t = .int .i64 j ∧ EM w wr g (demp j))
  case atStart => exact ⟨0, by omega, rfl, by rw [HF.out]; exact E.out⟩
  case round =>
    clear E HF
    obtain ⟨j, hj, rfl, he⟩ := hrel
    have E := hide he; have HJ := hide hj
    clear he hj
    by_cases hlt : j < k
    · have hji : (j : Int) < (k : Int) := by omega
      have HB := hide (demp_bd j)
      obtain ⟨F, hF⟩ : ∃ F, demp j = F := ⟨_, rfl⟩
      have HN : Hid (demp (j + 1) = dnode F F) := by show _ = _; rw [demp_next, hF]
      rw [hF] at E HB
      clear hF
      go_wp2_with (refine wpList_load_mid rfl 28 _ rfl g 0 rfl (rowV 32 F) _ E.out.h.range Tryd.underlying28 rfl (info_hash32 _) ?_)
      refine (node_any F F HB.out HB.out (HT.out.below E.out.below)).mono ?_
      rintro e w4 ⟨rfl, hb⟩
      replace E := hide (E.out.after hb)
      clear hb
      obtain ⟨N, hN⟩ : ∃ N, dnode F F = N := ⟨_, rfl⟩
      rw [hN] at HN
      rw [hN]
      clear hN
      go_wp2_with (refine wpList_store_stop rfl 28 _ _ rfl g 0 (rowV 32 N) rfl rfl (E.out.h.thereA N) (info_hash32A N) (rowV_oneA _ _) ?_)
      intro w5 hw5
      have E5 : Hid (EM w w5 g N) := by
        show EM _ _ _ _
        rw [hw5.out]; exact E.out.put N
      clear hw5 E
      go_wp2
      go_roundg (k - j - 1)
      case measure => have := HJ.out; omega
      case rel => exact ⟨j + 1, by omega, by go_num, by rw [HN.out]; exact E5.out⟩
    · obtain rfl : j = k := by have := HJ.out; omega
      obtain ⟨F, hF⟩ : ∃ F, demp j = F := ⟨_, rfl⟩
      have HF := hide hF
      rw [hF] at E
      clear hF
      go_wp2_with (first
        | refine wpList_load_mid rfl 28 _ rfl g 0 rfl (rowV 32 F) _ E.out.h.range Tryd.underlying28 rfl (info_hash32 _) ?_
        | refine wpList_store_mid rfl 28 _ _ rfl w.heap.size 0 (rowV 32 F).toArray rfl rfl (E.out.res.thereA _) (info_hash32A _) (rowV_oneA _ _) ?_)
      refine bodyPost_ret (v := .agg (rowV 32 F).toArray) ?_ rfl ⟨by rw [HF.out], setCells_below E.out.below (Nat.le_refl _) _ _⟩
      have hlv := run_loadVar_mid (P := Tryd.prog) _ _ _ _ _ _ (E.out.res.stored F).range Tryd.underlying28 rfl (info_hash32 _)
      exact results_one Tryd.results27 rfl hlv
end Go.Proofs.YtjkhboejhcbdpaaDoor
