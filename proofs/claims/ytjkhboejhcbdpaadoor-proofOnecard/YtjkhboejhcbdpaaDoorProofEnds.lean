/- The contract of proof.ends over this translation. -/
import Derived.Test.YtjkhboejhcbdpaaDoorProofEq
namespace Go.Proofs.YtjkhboejhcbdpaaDoor
open Go.RowKit Go.Lib
attribute [local go_sem] setCell_drewN alloc_drewN eqHash

set_option maxRecDepth 100000 in
set_option maxHeartbeats 4000000 in
theorem ends_any {w : World} (P : Pf) (d : Nat) (hd : d ≤ 32) :
    Calls Tryd.prog 23 #[.agg (rowV 1024 (pc P)).toArray, .int .i64 d] w fun e w' => e = .returned (.bool (endB P d)) ∧ Below w.heap.size w w' := by
  have hdi : (d : Int) ≤ 32 := by omega
  have HD := hide hd
  have E0 : Hid (Bxs w (w.alloc (.cells (rowV 1024 (pc P)).toArray 29)) [(w.heap.size, 1024, pc P)]) := (Bxs.none w).new (BRow.box w 1024 (pc P) _ rfl)
  clear hd
  by_cases h32 : d = 32
  · subst h32
    have HE : Hid (endB P 32 = true) := (endB_iff P 32).2 fun k h1 h2 => by omega
    go_enter Tryd.func23, Tryd.ntmps23
    go_wp2_with fail
    generalize w.alloc (.cells (rowV 1024 (pc P)).toArray 29) = w1 at *
    go_loopg [10] 1 (fun gk t wr => gk = 1 ∧ t = .int .i64 0 ∧ wr = w1)
    case atStart => exact ⟨rfl, rfl, rfl⟩
    case round =>
      obtain ⟨rfl, rfl, rfl⟩ := hrel
      go_wp2
      go_ret
      exact ⟨by rw [HE.out]; rfl, E0.out.below⟩
  · have hne : ¬ 32 = d := fun e => h32 e.symm
    obtain ⟨m, hm⟩ : ∃ m, 32 - d = m := ⟨_, rfl⟩
    have HM : Hid (m + d = 32) := by have := HD.out; show _ = _; omega
    go_enter Tryd.func23, Tryd.ntmps23
    go_wp2_with fail
    generalize w.alloc (.cells (rowV 1024 (pc P)).toArray 29) = w1 at *
    clear hm h32 hne
    go_loopg [10] m (fun gk t wr => ∃ b : Nat, gk + b = m ∧ t = .int .i64 b ∧ Bxs w wr [(w.heap.size, 1024, pc P)] ∧ Hid (∀ k, d ≤ k → k < d + b → sameH (P k) hz = true))
    case atStart => exact ⟨0, by omega, rfl, E0.out, fun k h1 h2 => by omega⟩
    case round =>
      clear E0
      obtain ⟨b, hb0, rfl, he, hall⟩ := hrel
      have E := hide he; have HK := hide hb0
      clear he hb0
      by_cases hlt : b < m
      · have hbi : (b : Int) < (m : Int) := by omega
        have hmi : (m : Int) ≤ 32 := by have := HM.out; omega
        obtain ⟨F, hF⟩ : ∃ F, P (d + b) = F := ⟨_, rfl⟩
        have HF := hide hF
        have R1 : Hid (Bxs w (wr.alloc (.cells #[.int .u8 0, .int .u8 0, .int .u8 0, .int .u8 0, .int .u8 0, .int .u8 0, .int .u8 0, .int .u8 0, .int .u8 0, .int .u8 0, .int .u8 0, .int .u8 0, .int .u8 0, .int .u8 0, .int .u8 0, .int .u8 0, .int .u8 0, .int .u8 0, .int .u8 0, .int .u8 0, .int .u8 0, .int .u8 0, .int .u8 0, .int .u8 0, .int .u8 0, .int .u8 0, .int .u8 0, .int .u8 0, .int .u8 0, .int .u8 0, .int .u8 0, .int .u8 0] 28)) [(wr.heap.size, 32, fun _ => 0), (w.heap.size, 1024, pc P)]) := E.out.new (BRow.zeros32 wr rfl)
        have hrow : Hid (wr.rangeAt w.heap.size (d * 32 + b * 32) (rowV 32 F)) := by
          have := (E.out.get 0 rfl).lev (d + b) (by have := HM.out; omega)
          rw [hF] at this
          rwa [Nat.add_mul] at this
        clear hF
        go_wp2_with (first
          | refine wpList_load_mid rfl 28 _ rfl w.heap.size (d * 32 + b * 32) rfl (rowV 32 F) _ hrow.out Tryd.underlying28 rfl (info_hash32 _) ?_
          | refine wpList_store_stop rfl 28 _ _ rfl wr.heap.size 0 (rowV 32 F) rfl rfl ((R1.out.get 0 rfl).thereA F) (info_hash32A F) (rowV_oneA _ _) ?_)
        intro w3 hw3
        have E3 : Hid (Bxs w w3 [(wr.heap.size, 32, F), (w.heap.size, 1024, pc P)]) := by
          show Bxs _ _ _
          rw [hw3.out]; exact R1.out.put 0 rfl F
        have hzq := fun w => eqHashZ F w
        clear hw3 R1 hrow E
        generalize wr.heap.size = g at *
        cases hs : sameH F hz with
        | true =>
          rw [hs] at hzq
          go_wp2_with (refine wpList_load_mid rfl 28 _ rfl g 0 rfl (rowV 32 F) _ (E3.out.get 0 rfl).range Tryd.underlying28 rfl (info_hash32 _) ?_)
          go_roundg (m - b - 1)
          case measure => have := HK.out; omega
          case rel => exact ⟨b + 1, by omega, by go_num, E3.out.tail, fun k h1 h2 => by
            by_cases e : k = d + b
            · rw [e, HF.out]; exact hs
            · exact hall.out k h1 (by omega)⟩
        | false =>
          rw [hs] at hzq
          have HE : Hid (endB P d = false) := by
            show _ = _
            cases e : endB P d
            · rfl
            · have := (endB_iff P d).1 e (d + b) (by omega) (by have := HM.out; omega)
              rw [HF.out, hs] at this
              cases this
          go_wp2_with (refine wpList_load_mid rfl 28 _ rfl g 0 rfl (rowV 32 F) _ (E3.out.get 0 rfl).range Tryd.underlying28 rfl (info_hash32 _) ?_)
          go_ret
          exact ⟨by rw [HE.out]; rfl, E3.out.below⟩
      · obtain rfl : b = m := by have := HK.out; omega
        have HE : Hid (endB P d = true) := (endB_iff P d).2 fun k h1 h2 => hall.out k h1 (by have := HM.out; omega)
        go_wp2
        go_ret
        exact ⟨by rw [HE.out]; rfl, E.out.below⟩
end Go.Proofs.YtjkhboejhcbdpaaDoor
