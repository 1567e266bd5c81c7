/- The contract of wide.takeOut over this translation. -/
import Derived.Test.YtlmjbpmpedlhlaaWideGuess
import Derived.Deep.RegionHeld3
namespace Go.Proofs.Ytlmjbpmpedlhlaa
open Go.RowKit Go.Lib
attribute [local go_sem] setCell_drewN alloc_drewN

set_option maxHeartbeats 4000000 in
theorem take_out_any {g n off cap : Nat} {d : Int} {f : Nat → Int} {w : World} (R : LRow w g n f) (L : Lim f) (hn : off + 5 ≤ n) (hd : In d) (ht : 0 < lm d 3) (hu : four (f (off + 1)) (f (off + 2)) (f (off + 3)) (f (off + 4)) < d) :
    Calls Try.prog 29 #[.slice (some ⟨g, off, none⟩) 5 cap, big d] w fun e w' => ∃ (q : Int) (f' : Nat → Int), e = .returned (.int .u64 q) ∧ (0 ≤ q ∧ q < 18446744073709551616) ∧ LRow w' g n f' ∧ Lim f' ∧ Hid (∀ j, j < off ∨ off + 5 ≤ j → f' j = f j) ∧
      Hid (five f off = q * d + five f' off ∧ five f' off < d) ∧ Bar g w w' := by
  have HL := hide L; have HD := hide hd; have HN := hide hn; have HU := hide hu; have HT := hide ht
  have hne : w.heap.size ≠ g := by have := R.lt; omega
  have hgl : g < w.heap.size := R.lt
  have R0 := hide (R.past (.cells #[.int .u64 (lm d 0), .int .u64 (lm d 1), .int .u64 (lm d 2), .int .u64 (lm d 3)] 24))
  have P := hide (Own.new w (lm d 0) (lm d 1) (lm d 2) (lm d 3) 24)
  have B := hide ((Bar.refl g w).al (.cells #[.int .u64 (lm d 0), .int .u64 (lm d 1), .int .u64 (lm d 2), .int .u64 (lm d 3)] 24))
  clear R L hd hn hu ht
  go_enter Try.func29, Try.ntmps29
  go_wp2_with fail
  refine wp_scope_jumps 0 (fun a' w' => ∃ (q br : Int) (f' : Nat → Int) (u7 u8 u9 u10 u11 u12 u13 u14 u15 u16 u17 u18 u19 u20 u21 u22 u23 u24 u25 u26 u27 u28 u29 : Value), a' = { tmps := #[.slice (some ⟨g, off, none⟩) 5 cap, big d, undef, .pointer (some ⟨w.heap.size, 0, none⟩), .int .u64 0, .int .u64 q, .int .u64 br, u7, u8, u9, u10, u11, u12, u13, u14, u15, u16, u17, u18, u19, u20, u21, u22, u23, u24, u25, u26, u27, u28, u29], defers := [] } ∧ Mend (five f off) d q br (five f' off) ∧ LRow w' g n f' ∧ Lim f' ∧ Hid (∀ j, j < off ∨ off + 5 ≤ j → f' j = f j) ∧ Own w' w.heap.size (lm d 0) (lm d 1) (lm d 2) (lm d 3) ∧ Bar g w w') (fun a' _ => (intOf (a'.tmps.getD 5 undef)).toNat) rfl ?_ ?_
  · have hn := HN.out
    have l4 := HL.out (off + 4); have l3 := HL.out (off + 3)
    have ht := HT.out; have ht1 := (lm_bd d 3).2
    go_wp2_with fail
    go_region_held3 (fun w' => w'.cell? ⟨g, off + 4, none⟩ = some (.int .u64 (f (off + 4))) ∧ w'.cell? ⟨g, off + 3, none⟩ = some (.int .u64 (f (off + 3))) ∧ w'.cell? ⟨w.heap.size, 3, none⟩ = some (.int .u64 (lm d 3))) (exact ⟨R0.out.cell (off + 4) (by omega), R0.out.cell (off + 3) (by omega), P.out.c3⟩)
      (first | (go_at_call 40; refine (guess_any _ _ _ l4 l3 ht ht1 _).mono ?_; rintro e w1 ⟨q, rfl, bq, G, hb1⟩; replace R0 := hide (R0.out.after hb1 rfl); replace P := hide (P.out.after hb1 rfl); replace B := hide (by first | exact B.out.on hb1 | exact B.out.drew.on hb1); clear hb1))
    have G1 := hide (guess_low HL.out HD.out HU.out bq.1 G.out)
    clear G l4 l3
    obtain ⟨_, p0, p1, p2, p3, _⟩ := P.out
    go_wp2_with fail
    refine (sub_row_any R0.out HL.out hn HD.out bq.1 bq.2).mono ?_
    rintro e w2 ⟨br, f', rfl, bb, R1, L1, hout, heq, hb2⟩
    replace R1 := hide R1; replace L1 := hide L1
    replace P := hide (P.out.bar hb2 hne rfl)
    replace B := hide (B.out.trans hb2)
    have M : Hid (Mend (five f off) d q br (five f' off)) := ⟨bq.1, bq.2, bb.1, bb.2, heq, G1.out⟩
    clear hb2 heq p0 p1 p2 p3 R0 G1
    obtain ⟨_, p0, p1, p2, p3, _⟩ := P.out
    by_cases h0 : br = 0
    · subst h0
      go_wp2
      go_step3
      go_wp2
      simp only [Exit.jump]
      go_ret
      exact ⟨q, f', rfl, bq, R1.out, L1.out, hout, M.out.done, B.out⟩
    · have hq := M.out.pos (five_bd HL.out off).1 (five_bd L1.out off).2 h0
      have hb : (br != 0) = true := by simpa using h0
      go_wp2_with fail
      go_step3
      go_wp2_with fail
      refine (give_back_any R1.out L1.out hn HD.out).mono ?_
      rintro e w3 ⟨c, f2, rfl, bc, R2, L2, hout2, heq2, hb3⟩
      have M2 := hide (M.out.next (five_bd HL.out off).1 (five_bd L1.out off).2 h0 bc heq2)
      have x0 := M2.out.b0; have x1 := M2.out.b1
      go_wp2
      go_step3
      exact ⟨rfl, q - 1, br - c, f2, _, _, _, _, _, _, _, _, _, _, _, _, _, _, _, _, _, _, _, _, _, _, _, rfl, M2.out, R2, L2, fun j hj => (hout2 j hj).trans (hout j hj), P.out.bar hb3 hne rfl, B.out.trans hb3⟩
  · rintro a' w' ⟨q, br, f', u7, u8, u9, u10, u11, u12, u13, u14, u15, u16, u17, u18, u19, u20, u21, u22, u23, u24, u25, u26, u27, u28, u29, rfl, M, R1, L1, hout, P, B⟩
    replace M := hide M; replace R1 := hide R1; replace L1 := hide L1; replace P := hide P; replace B := hide B
    have hn := HN.out
    have bq : 0 ≤ q ∧ q < 18446744073709551616 := ⟨M.out.q0, M.out.q1⟩
    obtain ⟨_, p0, p1, p2, p3, _⟩ := P.out
    by_cases h0 : br = 0
    · subst h0
      go_wp2
      simp only [Exit.jump]
      go_ret
      exact ⟨q, f', rfl, bq, R1.out, L1.out, hout, M.out.done, B.out⟩
    · have hq := M.out.pos (five_bd HL.out off).1 (five_bd L1.out off).2 h0
      have hb : (br != 0) = true := by simpa using h0
      go_wp2_with fail
      refine (give_back_any R1.out L1.out hn HD.out).mono ?_
      rintro e w3 ⟨c, f2, rfl, bc, R2, L2, hout2, heq2, hb3⟩
      have M2 := hide (M.out.next (five_bd HL.out off).1 (five_bd L1.out off).2 h0 bc heq2)
      have x0 := M2.out.b0; have x1 := M2.out.b1
      go_wp2
      go_step3
      refine ⟨rfl, ⟨q - 1, br - c, f2, _, _, _, _, _, _, _, _, _, _, _, _, _, _, _, _, _, _, _, _, _, _, _, rfl, M2.out, R2, L2, fun j hj => (hout2 j hj).trans (hout j hj), P.out.bar hb3 hne rfl, B.out.trans hb3⟩, ?_⟩
      show (q - 1).toNat < q.toNat
      omega
end Go.Proofs.Ytlmjbpmpedlhlaa
