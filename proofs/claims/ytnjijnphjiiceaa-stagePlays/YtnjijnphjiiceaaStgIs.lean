/- The contract of the law's 'is': a map is the document's row. -/
import Derived.Test.YtnjijnphjiiceaaStgRows
import Derived.BigQuiet
namespace Go.Proofs.Ytnjijnphjiiceaa
set_option linter.unusedSimpArgs false
set_option linter.unusedVariables false
set_option linter.unusedSectionVars false
open Go.RowKit Go.Lib
attribute [local go_sem] setCell_drewN alloc_drewN

set_option maxHeartbeats 8000000 in
theorem is_any {w : World} {S Z : Nat → Prop} {bj : Nat} {A : List Nat} {mb : Nat → Nat} {X : Nat → Kvs} {ds : Deeds} (hs : St w S Z bj A mb X ds) {a : Nat} (ha : a ∈ A) {ao : Option Addr} {cap : Nat} {L : Kvs} (hX : X a = L) (hl : PRow w 0 (.slice ao L.length cap) L) (hlen : L.length ≤ 1000) (hcap : L.length ≤ cap) (hnone : ao = none → cap = 0) {m : Int} (hm : m ≤ 9223372036854775807) (hok : ∀ p ∈ L, (Lit.int .i64 p.1).wf = true) :
    Calls Try.prog 16 #[.pointer (some ⟨a, 0, none⟩), .slice ao L.length cap, .int .i64 m] w fun e w' => e = .returned (.bool true) ∧ Below w.heap.size w w' := by
  have HS := hide hs
  have HL := hide hl
  have HX := hide hX
  have HOK := hide hok
  have hl1 : (L.length : Int) ≤ 1000 := by omega
  have K := hide (keys_any hs ha (by rw [hX]; omega))
  clear hs hl hX hok
  go_enter Try.func16, Try.ntmps16
  go_wp2_with fail
  refine K.out.mono ?_
  clear K
  rintro e w1 ⟨ao1, cap1, rfl, n1, b1⟩
  rw [HX.out] at n1
  have HSA := hide (HS.out.below b1)
  have N1 := hide n1
  have B1 := hide b1
  clear n1 b1
  rw [HX.out]
  have C := hide (mlen_any HSA.out ha)
  go_wp2_with fail
  refine C.out.mono ?_
  clear C
  rintro e w' ⟨rfl, rfl⟩
  rw [HX.out]
  have C := hide (all_any HSA.out ha (by rw [HX.out]; omega))
  go_wp2_with fail
  refine C.out.mono ?_
  clear C
  rintro e w2 ⟨gb, rfl, i2, b2⟩
  rw [HX.out] at i2
  have C := hide (pairs_any i2 (Nat.le_refl _) (by omega) (m := L.length + 1) (by omega) (by omega))
  rw [List.take_of_length_le (by omega), show ((L.length + 1 : Nat) : Int) = (L.length : Int) + 1 from rfl] at C
  have B2 := hide (B1.out.trans (b2.mono B1.out.size))
  have HS2 := hide (HSA.out.below b2)
  have N2 := hide (N1.out.below b2)
  clear i2 b2 HSA N1 B1
  go_wp2_with fail
  refine C.out.mono ?_
  clear C
  rintro e w3 ⟨v, rfl, p3, b3⟩
  obtain ⟨ao3, cap3, rfl, _, _⟩ := p3.form
  have HS3 := hide (HS2.out.below b3)
  have N3 := hide (N2.out.below b3)
  have B3 := hide (B2.out.trans (b3.mono B2.out.size))
  have C := hide (same_any (p3.lower (Nat.zero_le _)) (HL.out.below B3.out) (by omega))
  clear p3 b3 HS2 N2 B2
  go_wp2_with fail
  refine C.out.mono ?_
  clear C
  rintro e w' ⟨rfl, n, rfl⟩
  have HS4 := hide (HS3.out.below (bDr (bMe w3) n))
  have N4 := hide (N3.out.below (bDr (bMe w3) n))
  have B4 := hide (bDr B3.out n)
  clear HS3 N3 B3
  generalize w3.drewN n = w4 at *
  go_wp2
  go_loopw [39] (fun i wr => ∃ k : Nat, k ≤ L.length ∧ i = .int .i64 k ∧ Below w4.heap.size w4 wr) (fun i _ => L.length - (intOf i).toNat)
  case atStart => exact ⟨0, Nat.zero_le _, rfl, bMe _⟩
  case round =>
    obtain ⟨k, hk, rfl, hB⟩ := hrel
    by_cases hlt : k < L.length
    · have hx : L[k]? = some L[k] := List.getElem?_eq_getElem hlt
      have hpo := HOK.out L[k] (List.getElem_mem hlt)
      have hget : getL L[k].1 L = some L[k].2 := by
        have hsr := HS4.out.srt a
        rw [HX.out] at hsr
        exact getL_mem kyInt hsr (List.getElem_mem hlt)
      obtain ⟨g, rfl, hgl, c0, c1⟩ := (HL.out.below (B4.out.trans (hB.mono B4.out.size))).get hx
      obtain ⟨g2, rfl, hgl2, c2⟩ := (N4.out.below hB).get (j := k) (x := L[k].1) (by rw [List.getElem?_map, hx]; rfl)
      generalize L[k] = p at *
      obtain ⟨p1, p2⟩ := p
      simp only at c0 c1 c2 hpo hget
      have HB := hide hB
      have hng : g ≠ wr.heap.size := by omega
      have hng2 : g2 ≠ wr.heap.size := by omega
      have C := hide (get_any (HS4.out.below (bAl (o := .cells #[.int .i64 p1, .int .i64 p2] 58) hB)) ha hpo)
      rw [HX.out, (fk_some hget).2.1, (fk_some hget).2.2] at C
      clear hB hx hget
      go_wp2_with fail
      refine C.out.mono ?_
      clear C
      rintro e w5 ⟨rfl, b5⟩
      have d0 : w5.cell? ⟨wr.heap.size, 0, none⟩ = some (.int .i64 p1) := by rw [b5.cell (by simp)]; simp [go_sem]
      have d1 : w5.cell? ⟨wr.heap.size, 1, none⟩ = some (.int .i64 p2) := by rw [b5.cell (by simp)]; simp [go_sem]
      have d2 : w5.cell? ⟨g2, k, none⟩ = some (.int .i64 p1) := by rw [b5.cell (by simp; omega), Below.cell (bAl (bMe wr)) hgl2]; exact c2
      have B5 := hide ((bAl (o := .cells #[.int .i64 p1, .int .i64 p2] 58) HB.out).trans (b5.mono (bAl (o := .cells #[.int .i64 p1, .int .i64 p2] 58) HB.out).size))
      clear b5 c0 c1 c2
      go_wp2
      go_quiet (fail)
      go_wp2
      go_roundw
      case rel => exact ⟨k + 1, by omega, by simp, bDr B5.out _⟩
      case measure => simp [intOf]; omega
    · obtain rfl : k = L.length := by omega
      have HS5 := hide (HS4.out.below hB)
      have B5 := hide (B4.out.trans (hB.mono B4.out.size))
      clear hB HS4 N4 B4
      go_wp2
      obtain ⟨T, hT⟩ : ∃ T, L.take m.toNat = T := ⟨_, rfl⟩
      have CA : Hid (∀ W, Below wr.heap.size wr W → Calls Try.prog 22 #[.pointer (some ⟨a, 0, none⟩)] W fun e w' => ∃ gb, e = .returned (.func (.func 31) #[] #[.pointer (some ⟨gb, 0, none⟩)]) ∧ It w' W.heap.size w'.heap.size gb L ∧ Below W.heap.size W w') := fun W hW => by
        have := all_any (HS5.out.below hW) ha (by rw [HX.out]; omega)
        rwa [HX.out] at this
      have CP : Hid (∀ gb W, (∃ lo, It W lo W.heap.size gb L) → Calls Try.prog 21 #[.func (.func 31) #[] #[.pointer (some ⟨gb, 0, none⟩)], .int .i64 m] W fun e w' => ∃ ao1 cap1, e = .returned (.slice ao1 T.length cap1) ∧ PRow w' W.heap.size (.slice ao1 T.length cap1) T ∧ Below W.heap.size W w') := fun gb W hI => by
        obtain ⟨lo, hI⟩ := hI
        by_cases h0 : m ≤ 0
        · refine (pairs_none h0).mono ?_
          rintro e w' ⟨rfl, hb⟩
          have : T = [] := by rw [← hT, show m.toNat = 0 by omega]; rfl
          subst this
          exact ⟨none, 0, rfl, World.ownsRow_nil _ _ _ _, hb⟩
        · have := pairs_any hI (Nat.le_refl _) (by omega) (m := m.toNat) (by omega) (by omega)
          rw [hT, show ((m.toNat : Nat) : Int) = m by omega] at this
          refine this.mono ?_
          rintro e w' ⟨v, rfl, hp, hb⟩
          obtain ⟨ao1, cap1, rfl, _, _⟩ := hp.form
          exact ⟨ao1, cap1, rfl, hp, hb⟩
      have hTl : max 0 (min m (L.length : Int)) = (T.length : Int) := by
        rw [← hT, List.length_take]; omega
      have CS : Hid (∀ ao7 cap7 W, PRow W 0 (.slice ao7 T.length cap7) T → Below wr.heap.size wr W → Calls Try.prog 20 #[.slice ao7 T.length cap7, .slice ao T.length cap] W fun e w' => e = .returned (.bool true) ∧ ∃ n, w' = W.drewN n) := fun ao7 cap7 W h7 hW => by
        have hc := (HL.out.below (B5.out.trans (hW.mono B5.out.size))).cut m.toNat
        rw [hT] at hc
        exact same_any h7 hc (by rw [← hT, List.length_take]; omega)
      clear hT
      go_region_with (first
        | (go_at_call 22; refine (CA.out _ ?hb).mono ?_; (case hb => exact (bMe wr).drew); rintro e w6 ⟨gb6, rfl, i6, b6⟩)
        | (go_at_call 21; refine (CP.out _ _ ?hi).mono ?_; (case hi => exact ⟨_, i6⟩); rintro e w7 ⟨ao7, cap7, rfl, p7, b7⟩)
        | (go_at_call 20; refine (CS.out _ _ _ (p7.lower (Nat.zero_le _)) (chain2 b6 b7)).mono ?_; rintro e w8 ⟨rfl, n8, rfl⟩))
      all_goals (go_wp2; go_ret; exact ⟨rfl, B5.out.trans ((bDr (chain2 b6 b7) n8).mono B5.out.size)⟩)
end Go.Proofs.Ytnjijnphjiiceaa
