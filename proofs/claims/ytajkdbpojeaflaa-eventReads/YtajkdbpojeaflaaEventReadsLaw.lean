/- The walk of sponsionlaw09.EventReads over this translation. -/
import Derived.Test.YtajkdbpojeaflaaEvtMore
import Derived.Test.YtajkdbpojeaflaaEvtRefRead
import Derived.Test.YtajkdbpojeaflaaEvtSame
import Derived.Test.YtajkdbpojeaflaaEvtLives
import Derived.Test.YtajkdbpojeaflaaPackMore
namespace Go.Proofs.Ytajkdbpojeaflaa
open Go.RowKit Go.Lib
attribute [local go_sem] setCell_drewN alloc_drewN

set_option maxRecDepth 100000 in
set_option maxHeartbeats 8000000 in
theorem eventReads_walk (ao : Option Addr) (cap : Nat) (l : List Int) (w : World) (hbs : l.length ≤ cap ∧ cap ≤ maxLen ∧ (ao = none → cap = 0) ∧ At w ao l ∧ Byt l) :
    Calls Try.prog 4 #[.slice ao l.length cap] w fun e w' => e = .returned (.bool true) ∧ Below w.heap.size w w' := by
  obtain ⟨-, -, h1, h2, h3⟩ := hbs
  have HN := hide h1; have HA := hide h2; have HB := hide h3
  clear h1 h2 h3
  by_cases hlen : l.length ≤ 1000
  · have hli : ¬ (1000 : Int) < (l.length : Int) := by omega
    go_enter Try.func4, Try.ntmps4
    go_wp2_with fail
    refine (lives9_any w).mono ?_
    rintro e w0 ⟨rfl, hb⟩
    have B := hide hb
    clear hb
    go_wp2_with fail
    refine (read9_any ao cap l (HA.out.below B.out) HN.out HB.out (by omega)).mono ?_
    rintro r w1 hrd
    obtain ⟨k1, k2, k3, k4⟩ := rdF_ok l.length l (Nat.le_refl _) HB.out
    rcases hrd with ⟨h0, v, rfl, hv⟩ | ⟨h0, rfl, hb⟩
    · have OK : Hid ((∀ x ∈ (rdE l).1, Evt.Ok x) ∧ (rdE l).1.all mayE = true ∧ allE (rdE l).1 = l) := ⟨k1, k2, k3 h0⟩
      have H0 := hide h0
      clear k1 k2 k3 k4 h0
      have HL : Hid ((rdE l).1.length ≤ 20) := by
        have a := congrArg List.length OK.out.2.2
        rw [allE_length] at a
        show _ ≤ _
        omega
      obtain ⟨xs, hxs⟩ : ∃ xs, (rdE l).1 = xs := ⟨_, rfl⟩
      rw [hxs] at hv OK HL
      have HXS := hide hxs
      clear hxs
      obtain ⟨so, sc, rfl, hev, -, -, -, -⟩ := hv.evs
      have EM := hide hev
      replace B := hide (bOn B.out hv.below)
      clear hv hev
      have cv := (HA.out.below B.out).str cap
      obtain ⟨S, hS⟩ : ∃ S, strOfNums l = S := ⟨_, rfl⟩
      rw [hS] at cv
      have HS := hide hS
      clear hS
      go_wp2_with fail
      have CR := hide (refread9_any l w1 HB.out (by omega))
      rw [HS.out] at CR
      refine CR.out.mono ?_
      clear cv CR
      rintro r w2 hrd
      rcases hrd with ⟨_, v2, rfl, hv2⟩ | ⟨h0, _⟩
      · rw [HXS.out] at hv2
        obtain ⟨so2, sc2, rfl, hev2, -, -, -, -⟩ := hv2.evs
        have E2 := hide hev2
        replace B := hide (bOn B.out hv2.below)
        replace EM := hide (EM.out.below hv2.below)
        clear hv2 hev2
        have hl20 := HL.out
        go_wp2_with fail
        refine (same9_any EM.out E2.out OK.out.1 OK.out.1 (by omega) (by omega)).mono ?_
        rintro e w3 ⟨bb, rfl, hb, hbw⟩
        obtain rfl : bb = true := hb.2 rfl
        replace B := hide (bOn B.out hbw)
        replace EM := hide (EM.out.below hbw)
        clear hb hbw E2
        go_wp2_with fail
        refine (bytes9_any EM.out OK.out.1 (by omega)).mono ?_
        rintro e w4 ⟨ha, hb⟩
        replace B := hide (bOn B.out hb)
        clear hb
        rcases ha with ⟨_, va, rfl, hva⟩ | ⟨m1, _⟩
        · rw [OK.out.2.2] at hva
          obtain ⟨ba, ca, rfl, -, -, ka⟩ := hva.cell
          have cv := ka.str ca
          have cv2 := (HA.out.below B.out).str cap
          rw [HS.out] at cv cv2
          clear hva ka
          go_wp2
          go_ret
          exact ⟨rfl, B.out⟩
        · rw [OK.out.2.1] at m1; cases m1
      · exact absurd H0.out h0
    · have H0 := hide h0
      replace B := hide (bOn B.out hb)
      clear hb k1 k2 k3
      obtain ⟨E, hE⟩ : ∃ E, (rdE l).2 = E := ⟨_, rfl⟩
      have hk4 : E = 4 ∨ E = 6 := by
        rcases k4 with k | k | k
        · exact absurd k H0.out
        · exact .inl (by rw [← hE]; exact k)
        · exact .inr (by rw [← hE]; exact k)
      rw [hE] at H0
      rw [hE]
      have HE := hide hE
      clear hE k4 h0
      have cv := (HA.out.below B.out).str cap
      obtain ⟨S, hS⟩ : ∃ S, strOfNums l = S := ⟨_, rfl⟩
      rw [hS] at cv
      have HS := hide hS
      clear hS
      rcases hk4 with rfl | rfl
      all_goals
        go_wp2_with fail
        have CR := hide (refread9_any l w1 HB.out (by omega))
        rw [HS.out] at CR
        refine CR.out.mono ?_
        clear CR
        rintro r w2 hrd
        rcases hrd with ⟨h0, _⟩ | ⟨_, rfl, hb⟩
        · rw [HE.out] at h0; exact absurd h0 (by omega)
        · rw [HE.out]
          replace B := hide (bOn B.out hb)
          clear hb
          go_wp2_with fail
          refine (same9_any (xs := []) (ys := []) (Evs.nil _ _) (Evs.nil _ _) (fun x hx => by simp at hx) (fun x hx => by simp at hx) (by simp) (by simp)).mono ?_
          rintro e w3 ⟨bb, rfl, hb, hbw⟩
          obtain rfl : bb = true := hb.2 rfl
          replace B := hide (bOn B.out hbw)
          clear hb hbw
          go_wp2
          go_ret
          exact ⟨rfl, B.out⟩
  · have hli : (1000 : Int) < (l.length : Int) := by omega
    go_enter Try.func4, Try.ntmps4
    go_wp2_with fail
    refine (lives9_any w).mono ?_
    rintro e w1 ⟨rfl, hb⟩
    have B := hide hb
    clear hb
    go_wp2_with fail
    refine (lives9_any w1).mono ?_
    rintro e w2 ⟨rfl, hb⟩
    replace B := hide (bOn B.out hb)
    clear hb
    go_wp2
    go_ret
    exact ⟨rfl, B.out⟩
end Go.Proofs.Ytajkdbpojeaflaa
