/- The walk of sponsionlaw06.DomainTexts over this translation. -/
import Derived.Test.YtgjckinihmbdeaaDoorDomTextsOf
import Derived.Test.YtgjckinihmbdeaaDoorHashEq
import Derived.Deep.RegionWith
import Derived.OpenShut
namespace Go.Proofs.YtgjckinihmbdeaaDoor
open Go.RowKit Go.Lib
attribute [local go_sem] setCell_drewN alloc_drewN eqHash sameH_self

theorem ptexts_len : ∀ ls : List (List Int), (∀ l ∈ ls, l.length ≤ 100) → (ptexts ls).length ≤ 104 * ls.length
  | [], _ => by simp [ptexts]
  | l :: r, h => by
    have h1 := ptexts_len r (fun m hm => h m (by simp [hm]))
    have h2 := h l (by simp)
    rw [show ptexts (l :: r) = ptext l ++ ptexts r from rfl, List.length_append, ptext_length]
    simp
    omega
theorem fewP_len {ps : List Prt} (h : fewP ps = true) (tag : Int) : ps.length ≤ 6 ∧ (dtext tag (lsOf ps)).length ≤ 1000 := by
  unfold fewP at h
  have h' := of_decide_eq_true h
  have h3 := ptexts_len (lsOf ps) (fun l hl => by obtain ⟨p, hp, rfl⟩ := List.mem_map.1 hl; exact h'.2 p hp)
  have h4 : (lsOf ps).length = ps.length := by simp [lsOf]
  refine ⟨h'.1, ?_⟩
  unfold dtext
  rw [List.length_append, be_length]
  omega
set_option maxRecDepth 100000 in
set_option maxHeartbeats 8000000 in
theorem domainTexts_walk (tag : Int) (ao : Option Addr) (cap : Nat) (ps : List Prt) (w : World) (hw : (Lit.int .u8 tag).wf = true) (hb : ps.length ≤ cap ∧ cap ≤ maxLen ∧ Parts w ao ps ∧ ∀ q ∈ ps, q.ao = none → q.cap = 0) (ht : Tab w 1) (ht2 : Tab w 0) :
    Calls Tryd.prog 3 #[.int .u8 tag, .slice ao ps.length cap] w fun e w' => e = .returned (.bool true) ∧ Below w.heap.size w w' := by
  obtain ⟨h1, h2, h3, h4⟩ := hb
  have htag : 0 ≤ tag ∧ tag < 256 := by have := Go.bounds_u8 hw; omega
  obtain ⟨ht0, ht1⟩ := htag
  have HT := hide ht; have HT2 := hide ht2; have HP := hide h3; have HN := hide h4
  have hps : Hid (ps.length ≤ maxLen) := Nat.le_trans h1 h2
  clear ht ht2 h3 h4 h1 h2 hw
  cases hfew : fewP ps with
  | false =>
    go_enter Tryd.func3, Tryd.ntmps3
    go_wp2_with fail
    refine (lives6_any w).mono ?_
    rintro e w1 ⟨rfl, hb1⟩
    have B := hide hb1
    clear hb1
    go_wp2_with fail
    refine (fewP_any (HP.out.below B.out) hps.out).mono ?_
    rintro e w2 ⟨rfl, rfl⟩
    rw [hfew]
    go_wp2_with fail
    refine (lives6_any w2).mono ?_
    rintro e w3 ⟨rfl, hb3⟩
    replace B := hide (bOn B.out hb3)
    clear hb3
    go_wp2
    go_ret
    exact ⟨rfl, B.out⟩
  | true =>
    obtain ⟨hl6, hl1⟩ := fewP_len hfew tag
    obtain ⟨L, hL⟩ : ∃ L, dtext tag (lsOf ps) = L := ⟨_, rfl⟩
    have HL := hide hL
    obtain ⟨F, hF⟩ : ∃ F, dsha tag (lsOf ps) = F := ⟨_, rfl⟩
    have HF := hide hF
    have HLL : Hid ((dtext tag (lsOf ps)).length ≤ 1000) := hl1
    clear hL hF hl1
    go_enter Tryd.func3, Tryd.ntmps3
    go_wp2_with fail
    refine (lives6_any w).mono ?_
    rintro e w1 ⟨rfl, hb1⟩
    have B := hide hb1
    clear hb1
    go_wp2_with fail
    refine (fewP_any (HP.out.below B.out) hps.out).mono ?_
    rintro e w2 ⟨rfl, rfl⟩
    rw [hfew]
    clear hfew
    replace B := hide B.out.drew
    go_wp2_with fail
    go_region_with (first
      | (go_at_call 8; refine (text_any tag ht0 ht1 ao cap ps (HP.out.below B.out) HN.out (by have := HLL.out; omega) (by omega)).mono ?_; rintro e w3 ⟨v, rfl, hv, hb⟩; rw [HL.out] at hv; obtain ⟨bo, bc, rfl, -, -, k3⟩ := hv.cell; have AT := hide k3; have s1 := k3.str bc; replace B := hide (bOn B.out hb); clear hv hb k3)
      | (go_at_call 10; refine (texts_any (HP.out.below B.out) (by omega)).mono ?_; rintro e w4 ⟨to, tc, rfl, hst, hb⟩; have ST := hide hst; replace AT := hide (AT.out.below hb); have s2 := AT.out.str bc; replace B := hide (bOn B.out hb); clear hst hb)
      | (go_at_call 9; refine (reftext_any tag ht0 ht1 to tc (lsOf ps) ST.out (by have := HLL.out; omega) (by simp [lsOf]; omega)).mono ?_; rintro e w5 ⟨rfl, hb⟩; rw [HL.out]; replace AT := hide (AT.out.below hb); have s3 := AT.out.str bc; replace B := hide (bOn B.out hb); clear hb)
      | (go_at_call 11; refine (of_any tag ht0 ht1 ao cap ps ⟨HP.out.below B.out, HN.out, by omega⟩ (by have := HLL.out; omega) (HT.out.below B.out)).mono ?_; rintro e w6 ⟨rfl, hb⟩; rw [HF.out]; replace AT := hide (AT.out.below hb); have s4 := AT.out.str bc; replace B := hide (bOn B.out hb); clear hb)
      | (go_at_call 12; refine (refof_any tag ht0 ht1 to tc (lsOf ps) ST.out HP.out.byt (by have := HLL.out; omega) (by simp [lsOf]; omega) (HT2.out.below B.out)).mono ?_; rintro e w7 ⟨rfl, hb⟩; rw [HF.out]; replace AT := hide (AT.out.below hb); have s5 := AT.out.str bc; replace B := hide (bOn B.out hb); clear hb))
    all_goals
      go_wp2
      go_ret
      exact ⟨rfl, B.out⟩
end Go.Proofs.YtgjckinihmbdeaaDoor
