/- The walk of sponsionlaw05.DigestSums over this translation. -/
import Derived.Test.YthfijigjpaidaaaDoorRef5Walk
import Derived.Test.YthfijigjpaidaaaDoorDigLives
import Derived.Test.YthfijigjpaidaaaDoorHashEq
import Derived.Laws.BytesArg
namespace Go.Proofs.YthfijigjpaidaaaDoor
open Go.RowKit Go.Lib
attribute [local go_sem] setCell_drewN alloc_drewN eqHash sameH_self

/-- Bytes as a string. -/
theorem At.str5 {w : World} {ao : Option Addr} {l : List Int} (h : At w ao l) (cap : Nat) : (convert 22 9 (.slice ao l.length cap)).run Tryd.prog w = .ok (.string (strOfNums l)) w := by
  rcases h with rfl | ⟨b, off, rfl, hl, hc⟩
  · cases ao with
    | none => exact run_convert_bytes_nil w 22 5 Tryd.underlying22 Tryd.underlying5 0 cap 9 Tryd.underlying9
    | some a =>
      rw [run_convert_bytes_string w _ _ 5 _ _ cap Tryd.underlying22 Tryd.underlying5 Tryd.underlying9]
      exact run_bytesToString w a 0 cap [] (run_loadCells_list (P := Tryd.prog) w a [] (fun j v hv => by simp at hv))
  · exact run_convert_bytes_arg w 22 5 Tryd.underlying22 Tryd.underlying5 b off l.length cap l rfl hc 9 Tryd.underlying9
set_option maxRecDepth 100000 in
set_option maxHeartbeats 8000000 in
theorem digestSums_walk (ao : Option Addr) (cap : Nat) (l : List Int) (w : World) (hb : l.length ≤ cap ∧ cap ≤ maxLen ∧ (ao = none → cap = 0) ∧ At w ao l ∧ Byt l) (ht : Tab w 1) (ht2 : Tab w 0) :
    Calls Tryd.prog 3 #[.slice ao l.length cap] w fun e w' => e = .returned (.bool true) ∧ Below w.heap.size w w' := by
  obtain ⟨h1, h2, h3, h4, h5⟩ := hb
  unfold maxLen at h2
  have hli : (l.length : Int) ≤ 9223372036854775807 := by omega
  have HT := hide ht; have HT2 := hide ht2; have HA := hide h4; have HB := hide h5; have HN := hide h3
  clear ht ht2 h3 h4 h5
  by_cases hlen : l.length ≤ 400
  · have hl4 : ¬ (400 : Int) < (l.length : Int) := by omega
    go_enter Tryd.func3, Tryd.ntmps3
    go_wp2_with fail
    refine (lives5_any w HT.out).mono ?_
    rintro e w1 ⟨rfl, hb1⟩
    have B := hide hb1
    clear hb1
    go_wp2_with (at_builtin; refine wpList_app rfl _ _ rfl (.slice (some ⟨w1.heap.size, 0, none⟩) 0 0) [] l _ _ _ rfl rfl rfl (empty5 w1) ((HA.out.below B.out).below (bAl (bMe w1))) HN.out (by simp; omega) (by simp) ?_)
    intro v2 w2 hb2 hg2 hn2
    replace B := hide (bOn B.out ((empty5 w1).grown (bAl (bMe w1)) (Nat.le_refl _) hg2))
    obtain ⟨ao2, cap2, rfl, k1, k2, k3⟩ := hb2.cell
    have HA2 := hide k3
    have P : Hid (PtOk w2 ⟨ao2, cap2, l⟩) := ⟨k3, k1, k2, HB.out⟩
    clear hb2 hg2 hn2 k3
    go_wp2_with fail
    refine (dsum_one ao2 cap2 l P.out (by omega) (HT.out.below B.out) 22 (g := w2.heap.size) rfl).mono ?_
    rintro e w3 ⟨rfl, hb3⟩
    replace B := hide (bOn B.out hb3)
    replace HA2 := hide (HA2.out.below hb3)
    clear hb3 P
    go_wp2_with fail
    refine (refsum_any ao cap l (HA.out.below B.out) HN.out (by omega) HB.out (HT2.out.below B.out)).mono ?_
    rintro e w4 ⟨rfl, hb4⟩
    replace B := hide (bOn B.out hb4)
    have s1 := (HA2.out.below hb4).str5 cap2
    have s2 := (HA.out.below B.out).str5 cap
    clear hb4 HA2
    generalize sha l = F at *
    generalize strOfNums l = st at *
    go_wp2
    go_ret
    exact ⟨rfl, B.out⟩
  · have hl4 : (400 : Int) < (l.length : Int) := by omega
    go_enter Tryd.func3, Tryd.ntmps3
    go_wp2_with fail
    refine (lives5_any w HT.out).mono ?_
    rintro e w1 ⟨rfl, hb1⟩
    have B := hide hb1
    clear hb1
    go_wp2_with fail
    refine (lives5_any w1 (HT.out.below B.out)).mono ?_
    rintro e w2 ⟨rfl, hb2⟩
    replace B := hide (bOn B.out hb2)
    clear hb2
    go_wp2
    go_ret
    exact ⟨rfl, B.out⟩
end Go.Proofs.YthfijigjpaidaaaDoor
