/- If two leaves climb from one place of a tree of a depth to one sum, by any proofs of that depth, then they are alike, or somewhere on the way two unlike pairs have one Node; for every depth, place, leaves and proofs. -/
import Derived.Test.YtjkhboejhcbdpaaDoorRows
import Derived.Test.YtjkhboejhcbdpaaDoorTie
import Derived.Test.YtjkhboejhcbdpaaDoorCards
import Derived.ProofKit
import Derived.LaidMore
import Derived.OpenShut
import Derived.Stop.Joined
import Derived.Stop.LaidErr
import Derived.Lib.LaidTab
import Derived.SevenTiedAt
import Derived.Test.YtjkhboejhcbdpaaDoorFramePf
import Derived.Test.YtjkhboejhcbdpaaDoorProofOneLaw
namespace Go.Proofs.YtjkhboejhcbdpaaDoor.proofOne
open Go.ChangeShapes Go.WideShapes Go.ChangeAt Go.RowKit
set_option linter.unusedVariables false

theorem own : ownKnob Tryd.prog.godebug = none := by kernel_rfl
theorem gv0 : Tryd.prog.globalNamed "sponsion/digest.roundNumbers" = some 1 := by kernel_rfl
theorem gt0 : (Tryd.prog.globals[1]?).map (·.type) = some 89 := by kernel_rfl
theorem cellsU : Tryd.prog.cellsOf 84 = 1 := by kernel_rfl
theorem cellsT : Tryd.prog.cellsOf 89 = 64 := by kernel_rfl
abbrev laidV : List (String × DataW Unit) := [("sponsion/digest.roundNumbers", Rows.laid_sponsion_digest_roundNumbers)]
theorem door_met (os : Os) (args : Array Value) : laidMetH Tryd.prog laidV ((World.doorLaid Tryd.prog 19 os).forCall (fun _ _ => 0) ⟨#[], args, []⟩).memory :=
  laidMetH_of_parts3 (fuel := 8) (laidMet_of_run' 8 (by kernel_rfl) (by kernel_rfl)) (by kernel_rfl) (by kernel_rfl)
abbrev witV : Array Value := #[.int .u8 0, .int .u64 0, .agg #[.int .u8 0, .int .u8 0, .int .u8 0, .int .u8 0, .int .u8 0, .int .u8 0, .int .u8 0, .int .u8 0, .int .u8 0, .int .u8 0, .int .u8 0, .int .u8 0, .int .u8 0, .int .u8 0, .int .u8 0, .int .u8 0, .int .u8 0, .int .u8 0, .int .u8 0, .int .u8 0, .int .u8 0, .int .u8 0, .int .u8 0, .int .u8 0, .int .u8 0, .int .u8 0, .int .u8 0, .int .u8 0, .int .u8 0, .int .u8 0, .int .u8 0, .int .u8 0], .agg #[.int .u8 0, .int .u8 0, .int .u8 0, .int .u8 0, .int .u8 0, .int .u8 0, .int .u8 0, .int .u8 0, .int .u8 0, .int .u8 0, .int .u8 0, .int .u8 0, .int .u8 0, .int .u8 0, .int .u8 0, .int .u8 0, .int .u8 0, .int .u8 0, .int .u8 0, .int .u8 0, .int .u8 0, .int .u8 0, .int .u8 0, .int .u8 0, .int .u8 0, .int .u8 0, .int .u8 0, .int .u8 0, .int .u8 0, .int .u8 0, .int .u8 0, .int .u8 0], .agg (Array.replicate 1024 (.int .u8 0)), .agg (Array.replicate 1024 (.int .u8 0))]
theorem ok_args (w : World) (base : Nat) : Input.okWide Tryd.checked.prog w .any base 6 ⟨#[], witV, []⟩ := by
  refine okWide_parts (fn := Tryd.f6) Tryd.func6 (by kernel_rfl) (by kernel_rfl) (fun j t v ht hv => ?_)
  rw [Tryd.params6] at ht
  match j, ht, hv with
  | 0, ht, hv => obtain rfl := Option.some.inj ht; obtain rfl := Option.some.inj hv; exact Value.okWide_of_okWideB (by kernel_rfl)
  | 1, ht, hv => obtain rfl := Option.some.inj ht; obtain rfl := Option.some.inj hv; exact Value.okWide_of_okWideB (by kernel_rfl)
  | 2, ht, hv => obtain rfl := Option.some.inj ht; obtain rfl := Option.some.inj hv; exact Value.okWide_of_okWideB (by kernel_rfl)
  | 3, ht, hv => obtain rfl := Option.some.inj ht; obtain rfl := Option.some.inj hv; exact Value.okWide_of_okWideB (by kernel_rfl)
  | 4, ht, hv => obtain rfl := Option.some.inj ht; obtain rfl := Option.some.inj hv; exact pf_wide w base
  | 5, ht, hv => obtain rfl := Option.some.inj ht; obtain rfl := Option.some.inj hv; exact pf_wide w base
  | j + 6, ht, _ => exact absurd ht (by simp)
set_option maxRecDepth 100000 in
theorem lifted (os : Os) (started : os.Started) (H : Type) (enc : TypeId × Value → H) :
    ReturnsInHanded {} Tryd.checked os 6 .any (fun w args => (Rows.proofOneSpec.pre enc Tryd.prog Tryd.f6 [] false w args ∧ laidMetH Tryd.prog laidV w) ∧ sizedMet enc Tryd.prog Tryd.f6 (OpenSpec.ofChange Rows.proofOneSpec) false w args)
      (Rows.proofOneSpec.post enc Tryd.prog Tryd.f6 false true false false) := by
  refine returnsInHanded_of_change_and (C := Tryd.checked) (X := fun w _ => laidMetH Tryd.prog laidV w) (fun _ _ _ hh h => h.of_heap hh) own started (by kernel_rfl) Tryd.func6
    (witness_parts (enc := enc) (C := Tryd.checked) (os := os) (X := fun w _ => laidMetH Tryd.prog laidV w) false (World.doorLaid Tryd.prog 19 os) witV 8 rfl (World.shaped_of_RefB (by kernel_rfl) (by kernel_rfl)) (ok_args _ _) (by kernel_rfl) (by kernel_rfl) (door_met os _)) ?_
  intro W base args ds gs before hval0 hW _ _ hL _
  have hval : ∀ (j : Nat) t v, Tryd.f6.params[j]? = some t → args[j]? = some v → Value.okWide Tryd.prog W .any base t v := hval0
  have hW' := hW
  obtain ⟨p, q, hA0, hV, rfl, hfz, hnd⟩ := hW
  have hA : DataW.TrodAll enc Tryd.prog W 0 (fun _ => true) true Tryd.f6.params.toList args.toList ds p := hA0
  rw [Tryd.params6] at hA hval
  obtain ⟨v0, vs0, d0, ds0, p0, q0, hargs, rfl, rfl, h0, r0⟩ := trodAll_cons hA
  obtain ⟨v1, vs1, d1, ds1, p1, q1, rfl, rfl, rfl, h1, r1⟩ := trodAll_cons r0
  obtain ⟨v2, vs2, d2, ds2, p2, q2, rfl, rfl, rfl, h2, r2⟩ := trodAll_cons r1
  obtain ⟨v3, vs3, d3, ds3, p3, q3, rfl, rfl, rfl, h3, r3⟩ := trodAll_cons r2
  obtain ⟨v4, vs4, d4, ds4, p4, q4, rfl, rfl, rfl, h4, r4⟩ := trodAll_cons r3
  obtain ⟨v5, vs5, d5, ds5, p5, q5, rfl, rfl, rfl, h5, r5⟩ := trodAll_cons r4
  obtain ⟨rfl, rfl, rfl⟩ := trodAll_nil r5
  obtain rfl : args = #[v0, v1, v2, v3, v4, v5] := by cases args; simp_all
  obtain ⟨rfl, rfl⟩ := trodVars_none hV
  obtain ⟨a0, rfl, rfl, rfl, bs0⟩ := open_int Tryd.underlying5 (hval 0 5 v0 rfl rfl) h0
  obtain ⟨a1, rfl, rfl, rfl, bs1⟩ := open_int Tryd.underlying23 (hval 1 23 v1 rfl rfl) h1
  have hlt2 : ∀ x ∈ p2, x.block < W.heap.size := DataW.TrodAll.lt (trodAll_mk1 h2)
  obtain ⟨f2, rfl, bs2⟩ := open_hash (hval 2 28 v2 rfl rfl) h2
  have hlt3 : ∀ x ∈ p3, x.block < W.heap.size := DataW.TrodAll.lt (trodAll_mk1 h3)
  obtain ⟨f3, rfl, bs3⟩ := open_hash (hval 3 28 v3 rfl rfl) h3
  have hlt4 : ∀ x ∈ p4, x.block < W.heap.size := DataW.TrodAll.lt (trodAll_mk1 h4)
  obtain ⟨P4, rfl, bs4⟩ := open_pf (hval 4 29 v4 rfl rfl) h4
  have hlt5 : ∀ x ∈ p5, x.block < W.heap.size := DataW.TrodAll.lt (trodAll_mk1 h5)
  obtain ⟨P5, rfl, bs5⟩ := open_pf (hval 5 29 v5 rfl rfl) h5
  clear hA0 hval0
  have hL1 := hL
  rw [MakeChecks.laidMetH_plain _ _ _ (by kernel_rfl)] at hL1
  have hL2 : laidMet Tryd.prog [("sponsion/digest.roundNumbers", Lib.tabData .u32 keysL)] W := hL1
  have T0 : Tab W 1 := by
    have h1 := Lib.tabIs_of_head gv0 gt0 Tryd.underlying89 Tryd.underlying84 cellsU cellsT (hL2)
    exact ⟨World.block_lt_of_cell? W _ (h1.cell gv0 0 (by decide)), fun j hj => h1.cell gv0 j hj⟩
  refine (proofOne_walk a0 a1 f2 f3 P4 P5 W bs0 bs1 bs2 bs3 bs4 bs5 T0).mono fun e W' ⟨he, hg⟩ => ?_
  subst he
  exact ⟨_, rfl, _, _, _, [], _, [], hW', trodAll_mk1 (shut_bool Tryd.underlying4 _), (trodAll_cons_mk (shut_int Tryd.underlying5 bs0) (trodAll_cons_mk (shut_int Tryd.underlying23 bs1) (trodAll_cons_mk (Below.trod laidOutT (by kernel_rfl) (of_decide_eq_true (by kernel_rfl)) h2 hg hlt2) (trodAll_cons_mk (Below.trod laidOutT (by kernel_rfl) (of_decide_eq_true (by kernel_rfl)) h3 hg hlt3) (trodAll_cons_mk (Below.trod laidOutT (by kernel_rfl) (of_decide_eq_true (by kernel_rfl)) h4 hg hlt4) (trodAll_cons_mk (Below.trod laidOutT (by kernel_rfl) (of_decide_eq_true (by kernel_rfl)) h5 hg hlt5) trodAll_mk0)))))), rfl, hg.frame _, fun h => by cases h⟩
theorem over : Rows.ProofOneSaid :=
  OpenClaim.holds_of_wide 6 Tryd.f6 rfl rfl rfl rfl rfl rfl rfl ⟨rfl, rfl, rfl, rfl, rfl⟩ rfl rfl rfl rfl rfl (by kernel_rfl) Tryd.func6 (by kernel_rfl)
    (of_decide_eq_true (by kernel_rfl)) (by unfold Func.isWrapper; first | (rw [if_pos (by decide +kernel)]; kernel_rfl) | (rw [if_neg (by decide +kernel)]; exact ⟨rfl, rfl⟩))
    (fun os started H enc _ => lifted os started H enc)
theorem proved : Rows.ProofOneCardSaid :=
  Claim7.holds_tied_plain_at .later [] [.data] true (true, "46e599d1456516926822b1da9353c5e9ffe3c5964b7b1e141a25023dcf4fb377") false
    over (fun _ h => by cases h) (by kernel_rfl) (fun _ h => by cases h) proofOne_row_tie rfl ⟨rfl, rfl⟩ (by kernel_rfl) rfl
    (fun f fn hf hfn => by
      obtain rfl : f = 6 := Option.some.inj ((show Tryd.prog.funcNamed "sponsion/sponsionlaw11.ProofOne" = some 6 by kernel_rfl).symm.trans hf) |>.symm
      obtain rfl : fn = Tryd.f6 := (Option.some.inj (Tryd.func6.symm.trans hfn)).symm
      exact ⟨by kernel_rfl, fun j t ht => by
        rw [Tryd.params6] at ht
        have hm : t ∈ [5, 23, 28, 28, 29, 29] := by simpa using Array.mem_of_getElem? ht
        have hall : ([5, 23, 28, 28, 29, 29].all fun u => !Tryd.prog.wantsStandIn u) = true := by kernel_rfl
        exact (show Tryd.prog.wantsStandIn t = false by simpa using List.all_eq_true.1 hall t hm)⟩)
    (by kernel_rfl)
#print axioms proved
end Go.Proofs.YtjkhboejhcbdpaaDoor.proofOne
