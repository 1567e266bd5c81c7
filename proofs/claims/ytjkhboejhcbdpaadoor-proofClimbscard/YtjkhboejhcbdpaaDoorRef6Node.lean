/- The contract of sponsionref06.Node over this translation. -/
import Derived.Test.YtjkhboejhcbdpaaDoorRef6
import Derived.Test.YtjkhboejhcbdpaaDoorDomNode
namespace Go.Proofs.YtjkhboejhcbdpaaDoor
open Go.RowKit Go.Lib
attribute [local go_sem] setCell_drewN alloc_drewN

theorem two_strs (w : World) (l m : List Int) (t : TypeId) {g : Nat} (e : w.heap.size = g) : Strs (w.alloc (.cells #[.string (strOfNums l), .string (strOfNums m)] t)) (some ⟨g, 0, none⟩) [l, m] := by
  subst e
  refine .inr ⟨w.heap.size, 0, rfl, by simp, fun j r hr => ?_⟩
  have hj : j = 0 ∨ j = 1 := by have := (List.getElem?_eq_some_iff.1 hr).1; simp at this; omega
  rcases hj with rfl | rfl
  · simp at hr; subst hr
    rw [World.cell?_alloc_at _ _ _ _ rfl]; rfl
  · simp at hr; subst hr
    rw [World.cell?_alloc_at _ _ _ _ rfl]; rfl
theorem one_str (w : World) (l : List Int) (t : TypeId) {g : Nat} (e : w.heap.size = g) : Strs (w.alloc (.cells #[.string (strOfNums l)] t)) (some ⟨g, 0, none⟩) [l] := by
  subst e
  refine .inr ⟨w.heap.size, 0, rfl, by simp, fun j r hr => ?_⟩
  have hj : j = 0 := by have := (List.getElem?_eq_some_iff.1 hr).1; simp at this; omega
  subst hj
  simp at hr; subst hr
  rw [World.cell?_alloc_at _ _ _ _ rfl]; rfl
/-- A sum's bytes as a string. -/
theorem hash_str {w : World} {g : Nat} {f : Nat → Int} (h : BRow w g 32 f) : (convert 67 9 (.slice (some ⟨g, 0, none⟩) 32 32)).run Tryd.prog w = .ok (.string (strOfNums (h32 f))) w := by
  have := At.str (row_at h) 32
  rwa [show ((List.range 32).map f).length = 32 by simp] at this
set_option maxRecDepth 100000 in
set_option maxHeartbeats 4000000 in
theorem refnode_any {w : World} (f g : Nat → Int) (hf : ∀ j, 0 ≤ f j ∧ f j < 256) (hg : ∀ j, 0 ≤ g j ∧ g j < 256) (ht : Tab w 0) :
    Calls Tryd.prog 25 #[.agg (rowV 32 f).toArray, .agg (rowV 32 g).toArray] w fun e w' => e = .returned (.agg (rowV 32 (dnode f g)).toArray) ∧ Below w.heap.size w w' := by
  have HT := hide ht; have HF := hide hf; have HG := hide hg
  clear ht hf hg
  go_enter Tryd.func25, Tryd.ntmps25
  go_wp2_with fail
  have R1 := hide (((hash_new w f 28 rfl).past (.cells (rowV 32 g).toArray 28)).past (.cells #[.int .u8 0, .int .u8 0, .int .u8 0, .int .u8 0, .int .u8 0, .int .u8 0, .int .u8 0, .int .u8 0, .int .u8 0, .int .u8 0, .int .u8 0, .int .u8 0, .int .u8 0, .int .u8 0, .int .u8 0, .int .u8 0, .int .u8 0, .int .u8 0, .int .u8 0, .int .u8 0, .int .u8 0, .int .u8 0, .int .u8 0, .int .u8 0, .int .u8 0, .int .u8 0, .int .u8 0, .int .u8 0, .int .u8 0, .int .u8 0, .int .u8 0, .int .u8 0] 28))
  have R2 := hide ((hash_new (w.alloc (.cells (rowV 32 f).toArray 28)) g 28 (g := w.heap.size + 1) (by simp)).past (.cells #[.int .u8 0, .int .u8 0, .int .u8 0, .int .u8 0, .int .u8 0, .int .u8 0, .int .u8 0, .int .u8 0, .int .u8 0, .int .u8 0, .int .u8 0, .int .u8 0, .int .u8 0, .int .u8 0, .int .u8 0, .int .u8 0, .int .u8 0, .int .u8 0, .int .u8 0, .int .u8 0, .int .u8 0, .int .u8 0, .int .u8 0, .int .u8 0, .int .u8 0, .int .u8 0, .int .u8 0, .int .u8 0, .int .u8 0, .int .u8 0, .int .u8 0, .int .u8 0] 28))
  have R := hide (BRow.zeros32 ((w.alloc (.cells (rowV 32 f).toArray 28)).alloc (.cells (rowV 32 g).toArray 28)) (g := w.heap.size + 1 + 1) (by simp))
  have B : Hid (Below w.heap.size w (((w.alloc (.cells (rowV 32 f).toArray 28)).alloc (.cells (rowV 32 g).toArray 28)).alloc (.cells #[.int .u8 0, .int .u8 0, .int .u8 0, .int .u8 0, .int .u8 0, .int .u8 0, .int .u8 0, .int .u8 0, .int .u8 0, .int .u8 0, .int .u8 0, .int .u8 0, .int .u8 0, .int .u8 0, .int .u8 0, .int .u8 0, .int .u8 0, .int .u8 0, .int .u8 0, .int .u8 0, .int .u8 0, .int .u8 0, .int .u8 0, .int .u8 0, .int .u8 0, .int .u8 0, .int .u8 0, .int .u8 0, .int .u8 0, .int .u8 0, .int .u8 0, .int .u8 0] 28))) := bAl (bAl (bAl (bMe w)))
  have hz : (((w.alloc (.cells (rowV 32 f).toArray 28)).alloc (.cells (rowV 32 g).toArray 28)).alloc (.cells #[.int .u8 0, .int .u8 0, .int .u8 0, .int .u8 0, .int .u8 0, .int .u8 0, .int .u8 0, .int .u8 0, .int .u8 0, .int .u8 0, .int .u8 0, .int .u8 0, .int .u8 0, .int .u8 0, .int .u8 0, .int .u8 0, .int .u8 0, .int .u8 0, .int .u8 0, .int .u8 0, .int .u8 0, .int .u8 0, .int .u8 0, .int .u8 0, .int .u8 0, .int .u8 0, .int .u8 0, .int .u8 0, .int .u8 0, .int .u8 0, .int .u8 0, .int .u8 0] 28)).heap.size = w.heap.size + 1 + 1 + 1 := by simp
  generalize ((w.alloc (.cells (rowV 32 f).toArray 28)).alloc (.cells (rowV 32 g).toArray 28)).alloc (.cells #[.int .u8 0, .int .u8 0, .int .u8 0, .int .u8 0, .int .u8 0, .int .u8 0, .int .u8 0, .int .u8 0, .int .u8 0, .int .u8 0, .int .u8 0, .int .u8 0, .int .u8 0, .int .u8 0, .int .u8 0, .int .u8 0, .int .u8 0, .int .u8 0, .int .u8 0, .int .u8 0, .int .u8 0, .int .u8 0, .int .u8 0, .int .u8 0, .int .u8 0, .int .u8 0, .int .u8 0, .int .u8 0, .int .u8 0, .int .u8 0, .int .u8 0, .int .u8 0] 28) = w1 at *
  have s1 := hash_str (R1.out.after (bMe w1).drew rfl)
  have s2 := hash_str (R2.out.after (bMe w1).drew rfl)
  have H : Hid (Strs ((w1.alloc (.cells #[.string (strOfNums (h32 f)), .string (strOfNums (h32 g))] 9)).drew) (some ⟨w.heap.size + 1 + 1 + 1, 0, none⟩) [h32 f, h32 g]) := (two_strs w1 (h32 f) (h32 g) 9 hz).below (bMe _).drew
  replace R := hide ((R.out.past (.cells #[.string (strOfNums (h32 f)), .string (strOfNums (h32 g))] 9)).after (bMe _).drew rfl)
  replace B := hide (bAl (o := .cells #[.string (strOfNums (h32 f)), .string (strOfNums (h32 g))] 9) B.out).drew
  have HBY : Hid (∀ l ∈ [h32 f, h32 g], Byt l) := fun l hl => by
    simp at hl
    rcases hl with rfl | rfl
    · exact h32_byt HF.out
    · exact h32_byt HG.out
  have hlen : (dtext 1 [h32 f, h32 g]).length ≤ 100000 := by simp [dtext, ptexts, ptext, be_length, h32_length]
  clear R1 R2
  obtain ⟨F, hF⟩ : ∃ F, dnode f g = F := ⟨_, rfl⟩
  have HF2 := hide hF
  have hF2 : dsha 1 [h32 f, h32 g] = F := hF
  clear hF
  have HF3 := hide hF2
  clear hF2
  generalize h32 f = lf at *
  generalize h32 g = lg at *
  go_region_with (go_at_call 32; refine (refof_any 1 (by omega) (by omega) _ 2 [lf, lg] H.out HBY.out hlen (by simp) (HT.out.below B.out)).mono ?_; rintro e w2 ⟨rfl, hb⟩; replace R := hide (R.out.after hb rfl); replace B := hide (bOn B.out hb); clear hb H; rw [HF3.out]; have hst := R.out.storing (P := Tryd.prog) F; have hl32 := rowV_length 32 F)
  all_goals
    go_wp2
    refine bodyPost_ret (v := .agg (rowV 32 F).toArray) ?_ rfl ⟨by rw [HF2.out], setCells_below B.out (by omega) _ _⟩
    have hlv := run_loadVar_mid (P := Tryd.prog) _ _ _ _ _ _ (R.out.stored F).range Tryd.underlying28 rfl (info_hash32 _)
    exact results_one Tryd.results25 rfl hlv
end Go.Proofs.YtjkhboejhcbdpaaDoor
