/- The contract of domain.Node over this translation. -/
import Derived.Test.YtjkhboejhcbdpaaDoorDomSum
namespace Go.Proofs.YtjkhboejhcbdpaaDoor
open Go.RowKit Go.Lib
attribute [local go_sem] setCell_drewN alloc_drewN

/-- A sum's bytes. -/
def h32 (f : Nat → Int) : List Int := (List.range 32).map f
theorem h32_length (f : Nat → Int) : (h32 f).length = 32 := by simp [h32]
theorem h32_byt {f : Nat → Int} (h : ∀ j, 0 ≤ f j ∧ f j < 256) : Byt (h32 f) := by
  intro x hx; obtain ⟨j, _, rfl⟩ := List.mem_map.1 hx; exact h j
/-- The node of two sums. -/
def dnode (f g : Nat → Int) : Nat → Int := dsha 1 [h32 f, h32 g]
theorem hash_part {w : World} {g : Nat} {f : Nat → Int} (h : BRow w g 32 f) (hf : ∀ j, 0 ≤ f j ∧ f j < 256) : PtOk w ⟨some ⟨g, 0, none⟩, 32, h32 f⟩ :=
  ⟨row_at h, by simp [h32_length], by simp [maxLen], h32_byt hf⟩
set_option maxRecDepth 100000 in
set_option maxHeartbeats 4000000 in
theorem node_any {w : World} (f g : Nat → Int) (hf : ∀ j, 0 ≤ f j ∧ f j < 256) (hg : ∀ j, 0 ≤ g j ∧ g j < 256) (ht : Tab w 1) :
    Calls Tryd.prog 24 #[.agg (rowV 32 f).toArray, .agg (rowV 32 g).toArray] w fun e w' => e = .returned (.agg (rowV 32 (dnode f g)).toArray) ∧ Below w.heap.size w w' := by
  have HT := hide ht; have HF := hide hf; have HG := hide hg
  clear ht hf hg
  go_enter Tryd.func24, Tryd.ntmps24
  go_wp2_with fail
  have R1 := hide (((hash_new w f 28 rfl).past (.cells (rowV 32 g).toArray 28)).past (.cells #[.int .u8 0, .int .u8 0, .int .u8 0, .int .u8 0, .int .u8 0, .int .u8 0, .int .u8 0, .int .u8 0, .int .u8 0, .int .u8 0, .int .u8 0, .int .u8 0, .int .u8 0, .int .u8 0, .int .u8 0, .int .u8 0, .int .u8 0, .int .u8 0, .int .u8 0, .int .u8 0, .int .u8 0, .int .u8 0, .int .u8 0, .int .u8 0, .int .u8 0, .int .u8 0, .int .u8 0, .int .u8 0, .int .u8 0, .int .u8 0, .int .u8 0, .int .u8 0] 28))
  have R2 := hide ((hash_new (w.alloc (.cells (rowV 32 f).toArray 28)) g 28 (g := w.heap.size + 1) (by simp)).past (.cells #[.int .u8 0, .int .u8 0, .int .u8 0, .int .u8 0, .int .u8 0, .int .u8 0, .int .u8 0, .int .u8 0, .int .u8 0, .int .u8 0, .int .u8 0, .int .u8 0, .int .u8 0, .int .u8 0, .int .u8 0, .int .u8 0, .int .u8 0, .int .u8 0, .int .u8 0, .int .u8 0, .int .u8 0, .int .u8 0, .int .u8 0, .int .u8 0, .int .u8 0, .int .u8 0, .int .u8 0, .int .u8 0, .int .u8 0, .int .u8 0, .int .u8 0, .int .u8 0] 28))
  have R := hide (BRow.zeros32 ((w.alloc (.cells (rowV 32 f).toArray 28)).alloc (.cells (rowV 32 g).toArray 28)) (g := w.heap.size + 1 + 1) (by simp))
  have B : Hid (Below w.heap.size w (((w.alloc (.cells (rowV 32 f).toArray 28)).alloc (.cells (rowV 32 g).toArray 28)).alloc (.cells #[.int .u8 0, .int .u8 0, .int .u8 0, .int .u8 0, .int .u8 0, .int .u8 0, .int .u8 0, .int .u8 0, .int .u8 0, .int .u8 0, .int .u8 0, .int .u8 0, .int .u8 0, .int .u8 0, .int .u8 0, .int .u8 0, .int .u8 0, .int .u8 0, .int .u8 0, .int .u8 0, .int .u8 0, .int .u8 0, .int .u8 0, .int .u8 0, .int .u8 0, .int .u8 0, .int .u8 0, .int .u8 0, .int .u8 0, .int .u8 0, .int .u8 0, .int .u8 0] 28))) := bAl (bAl (bAl (bMe w)))
  have hz : (((w.alloc (.cells (rowV 32 f).toArray 28)).alloc (.cells (rowV 32 g).toArray 28)).alloc (.cells #[.int .u8 0, .int .u8 0, .int .u8 0, .int .u8 0, .int .u8 0, .int .u8 0, .int .u8 0, .int .u8 0, .int .u8 0, .int .u8 0, .int .u8 0, .int .u8 0, .int .u8 0, .int .u8 0, .int .u8 0, .int .u8 0, .int .u8 0, .int .u8 0, .int .u8 0, .int .u8 0, .int .u8 0, .int .u8 0, .int .u8 0, .int .u8 0, .int .u8 0, .int .u8 0, .int .u8 0, .int .u8 0, .int .u8 0, .int .u8 0, .int .u8 0, .int .u8 0] 28)).heap.size = w.heap.size + 1 + 1 + 1 := by simp
  generalize ((w.alloc (.cells (rowV 32 f).toArray 28)).alloc (.cells (rowV 32 g).toArray 28)).alloc (.cells #[.int .u8 0, .int .u8 0, .int .u8 0, .int .u8 0, .int .u8 0, .int .u8 0, .int .u8 0, .int .u8 0, .int .u8 0, .int .u8 0, .int .u8 0, .int .u8 0, .int .u8 0, .int .u8 0, .int .u8 0, .int .u8 0, .int .u8 0, .int .u8 0, .int .u8 0, .int .u8 0, .int .u8 0, .int .u8 0, .int .u8 0, .int .u8 0, .int .u8 0, .int .u8 0, .int .u8 0, .int .u8 0, .int .u8 0, .int .u8 0, .int .u8 0, .int .u8 0] 28) = w1 at *
  have H : Hid (Handed ((w1.alloc (.cells #[.slice (some ⟨w.heap.size, 0, none⟩) 32 32, .slice (some ⟨w.heap.size + 1, 0, none⟩) 32 32] 67)).drew) (some ⟨w.heap.size + 1 + 1 + 1, 0, none⟩) [⟨some ⟨w.heap.size, 0, none⟩, 32, h32 f⟩, ⟨some ⟨w.heap.size + 1, 0, none⟩, 32, h32 g⟩]) := by
    have h := two_parts ⟨some ⟨w.heap.size, 0, none⟩, 32, h32 f⟩ ⟨some ⟨w.heap.size + 1, 0, none⟩, 32, h32 g⟩ (hash_part R1.out HF.out) (hash_part R2.out HG.out) 67 hz
    simp only [h32_length] at h
    exact Handed.below ⟨h, fun q hq e => by simp at hq; rcases hq with rfl | rfl <;> simp at e, by simp⟩ (bMe _).drew
  replace R := hide ((R.out.past (.cells #[.slice (some ⟨w.heap.size, 0, none⟩) 32 32, .slice (some ⟨w.heap.size + 1, 0, none⟩) 32 32] 67)).after (bMe _).drew rfl)
  replace B := hide (bAl (o := .cells #[.slice (some ⟨w.heap.size, 0, none⟩) 32 32, .slice (some ⟨w.heap.size + 1, 0, none⟩) 32 32] 67) B.out).drew
  clear R1 R2
  go_region_with (go_at_call 31; refine (of_any 1 (by omega) (by omega) _ 2 [⟨some ⟨w.heap.size, 0, none⟩, 32, h32 f⟩, ⟨some ⟨w.heap.size + 1, 0, none⟩, 32, h32 g⟩] H.out (by simp [dtext, lsOf, ptexts, ptext, be_length, h32_length]) (HT.out.below B.out)).mono ?_; rintro e w2 ⟨rfl, hb⟩; replace R := hide (R.out.after hb rfl); replace B := hide (bOn B.out hb); clear hb H; obtain ⟨F, hF⟩ : ∃ F, dsha 1 (lsOf [⟨some ⟨w.heap.size, 0, none⟩, 32, h32 f⟩, ⟨some ⟨w.heap.size + 1, 0, none⟩, 32, h32 g⟩]) = F := ⟨_, rfl⟩; rw [hF]; have HF2 : Hid (dnode f g = F) := hF; clear hF; have hst := R.out.storing (P := Tryd.prog) F; have hl32 := rowV_length 32 F)
  all_goals
    go_wp2
    refine bodyPost_ret (v := .agg (rowV 32 F).toArray) ?_ rfl ⟨by rw [HF2.out], setCells_below B.out (by omega) _ _⟩
    have hlv := run_loadVar_mid (P := Tryd.prog) _ _ _ _ _ _ (R.out.stored F).range Tryd.underlying28 rfl (info_hash32 _)
    exact results_one Tryd.results24 rfl hlv
end Go.Proofs.YtjkhboejhcbdpaaDoor
