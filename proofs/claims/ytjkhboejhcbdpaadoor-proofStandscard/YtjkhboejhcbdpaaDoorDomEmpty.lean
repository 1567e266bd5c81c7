/- The contract of domain.Node over this translation. The contract of sponsionref06.Node over this translation. The contract of domain.Empty over this translation. -/
import Derived.Test.YtjkhboejhcbdpaaDoorDomSum
import Derived.Test.YtjkhboejhcbdpaaDoorRef6
/- The contract of domain.Node over this translation. -/
namespace Go.Proofs.YtjkhboejhcbdpaaDoor
open Go.RowKit Go.Lib
attribute [local go_sem] setCell_drewN alloc_drewN

/-- A sum's bytes. -/
def h32 (f : Nat → Int) : List Int := (List.range 32).map f
theorem h32_length (f : Nat → Int) : (h32 f).length = 32 := by simp [h32]
theorem h32_byt {f : Nat → Int} (h : ∀ j, 0 ≤ f j ∧ f j < 256) : Byt (h32 f) := by
  intro x hx; obtain ⟨j, _, rfl⟩ := List.mem_map.1 hx; exact h j
/-- The node of two sums. -/
def dnode (f g : Nat → Int) : Nat → Int := dsha 1 [h32 f, h32 g]
theorem hash_part {w : World} {g : Nat} {f : Nat → Int} (h : BRow w g 32 f) (hf : ∀ j, 0 ≤ f j ∧ f j < 256) : PtOk w ⟨some ⟨g, 0, none⟩, 32, h32 f⟩ :=
  ⟨row_at h, by simp [h32_length], by simp [maxLen], h32_byt hf⟩
set_option maxRecDepth 100000 in
set_option maxHeartbeats 4000000 in
theorem node_any {w : World} (f g : Nat → Int) (hf : ∀ j, 0 ≤ f j ∧ f j < 256) (hg : ∀ j, 0 ≤ g j ∧ g j < 256) (ht : Tab w 1) :
    Calls Tryd.prog 24 #[.agg (rowV 32 f).toArray, .agg (rowV 32 g).toArray] w fun e w' => e = .returned (.agg (rowV 32 (dnode f g)).toArray) ∧ Below w.heap.size w w' := by
  have HT := hide ht; have HF := hide hf; have HG := hide hg
  clear ht hf hg
  go_enter Tryd.func24, Tryd.ntmps24
  go_wp2_with fail
  have R1 := hide (((hash_new w f 28 rfl).past (.cells (rowV 32 g).toArray 28)).past (.cells #[.int .u8 0, .int .u8 0, .int .u8 0, .int .u8 0, .int .u8 0, .int .u8 0, .int .u8 0, .int .u8 0, .int .u8 0, .int .u8 0, .int .u8 0, .int .u8 0, .int .u8 0, .int .u8 0, .int .u8 0, .int .u8 0, .int .u8 0, .int .u8 0, .int .u8 0, .int .u8 0, .int .u8 0, .int .u8 0, .int .u8 0, .int .u8 0, .int .u8 0, .int .u8 0, .int .u8 0, .int .u8 0, .int .u8 0, .int .u8 0, .int .u8 0, .int .u8 0] 28))
  have R2 := hide ((hash_new (w.alloc (.cells (rowV 32 f).toArray 28)) g 28 (g := w.heap.size + 1) (by simp)).past (.cells #[.int .u8 0, .int .u8 0, .int .u8 0, .int .u8 0, .int .u8 0, .int .u8 0, .int .u8 0, .int .u8 0, .int .u8 0, .int .u8 0, .int .u8 0, .int .u8 0, .int .u8 0, .int .u8 0, .int .u8 0, .int .u8 0, .int .u8 0, .int .u8 0, .int .u8 0, .int .u8 0, .int .u8 0, .int .u8 0, .int .u8 0, .int .u8 0, .int .u8 0, .int .u8 0, .int .u8 0, .int .u8 0, .int .u8 0, .int .u8 0, .int .u8 0, .int .u8 0] 28))
  have R := hide (BRow.zeros32 ((w.alloc (.cells (rowV 32 f).toArray 28)).alloc (.cells (rowV 32 g).toArray 28)) (g := w.heap.size + 1 + 1) (by simp))
  have B : Hid (Below w.heap.size w (((w.alloc (.cells (rowV 32 f).toArray 28)).alloc (.cells (rowV 32 g).toArray 28)).alloc (.cells #[.int .u8 0, .int .u8 0, .int .u8 0, .int .u8 0, .int .u8 0, .int .u8 0, .int .u8 0, .int .u8 0, .int .u8 0, .int .u8 0, .int .u8 0, .int .u8 0, .int .u8 0, .int .u8 0, .int .u8 0, .int .u8 0, .int .u8 0, .int .u8 0, .int .u8 0, .int .u8 0, .int .u8 0, .int .u8 0, .int .u8 0, .int .u8 0, .int .u8 0, .int .u8 0, .int .u8 0, .int .u8 0, .int .u8 0, .int .u8 0, .int .u8 0, .int .u8 0] 28))) := bAl (bAl (bAl (bMe w)))
  have hz : (((w.alloc (.cells (rowV 32 f).toArray 28)).alloc (.cells (rowV 32 g).toArray 28)).alloc (.cells #[.int .u8 0, .int .u8 0, .int .u8 0, .int .u8 0, .int .u8 0, .int .u8 0, .int .u8 0, .int .u8 0, .int .u8 0, .int .u8 0, .int .u8 0, .int .u8 0, .int .u8 0, .int .u8 0, .int .u8 0, .int .u8 0, .int .u8 0, .int .u8 0, .int .u8 0, .int .u8 0, .int .u8 0, .int .u8 0, .int .u8 0, .int .u8 0, .int .u8 0, .int .u8 0, .int .u8 0, .int .u8 0, .int .u8 0, .int .u8 0, .int .u8 0, .int .u8 0] 28)).heap.size = w.heap.size + 1 + 1 + 1 := by simp
  generalize ((w.alloc (.cells (rowV 32 f).toArray 28)).alloc (.cells (rowV 32 g).toArray 28)).alloc (.cells #[.int .u8 0, .int .u8 0, .int .u8 0, .int .u8 0, .int .u8 0, .int .u8 0, .int .u8 0, .int .u8 0, .int .u8 0, .int .u8 0, .int .u8 0, .int .u8 0, .int .u8 0, .int .u8 0, .int .u8 0, .int .u8 0, .int .u8 0, .int .u8 0, .int .u8 0, .int .u8 0, .int .u8 0, .int .u8 0, .int .u8 0, .int .u8 0, .int .u8 0, .int .u8 0, .int .u8 0, .int .u8 0, .int .u8 0, .int .u8 0, .int .u8 0, .int .u8 0] 28) = w1 at *
  have H : Hid (Handed ((w1.alloc (.cells #[.slice (some ⟨w.heap.size, 0, none⟩) 32 32, .slice (some ⟨w.heap.size + 1, 0, none⟩) 32 32] 67)).drew) (some ⟨w.heap.size + 1 + 1 + 1, 0, none⟩) [⟨some ⟨w.heap.size, 0, none⟩, 32, h32 f⟩, ⟨some ⟨w.heap.size + 1, 0, none⟩, 32, h32 g⟩]) := by
    have h := two_parts ⟨some ⟨w.heap.size, 0, none⟩, 32, h32 f⟩ ⟨some ⟨w.heap.size + 1, 0, none⟩, 32, h32 g⟩ (hash_part R1.out HF.out) (hash_part R2.out HG.out) 67 hz
    simp only [h32_length] at h
    exact Handed.below ⟨h, fun q hq e => by simp at hq; rcases hq with rfl | rfl <;> simp at e, by simp⟩ (bMe _).drew
  replace R := hide ((R.out.past (.cells #[.slice (some ⟨w.heap.size, 0, none⟩) 32 32, .slice (some ⟨w.heap.size + 1, 0, none⟩) 32 32] 67)).after (bMe _).drew rfl)
  replace B := hide (bAl (o := .cells #[.slice (some ⟨w.heap.size, 0, none⟩) 32 32, .slice (some ⟨w.heap.size + 1, 0, none⟩) 32 32] 67) B.out).drew
  clear R1 R2
  go_region_with (go_at_call 31; refine (of_any 1 (by omega) (by omega) _ 2 [⟨some ⟨w.heap.size, 0, none⟩, 32, h32 f⟩, ⟨some ⟨w.heap.size + 1, 0, none⟩, 32, h32 g⟩] H.out (by simp [dtext, lsOf, ptexts, ptext, be_length, h32_length]) (HT.out.below B.out)).mono ?_; rintro e w2 ⟨rfl, hb⟩; replace R := hide (R.out.after hb rfl); replace B := hide (bOn B.out hb); clear hb H; obtain ⟨F, hF⟩ : ∃ F, dsha 1 (lsOf [⟨some ⟨w.heap.size, 0, none⟩, 32, h32 f⟩, ⟨some ⟨w.heap.size + 1, 0, none⟩, 32, h32 g⟩]) = F := ⟨_, rfl⟩; rw [hF]; have HF2 : Hid (dnode f g = F) := hF; clear hF; have hst := R.out.storing (P := Tryd.prog) F; have hl32 := rowV_length 32 F)
  all_goals
    go_wp2
    refine bodyPost_ret (v := .agg (rowV 32 F).toArray) ?_ rfl ⟨by rw [HF2.out], setCells_below B.out (by omega) _ _⟩
    have hlv := run_loadVar_mid (P := Tryd.prog) _ _ _ _ _ _ (R.out.stored F).range Tryd.underlying28 rfl (info_hash32 _)
    exact results_one Tryd.results24 rfl hlv
end Go.Proofs.YtjkhboejhcbdpaaDoor

/- The contract of sponsionref06.Node over this translation. -/
namespace Go.Proofs.YtjkhboejhcbdpaaDoor
open Go.RowKit Go.Lib
attribute [local go_sem] setCell_drewN alloc_drewN

theorem two_strs (w : World) (l m : List Int) (t : TypeId) {g : Nat} (e : w.heap.size = g) : Strs (w.alloc (.cells #[.string (strOfNums l), .string (strOfNums m)] t)) (some ⟨g, 0, none⟩) [l, m] := by
  subst e
  refine .inr ⟨w.heap.size, 0, rfl, by simp, fun j r hr => ?_⟩
  have hj : j = 0 ∨ j = 1 := by have := (List.getElem?_eq_some_iff.1 hr).1; simp at this; omega
  rcases hj with rfl | rfl
  · simp at hr; subst hr
    rw [World.cell?_alloc_at _ _ _ _ rfl]; rfl
  · simp at hr; subst hr
    rw [World.cell?_alloc_at _ _ _ _ rfl]; rfl
theorem one_str (w : World) (l : List Int) (t : TypeId) {g : Nat} (e : w.heap.size = g) : Strs (w.alloc (.cells #[.string (strOfNums l)] t)) (some ⟨g, 0, none⟩) [l] := by
  subst e
  refine .inr ⟨w.heap.size, 0, rfl, by simp, fun j r hr => ?_⟩
  have hj : j = 0 := by have := (List.getElem?_eq_some_iff.1 hr).1; simp at this; omega
  subst hj
  simp at hr; subst hr
  rw [World.cell?_alloc_at _ _ _ _ rfl]; rfl
/-- A sum's bytes as a string. -/
theorem hash_str {w : World} {g : Nat} {f : Nat → Int} (h : BRow w g 32 f) : (convert 67 9 (.slice (some ⟨g, 0, none⟩) 32 32)).run Tryd.prog w = .ok (.string (strOfNums (h32 f))) w := by
  have := At.str (row_at h) 32
  rwa [show ((List.range 32).map f).length = 32 by simp] at this
set_option maxRecDepth 100000 in
set_option maxHeartbeats 4000000 in
theorem refnode_any {w : World} (f g : Nat → Int) (hf : ∀ j, 0 ≤ f j ∧ f j < 256) (hg : ∀ j, 0 ≤ g j ∧ g j < 256) (ht : Tab w 0) :
    Calls Tryd.prog 25 #[.agg (rowV 32 f).toArray, .agg (rowV 32 g).toArray] w fun e w' => e = .returned (.agg (rowV 32 (dnode f g)).toArray) ∧ Below w.heap.size w w' := by
  have HT := hide ht; have HF := hide hf; have HG := hide hg
  clear ht hf hg
  go_enter Tryd.func25, Tryd.ntmps25
  go_wp2_with fail
  have R1 := hide (((hash_new w f 28 rfl).past (.cells (rowV 32 g).toArray 28)).past (.cells #[.int .u8 0, .int .u8 0, .int .u8 0, .int .u8 0, .int .u8 0, .int .u8 0, .int .u8 0, .int .u8 0, .int .u8 0, .int .u8 0, .int .u8 0, .int .u8 0, .int .u8 0, .int .u8 0, .int .u8 0, .int .u8 0, .int .u8 0, .int .u8 0, .int .u8 0, .int .u8 0, .int .u8 0, .int .u8 0, .int .u8 0, .int .u8 0, .int .u8 0, .int .u8 0, .int .u8 0, .int .u8 0, .int .u8 0, .int .u8 0, .int .u8 0, .int .u8 0] 28))
  have R2 := hide ((hash_new (w.alloc (.cells (rowV 32 f).toArray 28)) g 28 (g := w.heap.size + 1) (by simp)).past (.cells #[.int .u8 0, .int .u8 0, .int .u8 0, .int .u8 0, .int .u8 0, .int .u8 0, .int .u8 0, .int .u8 0, .int .u8 0, .int .u8 0, .int .u8 0, .int .u8 0, .int .u8 0, .int .u8 0, .int .u8 0, .int .u8 0, .int .u8 0, .int .u8 0, .int .u8 0, .int .u8 0, .int .u8 0, .int .u8 0, .int .u8 0, .int .u8 0, .int .u8 0, .int .u8 0, .int .u8 0, .int .u8 0, .int .u8 0, .int .u8 0, .int .u8 0, .int .u8 0] 28))
  have R := hide (BRow.zeros32 ((w.alloc (.cells (rowV 32 f).toArray 28)).alloc (.cells (rowV 32 g).toArray 28)) (g := w.heap.size + 1 + 1) (by simp))
  have B : Hid (Below w.heap.size w (((w.alloc (.cells (rowV 32 f).toArray 28)).alloc (.cells (rowV 32 g).toArray 28)).alloc (.cells #[.int .u8 0, .int .u8 0, .int .u8 0, .int .u8 0, .int .u8 0, .int .u8 0, .int .u8 0, .int .u8 0, .int .u8 0, .int .u8 0, .int .u8 0, .int .u8 0, .int .u8 0, .int .u8 0, .int .u8 0, .int .u8 0, .int .u8 0, .int .u8 0, .int .u8 0, .int .u8 0, .int .u8 0, .int .u8 0, .int .u8 0, .int .u8 0, .int .u8 0, .int .u8 0, .int .u8 0, .int .u8 0, .int .u8 0, .int .u8 0, .int .u8 0, .int .u8 0] 28))) := bAl (bAl (bAl (bMe w)))
  have hz : (((w.alloc (.cells (rowV 32 f).toArray 28)).alloc (.cells (rowV 32 g).toArray 28)).alloc (.cells #[.int .u8 0, .int .u8 0, .int .u8 0, .int .u8 0, .int .u8 0, .int .u8 0, .int .u8 0, .int .u8 0, .int .u8 0, .int .u8 0, .int .u8 0, .int .u8 0, .int .u8 0, .int .u8 0, .int .u8 0, .int .u8 0, .int .u8 0, .int .u8 0, .int .u8 0, .int .u8 0, .int .u8 0, .int .u8 0, .int .u8 0, .int .u8 0, .int .u8 0, .int .u8 0, .int .u8 0, .int .u8 0, .int .u8 0, .int .u8 0, .int .u8 0, .int .u8 0] 28)).heap.size = w.heap.size + 1 + 1 + 1 := by simp
  generalize ((w.alloc (.cells (rowV 32 f).toArray 28)).alloc (.cells (rowV 32 g).toArray 28)).alloc (.cells #[.int .u8 0, .int .u8 0, .int .u8 0, .int .u8 0, .int .u8 0, .int .u8 0, .int .u8 0, .int .u8 0, .int .u8 0, .int .u8 0, .int .u8 0, .int .u8 0, .int .u8 0, .int .u8 0, .int .u8 0, .int .u8 0, .int .u8 0, .int .u8 0, .int .u8 0, .int .u8 0, .int .u8 0, .int .u8 0, .int .u8 0, .int .u8 0, .int .u8 0, .int .u8 0, .int .u8 0, .int .u8 0, .int .u8 0, .int .u8 0, .int .u8 0, .int .u8 0] 28) = w1 at *
  have s1 := hash_str (R1.out.after (bMe w1).drew rfl)
  have s2 := hash_str (R2.out.after (bMe w1).drew rfl)
  have H : Hid (Strs ((w1.alloc (.cells #[.string (strOfNums (h32 f)), .string (strOfNums (h32 g))] 9)).drew) (some ⟨w.heap.size + 1 + 1 + 1, 0, none⟩) [h32 f, h32 g]) := (two_strs w1 (h32 f) (h32 g) 9 hz).below (bMe _).drew
  replace R := hide ((R.out.past (.cells #[.string (strOfNums (h32 f)), .string (strOfNums (h32 g))] 9)).after (bMe _).drew rfl)
  replace B := hide (bAl (o := .cells #[.string (strOfNums (h32 f)), .string (strOfNums (h32 g))] 9) B.out).drew
  have HBY : Hid (∀ l ∈ [h32 f, h32 g], Byt l) := fun l hl => by
    simp at hl
    rcases hl with rfl | rfl
    · exact h32_byt HF.out
    · exact h32_byt HG.out
  have hlen : (dtext 1 [h32 f, h32 g]).length ≤ 100000 := by simp [dtext, ptexts, ptext, be_length, h32_length]
  clear R1 R2
  obtain ⟨F, hF⟩ : ∃ F, dnode f g = F := ⟨_, rfl⟩
  have HF2 := hide hF
  have hF2 : dsha 1 [h32 f, h32 g] = F := hF
  clear hF
  have HF3 := hide hF2
  clear hF2
  generalize h32 f = lf at *
  generalize h32 g = lg at *
  go_region_with (go_at_call 32; refine (refof_any 1 (by omega) (by omega) _ 2 [lf, lg] H.out HBY.out hlen (by simp) (HT.out.below B.out)).mono ?_; rintro e w2 ⟨rfl, hb⟩; replace R := hide (R.out.after hb rfl); replace B := hide (bOn B.out hb); clear hb H; rw [HF3.out]; have hst := R.out.storing (P := Tryd.prog) F; have hl32 := rowV_length 32 F)
  all_goals
    go_wp2
    refine bodyPost_ret (v := .agg (rowV 32 F).toArray) ?_ rfl ⟨by rw [HF2.out], setCells_below B.out (by omega) _ _⟩
    have hlv := run_loadVar_mid (P := Tryd.prog) _ _ _ _ _ _ (R.out.stored F).range Tryd.underlying28 rfl (info_hash32 _)
    exact results_one Tryd.results25 rfl hlv
end Go.Proofs.YtjkhboejhcbdpaaDoor

/- The contract of domain.Empty over this translation. -/
namespace Go.Proofs.YtjkhboejhcbdpaaDoor
open Go.RowKit Go.Lib
attribute [local go_sem] setCell_drewN alloc_drewN

/-- The sum of a tree without leaves, of a level. -/
def demp : Nat → Nat → Int
  | 0 => dsha 2 []
  | k + 1 => dnode (demp k) (demp k)
theorem demp_next (k : Nat) : demp (k + 1) = dnode (demp k) (demp k) := rfl
theorem out8_bd (s : St8) (j : Nat) : 0 ≤ out8 s j ∧ out8 s j < 256 := by unfold out8; omega
theorem dsha_bd (tag : Int) (ls : List (List Int)) (j : Nat) : 0 ≤ dsha tag ls j ∧ dsha tag ls j < 256 := out8_bd _ j
theorem demp_bd : ∀ (k j : Nat), 0 ≤ demp k j ∧ demp k j < 256
  | 0, j => dsha_bd _ _ j
  | _ + 1, j => dsha_bd _ _ j
/-- A level, as it counts. -/
def lev (x : Int) : Nat := if x < 0 then 0 else if 32 < x then 32 else x.toNat
theorem lev_is (x : Int) : ∃ (k : Nat) (m : Int), k ≤ 32 ∧ lev x = k ∧ (if x < 0 then 0 else x) = m ∧ (if 32 < m then 32 else m) = (k : Int) := by
  unfold lev
  by_cases h : x < 0
  · exact ⟨0, 0, by omega, by rw [if_pos h], by rw [if_pos h], by simp⟩
  · by_cases h2 : 32 < x
    · exact ⟨32, x, by omega, by rw [if_neg h, if_pos h2], by rw [if_neg h], by rw [if_pos h2]; rfl⟩
    · exact ⟨x.toNat, x, by omega, by rw [if_neg h, if_neg h2], by rw [if_neg h], by rw [if_neg h2]; omega⟩
/-- What stands while levels are gone up. -/
structure EM (w0 w : World) (g : Nat) (F : Nat → Int) : Prop where
  res : BRow w w0.heap.size 32 (fun _ => 0)
  h : BRow w g 32 F
  lo : w0.heap.size < g
  below : Below w0.heap.size w0 w
theorem EM.after {w0 w w' : World} {g : Nat} {F : Nat → Int} (h : EM w0 w g F) (hb : Below w.heap.size w w') : EM w0 w' g F :=
  ⟨h.res.after hb rfl, h.h.after hb rfl, h.lo, bOn h.below hb⟩
theorem EM.put {w0 w : World} {g : Nat} {F : Nat → Int} (h : EM w0 w g F) (F' : Nat → Int) : EM w0 (w.setCells g 0 (rowV 32 F')) g F' :=
  ⟨h.res.of (by rw [setCells_size]; exact Nat.le_refl _) (setCells_block _ _ _ _ _ (by have := h.lo; omega)), h.h.stored F', h.lo, setCells_below h.below (by have := h.lo; omega) _ _⟩
set_option maxRecDepth 100000 in
set_option maxHeartbeats 4000000 in
theorem empty_any {w : World} (x : Int) (ht : Tab w 1) :
    Calls Tryd.prog 27 #[.int .i64 x] w fun e w' => e = .returned (.agg (rowV 32 (demp (lev x))).toArray) ∧ Below w.heap.size w w' := by
  have HT := hide ht
  clear ht
  have R := hide (BRow.zeros32 w (g := w.heap.size) rfl)
  have B : Hid (Below w.heap.size w (w.alloc (.cells #[.int .u8 0, .int .u8 0, .int .u8 0, .int .u8 0, .int .u8 0, .int .u8 0, .int .u8 0, .int .u8 0, .int .u8 0, .int .u8 0, .int .u8 0, .int .u8 0, .int .u8 0, .int .u8 0, .int .u8 0, .int .u8 0, .int .u8 0, .int .u8 0, .int .u8 0, .int .u8 0, .int .u8 0, .int .u8 0, .int .u8 0, .int .u8 0, .int .u8 0, .int .u8 0, .int .u8 0, .int .u8 0, .int .u8 0, .int .u8 0, .int .u8 0, .int .u8 0] 28))) := bAl (bMe w)
  obtain ⟨k, m, hk32, hk, hm1, hm2⟩ := lev_is x
  rw [hk]
  clear hk
  go_enter Tryd.func27, Tryd.ntmps27
  go_wp2_with fail
  generalize w.alloc (.cells #[.int .u8 0, .int .u8 0, .int .u8 0, .int .u8 0, .int .u8 0, .int .u8 0, .int .u8 0, .int .u8 0, .int .u8 0, .int .u8 0, .int .u8 0, .int .u8 0, .int .u8 0, .int .u8 0, .int .u8 0, .int .u8 0, .int .u8 0, .int .u8 0, .int .u8 0, .int .u8 0, .int .u8 0, .int .u8 0, .int .u8 0, .int .u8 0, .int .u8 0, .int .u8 0, .int .u8 0, .int .u8 0, .int .u8 0, .int .u8 0, .int .u8 0, .int .u8 0] 28) = w1 at *
  refine (of_any 2 (by omega) (by omega) none 0 [] (Handed.none w1) (by simp [dtext, lsOf, ptexts, be_length]) (HT.out.below B.out)).mono ?_
  rintro e w2 ⟨rfl, hb⟩
  replace R := hide (R.out.after hb rfl)
  replace B := hide (bOn B.out hb)
  clear hb
  obtain ⟨F, hF⟩ : ∃ F, dsha 2 (lsOf []) = F := ⟨_, rfl⟩
  rw [hF]
  have HF : Hid (demp 0 = F) := hF
  have hlo : Hid (w.heap.size < w2.heap.size) := R.out.lt
  have R2 := hide (BRow.zeros32 w2 (g := w2.heap.size) rfl)
  replace R := hide (R.out.past (.cells #[.int .u8 0, .int .u8 0, .int .u8 0, .int .u8 0, .int .u8 0, .int .u8 0, .int .u8 0, .int .u8 0, .int .u8 0, .int .u8 0, .int .u8 0, .int .u8 0, .int .u8 0, .int .u8 0, .int .u8 0, .int .u8 0, .int .u8 0, .int .u8 0, .int .u8 0, .int .u8 0, .int .u8 0, .int .u8 0, .int .u8 0, .int .u8 0, .int .u8 0, .int .u8 0, .int .u8 0, .int .u8 0, .int .u8 0, .int .u8 0, .int .u8 0, .int .u8 0] 28))
  replace B := hide (bAl (o := (.cells #[.int .u8 0, .int .u8 0, .int .u8 0, .int .u8 0, .int .u8 0, .int .u8 0, .int .u8 0, .int .u8 0, .int .u8 0, .int .u8 0, .int .u8 0, .int .u8 0, .int .u8 0, .int .u8 0, .int .u8 0, .int .u8 0, .int .u8 0, .int .u8 0, .int .u8 0, .int .u8 0, .int .u8 0, .int .u8 0, .int .u8 0, .int .u8 0, .int .u8 0, .int .u8 0, .int .u8 0, .int .u8 0, .int .u8 0, .int .u8 0, .int .u8 0, .int .u8 0] 28)) B.out)
  clear hF
  go_wp2_with (refine wpList_store_stop rfl 28 _ _ rfl w2.heap.size 0 (rowV 32 F) rfl rfl (R2.out.thereA F) (info_hash32A F) (rowV_oneA _ _) ?_)
  intro w3 hw3
  have E : Hid (EM w w3 w2.heap.size F) := by
    show EM _ _ _ _
    rw [hw3.out]
    exact EM.put ⟨R.out, R2.out, hlo.out, B.out⟩ F
  clear hw3 R R2 B hlo
  generalize w2.heap.size = g at *
  go_wp2
  go_loopg [8] k (fun gk t wr => ∃ j : Nat, gk + j = k ∧ t = .int .i64 j ∧ EM w wr g (demp j))
  case atStart => exact ⟨0, by omega, rfl, by rw [HF.out]; exact E.out⟩
  case round =>
    clear E HF
    obtain ⟨j, hj, rfl, he⟩ := hrel
    have E := hide he; have HJ := hide hj
    clear he hj
    by_cases hlt : j < k
    · have hji : (j : Int) < (k : Int) := by omega
      have HB := hide (demp_bd j)
      obtain ⟨F, hF⟩ : ∃ F, demp j = F := ⟨_, rfl⟩
      have HN : Hid (demp (j + 1) = dnode F F) := by show _ = _; rw [demp_next, hF]
      rw [hF] at E HB
      clear hF
      go_wp2_with (refine wpList_load_mid rfl 28 _ rfl g 0 rfl (rowV 32 F) _ E.out.h.range Tryd.underlying28 rfl (info_hash32 _) ?_)
      refine (node_any F F HB.out HB.out (HT.out.below E.out.below)).mono ?_
      rintro e w4 ⟨rfl, hb⟩
      replace E := hide (E.out.after hb)
      clear hb
      obtain ⟨N, hN⟩ : ∃ N, dnode F F = N := ⟨_, rfl⟩
      rw [hN] at HN
      rw [hN]
      clear hN
      go_wp2_with (refine wpList_store_stop rfl 28 _ _ rfl g 0 (rowV 32 N) rfl rfl (E.out.h.thereA N) (info_hash32A N) (rowV_oneA _ _) ?_)
      intro w5 hw5
      have E5 : Hid (EM w w5 g N) := by
        show EM _ _ _ _
        rw [hw5.out]; exact E.out.put N
      clear hw5 E
      go_wp2
      go_roundg (k - j - 1)
      case measure => have := HJ.out; omega
      case rel => exact ⟨j + 1, by omega, by go_num, by rw [HN.out]; exact E5.out⟩
    · obtain rfl : j = k := by have := HJ.out; omega
      obtain ⟨F, hF⟩ : ∃ F, demp j = F := ⟨_, rfl⟩
      have HF := hide hF
      rw [hF] at E
      clear hF
      go_wp2_with (first
        | refine wpList_load_mid rfl 28 _ rfl g 0 rfl (rowV 32 F) _ E.out.h.range Tryd.underlying28 rfl (info_hash32 _) ?_
        | refine wpList_store_mid rfl 28 _ _ rfl w.heap.size 0 (rowV 32 F).toArray rfl rfl (E.out.res.thereA _) (info_hash32A _) (rowV_oneA _ _) ?_)
      refine bodyPost_ret (v := .agg (rowV 32 F).toArray) ?_ rfl ⟨by rw [HF.out], setCells_below E.out.below (Nat.le_refl _) _ _⟩
      have hlv := run_loadVar_mid (P := Tryd.prog) _ _ _ _ _ _ (E.out.res.stored F).range Tryd.underlying28 rfl (info_hash32 _)
      exact results_one Tryd.results27 rfl hlv
end Go.Proofs.YtjkhboejhcbdpaaDoor
