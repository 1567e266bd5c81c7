/- Contracts of domain's Of, Leaf and Node over this translation. -/
import Derived.Test.YtjkhboejhcbdpaaDoorDomText
import Derived.Test.YtjkhboejhcbdpaaDoorDigLives
import Derived.Deep.RegionHeld3
namespace Go.Proofs.YtjkhboejhcbdpaaDoor
open Go.RowKit Go.Lib
attribute [local go_sem] setCell_drewN alloc_drewN

/-- What is so of parts that are handed in. -/
structure Handed (w : World) (ao : Option Addr) (ps : List Prt) : Prop where
  parts : Parts w ao ps
  nils : ∀ q ∈ ps, q.ao = none → q.cap = 0
  few : ps.length ≤ 900000
theorem Handed.below {w w' : World} {ao : Option Addr} {ps : List Prt} (h : Handed w ao ps) (hb : Below w.heap.size w w') : Handed w' ao ps := ⟨h.parts.below hb, h.nils, h.few⟩
theorem Handed.none (w : World) : Handed w none [] := ⟨.inl rfl, fun q hq => by simp at hq, by simp⟩
theorem Parts.byt {w : World} {ao : Option Addr} {ps : List Prt} (h : Parts w ao ps) : ∀ l ∈ lsOf ps, Byt l := by
  intro l hl
  obtain ⟨p, hp, rfl⟩ := List.mem_map.1 hl
  rcases h with rfl | ⟨b, off, e, hlt, hc⟩
  · simp at hp
  · obtain ⟨j, hj⟩ := List.getElem?_of_mem hp
    exact (hc j p hj).2.byt
/-- The sum of a text. -/
def dsha (tag : Int) (ls : List (List Int)) : Nat → Int := sha (dtext tag ls)
set_option maxRecDepth 100000 in
set_option maxHeartbeats 4000000 in
theorem of_any {w : World} (tag : Int) (ht0 : 0 ≤ tag) (ht1 : tag < 256) (ao : Option Addr) (cap : Nat) (ps : List Prt) (hp : Handed w ao ps) (hlen : (dtext tag (lsOf ps)).length ≤ 900000) (ht : Tab w 1) :
    Calls Tryd.prog 31 #[.int .u8 tag, .slice ao ps.length cap] w fun e w' => e = .returned (.agg (rowV 32 (dsha tag (lsOf ps))).toArray) ∧ Below w.heap.size w w' := by
  have HP := hide hp; have HT := hide ht
  clear hp ht
  have R := hide (BRow.zeros32 w (g := w.heap.size) rfl)
  have B : Hid (Below w.heap.size w (w.alloc (.cells #[.int .u8 0, .int .u8 0, .int .u8 0, .int .u8 0, .int .u8 0, .int .u8 0, .int .u8 0, .int .u8 0, .int .u8 0, .int .u8 0, .int .u8 0, .int .u8 0, .int .u8 0, .int .u8 0, .int .u8 0, .int .u8 0, .int .u8 0, .int .u8 0, .int .u8 0, .int .u8 0, .int .u8 0, .int .u8 0, .int .u8 0, .int .u8 0, .int .u8 0, .int .u8 0, .int .u8 0, .int .u8 0, .int .u8 0, .int .u8 0, .int .u8 0, .int .u8 0] 28))) := bAl (bMe w)
  go_enter Tryd.func31, Tryd.ntmps31
  go_wp2_with fail
  generalize w.alloc (.cells #[.int .u8 0, .int .u8 0, .int .u8 0, .int .u8 0, .int .u8 0, .int .u8 0, .int .u8 0, .int .u8 0, .int .u8 0, .int .u8 0, .int .u8 0, .int .u8 0, .int .u8 0, .int .u8 0, .int .u8 0, .int .u8 0, .int .u8 0, .int .u8 0, .int .u8 0, .int .u8 0, .int .u8 0, .int .u8 0, .int .u8 0, .int .u8 0, .int .u8 0, .int .u8 0, .int .u8 0, .int .u8 0, .int .u8 0, .int .u8 0, .int .u8 0, .int .u8 0] 28) = w1 at *
  refine (text_any tag ht0 ht1 ao cap ps (HP.out.below B.out).parts HP.out.nils hlen HP.out.few).mono ?_
  rintro e w2 ⟨v, rfl, hv, hb⟩
  obtain ⟨bo, bc, rfl, k1, k2, k3⟩ := hv.cell
  have P : Hid (PtOk w2 ⟨bo, bc, dtext tag (lsOf ps)⟩) := ⟨k3, k1, k2, dtext_byt HP.out.parts.byt⟩
  replace R := hide (R.out.after hb rfl)
  replace B := hide (bOn B.out hb)
  clear hv hb k1 k2 k3
  obtain ⟨L, hL⟩ : ∃ L, dtext tag (lsOf ps) = L := ⟨_, rfl⟩
  rw [hL] at P hlen
  rw [hL]
  have HL := hide hL
  clear hL
  go_wp2_with fail
  refine (dsum_one bo bc L P.out hlen (HT.out.below B.out) 67 (g := w2.heap.size) rfl).mono ?_
  rintro e w3 ⟨rfl, hb⟩
  replace R := hide (R.out.after hb rfl)
  replace B := hide (bOn B.out hb)
  clear hb P
  obtain ⟨F, hF⟩ : ∃ F, sha L = F := ⟨_, rfl⟩
  rw [hF]
  have HF : Hid (dsha tag (lsOf ps) = F) := by show dsha _ _ = _; unfold dsha; rw [HL.out]; exact hF
  clear hF
  go_wp2_with (refine wpList_store_mid rfl 28 _ _ rfl w.heap.size 0 (rowV 32 F).toArray rfl rfl (R.out.thereA _) (info_hash32A _) (rowV_oneA _ _) ?_)
  refine bodyPost_ret (v := .agg (rowV 32 F).toArray) ?_ rfl ⟨by rw [HF.out], setCells_below B.out (Nat.le_refl _) _ _⟩
  have hlv := run_loadVar_mid (P := Tryd.prog) _ _ _ _ _ _ (R.out.stored F).range Tryd.underlying28 rfl (info_hash32 _)
  exact results_one Tryd.results31 rfl hlv
end Go.Proofs.YtjkhboejhcbdpaaDoor
