/- Contracts of digest's (*State).Add and Sum over this translation: sums of parts. -/
import Derived.Test.YtjkhboejhcbdpaaDoorDigSum
import Derived.Test.YtjkhboejhcbdpaaDoorPrts
namespace Go.Proofs.YtjkhboejhcbdpaaDoor
open Go.RowKit Go.Lib
attribute [local go_sem] setCell_drewN alloc_drewN

/-- Neither the row nor a part lies in block g. -/
def POff (ao : Option Addr) (ps : List Prt) (g : Nat) : Prop := (ps = [] ∨ ∀ a, ao = some a → a.block ≠ g) ∧ ∀ p ∈ ps, Off p.ao p.l g
theorem Parts.off {w : World} {ao : Option Addr} {ps : List Prt} {g : Nat} (h : Parts w ao ps) (hg : w.heap.size ≤ g) : POff ao ps g := by
  rcases h with rfl | ⟨b, off, rfl, hl, hc⟩
  · exact ⟨.inl rfl, fun p hp => by simp at hp⟩
  · refine ⟨.inr (fun a e => by cases e; show b ≠ g; omega), fun p hp => ?_⟩
    obtain ⟨j, hj⟩ := List.getElem?_of_mem hp
    exact (hc j p hj).2.lies.off hg
set_option maxRecDepth 100000 in
set_option maxHeartbeats 8000000 in
theorem adds_any {w : World} {g : Nat} {l : List Int} {bl : Nat → Int} (hs : SS w g l bl) (ao : Option Addr) (cap : Nat) (ps : List Prt) (hp : Parts w ao ps) (ho : POff ao ps g) (hby : Byt (l ++ cat ps)) (hbl : ∀ j, 0 ≤ bl j ∧ bl j < 256) (hlen : l.length + (cat ps).length ≤ 900000) (hps : ps.length ≤ 1000000) (ht : Tab w 1) (hg : 1 ≠ g) :
    Calls Tryd.prog 38 #[.pointer (some ⟨g, 0, none⟩), .slice ao ps.length cap] w fun e w' => e = .returned (.pointer (some ⟨g, 0, none⟩)) ∧ (∃ bl', SS w' g (l ++ cat ps) bl' ∧ ∀ j, 0 ≤ bl' j ∧ bl' j < 256) ∧ Bar g w w' := by
  have HS := hide hs; have HP := hide hp; have HO := hide ho; have HBY := hide hby; have HBL := hide hbl; have HT := hide ht; have HG := hide hg; have HLEN := hide hlen
  have hpsi : (ps.length : Int) ≤ 1000000 := by omega
  clear hs hp ho hby hbl ht hg hlen
  go_enter Tryd.func38, Tryd.ntmps38
  go_wp2
  go_loopg [9] ps.length (fun gk t wr => ∃ (k : Nat) (bl' : Nat → Int), gk + k = ps.length ∧ t = .int .i64 k ∧ SS wr g (l ++ cat (ps.take k)) bl' ∧ Hid (∀ j, 0 ≤ bl' j ∧ bl' j < 256) ∧ Bar g w wr)
  case atStart => exact ⟨0, bl, by omega, rfl, by simpa [cat] using HS.out, HBL, Bar.refl _ _⟩
  case round =>
    clear HS HBL
    obtain ⟨k, bl', hk, rfl, hs, HBL, hb⟩ := hrel
    have HS := hide hs; have B := hide hb; have HK := hide hk
    clear hs hb hk
    by_cases hlt : k < ps.length
    · have hki : (k : Int) < (ps.length : Int) := by omega
      obtain ⟨p, hp⟩ : ∃ p, ps[k]? = some p := ⟨ps[k], by simp [hlt]⟩
      have HPK := hide hp
      rcases HP.out with h0 | ⟨b, off, rfl, hl, hc⟩
      · rw [h0] at hlt; simp at hlt
      obtain ⟨hcell, hok⟩ := hc k p hp
      have hbg : b ≠ g := by
        rcases HO.out.1 with h0 | h
        · rw [h0] at hlt; simp at hlt
        · exact h ⟨b, off, none⟩ rfl
      have hoff : Off p.ao p.l g := HO.out.2 p (List.mem_of_getElem? hp)
      have ck : wr.cell? ⟨b, off + k, none⟩ = some (.slice p.ao p.l.length p.cap) := (World.cell?_of_block (w := w) (a := ⟨b, off + k, none⟩) (B.out.block b hl hbg)).trans hcell
      have HOK := hide hok; have HOF := hide hoff
      have hcat := cat_split ps (k + 1)
      rw [cat_snoc ps k p hp] at hcat
      have hl2 : (l ++ cat (ps.take k)).length + p.l.length ≤ 1000000 := by
        have h1 := HLEN.out
        rw [hcat] at h1
        simp at h1 ⊢
        omega
      have hby2 : Byt ((l ++ cat (ps.take k)) ++ p.l) := by
        intro x hx
        refine HBY.out x ?_
        rw [hcat, ← List.append_assoc, ← List.append_assoc]
        exact List.mem_append_left _ hx
      have HL2 := hide hl2; have HB2 := hide hby2
      clear hcell hok hc hp hcat hl2 hby2 hoff hbg hl HP HO
      obtain ⟨pa, pc, pl⟩ := p
      simp only [] at ck
      go_wp2_with fail
      refine (add1_any HS.out pa pc pl (HOK.out.lies.bar B.out HOF.out) HOF.out HOK.out.len HOK.out.cap HB2.out HBL.out HL2.out (HT.out.bar B.out HG.out) HG.out).mono ?_
      rintro e w2 ⟨rfl, ⟨bl2, hs2, hbl2⟩, hb2⟩
      have S2 := hide hs2; have B2 := hide (B.out.trans hb2); have HBL2 := hide hbl2
      clear hs2 hb2 hbl2
      go_wp2
      go_roundg (ps.length - k - 1)
      case measure => have := HK.out; omega
      case rel =>
        refine ⟨k + 1, bl2, by omega, by go_num, ?_, HBL2, B2.out⟩
        rw [cat_snoc ps k _ HPK.out, ← List.append_assoc]
        exact S2.out
    · obtain rfl : k = ps.length := by have := HK.out; omega
      rw [List.take_length] at HS
      go_wp2
      go_ret
      exact ⟨rfl, ⟨bl', HS.out, HBL.out⟩, B.out⟩
set_option maxRecDepth 100000 in
set_option maxHeartbeats 8000000 in
theorem dsum_any {w : World} (ao : Option Addr) (cap : Nat) (ps : List Prt) (hp : Parts w ao ps) (hby : Byt (cat ps)) (hlen : (cat ps).length ≤ 900000) (hps : ps.length ≤ 1000000) (ht : Tab w 1) :
    Calls Tryd.prog 33 #[.slice ao ps.length cap] w fun e w' => e = .returned (.agg (rowV 32 (sha (cat ps))).toArray) ∧ Below w.heap.size w w' := by
  have HP := hide hp; have HBY := hide hby; have HT := hide ht
  clear hp hby ht
  have R := hide (BRow.zeros32 w (g := w.heap.size) rfl)
  have B : Hid (Below w.heap.size w (w.alloc (.cells #[.int .u8 0, .int .u8 0, .int .u8 0, .int .u8 0, .int .u8 0, .int .u8 0, .int .u8 0, .int .u8 0, .int .u8 0, .int .u8 0, .int .u8 0, .int .u8 0, .int .u8 0, .int .u8 0, .int .u8 0, .int .u8 0, .int .u8 0, .int .u8 0, .int .u8 0, .int .u8 0, .int .u8 0, .int .u8 0, .int .u8 0, .int .u8 0, .int .u8 0, .int .u8 0, .int .u8 0, .int .u8 0, .int .u8 0, .int .u8 0, .int .u8 0, .int .u8 0] 28))) := bAl (bMe w)
  go_enter Tryd.func33, Tryd.ntmps33
  go_wp2_with fail
  generalize w.alloc (.cells #[.int .u8 0, .int .u8 0, .int .u8 0, .int .u8 0, .int .u8 0, .int .u8 0, .int .u8 0, .int .u8 0, .int .u8 0, .int .u8 0, .int .u8 0, .int .u8 0, .int .u8 0, .int .u8 0, .int .u8 0, .int .u8 0, .int .u8 0, .int .u8 0, .int .u8 0, .int .u8 0, .int .u8 0, .int .u8 0, .int .u8 0, .int .u8 0, .int .u8 0, .int .u8 0, .int .u8 0, .int .u8 0, .int .u8 0, .int .u8 0, .int .u8 0, .int .u8 0] 28) = w1 at *
  refine (new_any w1).mono ?_
  rintro e w2 ⟨rfl, hs, hb⟩
  have S := hide hs
  have B2 := hide (bOn B.out hb)
  have HPO := hide ((HP.out.below B.out).off (g := w1.heap.size) (Nat.le_refl _))
  have hg : Hid (1 ≠ w1.heap.size) := by have := (HT.out.below B.out).1; show _ ≠ _; omega
  have hgw : Hid (w.heap.size < w1.heap.size) := R.out.lt
  replace R := hide (R.out.after hb rfl)
  clear hs hb B
  generalize w1.heap.size = g at *
  go_wp2_with fail
  refine (adds_any S.out ao cap ps (HP.out.below B2.out) HPO.out (by simpa using HBY.out) (fun _ => by omega) (by simpa using hlen) hps (HT.out.below B2.out) hg.out).mono ?_
  rintro e w3 ⟨rfl, ⟨bl3, hs3, hbl3⟩, hb3⟩
  rw [List.nil_append] at hs3
  have S3 := hide hs3; have HBL3 := hide hbl3
  replace R := hide (R.out.of hb3.size (hb3.block _ R.out.lt (by have := hgw.out; omega)))
  have B3 := hide (hb3.below B2.out (by have := hgw.out; omega) B2.out.size)
  clear hs3 hbl3 hb3 B2 S
  go_wp2_with fail
  refine (ssum_any S3.out HBY.out HBL3.out hlen (HT.out.below B3.out)).mono ?_
  rintro e w4 ⟨rfl, hb4⟩
  replace R := hide (R.out.after hb4 rfl)
  have B4 := hide (bOn B3.out hb4)
  clear hb4 S3 B3
  obtain ⟨F, hF⟩ : ∃ F, sha (cat ps) = F := ⟨_, rfl⟩
  rw [hF]
  have HF := hide hF
  clear hF
  go_wp2_with (refine wpList_store_mid rfl 28 _ _ rfl w.heap.size 0 (rowV 32 F).toArray rfl rfl (R.out.thereA _) (info_hash32A _) (rowV_oneA _ _) ?_)
  refine bodyPost_ret (v := .agg (rowV 32 F).toArray) ?_ rfl ⟨by rw [HF.out], setCells_below B4.out (Nat.le_refl _) _ _⟩
  have hlv := run_loadVar_mid (P := Tryd.prog) _ _ _ _ _ _ (R.out.stored F).range Tryd.underlying28 rfl (info_hash32 _)
  exact results_one Tryd.results33 rfl hlv
end Go.Proofs.YtjkhboejhcbdpaaDoor
