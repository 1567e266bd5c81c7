/- Contracts of sponsionref06's Text and Of over this translation; rows of strings. The contract of sponsionref06.Node over this translation. The contract of sponsionref06.Empties over this translation. -/
import Derived.Test.YtlkmebimgpigjaaDoorDomSum
import Derived.Test.YtlkmebimgpigjaaDoorRef4
import Derived.Test.YtlkmebimgpigjaaDoorRef5Walk
import Derived.Lib.ConvBytes
import Derived.Test.YtlkmebimgpigjaaDoorDomNode
import Derived.Test.YtlkmebimgpigjaaDoorDomEmpty
import Derived.Test.YtlkmebimgpigjaaDoorHand
/- Contracts of sponsionref06's Text and Of over this translation; rows of strings. -/
namespace Go.Proofs.YtlkmebimgpigjaaDoor
open Go.RowKit Go.Lib
attribute [local go_sem] setCell_drewN alloc_drewN

/-- Texts in a row, at this address. -/
def Strs (w : World) (ao : Option Addr) (ls : List (List Int)) : Prop :=
  ls = [] ∨ ∃ b off, ao = some ⟨b, off, none⟩ ∧ b < w.heap.size ∧ ∀ j l, ls[j]? = some l → w.cell? ⟨b, off + j, none⟩ = some (.string (strOfNums l))
theorem Strs.below {w w' : World} {ao : Option Addr} {ls : List (List Int)} (h : Strs w ao ls) (hb : Below w.heap.size w w') : Strs w' ao ls := by
  rcases h with h | ⟨b, off, e, hl, hc⟩
  · exact .inl h
  · exact .inr ⟨b, off, e, Nat.lt_of_lt_of_le hl hb.size, fun j l hj => (hb.cell (p := ⟨b, off + j, none⟩) hl).trans (hc j l hj)⟩
theorem ptexts_split (ls : List (List Int)) (k : Nat) : ptexts ls = ptexts (ls.take k) ++ ptexts (ls.drop k) := by
  rw [← ptexts_app, List.take_append_drop]
theorem dtext_next (tag : Int) (ls : List (List Int)) (k : Nat) (l : List Int) (h : ls[k]? = some l) : dtext tag (ls.take (k + 1)) = (dtext tag (ls.take k) ++ be (l.length : Int) 4) ++ l := by
  unfold dtext
  rw [List.take_add_one, h]
  show be tag 1 ++ ptexts (ls.take k ++ [l]) = _
  rw [ptexts_snoc]
  unfold ptext
  simp
theorem dtext_cut (tag : Int) (ls : List (List Int)) (k : Nat) : dtext tag ls = dtext tag (ls.take k) ++ ptexts (ls.drop k) := by
  unfold dtext
  rw [List.append_assoc, ← ptexts_split]
theorem str_size (l : List Int) : (strOfNums l).size = l.length := strOfNums_size l
set_option maxHeartbeats 4000000 in
theorem reftext_any {w : World} (tag : Int) (ht0 : 0 ≤ tag) (ht1 : tag < 256) (ao : Option Addr) (cap : Nat) (ls : List (List Int)) (hs : Strs w ao ls) (hlen : (dtext tag ls).length ≤ 900000) (hls : ls.length ≤ 900000) :
    Calls Tryd.prog 34 #[.int .u8 tag, .slice ao ls.length cap] w fun e w' => e = .returned (.string (strOfNums (dtext tag ls))) ∧ Below w.heap.size w w' := by
  have HS := hide hs; have HLEN := hide hlen
  have hli : (ls.length : Int) ≤ 900000 := by omega
  clear hs hlen
  go_enter Tryd.func34, Tryd.ntmps34
  go_wp2_with fail
  refine (num_any tag 1 w ht0 (by omega) (by omega)).mono ?_
  rintro e w1 ⟨rfl, hb⟩
  have B := hide hb
  clear hb
  go_wp2
  go_loopg [5, 13] ls.length (fun gk t5 t wr => ∃ k : Nat, gk + k = ls.length ∧ t = .int .i64 k ∧ t5 = .string (strOfNums (dtext tag (ls.take k))) ∧ Below w.heap.size w wr)
  case atStart => exact ⟨0, by omega, rfl, by simp [dtext, ptexts], B.out⟩
  case round =>
    clear B
    obtain ⟨k, hk, rfl, rfl, hb⟩ := hrel
    have B := hide hb; have HK := hide hk
    clear hb hk
    by_cases hlt : k < ls.length
    · have hki : (k : Int) < (ls.length : Int) := by omega
      obtain ⟨l, hl⟩ : ∃ l, ls[k]? = some l := ⟨ls[k], by simp [hlt]⟩
      have HN := hide (dtext_next tag ls k l hl)
      have ck : ∃ b off, ao = some ⟨b, off, none⟩ ∧ wr.cell? ⟨b, off + k, none⟩ = some (.string (strOfNums l)) := by
        rcases HS.out with h0 | ⟨b, off, e, hlt2, hc⟩
        · rw [h0] at hlt; simp at hlt
        · exact ⟨b, off, e, (B.out.cell (p := ⟨b, off + k, none⟩) hlt2).trans (hc k l hl)⟩
      obtain ⟨b, off, rfl, ck⟩ := ck
      have hl2 : (dtext tag (ls.take k)).length + 4 + l.length ≤ 900000 := by
        have h1 := HLEN.out
        rw [dtext_cut tag ls (k + 1), HN.out] at h1
        simp [be_length] at h1 ⊢
        omega
      obtain ⟨L, hL⟩ : ∃ L, dtext tag (ls.take k) = L := ⟨_, rfl⟩
      rw [hL] at HN hl2
      rw [hL]
      have z1 : (strOfNums l).size = l.length := strOfNums_size l
      have z2 : (strOfNums L).size = L.length := strOfNums_size L
      have hll : (l.length : Int) ≤ 900000 := by omega
      clear hL hl
      go_wp2_with fail
      refine (num_any (l.length : Int) 4 wr (by omega) (by omega) (by omega)).mono ?_
      rintro e w2 ⟨rfl, hb2⟩
      have B2 := hide (bOn B.out hb2)
      clear hb2
      have z3 : (strOfNums (be (l.length : Int) 4)).size = 4 := by rw [strOfNums_size, be_length]
      have HST : Hid (strOfNums L ++ strOfNums (be (l.length : Int) 4) ++ strOfNums l = strOfNums (dtext tag (ls.take (k + 1)))) := by
        show _ = _
        rw [str_append, str_append, ← HN.out]
      go_wp2
      go_roundg (ls.length - k - 1)
      case measure => have := HK.out; omega
      case rel => exact ⟨k + 1, by omega, by go_num, by rw [← HST.out], B2.out⟩
    · obtain rfl : k = ls.length := by have := HK.out; omega
      rw [List.take_length]
      go_wp2
      go_ret
      exact ⟨rfl, B.out⟩
theorem getD_str (L : List Int) (hby : Byt L) (j : Nat) (hj : j < L.length) : (((strOfNums L).data.toList.getD j 0).toNat : Int) = L.getD j 0 := by
  rw [strOfNums_data]
  have h := hby.get j
  simp only [List.getD_eq_getElem?_getD, List.getElem?_map, List.getElem?_eq_getElem hj, Option.map_some, Option.getD_some] at h ⊢
  simp
  omega
theorem bytesWorld_below (w : World) (e : TypeId) (s : ByteArray) : Below w.heap.size w (bytesWorld w e s) :=
  ⟨rfl, rfl, rfl, by rw [bytesWorld_size]; omega, fun k hk => bytesWorld_at_old w e s k hk⟩
/-- A string as bytes: a new row. -/
theorem conv_new (w : World) (L : List Int) (hby : Byt L) : ∃ cap w', (convert 9 64 (.string (strOfNums L))).run Tryd.prog w = .ok (.slice (some ⟨w.heap.size, 0, none⟩) (strOfNums L).size cap) w' ∧ At w' (some ⟨w.heap.size, 0, none⟩) L ∧ Below w.heap.size w w' := by
  refine ⟨_, _, Go.Lib.run_convert_string_bytes w 9 64 5 (strOfNums L) Tryd.underlying9 Tryd.underlying64 Tryd.underlying5, ?_, bytesWorld_below w _ _⟩
  refine .inr ⟨_, _, rfl, by rw [bytesWorld_size]; omega, fun j hj => ?_⟩
  rw [Nat.zero_add, bytesWorld_cell w _ _ j (by rw [strOfNums_size]; exact hj), getD_str L hby j hj]
set_option maxRecDepth 100000 in
set_option maxHeartbeats 4000000 in
theorem refof_any {w : World} (tag : Int) (ht0 : 0 ≤ tag) (ht1 : tag < 256) (ao : Option Addr) (cap : Nat) (ls : List (List Int)) (hs : Strs w ao ls) (hby : ∀ l ∈ ls, Byt l) (hlen : (dtext tag ls).length ≤ 100000) (hls : ls.length ≤ 900000) (ht : Tab w 0) :
    Calls Tryd.prog 30 #[.int .u8 tag, .slice ao ls.length cap] w fun e w' => e = .returned (.agg (rowV 32 (dsha tag ls)).toArray) ∧ Below w.heap.size w w' := by
  have HS := hide hs; have HT := hide ht; have HBY := hide hby
  clear hs ht hby
  have R := hide (BRow.zeros32 w (g := w.heap.size) rfl)
  have B : Hid (Below w.heap.size w (w.alloc (.cells #[.int .u8 0, .int .u8 0, .int .u8 0, .int .u8 0, .int .u8 0, .int .u8 0, .int .u8 0, .int .u8 0, .int .u8 0, .int .u8 0, .int .u8 0, .int .u8 0, .int .u8 0, .int .u8 0, .int .u8 0, .int .u8 0, .int .u8 0, .int .u8 0, .int .u8 0, .int .u8 0, .int .u8 0, .int .u8 0, .int .u8 0, .int .u8 0, .int .u8 0, .int .u8 0, .int .u8 0, .int .u8 0, .int .u8 0, .int .u8 0, .int .u8 0, .int .u8 0] 32))) := bAl (bMe w)
  go_enter Tryd.func30, Tryd.ntmps30
  go_wp2_with fail
  generalize w.alloc (.cells #[.int .u8 0, .int .u8 0, .int .u8 0, .int .u8 0, .int .u8 0, .int .u8 0, .int .u8 0, .int .u8 0, .int .u8 0, .int .u8 0, .int .u8 0, .int .u8 0, .int .u8 0, .int .u8 0, .int .u8 0, .int .u8 0, .int .u8 0, .int .u8 0, .int .u8 0, .int .u8 0, .int .u8 0, .int .u8 0, .int .u8 0, .int .u8 0, .int .u8 0, .int .u8 0, .int .u8 0, .int .u8 0, .int .u8 0, .int .u8 0, .int .u8 0, .int .u8 0] 32) = w1 at *
  refine (reftext_any tag ht0 ht1 ao cap ls (HS.out.below B.out) (by omega) hls).mono ?_
  rintro e w2 ⟨rfl, hb⟩
  replace R := hide (R.out.after hb rfl)
  replace B := hide (bOn B.out hb)
  clear hb
  have HB : Hid (Byt (dtext tag ls)) := dtext_byt HBY.out
  obtain ⟨L, hL⟩ : ∃ L, dtext tag ls = L := ⟨_, rfl⟩
  rw [hL] at HB hlen
  rw [hL]
  have HL := hide hL
  clear hL
  obtain ⟨c3, w3, hcv, hat, hb3⟩ := conv_new w2 L HB.out
  rw [strOfNums_size] at hcv
  replace R := hide (R.out.after hb3 rfl)
  replace B := hide (bOn B.out hb3)
  have HA := hide hat
  clear hat hb3
  go_wp2_with fail
  refine (refsum_any (some ⟨w2.heap.size, 0, none⟩) c3 L HA.out (fun e => by simp at e) hlen HB.out (HT.out.below B.out)).mono ?_
  rintro e w4 ⟨rfl, hb⟩
  replace R := hide (R.out.after hb rfl)
  replace B := hide (bOn B.out hb)
  clear hb hcv
  obtain ⟨F, hF⟩ : ∃ F, sha L = F := ⟨_, rfl⟩
  rw [hF]
  have HF : Hid (dsha tag ls = F) := by show dsha _ _ = _; unfold dsha; rw [HL.out]; exact hF
  clear hF
  go_wp2_with (refine wpList_store_mid rfl 32 _ _ rfl w.heap.size 0 (rowV 32 F).toArray rfl rfl (R.out.thereA _) (info_hash32A _) (rowV_oneA _ _) ?_)
  refine bodyPost_ret (v := .agg (rowV 32 F).toArray) ?_ rfl ⟨by rw [HF.out], setCells_below B.out (Nat.le_refl _) _ _⟩
  have hlv := run_loadVar_mid (P := Tryd.prog) _ _ _ _ _ _ (R.out.stored F).range Tryd.underlying32 rfl (info_hash32 _)
  exact results_one Tryd.results30 rfl hlv
end Go.Proofs.YtlkmebimgpigjaaDoor

/- The contract of sponsionref06.Node over this translation. -/
namespace Go.Proofs.YtlkmebimgpigjaaDoor
open Go.RowKit Go.Lib
attribute [local go_sem] setCell_drewN alloc_drewN

theorem two_strs (w : World) (l m : List Int) (t : TypeId) {g : Nat} (e : w.heap.size = g) : Strs (w.alloc (.cells #[.string (strOfNums l), .string (strOfNums m)] t)) (some ⟨g, 0, none⟩) [l, m] := by
  subst e
  refine .inr ⟨w.heap.size, 0, rfl, by simp, fun j r hr => ?_⟩
  have hj : j = 0 ∨ j = 1 := by have := (List.getElem?_eq_some_iff.1 hr).1; simp at this; omega
  rcases hj with rfl | rfl
  · simp at hr; subst hr
    rw [World.cell?_alloc_at _ _ _ _ rfl]; rfl
  · simp at hr; subst hr
    rw [World.cell?_alloc_at _ _ _ _ rfl]; rfl
theorem one_str (w : World) (l : List Int) (t : TypeId) {g : Nat} (e : w.heap.size = g) : Strs (w.alloc (.cells #[.string (strOfNums l)] t)) (some ⟨g, 0, none⟩) [l] := by
  subst e
  refine .inr ⟨w.heap.size, 0, rfl, by simp, fun j r hr => ?_⟩
  have hj : j = 0 := by have := (List.getElem?_eq_some_iff.1 hr).1; simp at this; omega
  subst hj
  simp at hr; subst hr
  rw [World.cell?_alloc_at _ _ _ _ rfl]; rfl
/-- A sum's bytes as a string. -/
theorem hash_str {w : World} {g : Nat} {f : Nat → Int} (h : BRow w g 32 f) : (convert 64 9 (.slice (some ⟨g, 0, none⟩) 32 32)).run Tryd.prog w = .ok (.string (strOfNums (h32 f))) w := by
  have := At.str (row_at h) 32
  rwa [show ((List.range 32).map f).length = 32 by simp] at this
set_option maxRecDepth 100000 in
set_option maxHeartbeats 4000000 in
theorem refnode_any {w : World} (f g : Nat → Int) (hf : ∀ j, 0 ≤ f j ∧ f j < 256) (hg : ∀ j, 0 ≤ g j ∧ g j < 256) (ht : Tab w 0) :
    Calls Tryd.prog 29 #[.agg (rowV 32 f).toArray, .agg (rowV 32 g).toArray] w fun e w' => e = .returned (.agg (rowV 32 (dnode f g)).toArray) ∧ Below w.heap.size w w' := by
  have HT := hide ht; have HF := hide hf; have HG := hide hg
  clear ht hf hg
  go_enter Tryd.func29, Tryd.ntmps29
  go_wp2_with fail
  have R1 := hide (((hash_new w f 32 rfl).past (.cells (rowV 32 g).toArray 32)).past (.cells #[.int .u8 0, .int .u8 0, .int .u8 0, .int .u8 0, .int .u8 0, .int .u8 0, .int .u8 0, .int .u8 0, .int .u8 0, .int .u8 0, .int .u8 0, .int .u8 0, .int .u8 0, .int .u8 0, .int .u8 0, .int .u8 0, .int .u8 0, .int .u8 0, .int .u8 0, .int .u8 0, .int .u8 0, .int .u8 0, .int .u8 0, .int .u8 0, .int .u8 0, .int .u8 0, .int .u8 0, .int .u8 0, .int .u8 0, .int .u8 0, .int .u8 0, .int .u8 0] 32))
  have R2 := hide ((hash_new (w.alloc (.cells (rowV 32 f).toArray 32)) g 32 (g := w.heap.size + 1) (by simp)).past (.cells #[.int .u8 0, .int .u8 0, .int .u8 0, .int .u8 0, .int .u8 0, .int .u8 0, .int .u8 0, .int .u8 0, .int .u8 0, .int .u8 0, .int .u8 0, .int .u8 0, .int .u8 0, .int .u8 0, .int .u8 0, .int .u8 0, .int .u8 0, .int .u8 0, .int .u8 0, .int .u8 0, .int .u8 0, .int .u8 0, .int .u8 0, .int .u8 0, .int .u8 0, .int .u8 0, .int .u8 0, .int .u8 0, .int .u8 0, .int .u8 0, .int .u8 0, .int .u8 0] 32))
  have R := hide (BRow.zeros32 ((w.alloc (.cells (rowV 32 f).toArray 32)).alloc (.cells (rowV 32 g).toArray 32)) (g := w.heap.size + 1 + 1) (by simp))
  have B : Hid (Below w.heap.size w (((w.alloc (.cells (rowV 32 f).toArray 32)).alloc (.cells (rowV 32 g).toArray 32)).alloc (.cells #[.int .u8 0, .int .u8 0, .int .u8 0, .int .u8 0, .int .u8 0, .int .u8 0, .int .u8 0, .int .u8 0, .int .u8 0, .int .u8 0, .int .u8 0, .int .u8 0, .int .u8 0, .int .u8 0, .int .u8 0, .int .u8 0, .int .u8 0, .int .u8 0, .int .u8 0, .int .u8 0, .int .u8 0, .int .u8 0, .int .u8 0, .int .u8 0, .int .u8 0, .int .u8 0, .int .u8 0, .int .u8 0, .int .u8 0, .int .u8 0, .int .u8 0, .int .u8 0] 32))) := bAl (bAl (bAl (bMe w)))
  have hz : (((w.alloc (.cells (rowV 32 f).toArray 32)).alloc (.cells (rowV 32 g).toArray 32)).alloc (.cells #[.int .u8 0, .int .u8 0, .int .u8 0, .int .u8 0, .int .u8 0, .int .u8 0, .int .u8 0, .int .u8 0, .int .u8 0, .int .u8 0, .int .u8 0, .int .u8 0, .int .u8 0, .int .u8 0, .int .u8 0, .int .u8 0, .int .u8 0, .int .u8 0, .int .u8 0, .int .u8 0, .int .u8 0, .int .u8 0, .int .u8 0, .int .u8 0, .int .u8 0, .int .u8 0, .int .u8 0, .int .u8 0, .int .u8 0, .int .u8 0, .int .u8 0, .int .u8 0] 32)).heap.size = w.heap.size + 1 + 1 + 1 := by simp
  generalize ((w.alloc (.cells (rowV 32 f).toArray 32)).alloc (.cells (rowV 32 g).toArray 32)).alloc (.cells #[.int .u8 0, .int .u8 0, .int .u8 0, .int .u8 0, .int .u8 0, .int .u8 0, .int .u8 0, .int .u8 0, .int .u8 0, .int .u8 0, .int .u8 0, .int .u8 0, .int .u8 0, .int .u8 0, .int .u8 0, .int .u8 0, .int .u8 0, .int .u8 0, .int .u8 0, .int .u8 0, .int .u8 0, .int .u8 0, .int .u8 0, .int .u8 0, .int .u8 0, .int .u8 0, .int .u8 0, .int .u8 0, .int .u8 0, .int .u8 0, .int .u8 0, .int .u8 0] 32) = w1 at *
  have s1 := hash_str (R1.out.after (bMe w1).drew rfl)
  have s2 := hash_str (R2.out.after (bMe w1).drew rfl)
  have H : Hid (Strs ((w1.alloc (.cells #[.string (strOfNums (h32 f)), .string (strOfNums (h32 g))] 9)).drew) (some ⟨w.heap.size + 1 + 1 + 1, 0, none⟩) [h32 f, h32 g]) := (two_strs w1 (h32 f) (h32 g) 9 hz).below (bMe _).drew
  replace R := hide ((R.out.past (.cells #[.string (strOfNums (h32 f)), .string (strOfNums (h32 g))] 9)).after (bMe _).drew rfl)
  replace B := hide (bAl (o := .cells #[.string (strOfNums (h32 f)), .string (strOfNums (h32 g))] 9) B.out).drew
  have HBY : Hid (∀ l ∈ [h32 f, h32 g], Byt l) := fun l hl => by
    simp at hl
    rcases hl with rfl | rfl
    · exact h32_byt HF.out
    · exact h32_byt HG.out
  have hlen : (dtext 1 [h32 f, h32 g]).length ≤ 100000 := by simp [dtext, ptexts, ptext, be_length, h32_length]
  clear R1 R2
  obtain ⟨F, hF⟩ : ∃ F, dnode f g = F := ⟨_, rfl⟩
  have HF2 := hide hF
  have hF2 : dsha 1 [h32 f, h32 g] = F := hF
  clear hF
  have HF3 := hide hF2
  clear hF2
  generalize h32 f = lf at *
  generalize h32 g = lg at *
  go_region_with (go_at_call 30; refine (refof_any 1 (by omega) (by omega) _ 2 [lf, lg] H.out HBY.out hlen (by simp) (HT.out.below B.out)).mono ?_; rintro e w2 ⟨rfl, hb⟩; replace R := hide (R.out.after hb rfl); replace B := hide (bOn B.out hb); clear hb H; rw [HF3.out]; have hst := R.out.storing (P := Tryd.prog) F; have hl32 := rowV_length 32 F)
  all_goals
    go_wp2
    refine bodyPost_ret (v := .agg (rowV 32 F).toArray) ?_ rfl ⟨by rw [HF2.out], setCells_below B.out (by omega) _ _⟩
    have hlv := run_loadVar_mid (P := Tryd.prog) _ _ _ _ _ _ (R.out.stored F).range Tryd.underlying32 rfl (info_hash32 _)
    exact results_one Tryd.results29 rfl hlv
end Go.Proofs.YtlkmebimgpigjaaDoor

/- The contract of sponsionref06.Empties over this translation. -/
namespace Go.Proofs.YtlkmebimgpigjaaDoor
open Go.RowKit Go.Lib
attribute [local go_sem] setCell_drewN alloc_drewN

/-- The sums of levels, as far as they are written. -/
def empF (k j : Nat) : Int := if j < 32 * (k + 1) then demp (j / 32) (j % 32) else 0
theorem zero1056 (w : World) : (zeroValue 58).run Tryd.prog w = .ok (.agg (Array.replicate 1056 (.int .u8 0))) w := by kernel_rfl
/-- What stands while levels are written. -/
structure EE (w0 w : World) (f : Nat → Int) : Prop where
  res : BRow w w0.heap.size 1056 (fun _ => 0)
  out : BRow w (w0.heap.size + 1) 1056 f
  below : Below w0.heap.size w0 w
theorem EE.after {w0 w w' : World} {f : Nat → Int} (h : EE w0 w f) (hb : Below w.heap.size w w') : EE w0 w' f := ⟨h.res.after hb rfl, h.out.after hb rfl, bOn h.below hb⟩
theorem BRow.part {w : World} {g n : Nat} {f : Nat → Int} (h : BRow w g n f) (o m : Nat) (F : Nat → Int) (hn : o + m ≤ n) (hf : ∀ j, j < m → f (o + j) = F j) : w.rangeAt g o (rowV m F) := by
  intro j v hv
  have hj : j < m := by have := (List.getElem?_eq_some_iff.1 hv).1; rwa [rowV_length] at this
  rw [rowV_get hj] at hv
  injection hv with hv
  subst hv
  rw [h.cell (o + j) (by omega), hf j hj]
theorem BRow.putAt {w : World} {g n : Nat} {f : Nat → Int} (h : BRow w g n f) (o m : Nat) (F f' : Nat → Int) (hn : o + m ≤ n) (hf : ∀ j, j < n → f' j = if o ≤ j ∧ j < o + m then F (j - o) else f j) : BRow (w.setCells g o (rowV m F)) g n f' := by
  have ht : w.there g o (rowV m F).length := by
    intro j hj
    rw [rowV_length] at hj
    exact ⟨by rw [h.cell (o + j) (by omega)]; rfl, h.fr _⟩
  refine ⟨by rw [setCells_size]; exact h.lt, fun j hj => ?_, fun q => by rw [World.frozen?_setCells]; exact h.fr q⟩
  rw [hf j hj]
  by_cases e : o ≤ j ∧ j < o + m
  · rw [if_pos e]
    have := World.rangeAt_setCells_same w g o (rowV m F) ht (j - o) _ (rowV_get (by omega))
    rwa [show o + (j - o) = j by omega] at this
  · rw [if_neg e]
    have hr : w.rangeAt g j [.int .u8 (f j)] := by
      intro i v hv
      have hi : i = 0 := by have := (List.getElem?_eq_some_iff.1 hv).1; simp at this; exact this
      subst hi
      simp at hv
      subst hv
      exact h.cell j hj
    have := World.rangeAt_setCells_apart hr g o (rowV m F) (by rw [rowV_length]; simp; omega) 0 _ rfl
    simpa using this
theorem BRow.thereAt {w : World} {g n : Nat} {f : Nat → Int} (h : BRow w g n f) (o m : Nat) (V : Nat → Int) (hn : o + m ≤ n) : w.there g o (rowV m V).toArray.size := by
  rw [List.size_toArray, rowV_length]
  intro j hj
  exact ⟨by rw [h.cell (o + j) (by omega)]; rfl, h.fr _⟩
set_option maxRecDepth 100000 in
set_option maxHeartbeats 8000000 in
theorem empties_any {w : World} (ht : Tab w 0) :
    Calls Tryd.prog 23 #[] w fun e w' => e = .returned (.agg (rowV 1056 (empF 32)).toArray) ∧ Below w.heap.size w w' := by
  have HT := hide ht
  clear ht
  have hz := fun w => zero1056 w
  have R0 := hide ((BRow.new w 1056 58 rfl).past (.cells (Array.replicate 1056 (.int .u8 0)) 58))
  have R1 := hide (BRow.new (w.alloc (.cells (Array.replicate 1056 (.int .u8 0)) 58)) 1056 58 (g := w.heap.size + 1) (by simp))
  have B : Hid (Below w.heap.size w ((w.alloc (.cells (Array.replicate 1056 (.int .u8 0)) 58)).alloc (.cells (Array.replicate 1056 (.int .u8 0)) 58))) := bAl (bAl (bMe w))
  go_enter Tryd.func23, Tryd.ntmps23
  go_wp2_with fail
  generalize (w.alloc (.cells (Array.replicate 1056 (.int .u8 0)) 58)).alloc (.cells (Array.replicate 1056 (.int .u8 0)) 58) = w1 at *
  have E : Hid (EE w w1 (fun _ => 0)) := ⟨R0.out, R1.out, B.out⟩
  clear R0 R1 B hz
  refine (refof_any 2 (by omega) (by omega) none 0 [] (.inl rfl) (fun l hl => by simp at hl) (by simp [dtext, ptexts, be_length]) (by simp) (HT.out.below E.out.below)).mono ?_
  rintro e w2 ⟨rfl, hb⟩
  replace E := hide (E.out.after hb)
  clear hb
  obtain ⟨F, hF⟩ : ∃ F, dsha 2 [] = F := ⟨_, rfl⟩
  rw [hF]
  have HF : Hid (demp 0 = F) := hF
  clear hF
  go_wp2_with (refine wpList_store_stop rfl 32 _ _ rfl (w.heap.size + 1) 0 (rowV 32 F) rfl rfl (E.out.out.thereAt 0 32 F (by omega)) (info_hash32A F) (rowV_oneA _ _) ?_)
  intro w3 hw3
  have E3 : Hid (EE w w3 (empF 0)) := by
    show EE _ _ _
    rw [hw3.out]
    exact ⟨E.out.res.of (by rw [setCells_size]; exact Nat.le_refl _) (setCells_block _ _ _ _ _ (by omega)), E.out.out.putAt 0 32 F (empF 0) (by omega) (fun j hj => by
      unfold empF
      by_cases e : j < 32
      · rw [if_pos (by omega), if_pos (by omega), show j / 32 = 0 by omega, show j % 32 = j - 0 by omega, HF.out]
      · rw [if_neg (by omega), if_neg (by omega)]), setCells_below E.out.below (by omega) _ _⟩
  clear hw3 E HF
  go_wp2
  go_loopg [2] 32 (fun gk t wr => ∃ k : Nat, gk + k = 32 ∧ t = .int .i64 ((k : Int) + 1) ∧ EE w wr (empF k))
  case atStart => exact ⟨0, by omega, rfl, E3.out⟩
  case round =>
    clear E3
    obtain ⟨k, hk, rfl, he⟩ := hrel
    have E := hide he; have HK := hide hk
    clear he hk
    by_cases hlt : k < 32
    · have hki : (k : Int) < 32 := by omega
      have hki2 : (k : Int) + 1 ≤ 32 := by omega
      obtain ⟨F2, hF2⟩ : ∃ F2, demp k = F2 := ⟨_, rfl⟩
      have HD : Hid (demp k = F2) := hF2
      have HB : Hid (∀ j, 0 ≤ F2 j ∧ F2 j < 256) := by rw [← hF2]; exact demp_bd k
      have hS0 : Hid (wr.drew.rangeAt (w.heap.size + 1) (k * 32) (rowV 32 F2)) := by
        rw [← hF2]
        refine (E.out.out.after (bMe wr).drew rfl).part (k * 32) 32 (demp k) (by omega) (fun j hj => ?_)
        unfold empF
        rw [if_pos (by omega), show (k * 32 + j) / 32 = k by omega, show (k * 32 + j) % 32 = j by omega]
      clear hF2
      go_wp2
      refine wp_region_held_drew (S := fun w' => w'.rangeAt (w.heap.size + 1) (k * 32) (rowV 32 F2)) (by kernel_rfl) hS0.out (fun hS => ?_)
      have HS := hide hS
      have HLT : Hid (w.heap.size + 1 < wr.drew.heap.size) := E.out.out.lt
      clear hS hS0
      have hwk : IntKind.i64.wrap (k : Int) = (k : Int) := by rw [IntKind.wrap_i64]; omega
      have hn1 : ¬ (33 : Int) ≤ (k : Int) := by omega
      have hn2 : ¬ (33 : Int) ≤ (k : Int) + 1 := by omega
      refine tk0 (v := .int .i64 ((k : Int) + 1)) (by kernel_rfl) (by kernel_rfl) (by kernel_rfl) (fun _ _ _ h => h) HS.out (Or.inl ⟨by rfl, fun w hw => by go_simp; try (with_reducible rfl)⟩) ?_
      simp only [Act.put, List.setIfInBounds_toArray, List.set_cons_zero, List.set_cons_succ]
      refine tk1 (v := .int .i64 ((k : Int) + 1)) (by kernel_rfl) (by kernel_rfl) (by kernel_rfl) (fun _ _ _ h => h) HS.out (Or.inl ⟨by rfl, fun w hw => by go_simp; try (with_reducible rfl)⟩) ?_
      simp only [Act.put, List.setIfInBounds_toArray, List.set_cons_zero, List.set_cons_succ]
      refine tk2 (v := .int .i64 (k : Int)) (by kernel_rfl) (by kernel_rfl) (by kernel_rfl) (fun _ _ _ h => h) HS.out (Or.inl ⟨by rfl, fun w hw => by go_simp; try (with_reducible rfl)⟩) ?_
      simp only [Act.put, List.setIfInBounds_toArray, List.set_cons_zero, List.set_cons_succ]
      refine tk3 (v := .pointer (some ⟨w.heap.size + 1, k * 32, none⟩)) (by kernel_rfl) (by kernel_rfl) (by kernel_rfl) (fun _ _ _ h => h) HS.out (Or.inl ⟨by rfl, fun w hw => by go_simp; try (with_reducible rfl)⟩) ?_
      simp only [Act.put, List.setIfInBounds_toArray, List.set_cons_zero, List.set_cons_succ]
      refine tk5 (v := .int .i64 ((k : Int) + 1)) (by kernel_rfl) (by kernel_rfl) (by kernel_rfl) (fun _ _ _ h => h) HS.out (Or.inl ⟨by rfl, fun w hw => by go_simp; try (with_reducible rfl)⟩) ?_
      simp only [Act.put, List.setIfInBounds_toArray, List.set_cons_zero, List.set_cons_succ]
      refine tk6 (v := .int .i64 (k : Int)) (by kernel_rfl) (by kernel_rfl) (by kernel_rfl) (fun _ _ _ h => h) HS.out (Or.inl ⟨by rfl, fun w hw => by go_simp; try (with_reducible rfl)⟩) ?_
      simp only [Act.put, List.setIfInBounds_toArray, List.set_cons_zero, List.set_cons_succ]
      refine tk7 (v := .pointer (some ⟨w.heap.size + 1, k * 32, none⟩)) (by kernel_rfl) (by kernel_rfl) (by kernel_rfl) (fun _ _ _ h => h) HS.out (Or.inl ⟨by rfl, fun w hw => by go_simp; try (with_reducible rfl)⟩) ?_
      simp only [Act.put, List.setIfInBounds_toArray, List.set_cons_zero, List.set_cons_succ]
      refine tk4 (by kernel_rfl) (by kernel_rfl) (by kernel_rfl) (fun _ _ _ h => h) HS.out (yieldsIf_load_mid (by rfl) _ _ rfl (w.heap.size + 1) (k * 32) rfl (rowV 32 F2) _ (fun _ hw => hw) Tryd.underlying32 rfl (info_hash32 _)) ?_
      simp only [Act.put, List.setIfInBounds_toArray, List.set_cons_zero, List.set_cons_succ]
      refine tk8 (by kernel_rfl) (by kernel_rfl) (by kernel_rfl) (fun _ _ _ h => h) HS.out (yieldsIf_load_mid (by rfl) _ _ rfl (w.heap.size + 1) (k * 32) rfl (rowV 32 F2) _ (fun _ hw => hw) Tryd.underlying32 rfl (info_hash32 _)) ?_
      simp only [Act.put, List.setIfInBounds_toArray, List.set_cons_zero, List.set_cons_succ]
      refine wpAnyH_ready (rs := [9]) (by kernel_rfl) (by simp) ?_
      refine rd9 (fun K hK => ?_) AllReadyH.nil
      go_simp
      refine (refnode_any F2 F2 HB.out HB.out (HT.out.below E.out.below.drew)).mono ?_
      rintro e w4 ⟨rfl, hb⟩
      simp only []
      replace E := hide ((E.out.after (bMe wr).drew).after hb)
      replace HS : Hid (w4.rangeAt (w.heap.size + 1) (k * 32) (rowV 32 F2)) := fun j v hv => (hb.cell (p := ⟨w.heap.size + 1, k * 32 + j, none⟩) (by have := HLT.out; exact this)).trans (HS.out j v hv)
      clear hb
      refine hK.out _ _ HS.out (fun _ => ?_)
      clear hK K
      obtain ⟨N, hN⟩ : ∃ N, dnode F2 F2 = N := ⟨_, rfl⟩
      have HN : Hid (demp (k + 1) = N) := by show _ = _; rw [demp_next, HD.out, hN]
      rw [hN]
      clear hN
      have hn3 : ¬ (k : Int) + 1 < 0 := by omega
      refine tk10 (v := .pointer (some ⟨w.heap.size + 1, (k + 1) * 32, none⟩)) (by kernel_rfl) (by kernel_rfl) (by kernel_rfl) (fun _ _ _ h => h) HS.out (Or.inl ⟨by rfl, fun w hw => by go_simp; try (with_reducible rfl)⟩) ?_
      simp only [Act.put, List.setIfInBounds_toArray, List.set_cons_zero, List.set_cons_succ]
      refine wpAnyH_ready (rs := [11]) (by kernel_rfl) (by simp) ?_
      refine rd11 (fun K hK => ?_) AllReadyH.nil
      rw [if_pos (by rfl)]
      refine wp_store_mid _ _ _ rfl (w.heap.size + 1) ((k + 1) * 32) (rowV 32 N).toArray rfl rfl (E.out.out.thereAt _ 32 N (by omega)) (info_hash32A _) (rowV_oneA _ _) ?_
      refine hK.out _ _ (World.rangeAt_setCells_apart HS.out _ _ _ (by rw [rowV_length]; omega)) (fun _ => ?_)
      clear hK K
      refine wpAnyH_done (by kernel_rfl) ?_ _
      have E5 : Hid (EE w (w4.setCells (w.heap.size + 1) ((k + 1) * 32) (rowV 32 N)) (empF (k + 1))) := by
        refine ⟨E.out.res.of (by rw [setCells_size]; exact Nat.le_refl _) (setCells_block _ _ _ _ _ (by omega)), E.out.out.putAt _ 32 N (empF (k + 1)) (by omega) (fun j hj => ?_), setCells_below E.out.below (by omega) _ _⟩
        unfold empF
        by_cases e : (k + 1) * 32 ≤ j ∧ j < (k + 1) * 32 + 32
        · rw [if_pos (by omega), if_pos e, show j / 32 = k + 1 by omega, HN.out, show j % 32 = j - (k + 1) * 32 by omega]
        · rw [if_neg e]
          by_cases e2 : j < 32 * (k + 1)
          · rw [if_pos (by omega), if_pos e2]
          · rw [if_neg (by omega), if_neg e2]
      simp only [Act.put]
      generalize w4.setCells (w.heap.size + 1) ((k + 1) * 32) (rowV 32 N) = w5 at *
      go_wp2
      go_roundg (32 - k - 1)
      case measure => have := HK.out; omega
      case rel => exact ⟨k + 1, by omega, by go_num, E5.out⟩
    · obtain rfl : k = 32 := by have := HK.out; omega
      clear HK hlt
      obtain ⟨G, hG⟩ : ∃ G, empF 32 = G := ⟨_, rfl⟩
      have HG := hide hG
      rw [hG] at E
      clear hG
      have iL : (Tryd.prog.info? 58).map (·.size) = some (rowV 1056 G).length := by rw [rowV_length]; kernel_rfl
      have iA : (Tryd.prog.info? 58).map (·.size) = some (rowV 1056 G).toArray.size := by rw [List.size_toArray, rowV_length]; kernel_rfl
      have HIL := hide iL; have HIA := hide iA
      clear iL iA
      go_wp2_with (first
        | refine wpList_load_mid rfl 58 _ rfl (w.heap.size + 1) 0 rfl (rowV 1056 G) _ E.out.out.range Tryd.underlying58 rfl HIL.out ?_
        | refine wpList_store_mid rfl 58 _ _ rfl w.heap.size 0 (rowV 1056 G).toArray rfl rfl (E.out.res.thereA _) HIA.out (rowV_oneA _ _) ?_)
      refine bodyPost_ret (v := .agg (rowV 1056 G).toArray) ?_ rfl ⟨by rw [HG.out], setCells_below E.out.below (Nat.le_refl _) _ _⟩
      have hlv := run_loadVar_mid (P := Tryd.prog) _ _ _ _ _ _ (E.out.res.stored G).range Tryd.underlying58 rfl HIL.out
      exact results_one Tryd.results23 rfl hlv
end Go.Proofs.YtlkmebimgpigjaaDoor
