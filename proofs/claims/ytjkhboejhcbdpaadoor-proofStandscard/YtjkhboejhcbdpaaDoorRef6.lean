/- Contracts of sponsionref06's Text and Of over this translation; rows of strings. -/
import Derived.Test.YtjkhboejhcbdpaaDoorDomSum
import Derived.Test.YtjkhboejhcbdpaaDoorRef4
import Derived.Test.YtjkhboejhcbdpaaDoorRef5Walk
import Derived.Lib.ConvBytes
namespace Go.Proofs.YtjkhboejhcbdpaaDoor
open Go.RowKit Go.Lib
attribute [local go_sem] setCell_drewN alloc_drewN

/-- Texts in a row, at this address. -/
def Strs (w : World) (ao : Option Addr) (ls : List (List Int)) : Prop :=
  ls = [] ∨ ∃ b off, ao = some ⟨b, off, none⟩ ∧ b < w.heap.size ∧ ∀ j l, ls[j]? = some l → w.cell? ⟨b, off + j, none⟩ = some (.string (strOfNums l))
theorem Strs.below {w w' : World} {ao : Option Addr} {ls : List (List Int)} (h : Strs w ao ls) (hb : Below w.heap.size w w') : Strs w' ao ls := by
  rcases h with h | ⟨b, off, e, hl, hc⟩
  · exact .inl h
  · exact .inr ⟨b, off, e, Nat.lt_of_lt_of_le hl hb.size, fun j l hj => (hb.cell (p := ⟨b, off + j, none⟩) hl).trans (hc j l hj)⟩
theorem ptexts_split (ls : List (List Int)) (k : Nat) : ptexts ls = ptexts (ls.take k) ++ ptexts (ls.drop k) := by
  rw [← ptexts_app, List.take_append_drop]
theorem dtext_next (tag : Int) (ls : List (List Int)) (k : Nat) (l : List Int) (h : ls[k]? = some l) : dtext tag (ls.take (k + 1)) = (dtext tag (ls.take k) ++ be (l.length : Int) 4) ++ l := by
  unfold dtext
  rw [List.take_add_one, h]
  show be tag 1 ++ ptexts (ls.take k ++ [l]) = _
  rw [ptexts_snoc]
  unfold ptext
  simp
theorem dtext_cut (tag : Int) (ls : List (List Int)) (k : Nat) : dtext tag ls = dtext tag (ls.take k) ++ ptexts (ls.drop k) := by
  unfold dtext
  rw [List.append_assoc, ← ptexts_split]
theorem str_size (l : List Int) : (strOfNums l).size = l.length := strOfNums_size l
set_option maxHeartbeats 4000000 in
theorem reftext_any {w : World} (tag : Int) (ht0 : 0 ≤ tag) (ht1 : tag < 256) (ao : Option Addr) (cap : Nat) (ls : List (List Int)) (hs : Strs w ao ls) (hlen : (dtext tag ls).length ≤ 900000) (hls : ls.length ≤ 900000) :
    Calls Tryd.prog 36 #[.int .u8 tag, .slice ao ls.length cap] w fun e w' => e = .returned (.string (strOfNums (dtext tag ls))) ∧ Below w.heap.size w w' := by
  have HS := hide hs; have HLEN := hide hlen
  have hli : (ls.length : Int) ≤ 900000 := by omega
  clear hs hlen
  go_enter Tryd.func36, Tryd.ntmps36
  go_wp2_with fail
  refine (num_any tag 1 w ht0 (by omega) (by omega)).mono ?_
  rintro e w1 ⟨rfl, hb⟩
  have B := hide hb
  clear hb
  go_wp2
  go_loopg [5, 13] ls.length (fun gk t5 t wr => ∃ k : Nat, gk + k = ls.length ∧ t = .int .i64 k ∧ t5 = .string (strOfNums (dtext tag (ls.take k))) ∧ Below w.heap.size w wr)
  case atStart => exact ⟨0, by omega, rfl, by simp [dtext, ptexts], B.out⟩
  case round =>
    clear B
    obtain ⟨k, hk, rfl, rfl, hb⟩ := hrel
    have B := hide hb; have HK := hide hk
    clear hb hk
    by_cases hlt : k < ls.length
    · have hki : (k : Int) < (ls.length : Int) := by omega
      obtain ⟨l, hl⟩ : ∃ l, ls[k]? = some l := ⟨ls[k], by simp [hlt]⟩
      have HN := hide (dtext_next tag ls k l hl)
      have ck : ∃ b off, ao = some ⟨b, off, none⟩ ∧ wr.cell? ⟨b, off + k, none⟩ = some (.string (strOfNums l)) := by
        rcases HS.out with h0 | ⟨b, off, e, hlt2, hc⟩
        · rw [h0] at hlt; simp at hlt
        · exact ⟨b, off, e, (B.out.cell (p := ⟨b, off + k, none⟩) hlt2).trans (hc k l hl)⟩
      obtain ⟨b, off, rfl, ck⟩ := ck
      have hl2 : (dtext tag (ls.take k)).length + 4 + l.length ≤ 900000 := by
        have h1 := HLEN.out
        rw [dtext_cut tag ls (k + 1), HN.out] at h1
        simp [be_length] at h1 ⊢
        omega
      obtain ⟨L, hL⟩ : ∃ L, dtext tag (ls.take k) = L := ⟨_, rfl⟩
      rw [hL] at HN hl2
      rw [hL]
      have z1 : (strOfNums l).size = l.length := strOfNums_size l
      have z2 : (strOfNums L).size = L.length := strOfNums_size L
      have hll : (l.length : Int) ≤ 900000 := by omega
      clear hL hl
      go_wp2_with fail
      refine (num_any (l.length : Int) 4 wr (by omega) (by omega) (by omega)).mono ?_
      rintro e w2 ⟨rfl, hb2⟩
      have B2 := hide (bOn B.out hb2)
      clear hb2
      have z3 : (strOfNums (be (l.length : Int) 4)).size = 4 := by rw [strOfNums_size, be_length]
      have HST : Hid (strOfNums L ++ strOfNums (be (l.length : Int) 4) ++ strOfNums l = strOfNums (dtext tag (ls.take (k + 1)))) := by
        show _ = _
        rw [str_append, str_append, ← HN.out]
      go_wp2
      go_roundg (ls.length - k - 1)
      case measure => have := HK.out; omega
      case rel => exact ⟨k + 1, by omega, by go_num, by rw [← HST.out], B2.out⟩
    · obtain rfl : k = ls.length := by have := HK.out; omega
      rw [List.take_length]
      go_wp2
      go_ret
      exact ⟨rfl, B.out⟩
theorem getD_str (L : List Int) (hby : Byt L) (j : Nat) (hj : j < L.length) : (((strOfNums L).data.toList.getD j 0).toNat : Int) = L.getD j 0 := by
  rw [strOfNums_data]
  have h := hby.get j
  simp only [List.getD_eq_getElem?_getD, List.getElem?_map, List.getElem?_eq_getElem hj, Option.map_some, Option.getD_some] at h ⊢
  simp
  omega
theorem bytesWorld_below (w : World) (e : TypeId) (s : ByteArray) : Below w.heap.size w (bytesWorld w e s) :=
  ⟨rfl, rfl, rfl, by rw [bytesWorld_size]; omega, fun k hk => bytesWorld_at_old w e s k hk⟩
/-- A string as bytes: a new row. -/
theorem conv_new (w : World) (L : List Int) (hby : Byt L) : ∃ cap w', (convert 9 67 (.string (strOfNums L))).run Tryd.prog w = .ok (.slice (some ⟨w.heap.size, 0, none⟩) (strOfNums L).size cap) w' ∧ At w' (some ⟨w.heap.size, 0, none⟩) L ∧ Below w.heap.size w w' := by
  refine ⟨_, _, Go.Lib.run_convert_string_bytes w 9 67 5 (strOfNums L) Tryd.underlying9 Tryd.underlying67 Tryd.underlying5, ?_, bytesWorld_below w _ _⟩
  refine .inr ⟨_, _, rfl, by rw [bytesWorld_size]; omega, fun j hj => ?_⟩
  rw [Nat.zero_add, bytesWorld_cell w _ _ j (by rw [strOfNums_size]; exact hj), getD_str L hby j hj]
set_option maxRecDepth 100000 in
set_option maxHeartbeats 4000000 in
theorem refof_any {w : World} (tag : Int) (ht0 : 0 ≤ tag) (ht1 : tag < 256) (ao : Option Addr) (cap : Nat) (ls : List (List Int)) (hs : Strs w ao ls) (hby : ∀ l ∈ ls, Byt l) (hlen : (dtext tag ls).length ≤ 100000) (hls : ls.length ≤ 900000) (ht : Tab w 0) :
    Calls Tryd.prog 32 #[.int .u8 tag, .slice ao ls.length cap] w fun e w' => e = .returned (.agg (rowV 32 (dsha tag ls)).toArray) ∧ Below w.heap.size w w' := by
  have HS := hide hs; have HT := hide ht; have HBY := hide hby
  clear hs ht hby
  have R := hide (BRow.zeros32 w (g := w.heap.size) rfl)
  have B : Hid (Below w.heap.size w (w.alloc (.cells #[.int .u8 0, .int .u8 0, .int .u8 0, .int .u8 0, .int .u8 0, .int .u8 0, .int .u8 0, .int .u8 0, .int .u8 0, .int .u8 0, .int .u8 0, .int .u8 0, .int .u8 0, .int .u8 0, .int .u8 0, .int .u8 0, .int .u8 0, .int .u8 0, .int .u8 0, .int .u8 0, .int .u8 0, .int .u8 0, .int .u8 0, .int .u8 0, .int .u8 0, .int .u8 0, .int .u8 0, .int .u8 0, .int .u8 0, .int .u8 0, .int .u8 0, .int .u8 0] 28))) := bAl (bMe w)
  go_enter Tryd.func32, Tryd.ntmps32
  go_wp2_with fail
  generalize w.alloc (.cells #[.int .u8 0, .int .u8 0, .int .u8 0, .int .u8 0, .int .u8 0, .int .u8 0, .int .u8 0, .int .u8 0, .int .u8 0, .int .u8 0, .int .u8 0, .int .u8 0, .int .u8 0, .int .u8 0, .int .u8 0, .int .u8 0, .int .u8 0, .int .u8 0, .int .u8 0, .int .u8 0, .int .u8 0, .int .u8 0, .int .u8 0, .int .u8 0, .int .u8 0, .int .u8 0, .int .u8 0, .int .u8 0, .int .u8 0, .int .u8 0, .int .u8 0, .int .u8 0] 28) = w1 at *
  refine (reftext_any tag ht0 ht1 ao cap ls (HS.out.below B.out) (by omega) hls).mono ?_
  rintro e w2 ⟨rfl, hb⟩
  replace R := hide (R.out.after hb rfl)
  replace B := hide (bOn B.out hb)
  clear hb
  have HB : Hid (Byt (dtext tag ls)) := dtext_byt HBY.out
  obtain ⟨L, hL⟩ : ∃ L, dtext tag ls = L := ⟨_, rfl⟩
  rw [hL] at HB hlen
  rw [hL]
  have HL := hide hL
  clear hL
  obtain ⟨c3, w3, hcv, hat, hb3⟩ := conv_new w2 L HB.out
  rw [strOfNums_size] at hcv
  replace R := hide (R.out.after hb3 rfl)
  replace B := hide (bOn B.out hb3)
  have HA := hide hat
  clear hat hb3
  go_wp2_with fail
  refine (refsum_any (some ⟨w2.heap.size, 0, none⟩) c3 L HA.out (fun e => by simp at e) hlen HB.out (HT.out.below B.out)).mono ?_
  rintro e w4 ⟨rfl, hb⟩
  replace R := hide (R.out.after hb rfl)
  replace B := hide (bOn B.out hb)
  clear hb hcv
  obtain ⟨F, hF⟩ : ∃ F, sha L = F := ⟨_, rfl⟩
  rw [hF]
  have HF : Hid (dsha tag ls = F) := by show dsha _ _ = _; unfold dsha; rw [HL.out]; exact hF
  clear hF
  go_wp2_with (refine wpList_store_mid rfl 28 _ _ rfl w.heap.size 0 (rowV 32 F).toArray rfl rfl (R.out.thereA _) (info_hash32A _) (rowV_oneA _ _) ?_)
  refine bodyPost_ret (v := .agg (rowV 32 F).toArray) ?_ rfl ⟨by rw [HF.out], setCells_below B.out (Nat.le_refl _) _ _⟩
  have hlv := run_loadVar_mid (P := Tryd.prog) _ _ _ _ _ _ (R.out.stored F).range Tryd.underlying28 rfl (info_hash32 _)
  exact results_one Tryd.results32 rfl hlv
end Go.Proofs.YtjkhboejhcbdpaaDoor
