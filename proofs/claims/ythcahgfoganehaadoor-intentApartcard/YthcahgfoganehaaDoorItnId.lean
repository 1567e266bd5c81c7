/- Contracts of intent.ID, intent.Leaf and of sponsionref07's over this translation. -/
import Derived.Test.YthcahgfoganehaaDoorItnText
import Derived.Test.YthcahgfoganehaaDoorRef6
namespace Go.Proofs.YthcahgfoganehaaDoor
open Go.RowKit Go.Lib
attribute [local go_sem] setCell_drewN alloc_drewN

theorem one_str7 (w : World) (l : List Int) (t : TypeId) {g : Nat} (e : w.heap.size = g) : Strs (w.alloc (.cells #[.string (strOfNums l)] t)) (some ⟨g, 0, none⟩) [l] := by
  subst e
  refine .inr ⟨w.heap.size, 0, rfl, by simp, fun j r hr => ?_⟩
  have hj : j = 0 := by have := (List.getElem?_eq_some_iff.1 hr).1; simp at this; omega
  subst hj
  simp at hr; subst hr
  rw [World.cell?_alloc_at _ _ _ _ rfl]; rfl
set_option maxRecDepth 100000 in
set_option maxHeartbeats 4000000 in
theorem id_any (x : Itn) (hx : x.Ok) (w : World) (ht : Tab w 1) :
    Calls Tryd.prog 9 #[itnV x] w fun e w' => e = .returned (.agg (rowV 32 (dsha 3 [ibytes x])).toArray) ∧ Below w.heap.size w w' := by
  have HX := hide hx; have HT := hide ht
  clear hx ht
  go_enter Tryd.func9, Tryd.ntmps9
  go_wp2_with fail
  have B : Hid (Below w.heap.size w (w.alloc (.cells #[.int .u32 x.i, .int .u8 x.t, .int .u8 x.o, .int .u64 (lm x.a 0), .int .u64 (lm x.a 1), .int .u64 (lm x.a 2), .int .u64 (lm x.a 3)] 27))) := bAl (bMe w)
  have hz : (w.alloc (.cells #[.int .u32 x.i, .int .u8 x.t, .int .u8 x.o, .int .u64 (lm x.a 0), .int .u64 (lm x.a 1), .int .u64 (lm x.a 2), .int .u64 (lm x.a 3)] 27)).heap.size = w.heap.size + 1 := by simp
  generalize w.alloc (.cells #[.int .u32 x.i, .int .u8 x.t, .int .u8 x.o, .int .u64 (lm x.a 0), .int .u64 (lm x.a 1), .int .u64 (lm x.a 2), .int .u64 (lm x.a 3)] 27) = w1 at *
  have R := hide (BRow.zeros32 w1 hz)
  replace B := hide (bAl (o := (.cells #[.int .u8 0, .int .u8 0, .int .u8 0, .int .u8 0, .int .u8 0, .int .u8 0, .int .u8 0, .int .u8 0, .int .u8 0, .int .u8 0, .int .u8 0, .int .u8 0, .int .u8 0, .int .u8 0, .int .u8 0, .int .u8 0, .int .u8 0, .int .u8 0, .int .u8 0, .int .u8 0, .int .u8 0, .int .u8 0, .int .u8 0, .int .u8 0, .int .u8 0, .int .u8 0, .int .u8 0, .int .u8 0, .int .u8 0, .int .u8 0, .int .u8 0, .int .u8 0] 36)) B.out)
  generalize w1.alloc (.cells #[.int .u8 0, .int .u8 0, .int .u8 0, .int .u8 0, .int .u8 0, .int .u8 0, .int .u8 0, .int .u8 0, .int .u8 0, .int .u8 0, .int .u8 0, .int .u8 0, .int .u8 0, .int .u8 0, .int .u8 0, .int .u8 0, .int .u8 0, .int .u8 0, .int .u8 0, .int .u8 0, .int .u8 0, .int .u8 0, .int .u8 0, .int .u8 0, .int .u8 0, .int .u8 0, .int .u8 0, .int .u8 0, .int .u8 0, .int .u8 0, .int .u8 0, .int .u8 0] 36) = w2 at *
  clear hz
  refine (ibytes_any x HX.out w2).mono ?_
  rintro e w3 ⟨v, rfl, hv, hb⟩
  obtain ⟨bo, bc, rfl, k1, k2, k3⟩ := hv.cell
  have P : Hid (PtOk w3 ⟨bo, bc, ibytes x⟩) := ⟨k3, k1, k2, ibytes_byt x⟩
  have PN : Hid (bo = none → bc = 0) := hv.at.2
  replace R := hide (R.out.after hb rfl)
  replace B := hide (bOn B.out hb)
  clear hv hb k1 k2 k3
  go_wp2_with fail
  have H : Hid (Handed (w3.alloc (.cells #[.slice bo (ibytes x).length bc] 29)) (some ⟨w3.heap.size, 0, none⟩) [⟨bo, bc, ibytes x⟩]) := ⟨one_part bo bc (ibytes x) P.out _ rfl, fun q hq => by simp at hq; subst hq; exact PN.out, by simp⟩
  replace R := hide (R.out.past (.cells #[.slice bo (ibytes x).length bc] 29))
  replace B := hide (bAl (o := .cells #[.slice bo (ibytes x).length bc] 29) B.out)
  refine (of_any 3 (by omega) (by omega) (some ⟨w3.heap.size, 0, none⟩) 1 [⟨bo, bc, ibytes x⟩] H.out (by simp [dtext, lsOf, ptexts, ptext, be_length, ibytes_length]) (HT.out.below B.out)).mono ?_
  rintro e w5 ⟨rfl, hb⟩
  replace R := hide (R.out.after hb rfl)
  replace B := hide (bOn B.out hb)
  clear hb H P PN
  obtain ⟨F, hF⟩ : ∃ F, dsha 3 (lsOf [⟨bo, bc, ibytes x⟩]) = F := ⟨_, rfl⟩
  rw [hF]
  have HF : Hid (dsha 3 [ibytes x] = F) := hF
  clear hF
  go_wp2_with (refine wpList_store_mid rfl 36 _ _ rfl (w.heap.size + 1) 0 (rowV 32 F).toArray rfl rfl (R.out.thereA _) (info_hash32A _) (rowV_oneA _ _) ?_)
  refine bodyPost_ret (v := .agg (rowV 32 F).toArray) ?_ rfl ⟨by rw [HF.out], setCells_below B.out (by omega) _ _⟩
  have hlv := run_loadVar_mid (P := Tryd.prog) _ _ _ _ _ _ (R.out.stored F).range Tryd.underlying36 rfl (info_hash32 _)
  exact results_one Tryd.results9 rfl hlv
set_option maxRecDepth 100000 in
set_option maxHeartbeats 4000000 in
theorem leafI_any (x : Itn) (hx : x.Ok) (w : World) (ht : Tab w 1) :
    Calls Tryd.prog 11 #[itnV x] w fun e w' => e = .returned (.agg (rowV 32 (dsha 0 [ibytes x])).toArray) ∧ Below w.heap.size w w' := by
  have HX := hide hx; have HT := hide ht
  clear hx ht
  go_enter Tryd.func11, Tryd.ntmps11
  go_wp2_with fail
  have B : Hid (Below w.heap.size w (w.alloc (.cells #[.int .u32 x.i, .int .u8 x.t, .int .u8 x.o, .int .u64 (lm x.a 0), .int .u64 (lm x.a 1), .int .u64 (lm x.a 2), .int .u64 (lm x.a 3)] 27))) := bAl (bMe w)
  have hz : (w.alloc (.cells #[.int .u32 x.i, .int .u8 x.t, .int .u8 x.o, .int .u64 (lm x.a 0), .int .u64 (lm x.a 1), .int .u64 (lm x.a 2), .int .u64 (lm x.a 3)] 27)).heap.size = w.heap.size + 1 := by simp
  generalize w.alloc (.cells #[.int .u32 x.i, .int .u8 x.t, .int .u8 x.o, .int .u64 (lm x.a 0), .int .u64 (lm x.a 1), .int .u64 (lm x.a 2), .int .u64 (lm x.a 3)] 27) = w1 at *
  have R := hide (BRow.zeros32 w1 hz)
  replace B := hide (bAl (o := (.cells #[.int .u8 0, .int .u8 0, .int .u8 0, .int .u8 0, .int .u8 0, .int .u8 0, .int .u8 0, .int .u8 0, .int .u8 0, .int .u8 0, .int .u8 0, .int .u8 0, .int .u8 0, .int .u8 0, .int .u8 0, .int .u8 0, .int .u8 0, .int .u8 0, .int .u8 0, .int .u8 0, .int .u8 0, .int .u8 0, .int .u8 0, .int .u8 0, .int .u8 0, .int .u8 0, .int .u8 0, .int .u8 0, .int .u8 0, .int .u8 0, .int .u8 0, .int .u8 0] 36)) B.out)
  generalize w1.alloc (.cells #[.int .u8 0, .int .u8 0, .int .u8 0, .int .u8 0, .int .u8 0, .int .u8 0, .int .u8 0, .int .u8 0, .int .u8 0, .int .u8 0, .int .u8 0, .int .u8 0, .int .u8 0, .int .u8 0, .int .u8 0, .int .u8 0, .int .u8 0, .int .u8 0, .int .u8 0, .int .u8 0, .int .u8 0, .int .u8 0, .int .u8 0, .int .u8 0, .int .u8 0, .int .u8 0, .int .u8 0, .int .u8 0, .int .u8 0, .int .u8 0, .int .u8 0, .int .u8 0] 36) = w2 at *
  clear hz
  refine (ibytes_any x HX.out w2).mono ?_
  rintro e w3 ⟨v, rfl, hv, hb⟩
  obtain ⟨bo, bc, rfl, k1, k2, k3⟩ := hv.cell
  have P : Hid (PtOk w3 ⟨bo, bc, ibytes x⟩) := ⟨k3, k1, k2, ibytes_byt x⟩
  have PN : Hid (bo = none → bc = 0) := hv.at.2
  replace R := hide (R.out.after hb rfl)
  replace B := hide (bOn B.out hb)
  clear hv hb k1 k2 k3
  go_wp2_with fail
  refine (leaf_any bo bc (ibytes x) P.out PN.out (by rw [ibytes_length]; omega) (HT.out.below B.out)).mono ?_
  rintro e w5 ⟨rfl, hb⟩
  replace R := hide (R.out.after hb rfl)
  replace B := hide (bOn B.out hb)
  clear hb P PN
  obtain ⟨F, hF⟩ : ∃ F, dsha 0 [ibytes x] = F := ⟨_, rfl⟩
  rw [hF]
  have HF : Hid (dsha 0 [ibytes x] = F) := hF
  clear hF
  go_wp2_with (refine wpList_store_mid rfl 36 _ _ rfl (w.heap.size + 1) 0 (rowV 32 F).toArray rfl rfl (R.out.thereA _) (info_hash32A _) (rowV_oneA _ _) ?_)
  refine bodyPost_ret (v := .agg (rowV 32 F).toArray) ?_ rfl ⟨by rw [HF.out], setCells_below B.out (by omega) _ _⟩
  have hlv := run_loadVar_mid (P := Tryd.prog) _ _ _ _ _ _ (R.out.stored F).range Tryd.underlying36 rfl (info_hash32 _)
  exact results_one Tryd.results11 rfl hlv
set_option maxRecDepth 100000 in
set_option maxHeartbeats 4000000 in
theorem refid_any (x : Itn) (hx : x.Ok) (w : World) (ht : Tab w 0) :
    Calls Tryd.prog 10 #[itnV x] w fun e w' => e = .returned (.agg (rowV 32 (dsha 3 [ibytes x])).toArray) ∧ Below w.heap.size w w' := by
  have HX := hide hx; have HT := hide ht
  clear hx ht
  go_enter Tryd.func10, Tryd.ntmps10
  go_wp2_with fail
  have B : Hid (Below w.heap.size w (w.alloc (.cells #[.int .u32 x.i, .int .u8 x.t, .int .u8 x.o, .int .u64 (lm x.a 0), .int .u64 (lm x.a 1), .int .u64 (lm x.a 2), .int .u64 (lm x.a 3)] 27))) := bAl (bMe w)
  have hz : (w.alloc (.cells #[.int .u32 x.i, .int .u8 x.t, .int .u8 x.o, .int .u64 (lm x.a 0), .int .u64 (lm x.a 1), .int .u64 (lm x.a 2), .int .u64 (lm x.a 3)] 27)).heap.size = w.heap.size + 1 := by simp
  generalize w.alloc (.cells #[.int .u32 x.i, .int .u8 x.t, .int .u8 x.o, .int .u64 (lm x.a 0), .int .u64 (lm x.a 1), .int .u64 (lm x.a 2), .int .u64 (lm x.a 3)] 27) = w1 at *
  have R := hide (BRow.zeros32 w1 hz)
  replace B := hide (bAl (o := (.cells #[.int .u8 0, .int .u8 0, .int .u8 0, .int .u8 0, .int .u8 0, .int .u8 0, .int .u8 0, .int .u8 0, .int .u8 0, .int .u8 0, .int .u8 0, .int .u8 0, .int .u8 0, .int .u8 0, .int .u8 0, .int .u8 0, .int .u8 0, .int .u8 0, .int .u8 0, .int .u8 0, .int .u8 0, .int .u8 0, .int .u8 0, .int .u8 0, .int .u8 0, .int .u8 0, .int .u8 0, .int .u8 0, .int .u8 0, .int .u8 0, .int .u8 0, .int .u8 0] 36)) B.out)
  generalize w1.alloc (.cells #[.int .u8 0, .int .u8 0, .int .u8 0, .int .u8 0, .int .u8 0, .int .u8 0, .int .u8 0, .int .u8 0, .int .u8 0, .int .u8 0, .int .u8 0, .int .u8 0, .int .u8 0, .int .u8 0, .int .u8 0, .int .u8 0, .int .u8 0, .int .u8 0, .int .u8 0, .int .u8 0, .int .u8 0, .int .u8 0, .int .u8 0, .int .u8 0, .int .u8 0, .int .u8 0, .int .u8 0, .int .u8 0, .int .u8 0, .int .u8 0, .int .u8 0, .int .u8 0] 36) = w2 at *
  clear hz
  refine (text7_any x HX.out w2).mono ?_
  rintro e w3 ⟨rfl, hb⟩
  replace R := hide (R.out.after hb rfl)
  replace B := hide (bOn B.out hb)
  clear hb
  go_wp2_with fail
  have H := hide (one_str7 w3 (ibytes x) 9 rfl)
  replace R := hide (R.out.past (.cells #[.string (strOfNums (ibytes x))] 9))
  replace B := hide (bAl (o := .cells #[.string (strOfNums (ibytes x))] 9) B.out)
  refine (refof_any 3 (by omega) (by omega) (some ⟨w3.heap.size, 0, none⟩) 1 [ibytes x] H.out (fun m hm => by simp at hm; subst hm; exact ibytes_byt x) (by simp [dtext, ptexts, ptext, be_length, ibytes_length]) (by simp) (HT.out.below B.out)).mono ?_
  rintro e w5 ⟨rfl, hb⟩
  replace R := hide (R.out.after hb rfl)
  replace B := hide (bOn B.out hb)
  clear hb H
  obtain ⟨F, hF⟩ : ∃ F, dsha 3 [ibytes x] = F := ⟨_, rfl⟩
  rw [hF]
  have HF : Hid (dsha 3 [ibytes x] = F) := hF
  clear hF
  go_wp2_with (refine wpList_store_mid rfl 36 _ _ rfl (w.heap.size + 1) 0 (rowV 32 F).toArray rfl rfl (R.out.thereA _) (info_hash32A _) (rowV_oneA _ _) ?_)
  refine bodyPost_ret (v := .agg (rowV 32 F).toArray) ?_ rfl ⟨by rw [HF.out], setCells_below B.out (by omega) _ _⟩
  have hlv := run_loadVar_mid (P := Tryd.prog) _ _ _ _ _ _ (R.out.stored F).range Tryd.underlying36 rfl (info_hash32 _)
  exact results_one Tryd.results10 rfl hlv
set_option maxRecDepth 100000 in
set_option maxHeartbeats 4000000 in
theorem refleaf_any (x : Itn) (hx : x.Ok) (w : World) (ht : Tab w 0) :
    Calls Tryd.prog 12 #[itnV x] w fun e w' => e = .returned (.agg (rowV 32 (dsha 0 [ibytes x])).toArray) ∧ Below w.heap.size w w' := by
  have HX := hide hx; have HT := hide ht
  clear hx ht
  go_enter Tryd.func12, Tryd.ntmps12
  go_wp2_with fail
  have B : Hid (Below w.heap.size w (w.alloc (.cells #[.int .u32 x.i, .int .u8 x.t, .int .u8 x.o, .int .u64 (lm x.a 0), .int .u64 (lm x.a 1), .int .u64 (lm x.a 2), .int .u64 (lm x.a 3)] 27))) := bAl (bMe w)
  have hz : (w.alloc (.cells #[.int .u32 x.i, .int .u8 x.t, .int .u8 x.o, .int .u64 (lm x.a 0), .int .u64 (lm x.a 1), .int .u64 (lm x.a 2), .int .u64 (lm x.a 3)] 27)).heap.size = w.heap.size + 1 := by simp
  generalize w.alloc (.cells #[.int .u32 x.i, .int .u8 x.t, .int .u8 x.o, .int .u64 (lm x.a 0), .int .u64 (lm x.a 1), .int .u64 (lm x.a 2), .int .u64 (lm x.a 3)] 27) = w1 at *
  have R := hide (BRow.zeros32 w1 hz)
  replace B := hide (bAl (o := (.cells #[.int .u8 0, .int .u8 0, .int .u8 0, .int .u8 0, .int .u8 0, .int .u8 0, .int .u8 0, .int .u8 0, .int .u8 0, .int .u8 0, .int .u8 0, .int .u8 0, .int .u8 0, .int .u8 0, .int .u8 0, .int .u8 0, .int .u8 0, .int .u8 0, .int .u8 0, .int .u8 0, .int .u8 0, .int .u8 0, .int .u8 0, .int .u8 0, .int .u8 0, .int .u8 0, .int .u8 0, .int .u8 0, .int .u8 0, .int .u8 0, .int .u8 0, .int .u8 0] 36)) B.out)
  generalize w1.alloc (.cells #[.int .u8 0, .int .u8 0, .int .u8 0, .int .u8 0, .int .u8 0, .int .u8 0, .int .u8 0, .int .u8 0, .int .u8 0, .int .u8 0, .int .u8 0, .int .u8 0, .int .u8 0, .int .u8 0, .int .u8 0, .int .u8 0, .int .u8 0, .int .u8 0, .int .u8 0, .int .u8 0, .int .u8 0, .int .u8 0, .int .u8 0, .int .u8 0, .int .u8 0, .int .u8 0, .int .u8 0, .int .u8 0, .int .u8 0, .int .u8 0, .int .u8 0, .int .u8 0] 36) = w2 at *
  clear hz
  refine (text7_any x HX.out w2).mono ?_
  rintro e w3 ⟨rfl, hb⟩
  replace R := hide (R.out.after hb rfl)
  replace B := hide (bOn B.out hb)
  clear hb
  go_wp2_with fail
  have H := hide (one_str7 w3 (ibytes x) 9 rfl)
  replace R := hide (R.out.past (.cells #[.string (strOfNums (ibytes x))] 9))
  replace B := hide (bAl (o := .cells #[.string (strOfNums (ibytes x))] 9) B.out)
  refine (refof_any 0 (by omega) (by omega) (some ⟨w3.heap.size, 0, none⟩) 1 [ibytes x] H.out (fun m hm => by simp at hm; subst hm; exact ibytes_byt x) (by simp [dtext, ptexts, ptext, be_length, ibytes_length]) (by simp) (HT.out.below B.out)).mono ?_
  rintro e w5 ⟨rfl, hb⟩
  replace R := hide (R.out.after hb rfl)
  replace B := hide (bOn B.out hb)
  clear hb H
  obtain ⟨F, hF⟩ : ∃ F, dsha 0 [ibytes x] = F := ⟨_, rfl⟩
  rw [hF]
  have HF : Hid (dsha 0 [ibytes x] = F) := hF
  clear hF
  go_wp2_with (refine wpList_store_mid rfl 36 _ _ rfl (w.heap.size + 1) 0 (rowV 32 F).toArray rfl rfl (R.out.thereA _) (info_hash32A _) (rowV_oneA _ _) ?_)
  refine bodyPost_ret (v := .agg (rowV 32 F).toArray) ?_ rfl ⟨by rw [HF.out], setCells_below B.out (by omega) _ _⟩
  have hlv := run_loadVar_mid (P := Tryd.prog) _ _ _ _ _ _ (R.out.stored F).range Tryd.underlying36 rfl (info_hash32 _)
  exact results_one Tryd.results12 rfl hlv
end Go.Proofs.YthcahgfoganehaaDoor
