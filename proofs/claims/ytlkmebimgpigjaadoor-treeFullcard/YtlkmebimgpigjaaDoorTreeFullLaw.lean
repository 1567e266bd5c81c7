/- The walk of sponsionlaw10.TreeFull over this translation (written by gen-treefulllaw.py). -/
import Derived.Test.YtlkmebimgpigjaaDoorTreeLives
import Derived.Test.YtlkmebimgpigjaaDoorHand2
import Derived.OpenShut
namespace Go.Proofs.YtlkmebimgpigjaaDoor
open Go.RowKit Go.Lib
attribute [local go_sem] setCell_drewN alloc_drewN eqHash sameH_self

/-- The node above like ones. -/
def fulln (h : Hs) : Nat → Hs
  | 0 => h
  | k + 1 => dnode (fulln h k) (fulln h k)
theorem fulln_next (h : Hs) (k : Nat) : fulln h (k + 1) = dnode (fulln h k) (fulln h k) := rfl
theorem fulln_ok {h : Hs} (hh : Hok h) : ∀ k, Hok (fulln h k)
  | 0 => hh
  | _ + 1 => dnode_ok _ _
theorem tn_full (h : Hs) (n : Nat) : ∀ k i, (i + 1) * 2 ^ k ≤ n → tn (List.replicate n h) k i = fulln h k
  | 0, i, hi => by
    rw [tn_zero, List.getD_eq_getElem?_getD, List.getElem?_replicate, if_pos (by simp at hi; omega)]; rfl
  | k + 1, i, hi => by
    have e : (i + 1) * 2 ^ (k + 1) = (2 * i + 1 + 1) * 2 ^ k := by rw [Nat.pow_succ, show 2 * i + 1 + 1 = (i + 1) * 2 by omega, Nat.mul_assoc, Nat.mul_comm 2]
    have h2 : (2 * i + 1) * 2 ^ k ≤ (2 * i + 1 + 1) * 2 ^ k := Nat.mul_le_mul_right _ (by omega)
    rw [tn_next, tn_full h n k (2 * i) (by omega), tn_full h n k (2 * i + 1) (by omega), fulln_next]
/-- What stands while leaves are appended. -/
structure FX (w0 w : World) (gt : Nat) (d : Nat) (L : List Hs) (h : Hs) : Prop where
  box : BRow w w0.heap.size 32 h
  tree : ∃ S, Tr w gt S d L ∧ ∀ k, S k → w0.heap.size < k
  below : Below w0.heap.size w0 w
theorem FX.after {w0 w w' : World} {gt d : Nat} {L : List Hs} {h : Hs} (x : FX w0 w gt d L h) (hb : Below w.heap.size w w') : FX w0 w' gt d L h := by
  obtain ⟨S, h1, h2⟩ := x.tree
  exact ⟨x.box.after hb rfl, ⟨S, h1.below hb, h2⟩, bOn x.below hb⟩
theorem FX.step {w0 w w' : World} {gt d : Nat} {L : List Hs} {h : Hs} (x : FX w0 w gt d L h) {S S' : Nat → Prop} (hS : ∀ k, S k → w0.heap.size < k) {L' : List Hs} (ht : Tr w' gt S' d L') (m : Mv S S' w w') : FX w0 w' gt d L' h := by
  refine ⟨x.box.of m.size (m.block _ x.box.lt (fun e => by have := hS _ e; omega)), ⟨S', ht, fun k hk => ?_⟩, m.below x.below (fun k hk => Nat.le_of_lt (hS k hk))⟩
  rcases m.own k hk with e | e
  · exact hS k e
  · exact Nat.lt_of_lt_of_le x.box.lt e
/-- What stands while all is held against each other. -/
structure FY (w0 : World) (gt g1 g2 : Nat) (S : Nat → Prop) (d : Nat) (L : List Hs) (h R F : Hs) (w : World) : Prop where
  b0 : BRow w w0.heap.size 32 h
  b1 : BRow w g1 32 R
  b2 : BRow w g2 32 F
  tree : Tr w gt S d L
  below : Below w0.heap.size w0 w
  lo1 : w0.heap.size < g1
  lo2 : g1 < g2
  far : ∀ k, S k → k < g1
theorem FY.after {w0 w w' : World} {gt g1 g2 : Nat} {S : Nat → Prop} {d : Nat} {L : List Hs} {h R F : Hs} (x : FY w0 gt g1 g2 S d L h R F w) (hb : Below w.heap.size w w') : FY w0 gt g1 g2 S d L h R F w' :=
  ⟨x.b0.after hb rfl, x.b1.after hb rfl, x.b2.after hb rfl, x.tree.below hb, bOn x.below hb, x.lo1, x.lo2, x.far⟩
theorem FY.put {w0 w : World} {gt g1 g2 : Nat} {S : Nat → Prop} {d : Nat} {L : List Hs} {h R F : Hs} (x : FY w0 gt g1 g2 S d L h R F w) (F' : Hs) : FY w0 gt g1 g2 S d L h R F' (w.setCells g2 0 (rowV 32 F')) :=
  ⟨x.b0.off (by have := x.lo1; have := x.lo2; omega) _ _, x.b1.off (by have := x.lo2; omega) _ _, x.b2.stored F', x.tree.of (by rw [setCells_size]; exact Nat.le_refl _) (fun k hk => setCells_block _ _ _ _ _ (by have := x.far k hk; have := x.lo2; omega)), setCells_below x.below (by have := x.lo1; have := x.lo2; omega) _ _, x.lo1, x.lo2, x.far⟩
/-- A new box is stored into. -/
theorem new_put {w : World} (F : Hs) : Below w.heap.size w ((w.alloc (.cells #[.int .u8 0, .int .u8 0, .int .u8 0, .int .u8 0, .int .u8 0, .int .u8 0, .int .u8 0, .int .u8 0, .int .u8 0, .int .u8 0, .int .u8 0, .int .u8 0, .int .u8 0, .int .u8 0, .int .u8 0, .int .u8 0, .int .u8 0, .int .u8 0, .int .u8 0, .int .u8 0, .int .u8 0, .int .u8 0, .int .u8 0, .int .u8 0, .int .u8 0, .int .u8 0, .int .u8 0, .int .u8 0, .int .u8 0, .int .u8 0, .int .u8 0, .int .u8 0] 32)).setCells w.heap.size 0 (rowV 32 F)) := setCells_below (bAl (bMe w)) (Nat.le_refl _) _ _
set_option maxRecDepth 100000 in
set_option maxHeartbeats 8000000 in
theorem treeFull_walk (a : Int) (h : Hs) (w : World) (hw : (Lit.int .u8 a).wf = true) (hh : ∀ j, 0 ≤ h j ∧ h j < 256) (ht : Tab w 1) :
    Calls Tryd.prog 6 #[.int .u8 a, .agg (rowV 32 h).toArray] w fun e w' => e = .returned (.bool true) ∧ Below w.heap.size w w' := by
  have HT := hide ht
  have HOK : Hid (Hok h) := hh
  have hab := Go.bounds_u8 hw
  obtain ⟨a0, a1'⟩ := hab
  have a1 : a ≤ 255 := by omega
  obtain ⟨d, hd⟩ : ∃ d : Nat, a % 7 = (d : Int) := ⟨(a % 7).toNat, by omega⟩
  have hd6 : d ≤ 6 := by omega
  have hdi : (d : Int) ≤ 6 := by omega
  clear ht hh hw a1'
  have BX := hide (BRow.box w 32 h 32 (g := w.heap.size) rfl)
  have B : Hid (Below w.heap.size w (w.alloc (.cells (rowV 32 h).toArray 32))) := bAl (bMe w)
  go_enter Tryd.func6, Tryd.ntmps6
  go_wp2_with fail
  generalize w.alloc (.cells (rowV 32 h).toArray 32) = w1 at *
  refine (lives10_any (HT.out.below B.out)).mono ?_
  rintro e w2 ⟨rfl, hb⟩
  replace BX := hide (BX.out.after hb rfl)
  replace B := hide (bOn B.out hb)
  clear hb
  go_wp2_with fail
  refine (tnew_any d (by omega)).mono ?_
  rintro e w3 ⟨rfl, hbox, hb⟩
  have X : Hid (FX w w3 w2.heap.size d [] h) := ⟨BX.out.after hb rfl, ⟨_, Tr.new (by omega) hbox, fun k hk => by rw [hk]; exact BX.out.lt⟩, bOn B.out hb⟩
  clear hbox hb BX B
  generalize w2.heap.size = gt at *
  obtain ⟨n, hn⟩ : ∃ n : Nat, 2 ^ d = n := ⟨_, rfl⟩
  have hn64 : n ≤ 64 := by rw [← hn]; exact Nat.pow_le_pow_right (n := 2) (by omega) hd6
  have hwp : IntKind.i64.wrap ((2 : Int) ^ d) = (n : Int) := by
    have e : ((2 : Int) ^ d) = ((2 ^ d : Nat) : Int) := by simp
    rw [e, hn, IntKind.wrap_i64]; omega
  have hni : (n : Int) ≤ 64 := by omega
  have HN := hide hn
  have hdw : Hid (True) := trivial
  clear hn hdw
  go_wp2_with fail
  go_loopg [30] n (fun gk t wr => ∃ k : Nat, gk + k = n ∧ t = .int .i64 k ∧ FX w wr gt d (List.replicate k h) h)
  case atStart => exact ⟨0, by omega, rfl, X.out⟩
  case round =>
    obtain ⟨k, hk, rfl, hx⟩ := hrel
    clear X
    have X := hide hx; have HK := hide hk
    clear hx hk
    by_cases hlt : k < n
    · have hki : (k : Int) < (n : Int) := by omega
      obtain ⟨S1, hT, hS⟩ := X.out.tree
      have HTR := hide hT; have HS := hide hS
      clear hT hS
      go_wp2_with (refine wpList_load_mid rfl 32 _ rfl w.heap.size 0 rfl (rowV 32 h) _ X.out.box.range Tryd.underlying32 rfl (info_hash32 _) ?_)
      refine (append_any HTR.out h HOK.out (by rw [List.length_replicate, HN.out]; exact hlt) (by rw [List.length_replicate]; omega) HT.out X.out.below (fun k hk => Nat.le_of_lt (HS.out k hk))).mono ?_
      rintro e w5 ⟨rfl, S2, hT2, hM⟩
      rw [List.length_replicate]
      have X5 : Hid (FX w w5 gt d (List.replicate (k + 1) h) h) := by
        rw [List.replicate_succ']
        exact X.out.step HS.out hT2 hM
      clear hT2 hM
      go_wp2
      go_roundg (n - k - 1)
      case measure => have := HK.out; omega
      case rel => exact ⟨k + 1, by omega, by go_num, X5.out⟩
    · obtain rfl : k = n := by have := HK.out; omega
      obtain ⟨S1, hT, hS⟩ := X.out.tree
      have HTR := hide hT; have HS := hide hS
      clear hT hS
      obtain ⟨L, hL⟩ : ∃ L, List.replicate k h = L := ⟨_, rfl⟩
      obtain ⟨R, hR⟩ : ∃ R, fulln h d = R := ⟨_, rfl⟩
      have HLF : Hid (L.length = 2 ^ d) := by rw [← hL, List.length_replicate]; exact HN.out.symm
      have HRT : Hid (tn L d 0 = R) := by rw [← hL, ← hR]; exact tn_full h k d 0 (by rw [HN.out]; omega)
      have HR := hide hR
      rw [hL] at HTR X
      clear hL hR
      go_wp2_with fail
      refine (root_any HTR.out (HT.out.below X.out.below)).mono ?_
      rintro e w5 ⟨rfl, hb⟩
      rw [HRT.out]
      have Z0 : Hid (BRow w5 w.heap.size 32 h ∧ Tr w5 gt S1 d L ∧ Below w.heap.size w w5 ∧ w.heap.size < w5.heap.size) := ⟨X.out.box.after hb rfl, HTR.out.below hb, bOn X.out.below hb, Nat.lt_of_lt_of_le X.out.box.lt hb.size⟩
      clear hb X HTR
      have R5 := hide (BRow.zeros32 w5 (g := w5.heap.size) rfl)
      go_wp2_with (refine wpList_store_stop rfl 32 _ _ rfl w5.heap.size 0 (rowV 32 R) rfl rfl (R5.out.thereA R) (info_hash32A R) (rowV_oneA _ _) ?_)
      intro w6 hw6
      have Z1 : Hid (BRow w6 w.heap.size 32 h ∧ BRow w6 w5.heap.size 32 R ∧ Tr w6 gt S1 d L ∧ Below w.heap.size w w6 ∧ w.heap.size < w5.heap.size ∧ ∀ k, S1 k → k < w5.heap.size) := by
        show _ ∧ _ ∧ _ ∧ _ ∧ _ ∧ _
        rw [hw6.out]
        have hb := new_put (w := w5) R
        exact ⟨Z0.out.1.after hb rfl, R5.out.stored R, Z0.out.2.1.below hb, bOn Z0.out.2.2.1 hb, Z0.out.2.2.2, Z0.out.2.1.box.low⟩
      clear hw6 R5 Z0
      generalize w5.heap.size = g1 at *
      go_wp2_with (refine wpList_load_mid rfl 32 _ rfl w.heap.size 0 rfl (rowV 32 h) _ Z1.out.1.range Tryd.underlying32 rfl (info_hash32 _) ?_)
      refine (append_full Z1.out.2.2.1 h HLF.out).mono ?_
      rintro e w7 ⟨rfl, hb⟩
      replace Z1 : Hid (BRow w7 w.heap.size 32 h ∧ BRow w7 g1 32 R ∧ Tr w7 gt S1 d L ∧ Below w.heap.size w w7 ∧ w.heap.size < g1 ∧ ∀ k, S1 k → k < g1) := ⟨Z1.out.1.after hb rfl, Z1.out.2.1.after hb rfl, Z1.out.2.2.1.below hb, bOn Z1.out.2.2.2.1 hb, Z1.out.2.2.2.2.1, Z1.out.2.2.2.2.2⟩
      clear hb
      have R7 := hide (BRow.zeros32 w7 (g := w7.heap.size) rfl)
      have HB0 : Hid (BRow (w7.alloc (.cells #[.int .u8 0, .int .u8 0, .int .u8 0, .int .u8 0, .int .u8 0, .int .u8 0, .int .u8 0, .int .u8 0, .int .u8 0, .int .u8 0, .int .u8 0, .int .u8 0, .int .u8 0, .int .u8 0, .int .u8 0, .int .u8 0, .int .u8 0, .int .u8 0, .int .u8 0, .int .u8 0, .int .u8 0, .int .u8 0, .int .u8 0, .int .u8 0, .int .u8 0, .int .u8 0, .int .u8 0, .int .u8 0, .int .u8 0, .int .u8 0, .int .u8 0, .int .u8 0] 32)) w.heap.size 32 h) := Z1.out.1.past _
      go_wp2_with (first
        | refine wpList_load_mid rfl 32 _ rfl w.heap.size 0 rfl (rowV 32 h) _ Z1.out.1.range Tryd.underlying32 rfl (info_hash32 _) ?_
        | refine wpList_store_stop rfl 32 _ _ rfl w7.heap.size 0 (rowV 32 h) rfl rfl (R7.out.thereA h) (info_hash32A h) (rowV_oneA _ _) ?_)
      intro w8 hw8
      have Y : Hid (FY w gt g1 w7.heap.size S1 d L h R (fulln h 0) w8) := by
        show FY _ _ _ _ _ _ _ _ _ _ _
        rw [hw8.out]
        have hb := new_put (w := w7) h
        exact ⟨Z1.out.1.after hb rfl, Z1.out.2.1.after hb rfl, R7.out.stored h, Z1.out.2.2.1.below hb, bOn Z1.out.2.2.2.1 hb, Z1.out.2.2.2.2.1, Z1.out.2.1.lt, Z1.out.2.2.2.2.2⟩
      clear hw8 R7 Z1 HB0
      generalize w7.heap.size = g2 at *
      go_wp2
      go_loopg [58] d (fun gk t wr => ∃ j : Nat, gk + j = d ∧ t = .int .i64 j ∧ FY w gt g1 g2 S1 d L h R (fulln h j) wr)
      case atStart => exact ⟨0, by omega, rfl, Y.out⟩
      case round =>
        obtain ⟨j, hj, rfl, hy⟩ := hrel
        clear Y
        have Y := hide hy; have HJ := hide hj
        clear hy hj
        by_cases hltj : j < d
        · have hji : (j : Int) < (d : Int) := by omega
          have HF := hide (fulln_ok HOK.out j)
          have HFN := hide (fulln_next h j)
          obtain ⟨F, hF⟩ : ∃ F, fulln h j = F := ⟨_, rfl⟩
          rw [hF] at Y HF HFN
          clear hF
          go_wp2_with (refine wpList_load_mid rfl 32 _ rfl g2 0 rfl (rowV 32 F) _ Y.out.b2.range Tryd.underlying32 rfl (info_hash32 _) ?_)
          refine (node_any F F HF.out HF.out (HT.out.below Y.out.below)).mono ?_
          rintro e w9 ⟨rfl, hb⟩
          replace Y := hide (Y.out.after hb)
          clear hb
          obtain ⟨N, hNN⟩ : ∃ N, dnode F F = N := ⟨_, rfl⟩
          rw [hNN] at HFN
          rw [hNN]
          clear hNN
          go_wp2_with (refine wpList_store_stop rfl 32 _ _ rfl g2 0 (rowV 32 N) rfl rfl (Y.out.b2.thereA N) (info_hash32A N) (rowV_oneA _ _) ?_)
          intro w10 hw10
          have Y2 : Hid (FY w gt g1 g2 S1 d L h R (fulln h (j + 1)) w10) := by
            show FY _ _ _ _ _ _ _ _ _ _ _
            rw [hw10.out, HFN.out]; exact Y.out.put N
          clear hw10 Y
          go_wp2
          go_roundg (d - j - 1)
          case measure => have := HJ.out; omega
          case rel => exact ⟨j + 1, by omega, by go_num, Y2.out⟩
        · obtain rfl : j = d := by have := HJ.out; omega
          rw [HR.out] at Y
          go_wp2_with (refine wpList_load_mid rfl 32 _ rfl w.heap.size 0 rfl (rowV 32 h) _ Y.out.b0.range Tryd.underlying32 rfl (info_hash32 _) ?_)
          refine (append_nil h).mono ?_
          rintro e w9 ⟨rfl, hb⟩
          replace Y := hide (Y.out.after hb)
          clear hb
          go_wp2_with fail
          refine (leaf_nil (Int.le_refl 0)).mono ?_
          rintro e w10 ⟨rfl, hb⟩
          replace Y := hide (Y.out.after hb)
          clear hb
          have R10 := hide (BRow.zeros32 w10 (g := w10.heap.size) rfl)
          go_wp2_with (refine wpList_store_stop rfl 32 _ _ rfl w10.heap.size 0 (rowV 32 hz) rfl rfl (R10.out.thereA hz) (info_hash32A hz) (rowV_oneA _ _) ?_)
          intro w11 hw11
          have Y11 : Hid (FY w gt g1 g2 S1 j L h R R w11) := by
            show FY _ _ _ _ _ _ _ _ _ _ _
            rw [hw11.out]; exact Y.out.after (new_put hz)
          clear hw11 R10 Y
          go_wp2_with fail
          refine (node_nil 0 0 0).mono ?_
          rintro e w12 ⟨rfl, hb⟩
          replace Y11 := hide (Y11.out.after hb)
          clear hb
          have R12 := hide (BRow.zeros32 w12 (g := w12.heap.size) rfl)
          go_wp2_with (refine wpList_store_stop rfl 32 _ _ rfl w12.heap.size 0 (rowV 32 hz) rfl rfl (R12.out.thereA hz) (info_hash32A hz) (rowV_oneA _ _) ?_)
          intro w13 hw13
          have Y13 : Hid (FY w gt g1 g2 S1 j L h R R w13) := by
            show FY _ _ _ _ _ _ _ _ _ _ _
            rw [hw13.out]; exact Y11.out.after (new_put hz)
          clear hw13 R12 Y11
          go_wp2_with fail
          have X : Hid (FY w gt g1 g2 S1 j L h R R w13.drew) := Y13.out.after (bMe w13).drew
          refine wp_region_held_drew (S := FY w gt g1 g2 S1 j L h R R) (by kernel_rfl) X.out (fun _ => ?_)
          refine tk0 (v := .int .i64 7) (by kernel_rfl) (by kernel_rfl) (by kernel_rfl) (fun _ _ _ h => h) X.out (Or.inl ⟨by rfl, fun w hw => by go_simp; try (with_reducible rfl)⟩) ?_
          simp only [Act.put, List.setIfInBounds_toArray, List.set_cons_zero, List.set_cons_succ]
          refine tk1 (v := .bool true) (by kernel_rfl) (by kernel_rfl) (by kernel_rfl) (fun _ _ _ h => h) X.out (Or.inl ⟨by rfl, fun w hw => by go_simp; try (with_reducible rfl)⟩) ?_
          simp only [Act.put, List.setIfInBounds_toArray, List.set_cons_zero, List.set_cons_succ]
          refine tk2 (v := .bool true) (by kernel_rfl) (by kernel_rfl) (by kernel_rfl) (fun _ _ _ h => h) X.out (Or.inl ⟨by rfl, fun w hw => by go_simp; try (with_reducible rfl)⟩) ?_
          simp only [Act.put, List.setIfInBounds_toArray, List.set_cons_zero, List.set_cons_succ]
          refine tk3 (v := .pointer (some ⟨gt, 0, none⟩)) (by kernel_rfl) (by kernel_rfl) (by kernel_rfl) (fun _ _ _ h => h) X.out (Or.inl ⟨by rfl, fun w hw => by go_simp; try (with_reducible rfl)⟩) ?_
          simp only [Act.put, List.setIfInBounds_toArray, List.set_cons_zero, List.set_cons_succ]
          refine tk5 (by kernel_rfl) (by kernel_rfl) (by kernel_rfl) (fun _ _ _ h => h) X.out (yieldsIf_load_mid (by rfl) _ _ rfl g1 (0) rfl (rowV 32 R) _ (fun _ hw => hw.b1.range) Tryd.underlying32 rfl (info_hash32 _)) ?_
          simp only [Act.put, List.setIfInBounds_toArray, List.set_cons_zero, List.set_cons_succ]
          refine wpAnyH_ready (rs := [4]) (by kernel_rfl) (by simp) ?_
          refine rd4 (fun K hK => ?_) AllReadyH.nil
          go_simp
          refine (root_any X.out.tree (HT.out.below X.out.below)).mono ?_
          rintro e4 w4 ⟨rfl, hb⟩
          simp only []
          replace X := hide (X.out.after hb)
          clear hb
          refine hK.out _ _ X.out (fun _ => ?_)
          clear hK K
          rw [HRT.out]
          refine tk6 (v := .bool true) (by kernel_rfl) (by kernel_rfl) (by kernel_rfl) (fun _ _ _ h => h) X.out (Or.inl ⟨by rfl, fun w hw => by go_simp; try (with_reducible rfl)⟩) ?_
          simp only [Act.put, List.setIfInBounds_toArray, List.set_cons_zero, List.set_cons_succ]
          refine tk7 (v := .bool true) (by kernel_rfl) (by kernel_rfl) (by kernel_rfl) (fun _ _ _ h => h) X.out (Or.inl ⟨by rfl, fun w hw => by go_simp; try (with_reducible rfl)⟩) ?_
          simp only [Act.put, List.setIfInBounds_toArray, List.set_cons_zero, List.set_cons_succ]
          refine tk8 (v := .bool true) (by kernel_rfl) (by kernel_rfl) (by kernel_rfl) (fun _ _ _ h => h) X.out (Or.inl ⟨by rfl, fun w hw => by go_simp; try (with_reducible rfl)⟩) ?_
          simp only [Act.put, List.setIfInBounds_toArray, List.set_cons_zero, List.set_cons_succ]
          refine tk9 (by kernel_rfl) (by kernel_rfl) (by kernel_rfl) (fun _ _ _ h => h) X.out (yieldsIf_load_mid (by rfl) _ _ rfl g1 (0) rfl (rowV 32 R) _ (fun _ hw => hw.b1.range) Tryd.underlying32 rfl (info_hash32 _)) ?_
          simp only [Act.put, List.setIfInBounds_toArray, List.set_cons_zero, List.set_cons_succ]
          refine tk10 (by kernel_rfl) (by kernel_rfl) (by kernel_rfl) (fun _ _ _ h => h) X.out (yieldsIf_load_mid (by rfl) _ _ rfl g2 (0) rfl (rowV 32 R) _ (fun _ hw => hw.b2.range) Tryd.underlying32 rfl (info_hash32 _)) ?_
          simp only [Act.put, List.setIfInBounds_toArray, List.set_cons_zero, List.set_cons_succ]
          refine tk11 (v := .bool true) (by kernel_rfl) (by kernel_rfl) (by kernel_rfl) (fun _ _ _ h => h) X.out (Or.inl ⟨by rfl, fun w hw => by go_simp; try (with_reducible rfl)⟩) ?_
          simp only [Act.put, List.setIfInBounds_toArray, List.set_cons_zero, List.set_cons_succ]
          refine tk12 (v := .bool true) (by kernel_rfl) (by kernel_rfl) (by kernel_rfl) (fun _ _ _ h => h) X.out (Or.inl ⟨by rfl, fun w hw => by go_simp; try (with_reducible rfl)⟩) ?_
          simp only [Act.put, List.setIfInBounds_toArray, List.set_cons_zero, List.set_cons_succ]
          refine tk13 (v := .bool true) (by kernel_rfl) (by kernel_rfl) (by kernel_rfl) (fun _ _ _ h => h) X.out (Or.inl ⟨by rfl, fun w hw => by go_simp; try (with_reducible rfl)⟩) ?_
          simp only [Act.put, List.setIfInBounds_toArray, List.set_cons_zero, List.set_cons_succ]
          refine tk14 (v := .int .i64 1) (by kernel_rfl) (by kernel_rfl) (by kernel_rfl) (fun _ _ _ h => h) X.out (Or.inl ⟨by rfl, fun w hw => by go_simp; try (with_reducible rfl)⟩) ?_
          simp only [Act.put, List.setIfInBounds_toArray, List.set_cons_zero, List.set_cons_succ]
          refine tk15 (v := .bool true) (by kernel_rfl) (by kernel_rfl) (by kernel_rfl) (fun _ _ _ h => h) X.out (Or.inl ⟨by rfl, fun w hw => by go_simp; try (with_reducible rfl)⟩) ?_
          simp only [Act.put, List.setIfInBounds_toArray, List.set_cons_zero, List.set_cons_succ]
          refine tk16 (v := .bool true) (by kernel_rfl) (by kernel_rfl) (by kernel_rfl) (fun _ _ _ h => h) X.out (Or.inl ⟨by rfl, fun w hw => by go_simp; try (with_reducible rfl)⟩) ?_
          simp only [Act.put, List.setIfInBounds_toArray, List.set_cons_zero, List.set_cons_succ]
          refine tk17 (v := .bool true) (by kernel_rfl) (by kernel_rfl) (by kernel_rfl) (fun _ _ _ h => h) X.out (Or.inl ⟨by rfl, fun w hw => by go_simp; try (with_reducible rfl)⟩) ?_
          simp only [Act.put, List.setIfInBounds_toArray, List.set_cons_zero, List.set_cons_succ]
          refine tk18 (v := .bool false) (by kernel_rfl) (by kernel_rfl) (by kernel_rfl) (fun _ _ _ h => h) X.out (Or.inl ⟨by rfl, fun w hw => by go_simp; try (with_reducible rfl)⟩) ?_
          simp only [Act.put, List.setIfInBounds_toArray, List.set_cons_zero, List.set_cons_succ]
          refine tk19 (v := .bool true) (by kernel_rfl) (by kernel_rfl) (by kernel_rfl) (fun _ _ _ h => h) X.out (Or.inl ⟨by rfl, fun w hw => by go_simp; try (with_reducible rfl)⟩) ?_
          simp only [Act.put, List.setIfInBounds_toArray, List.set_cons_zero, List.set_cons_succ]
          refine tk20 (v := .bool true) (by kernel_rfl) (by kernel_rfl) (by kernel_rfl) (fun _ _ _ h => h) X.out (Or.inl ⟨by rfl, fun w hw => by go_simp; try (with_reducible rfl)⟩) ?_
          simp only [Act.put, List.setIfInBounds_toArray, List.set_cons_zero, List.set_cons_succ]
          refine tk21 (v := .bool true) (by kernel_rfl) (by kernel_rfl) (by kernel_rfl) (fun _ _ _ h => h) X.out (Or.inl ⟨by rfl, fun w hw => by go_simp; try (with_reducible rfl)⟩) ?_
          simp only [Act.put, List.setIfInBounds_toArray, List.set_cons_zero, List.set_cons_succ]
          refine tk22 (v := .bool false) (by kernel_rfl) (by kernel_rfl) (by kernel_rfl) (fun _ _ _ h => h) X.out (Or.inl ⟨by rfl, fun w hw => by go_simp; try (with_reducible rfl)⟩) ?_
          simp only [Act.put, List.setIfInBounds_toArray, List.set_cons_zero, List.set_cons_succ]
          refine tk23 (v := .bool true) (by kernel_rfl) (by kernel_rfl) (by kernel_rfl) (fun _ _ _ h => h) X.out (Or.inl ⟨by rfl, fun w hw => by go_simp; try (with_reducible rfl)⟩) ?_
          simp only [Act.put, List.setIfInBounds_toArray, List.set_cons_zero, List.set_cons_succ]
          refine tk24 (v := .bool true) (by kernel_rfl) (by kernel_rfl) (by kernel_rfl) (fun _ _ _ h => h) X.out (Or.inl ⟨by rfl, fun w hw => by go_simp; try (with_reducible rfl)⟩) ?_
          simp only [Act.put, List.setIfInBounds_toArray, List.set_cons_zero, List.set_cons_succ]
          refine tk25 (v := .bool true) (by kernel_rfl) (by kernel_rfl) (by kernel_rfl) (fun _ _ _ h => h) X.out (Or.inl ⟨by rfl, fun w hw => by go_simp; try (with_reducible rfl)⟩) ?_
          simp only [Act.put, List.setIfInBounds_toArray, List.set_cons_zero, List.set_cons_succ]
          refine tk26 (v := .pointer none) (by kernel_rfl) (by kernel_rfl) (by kernel_rfl) (fun _ _ _ h => h) X.out (Or.inl ⟨by rfl, fun w hw => by go_simp; try (with_reducible rfl)⟩) ?_
          simp only [Act.put, List.setIfInBounds_toArray, List.set_cons_zero, List.set_cons_succ]
          refine wpAnyH_ready (rs := [27]) (by kernel_rfl) (by simp) ?_
          refine rd27 (fun K hK => ?_) AllReadyH.nil
          go_simp
          refine (len_nil).mono ?_
          rintro e27 w27 ⟨rfl, hw27⟩
          have hv27 := hw27.symm
          clear hw27
          subst hv27
          simp only []
          refine hK.out _ _ X.out (fun _ => ?_)
          clear hK K
          refine tk28 (v := .bool true) (by kernel_rfl) (by kernel_rfl) (by kernel_rfl) (fun _ _ _ h => h) X.out (Or.inl ⟨by rfl, fun w hw => by go_simp; try (with_reducible rfl)⟩) ?_
          simp only [Act.put, List.setIfInBounds_toArray, List.set_cons_zero, List.set_cons_succ]
          refine tk29 (v := .bool true) (by kernel_rfl) (by kernel_rfl) (by kernel_rfl) (fun _ _ _ h => h) X.out (Or.inl ⟨by rfl, fun w hw => by go_simp; try (with_reducible rfl)⟩) ?_
          simp only [Act.put, List.setIfInBounds_toArray, List.set_cons_zero, List.set_cons_succ]
          refine tk30 (v := .bool true) (by kernel_rfl) (by kernel_rfl) (by kernel_rfl) (fun _ _ _ h => h) X.out (Or.inl ⟨by rfl, fun w hw => by go_simp; try (with_reducible rfl)⟩) ?_
          simp only [Act.put, List.setIfInBounds_toArray, List.set_cons_zero, List.set_cons_succ]
          refine tk31 (v := .pointer none) (by kernel_rfl) (by kernel_rfl) (by kernel_rfl) (fun _ _ _ h => h) X.out (Or.inl ⟨by rfl, fun w hw => by go_simp; try (with_reducible rfl)⟩) ?_
          simp only [Act.put, List.setIfInBounds_toArray, List.set_cons_zero, List.set_cons_succ]
          refine wpAnyH_ready (rs := [32]) (by kernel_rfl) (by simp) ?_
          refine rd32 (fun K hK => ?_) AllReadyH.nil
          go_simp
          refine (depth_nil).mono ?_
          rintro e32 w32 ⟨rfl, hw32⟩
          have hv32 := hw32.symm
          clear hw32
          subst hv32
          simp only []
          refine hK.out _ _ X.out (fun _ => ?_)
          clear hK K
          refine tk33 (v := .bool true) (by kernel_rfl) (by kernel_rfl) (by kernel_rfl) (fun _ _ _ h => h) X.out (Or.inl ⟨by rfl, fun w hw => by go_simp; try (with_reducible rfl)⟩) ?_
          simp only [Act.put, List.setIfInBounds_toArray, List.set_cons_zero, List.set_cons_succ]
          refine tk34 (v := .bool true) (by kernel_rfl) (by kernel_rfl) (by kernel_rfl) (fun _ _ _ h => h) X.out (Or.inl ⟨by rfl, fun w hw => by go_simp; try (with_reducible rfl)⟩) ?_
          simp only [Act.put, List.setIfInBounds_toArray, List.set_cons_zero, List.set_cons_succ]
          refine tk35 (v := .bool true) (by kernel_rfl) (by kernel_rfl) (by kernel_rfl) (fun _ _ _ h => h) X.out (Or.inl ⟨by rfl, fun w hw => by go_simp; try (with_reducible rfl)⟩) ?_
          simp only [Act.put, List.setIfInBounds_toArray, List.set_cons_zero, List.set_cons_succ]
          refine tk36 (v := .pointer none) (by kernel_rfl) (by kernel_rfl) (by kernel_rfl) (fun _ _ _ h => h) X.out (Or.inl ⟨by rfl, fun w hw => by go_simp; try (with_reducible rfl)⟩) ?_
          simp only [Act.put, List.setIfInBounds_toArray, List.set_cons_zero, List.set_cons_succ]
          refine wpAnyH_ready (rs := [37]) (by kernel_rfl) (by simp) ?_
          refine rd37 (fun K hK => ?_) AllReadyH.nil
          go_simp
          refine (cut_nil 0).mono ?_
          rintro e37 w37 ⟨rfl, hw37⟩
          have hv37 := hw37.symm
          clear hw37
          subst hv37
          simp only []
          refine hK.out _ _ X.out (fun _ => ?_)
          clear hK K
          refine tk38 (v := .bool true) (by kernel_rfl) (by kernel_rfl) (by kernel_rfl) (fun _ _ _ h => h) X.out (Or.inl ⟨by rfl, fun w hw => by go_simp; try (with_reducible rfl)⟩) ?_
          simp only [Act.put, List.setIfInBounds_toArray, List.set_cons_zero, List.set_cons_succ]
          refine tk39 (v := .bool true) (by kernel_rfl) (by kernel_rfl) (by kernel_rfl) (fun _ _ _ h => h) X.out (Or.inl ⟨by rfl, fun w hw => by go_simp; try (with_reducible rfl)⟩) ?_
          simp only [Act.put, List.setIfInBounds_toArray, List.set_cons_zero, List.set_cons_succ]
          refine tk40 (v := .bool true) (by kernel_rfl) (by kernel_rfl) (by kernel_rfl) (fun _ _ _ h => h) X.out (Or.inl ⟨by rfl, fun w hw => by go_simp; try (with_reducible rfl)⟩) ?_
          simp only [Act.put, List.setIfInBounds_toArray, List.set_cons_zero, List.set_cons_succ]
          refine tk41 (v := .pointer none) (by kernel_rfl) (by kernel_rfl) (by kernel_rfl) (fun _ _ _ h => h) X.out (Or.inl ⟨by rfl, fun w hw => by go_simp; try (with_reducible rfl)⟩) ?_
          simp only [Act.put, List.setIfInBounds_toArray, List.set_cons_zero, List.set_cons_succ]
          refine wpAnyH_ready (rs := [42]) (by kernel_rfl) (by simp) ?_
          refine rd42 (fun K hK => ?_) AllReadyH.nil
          go_simp
          refine (copy_nil).mono ?_
          rintro e42 w42 ⟨rfl, hw42⟩
          have hv42 := hw42.symm
          clear hw42
          subst hv42
          simp only []
          refine hK.out _ _ X.out (fun _ => ?_)
          clear hK K
          refine tk43 (v := .bool true) (by kernel_rfl) (by kernel_rfl) (by kernel_rfl) (fun _ _ _ h => h) X.out (Or.inl ⟨by rfl, fun w hw => by go_simp; try (with_reducible rfl)⟩) ?_
          simp only [Act.put, List.setIfInBounds_toArray, List.set_cons_zero, List.set_cons_succ]
          refine tk44 (v := .bool true) (by kernel_rfl) (by kernel_rfl) (by kernel_rfl) (fun _ _ _ h => h) X.out (Or.inl ⟨by rfl, fun w hw => by go_simp; try (with_reducible rfl)⟩) ?_
          simp only [Act.put, List.setIfInBounds_toArray, List.set_cons_zero, List.set_cons_succ]
          refine tk45 (v := .bool true) (by kernel_rfl) (by kernel_rfl) (by kernel_rfl) (fun _ _ _ h => h) X.out (Or.inl ⟨by rfl, fun w hw => by go_simp; try (with_reducible rfl)⟩) ?_
          simp only [Act.put, List.setIfInBounds_toArray, List.set_cons_zero, List.set_cons_succ]
          refine tk46 (v := .pointer none) (by kernel_rfl) (by kernel_rfl) (by kernel_rfl) (fun _ _ _ h => h) X.out (Or.inl ⟨by rfl, fun w hw => by go_simp; try (with_reducible rfl)⟩) ?_
          simp only [Act.put, List.setIfInBounds_toArray, List.set_cons_zero, List.set_cons_succ]
          refine tk48 (v := .agg (rowV 32 hz).toArray) (by kernel_rfl) (by kernel_rfl) (by kernel_rfl) (fun _ _ _ h => h) X.out (Or.inl ⟨by rfl, fun w hw => by go_simp; rfl⟩) ?_
          simp only [Act.put, List.setIfInBounds_toArray, List.set_cons_zero, List.set_cons_succ]
          refine wpAnyH_ready (rs := [47]) (by kernel_rfl) (by simp) ?_
          refine rd47 (fun K hK => ?_) AllReadyH.nil
          go_simp
          refine (root_nil).mono ?_
          rintro e47 w47 ⟨rfl, hb⟩
          simp only []
          replace X := hide (X.out.after hb)
          clear hb
          refine hK.out _ _ X.out (fun _ => ?_)
          clear hK K
          refine tk49 (v := .bool true) (by kernel_rfl) (by kernel_rfl) (by kernel_rfl) (fun _ _ _ h => h) X.out (Or.inl ⟨by rfl, fun w hw => by go_simp; try (with_reducible rfl)⟩) ?_
          simp only [Act.put, List.setIfInBounds_toArray, List.set_cons_zero, List.set_cons_succ]
          refine tk50 (v := .bool true) (by kernel_rfl) (by kernel_rfl) (by kernel_rfl) (fun _ _ _ h => h) X.out (Or.inl ⟨by rfl, fun w hw => by go_simp; try (with_reducible rfl)⟩) ?_
          simp only [Act.put, List.setIfInBounds_toArray, List.set_cons_zero, List.set_cons_succ]
          refine tk51 (v := .bool true) (by kernel_rfl) (by kernel_rfl) (by kernel_rfl) (fun _ _ _ h => h) X.out (Or.inl ⟨by rfl, fun w hw => by go_simp; try (with_reducible rfl)⟩) ?_
          simp only [Act.put, List.setIfInBounds_toArray, List.set_cons_zero, List.set_cons_succ]
          refine wpAnyH_done (by kernel_rfl) ?_ _
          go_wp2
          go_ret
          exact ⟨rfl, X.out.below⟩
end Go.Proofs.YtlkmebimgpigjaaDoor
