/- The contract of sponsionlaw11.collides over this translation (written by gen-collides.py). -/
import Derived.Test.YtjkhboejhcbdpaaDoorHandTwo
import Derived.Test.YtjkhboejhcbdpaaDoorDomEmpty
import Derived.BigGuard
import Derived.Test.YtjkhboejhcbdpaaDoorHandTwo
import Derived.Test.YtjkhboejhcbdpaaDoorHandTwo
import Derived.Test.YtjkhboejhcbdpaaDoorHand
import Derived.Test.YtjkhboejhcbdpaaDoorClassy
namespace Go.Proofs.YtjkhboejhcbdpaaDoor
open Go.RowKit Go.Lib
attribute [local go_sem] setCell_drewN alloc_drewN eqHash

theorem Bxs.swap {w0 w : World} {a b : Nat × Nat × (Nat → Int)} {l : List (Nat × Nat × (Nat → Int))} (h : Bxs w0 w (a :: b :: l)) : Bxs w0 w (b :: a :: l) := by
  refine ⟨fun x hx => h.row x ?_, fun x hx => h.lo x ?_, ?_, h.below⟩
  · simp only [List.mem_cons] at hx ⊢; rcases hx with e | e | e <;> simp [e]
  · simp only [List.mem_cons] at hx ⊢; rcases hx with e | e | e <;> simp [e]
  · have key : ∀ (i : Nat) x, (b :: a :: l)[i]? = some x → ∃ i', (a :: b :: l)[i']? = some x ∧ (i' = if i = 0 then 1 else if i = 1 then 0 else i) := by
      intro i x hx
      match i, hx with
      | 0, hx => exact ⟨1, by simpa using hx, rfl⟩
      | 1, hx => exact ⟨0, by simpa using hx, rfl⟩
      | i + 2, hx => exact ⟨i + 2, by simpa using hx, by simp⟩
    intro i j x y hi hj e
    obtain ⟨i', h1, e1⟩ := key i x hi
    obtain ⟨j', h2, e2⟩ := key j y hj
    have := h.apart i' j' x y h1 h2 e
    subst e1 e2
    split at this <;> split at this <;> (try split at this) <;> (try split at this) <;> omega
set_option maxRecDepth 100000 in
set_option maxHeartbeats 8000000 in
theorem collides_any {w : World} (d i : Nat) (x y : Hs) (P R : Pf) (hd : d ≤ 32) (hi : i ≤ 18446744073709551615) (hx : Hok x) (hy : Hok y) (hP : Pok P) (hR : Pok R) (ht : Tab w 1) :
    Calls Tryd.prog 16 #[.int .i64 d, .int .u64 i, .agg (rowV 32 x).toArray, .agg (rowV 1024 (pc P)).toArray, .agg (rowV 32 y).toArray, .agg (rowV 1024 (pc R)).toArray] w
      fun e w' => (∃ b, e = .returned (.bool b) ∧ (sameH (cl i P x d) (cl i R y d) = true → sameH x y = false → b = true)) ∧ Below w.heap.size w w' := by
  have HT := hide ht; have HX := hide hx; have HY := hide hy; have HPO := hide hP; have HRO := hide hR; have HD := hide hd
  have hdi : (d : Int) ≤ 32 := by omega
  have E0 : Hid (Bxs w ((((w.alloc (.cells (rowV 32 x).toArray 28)).alloc (.cells (rowV 1024 (pc P)).toArray 29)).alloc (.cells (rowV 32 y).toArray 28)).alloc (.cells (rowV 1024 (pc R)).toArray 29)) [(w.heap.size + 3, 1024, pc R), (w.heap.size + 2, 32, y), (w.heap.size + 1, 1024, pc P), (w.heap.size, 32, x)]) :=
    ((((Bxs.none w).add rfl (BRow.box w 32 x _ rfl)).add (by simp) (BRow.box _ 1024 (pc P) _ (by simp))).add (by simp) (BRow.box _ 32 y _ (by simp))).add (by simp) (BRow.box _ 1024 (pc R) _ (by simp))
  clear ht hx hy hP hR hd
  go_enter Tryd.func16, Tryd.ntmps16
  go_wp2_with fail
  generalize (((w.alloc (.cells (rowV 32 x).toArray 28)).alloc (.cells (rowV 1024 (pc P)).toArray 29)).alloc (.cells (rowV 32 y).toArray 28)).alloc (.cells (rowV 1024 (pc R)).toArray 29) = w1 at *
  go_loopg [19] d (fun gk t wr => ∃ b : Nat, gk + b = d ∧ t = .int .i64 b ∧ Bxs w wr [(w.heap.size + 3, 1024, pc R), (w.heap.size + 2, 32, cl i R y b), (w.heap.size + 1, 1024, pc P), (w.heap.size, 32, cl i P x b)] ∧ Hid (sameH x y = false → sameH (cl i P x b) (cl i R y b) = false))
  case atStart => exact ⟨0, by omega, rfl, E0.out, fun h => h⟩
  case round =>
    clear E0
    obtain ⟨b, hb0, rfl, he, hun⟩ := hrel
    have HB := hide hb0
    clear hb0
    obtain ⟨A, hA⟩ : ∃ A, cl i P x b = A := ⟨_, rfl⟩
    obtain ⟨B, hB⟩ : ∃ B, cl i R y b = B := ⟨_, rfl⟩
    have HA := hide hA; have HBB := hide hB
    have HAO : Hid (Hok A) := by rw [← hA]; exact cl_ok HX.out b
    have HBO : Hid (Hok B) := by rw [← hB]; exact cl_ok HY.out b
    rw [hA, hB] at he hun
    clear hA hB
    by_cases hlt : b < d
    · have hbi : (b : Int) < (d : Int) := by omega
      have hb32 : ¬ (32 : Int) ≤ (b : Int) := by omega
      have hbd : b < 32 := by have := HD.out; omega
      obtain ⟨F, hF⟩ : ∃ F, P b = F := ⟨_, rfl⟩
      obtain ⟨G, hG⟩ : ∃ G, R b = G := ⟨_, rfl⟩
      have HF := hide hF; have HG := hide hG
      have HFO : Hid (Hok F) := by rw [← hF]; exact HPO.out b
      have HGO : Hid (Hok G) := by rw [← hG]; exact HRO.out b
      obtain ⟨r, hr⟩ : ∃ r, i / 2 ^ b = r := ⟨_, rfl⟩
      have hdr : (i : Int) / 2 ^ b = (r : Int) := by rw [← hr]; simp
      have hri : (r : Int) ≤ 18446744073709551615 := by have := Nat.div_le_self i (2 ^ b); omega
      have HR := hide hr
      have E := hide (he.after (bMe wr).drew)
      clear hF hG he hr
      by_cases hev : r % 2 = 0
      · have hevi : (r : Int) % 2 = 0 := by omega
        have HN1 : Hid (cl i P x (b + 1) = dnode A F) := by show _ = _; rw [cl_even (by rw [HR.out]; exact hev), HA.out, HF.out]
        have HN2 : Hid (cl i R y (b + 1) = dnode B G) := by show _ = _; rw [cl_even (by rw [HR.out]; exact hev), HBB.out, HG.out]
        go_wp2_with fail
        refine wp_region_held_drew (S := fun w1 => Bxs w w1 [(w.heap.size + 3, 1024, pc R), (w.heap.size + 2, 32, B), (w.heap.size + 1, 1024, pc P), (w.heap.size, 32, A)]) (by kernel_rfl) E.out (fun _ => ?_)
        generalize wr.drew = w2 at *
        refine tk0 (by kernel_rfl) (by kernel_rfl) (by kernel_rfl) (fun _ _ _ h => h) E.out (yieldsIf_load_mid (by rfl) _ _ rfl (w.heap.size) (0) rfl (rowV 32 A) _ (fun _ hw => (hw.get 3 rfl).range) Tryd.underlying28 rfl (info_hash32 _)) ?_
        simp only [Act.put, List.setIfInBounds_toArray, List.set_cons_zero, List.set_cons_succ]
        refine tk1 (v := .int .i64 (b : Int)) (by kernel_rfl) (by kernel_rfl) (by kernel_rfl) (fun _ _ _ h => h) E.out (Or.inl ⟨by rfl, fun w hw => by go_simp; try (with_reducible rfl)⟩) ?_
        simp only [Act.put, List.setIfInBounds_toArray, List.set_cons_zero, List.set_cons_succ]
        refine tk2 (v := .pointer (some ⟨w.heap.size + 1, b * 32, none⟩)) (by kernel_rfl) (by kernel_rfl) (by kernel_rfl) (fun _ _ _ h => h) E.out (Or.inl ⟨by rfl, fun w hw => by go_simp; try (with_reducible rfl)⟩) ?_
        simp only [Act.put, List.setIfInBounds_toArray, List.set_cons_zero, List.set_cons_succ]
        refine tk3 (by kernel_rfl) (by kernel_rfl) (by kernel_rfl) (fun _ _ _ h => h) E.out (yieldsIf_load_mid (by rfl) _ _ rfl (w.heap.size + 1) (b * 32) rfl (rowV 32 F) _ (fun _ hw => by have q := (hw.get 2 rfl).lev b hbd; rw [HF.out] at q; exact q) Tryd.underlying28 rfl (info_hash32 _)) ?_
        simp only [Act.put, List.setIfInBounds_toArray, List.set_cons_zero, List.set_cons_succ]
        refine two45 rfl rfl rfl rfl (by decide) (by kernel_rfl) (by kernel_rfl) (by kernel_rfl) (E.out.past _) ((E.out.past _).past _) (fun g14 g15 hg => ?_)
        simp only [Act.put, List.setIfInBounds_toArray, List.set_cons_zero, List.set_cons_succ]
        have E2 : Hid (Bxs w ((w2.alloc (.cells #[.int .u8 0, .int .u8 0, .int .u8 0, .int .u8 0, .int .u8 0, .int .u8 0, .int .u8 0, .int .u8 0, .int .u8 0, .int .u8 0, .int .u8 0, .int .u8 0, .int .u8 0, .int .u8 0, .int .u8 0, .int .u8 0, .int .u8 0, .int .u8 0, .int .u8 0, .int .u8 0, .int .u8 0, .int .u8 0, .int .u8 0, .int .u8 0, .int .u8 0, .int .u8 0, .int .u8 0, .int .u8 0, .int .u8 0, .int .u8 0, .int .u8 0, .int .u8 0] 28)).alloc (.cells #[.int .u8 0, .int .u8 0, .int .u8 0, .int .u8 0, .int .u8 0, .int .u8 0, .int .u8 0, .int .u8 0, .int .u8 0, .int .u8 0, .int .u8 0, .int .u8 0, .int .u8 0, .int .u8 0, .int .u8 0, .int .u8 0, .int .u8 0, .int .u8 0, .int .u8 0, .int .u8 0, .int .u8 0, .int .u8 0, .int .u8 0, .int .u8 0, .int .u8 0, .int .u8 0, .int .u8 0, .int .u8 0, .int .u8 0, .int .u8 0, .int .u8 0, .int .u8 0] 28)) [(g15, 32, fun _ => 0), (g14, 32, fun _ => 0), (w.heap.size + 3, 1024, pc R), (w.heap.size + 2, 32, B), (w.heap.size + 1, 1024, pc P), (w.heap.size, 32, A)]) := by
          rcases hg with ⟨hA, hB⟩ | ⟨hA, hB⟩
          · exact (E.out.add hA.symm (BRow.zeros32 _ hA.symm)).add (by simp [hB]) (BRow.zeros32 _ (by simp [hB]))
          · exact ((E.out.add hB.symm (BRow.zeros32 _ hB.symm)).add (by simp [hA]) (BRow.zeros32 _ (by simp [hA]))).swap
        clear hg E
        generalize (w2.alloc (.cells #[.int .u8 0, .int .u8 0, .int .u8 0, .int .u8 0, .int .u8 0, .int .u8 0, .int .u8 0, .int .u8 0, .int .u8 0, .int .u8 0, .int .u8 0, .int .u8 0, .int .u8 0, .int .u8 0, .int .u8 0, .int .u8 0, .int .u8 0, .int .u8 0, .int .u8 0, .int .u8 0, .int .u8 0, .int .u8 0, .int .u8 0, .int .u8 0, .int .u8 0, .int .u8 0, .int .u8 0, .int .u8 0, .int .u8 0, .int .u8 0, .int .u8 0, .int .u8 0] 28)).alloc (.cells #[.int .u8 0, .int .u8 0, .int .u8 0, .int .u8 0, .int .u8 0, .int .u8 0, .int .u8 0, .int .u8 0, .int .u8 0, .int .u8 0, .int .u8 0, .int .u8 0, .int .u8 0, .int .u8 0, .int .u8 0, .int .u8 0, .int .u8 0, .int .u8 0, .int .u8 0, .int .u8 0, .int .u8 0, .int .u8 0, .int .u8 0, .int .u8 0, .int .u8 0, .int .u8 0, .int .u8 0, .int .u8 0, .int .u8 0, .int .u8 0, .int .u8 0, .int .u8 0] 28) = w4 at *
        refine wpAnyH_ready (rs := [6]) (by kernel_rfl) (by simp) ?_
        refine rd6 (fun K hK => ?_) AllReadyH.nil
        rw [if_pos (by rfl)]
        refine wp_store_mid _ _ _ rfl (g14) (0) (rowV 32 A).toArray rfl rfl ((E2.out.get 1 rfl).thereA _) (info_hash32A _) (rowV_oneA _ _) ?_
        have E3 : Hid (Bxs w (w4.setCells g14 0 (rowV 32 A)) [(g15, 32, fun _ => 0), (g14, 32, A), (w.heap.size + 3, 1024, pc R), (w.heap.size + 2, 32, B), (w.heap.size + 1, 1024, pc P), (w.heap.size, 32, A)]) := E2.out.put 1 rfl A
        refine hK.out _ _ E3.out.tail.tail (fun _ => ?_)
        clear hK K
        generalize w4.setCells g14 0 (rowV 32 A) = w5 at *
        clear E2
        refine wpAnyH_ready (rs := [7]) (by kernel_rfl) (by simp) ?_
        refine rd7 (fun K hK => ?_) AllReadyH.nil
        rw [if_pos (by rfl)]
        refine wp_store_mid _ _ _ rfl (g15) (0) (rowV 32 F).toArray rfl rfl ((E3.out.get 0 rfl).thereA _) (info_hash32A _) (rowV_oneA _ _) ?_
        have E : Hid (Bxs w (w5.setCells g15 0 (rowV 32 F)) [(g15, 32, F), (g14, 32, A), (w.heap.size + 3, 1024, pc R), (w.heap.size + 2, 32, B), (w.heap.size + 1, 1024, pc P), (w.heap.size, 32, A)]) := E3.out.put 0 rfl F
        refine hK.out _ _ E.out.tail.tail (fun _ => ?_)
        clear hK K
        refine wpAnyH_done (by kernel_rfl) ?_ _
        try simp only [Act.put]
        generalize w5.setCells g15 0 (rowV 32 F) = wj at *
        clear E3
        go_wp2_with fail
        replace E := hide (E.out.after (bMe wj).drew)
        refine wp_region_held_drew (S := fun w1 => Bxs w w1 [(g15, 32, F), (g14, 32, A), (w.heap.size + 3, 1024, pc R), (w.heap.size + 2, 32, B), (w.heap.size + 1, 1024, pc P), (w.heap.size, 32, A)]) (by kernel_rfl) E.out (fun _ => ?_)
        generalize wj.drew = w2 at *
        refine tk0 (by kernel_rfl) (by kernel_rfl) (by kernel_rfl) (fun _ _ _ h => h) E.out (yieldsIf_load_mid (by rfl) _ _ rfl (w.heap.size + 2) (0) rfl (rowV 32 B) _ (fun _ hw => (hw.get 3 rfl).range) Tryd.underlying28 rfl (info_hash32 _)) ?_
        simp only [Act.put, List.setIfInBounds_toArray, List.set_cons_zero, List.set_cons_succ]
        refine tk1 (v := .int .i64 (b : Int)) (by kernel_rfl) (by kernel_rfl) (by kernel_rfl) (fun _ _ _ h => h) E.out (Or.inl ⟨by rfl, fun w hw => by go_simp; try (with_reducible rfl)⟩) ?_
        simp only [Act.put, List.setIfInBounds_toArray, List.set_cons_zero, List.set_cons_succ]
        refine tk2 (v := .pointer (some ⟨w.heap.size + 3, b * 32, none⟩)) (by kernel_rfl) (by kernel_rfl) (by kernel_rfl) (fun _ _ _ h => h) E.out (Or.inl ⟨by rfl, fun w hw => by go_simp; try (with_reducible rfl)⟩) ?_
        simp only [Act.put, List.setIfInBounds_toArray, List.set_cons_zero, List.set_cons_succ]
        refine tk3 (by kernel_rfl) (by kernel_rfl) (by kernel_rfl) (fun _ _ _ h => h) E.out (yieldsIf_load_mid (by rfl) _ _ rfl (w.heap.size + 3) (b * 32) rfl (rowV 32 G) _ (fun _ hw => by have q := (hw.get 2 rfl).lev b hbd; rw [HG.out] at q; exact q) Tryd.underlying28 rfl (info_hash32 _)) ?_
        simp only [Act.put, List.setIfInBounds_toArray, List.set_cons_zero, List.set_cons_succ]
        refine two45 rfl rfl rfl rfl (by decide) (by kernel_rfl) (by kernel_rfl) (by kernel_rfl) (E.out.past _) ((E.out.past _).past _) (fun g16 g17 hg => ?_)
        simp only [Act.put, List.setIfInBounds_toArray, List.set_cons_zero, List.set_cons_succ]
        have E2 : Hid (Bxs w ((w2.alloc (.cells #[.int .u8 0, .int .u8 0, .int .u8 0, .int .u8 0, .int .u8 0, .int .u8 0, .int .u8 0, .int .u8 0, .int .u8 0, .int .u8 0, .int .u8 0, .int .u8 0, .int .u8 0, .int .u8 0, .int .u8 0, .int .u8 0, .int .u8 0, .int .u8 0, .int .u8 0, .int .u8 0, .int .u8 0, .int .u8 0, .int .u8 0, .int .u8 0, .int .u8 0, .int .u8 0, .int .u8 0, .int .u8 0, .int .u8 0, .int .u8 0, .int .u8 0, .int .u8 0] 28)).alloc (.cells #[.int .u8 0, .int .u8 0, .int .u8 0, .int .u8 0, .int .u8 0, .int .u8 0, .int .u8 0, .int .u8 0, .int .u8 0, .int .u8 0, .int .u8 0, .int .u8 0, .int .u8 0, .int .u8 0, .int .u8 0, .int .u8 0, .int .u8 0, .int .u8 0, .int .u8 0, .int .u8 0, .int .u8 0, .int .u8 0, .int .u8 0, .int .u8 0, .int .u8 0, .int .u8 0, .int .u8 0, .int .u8 0, .int .u8 0, .int .u8 0, .int .u8 0, .int .u8 0] 28)) [(g17, 32, fun _ => 0), (g16, 32, fun _ => 0), (g15, 32, F), (g14, 32, A), (w.heap.size + 3, 1024, pc R), (w.heap.size + 2, 32, B), (w.heap.size + 1, 1024, pc P), (w.heap.size, 32, A)]) := by
          rcases hg with ⟨hA, hB⟩ | ⟨hA, hB⟩
          · exact (E.out.add hA.symm (BRow.zeros32 _ hA.symm)).add (by simp [hB]) (BRow.zeros32 _ (by simp [hB]))
          · exact ((E.out.add hB.symm (BRow.zeros32 _ hB.symm)).add (by simp [hA]) (BRow.zeros32 _ (by simp [hA]))).swap
        clear hg E
        generalize (w2.alloc (.cells #[.int .u8 0, .int .u8 0, .int .u8 0, .int .u8 0, .int .u8 0, .int .u8 0, .int .u8 0, .int .u8 0, .int .u8 0, .int .u8 0, .int .u8 0, .int .u8 0, .int .u8 0, .int .u8 0, .int .u8 0, .int .u8 0, .int .u8 0, .int .u8 0, .int .u8 0, .int .u8 0, .int .u8 0, .int .u8 0, .int .u8 0, .int .u8 0, .int .u8 0, .int .u8 0, .int .u8 0, .int .u8 0, .int .u8 0, .int .u8 0, .int .u8 0, .int .u8 0] 28)).alloc (.cells #[.int .u8 0, .int .u8 0, .int .u8 0, .int .u8 0, .int .u8 0, .int .u8 0, .int .u8 0, .int .u8 0, .int .u8 0, .int .u8 0, .int .u8 0, .int .u8 0, .int .u8 0, .int .u8 0, .int .u8 0, .int .u8 0, .int .u8 0, .int .u8 0, .int .u8 0, .int .u8 0, .int .u8 0, .int .u8 0, .int .u8 0, .int .u8 0, .int .u8 0, .int .u8 0, .int .u8 0, .int .u8 0, .int .u8 0, .int .u8 0, .int .u8 0, .int .u8 0] 28) = w4 at *
        refine wpAnyH_ready (rs := [6]) (by kernel_rfl) (by simp) ?_
        refine rd6 (fun K hK => ?_) AllReadyH.nil
        rw [if_pos (by rfl)]
        refine wp_store_mid _ _ _ rfl (g16) (0) (rowV 32 B).toArray rfl rfl ((E2.out.get 1 rfl).thereA _) (info_hash32A _) (rowV_oneA _ _) ?_
        have E3 : Hid (Bxs w (w4.setCells g16 0 (rowV 32 B)) [(g17, 32, fun _ => 0), (g16, 32, B), (g15, 32, F), (g14, 32, A), (w.heap.size + 3, 1024, pc R), (w.heap.size + 2, 32, B), (w.heap.size + 1, 1024, pc P), (w.heap.size, 32, A)]) := E2.out.put 1 rfl B
        refine hK.out _ _ E3.out.tail.tail (fun _ => ?_)
        clear hK K
        generalize w4.setCells g16 0 (rowV 32 B) = w5 at *
        clear E2
        refine wpAnyH_ready (rs := [7]) (by kernel_rfl) (by simp) ?_
        refine rd7 (fun K hK => ?_) AllReadyH.nil
        rw [if_pos (by rfl)]
        refine wp_store_mid _ _ _ rfl (g17) (0) (rowV 32 G).toArray rfl rfl ((E3.out.get 0 rfl).thereA _) (info_hash32A _) (rowV_oneA _ _) ?_
        have E : Hid (Bxs w (w5.setCells g17 0 (rowV 32 G)) [(g17, 32, G), (g16, 32, B), (g15, 32, F), (g14, 32, A), (w.heap.size + 3, 1024, pc R), (w.heap.size + 2, 32, B), (w.heap.size + 1, 1024, pc P), (w.heap.size, 32, A)]) := E3.out.put 0 rfl G
        refine hK.out _ _ E.out.tail.tail (fun _ => ?_)
        clear hK K
        refine wpAnyH_done (by kernel_rfl) ?_ _
        try simp only [Act.put]
        generalize w5.setCells g17 0 (rowV 32 G) = w6 at *
        clear E3
        clear hb32
        go_wp2_with fail
        replace E := hide (E.out.after (bMe w6).drew)
        refine wp_region_held_drew (S := fun w1 => ∃ X Y : Nat → Int, Bxs w w1 [(g17, 32, G), (g16, 32, B), (g15, 32, F), (g14, 32, A), (w.heap.size + 3, 1024, pc R), (w.heap.size + 2, 32, Y), (w.heap.size + 1, 1024, pc P), (w.heap.size, 32, X)]) (by kernel_rfl) ⟨_, _, E.out⟩ (fun _ => ?_)
        generalize w6.drew = wc at *
        refine tk0 (by kernel_rfl) (by kernel_rfl) (by kernel_rfl) (fun _ _ _ h => h) ⟨_, _, E.out⟩ (yieldsIf_load_mid (by rfl) _ _ rfl (g14) (0) rfl (rowV 32 A) _ (fun _ hw => by obtain ⟨_, _, hw⟩ := hw; exact (hw.get 3 rfl).range) Tryd.underlying28 rfl (info_hash32 _)) ?_
        simp only [Act.put, List.setIfInBounds_toArray, List.set_cons_zero, List.set_cons_succ]
        refine tk1 (by kernel_rfl) (by kernel_rfl) (by kernel_rfl) (fun _ _ _ h => h) ⟨_, _, E.out⟩ (yieldsIf_load_mid (by rfl) _ _ rfl (g15) (0) rfl (rowV 32 F) _ (fun _ hw => by obtain ⟨_, _, hw⟩ := hw; exact (hw.get 2 rfl).range) Tryd.underlying28 rfl (info_hash32 _)) ?_
        simp only [Act.put, List.setIfInBounds_toArray, List.set_cons_zero, List.set_cons_succ]
        refine tk3 (by kernel_rfl) (by kernel_rfl) (by kernel_rfl) (fun _ _ _ h => h) ⟨_, _, E.out⟩ (yieldsIf_load_mid (by rfl) _ _ rfl (g16) (0) rfl (rowV 32 B) _ (fun _ hw => by obtain ⟨_, _, hw⟩ := hw; exact (hw.get 1 rfl).range) Tryd.underlying28 rfl (info_hash32 _)) ?_
        simp only [Act.put, List.setIfInBounds_toArray, List.set_cons_zero, List.set_cons_succ]
        refine tk4 (by kernel_rfl) (by kernel_rfl) (by kernel_rfl) (fun _ _ _ h => h) ⟨_, _, E.out⟩ (yieldsIf_load_mid (by rfl) _ _ rfl (g17) (0) rfl (rowV 32 G) _ (fun _ hw => by obtain ⟨_, _, hw⟩ := hw; exact (hw.get 0 rfl).range) Tryd.underlying28 rfl (info_hash32 _)) ?_
        simp only [Act.put, List.setIfInBounds_toArray, List.set_cons_zero, List.set_cons_succ]
        refine wpAnyH_ready (rs := [2]) (by kernel_rfl) (by simp) ?_
        refine rd2 (fun K hK => ?_) AllReadyH.nil
        go_simp
        refine (node_any A F HAO.out HFO.out (HT.out.below E.out.below)).mono ?_
        rintro e wd ⟨rfl, hb⟩
        simp only []
        replace E := hide (E.out.after hb)
        clear hb
        obtain ⟨N1, hN⟩ : ∃ N, dnode A F = N := ⟨_, rfl⟩
        rw [hN] at HN1
        rw [hN]
        clear hN
        refine hK.out _ _ ⟨_, _, E.out⟩ (fun _ => ?_)
        clear hK K
        refine wpAnyH_ready (rs := [5]) (by kernel_rfl) (by simp) ?_
        refine rd5 (fun K hK => ?_) AllReadyH.nil
        go_simp
        refine (node_any B G HBO.out HGO.out (HT.out.below E.out.below)).mono ?_
        rintro e we ⟨rfl, hb⟩
        simp only []
        replace E := hide (E.out.after hb)
        clear hb
        obtain ⟨N2, hN⟩ : ∃ N, dnode B G = N := ⟨_, rfl⟩
        rw [hN] at HN2
        rw [hN]
        clear hN
        refine hK.out _ _ ⟨_, _, E.out⟩ (fun _ => ?_)
        clear hK K
        refine wpAnyH_ready (rs := [6]) (by kernel_rfl) (by simp) ?_
        refine rd6 (fun K hK => ?_) AllReadyH.nil
        rw [if_pos (by rfl)]
        refine wp_store_mid _ _ _ rfl (w.heap.size) (0) (rowV 32 N1).toArray rfl rfl ((E.out.get 7 rfl).thereA _) (info_hash32A _) (rowV_oneA _ _) ?_
        have E5 : Hid (Bxs w (we.setCells w.heap.size 0 (rowV 32 N1)) [(g17, 32, G), (g16, 32, B), (g15, 32, F), (g14, 32, A), (w.heap.size + 3, 1024, pc R), (w.heap.size + 2, 32, B), (w.heap.size + 1, 1024, pc P), (w.heap.size, 32, N1)]) := E.out.put 7 rfl N1
        refine hK.out _ _ ⟨_, _, E5.out⟩ (fun _ => ?_)
        clear hK K
        generalize we.setCells w.heap.size 0 (rowV 32 N1) = wf at *
        clear E
        refine wpAnyH_ready (rs := [7]) (by kernel_rfl) (by simp) ?_
        refine rd7 (fun K hK => ?_) AllReadyH.nil
        rw [if_pos (by rfl)]
        refine wp_store_mid _ _ _ rfl (w.heap.size + 2) (0) (rowV 32 N2).toArray rfl rfl ((E5.out.get 5 rfl).thereA _) (info_hash32A _) (rowV_oneA _ _) ?_
        have E : Hid (Bxs w (wf.setCells (w.heap.size + 2) 0 (rowV 32 N2)) [(g17, 32, G), (g16, 32, B), (g15, 32, F), (g14, 32, A), (w.heap.size + 3, 1024, pc R), (w.heap.size + 2, 32, N2), (w.heap.size + 1, 1024, pc P), (w.heap.size, 32, N1)]) := E5.out.put 5 rfl N2
        refine hK.out _ _ ⟨_, _, E.out⟩ (fun _ => ?_)
        clear hK K
        refine wpAnyH_done (by kernel_rfl) ?_ _
        try simp only [Act.put]
        generalize wf.setCells (w.heap.size + 2) 0 (rowV 32 N2) = wg at *
        clear E5
        cases e0 : sameH N1 N2 with
        | false =>
          go_wp2_with (first
            | refine wpList_load_mid rfl 28 _ rfl (w.heap.size) 0 rfl (rowV 32 N1) _ (E.out.get 7 rfl).range Tryd.underlying28 rfl (info_hash32 _) ?_
            | (refine wpList_load_mid rfl 28 _ rfl (w.heap.size + 2) 0 rfl (rowV 32 N2) _ (E.out.get 5 rfl).range Tryd.underlying28 rfl (info_hash32 _) ?_; refine wpList_stop 47 rfl ?_))
          refine hide ?_
          refine wpList_run (.bool false) (by kernel_rfl) (exec_eqlH e0 rfl rfl rfl) ?_
          simp only [Act.put, List.setIfInBounds_toArray, List.set_cons_zero, List.set_cons_succ]
          refine wpList_run (.bool false) (by kernel_rfl) (by kernel_rfl) ?_
          simp only [Act.put, List.setIfInBounds_toArray, List.set_cons_zero, List.set_cons_succ]
          go_big_skip
          refine wpList_run (.bool false) (by kernel_rfl) (by kernel_rfl) ?_
          simp only [Act.put, List.setIfInBounds_toArray, List.set_cons_zero, List.set_cons_succ]
          go_wp2
          go_roundg (d - b - 1)
          case measure => have := HB.out; omega
          case rel => exact ⟨b + 1, by omega, by go_num, by rw [HN1.out, HN2.out]; exact E.out.tail.tail.tail.tail, fun h => by rw [HN1.out, HN2.out]; exact e0⟩
        | true =>
          cases e1 : sameH A B with
          | false =>
            go_wp2_with (first
              | refine wpList_load_mid rfl 28 _ rfl (w.heap.size) 0 rfl (rowV 32 N1) _ (E.out.get 7 rfl).range Tryd.underlying28 rfl (info_hash32 _) ?_
              | (refine wpList_load_mid rfl 28 _ rfl (w.heap.size + 2) 0 rfl (rowV 32 N2) _ (E.out.get 5 rfl).range Tryd.underlying28 rfl (info_hash32 _) ?_; refine wpList_stop 47 rfl ?_))
            refine hide ?_
            refine wpList_run (.bool true) (by kernel_rfl) (exec_eqlH e0 rfl rfl rfl) ?_
            simp only [Act.put, List.setIfInBounds_toArray, List.set_cons_zero, List.set_cons_succ]
            refine wpList_run (.bool true) (by kernel_rfl) (by kernel_rfl) ?_
            simp only [Act.put, List.setIfInBounds_toArray, List.set_cons_zero, List.set_cons_succ]
            refine wpList_load_want 28 _ rfl (g14) 0 rfl (rowV 32 A) _ (E.out.get 3 rfl).range Tryd.underlying28 rfl (info_hash32 _) (by kernel_rfl) ?_
            simp only [Act.put, List.setIfInBounds_toArray, List.set_cons_zero, List.set_cons_succ]
            refine wpList_load_want 28 _ rfl (g16) 0 rfl (rowV 32 B) _ (E.out.get 1 rfl).range Tryd.underlying28 rfl (info_hash32 _) (by kernel_rfl) ?_
            simp only [Act.put, List.setIfInBounds_toArray, List.set_cons_zero, List.set_cons_succ]
            refine wpList_run (.bool true) (by kernel_rfl) (exec_neqH e1 rfl rfl rfl) ?_
            simp only [Act.put, List.setIfInBounds_toArray, List.set_cons_zero, List.set_cons_succ]
            refine wpList_run (.bool true) (by kernel_rfl) (by kernel_rfl) ?_
            simp only [Act.put, List.setIfInBounds_toArray, List.set_cons_zero, List.set_cons_succ]
            go_big_skip
            refine wpList_run (.bool true) (by kernel_rfl) (by kernel_rfl) ?_
            simp only [Act.put, List.setIfInBounds_toArray, List.set_cons_zero, List.set_cons_succ]
            refine wpList_run (.bool true) (by kernel_rfl) (by kernel_rfl) ?_
            simp only [Act.put, List.setIfInBounds_toArray, List.set_cons_zero, List.set_cons_succ]
            go_wp2
            go_ret
            exact ⟨⟨true, rfl, fun _ _ => rfl⟩, E.out.below⟩
          | true =>
            cases e2 : sameH F G with
            | false =>
              go_wp2_with (first
                | refine wpList_load_mid rfl 28 _ rfl (w.heap.size) 0 rfl (rowV 32 N1) _ (E.out.get 7 rfl).range Tryd.underlying28 rfl (info_hash32 _) ?_
                | (refine wpList_load_mid rfl 28 _ rfl (w.heap.size + 2) 0 rfl (rowV 32 N2) _ (E.out.get 5 rfl).range Tryd.underlying28 rfl (info_hash32 _) ?_; refine wpList_stop 47 rfl ?_))
              refine hide ?_
              refine wpList_run (.bool true) (by kernel_rfl) (exec_eqlH e0 rfl rfl rfl) ?_
              simp only [Act.put, List.setIfInBounds_toArray, List.set_cons_zero, List.set_cons_succ]
              refine wpList_run (.bool true) (by kernel_rfl) (by kernel_rfl) ?_
              simp only [Act.put, List.setIfInBounds_toArray, List.set_cons_zero, List.set_cons_succ]
              refine wpList_load_want 28 _ rfl (g14) 0 rfl (rowV 32 A) _ (E.out.get 3 rfl).range Tryd.underlying28 rfl (info_hash32 _) (by kernel_rfl) ?_
              simp only [Act.put, List.setIfInBounds_toArray, List.set_cons_zero, List.set_cons_succ]
              refine wpList_load_want 28 _ rfl (g16) 0 rfl (rowV 32 B) _ (E.out.get 1 rfl).range Tryd.underlying28 rfl (info_hash32 _) (by kernel_rfl) ?_
              simp only [Act.put, List.setIfInBounds_toArray, List.set_cons_zero, List.set_cons_succ]
              refine wpList_run (.bool false) (by kernel_rfl) (exec_neqH e1 rfl rfl rfl) ?_
              simp only [Act.put, List.setIfInBounds_toArray, List.set_cons_zero, List.set_cons_succ]
              refine wpList_run (.bool false) (by kernel_rfl) (by kernel_rfl) ?_
              simp only [Act.put, List.setIfInBounds_toArray, List.set_cons_zero, List.set_cons_succ]
              refine wpList_load_want 28 _ rfl (g15) 0 rfl (rowV 32 F) _ (E.out.get 2 rfl).range Tryd.underlying28 rfl (info_hash32 _) (by kernel_rfl) ?_
              simp only [Act.put, List.setIfInBounds_toArray, List.set_cons_zero, List.set_cons_succ]
              refine wpList_load_want 28 _ rfl (g17) 0 rfl (rowV 32 G) _ (E.out.get 0 rfl).range Tryd.underlying28 rfl (info_hash32 _) (by kernel_rfl) ?_
              simp only [Act.put, List.setIfInBounds_toArray, List.set_cons_zero, List.set_cons_succ]
              refine wpList_run (.bool true) (by kernel_rfl) (exec_neqH e2 rfl rfl rfl) ?_
              simp only [Act.put, List.setIfInBounds_toArray, List.set_cons_zero, List.set_cons_succ]
              refine wpList_run (.bool true) (by kernel_rfl) (by kernel_rfl) ?_
              simp only [Act.put, List.setIfInBounds_toArray, List.set_cons_zero, List.set_cons_succ]
              refine wpList_run (.bool true) (by kernel_rfl) (by kernel_rfl) ?_
              simp only [Act.put, List.setIfInBounds_toArray, List.set_cons_zero, List.set_cons_succ]
              go_wp2
              go_ret
              exact ⟨⟨true, rfl, fun _ _ => rfl⟩, E.out.below⟩
            | true =>
              go_wp2_with (first
                | refine wpList_load_mid rfl 28 _ rfl (w.heap.size) 0 rfl (rowV 32 N1) _ (E.out.get 7 rfl).range Tryd.underlying28 rfl (info_hash32 _) ?_
                | (refine wpList_load_mid rfl 28 _ rfl (w.heap.size + 2) 0 rfl (rowV 32 N2) _ (E.out.get 5 rfl).range Tryd.underlying28 rfl (info_hash32 _) ?_; refine wpList_stop 47 rfl ?_))
              refine hide ?_
              refine wpList_run (.bool true) (by kernel_rfl) (exec_eqlH e0 rfl rfl rfl) ?_
              simp only [Act.put, List.setIfInBounds_toArray, List.set_cons_zero, List.set_cons_succ]
              refine wpList_run (.bool true) (by kernel_rfl) (by kernel_rfl) ?_
              simp only [Act.put, List.setIfInBounds_toArray, List.set_cons_zero, List.set_cons_succ]
              refine wpList_load_want 28 _ rfl (g14) 0 rfl (rowV 32 A) _ (E.out.get 3 rfl).range Tryd.underlying28 rfl (info_hash32 _) (by kernel_rfl) ?_
              simp only [Act.put, List.setIfInBounds_toArray, List.set_cons_zero, List.set_cons_succ]
              refine wpList_load_want 28 _ rfl (g16) 0 rfl (rowV 32 B) _ (E.out.get 1 rfl).range Tryd.underlying28 rfl (info_hash32 _) (by kernel_rfl) ?_
              simp only [Act.put, List.setIfInBounds_toArray, List.set_cons_zero, List.set_cons_succ]
              refine wpList_run (.bool false) (by kernel_rfl) (exec_neqH e1 rfl rfl rfl) ?_
              simp only [Act.put, List.setIfInBounds_toArray, List.set_cons_zero, List.set_cons_succ]
              refine wpList_run (.bool false) (by kernel_rfl) (by kernel_rfl) ?_
              simp only [Act.put, List.setIfInBounds_toArray, List.set_cons_zero, List.set_cons_succ]
              refine wpList_load_want 28 _ rfl (g15) 0 rfl (rowV 32 F) _ (E.out.get 2 rfl).range Tryd.underlying28 rfl (info_hash32 _) (by kernel_rfl) ?_
              simp only [Act.put, List.setIfInBounds_toArray, List.set_cons_zero, List.set_cons_succ]
              refine wpList_load_want 28 _ rfl (g17) 0 rfl (rowV 32 G) _ (E.out.get 0 rfl).range Tryd.underlying28 rfl (info_hash32 _) (by kernel_rfl) ?_
              simp only [Act.put, List.setIfInBounds_toArray, List.set_cons_zero, List.set_cons_succ]
              refine wpList_run (.bool false) (by kernel_rfl) (exec_neqH e2 rfl rfl rfl) ?_
              simp only [Act.put, List.setIfInBounds_toArray, List.set_cons_zero, List.set_cons_succ]
              refine wpList_run (.bool false) (by kernel_rfl) (by kernel_rfl) ?_
              simp only [Act.put, List.setIfInBounds_toArray, List.set_cons_zero, List.set_cons_succ]
              refine wpList_run (.bool false) (by kernel_rfl) (by kernel_rfl) ?_
              simp only [Act.put, List.setIfInBounds_toArray, List.set_cons_zero, List.set_cons_succ]
              go_wp2
              go_roundg (d - b - 1)
              case measure => have := HB.out; omega
              case rel => exact ⟨b + 1, by omega, by go_num, by rw [HN1.out, HN2.out]; exact E.out.tail.tail.tail.tail, fun h => by rw [HN1.out, HN2.out]; have q := hun.out h; rw [e1] at q; cases q⟩
      · have hevi : (r : Int) % 2 = 1 := by omega
        have HN1 : Hid (cl i P x (b + 1) = dnode F A) := by show _ = _; rw [cl_odd (by rw [HR.out]; exact hev), HA.out, HF.out]
        have HN2 : Hid (cl i R y (b + 1) = dnode G B) := by show _ = _; rw [cl_odd (by rw [HR.out]; exact hev), HBB.out, HG.out]
        go_wp2_with fail
        refine wp_region_held_drew (S := fun w1 => Bxs w w1 [(w.heap.size + 3, 1024, pc R), (w.heap.size + 2, 32, B), (w.heap.size + 1, 1024, pc P), (w.heap.size, 32, A)]) (by kernel_rfl) E.out (fun _ => ?_)
        generalize wr.drew = w2 at *
        refine tk0 (by kernel_rfl) (by kernel_rfl) (by kernel_rfl) (fun _ _ _ h => h) E.out (yieldsIf_load_mid (by rfl) _ _ rfl (w.heap.size) (0) rfl (rowV 32 A) _ (fun _ hw => (hw.get 3 rfl).range) Tryd.underlying28 rfl (info_hash32 _)) ?_
        simp only [Act.put, List.setIfInBounds_toArray, List.set_cons_zero, List.set_cons_succ]
        refine tk1 (v := .int .i64 (b : Int)) (by kernel_rfl) (by kernel_rfl) (by kernel_rfl) (fun _ _ _ h => h) E.out (Or.inl ⟨by rfl, fun w hw => by go_simp; try (with_reducible rfl)⟩) ?_
        simp only [Act.put, List.setIfInBounds_toArray, List.set_cons_zero, List.set_cons_succ]
        refine tk2 (v := .pointer (some ⟨w.heap.size + 1, b * 32, none⟩)) (by kernel_rfl) (by kernel_rfl) (by kernel_rfl) (fun _ _ _ h => h) E.out (Or.inl ⟨by rfl, fun w hw => by go_simp; try (with_reducible rfl)⟩) ?_
        simp only [Act.put, List.setIfInBounds_toArray, List.set_cons_zero, List.set_cons_succ]
        refine tk3 (by kernel_rfl) (by kernel_rfl) (by kernel_rfl) (fun _ _ _ h => h) E.out (yieldsIf_load_mid (by rfl) _ _ rfl (w.heap.size + 1) (b * 32) rfl (rowV 32 F) _ (fun _ hw => by have q := (hw.get 2 rfl).lev b hbd; rw [HF.out] at q; exact q) Tryd.underlying28 rfl (info_hash32 _)) ?_
        simp only [Act.put, List.setIfInBounds_toArray, List.set_cons_zero, List.set_cons_succ]
        refine two45 rfl rfl rfl rfl (by decide) (by kernel_rfl) (by kernel_rfl) (by kernel_rfl) (E.out.past _) ((E.out.past _).past _) (fun g14 g15 hg => ?_)
        simp only [Act.put, List.setIfInBounds_toArray, List.set_cons_zero, List.set_cons_succ]
        have E2 : Hid (Bxs w ((w2.alloc (.cells #[.int .u8 0, .int .u8 0, .int .u8 0, .int .u8 0, .int .u8 0, .int .u8 0, .int .u8 0, .int .u8 0, .int .u8 0, .int .u8 0, .int .u8 0, .int .u8 0, .int .u8 0, .int .u8 0, .int .u8 0, .int .u8 0, .int .u8 0, .int .u8 0, .int .u8 0, .int .u8 0, .int .u8 0, .int .u8 0, .int .u8 0, .int .u8 0, .int .u8 0, .int .u8 0, .int .u8 0, .int .u8 0, .int .u8 0, .int .u8 0, .int .u8 0, .int .u8 0] 28)).alloc (.cells #[.int .u8 0, .int .u8 0, .int .u8 0, .int .u8 0, .int .u8 0, .int .u8 0, .int .u8 0, .int .u8 0, .int .u8 0, .int .u8 0, .int .u8 0, .int .u8 0, .int .u8 0, .int .u8 0, .int .u8 0, .int .u8 0, .int .u8 0, .int .u8 0, .int .u8 0, .int .u8 0, .int .u8 0, .int .u8 0, .int .u8 0, .int .u8 0, .int .u8 0, .int .u8 0, .int .u8 0, .int .u8 0, .int .u8 0, .int .u8 0, .int .u8 0, .int .u8 0] 28)) [(g15, 32, fun _ => 0), (g14, 32, fun _ => 0), (w.heap.size + 3, 1024, pc R), (w.heap.size + 2, 32, B), (w.heap.size + 1, 1024, pc P), (w.heap.size, 32, A)]) := by
          rcases hg with ⟨hA, hB⟩ | ⟨hA, hB⟩
          · exact (E.out.add hA.symm (BRow.zeros32 _ hA.symm)).add (by simp [hB]) (BRow.zeros32 _ (by simp [hB]))
          · exact ((E.out.add hB.symm (BRow.zeros32 _ hB.symm)).add (by simp [hA]) (BRow.zeros32 _ (by simp [hA]))).swap
        clear hg E
        generalize (w2.alloc (.cells #[.int .u8 0, .int .u8 0, .int .u8 0, .int .u8 0, .int .u8 0, .int .u8 0, .int .u8 0, .int .u8 0, .int .u8 0, .int .u8 0, .int .u8 0, .int .u8 0, .int .u8 0, .int .u8 0, .int .u8 0, .int .u8 0, .int .u8 0, .int .u8 0, .int .u8 0, .int .u8 0, .int .u8 0, .int .u8 0, .int .u8 0, .int .u8 0, .int .u8 0, .int .u8 0, .int .u8 0, .int .u8 0, .int .u8 0, .int .u8 0, .int .u8 0, .int .u8 0] 28)).alloc (.cells #[.int .u8 0, .int .u8 0, .int .u8 0, .int .u8 0, .int .u8 0, .int .u8 0, .int .u8 0, .int .u8 0, .int .u8 0, .int .u8 0, .int .u8 0, .int .u8 0, .int .u8 0, .int .u8 0, .int .u8 0, .int .u8 0, .int .u8 0, .int .u8 0, .int .u8 0, .int .u8 0, .int .u8 0, .int .u8 0, .int .u8 0, .int .u8 0, .int .u8 0, .int .u8 0, .int .u8 0, .int .u8 0, .int .u8 0, .int .u8 0, .int .u8 0, .int .u8 0] 28) = w4 at *
        refine wpAnyH_ready (rs := [6]) (by kernel_rfl) (by simp) ?_
        refine rd6 (fun K hK => ?_) AllReadyH.nil
        rw [if_pos (by rfl)]
        refine wp_store_mid _ _ _ rfl (g14) (0) (rowV 32 A).toArray rfl rfl ((E2.out.get 1 rfl).thereA _) (info_hash32A _) (rowV_oneA _ _) ?_
        have E3 : Hid (Bxs w (w4.setCells g14 0 (rowV 32 A)) [(g15, 32, fun _ => 0), (g14, 32, A), (w.heap.size + 3, 1024, pc R), (w.heap.size + 2, 32, B), (w.heap.size + 1, 1024, pc P), (w.heap.size, 32, A)]) := E2.out.put 1 rfl A
        refine hK.out _ _ E3.out.tail.tail (fun _ => ?_)
        clear hK K
        generalize w4.setCells g14 0 (rowV 32 A) = w5 at *
        clear E2
        refine wpAnyH_ready (rs := [7]) (by kernel_rfl) (by simp) ?_
        refine rd7 (fun K hK => ?_) AllReadyH.nil
        rw [if_pos (by rfl)]
        refine wp_store_mid _ _ _ rfl (g15) (0) (rowV 32 F).toArray rfl rfl ((E3.out.get 0 rfl).thereA _) (info_hash32A _) (rowV_oneA _ _) ?_
        have E : Hid (Bxs w (w5.setCells g15 0 (rowV 32 F)) [(g15, 32, F), (g14, 32, A), (w.heap.size + 3, 1024, pc R), (w.heap.size + 2, 32, B), (w.heap.size + 1, 1024, pc P), (w.heap.size, 32, A)]) := E3.out.put 0 rfl F
        refine hK.out _ _ E.out.tail.tail (fun _ => ?_)
        clear hK K
        refine wpAnyH_done (by kernel_rfl) ?_ _
        try simp only [Act.put]
        generalize w5.setCells g15 0 (rowV 32 F) = wj at *
        clear E3
        go_wp2_with fail
        replace E := hide (E.out.after (bMe wj).drew)
        refine wp_region_held_drew (S := fun w1 => Bxs w w1 [(g15, 32, F), (g14, 32, A), (w.heap.size + 3, 1024, pc R), (w.heap.size + 2, 32, B), (w.heap.size + 1, 1024, pc P), (w.heap.size, 32, A)]) (by kernel_rfl) E.out (fun _ => ?_)
        generalize wj.drew = w2 at *
        refine tk0 (by kernel_rfl) (by kernel_rfl) (by kernel_rfl) (fun _ _ _ h => h) E.out (yieldsIf_load_mid (by rfl) _ _ rfl (w.heap.size + 2) (0) rfl (rowV 32 B) _ (fun _ hw => (hw.get 3 rfl).range) Tryd.underlying28 rfl (info_hash32 _)) ?_
        simp only [Act.put, List.setIfInBounds_toArray, List.set_cons_zero, List.set_cons_succ]
        refine tk1 (v := .int .i64 (b : Int)) (by kernel_rfl) (by kernel_rfl) (by kernel_rfl) (fun _ _ _ h => h) E.out (Or.inl ⟨by rfl, fun w hw => by go_simp; try (with_reducible rfl)⟩) ?_
        simp only [Act.put, List.setIfInBounds_toArray, List.set_cons_zero, List.set_cons_succ]
        refine tk2 (v := .pointer (some ⟨w.heap.size + 3, b * 32, none⟩)) (by kernel_rfl) (by kernel_rfl) (by kernel_rfl) (fun _ _ _ h => h) E.out (Or.inl ⟨by rfl, fun w hw => by go_simp; try (with_reducible rfl)⟩) ?_
        simp only [Act.put, List.setIfInBounds_toArray, List.set_cons_zero, List.set_cons_succ]
        refine tk3 (by kernel_rfl) (by kernel_rfl) (by kernel_rfl) (fun _ _ _ h => h) E.out (yieldsIf_load_mid (by rfl) _ _ rfl (w.heap.size + 3) (b * 32) rfl (rowV 32 G) _ (fun _ hw => by have q := (hw.get 2 rfl).lev b hbd; rw [HG.out] at q; exact q) Tryd.underlying28 rfl (info_hash32 _)) ?_
        simp only [Act.put, List.setIfInBounds_toArray, List.set_cons_zero, List.set_cons_succ]
        refine two45 rfl rfl rfl rfl (by decide) (by kernel_rfl) (by kernel_rfl) (by kernel_rfl) (E.out.past _) ((E.out.past _).past _) (fun g16 g17 hg => ?_)
        simp only [Act.put, List.setIfInBounds_toArray, List.set_cons_zero, List.set_cons_succ]
        have E2 : Hid (Bxs w ((w2.alloc (.cells #[.int .u8 0, .int .u8 0, .int .u8 0, .int .u8 0, .int .u8 0, .int .u8 0, .int .u8 0, .int .u8 0, .int .u8 0, .int .u8 0, .int .u8 0, .int .u8 0, .int .u8 0, .int .u8 0, .int .u8 0, .int .u8 0, .int .u8 0, .int .u8 0, .int .u8 0, .int .u8 0, .int .u8 0, .int .u8 0, .int .u8 0, .int .u8 0, .int .u8 0, .int .u8 0, .int .u8 0, .int .u8 0, .int .u8 0, .int .u8 0, .int .u8 0, .int .u8 0] 28)).alloc (.cells #[.int .u8 0, .int .u8 0, .int .u8 0, .int .u8 0, .int .u8 0, .int .u8 0, .int .u8 0, .int .u8 0, .int .u8 0, .int .u8 0, .int .u8 0, .int .u8 0, .int .u8 0, .int .u8 0, .int .u8 0, .int .u8 0, .int .u8 0, .int .u8 0, .int .u8 0, .int .u8 0, .int .u8 0, .int .u8 0, .int .u8 0, .int .u8 0, .int .u8 0, .int .u8 0, .int .u8 0, .int .u8 0, .int .u8 0, .int .u8 0, .int .u8 0, .int .u8 0] 28)) [(g17, 32, fun _ => 0), (g16, 32, fun _ => 0), (g15, 32, F), (g14, 32, A), (w.heap.size + 3, 1024, pc R), (w.heap.size + 2, 32, B), (w.heap.size + 1, 1024, pc P), (w.heap.size, 32, A)]) := by
          rcases hg with ⟨hA, hB⟩ | ⟨hA, hB⟩
          · exact (E.out.add hA.symm (BRow.zeros32 _ hA.symm)).add (by simp [hB]) (BRow.zeros32 _ (by simp [hB]))
          · exact ((E.out.add hB.symm (BRow.zeros32 _ hB.symm)).add (by simp [hA]) (BRow.zeros32 _ (by simp [hA]))).swap
        clear hg E
        generalize (w2.alloc (.cells #[.int .u8 0, .int .u8 0, .int .u8 0, .int .u8 0, .int .u8 0, .int .u8 0, .int .u8 0, .int .u8 0, .int .u8 0, .int .u8 0, .int .u8 0, .int .u8 0, .int .u8 0, .int .u8 0, .int .u8 0, .int .u8 0, .int .u8 0, .int .u8 0, .int .u8 0, .int .u8 0, .int .u8 0, .int .u8 0, .int .u8 0, .int .u8 0, .int .u8 0, .int .u8 0, .int .u8 0, .int .u8 0, .int .u8 0, .int .u8 0, .int .u8 0, .int .u8 0] 28)).alloc (.cells #[.int .u8 0, .int .u8 0, .int .u8 0, .int .u8 0, .int .u8 0, .int .u8 0, .int .u8 0, .int .u8 0, .int .u8 0, .int .u8 0, .int .u8 0, .int .u8 0, .int .u8 0, .int .u8 0, .int .u8 0, .int .u8 0, .int .u8 0, .int .u8 0, .int .u8 0, .int .u8 0, .int .u8 0, .int .u8 0, .int .u8 0, .int .u8 0, .int .u8 0, .int .u8 0, .int .u8 0, .int .u8 0, .int .u8 0, .int .u8 0, .int .u8 0, .int .u8 0] 28) = w4 at *
        refine wpAnyH_ready (rs := [6]) (by kernel_rfl) (by simp) ?_
        refine rd6 (fun K hK => ?_) AllReadyH.nil
        rw [if_pos (by rfl)]
        refine wp_store_mid _ _ _ rfl (g16) (0) (rowV 32 B).toArray rfl rfl ((E2.out.get 1 rfl).thereA _) (info_hash32A _) (rowV_oneA _ _) ?_
        have E3 : Hid (Bxs w (w4.setCells g16 0 (rowV 32 B)) [(g17, 32, fun _ => 0), (g16, 32, B), (g15, 32, F), (g14, 32, A), (w.heap.size + 3, 1024, pc R), (w.heap.size + 2, 32, B), (w.heap.size + 1, 1024, pc P), (w.heap.size, 32, A)]) := E2.out.put 1 rfl B
        refine hK.out _ _ E3.out.tail.tail (fun _ => ?_)
        clear hK K
        generalize w4.setCells g16 0 (rowV 32 B) = w5 at *
        clear E2
        refine wpAnyH_ready (rs := [7]) (by kernel_rfl) (by simp) ?_
        refine rd7 (fun K hK => ?_) AllReadyH.nil
        rw [if_pos (by rfl)]
        refine wp_store_mid _ _ _ rfl (g17) (0) (rowV 32 G).toArray rfl rfl ((E3.out.get 0 rfl).thereA _) (info_hash32A _) (rowV_oneA _ _) ?_
        have E : Hid (Bxs w (w5.setCells g17 0 (rowV 32 G)) [(g17, 32, G), (g16, 32, B), (g15, 32, F), (g14, 32, A), (w.heap.size + 3, 1024, pc R), (w.heap.size + 2, 32, B), (w.heap.size + 1, 1024, pc P), (w.heap.size, 32, A)]) := E3.out.put 0 rfl G
        refine hK.out _ _ E.out.tail.tail (fun _ => ?_)
        clear hK K
        refine wpAnyH_done (by kernel_rfl) ?_ _
        try simp only [Act.put]
        generalize w5.setCells g17 0 (rowV 32 G) = w6 at *
        clear E3
        clear hb32
        go_wp2_with fail
        replace E := hide (E.out.after (bMe w6).drew)
        refine wp_region_T (T := fun l w1 => ∃ X Y V W : Nat → Int, Bxs w w1 [(g17, 32, W), (g16, 32, V), (g15, 32, Y), (g14, 32, X), (w.heap.size + 3, 1024, pc R), (w.heap.size + 2, 32, B), (w.heap.size + 1, 1024, pc P), (w.heap.size, 32, A)] ∧ (l.getD 4 true = false → X = A) ∧ (l.getD 5 true = false → Y = F) ∧ (l.getD 6 true = false → V = B) ∧ (l.getD 7 true = false → W = G)) (by kernel_rfl) ?_
        generalize w6.drew = w7 at *
        refine tkT0 (S := fun w1 => w1.rangeAt g15 0 (rowV 32 F)) 5 (by kernel_rfl) (by kernel_rfl) (fun l w1 e ⟨X, Y, V, W, h⟩ => by rw [← (h.2.2.1 e)]; exact (h.1.get 2 rfl).range) (fun l w => by simp only [getD_set_ne true (show (0 : Nat) ≠ 4 by decide), getD_set_ne true (show (0 : Nat) ≠ 5 by decide), getD_set_ne true (show (0 : Nat) ≠ 6 by decide), getD_set_ne true (show (0 : Nat) ≠ 7 by decide)]) (by kernel_rfl) (by kernel_rfl) (by kernel_rfl) (fun _ _ _ h => h) ⟨_, _, _, _, E.out, fun _ => rfl, fun _ => rfl, fun _ => rfl, fun _ => rfl⟩ (yieldsIf_load_mid (by rfl) _ _ rfl g15 0 rfl (rowV 32 F) _ (fun _ hw => hw) Tryd.underlying28 rfl (info_hash32 _)) ?_
        simp only [Act.put, List.setIfInBounds_toArray, List.set_cons_zero, List.set_cons_succ]
        refine tkT1 (S := fun w1 => w1.rangeAt g14 0 (rowV 32 A)) 4 (by kernel_rfl) (by kernel_rfl) (fun l w1 e ⟨X, Y, V, W, h⟩ => by rw [← (h.2.1 e)]; exact (h.1.get 3 rfl).range) (fun l w => by simp only [getD_set_ne true (show (1 : Nat) ≠ 4 by decide), getD_set_ne true (show (1 : Nat) ≠ 5 by decide), getD_set_ne true (show (1 : Nat) ≠ 6 by decide), getD_set_ne true (show (1 : Nat) ≠ 7 by decide)]) (by kernel_rfl) (by kernel_rfl) (by kernel_rfl) (fun _ _ _ h => h) ⟨_, _, _, _, E.out, fun _ => rfl, fun _ => rfl, fun _ => rfl, fun _ => rfl⟩ (yieldsIf_load_mid (by rfl) _ _ rfl g14 0 rfl (rowV 32 A) _ (fun _ hw => hw) Tryd.underlying28 rfl (info_hash32 _)) ?_
        simp only [Act.put, List.setIfInBounds_toArray, List.set_cons_zero, List.set_cons_succ]
        refine tkT2 (S := fun w1 => w1.rangeAt g17 0 (rowV 32 G)) 7 (by kernel_rfl) (by kernel_rfl) (fun l w1 e ⟨X, Y, V, W, h⟩ => by rw [← (h.2.2.2.2 e)]; exact (h.1.get 0 rfl).range) (fun l w => by simp only [getD_set_ne true (show (2 : Nat) ≠ 4 by decide), getD_set_ne true (show (2 : Nat) ≠ 5 by decide), getD_set_ne true (show (2 : Nat) ≠ 6 by decide), getD_set_ne true (show (2 : Nat) ≠ 7 by decide)]) (by kernel_rfl) (by kernel_rfl) (by kernel_rfl) (fun _ _ _ h => h) ⟨_, _, _, _, E.out, fun _ => rfl, fun _ => rfl, fun _ => rfl, fun _ => rfl⟩ (yieldsIf_load_mid (by rfl) _ _ rfl g17 0 rfl (rowV 32 G) _ (fun _ hw => hw) Tryd.underlying28 rfl (info_hash32 _)) ?_
        simp only [Act.put, List.setIfInBounds_toArray, List.set_cons_zero, List.set_cons_succ]
        refine tkT3 (S := fun w1 => w1.rangeAt g16 0 (rowV 32 B)) 6 (by kernel_rfl) (by kernel_rfl) (fun l w1 e ⟨X, Y, V, W, h⟩ => by rw [← (h.2.2.2.1 e)]; exact (h.1.get 1 rfl).range) (fun l w => by simp only [getD_set_ne true (show (3 : Nat) ≠ 4 by decide), getD_set_ne true (show (3 : Nat) ≠ 5 by decide), getD_set_ne true (show (3 : Nat) ≠ 6 by decide), getD_set_ne true (show (3 : Nat) ≠ 7 by decide)]) (by kernel_rfl) (by kernel_rfl) (by kernel_rfl) (fun _ _ _ h => h) ⟨_, _, _, _, E.out, fun _ => rfl, fun _ => rfl, fun _ => rfl, fun _ => rfl⟩ (yieldsIf_load_mid (by rfl) _ _ rfl g16 0 rfl (rowV 32 B) _ (fun _ hw => hw) Tryd.underlying28 rfl (info_hash32 _)) ?_
        simp only [Act.put, List.setIfInBounds_toArray, List.set_cons_zero, List.set_cons_succ]
        refine wpAnyT_ready (rs := [4]) (by kernel_rfl) (by simp) ?_
        refine rdT4 (fun K hK => ?_) AllReadyT.nil
        rw [if_pos (by rfl)]
        refine wp_store_mid _ _ _ rfl g14 0 (rowV 32 F).toArray rfl rfl ((E.out.get 3 rfl).thereA _) (info_hash32A _) (rowV_oneA _ _) ?_
        replace E : Hid (Bxs w (w7.setCells g14 0 (rowV 32 F)) [(g17, 32, G), (g16, 32, B), (g15, 32, F), (g14, 32, F), (w.heap.size + 3, 1024, pc R), (w.heap.size + 2, 32, B), (w.heap.size + 1, 1024, pc P), (w.heap.size, 32, A)]) := E.out.put 3 rfl F
        refine hK.out _ _ ⟨_, _, _, _, E.out, fun e => absurd (a := false = true) (e.symm.trans (by kernel_rfl)) Bool.false_ne_true, fun _ => rfl, fun _ => rfl, fun _ => rfl⟩ ?_
        clear hK K
        generalize w7.setCells g14 0 (rowV 32 F) = w8 at *
        refine wpAnyT_ready (rs := [5]) (by kernel_rfl) (by simp) ?_
        refine rdT5 (fun K hK => ?_) AllReadyT.nil
        rw [if_pos (by rfl)]
        refine wp_store_mid _ _ _ rfl g15 0 (rowV 32 A).toArray rfl rfl ((E.out.get 2 rfl).thereA _) (info_hash32A _) (rowV_oneA _ _) ?_
        replace E : Hid (Bxs w (w8.setCells g15 0 (rowV 32 A)) [(g17, 32, G), (g16, 32, B), (g15, 32, A), (g14, 32, F), (w.heap.size + 3, 1024, pc R), (w.heap.size + 2, 32, B), (w.heap.size + 1, 1024, pc P), (w.heap.size, 32, A)]) := E.out.put 2 rfl A
        refine hK.out _ _ ⟨_, _, _, _, E.out, fun e => absurd (a := false = true) (e.symm.trans (by kernel_rfl)) Bool.false_ne_true, fun e => absurd (a := false = true) (e.symm.trans (by kernel_rfl)) Bool.false_ne_true, fun _ => rfl, fun _ => rfl⟩ ?_
        clear hK K
        generalize w8.setCells g15 0 (rowV 32 A) = w9 at *
        refine wpAnyT_ready (rs := [6]) (by kernel_rfl) (by simp) ?_
        refine rdT6 (fun K hK => ?_) AllReadyT.nil
        rw [if_pos (by rfl)]
        refine wp_store_mid _ _ _ rfl g16 0 (rowV 32 G).toArray rfl rfl ((E.out.get 1 rfl).thereA _) (info_hash32A _) (rowV_oneA _ _) ?_
        replace E : Hid (Bxs w (w9.setCells g16 0 (rowV 32 G)) [(g17, 32, G), (g16, 32, G), (g15, 32, A), (g14, 32, F), (w.heap.size + 3, 1024, pc R), (w.heap.size + 2, 32, B), (w.heap.size + 1, 1024, pc P), (w.heap.size, 32, A)]) := E.out.put 1 rfl G
        refine hK.out _ _ ⟨_, _, _, _, E.out, fun e => absurd (a := false = true) (e.symm.trans (by kernel_rfl)) Bool.false_ne_true, fun e => absurd (a := false = true) (e.symm.trans (by kernel_rfl)) Bool.false_ne_true, fun e => absurd (a := false = true) (e.symm.trans (by kernel_rfl)) Bool.false_ne_true, fun _ => rfl⟩ ?_
        clear hK K
        generalize w9.setCells g16 0 (rowV 32 G) = wa at *
        refine wpAnyT_ready (rs := [7]) (by kernel_rfl) (by simp) ?_
        refine rdT7 (fun K hK => ?_) AllReadyT.nil
        rw [if_pos (by rfl)]
        refine wp_store_mid _ _ _ rfl g17 0 (rowV 32 B).toArray rfl rfl ((E.out.get 0 rfl).thereA _) (info_hash32A _) (rowV_oneA _ _) ?_
        replace E : Hid (Bxs w (wa.setCells g17 0 (rowV 32 B)) [(g17, 32, B), (g16, 32, G), (g15, 32, A), (g14, 32, F), (w.heap.size + 3, 1024, pc R), (w.heap.size + 2, 32, B), (w.heap.size + 1, 1024, pc P), (w.heap.size, 32, A)]) := E.out.put 0 rfl B
        refine hK.out _ _ ⟨_, _, _, _, E.out, fun e => absurd (a := false = true) (e.symm.trans (by kernel_rfl)) Bool.false_ne_true, fun e => absurd (a := false = true) (e.symm.trans (by kernel_rfl)) Bool.false_ne_true, fun e => absurd (a := false = true) (e.symm.trans (by kernel_rfl)) Bool.false_ne_true, fun e => absurd (a := false = true) (e.symm.trans (by kernel_rfl)) Bool.false_ne_true⟩ ?_
        clear hK K
        generalize wa.setCells g17 0 (rowV 32 B) = wb at *
        refine wpAnyT_done (by kernel_rfl) ?_ _
        try simp only [Act.put]
        go_wp2_with fail
        replace E := hide (E.out.after (bMe wb).drew)
        refine wp_region_held_drew (S := fun w1 => ∃ X Y : Nat → Int, Bxs w w1 [(g17, 32, B), (g16, 32, G), (g15, 32, A), (g14, 32, F), (w.heap.size + 3, 1024, pc R), (w.heap.size + 2, 32, Y), (w.heap.size + 1, 1024, pc P), (w.heap.size, 32, X)]) (by kernel_rfl) ⟨_, _, E.out⟩ (fun _ => ?_)
        generalize wb.drew = wc at *
        refine tk0 (by kernel_rfl) (by kernel_rfl) (by kernel_rfl) (fun _ _ _ h => h) ⟨_, _, E.out⟩ (yieldsIf_load_mid (by rfl) _ _ rfl (g14) (0) rfl (rowV 32 F) _ (fun _ hw => by obtain ⟨_, _, hw⟩ := hw; exact (hw.get 3 rfl).range) Tryd.underlying28 rfl (info_hash32 _)) ?_
        simp only [Act.put, List.setIfInBounds_toArray, List.set_cons_zero, List.set_cons_succ]
        refine tk1 (by kernel_rfl) (by kernel_rfl) (by kernel_rfl) (fun _ _ _ h => h) ⟨_, _, E.out⟩ (yieldsIf_load_mid (by rfl) _ _ rfl (g15) (0) rfl (rowV 32 A) _ (fun _ hw => by obtain ⟨_, _, hw⟩ := hw; exact (hw.get 2 rfl).range) Tryd.underlying28 rfl (info_hash32 _)) ?_
        simp only [Act.put, List.setIfInBounds_toArray, List.set_cons_zero, List.set_cons_succ]
        refine tk3 (by kernel_rfl) (by kernel_rfl) (by kernel_rfl) (fun _ _ _ h => h) ⟨_, _, E.out⟩ (yieldsIf_load_mid (by rfl) _ _ rfl (g16) (0) rfl (rowV 32 G) _ (fun _ hw => by obtain ⟨_, _, hw⟩ := hw; exact (hw.get 1 rfl).range) Tryd.underlying28 rfl (info_hash32 _)) ?_
        simp only [Act.put, List.setIfInBounds_toArray, List.set_cons_zero, List.set_cons_succ]
        refine tk4 (by kernel_rfl) (by kernel_rfl) (by kernel_rfl) (fun _ _ _ h => h) ⟨_, _, E.out⟩ (yieldsIf_load_mid (by rfl) _ _ rfl (g17) (0) rfl (rowV 32 B) _ (fun _ hw => by obtain ⟨_, _, hw⟩ := hw; exact (hw.get 0 rfl).range) Tryd.underlying28 rfl (info_hash32 _)) ?_
        simp only [Act.put, List.setIfInBounds_toArray, List.set_cons_zero, List.set_cons_succ]
        refine wpAnyH_ready (rs := [2]) (by kernel_rfl) (by simp) ?_
        refine rd2 (fun K hK => ?_) AllReadyH.nil
        go_simp
        refine (node_any F A HFO.out HAO.out (HT.out.below E.out.below)).mono ?_
        rintro e wd ⟨rfl, hb⟩
        simp only []
        replace E := hide (E.out.after hb)
        clear hb
        obtain ⟨N1, hN⟩ : ∃ N, dnode F A = N := ⟨_, rfl⟩
        rw [hN] at HN1
        rw [hN]
        clear hN
        refine hK.out _ _ ⟨_, _, E.out⟩ (fun _ => ?_)
        clear hK K
        refine wpAnyH_ready (rs := [5]) (by kernel_rfl) (by simp) ?_
        refine rd5 (fun K hK => ?_) AllReadyH.nil
        go_simp
        refine (node_any G B HGO.out HBO.out (HT.out.below E.out.below)).mono ?_
        rintro e we ⟨rfl, hb⟩
        simp only []
        replace E := hide (E.out.after hb)
        clear hb
        obtain ⟨N2, hN⟩ : ∃ N, dnode G B = N := ⟨_, rfl⟩
        rw [hN] at HN2
        rw [hN]
        clear hN
        refine hK.out _ _ ⟨_, _, E.out⟩ (fun _ => ?_)
        clear hK K
        refine wpAnyH_ready (rs := [6]) (by kernel_rfl) (by simp) ?_
        refine rd6 (fun K hK => ?_) AllReadyH.nil
        rw [if_pos (by rfl)]
        refine wp_store_mid _ _ _ rfl (w.heap.size) (0) (rowV 32 N1).toArray rfl rfl ((E.out.get 7 rfl).thereA _) (info_hash32A _) (rowV_oneA _ _) ?_
        have E5 : Hid (Bxs w (we.setCells w.heap.size 0 (rowV 32 N1)) [(g17, 32, B), (g16, 32, G), (g15, 32, A), (g14, 32, F), (w.heap.size + 3, 1024, pc R), (w.heap.size + 2, 32, B), (w.heap.size + 1, 1024, pc P), (w.heap.size, 32, N1)]) := E.out.put 7 rfl N1
        refine hK.out _ _ ⟨_, _, E5.out⟩ (fun _ => ?_)
        clear hK K
        generalize we.setCells w.heap.size 0 (rowV 32 N1) = wf at *
        clear E
        refine wpAnyH_ready (rs := [7]) (by kernel_rfl) (by simp) ?_
        refine rd7 (fun K hK => ?_) AllReadyH.nil
        rw [if_pos (by rfl)]
        refine wp_store_mid _ _ _ rfl (w.heap.size + 2) (0) (rowV 32 N2).toArray rfl rfl ((E5.out.get 5 rfl).thereA _) (info_hash32A _) (rowV_oneA _ _) ?_
        have E : Hid (Bxs w (wf.setCells (w.heap.size + 2) 0 (rowV 32 N2)) [(g17, 32, B), (g16, 32, G), (g15, 32, A), (g14, 32, F), (w.heap.size + 3, 1024, pc R), (w.heap.size + 2, 32, N2), (w.heap.size + 1, 1024, pc P), (w.heap.size, 32, N1)]) := E5.out.put 5 rfl N2
        refine hK.out _ _ ⟨_, _, E.out⟩ (fun _ => ?_)
        clear hK K
        refine wpAnyH_done (by kernel_rfl) ?_ _
        try simp only [Act.put]
        generalize wf.setCells (w.heap.size + 2) 0 (rowV 32 N2) = wg at *
        clear E5
        cases e0 : sameH N1 N2 with
        | false =>
          go_wp2_with (first
            | refine wpList_load_mid rfl 28 _ rfl (w.heap.size) 0 rfl (rowV 32 N1) _ (E.out.get 7 rfl).range Tryd.underlying28 rfl (info_hash32 _) ?_
            | (refine wpList_load_mid rfl 28 _ rfl (w.heap.size + 2) 0 rfl (rowV 32 N2) _ (E.out.get 5 rfl).range Tryd.underlying28 rfl (info_hash32 _) ?_; refine wpList_stop 47 rfl ?_))
          refine hide ?_
          refine wpList_run (.bool false) (by kernel_rfl) (exec_eqlH e0 rfl rfl rfl) ?_
          simp only [Act.put, List.setIfInBounds_toArray, List.set_cons_zero, List.set_cons_succ]
          refine wpList_run (.bool false) (by kernel_rfl) (by kernel_rfl) ?_
          simp only [Act.put, List.setIfInBounds_toArray, List.set_cons_zero, List.set_cons_succ]
          go_big_skip
          refine wpList_run (.bool false) (by kernel_rfl) (by kernel_rfl) ?_
          simp only [Act.put, List.setIfInBounds_toArray, List.set_cons_zero, List.set_cons_succ]
          go_wp2
          go_roundg (d - b - 1)
          case measure => have := HB.out; omega
          case rel => exact ⟨b + 1, by omega, by go_num, by rw [HN1.out, HN2.out]; exact E.out.tail.tail.tail.tail, fun h => by rw [HN1.out, HN2.out]; exact e0⟩
        | true =>
          cases e1 : sameH F G with
          | false =>
            go_wp2_with (first
              | refine wpList_load_mid rfl 28 _ rfl (w.heap.size) 0 rfl (rowV 32 N1) _ (E.out.get 7 rfl).range Tryd.underlying28 rfl (info_hash32 _) ?_
              | (refine wpList_load_mid rfl 28 _ rfl (w.heap.size + 2) 0 rfl (rowV 32 N2) _ (E.out.get 5 rfl).range Tryd.underlying28 rfl (info_hash32 _) ?_; refine wpList_stop 47 rfl ?_))
            refine hide ?_
            refine wpList_run (.bool true) (by kernel_rfl) (exec_eqlH e0 rfl rfl rfl) ?_
            simp only [Act.put, List.setIfInBounds_toArray, List.set_cons_zero, List.set_cons_succ]
            refine wpList_run (.bool true) (by kernel_rfl) (by kernel_rfl) ?_
            simp only [Act.put, List.setIfInBounds_toArray, List.set_cons_zero, List.set_cons_succ]
            refine wpList_load_want 28 _ rfl (g14) 0 rfl (rowV 32 F) _ (E.out.get 3 rfl).range Tryd.underlying28 rfl (info_hash32 _) (by kernel_rfl) ?_
            simp only [Act.put, List.setIfInBounds_toArray, List.set_cons_zero, List.set_cons_succ]
            refine wpList_load_want 28 _ rfl (g16) 0 rfl (rowV 32 G) _ (E.out.get 1 rfl).range Tryd.underlying28 rfl (info_hash32 _) (by kernel_rfl) ?_
            simp only [Act.put, List.setIfInBounds_toArray, List.set_cons_zero, List.set_cons_succ]
            refine wpList_run (.bool true) (by kernel_rfl) (exec_neqH e1 rfl rfl rfl) ?_
            simp only [Act.put, List.setIfInBounds_toArray, List.set_cons_zero, List.set_cons_succ]
            refine wpList_run (.bool true) (by kernel_rfl) (by kernel_rfl) ?_
            simp only [Act.put, List.setIfInBounds_toArray, List.set_cons_zero, List.set_cons_succ]
            go_big_skip
            refine wpList_run (.bool true) (by kernel_rfl) (by kernel_rfl) ?_
            simp only [Act.put, List.setIfInBounds_toArray, List.set_cons_zero, List.set_cons_succ]
            refine wpList_run (.bool true) (by kernel_rfl) (by kernel_rfl) ?_
            simp only [Act.put, List.setIfInBounds_toArray, List.set_cons_zero, List.set_cons_succ]
            go_wp2
            go_ret
            exact ⟨⟨true, rfl, fun _ _ => rfl⟩, E.out.below⟩
          | true =>
            cases e2 : sameH A B with
            | false =>
              go_wp2_with (first
                | refine wpList_load_mid rfl 28 _ rfl (w.heap.size) 0 rfl (rowV 32 N1) _ (E.out.get 7 rfl).range Tryd.underlying28 rfl (info_hash32 _) ?_
                | (refine wpList_load_mid rfl 28 _ rfl (w.heap.size + 2) 0 rfl (rowV 32 N2) _ (E.out.get 5 rfl).range Tryd.underlying28 rfl (info_hash32 _) ?_; refine wpList_stop 47 rfl ?_))
              refine hide ?_
              refine wpList_run (.bool true) (by kernel_rfl) (exec_eqlH e0 rfl rfl rfl) ?_
              simp only [Act.put, List.setIfInBounds_toArray, List.set_cons_zero, List.set_cons_succ]
              refine wpList_run (.bool true) (by kernel_rfl) (by kernel_rfl) ?_
              simp only [Act.put, List.setIfInBounds_toArray, List.set_cons_zero, List.set_cons_succ]
              refine wpList_load_want 28 _ rfl (g14) 0 rfl (rowV 32 F) _ (E.out.get 3 rfl).range Tryd.underlying28 rfl (info_hash32 _) (by kernel_rfl) ?_
              simp only [Act.put, List.setIfInBounds_toArray, List.set_cons_zero, List.set_cons_succ]
              refine wpList_load_want 28 _ rfl (g16) 0 rfl (rowV 32 G) _ (E.out.get 1 rfl).range Tryd.underlying28 rfl (info_hash32 _) (by kernel_rfl) ?_
              simp only [Act.put, List.setIfInBounds_toArray, List.set_cons_zero, List.set_cons_succ]
              refine wpList_run (.bool false) (by kernel_rfl) (exec_neqH e1 rfl rfl rfl) ?_
              simp only [Act.put, List.setIfInBounds_toArray, List.set_cons_zero, List.set_cons_succ]
              refine wpList_run (.bool false) (by kernel_rfl) (by kernel_rfl) ?_
              simp only [Act.put, List.setIfInBounds_toArray, List.set_cons_zero, List.set_cons_succ]
              refine wpList_load_want 28 _ rfl (g15) 0 rfl (rowV 32 A) _ (E.out.get 2 rfl).range Tryd.underlying28 rfl (info_hash32 _) (by kernel_rfl) ?_
              simp only [Act.put, List.setIfInBounds_toArray, List.set_cons_zero, List.set_cons_succ]
              refine wpList_load_want 28 _ rfl (g17) 0 rfl (rowV 32 B) _ (E.out.get 0 rfl).range Tryd.underlying28 rfl (info_hash32 _) (by kernel_rfl) ?_
              simp only [Act.put, List.setIfInBounds_toArray, List.set_cons_zero, List.set_cons_succ]
              refine wpList_run (.bool true) (by kernel_rfl) (exec_neqH e2 rfl rfl rfl) ?_
              simp only [Act.put, List.setIfInBounds_toArray, List.set_cons_zero, List.set_cons_succ]
              refine wpList_run (.bool true) (by kernel_rfl) (by kernel_rfl) ?_
              simp only [Act.put, List.setIfInBounds_toArray, List.set_cons_zero, List.set_cons_succ]
              refine wpList_run (.bool true) (by kernel_rfl) (by kernel_rfl) ?_
              simp only [Act.put, List.setIfInBounds_toArray, List.set_cons_zero, List.set_cons_succ]
              go_wp2
              go_ret
              exact ⟨⟨true, rfl, fun _ _ => rfl⟩, E.out.below⟩
            | true =>
              go_wp2_with (first
                | refine wpList_load_mid rfl 28 _ rfl (w.heap.size) 0 rfl (rowV 32 N1) _ (E.out.get 7 rfl).range Tryd.underlying28 rfl (info_hash32 _) ?_
                | (refine wpList_load_mid rfl 28 _ rfl (w.heap.size + 2) 0 rfl (rowV 32 N2) _ (E.out.get 5 rfl).range Tryd.underlying28 rfl (info_hash32 _) ?_; refine wpList_stop 47 rfl ?_))
              refine hide ?_
              refine wpList_run (.bool true) (by kernel_rfl) (exec_eqlH e0 rfl rfl rfl) ?_
              simp only [Act.put, List.setIfInBounds_toArray, List.set_cons_zero, List.set_cons_succ]
              refine wpList_run (.bool true) (by kernel_rfl) (by kernel_rfl) ?_
              simp only [Act.put, List.setIfInBounds_toArray, List.set_cons_zero, List.set_cons_succ]
              refine wpList_load_want 28 _ rfl (g14) 0 rfl (rowV 32 F) _ (E.out.get 3 rfl).range Tryd.underlying28 rfl (info_hash32 _) (by kernel_rfl) ?_
              simp only [Act.put, List.setIfInBounds_toArray, List.set_cons_zero, List.set_cons_succ]
              refine wpList_load_want 28 _ rfl (g16) 0 rfl (rowV 32 G) _ (E.out.get 1 rfl).range Tryd.underlying28 rfl (info_hash32 _) (by kernel_rfl) ?_
              simp only [Act.put, List.setIfInBounds_toArray, List.set_cons_zero, List.set_cons_succ]
              refine wpList_run (.bool false) (by kernel_rfl) (exec_neqH e1 rfl rfl rfl) ?_
              simp only [Act.put, List.setIfInBounds_toArray, List.set_cons_zero, List.set_cons_succ]
              refine wpList_run (.bool false) (by kernel_rfl) (by kernel_rfl) ?_
              simp only [Act.put, List.setIfInBounds_toArray, List.set_cons_zero, List.set_cons_succ]
              refine wpList_load_want 28 _ rfl (g15) 0 rfl (rowV 32 A) _ (E.out.get 2 rfl).range Tryd.underlying28 rfl (info_hash32 _) (by kernel_rfl) ?_
              simp only [Act.put, List.setIfInBounds_toArray, List.set_cons_zero, List.set_cons_succ]
              refine wpList_load_want 28 _ rfl (g17) 0 rfl (rowV 32 B) _ (E.out.get 0 rfl).range Tryd.underlying28 rfl (info_hash32 _) (by kernel_rfl) ?_
              simp only [Act.put, List.setIfInBounds_toArray, List.set_cons_zero, List.set_cons_succ]
              refine wpList_run (.bool false) (by kernel_rfl) (exec_neqH e2 rfl rfl rfl) ?_
              simp only [Act.put, List.setIfInBounds_toArray, List.set_cons_zero, List.set_cons_succ]
              refine wpList_run (.bool false) (by kernel_rfl) (by kernel_rfl) ?_
              simp only [Act.put, List.setIfInBounds_toArray, List.set_cons_zero, List.set_cons_succ]
              refine wpList_run (.bool false) (by kernel_rfl) (by kernel_rfl) ?_
              simp only [Act.put, List.setIfInBounds_toArray, List.set_cons_zero, List.set_cons_succ]
              go_wp2
              go_roundg (d - b - 1)
              case measure => have := HB.out; omega
              case rel => exact ⟨b + 1, by omega, by go_num, by rw [HN1.out, HN2.out]; exact E.out.tail.tail.tail.tail, fun h => by rw [HN1.out, HN2.out]; have q := hun.out h; rw [e2] at q; cases q⟩
    · obtain rfl : b = d := by have := HB.out; omega
      have E := hide he
      clear he
      go_wp2
      go_ret
      refine ⟨⟨false, rfl, fun h1 h2 => ?_⟩, E.out.below⟩
      rw [HA.out, HBB.out, hun.out h2] at h1
      exact h1
end Go.Proofs.YtjkhboejhcbdpaaDoor
