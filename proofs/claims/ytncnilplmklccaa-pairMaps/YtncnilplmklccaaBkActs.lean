/- The contracts of book's give and take over this translation (gen-bkacts.py). -/
import Derived.Test.YtncnilplmklccaaBkPut
import Derived.Test.YtncnilplmklccaaHugeAdd
import Derived.Test.YtncnilplmklccaaHugeSub
namespace Go.Proofs.Ytncnilplmklccaa
set_option linter.unusedSimpArgs false
set_option linter.unusedVariables false
open Go.RowKit Go.Lib
attribute [local go_sem] setCell_drewN alloc_drewN

/-- Whether a number stays within the bounds is a question of comparisons. -/
abbrev askIn (x : Int) : Decidable (In x) := inferInstanceAs (Decidable (_ ∧ _))
/-- A number, if it is one. -/
def nm (x : Int) : Nm := @dite Nm (In x) (askIn x) (fun h => ⟨x, h⟩) (fun _ => ⟨0, In.zero⟩)
theorem nm_val {x : Int} (h : In x) : (nm x).1 = x := by unfold nm; rw [dif_pos h]
/-- So much more, so much less. -/
def addB (k : Kk) (N : Int) (L : Kvs) : Kvs := putB k (nm (bal L k + N)) L
def subB (k : Kk) (N : Int) (L : Kvs) : Kvs := putB k (nm (bal L k - N)) L
theorem add_in {L : Kvs} {k : Kk} (hk : Kin k) {N : Int} (hN : In N) (h : In (sup L k.1 + N)) : In (bal L k + N) := by
  have := bal_le_sup L hk
  have := (bal_in L k).1
  unfold In at *
  omega
theorem sub_in {L : Kvs} {k : Kk} {N : Int} (hN : In N) (h : N ≤ bal L k) : In (bal L k - N) := by
  have := bal_in L k
  unfold In at *
  omega
theorem sup_addB {L : Kvs} (hs : Srt kyKey L) {k : Kk} (hk : Kin k) {N : Int} (hN : In N) (h : In (sup L k.1 + N)) (t : Int) : sup (addB k N L) t = if k.1 = t then sup L t + N else sup L t := by
  unfold addB
  rw [sup_putB hs hk, nm_val (add_in hk hN h)]
  split
  · omega
  · rfl
theorem sup_subB {L : Kvs} (hs : Srt kyKey L) {k : Kk} (hk : Kin k) {N : Int} (hN : In N) (h : N ≤ bal L k) (t : Int) : sup (subB k N L) t = if k.1 = t then sup L t - N else sup L t := by
  unfold subB
  rw [sup_putB hs hk, nm_val (sub_in hN h)]
  split
  · omega
  · rfl
set_option maxRecDepth 100000 in
set_option maxHeartbeats 600000 in
theorem give_bk {w : World} {S : Nat → Prop} {bj : Jk} {bb n : Nat} {h : Nat → Kvs} (B : Bk w S bj bb n h) {k : Kk} {N : Int} (hk : Kin k) (hN : In N) (hn : n ≤ 10000) (hs : In (sup (h n) k.1 + N)) :
    Calls Try.prog 45 #[.pointer (some ⟨bb, 0, none⟩), .agg #[.int .u8 k.1, .int .u8 k.2], big N] w fun e w' => e = .returned (.tuple #[]) ∧ ∃ S' n' h', Bk w' S' bj bb n' h' ∧ Mv S S' w w' ∧ Nx n h n' h' (addB k N (h n)) 1 := by
  obtain ⟨W, hW⟩ : ∃ W, (w.alloc (.cells #[.int .u8 k.1, .int .u8 k.2] 96)).alloc (.cells #[.int .u64 (lm N 0), .int .u64 (lm N 1), .int .u64 (lm N 2), .int .u64 (lm N 3)] 55) = W := ⟨_, rfl⟩
  obtain ⟨g, hg⟩ : ∃ g, w.heap.size = g := ⟨_, rfl⟩
  have HB : Hid (Below w.heap.size w W) := by rw [← hW]; exact bAl (bAl (bMe w))
  have hz : W.heap.size = g + 2 := by rw [← hW, ← hg]; simp
  obtain ⟨lk, k0, k1⟩ : KBox W g k := by rw [← hW, ← hg]; exact (KBox.new w k).past _
  obtain ⟨lv, v0, v1, v2, v3⟩ : Lims W (g + 1) (lm N 0) (lm N 1) (lm N 2) (lm N 3) := by
    rw [← hW, ← hg]
    have := Lims.new (w.alloc (.cells #[.int .u8 k.1, .int .u8 k.2] 96)) (lm N 0) (lm N 1) (lm N 2) (lm N 3) 55
    simpa using this
  have BW := B.below HB.out
  have HA : Hid (∀ w', Below W.heap.size W w' → Calls Try.prog 46 #[.pointer (some ⟨bb, 0, none⟩), .agg #[.int .u8 k.1, .int .u8 k.2]] w' fun e w'' => e = .returned (big (bal (h n) k)) ∧ Below w'.heap.size w' w'') := fun w' hb => at_any' (BW.below hb) hk.ok
  have hin := add_in hk hN hs
  have HIN := hide hin
  obtain ⟨M, hM⟩ : ∃ M, bal (h n) k = M := ⟨_, rfl⟩
  have HM := hide (show bal (h n) k + N = M + N from by rw [hM])
  have HSUP := hide (show ∀ t, In (sup (putB k (nm (bal (h n) k + N)) (h n)) t) from fun t => by
    have := sup_addB (B.good n (Nat.le_refl n)).1.srt hk hN hs t
    unfold addB at this
    rw [this]
    split
    · rename_i e; rw [← e]; exact hs
    · exact (B.good n (Nat.le_refl n)).2.2 t)
  rw [hM] at hin HA
  have HF := hide (fun w' => huge_add_ok M N w' (hM ▸ bal_in _ _) hN hin)
  obtain ⟨R, hR⟩ : ∃ R, M + N = R := ⟨_, rfl⟩
  rw [hR] at HF HM
  clear hin hM hR hs
  have HP : Hid (∀ w2, Below (W.alloc (.cells #[.int .u64 0, .int .u64 0, .int .u64 0, .int .u64 0] 55)).drew.heap.size (W.alloc (.cells #[.int .u64 0, .int .u64 0, .int .u64 0, .int .u64 0] 55)).drew w2 → Own w2 (g + 2) 0 0 0 0) := fun w2 hb2 => hz ▸ (Own.new W 0 0 0 0 55).of hb2.size (hb2.block _ (by show W.heap.size < (W.alloc _).heap.size; simp))
  have HBW := hide BW
  have Hg := hide hg
  clear B BW
  go_enter Try.func45, Try.ntmps45
  go_wp2
  try rw [hW]
  try rw [hg]
  clear hW hg
  go_region_held3 (fun w' => w'.cell? ⟨g, 0, none⟩ = some (.int .u8 k.1) ∧ w'.cell? ⟨g, 1, none⟩ = some (.int .u8 k.2) ∧ w'.cell? ⟨g + 1, 0, none⟩ = some (.int .u64 (lm N 0)) ∧ w'.cell? ⟨g + 1, 1, none⟩ = some (.int .u64 (lm N 1)) ∧ w'.cell? ⟨g + 1, 2, none⟩ = some (.int .u64 (lm N 2)) ∧ w'.cell? ⟨g + 1, 3, none⟩ = some (.int .u64 (lm N 3))) (first | with_reducible exact ⟨k0, k1, v0, v1, v2, v3⟩ | with_reducible exact Sw3.out | with_reducible exact Sw2.out | (simp [go_sem, World.cell?_alloc_lt, k0, k1, v0, v1, v2, v3, lk, lv]; done) | (have hs := Sw3.out; have l1 := Nat.lt_of_lt_of_le lk Q3.out.size; have l2 := Nat.lt_of_lt_of_le lv Q3.out.size; have l3 : g + 2 ≤ w3.heap.size := Nat.le_trans (Nat.le_of_eq hz.symm) Q3.out.size; have l4 : g + 2 ≤ w2.heap.size := Nat.le_trans (Nat.le_of_eq hz.symm) Q2.out.size; have l5 : ¬ g + 1 = w2.heap.size := (by omega); have l6 : ¬ w2.heap.size = g + 1 := (by omega); have l7 : ¬ g = w2.heap.size := (by omega); have l8 : ¬ w2.heap.size = g := (by omega); simp [go_sem, World.cell?_alloc_lt, hs, l1, l2, l5, l6, l7, l8]; done) | (have hs := Sw2.out; have l1 := Nat.lt_of_lt_of_le lk Q2.out.size; have l2 := Nat.lt_of_lt_of_le lv Q2.out.size; simp [go_sem, World.cell?_alloc_lt, hs, l1, l2]; done)) ((first
    | (go_at_call 46; (with_reducible refine (HA.out (W.alloc (.cells #[.int .u64 0, .int .u64 0, .int .u64 0, .int .u64 0] 55)).drew (bAl (bMe W)).drew).mono ?_); rintro e w2 ⟨rfl, hb2⟩; have Q2 : Hid (Below W.heap.size W w2) := (bOn (bAl (bMe W)).drew hb2); have Sw2 := hide (show w2.cell? ⟨g, 0, none⟩ = some (.int .u8 k.1) ∧ w2.cell? ⟨g, 1, none⟩ = some (.int .u8 k.2) ∧ w2.cell? ⟨g + 1, 0, none⟩ = some (.int .u64 (lm N 0)) ∧ w2.cell? ⟨g + 1, 1, none⟩ = some (.int .u64 (lm N 1)) ∧ w2.cell? ⟨g + 1, 2, none⟩ = some (.int .u64 (lm N 2)) ∧ w2.cell? ⟨g + 1, 3, none⟩ = some (.int .u64 (lm N 3)) from ⟨((bcell Q2.out).1 _ _ lk).trans k0, ((bcell Q2.out).1 _ _ lk).trans k1, ((bcell Q2.out).1 _ _ lv).trans v0, ((bcell Q2.out).1 _ _ lv).trans v1, ((bcell Q2.out).1 _ _ lv).trans v2, ((bcell Q2.out).1 _ _ lv).trans v3⟩); have P2 := hide (HP.out w2 hb2))
    | (go_at_call 46; (with_reducible refine (HA.out W.drew (bMe W).drew).mono ?_); rintro e w2 ⟨rfl, hb2⟩; have Q2 : Hid (Below W.heap.size W w2) := (bOn (bMe W).drew hb2); have Sw2 := hide (show w2.cell? ⟨g, 0, none⟩ = some (.int .u8 k.1) ∧ w2.cell? ⟨g, 1, none⟩ = some (.int .u8 k.2) ∧ w2.cell? ⟨g + 1, 0, none⟩ = some (.int .u64 (lm N 0)) ∧ w2.cell? ⟨g + 1, 1, none⟩ = some (.int .u64 (lm N 1)) ∧ w2.cell? ⟨g + 1, 2, none⟩ = some (.int .u64 (lm N 2)) ∧ w2.cell? ⟨g + 1, 3, none⟩ = some (.int .u64 (lm N 3)) from ⟨((bcell Q2.out).1 _ _ lk).trans k0, ((bcell Q2.out).1 _ _ lk).trans k1, ((bcell Q2.out).1 _ _ lv).trans v0, ((bcell Q2.out).1 _ _ lv).trans v1, ((bcell Q2.out).1 _ _ lv).trans v2, ((bcell Q2.out).1 _ _ lv).trans v3⟩))
    | (go_at_call 43; (with_reducible refine (HF.out (w2.alloc (.cells #[.int .u64 0, .int .u64 0, .int .u64 0, .int .u64 0] 55))).mono ?_); rintro e w3 ⟨rfl, hb3⟩; have Q3 : Hid (Below W.heap.size W w3) := (bOn (bAl Q2.out) hb3); have Sw3 := hide (show w3.cell? ⟨g, 0, none⟩ = some (.int .u8 k.1) ∧ w3.cell? ⟨g, 1, none⟩ = some (.int .u8 k.2) ∧ w3.cell? ⟨g + 1, 0, none⟩ = some (.int .u64 (lm N 0)) ∧ w3.cell? ⟨g + 1, 1, none⟩ = some (.int .u64 (lm N 1)) ∧ w3.cell? ⟨g + 1, 2, none⟩ = some (.int .u64 (lm N 2)) ∧ w3.cell? ⟨g + 1, 3, none⟩ = some (.int .u64 (lm N 3)) from ⟨((bcell Q3.out).1 _ _ lk).trans k0, ((bcell Q3.out).1 _ _ lk).trans k1, ((bcell Q3.out).1 _ _ lv).trans v0, ((bcell Q3.out).1 _ _ lv).trans v1, ((bcell Q3.out).1 _ _ lv).trans v2, ((bcell Q3.out).1 _ _ lv).trans v3⟩); have P3 := hide (((Own.new w2 0 0 0 0 55).of hb3.size (hb3.block _ (by simp)))); obtain ⟨p5, p0, p1, p2, p3, p4⟩ := P3.out)
    | (go_at_call 43; (with_reducible refine (HF.out w2).mono ?_); rintro e w3 ⟨rfl, hb3⟩; have Q3 : Hid (Below W.heap.size W w3) := (bOn Q2.out hb3); have Sw3 := hide (show w3.cell? ⟨g, 0, none⟩ = some (.int .u8 k.1) ∧ w3.cell? ⟨g, 1, none⟩ = some (.int .u8 k.2) ∧ w3.cell? ⟨g + 1, 0, none⟩ = some (.int .u64 (lm N 0)) ∧ w3.cell? ⟨g + 1, 1, none⟩ = some (.int .u64 (lm N 1)) ∧ w3.cell? ⟨g + 1, 2, none⟩ = some (.int .u64 (lm N 2)) ∧ w3.cell? ⟨g + 1, 3, none⟩ = some (.int .u64 (lm N 3)) from ⟨((bcell Q3.out).1 _ _ lk).trans k0, ((bcell Q3.out).1 _ _ lk).trans k1, ((bcell Q3.out).1 _ _ lv).trans v0, ((bcell Q3.out).1 _ _ lv).trans v1, ((bcell Q3.out).1 _ _ lv).trans v2, ((bcell Q3.out).1 _ _ lv).trans v3⟩); have P3 := hide (P2.out.of hb3.size (hb3.block _ P2.out.lt)); obtain ⟨p5, p0, p1, p2, p3, p4⟩ := P3.out)
    | (go_at_call 43; (with_reducible refine (HF.out w2).mono ?_); rintro e w3 ⟨rfl, hb3⟩; have Q3 : Hid (Below W.heap.size W w3) := (bOn Q2.out hb3); have Sw3 := hide (show w3.cell? ⟨g, 0, none⟩ = some (.int .u8 k.1) ∧ w3.cell? ⟨g, 1, none⟩ = some (.int .u8 k.2) ∧ w3.cell? ⟨g + 1, 0, none⟩ = some (.int .u64 (lm N 0)) ∧ w3.cell? ⟨g + 1, 1, none⟩ = some (.int .u64 (lm N 1)) ∧ w3.cell? ⟨g + 1, 2, none⟩ = some (.int .u64 (lm N 2)) ∧ w3.cell? ⟨g + 1, 3, none⟩ = some (.int .u64 (lm N 3)) from ⟨((bcell Q3.out).1 _ _ lk).trans k0, ((bcell Q3.out).1 _ _ lk).trans k1, ((bcell Q3.out).1 _ _ lv).trans v0, ((bcell Q3.out).1 _ _ lv).trans v1, ((bcell Q3.out).1 _ _ lv).trans v2, ((bcell Q3.out).1 _ _ lv).trans v3⟩))))
  all_goals clear HA HF HP
  all_goals first
    | (obtain ⟨w4, hw4⟩ : ∃ w4, (((w3.setCell ⟨g + 2, 0, none⟩ (.int .u64 (lm R 0))).setCell ⟨g + 2, 1, none⟩ (.int .u64 (lm R 1))).setCell ⟨g + 2, 2, none⟩ (.int .u64 (lm R 2))).setCell ⟨g + 2, 3, none⟩ (.int .u64 (lm R 3)) = w4 := ⟨_, rfl⟩; rw [hw4]; have ge : W.heap.size ≤ g + 2 := Nat.le_of_eq hz; have O4 := P3.out.put (lm R 0) (lm R 1) (lm R 2) (lm R 3); have B4 : Below W.heap.size W (put4 w3 (g + 2) (lm R 0) (lm R 1) (lm R 2) (lm R 3)) := put_below Q3.out ge; have T4 := hide (show (Below W.heap.size W w4 ∧ (w4.cell? ⟨g, 0, none⟩ = some (.int .u8 k.1) ∧ w4.cell? ⟨g, 1, none⟩ = some (.int .u8 k.2) ∧ w4.cell? ⟨g + 1, 0, none⟩ = some (.int .u64 (lm N 0)) ∧ w4.cell? ⟨g + 1, 1, none⟩ = some (.int .u64 (lm N 1)) ∧ w4.cell? ⟨g + 1, 2, none⟩ = some (.int .u64 (lm N 2)) ∧ w4.cell? ⟨g + 1, 3, none⟩ = some (.int .u64 (lm N 3))) ∧ w4.cell? ⟨g + 2, 0, none⟩ = some (.int .u64 (lm R 0)) ∧ w4.cell? ⟨g + 2, 1, none⟩ = some (.int .u64 (lm R 1)) ∧ w4.cell? ⟨g + 2, 2, none⟩ = some (.int .u64 (lm R 2)) ∧ w4.cell? ⟨g + 2, 3, none⟩ = some (.int .u64 (lm R 3))) from (by rw [← hw4]; exact ⟨B4, ⟨((bcell (hide B4).out).1 _ _ lk).trans k0, ((bcell (hide B4).out).1 _ _ lk).trans k1, ((bcell (hide B4).out).1 _ _ lv).trans v0, ((bcell (hide B4).out).1 _ _ lv).trans v1, ((bcell (hide B4).out).1 _ _ lv).trans v2, ((bcell (hide B4).out).1 _ _ lv).trans v3⟩, O4.c0, O4.c1, O4.c2, O4.c3⟩)); clear hw4 O4 B4)
    | (obtain ⟨w4, hw4⟩ : ∃ w4, (((w3.setCell ⟨w2.heap.size, 0, none⟩ (.int .u64 (lm R 0))).setCell ⟨w2.heap.size, 1, none⟩ (.int .u64 (lm R 1))).setCell ⟨w2.heap.size, 2, none⟩ (.int .u64 (lm R 2))).setCell ⟨w2.heap.size, 3, none⟩ (.int .u64 (lm R 3)) = w4 := ⟨_, rfl⟩; rw [hw4]; have ge : W.heap.size ≤ w2.heap.size := Q2.out.size; have O4 := P3.out.put (lm R 0) (lm R 1) (lm R 2) (lm R 3); have B4 : Below W.heap.size W (put4 w3 (w2.heap.size) (lm R 0) (lm R 1) (lm R 2) (lm R 3)) := put_below Q3.out ge; have T4 := hide (show (Below W.heap.size W w4 ∧ (w4.cell? ⟨g, 0, none⟩ = some (.int .u8 k.1) ∧ w4.cell? ⟨g, 1, none⟩ = some (.int .u8 k.2) ∧ w4.cell? ⟨g + 1, 0, none⟩ = some (.int .u64 (lm N 0)) ∧ w4.cell? ⟨g + 1, 1, none⟩ = some (.int .u64 (lm N 1)) ∧ w4.cell? ⟨g + 1, 2, none⟩ = some (.int .u64 (lm N 2)) ∧ w4.cell? ⟨g + 1, 3, none⟩ = some (.int .u64 (lm N 3))) ∧ w4.cell? ⟨w2.heap.size, 0, none⟩ = some (.int .u64 (lm R 0)) ∧ w4.cell? ⟨w2.heap.size, 1, none⟩ = some (.int .u64 (lm R 1)) ∧ w4.cell? ⟨w2.heap.size, 2, none⟩ = some (.int .u64 (lm R 2)) ∧ w4.cell? ⟨w2.heap.size, 3, none⟩ = some (.int .u64 (lm R 3))) from (by rw [← hw4]; exact ⟨B4, ⟨((bcell (hide B4).out).1 _ _ lk).trans k0, ((bcell (hide B4).out).1 _ _ lk).trans k1, ((bcell (hide B4).out).1 _ _ lv).trans v0, ((bcell (hide B4).out).1 _ _ lv).trans v1, ((bcell (hide B4).out).1 _ _ lv).trans v2, ((bcell (hide B4).out).1 _ _ lv).trans v3⟩, O4.c0, O4.c1, O4.c2, O4.c3⟩)); clear hw4 O4 B4)
    | (obtain ⟨w4, hw4⟩ : ∃ w4, w3.alloc (.cells #[.int .u64 (lm R 0), .int .u64 (lm R 1), .int .u64 (lm R 2), .int .u64 (lm R 3)] 55) = w4 := ⟨_, rfl⟩; rw [hw4]; have O4 := Lims.new w3 (lm R 0) (lm R 1) (lm R 2) (lm R 3) 55; have B4 : Below W.heap.size W (w3.alloc (.cells #[.int .u64 (lm R 0), .int .u64 (lm R 1), .int .u64 (lm R 2), .int .u64 (lm R 3)] 55)) := bAl Q3.out; have T4 := hide (show (Below W.heap.size W w4 ∧ (w4.cell? ⟨g, 0, none⟩ = some (.int .u8 k.1) ∧ w4.cell? ⟨g, 1, none⟩ = some (.int .u8 k.2) ∧ w4.cell? ⟨g + 1, 0, none⟩ = some (.int .u64 (lm N 0)) ∧ w4.cell? ⟨g + 1, 1, none⟩ = some (.int .u64 (lm N 1)) ∧ w4.cell? ⟨g + 1, 2, none⟩ = some (.int .u64 (lm N 2)) ∧ w4.cell? ⟨g + 1, 3, none⟩ = some (.int .u64 (lm N 3))) ∧ w4.cell? ⟨w3.heap.size, 0, none⟩ = some (.int .u64 (lm R 0)) ∧ w4.cell? ⟨w3.heap.size, 1, none⟩ = some (.int .u64 (lm R 1)) ∧ w4.cell? ⟨w3.heap.size, 2, none⟩ = some (.int .u64 (lm R 2)) ∧ w4.cell? ⟨w3.heap.size, 3, none⟩ = some (.int .u64 (lm R 3))) from (by rw [← hw4]; exact ⟨B4, ⟨((bcell (hide B4).out).1 _ _ lk).trans k0, ((bcell (hide B4).out).1 _ _ lk).trans k1, ((bcell (hide B4).out).1 _ _ lv).trans v0, ((bcell (hide B4).out).1 _ _ lv).trans v1, ((bcell (hide B4).out).1 _ _ lv).trans v2, ((bcell (hide B4).out).1 _ _ lv).trans v3⟩, O4.c0, O4.c1, O4.c2, O4.c3⟩)); clear hw4 O4 B4)
  all_goals
    have hin : In (bal (h n) k + N) := HIN.out
    obtain ⟨b4, q4, r0, r1, r2, r3⟩ := T4.out
    have hp := put_bk (HBW.out.below b4) (nm (bal (h n) k + N)) hk hn HSUP.out
    rw [nm_val hin, HM.out] at hp
    have HC := hide hp
    have B4 := hide b4
    obtain ⟨k0', k1', _⟩ := q4
    clear hp b4 hin
    go_wp2_with fail
    refine HC.out.mono ?_
    clear HC
    rintro e w5 ⟨rfl, hres⟩
    have HR := hide hres
    clear hres
    go_wp2
    go_end0
    obtain ⟨S', n', h', x1, x2, x3⟩ := HR.out
    exact ⟨rfl, S', n', h', x1, (Mv.of (bOn HB.out B4.out)).trans x2, by rw [← HM.out] at x3; exact x3⟩
set_option maxRecDepth 100000 in
set_option maxHeartbeats 600000 in
theorem take_bk {w : World} {S : Nat → Prop} {bj : Jk} {bb n : Nat} {h : Nat → Kvs} (B : Bk w S bj bb n h) {k : Kk} {N : Int} (hk : Kin k) (hN : In N) (hn : n ≤ 10000) (hs : N ≤ bal (h n) k) :
    Calls Try.prog 62 #[.pointer (some ⟨bb, 0, none⟩), .agg #[.int .u8 k.1, .int .u8 k.2], big N] w fun e w' => e = .returned (.int .i64 0) ∧ ∃ S' n' h', Bk w' S' bj bb n' h' ∧ Mv S S' w w' ∧ Nx n h n' h' (subB k N (h n)) 1 := by
  obtain ⟨W, hW⟩ : ∃ W, (w.alloc (.cells #[.int .u8 k.1, .int .u8 k.2] 96)).alloc (.cells #[.int .u64 (lm N 0), .int .u64 (lm N 1), .int .u64 (lm N 2), .int .u64 (lm N 3)] 55) = W := ⟨_, rfl⟩
  obtain ⟨g, hg⟩ : ∃ g, w.heap.size = g := ⟨_, rfl⟩
  have HB : Hid (Below w.heap.size w W) := by rw [← hW]; exact bAl (bAl (bMe w))
  have hz : W.heap.size = g + 2 := by rw [← hW, ← hg]; simp
  obtain ⟨lk, k0, k1⟩ : KBox W g k := by rw [← hW, ← hg]; exact (KBox.new w k).past _
  obtain ⟨lv, v0, v1, v2, v3⟩ : Lims W (g + 1) (lm N 0) (lm N 1) (lm N 2) (lm N 3) := by
    rw [← hW, ← hg]
    have := Lims.new (w.alloc (.cells #[.int .u8 k.1, .int .u8 k.2] 96)) (lm N 0) (lm N 1) (lm N 2) (lm N 3) 55
    simpa using this
  have BW := B.below HB.out
  have HA : Hid (∀ w', Below W.heap.size W w' → Calls Try.prog 46 #[.pointer (some ⟨bb, 0, none⟩), .agg #[.int .u8 k.1, .int .u8 k.2]] w' fun e w'' => e = .returned (big (bal (h n) k)) ∧ Below w'.heap.size w' w'') := fun w' hb => at_any' (BW.below hb) hk.ok
  have hin := sub_in hN hs
  have HIN := hide hin
  obtain ⟨M, hM⟩ : ∃ M, bal (h n) k = M := ⟨_, rfl⟩
  have HM := hide (show bal (h n) k - N = M - N from by rw [hM])
  have HSUP := hide (show ∀ t, In (sup (putB k (nm (bal (h n) k - N)) (h n)) t) from fun t => by
    have := sup_subB (B.good n (Nat.le_refl n)).1.srt hk hN hs t
    unfold subB at this
    rw [this]
    have h1 := (B.good n (Nat.le_refl n)).2.2 t
    have h2 := bal_le_sup (h n) hk
    split
    · rename_i e; rw [e] at h2; unfold In at *; omega
    · exact h1)
  rw [hM] at hs HA
  have HF := hide (fun w' => huge_sub_ok M N w' (hM ▸ bal_in _ _) hN hs)
  obtain ⟨R, hR⟩ : ∃ R, M - N = R := ⟨_, rfl⟩
  rw [hR] at HF HM
  clear hin hM hR hs
  have HP : Hid (∀ w2, Below (W.alloc (.cells #[.int .u64 0, .int .u64 0, .int .u64 0, .int .u64 0] 55)).drew.heap.size (W.alloc (.cells #[.int .u64 0, .int .u64 0, .int .u64 0, .int .u64 0] 55)).drew w2 → Own w2 (g + 2) 0 0 0 0) := fun w2 hb2 => hz ▸ (Own.new W 0 0 0 0 55).of hb2.size (hb2.block _ (by show W.heap.size < (W.alloc _).heap.size; simp))
  have HBW := hide BW
  have Hg := hide hg
  clear B BW
  go_enter Try.func62, Try.ntmps62
  go_wp2
  try rw [hW]
  try rw [hg]
  clear hW hg
  go_region_held3 (fun w' => w'.cell? ⟨g, 0, none⟩ = some (.int .u8 k.1) ∧ w'.cell? ⟨g, 1, none⟩ = some (.int .u8 k.2) ∧ w'.cell? ⟨g + 1, 0, none⟩ = some (.int .u64 (lm N 0)) ∧ w'.cell? ⟨g + 1, 1, none⟩ = some (.int .u64 (lm N 1)) ∧ w'.cell? ⟨g + 1, 2, none⟩ = some (.int .u64 (lm N 2)) ∧ w'.cell? ⟨g + 1, 3, none⟩ = some (.int .u64 (lm N 3))) (first | with_reducible exact ⟨k0, k1, v0, v1, v2, v3⟩ | with_reducible exact Sw3.out | with_reducible exact Sw2.out | (simp [go_sem, World.cell?_alloc_lt, k0, k1, v0, v1, v2, v3, lk, lv]; done) | (have hs := Sw3.out; have l1 := Nat.lt_of_lt_of_le lk Q3.out.size; have l2 := Nat.lt_of_lt_of_le lv Q3.out.size; have l3 : g + 2 ≤ w3.heap.size := Nat.le_trans (Nat.le_of_eq hz.symm) Q3.out.size; have l4 : g + 2 ≤ w2.heap.size := Nat.le_trans (Nat.le_of_eq hz.symm) Q2.out.size; have l5 : ¬ g + 1 = w2.heap.size := (by omega); have l6 : ¬ w2.heap.size = g + 1 := (by omega); have l7 : ¬ g = w2.heap.size := (by omega); have l8 : ¬ w2.heap.size = g := (by omega); simp [go_sem, World.cell?_alloc_lt, hs, l1, l2, l5, l6, l7, l8]; done) | (have hs := Sw2.out; have l1 := Nat.lt_of_lt_of_le lk Q2.out.size; have l2 := Nat.lt_of_lt_of_le lv Q2.out.size; simp [go_sem, World.cell?_alloc_lt, hs, l1, l2]; done)) ((first
    | (go_at_call 46; (with_reducible refine (HA.out (W.alloc (.cells #[.int .u64 0, .int .u64 0, .int .u64 0, .int .u64 0] 55)).drew (bAl (bMe W)).drew).mono ?_); rintro e w2 ⟨rfl, hb2⟩; have Q2 : Hid (Below W.heap.size W w2) := (bOn (bAl (bMe W)).drew hb2); have Sw2 := hide (show w2.cell? ⟨g, 0, none⟩ = some (.int .u8 k.1) ∧ w2.cell? ⟨g, 1, none⟩ = some (.int .u8 k.2) ∧ w2.cell? ⟨g + 1, 0, none⟩ = some (.int .u64 (lm N 0)) ∧ w2.cell? ⟨g + 1, 1, none⟩ = some (.int .u64 (lm N 1)) ∧ w2.cell? ⟨g + 1, 2, none⟩ = some (.int .u64 (lm N 2)) ∧ w2.cell? ⟨g + 1, 3, none⟩ = some (.int .u64 (lm N 3)) from ⟨((bcell Q2.out).1 _ _ lk).trans k0, ((bcell Q2.out).1 _ _ lk).trans k1, ((bcell Q2.out).1 _ _ lv).trans v0, ((bcell Q2.out).1 _ _ lv).trans v1, ((bcell Q2.out).1 _ _ lv).trans v2, ((bcell Q2.out).1 _ _ lv).trans v3⟩); have P2 := hide (HP.out w2 hb2))
    | (go_at_call 46; (with_reducible refine (HA.out W.drew (bMe W).drew).mono ?_); rintro e w2 ⟨rfl, hb2⟩; have Q2 : Hid (Below W.heap.size W w2) := (bOn (bMe W).drew hb2); have Sw2 := hide (show w2.cell? ⟨g, 0, none⟩ = some (.int .u8 k.1) ∧ w2.cell? ⟨g, 1, none⟩ = some (.int .u8 k.2) ∧ w2.cell? ⟨g + 1, 0, none⟩ = some (.int .u64 (lm N 0)) ∧ w2.cell? ⟨g + 1, 1, none⟩ = some (.int .u64 (lm N 1)) ∧ w2.cell? ⟨g + 1, 2, none⟩ = some (.int .u64 (lm N 2)) ∧ w2.cell? ⟨g + 1, 3, none⟩ = some (.int .u64 (lm N 3)) from ⟨((bcell Q2.out).1 _ _ lk).trans k0, ((bcell Q2.out).1 _ _ lk).trans k1, ((bcell Q2.out).1 _ _ lv).trans v0, ((bcell Q2.out).1 _ _ lv).trans v1, ((bcell Q2.out).1 _ _ lv).trans v2, ((bcell Q2.out).1 _ _ lv).trans v3⟩))
    | (go_at_call 70; (with_reducible refine (HF.out (w2.alloc (.cells #[.int .u64 0, .int .u64 0, .int .u64 0, .int .u64 0] 55))).mono ?_); rintro e w3 ⟨rfl, hb3⟩; have Q3 : Hid (Below W.heap.size W w3) := (bOn (bAl Q2.out) hb3); have Sw3 := hide (show w3.cell? ⟨g, 0, none⟩ = some (.int .u8 k.1) ∧ w3.cell? ⟨g, 1, none⟩ = some (.int .u8 k.2) ∧ w3.cell? ⟨g + 1, 0, none⟩ = some (.int .u64 (lm N 0)) ∧ w3.cell? ⟨g + 1, 1, none⟩ = some (.int .u64 (lm N 1)) ∧ w3.cell? ⟨g + 1, 2, none⟩ = some (.int .u64 (lm N 2)) ∧ w3.cell? ⟨g + 1, 3, none⟩ = some (.int .u64 (lm N 3)) from ⟨((bcell Q3.out).1 _ _ lk).trans k0, ((bcell Q3.out).1 _ _ lk).trans k1, ((bcell Q3.out).1 _ _ lv).trans v0, ((bcell Q3.out).1 _ _ lv).trans v1, ((bcell Q3.out).1 _ _ lv).trans v2, ((bcell Q3.out).1 _ _ lv).trans v3⟩); have P3 := hide (((Own.new w2 0 0 0 0 55).of hb3.size (hb3.block _ (by simp)))); obtain ⟨p5, p0, p1, p2, p3, p4⟩ := P3.out)
    | (go_at_call 70; (with_reducible refine (HF.out w2).mono ?_); rintro e w3 ⟨rfl, hb3⟩; have Q3 : Hid (Below W.heap.size W w3) := (bOn Q2.out hb3); have Sw3 := hide (show w3.cell? ⟨g, 0, none⟩ = some (.int .u8 k.1) ∧ w3.cell? ⟨g, 1, none⟩ = some (.int .u8 k.2) ∧ w3.cell? ⟨g + 1, 0, none⟩ = some (.int .u64 (lm N 0)) ∧ w3.cell? ⟨g + 1, 1, none⟩ = some (.int .u64 (lm N 1)) ∧ w3.cell? ⟨g + 1, 2, none⟩ = some (.int .u64 (lm N 2)) ∧ w3.cell? ⟨g + 1, 3, none⟩ = some (.int .u64 (lm N 3)) from ⟨((bcell Q3.out).1 _ _ lk).trans k0, ((bcell Q3.out).1 _ _ lk).trans k1, ((bcell Q3.out).1 _ _ lv).trans v0, ((bcell Q3.out).1 _ _ lv).trans v1, ((bcell Q3.out).1 _ _ lv).trans v2, ((bcell Q3.out).1 _ _ lv).trans v3⟩); have P3 := hide (P2.out.of hb3.size (hb3.block _ P2.out.lt)); obtain ⟨p5, p0, p1, p2, p3, p4⟩ := P3.out)
    | (go_at_call 70; (with_reducible refine (HF.out w2).mono ?_); rintro e w3 ⟨rfl, hb3⟩; have Q3 : Hid (Below W.heap.size W w3) := (bOn Q2.out hb3); have Sw3 := hide (show w3.cell? ⟨g, 0, none⟩ = some (.int .u8 k.1) ∧ w3.cell? ⟨g, 1, none⟩ = some (.int .u8 k.2) ∧ w3.cell? ⟨g + 1, 0, none⟩ = some (.int .u64 (lm N 0)) ∧ w3.cell? ⟨g + 1, 1, none⟩ = some (.int .u64 (lm N 1)) ∧ w3.cell? ⟨g + 1, 2, none⟩ = some (.int .u64 (lm N 2)) ∧ w3.cell? ⟨g + 1, 3, none⟩ = some (.int .u64 (lm N 3)) from ⟨((bcell Q3.out).1 _ _ lk).trans k0, ((bcell Q3.out).1 _ _ lk).trans k1, ((bcell Q3.out).1 _ _ lv).trans v0, ((bcell Q3.out).1 _ _ lv).trans v1, ((bcell Q3.out).1 _ _ lv).trans v2, ((bcell Q3.out).1 _ _ lv).trans v3⟩))))
  all_goals clear HA HF HP
  all_goals first
    | (obtain ⟨w4, hw4⟩ : ∃ w4, (((w3.setCell ⟨g + 2, 0, none⟩ (.int .u64 (lm R 0))).setCell ⟨g + 2, 1, none⟩ (.int .u64 (lm R 1))).setCell ⟨g + 2, 2, none⟩ (.int .u64 (lm R 2))).setCell ⟨g + 2, 3, none⟩ (.int .u64 (lm R 3)) = w4 := ⟨_, rfl⟩; rw [hw4]; have ge : W.heap.size ≤ g + 2 := Nat.le_of_eq hz; have O4 := P3.out.put (lm R 0) (lm R 1) (lm R 2) (lm R 3); have B4 : Below W.heap.size W (put4 w3 (g + 2) (lm R 0) (lm R 1) (lm R 2) (lm R 3)) := put_below Q3.out ge; have T4 := hide (show (Below W.heap.size W w4 ∧ (w4.cell? ⟨g, 0, none⟩ = some (.int .u8 k.1) ∧ w4.cell? ⟨g, 1, none⟩ = some (.int .u8 k.2) ∧ w4.cell? ⟨g + 1, 0, none⟩ = some (.int .u64 (lm N 0)) ∧ w4.cell? ⟨g + 1, 1, none⟩ = some (.int .u64 (lm N 1)) ∧ w4.cell? ⟨g + 1, 2, none⟩ = some (.int .u64 (lm N 2)) ∧ w4.cell? ⟨g + 1, 3, none⟩ = some (.int .u64 (lm N 3))) ∧ w4.cell? ⟨g + 2, 0, none⟩ = some (.int .u64 (lm R 0)) ∧ w4.cell? ⟨g + 2, 1, none⟩ = some (.int .u64 (lm R 1)) ∧ w4.cell? ⟨g + 2, 2, none⟩ = some (.int .u64 (lm R 2)) ∧ w4.cell? ⟨g + 2, 3, none⟩ = some (.int .u64 (lm R 3))) from (by rw [← hw4]; exact ⟨B4, ⟨((bcell (hide B4).out).1 _ _ lk).trans k0, ((bcell (hide B4).out).1 _ _ lk).trans k1, ((bcell (hide B4).out).1 _ _ lv).trans v0, ((bcell (hide B4).out).1 _ _ lv).trans v1, ((bcell (hide B4).out).1 _ _ lv).trans v2, ((bcell (hide B4).out).1 _ _ lv).trans v3⟩, O4.c0, O4.c1, O4.c2, O4.c3⟩)); clear hw4 O4 B4)
    | (obtain ⟨w4, hw4⟩ : ∃ w4, (((w3.setCell ⟨w2.heap.size, 0, none⟩ (.int .u64 (lm R 0))).setCell ⟨w2.heap.size, 1, none⟩ (.int .u64 (lm R 1))).setCell ⟨w2.heap.size, 2, none⟩ (.int .u64 (lm R 2))).setCell ⟨w2.heap.size, 3, none⟩ (.int .u64 (lm R 3)) = w4 := ⟨_, rfl⟩; rw [hw4]; have ge : W.heap.size ≤ w2.heap.size := Q2.out.size; have O4 := P3.out.put (lm R 0) (lm R 1) (lm R 2) (lm R 3); have B4 : Below W.heap.size W (put4 w3 (w2.heap.size) (lm R 0) (lm R 1) (lm R 2) (lm R 3)) := put_below Q3.out ge; have T4 := hide (show (Below W.heap.size W w4 ∧ (w4.cell? ⟨g, 0, none⟩ = some (.int .u8 k.1) ∧ w4.cell? ⟨g, 1, none⟩ = some (.int .u8 k.2) ∧ w4.cell? ⟨g + 1, 0, none⟩ = some (.int .u64 (lm N 0)) ∧ w4.cell? ⟨g + 1, 1, none⟩ = some (.int .u64 (lm N 1)) ∧ w4.cell? ⟨g + 1, 2, none⟩ = some (.int .u64 (lm N 2)) ∧ w4.cell? ⟨g + 1, 3, none⟩ = some (.int .u64 (lm N 3))) ∧ w4.cell? ⟨w2.heap.size, 0, none⟩ = some (.int .u64 (lm R 0)) ∧ w4.cell? ⟨w2.heap.size, 1, none⟩ = some (.int .u64 (lm R 1)) ∧ w4.cell? ⟨w2.heap.size, 2, none⟩ = some (.int .u64 (lm R 2)) ∧ w4.cell? ⟨w2.heap.size, 3, none⟩ = some (.int .u64 (lm R 3))) from (by rw [← hw4]; exact ⟨B4, ⟨((bcell (hide B4).out).1 _ _ lk).trans k0, ((bcell (hide B4).out).1 _ _ lk).trans k1, ((bcell (hide B4).out).1 _ _ lv).trans v0, ((bcell (hide B4).out).1 _ _ lv).trans v1, ((bcell (hide B4).out).1 _ _ lv).trans v2, ((bcell (hide B4).out).1 _ _ lv).trans v3⟩, O4.c0, O4.c1, O4.c2, O4.c3⟩)); clear hw4 O4 B4)
    | (obtain ⟨w4, hw4⟩ : ∃ w4, w3.alloc (.cells #[.int .u64 (lm R 0), .int .u64 (lm R 1), .int .u64 (lm R 2), .int .u64 (lm R 3)] 55) = w4 := ⟨_, rfl⟩; rw [hw4]; have O4 := Lims.new w3 (lm R 0) (lm R 1) (lm R 2) (lm R 3) 55; have B4 : Below W.heap.size W (w3.alloc (.cells #[.int .u64 (lm R 0), .int .u64 (lm R 1), .int .u64 (lm R 2), .int .u64 (lm R 3)] 55)) := bAl Q3.out; have T4 := hide (show (Below W.heap.size W w4 ∧ (w4.cell? ⟨g, 0, none⟩ = some (.int .u8 k.1) ∧ w4.cell? ⟨g, 1, none⟩ = some (.int .u8 k.2) ∧ w4.cell? ⟨g + 1, 0, none⟩ = some (.int .u64 (lm N 0)) ∧ w4.cell? ⟨g + 1, 1, none⟩ = some (.int .u64 (lm N 1)) ∧ w4.cell? ⟨g + 1, 2, none⟩ = some (.int .u64 (lm N 2)) ∧ w4.cell? ⟨g + 1, 3, none⟩ = some (.int .u64 (lm N 3))) ∧ w4.cell? ⟨w3.heap.size, 0, none⟩ = some (.int .u64 (lm R 0)) ∧ w4.cell? ⟨w3.heap.size, 1, none⟩ = some (.int .u64 (lm R 1)) ∧ w4.cell? ⟨w3.heap.size, 2, none⟩ = some (.int .u64 (lm R 2)) ∧ w4.cell? ⟨w3.heap.size, 3, none⟩ = some (.int .u64 (lm R 3))) from (by rw [← hw4]; exact ⟨B4, ⟨((bcell (hide B4).out).1 _ _ lk).trans k0, ((bcell (hide B4).out).1 _ _ lk).trans k1, ((bcell (hide B4).out).1 _ _ lv).trans v0, ((bcell (hide B4).out).1 _ _ lv).trans v1, ((bcell (hide B4).out).1 _ _ lv).trans v2, ((bcell (hide B4).out).1 _ _ lv).trans v3⟩, O4.c0, O4.c1, O4.c2, O4.c3⟩)); clear hw4 O4 B4)
  all_goals
    have hin : In (bal (h n) k - N) := HIN.out
    obtain ⟨b4, q4, r0, r1, r2, r3⟩ := T4.out
    have hp := put_bk (HBW.out.below b4) (nm (bal (h n) k - N)) hk hn HSUP.out
    rw [nm_val hin, HM.out] at hp
    have HC := hide hp
    have B4 := hide b4
    obtain ⟨k0', k1', _⟩ := q4
    clear hp b4 hin
    go_wp2_with fail
    refine HC.out.mono ?_
    clear HC
    rintro e w5 ⟨rfl, hres⟩
    have HR := hide hres
    clear hres
    go_wp2
    go_ret
    obtain ⟨S', n', h', x1, x2, x3⟩ := HR.out
    exact ⟨rfl, S', n', h', x1, (Mv.of (bOn HB.out B4.out)).trans x2, by rw [← HM.out] at x3; exact x3⟩
set_option maxRecDepth 100000 in
set_option maxHeartbeats 600000 in
theorem take_no {w : World} {S : Nat → Prop} {bj : Jk} {bb n : Nat} {h : Nat → Kvs} (B : Bk w S bj bb n h) {k : Kk} {N : Int} (hk : Kin k) (hN : In N) (hn : n ≤ 10000) (hs : bal (h n) k < N) :
    Calls Try.prog 62 #[.pointer (some ⟨bb, 0, none⟩), .agg #[.int .u8 k.1, .int .u8 k.2], big N] w fun e w' => e = .returned (.int .i64 8) ∧ Below w.heap.size w w' := by
  obtain ⟨W, hW⟩ : ∃ W, (w.alloc (.cells #[.int .u8 k.1, .int .u8 k.2] 96)).alloc (.cells #[.int .u64 (lm N 0), .int .u64 (lm N 1), .int .u64 (lm N 2), .int .u64 (lm N 3)] 55) = W := ⟨_, rfl⟩
  obtain ⟨g, hg⟩ : ∃ g, w.heap.size = g := ⟨_, rfl⟩
  have HB : Hid (Below w.heap.size w W) := by rw [← hW]; exact bAl (bAl (bMe w))
  have hz : W.heap.size = g + 2 := by rw [← hW, ← hg]; simp
  obtain ⟨lk, k0, k1⟩ : KBox W g k := by rw [← hW, ← hg]; exact (KBox.new w k).past _
  obtain ⟨lv, v0, v1, v2, v3⟩ : Lims W (g + 1) (lm N 0) (lm N 1) (lm N 2) (lm N 3) := by
    rw [← hW, ← hg]
    have := Lims.new (w.alloc (.cells #[.int .u8 k.1, .int .u8 k.2] 96)) (lm N 0) (lm N 1) (lm N 2) (lm N 3) 55
    simpa using this
  have BW := B.below HB.out
  have HA : Hid (∀ w', Below W.heap.size W w' → Calls Try.prog 46 #[.pointer (some ⟨bb, 0, none⟩), .agg #[.int .u8 k.1, .int .u8 k.2]] w' fun e w'' => e = .returned (big (bal (h n) k)) ∧ Below w'.heap.size w' w'') := fun w' hb => at_any' (BW.below hb) hk.ok
  obtain ⟨M, hM⟩ : ∃ M, bal (h n) k = M := ⟨_, rfl⟩
  rw [hM] at hs HA
  have HF := hide (fun w' => huge_sub_over M N w' (hM ▸ bal_in _ _) hN hs)
  obtain ⟨R, hR⟩ : ∃ R : Int, 0 = R := ⟨_, rfl⟩
  rw [hR] at HF
  clear hM hR hs
  have HP : Hid (∀ w2, Below (W.alloc (.cells #[.int .u64 0, .int .u64 0, .int .u64 0, .int .u64 0] 55)).drew.heap.size (W.alloc (.cells #[.int .u64 0, .int .u64 0, .int .u64 0, .int .u64 0] 55)).drew w2 → Own w2 (g + 2) 0 0 0 0) := fun w2 hb2 => hz ▸ (Own.new W 0 0 0 0 55).of hb2.size (hb2.block _ (by show W.heap.size < (W.alloc _).heap.size; simp))
  have HBW := hide BW
  have Hg := hide hg
  clear B BW
  go_enter Try.func62, Try.ntmps62
  go_wp2
  try rw [hW]
  try rw [hg]
  clear hW hg
  go_region_held3 (fun w' => w'.cell? ⟨g, 0, none⟩ = some (.int .u8 k.1) ∧ w'.cell? ⟨g, 1, none⟩ = some (.int .u8 k.2) ∧ w'.cell? ⟨g + 1, 0, none⟩ = some (.int .u64 (lm N 0)) ∧ w'.cell? ⟨g + 1, 1, none⟩ = some (.int .u64 (lm N 1)) ∧ w'.cell? ⟨g + 1, 2, none⟩ = some (.int .u64 (lm N 2)) ∧ w'.cell? ⟨g + 1, 3, none⟩ = some (.int .u64 (lm N 3))) (first | with_reducible exact ⟨k0, k1, v0, v1, v2, v3⟩ | with_reducible exact Sw3.out | with_reducible exact Sw2.out | (simp [go_sem, World.cell?_alloc_lt, k0, k1, v0, v1, v2, v3, lk, lv]; done) | (have hs := Sw3.out; have l1 := Nat.lt_of_lt_of_le lk Q3.out.size; have l2 := Nat.lt_of_lt_of_le lv Q3.out.size; have l3 : g + 2 ≤ w3.heap.size := Nat.le_trans (Nat.le_of_eq hz.symm) Q3.out.size; have l4 : g + 2 ≤ w2.heap.size := Nat.le_trans (Nat.le_of_eq hz.symm) Q2.out.size; have l5 : ¬ g + 1 = w2.heap.size := (by omega); have l6 : ¬ w2.heap.size = g + 1 := (by omega); have l7 : ¬ g = w2.heap.size := (by omega); have l8 : ¬ w2.heap.size = g := (by omega); simp [go_sem, World.cell?_alloc_lt, hs, l1, l2, l5, l6, l7, l8]; done) | (have hs := Sw2.out; have l1 := Nat.lt_of_lt_of_le lk Q2.out.size; have l2 := Nat.lt_of_lt_of_le lv Q2.out.size; simp [go_sem, World.cell?_alloc_lt, hs, l1, l2]; done)) ((first
    | (go_at_call 46; (with_reducible refine (HA.out (W.alloc (.cells #[.int .u64 0, .int .u64 0, .int .u64 0, .int .u64 0] 55)).drew (bAl (bMe W)).drew).mono ?_); rintro e w2 ⟨rfl, hb2⟩; have Q2 : Hid (Below W.heap.size W w2) := (bOn (bAl (bMe W)).drew hb2); have Sw2 := hide (show w2.cell? ⟨g, 0, none⟩ = some (.int .u8 k.1) ∧ w2.cell? ⟨g, 1, none⟩ = some (.int .u8 k.2) ∧ w2.cell? ⟨g + 1, 0, none⟩ = some (.int .u64 (lm N 0)) ∧ w2.cell? ⟨g + 1, 1, none⟩ = some (.int .u64 (lm N 1)) ∧ w2.cell? ⟨g + 1, 2, none⟩ = some (.int .u64 (lm N 2)) ∧ w2.cell? ⟨g + 1, 3, none⟩ = some (.int .u64 (lm N 3)) from ⟨((bcell Q2.out).1 _ _ lk).trans k0, ((bcell Q2.out).1 _ _ lk).trans k1, ((bcell Q2.out).1 _ _ lv).trans v0, ((bcell Q2.out).1 _ _ lv).trans v1, ((bcell Q2.out).1 _ _ lv).trans v2, ((bcell Q2.out).1 _ _ lv).trans v3⟩); have P2 := hide (HP.out w2 hb2))
    | (go_at_call 46; (with_reducible refine (HA.out W.drew (bMe W).drew).mono ?_); rintro e w2 ⟨rfl, hb2⟩; have Q2 : Hid (Below W.heap.size W w2) := (bOn (bMe W).drew hb2); have Sw2 := hide (show w2.cell? ⟨g, 0, none⟩ = some (.int .u8 k.1) ∧ w2.cell? ⟨g, 1, none⟩ = some (.int .u8 k.2) ∧ w2.cell? ⟨g + 1, 0, none⟩ = some (.int .u64 (lm N 0)) ∧ w2.cell? ⟨g + 1, 1, none⟩ = some (.int .u64 (lm N 1)) ∧ w2.cell? ⟨g + 1, 2, none⟩ = some (.int .u64 (lm N 2)) ∧ w2.cell? ⟨g + 1, 3, none⟩ = some (.int .u64 (lm N 3)) from ⟨((bcell Q2.out).1 _ _ lk).trans k0, ((bcell Q2.out).1 _ _ lk).trans k1, ((bcell Q2.out).1 _ _ lv).trans v0, ((bcell Q2.out).1 _ _ lv).trans v1, ((bcell Q2.out).1 _ _ lv).trans v2, ((bcell Q2.out).1 _ _ lv).trans v3⟩))
    | (go_at_call 70; (with_reducible refine (HF.out (w2.alloc (.cells #[.int .u64 0, .int .u64 0, .int .u64 0, .int .u64 0] 55))).mono ?_); rintro e w3 ⟨rfl, hb3⟩; have Q3 : Hid (Below W.heap.size W w3) := (bOn (bAl Q2.out) hb3); have Sw3 := hide (show w3.cell? ⟨g, 0, none⟩ = some (.int .u8 k.1) ∧ w3.cell? ⟨g, 1, none⟩ = some (.int .u8 k.2) ∧ w3.cell? ⟨g + 1, 0, none⟩ = some (.int .u64 (lm N 0)) ∧ w3.cell? ⟨g + 1, 1, none⟩ = some (.int .u64 (lm N 1)) ∧ w3.cell? ⟨g + 1, 2, none⟩ = some (.int .u64 (lm N 2)) ∧ w3.cell? ⟨g + 1, 3, none⟩ = some (.int .u64 (lm N 3)) from ⟨((bcell Q3.out).1 _ _ lk).trans k0, ((bcell Q3.out).1 _ _ lk).trans k1, ((bcell Q3.out).1 _ _ lv).trans v0, ((bcell Q3.out).1 _ _ lv).trans v1, ((bcell Q3.out).1 _ _ lv).trans v2, ((bcell Q3.out).1 _ _ lv).trans v3⟩); have P3 := hide (((Own.new w2 0 0 0 0 55).of hb3.size (hb3.block _ (by simp)))); obtain ⟨p5, p0, p1, p2, p3, p4⟩ := P3.out)
    | (go_at_call 70; (with_reducible refine (HF.out w2).mono ?_); rintro e w3 ⟨rfl, hb3⟩; have Q3 : Hid (Below W.heap.size W w3) := (bOn Q2.out hb3); have Sw3 := hide (show w3.cell? ⟨g, 0, none⟩ = some (.int .u8 k.1) ∧ w3.cell? ⟨g, 1, none⟩ = some (.int .u8 k.2) ∧ w3.cell? ⟨g + 1, 0, none⟩ = some (.int .u64 (lm N 0)) ∧ w3.cell? ⟨g + 1, 1, none⟩ = some (.int .u64 (lm N 1)) ∧ w3.cell? ⟨g + 1, 2, none⟩ = some (.int .u64 (lm N 2)) ∧ w3.cell? ⟨g + 1, 3, none⟩ = some (.int .u64 (lm N 3)) from ⟨((bcell Q3.out).1 _ _ lk).trans k0, ((bcell Q3.out).1 _ _ lk).trans k1, ((bcell Q3.out).1 _ _ lv).trans v0, ((bcell Q3.out).1 _ _ lv).trans v1, ((bcell Q3.out).1 _ _ lv).trans v2, ((bcell Q3.out).1 _ _ lv).trans v3⟩); have P3 := hide (P2.out.of hb3.size (hb3.block _ P2.out.lt)); obtain ⟨p5, p0, p1, p2, p3, p4⟩ := P3.out)
    | (go_at_call 70; (with_reducible refine (HF.out w2).mono ?_); rintro e w3 ⟨rfl, hb3⟩; have Q3 : Hid (Below W.heap.size W w3) := (bOn Q2.out hb3); have Sw3 := hide (show w3.cell? ⟨g, 0, none⟩ = some (.int .u8 k.1) ∧ w3.cell? ⟨g, 1, none⟩ = some (.int .u8 k.2) ∧ w3.cell? ⟨g + 1, 0, none⟩ = some (.int .u64 (lm N 0)) ∧ w3.cell? ⟨g + 1, 1, none⟩ = some (.int .u64 (lm N 1)) ∧ w3.cell? ⟨g + 1, 2, none⟩ = some (.int .u64 (lm N 2)) ∧ w3.cell? ⟨g + 1, 3, none⟩ = some (.int .u64 (lm N 3)) from ⟨((bcell Q3.out).1 _ _ lk).trans k0, ((bcell Q3.out).1 _ _ lk).trans k1, ((bcell Q3.out).1 _ _ lv).trans v0, ((bcell Q3.out).1 _ _ lv).trans v1, ((bcell Q3.out).1 _ _ lv).trans v2, ((bcell Q3.out).1 _ _ lv).trans v3⟩))))
  all_goals clear HA HF HP
  all_goals first
    | (obtain ⟨w4, hw4⟩ : ∃ w4, (((w3.setCell ⟨g + 2, 0, none⟩ (.int .u64 (lm R 0))).setCell ⟨g + 2, 1, none⟩ (.int .u64 (lm R 1))).setCell ⟨g + 2, 2, none⟩ (.int .u64 (lm R 2))).setCell ⟨g + 2, 3, none⟩ (.int .u64 (lm R 3)) = w4 := ⟨_, rfl⟩; rw [hw4]; have ge : W.heap.size ≤ g + 2 := Nat.le_of_eq hz; have O4 := P3.out.put (lm R 0) (lm R 1) (lm R 2) (lm R 3); have B4 : Below W.heap.size W (put4 w3 (g + 2) (lm R 0) (lm R 1) (lm R 2) (lm R 3)) := put_below Q3.out ge; have T4 := hide (show (Below W.heap.size W w4 ∧ (w4.cell? ⟨g, 0, none⟩ = some (.int .u8 k.1) ∧ w4.cell? ⟨g, 1, none⟩ = some (.int .u8 k.2) ∧ w4.cell? ⟨g + 1, 0, none⟩ = some (.int .u64 (lm N 0)) ∧ w4.cell? ⟨g + 1, 1, none⟩ = some (.int .u64 (lm N 1)) ∧ w4.cell? ⟨g + 1, 2, none⟩ = some (.int .u64 (lm N 2)) ∧ w4.cell? ⟨g + 1, 3, none⟩ = some (.int .u64 (lm N 3))) ∧ w4.cell? ⟨g + 2, 0, none⟩ = some (.int .u64 (lm R 0)) ∧ w4.cell? ⟨g + 2, 1, none⟩ = some (.int .u64 (lm R 1)) ∧ w4.cell? ⟨g + 2, 2, none⟩ = some (.int .u64 (lm R 2)) ∧ w4.cell? ⟨g + 2, 3, none⟩ = some (.int .u64 (lm R 3))) from (by rw [← hw4]; exact ⟨B4, ⟨((bcell (hide B4).out).1 _ _ lk).trans k0, ((bcell (hide B4).out).1 _ _ lk).trans k1, ((bcell (hide B4).out).1 _ _ lv).trans v0, ((bcell (hide B4).out).1 _ _ lv).trans v1, ((bcell (hide B4).out).1 _ _ lv).trans v2, ((bcell (hide B4).out).1 _ _ lv).trans v3⟩, O4.c0, O4.c1, O4.c2, O4.c3⟩)); clear hw4 O4 B4)
    | (obtain ⟨w4, hw4⟩ : ∃ w4, (((w3.setCell ⟨w2.heap.size, 0, none⟩ (.int .u64 (lm R 0))).setCell ⟨w2.heap.size, 1, none⟩ (.int .u64 (lm R 1))).setCell ⟨w2.heap.size, 2, none⟩ (.int .u64 (lm R 2))).setCell ⟨w2.heap.size, 3, none⟩ (.int .u64 (lm R 3)) = w4 := ⟨_, rfl⟩; rw [hw4]; have ge : W.heap.size ≤ w2.heap.size := Q2.out.size; have O4 := P3.out.put (lm R 0) (lm R 1) (lm R 2) (lm R 3); have B4 : Below W.heap.size W (put4 w3 (w2.heap.size) (lm R 0) (lm R 1) (lm R 2) (lm R 3)) := put_below Q3.out ge; have T4 := hide (show (Below W.heap.size W w4 ∧ (w4.cell? ⟨g, 0, none⟩ = some (.int .u8 k.1) ∧ w4.cell? ⟨g, 1, none⟩ = some (.int .u8 k.2) ∧ w4.cell? ⟨g + 1, 0, none⟩ = some (.int .u64 (lm N 0)) ∧ w4.cell? ⟨g + 1, 1, none⟩ = some (.int .u64 (lm N 1)) ∧ w4.cell? ⟨g + 1, 2, none⟩ = some (.int .u64 (lm N 2)) ∧ w4.cell? ⟨g + 1, 3, none⟩ = some (.int .u64 (lm N 3))) ∧ w4.cell? ⟨w2.heap.size, 0, none⟩ = some (.int .u64 (lm R 0)) ∧ w4.cell? ⟨w2.heap.size, 1, none⟩ = some (.int .u64 (lm R 1)) ∧ w4.cell? ⟨w2.heap.size, 2, none⟩ = some (.int .u64 (lm R 2)) ∧ w4.cell? ⟨w2.heap.size, 3, none⟩ = some (.int .u64 (lm R 3))) from (by rw [← hw4]; exact ⟨B4, ⟨((bcell (hide B4).out).1 _ _ lk).trans k0, ((bcell (hide B4).out).1 _ _ lk).trans k1, ((bcell (hide B4).out).1 _ _ lv).trans v0, ((bcell (hide B4).out).1 _ _ lv).trans v1, ((bcell (hide B4).out).1 _ _ lv).trans v2, ((bcell (hide B4).out).1 _ _ lv).trans v3⟩, O4.c0, O4.c1, O4.c2, O4.c3⟩)); clear hw4 O4 B4)
    | (obtain ⟨w4, hw4⟩ : ∃ w4, w3.alloc (.cells #[.int .u64 (lm R 0), .int .u64 (lm R 1), .int .u64 (lm R 2), .int .u64 (lm R 3)] 55) = w4 := ⟨_, rfl⟩; rw [hw4]; have O4 := Lims.new w3 (lm R 0) (lm R 1) (lm R 2) (lm R 3) 55; have B4 : Below W.heap.size W (w3.alloc (.cells #[.int .u64 (lm R 0), .int .u64 (lm R 1), .int .u64 (lm R 2), .int .u64 (lm R 3)] 55)) := bAl Q3.out; have T4 := hide (show (Below W.heap.size W w4 ∧ (w4.cell? ⟨g, 0, none⟩ = some (.int .u8 k.1) ∧ w4.cell? ⟨g, 1, none⟩ = some (.int .u8 k.2) ∧ w4.cell? ⟨g + 1, 0, none⟩ = some (.int .u64 (lm N 0)) ∧ w4.cell? ⟨g + 1, 1, none⟩ = some (.int .u64 (lm N 1)) ∧ w4.cell? ⟨g + 1, 2, none⟩ = some (.int .u64 (lm N 2)) ∧ w4.cell? ⟨g + 1, 3, none⟩ = some (.int .u64 (lm N 3))) ∧ w4.cell? ⟨w3.heap.size, 0, none⟩ = some (.int .u64 (lm R 0)) ∧ w4.cell? ⟨w3.heap.size, 1, none⟩ = some (.int .u64 (lm R 1)) ∧ w4.cell? ⟨w3.heap.size, 2, none⟩ = some (.int .u64 (lm R 2)) ∧ w4.cell? ⟨w3.heap.size, 3, none⟩ = some (.int .u64 (lm R 3))) from (by rw [← hw4]; exact ⟨B4, ⟨((bcell (hide B4).out).1 _ _ lk).trans k0, ((bcell (hide B4).out).1 _ _ lk).trans k1, ((bcell (hide B4).out).1 _ _ lv).trans v0, ((bcell (hide B4).out).1 _ _ lv).trans v1, ((bcell (hide B4).out).1 _ _ lv).trans v2, ((bcell (hide B4).out).1 _ _ lv).trans v3⟩, O4.c0, O4.c1, O4.c2, O4.c3⟩)); clear hw4 O4 B4)
  all_goals
    have B4 := hide T4.out.1
    clear T4
    go_wp2
    go_ret
    exact ⟨rfl, bOn HB.out B4.out⟩
end Go.Proofs.Ytncnilplmklccaa
