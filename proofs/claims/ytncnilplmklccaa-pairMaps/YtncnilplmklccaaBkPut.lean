/- The contract of book's put over this translation (gen-bkput.py). -/
import Derived.Test.YtncnilplmklccaaBkAt
namespace Go.Proofs.Ytncnilplmklccaa
set_option linter.unusedSimpArgs false
set_option linter.unusedVariables false
open Go.RowKit Go.Lib
attribute [local go_sem] setCell_drewN alloc_drewN eqInt

set_option maxRecDepth 100000 in
set_option maxHeartbeats 4000000 in
theorem putNo {w : World} {S Z : Nat → Prop} {bj : Jb} {bb a : Nat} {A : List Nat} {mb : Nat → Nat} {X : Nat → Kvs} {ds : Deeds} (hs : St w S Z bj A mb X ds) (ha : a ∈ A) (far : ¬ S bb) (ca : w.cell? ⟨bb, 0, none⟩ = some (.pointer (some ⟨a, 0, none⟩))) {k : Kk} {v : Nm} (hk : Kok k) (hds : ds.length ≤ 100000) (hv : v.1 = 0) (hn : getL k (X a) = none) :
    Calls Try.prog 60 #[.pointer (some ⟨bb, 0, none⟩), .agg #[.int .u8 k.1, .int .u8 k.2], .agg #[.int .u64 (lm v.1 0), .int .u64 (lm v.1 1), .int .u64 (lm v.1 2), .int .u64 (lm v.1 3)]] w fun e w' => e = .returned (.tuple #[]) ∧ Below w.heap.size w w' := by
  have lb : bb < w.heap.size := by obtain ⟨cs, t, f, e⟩ := cells_of_cellS ca; exact (Array.getElem?_eq_some_iff.1 e).1
  obtain ⟨W, hW⟩ : ∃ W, (w.alloc (.cells #[.int .u8 k.1, .int .u8 k.2] 96)).alloc (.cells #[.int .u64 (lm v.1 0), .int .u64 (lm v.1 1), .int .u64 (lm v.1 2), .int .u64 (lm v.1 3)] 55) = W := ⟨_, rfl⟩
  obtain ⟨g, hg⟩ : ∃ g, w.heap.size = g := ⟨_, rfl⟩
  have HB : Hid (Below w.heap.size w W) := by rw [← hW]; exact bAl (bAl (bMe w))
  have KB : KBox W g k := by rw [← hW, ← hg]; exact (KBox.new w k).past _
  have v0 : W.cell? ⟨g + 1, 0, none⟩ = some (.int .u64 (lm v.1 0)) := by rw [← hW, ← hg]; simp [go_sem]
  have v1 : W.cell? ⟨g + 1, 1, none⟩ = some (.int .u64 (lm v.1 1)) := by rw [← hW, ← hg]; simp [go_sem]
  have v2 : W.cell? ⟨g + 1, 2, none⟩ = some (.int .u64 (lm v.1 2)) := by rw [← hW, ← hg]; simp [go_sem]
  have v3 : W.cell? ⟨g + 1, 3, none⟩ = some (.int .u64 (lm v.1 3)) := by rw [← hW, ← hg]; simp [go_sem]
  have hz : W.heap.size = g + 2 := by rw [← hW, ← hg]; simp
  have ca2 : W.cell? ⟨bb, 0, none⟩ = some (.pointer (some ⟨a, 0, none⟩)) := ((bcell HB.out).1 _ _ lb).trans ca
  have hsW := hs.below (HB.out.trans ((bMe W).mono (by rw [hz, ← hg]; omega)).drew)
  have lbW : bb < W.heap.size := by omega
  have lgW := KB.lt
  have lgV : g + 1 < W.heap.size := by omega
  have hlow := hs.low
  have fg : ¬ S g := fun e => by have := hlow g e; omega
  have fv' : ¬ S (g + 1) := fun e => by have := hlow (g + 1) e; omega
  have HC := hide (dropNone_any hsW ha hk hn)
  obtain ⟨k0, k1⟩ : W.cell? ⟨g, 0, none⟩ = some (.int .u8 k.1) ∧ W.cell? ⟨g, 1, none⟩ = some (.int .u8 k.2) := ⟨KB.c0, KB.c1⟩
  have HL := hide hlow
  have hv0 : same4 (lm v.1 0) (lm v.1 1) (lm v.1 2) (lm v.1 3) 0 0 0 0 = true := by have := big_eq v.2 In.zero; rw [lm_zero, lm_zero, lm_zero, lm_zero] at this; rw [this]; simp [hv]
  have Hg := hide hg
  clear hs hsW ca KB lb hlow hv hn
  go_enter Try.func60, Try.ntmps60
  go_wp2
  try rw [hW]
  try rw [hg]
  clear hW hg
  go_region_held3 (fun w' => w'.cell? ⟨bb, 0, none⟩ = some (.pointer (some ⟨a, 0, none⟩)) ∧ w'.cell? ⟨g, 0, none⟩ = some (.int .u8 k.1) ∧ w'.cell? ⟨g, 1, none⟩ = some (.int .u8 k.2)) (first | exact ⟨ca2, k0, k1⟩ | exact ⟨((bcell HQ).1 _ _ lbW).trans ca2, ((bcell HQ).1 _ _ lgW).trans k0, ((bcell HQ).1 _ _ lgW).trans k1⟩) ((go_at_call 67; refine HC.out.mono ?_; rintro e w2 ⟨rfl, hb2⟩; have HQ := bOn (bMe W).drew hb2))
  go_wp2
  first | go_end0 | refine bodyPost_ret (results_none rfl _ _ _) rfl ?_
  exact ⟨rfl, bOn HB.out HQ⟩
set_option maxRecDepth 100000 in
set_option maxHeartbeats 4000000 in
theorem putDrop {w : World} {S Z : Nat → Prop} {bj : Jb} {bb a : Nat} {A : List Nat} {mb : Nat → Nat} {X : Nat → Kvs} {ds : Deeds} (hs : St w S Z bj A mb X ds) (ha : a ∈ A) (far : ¬ S bb) (ca : w.cell? ⟨bb, 0, none⟩ = some (.pointer (some ⟨a, 0, none⟩))) {k : Kk} {v : Nm} (hk : Kok k) (hds : ds.length ≤ 100000) (hv : v.1 = 0) {u : Nm} (hn : getL k (X a) = some u) :
    Calls Try.prog 60 #[.pointer (some ⟨bb, 0, none⟩), .agg #[.int .u8 k.1, .int .u8 k.2], .agg #[.int .u64 (lm v.1 0), .int .u64 (lm v.1 1), .int .u64 (lm v.1 2), .int .u64 (lm v.1 3)]] w fun e w' => e = .returned (.tuple #[]) ∧ ∃ S' Z', St w' S' Z' bj A mb (upX X a (delL k (X a))) (ds ++ [⟨a, k, some u⟩]) ∧ Mv S S' w w' := by
  have lb : bb < w.heap.size := by obtain ⟨cs, t, f, e⟩ := cells_of_cellS ca; exact (Array.getElem?_eq_some_iff.1 e).1
  obtain ⟨W, hW⟩ : ∃ W, (w.alloc (.cells #[.int .u8 k.1, .int .u8 k.2] 96)).alloc (.cells #[.int .u64 (lm v.1 0), .int .u64 (lm v.1 1), .int .u64 (lm v.1 2), .int .u64 (lm v.1 3)] 55) = W := ⟨_, rfl⟩
  obtain ⟨g, hg⟩ : ∃ g, w.heap.size = g := ⟨_, rfl⟩
  have HB : Hid (Below w.heap.size w W) := by rw [← hW]; exact bAl (bAl (bMe w))
  have KB : KBox W g k := by rw [← hW, ← hg]; exact (KBox.new w k).past _
  have v0 : W.cell? ⟨g + 1, 0, none⟩ = some (.int .u64 (lm v.1 0)) := by rw [← hW, ← hg]; simp [go_sem]
  have v1 : W.cell? ⟨g + 1, 1, none⟩ = some (.int .u64 (lm v.1 1)) := by rw [← hW, ← hg]; simp [go_sem]
  have v2 : W.cell? ⟨g + 1, 2, none⟩ = some (.int .u64 (lm v.1 2)) := by rw [← hW, ← hg]; simp [go_sem]
  have v3 : W.cell? ⟨g + 1, 3, none⟩ = some (.int .u64 (lm v.1 3)) := by rw [← hW, ← hg]; simp [go_sem]
  have hz : W.heap.size = g + 2 := by rw [← hW, ← hg]; simp
  have ca2 : W.cell? ⟨bb, 0, none⟩ = some (.pointer (some ⟨a, 0, none⟩)) := ((bcell HB.out).1 _ _ lb).trans ca
  have hsW := hs.below (HB.out.trans ((bMe W).mono (by rw [hz, ← hg]; omega)).drew)
  have lbW : bb < W.heap.size := by omega
  have lgW := KB.lt
  have lgV : g + 1 < W.heap.size := by omega
  have hlow := hs.low
  have fg : ¬ S g := fun e => by have := hlow g e; omega
  have fv' : ¬ S (g + 1) := fun e => by have := hlow (g + 1) e; omega
  have HC := hide (dropSome_any hsW ha hk hn hds)
  obtain ⟨k0, k1⟩ : W.cell? ⟨g, 0, none⟩ = some (.int .u8 k.1) ∧ W.cell? ⟨g, 1, none⟩ = some (.int .u8 k.2) := ⟨KB.c0, KB.c1⟩
  have HL := hide hlow
  have hv0 : same4 (lm v.1 0) (lm v.1 1) (lm v.1 2) (lm v.1 3) 0 0 0 0 = true := by have := big_eq v.2 In.zero; rw [lm_zero, lm_zero, lm_zero, lm_zero] at this; rw [this]; simp [hv]
  have Hg := hide hg
  clear hs hsW ca KB lb hlow hv hn
  go_enter Try.func60, Try.ntmps60
  go_wp2
  try rw [hW]
  try rw [hg]
  clear hW hg
  go_region_held3 (fun w' => w'.cell? ⟨bb, 0, none⟩ = some (.pointer (some ⟨a, 0, none⟩)) ∧ w'.cell? ⟨g, 0, none⟩ = some (.int .u8 k.1) ∧ w'.cell? ⟨g, 1, none⟩ = some (.int .u8 k.2)) (first | exact ⟨ca2, k0, k1⟩ | exact ⟨(fr bb 0 lbW far).trans ca2, (fr g 0 lgW fg).trans k0, (fr g 1 lgW fg).trans k1⟩) ((go_at_call 67; refine HC.out.mono ?_; rintro e w2 ⟨rfl, S', Z', q1, q2⟩; have M := q2; have fr : ∀ b o, b < W.heap.size → ¬ S b → w2.cell? ⟨b, o, none⟩ = W.cell? ⟨b, o, none⟩ := fun b o h1 h2 => World.cell?_of_block (w := W) (a := ⟨b, o, none⟩) (M.block b h1 h2)))
  go_wp2
  first | go_end0 | refine bodyPost_ret (results_none rfl _ _ _) rfl ?_
  exact ⟨rfl, S', Z', q1, (Mv.of HB.out.drew).trans q2⟩
set_option maxRecDepth 100000 in
set_option maxHeartbeats 4000000 in
theorem putSet {w : World} {S Z : Nat → Prop} {bj : Jb} {bb a : Nat} {A : List Nat} {mb : Nat → Nat} {X : Nat → Kvs} {ds : Deeds} (hs : St w S Z bj A mb X ds) (ha : a ∈ A) (far : ¬ S bb) (ca : w.cell? ⟨bb, 0, none⟩ = some (.pointer (some ⟨a, 0, none⟩))) {k : Kk} {v : Nm} (hk : Kok k) (hds : ds.length ≤ 100000) (hv : v.1 ≠ 0) (hlen : (X a).length ≤ 1000000) :
    Calls Try.prog 60 #[.pointer (some ⟨bb, 0, none⟩), .agg #[.int .u8 k.1, .int .u8 k.2], .agg #[.int .u64 (lm v.1 0), .int .u64 (lm v.1 1), .int .u64 (lm v.1 2), .int .u64 (lm v.1 3)]] w fun e w' => e = .returned (.tuple #[]) ∧ ∃ S' Z', St w' S' Z' bj A mb (upX X a (putL kyKey k v (X a))) (ds ++ [⟨a, k, getL k (X a)⟩]) ∧ Mv S S' w w' := by
  have lb : bb < w.heap.size := by obtain ⟨cs, t, f, e⟩ := cells_of_cellS ca; exact (Array.getElem?_eq_some_iff.1 e).1
  obtain ⟨W, hW⟩ : ∃ W, (w.alloc (.cells #[.int .u8 k.1, .int .u8 k.2] 96)).alloc (.cells #[.int .u64 (lm v.1 0), .int .u64 (lm v.1 1), .int .u64 (lm v.1 2), .int .u64 (lm v.1 3)] 55) = W := ⟨_, rfl⟩
  obtain ⟨g, hg⟩ : ∃ g, w.heap.size = g := ⟨_, rfl⟩
  have HB : Hid (Below w.heap.size w W) := by rw [← hW]; exact bAl (bAl (bMe w))
  have KB : KBox W g k := by rw [← hW, ← hg]; exact (KBox.new w k).past _
  have v0 : W.cell? ⟨g + 1, 0, none⟩ = some (.int .u64 (lm v.1 0)) := by rw [← hW, ← hg]; simp [go_sem]
  have v1 : W.cell? ⟨g + 1, 1, none⟩ = some (.int .u64 (lm v.1 1)) := by rw [← hW, ← hg]; simp [go_sem]
  have v2 : W.cell? ⟨g + 1, 2, none⟩ = some (.int .u64 (lm v.1 2)) := by rw [← hW, ← hg]; simp [go_sem]
  have v3 : W.cell? ⟨g + 1, 3, none⟩ = some (.int .u64 (lm v.1 3)) := by rw [← hW, ← hg]; simp [go_sem]
  have hz : W.heap.size = g + 2 := by rw [← hW, ← hg]; simp
  have ca2 : W.cell? ⟨bb, 0, none⟩ = some (.pointer (some ⟨a, 0, none⟩)) := ((bcell HB.out).1 _ _ lb).trans ca
  have hsW := hs.below (HB.out.trans ((bMe W).mono (by rw [hz, ← hg]; omega)).drew)
  have lbW : bb < W.heap.size := by omega
  have lgW := KB.lt
  have lgV : g + 1 < W.heap.size := by omega
  have hlow := hs.low
  have fg : ¬ S g := fun e => by have := hlow g e; omega
  have fv' : ¬ S (g + 1) := fun e => by have := hlow (g + 1) e; omega
  have HC := hide (set_any hsW ha v hk hlen hds)
  obtain ⟨k0, k1⟩ : W.cell? ⟨g, 0, none⟩ = some (.int .u8 k.1) ∧ W.cell? ⟨g, 1, none⟩ = some (.int .u8 k.2) := ⟨KB.c0, KB.c1⟩
  have HL := hide hlow
  have hv0 : same4 (lm v.1 0) (lm v.1 1) (lm v.1 2) (lm v.1 3) 0 0 0 0 = false := by have := big_eq v.2 In.zero; rw [lm_zero, lm_zero, lm_zero, lm_zero] at this; rw [this]; simp [hv]
  have Hg := hide hg
  clear hs hsW ca KB lb hlow hv hlen
  go_enter Try.func60, Try.ntmps60
  go_wp2
  try rw [hW]
  try rw [hg]
  clear hW hg
  go_region_held3 (fun w' => w'.cell? ⟨bb, 0, none⟩ = some (.pointer (some ⟨a, 0, none⟩)) ∧ w'.cell? ⟨g, 0, none⟩ = some (.int .u8 k.1) ∧ w'.cell? ⟨g, 1, none⟩ = some (.int .u8 k.2) ∧ w'.cell? ⟨g + 1, 0, none⟩ = some (.int .u64 (lm v.1 0)) ∧ w'.cell? ⟨g + 1, 1, none⟩ = some (.int .u64 (lm v.1 1)) ∧ w'.cell? ⟨g + 1, 2, none⟩ = some (.int .u64 (lm v.1 2)) ∧ w'.cell? ⟨g + 1, 3, none⟩ = some (.int .u64 (lm v.1 3))) (first | exact ⟨ca2, k0, k1, v0, v1, v2, v3⟩ | exact ⟨(fr bb 0 lbW far).trans ca2, (fr g 0 lgW fg).trans k0, (fr g 1 lgW fg).trans k1, (fr (g + 1) 0 lgV fv').trans v0, (fr (g + 1) 1 lgV fv').trans v1, (fr (g + 1) 2 lgV fv').trans v2, (fr (g + 1) 3 lgV fv').trans v3⟩) ((go_at_call 68; refine HC.out.mono ?_; rintro e w2 ⟨rfl, S', Z', q1, q2⟩; have M := q2; have fr : ∀ b o, b < W.heap.size → ¬ S b → w2.cell? ⟨b, o, none⟩ = W.cell? ⟨b, o, none⟩ := fun b o h1 h2 => World.cell?_of_block (w := W) (a := ⟨b, o, none⟩) (M.block b h1 h2)))
  go_wp2
  first | go_end0 | refine bodyPost_ret (results_none rfl _ _ _) rfl ?_
  exact ⟨rfl, S', Z', q1, (Mv.of HB.out.drew).trans q2⟩
/-- A balance is put. -/
theorem put_bk {w : World} {S : Nat → Prop} {bj : Jk} {bb n : Nat} {h : Nat → Kvs} (B : Bk w S bj bb n h) {k : Kk} (v : Nm) (hk : Kin k) (hn : n ≤ 10000) (hsup : ∀ t, In (sup (putB k v (h n)) t)) :
    Calls Try.prog 60 #[.pointer (some ⟨bb, 0, none⟩), .agg #[.int .u8 k.1, .int .u8 k.2], big v.1] w fun e w' => e = .returned (.tuple #[]) ∧ ∃ S' n' h', Bk w' S' bj bb n' h' ∧ Mv S S' w w' ∧ Nx n h n' h' (putB k v (h n)) 1 := by
  obtain ⟨Z, mb, X, ds, hs, e, hh, ho, hc⟩ := B.ex
  have hX : X bj.a = h n := by
    have := hh n (Nat.le_refl n)
    rw [← e, List.drop_length, undoN_nil] at this
    rw [← e]
    exact this
  obtain ⟨g1, g2, g3⟩ := B.good n (Nat.le_refl n)
  have gP := g1.put hk v
  have lP := putB_length k v (h n)
  by_cases hv : v.1 = 0
  · cases hg : getL k (h n) with
    | none =>
      refine (putNo hs B.mem B.far hc hk.ok (by omega) hv (by rw [hX]; exact hg)).mono ?_
      rintro _ w' ⟨rfl, hb⟩
      have e2 : putB k v (h n) = h n := by unfold putB; rw [if_pos hv, delL_none hg]
      rw [e2]
      exact ⟨rfl, S, n, h, B.below hb, Mv.of hb, Nx.refl n h 1⟩
    | some u =>
      refine (putDrop hs B.mem B.far hc hk.ok (by omega) hv (u := u) (by rw [hX]; exact hg)).mono ?_
      rintro _ w' ⟨rfl, S', Z', q1, q2⟩
      obtain ⟨h', r1, r2⟩ := B.next q2 (d := ⟨bj.a, k, some u⟩) e hh ho hc q1 (undo_del kyKey X bj.a k (hs.srt bj.a) (by rw [hX]; exact hg)) (L := putB k v (h n)) (by rw [upX_same, hX]; unfold putB; rw [if_pos hv]) (fun b hb => upX_other _ hb _) gP hsup
      exact ⟨rfl, S', n + 1, h', r1, q2, r2⟩
  · refine (putSet hs B.mem B.far hc hk.ok (by omega) hv (by rw [hX]; omega)).mono ?_
    rintro _ w' ⟨rfl, S', Z', q1, q2⟩
    obtain ⟨h', r1, r2⟩ := B.next q2 (d := ⟨bj.a, k, getL k (X bj.a)⟩) e hh ho hc q1 (undo_put kyKey X bj.a k v (hs.srt bj.a)) (L := putB k v (h n)) (by rw [upX_same, hX]; unfold putB; rw [if_neg hv]) (fun b hb => upX_other _ hb _) gP hsup
    exact ⟨rfl, S', n + 1, h', r1, q2, r2⟩
end Go.Proofs.Ytncnilplmklccaa
