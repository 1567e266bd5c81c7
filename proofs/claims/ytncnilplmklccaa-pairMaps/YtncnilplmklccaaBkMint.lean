/- The contracts of book's Mint, Burn and Move over this translation (gen-bkmint.py). -/
import Derived.Test.YtncnilplmklccaaBkActs
import Derived.Test.YtncnilplmklccaaBkSup
import Derived.Test.YtncnilplmklccaaBkCheck
namespace Go.Proofs.Ytncnilplmklccaa
set_option linter.unusedSimpArgs false
set_option linter.unusedVariables false
open Go.RowKit Go.Lib
attribute [local go_sem] setCell_drewN alloc_drewN

theorem chk_kin {t : Int} {ps : List Int} {N : Int} (ht : 0 ≤ t) (hc : chk t ps N = 0) {p : Int} (hp : p ∈ ps) (h0 : 0 ≤ p) : Kin (t, p) := by
  unfold chk at hc
  split at hc
  · simp at hc
  · rename_i h1
    split at hc
    · simp at hc
    · rename_i h2
      rw [List.any_eq_true] at h2
      refine ⟨⟨ht, by show t < 4; omega⟩, ⟨h0, ?_⟩⟩
      have := fun h => h2 ⟨p, hp, h⟩
      simp at this
      exact this
set_option maxRecDepth 100000 in
set_option maxHeartbeats 1000000 in
theorem mint_no {w : World} {S : Nat → Prop} {bj : Jk} {bb n : Nat} {h : Nat → Kvs} (B : Bk w S bj bb n h) {t p : Int} {N : Int} (ht : 0 ≤ t ∧ t < 256) (hp : 0 ≤ p ∧ p < 256) (hN : In N) (hn : n ≤ 9000) (hs : chk t [p] N ≠ 0) :
    Calls Try.prog 20 #[.pointer (some ⟨bb, 0, none⟩), .int .u8 t, .int .u8 p, big N] w fun e w' => e = .returned (.int .i64 (chk t [p] N)) ∧ Below w.heap.size w w' := by
  obtain ⟨W0, hW⟩ : ∃ W0, (w.alloc (.cells #[.int .u64 (lm N 0), .int .u64 (lm N 1), .int .u64 (lm N 2), .int .u64 (lm N 3)] 55)).alloc (.cells #[.int .u8 p] 5) = W0 := ⟨_, rfl⟩
  obtain ⟨g, hg⟩ : ∃ g, w.heap.size = g := ⟨_, rfl⟩
  have HB : Hid (Below w.heap.size w W0) := by rw [← hW]; exact bAl (bAl (bMe w))
  have V0 : Lims W0 g (lm N 0) (lm N 1) (lm N 2) (lm N 3) := by
    rw [← hW, ← hg]
    exact (Lims.new w (lm N 0) (lm N 1) (lm N 2) (lm N 3) 55).past _
  have hc : Calls Try.prog 42 #[big N, .int .u8 t, .slice (some ⟨g + 1, 0, none⟩) 1 1] W0 fun e w' => e = .returned (.int .i64 (chk t [p] N)) ∧ Below W0.heap.size W0 w' :=
    check_bk (ps := [p]) (fun i hi => by
      have : i = 0 := by simp at hi; omega
      subst this <;> (rw [← hW, ← hg]; simp [go_sem])) (fun i hi => by
      have : i = 0 := by simp at hi; omega
      subst this <;> (first | exact hp | exact hp)) (by rw [← hW, ← hg]; simp) (by simp) hN t
  have HV0 := hide V0
  have HBK0 := hide (B.below HB.out)
  obtain ⟨c, hc'⟩ : ∃ c, chk t [p] N = c := ⟨_, rfl⟩
  rw [hc'] at hc hs
  rw [hc']
  clear hc'
  have NG : Hid (¬ S g) := fun e => by have := B.low g e; omega
  have HC := hide hc
  have Hg := hide hg
  clear B hc V0
  go_enter Try.func20, Try.ntmps20
  go_wp2_with fail
  try rw [hW]
  try rw [hg]
  clear hW hg
  refine HC.out.mono ?_
  clear HC
  rintro e W ⟨rfl, hb⟩
  have HBK := hide (HBK0.out.below hb)
  have HBW := hide (bOn HB.out hb)
  obtain ⟨lv, v0, v1, v2, v3⟩ := HV0.out.below hb
  clear hb HBK0 HV0 HB
  go_wp2
  go_ret
  exact ⟨rfl, HBW.out⟩
set_option maxRecDepth 100000 in
set_option maxHeartbeats 1000000 in
theorem burn_no {w : World} {S : Nat → Prop} {bj : Jk} {bb n : Nat} {h : Nat → Kvs} (B : Bk w S bj bb n h) {t p : Int} {N : Int} (ht : 0 ≤ t ∧ t < 256) (hp : 0 ≤ p ∧ p < 256) (hN : In N) (hn : n ≤ 9000) (hs : chk t [p] N ≠ 0) :
    Calls Try.prog 49 #[.pointer (some ⟨bb, 0, none⟩), .int .u8 t, .int .u8 p, big N] w fun e w' => e = .returned (.int .i64 (chk t [p] N)) ∧ Below w.heap.size w w' := by
  obtain ⟨W0, hW⟩ : ∃ W0, (w.alloc (.cells #[.int .u64 (lm N 0), .int .u64 (lm N 1), .int .u64 (lm N 2), .int .u64 (lm N 3)] 55)).alloc (.cells #[.int .u8 p] 5) = W0 := ⟨_, rfl⟩
  obtain ⟨g, hg⟩ : ∃ g, w.heap.size = g := ⟨_, rfl⟩
  have HB : Hid (Below w.heap.size w W0) := by rw [← hW]; exact bAl (bAl (bMe w))
  have V0 : Lims W0 g (lm N 0) (lm N 1) (lm N 2) (lm N 3) := by
    rw [← hW, ← hg]
    exact (Lims.new w (lm N 0) (lm N 1) (lm N 2) (lm N 3) 55).past _
  have hc : Calls Try.prog 42 #[big N, .int .u8 t, .slice (some ⟨g + 1, 0, none⟩) 1 1] W0 fun e w' => e = .returned (.int .i64 (chk t [p] N)) ∧ Below W0.heap.size W0 w' :=
    check_bk (ps := [p]) (fun i hi => by
      have : i = 0 := by simp at hi; omega
      subst this <;> (rw [← hW, ← hg]; simp [go_sem])) (fun i hi => by
      have : i = 0 := by simp at hi; omega
      subst this <;> (first | exact hp | exact hp)) (by rw [← hW, ← hg]; simp) (by simp) hN t
  have HV0 := hide V0
  have HBK0 := hide (B.below HB.out)
  obtain ⟨c, hc'⟩ : ∃ c, chk t [p] N = c := ⟨_, rfl⟩
  rw [hc'] at hc hs
  rw [hc']
  clear hc'
  have NG : Hid (¬ S g) := fun e => by have := B.low g e; omega
  have HC := hide hc
  have Hg := hide hg
  clear B hc V0
  go_enter Try.func49, Try.ntmps49
  go_wp2_with fail
  try rw [hW]
  try rw [hg]
  clear hW hg
  refine HC.out.mono ?_
  clear HC
  rintro e W ⟨rfl, hb⟩
  have HBK := hide (HBK0.out.below hb)
  have HBW := hide (bOn HB.out hb)
  obtain ⟨lv, v0, v1, v2, v3⟩ := HV0.out.below hb
  clear hb HBK0 HV0 HB
  go_wp2
  go_ret
  exact ⟨rfl, HBW.out⟩
set_option maxRecDepth 100000 in
set_option maxHeartbeats 1000000 in
theorem move_no {w : World} {S : Nat → Prop} {bj : Jk} {bb n : Nat} {h : Nat → Kvs} (B : Bk w S bj bb n h) {t a b : Int} {N : Int} (ht : 0 ≤ t ∧ t < 256) (ha : 0 ≤ a ∧ a < 256) (hb : 0 ≤ b ∧ b < 256) (hN : In N) (hn : n ≤ 9000) (hs : chk t [a, b] N ≠ 0) :
    Calls Try.prog 50 #[.pointer (some ⟨bb, 0, none⟩), .int .u8 t, .int .u8 a, .int .u8 b, big N] w fun e w' => e = .returned (.int .i64 (chk t [a, b] N)) ∧ Below w.heap.size w w' := by
  obtain ⟨W0, hW⟩ : ∃ W0, (w.alloc (.cells #[.int .u64 (lm N 0), .int .u64 (lm N 1), .int .u64 (lm N 2), .int .u64 (lm N 3)] 55)).alloc (.cells #[.int .u8 a, .int .u8 b] 5) = W0 := ⟨_, rfl⟩
  obtain ⟨g, hg⟩ : ∃ g, w.heap.size = g := ⟨_, rfl⟩
  have HB : Hid (Below w.heap.size w W0) := by rw [← hW]; exact bAl (bAl (bMe w))
  have V0 : Lims W0 g (lm N 0) (lm N 1) (lm N 2) (lm N 3) := by
    rw [← hW, ← hg]
    exact (Lims.new w (lm N 0) (lm N 1) (lm N 2) (lm N 3) 55).past _
  have hc : Calls Try.prog 42 #[big N, .int .u8 t, .slice (some ⟨g + 1, 0, none⟩) 2 2] W0 fun e w' => e = .returned (.int .i64 (chk t [a, b] N)) ∧ Below W0.heap.size W0 w' :=
    check_bk (ps := [a, b]) (fun i hi => by
      have : i = 0 ∨ i = 1 := by simp at hi; omega
      rcases this with rfl | rfl <;> (rw [← hW, ← hg]; simp [go_sem])) (fun i hi => by
      have : i = 0 ∨ i = 1 := by simp at hi; omega
      rcases this with rfl | rfl <;> (first | exact ha | exact hb)) (by rw [← hW, ← hg]; simp) (by simp) hN t
  have HV0 := hide V0
  have HBK0 := hide (B.below HB.out)
  obtain ⟨c, hc'⟩ : ∃ c, chk t [a, b] N = c := ⟨_, rfl⟩
  rw [hc'] at hc hs
  rw [hc']
  clear hc'
  have NG : Hid (¬ S g) := fun e => by have := B.low g e; omega
  have HC := hide hc
  have Hg := hide hg
  clear B hc V0
  go_enter Try.func50, Try.ntmps50
  go_wp2_with fail
  try rw [hW]
  try rw [hg]
  clear hW hg
  refine HC.out.mono ?_
  clear HC
  rintro e W ⟨rfl, hb⟩
  have HBK := hide (HBK0.out.below hb)
  have HBW := hide (bOn HB.out hb)
  obtain ⟨lv, v0, v1, v2, v3⟩ := HV0.out.below hb
  clear hb HBK0 HV0 HB
  go_wp2
  go_ret
  exact ⟨rfl, HBW.out⟩
set_option maxRecDepth 100000 in
set_option maxHeartbeats 1000000 in
theorem burn_yes {w : World} {S : Nat → Prop} {bj : Jk} {bb n : Nat} {h : Nat → Kvs} (B : Bk w S bj bb n h) {t p : Int} {N : Int} (ht : 0 ≤ t ∧ t < 256) (hp : 0 ≤ p ∧ p < 256) (hN : In N) (hn : n ≤ 9000) (hs : chk t [p] N = 0) (hle : N ≤ bal (h n) (t, p)) :
    Calls Try.prog 49 #[.pointer (some ⟨bb, 0, none⟩), .int .u8 t, .int .u8 p, big N] w fun e w' => e = .returned (.int .i64 0) ∧ ∃ S' n' h', Bk w' S' bj bb n' h' ∧ Mv S S' w w' ∧ Nx n h n' h' (subB (t, p) N (h n)) 1 := by
  obtain ⟨W0, hW⟩ : ∃ W0, (w.alloc (.cells #[.int .u64 (lm N 0), .int .u64 (lm N 1), .int .u64 (lm N 2), .int .u64 (lm N 3)] 55)).alloc (.cells #[.int .u8 p] 5) = W0 := ⟨_, rfl⟩
  obtain ⟨g, hg⟩ : ∃ g, w.heap.size = g := ⟨_, rfl⟩
  have HB : Hid (Below w.heap.size w W0) := by rw [← hW]; exact bAl (bAl (bMe w))
  have V0 : Lims W0 g (lm N 0) (lm N 1) (lm N 2) (lm N 3) := by
    rw [← hW, ← hg]
    exact (Lims.new w (lm N 0) (lm N 1) (lm N 2) (lm N 3) 55).past _
  have hc : Calls Try.prog 42 #[big N, .int .u8 t, .slice (some ⟨g + 1, 0, none⟩) 1 1] W0 fun e w' => e = .returned (.int .i64 (chk t [p] N)) ∧ Below W0.heap.size W0 w' :=
    check_bk (ps := [p]) (fun i hi => by
      have : i = 0 := by simp at hi; omega
      subst this <;> (rw [← hW, ← hg]; simp [go_sem])) (fun i hi => by
      have : i = 0 := by simp at hi; omega
      subst this <;> (first | exact hp | exact hp)) (by rw [← hW, ← hg]; simp) (by simp) hN t
  have HV0 := hide V0
  have HBK0 := hide (B.below HB.out)
  have hk := hide (chk_kin ht.1 hs (List.mem_singleton.2 rfl) hp.1)
  rw [hs] at hc
  have NG : Hid (¬ S g) := fun e => by have := B.low g e; omega
  have HC := hide hc
  have Hg := hide hg
  clear B hc V0
  go_enter Try.func49, Try.ntmps49
  go_wp2_with fail
  try rw [hW]
  try rw [hg]
  clear hW hg
  refine HC.out.mono ?_
  clear HC
  rintro e W ⟨rfl, hb⟩
  have HBK := hide (HBK0.out.below hb)
  have HBW := hide (bOn HB.out hb)
  obtain ⟨lv, v0, v1, v2, v3⟩ := HV0.out.below hb
  clear hb HBK0 HV0 HB
  have HT := hide (take_bk HBK.out hk.out hN (by omega) hle)
  clear hle
  go_wp2_with fail
  refine HT.out.mono ?_
  clear HT
  rintro e w2 ⟨rfl, hres⟩
  have HR := hide hres
  clear hres
  go_wp2
  go_ret
  obtain ⟨S', n', h', x1, x2, x3⟩ := HR.out
  exact ⟨rfl, S', n', h', x1, (Mv.of HBW.out).trans x2, x3⟩
set_option maxRecDepth 100000 in
set_option maxHeartbeats 1000000 in
theorem burn_few {w : World} {S : Nat → Prop} {bj : Jk} {bb n : Nat} {h : Nat → Kvs} (B : Bk w S bj bb n h) {t p : Int} {N : Int} (ht : 0 ≤ t ∧ t < 256) (hp : 0 ≤ p ∧ p < 256) (hN : In N) (hn : n ≤ 9000) (hs : chk t [p] N = 0) (hle : bal (h n) (t, p) < N) :
    Calls Try.prog 49 #[.pointer (some ⟨bb, 0, none⟩), .int .u8 t, .int .u8 p, big N] w fun e w' => e = .returned (.int .i64 8) ∧ Below w.heap.size w w' := by
  obtain ⟨W0, hW⟩ : ∃ W0, (w.alloc (.cells #[.int .u64 (lm N 0), .int .u64 (lm N 1), .int .u64 (lm N 2), .int .u64 (lm N 3)] 55)).alloc (.cells #[.int .u8 p] 5) = W0 := ⟨_, rfl⟩
  obtain ⟨g, hg⟩ : ∃ g, w.heap.size = g := ⟨_, rfl⟩
  have HB : Hid (Below w.heap.size w W0) := by rw [← hW]; exact bAl (bAl (bMe w))
  have V0 : Lims W0 g (lm N 0) (lm N 1) (lm N 2) (lm N 3) := by
    rw [← hW, ← hg]
    exact (Lims.new w (lm N 0) (lm N 1) (lm N 2) (lm N 3) 55).past _
  have hc : Calls Try.prog 42 #[big N, .int .u8 t, .slice (some ⟨g + 1, 0, none⟩) 1 1] W0 fun e w' => e = .returned (.int .i64 (chk t [p] N)) ∧ Below W0.heap.size W0 w' :=
    check_bk (ps := [p]) (fun i hi => by
      have : i = 0 := by simp at hi; omega
      subst this <;> (rw [← hW, ← hg]; simp [go_sem])) (fun i hi => by
      have : i = 0 := by simp at hi; omega
      subst this <;> (first | exact hp | exact hp)) (by rw [← hW, ← hg]; simp) (by simp) hN t
  have HV0 := hide V0
  have HBK0 := hide (B.below HB.out)
  have hk := hide (chk_kin ht.1 hs (List.mem_singleton.2 rfl) hp.1)
  rw [hs] at hc
  have NG : Hid (¬ S g) := fun e => by have := B.low g e; omega
  have HC := hide hc
  have Hg := hide hg
  clear B hc V0
  go_enter Try.func49, Try.ntmps49
  go_wp2_with fail
  try rw [hW]
  try rw [hg]
  clear hW hg
  refine HC.out.mono ?_
  clear HC
  rintro e W ⟨rfl, hb⟩
  have HBK := hide (HBK0.out.below hb)
  have HBW := hide (bOn HB.out hb)
  obtain ⟨lv, v0, v1, v2, v3⟩ := HV0.out.below hb
  clear hb HBK0 HV0 HB
  have HT := hide (take_no HBK.out hk.out hN (by omega) hle)
  clear hle
  go_wp2_with fail
  refine HT.out.mono ?_
  clear HT
  rintro e w2 ⟨rfl, hb2⟩
  have HR := hide (bOn HBW.out hb2)
  clear hb2
  go_wp2
  go_ret
  exact ⟨rfl, HR.out⟩
set_option maxRecDepth 100000 in
set_option maxHeartbeats 1000000 in
theorem move_few {w : World} {S : Nat → Prop} {bj : Jk} {bb n : Nat} {h : Nat → Kvs} (B : Bk w S bj bb n h) {t a b : Int} {N : Int} (ht : 0 ≤ t ∧ t < 256) (ha : 0 ≤ a ∧ a < 256) (hb : 0 ≤ b ∧ b < 256) (hN : In N) (hn : n ≤ 9000) (hs : chk t [a, b] N = 0) (hle : bal (h n) (t, a) < N) :
    Calls Try.prog 50 #[.pointer (some ⟨bb, 0, none⟩), .int .u8 t, .int .u8 a, .int .u8 b, big N] w fun e w' => e = .returned (.int .i64 8) ∧ Below w.heap.size w w' := by
  obtain ⟨W0, hW⟩ : ∃ W0, (w.alloc (.cells #[.int .u64 (lm N 0), .int .u64 (lm N 1), .int .u64 (lm N 2), .int .u64 (lm N 3)] 55)).alloc (.cells #[.int .u8 a, .int .u8 b] 5) = W0 := ⟨_, rfl⟩
  obtain ⟨g, hg⟩ : ∃ g, w.heap.size = g := ⟨_, rfl⟩
  have HB : Hid (Below w.heap.size w W0) := by rw [← hW]; exact bAl (bAl (bMe w))
  have V0 : Lims W0 g (lm N 0) (lm N 1) (lm N 2) (lm N 3) := by
    rw [← hW, ← hg]
    exact (Lims.new w (lm N 0) (lm N 1) (lm N 2) (lm N 3) 55).past _
  have hc : Calls Try.prog 42 #[big N, .int .u8 t, .slice (some ⟨g + 1, 0, none⟩) 2 2] W0 fun e w' => e = .returned (.int .i64 (chk t [a, b] N)) ∧ Below W0.heap.size W0 w' :=
    check_bk (ps := [a, b]) (fun i hi => by
      have : i = 0 ∨ i = 1 := by simp at hi; omega
      rcases this with rfl | rfl <;> (rw [← hW, ← hg]; simp [go_sem])) (fun i hi => by
      have : i = 0 ∨ i = 1 := by simp at hi; omega
      rcases this with rfl | rfl <;> (first | exact ha | exact hb)) (by rw [← hW, ← hg]; simp) (by simp) hN t
  have HV0 := hide V0
  have HBK0 := hide (B.below HB.out)
  have hk := hide (chk_kin ht.1 hs (p := a) (by simp) ha.1)
  rw [hs] at hc
  have NG : Hid (¬ S g) := fun e => by have := B.low g e; omega
  have HC := hide hc
  have Hg := hide hg
  clear B hc V0
  go_enter Try.func50, Try.ntmps50
  go_wp2_with fail
  try rw [hW]
  try rw [hg]
  clear hW hg
  refine HC.out.mono ?_
  clear HC
  rintro e W ⟨rfl, hb⟩
  have HBK := hide (HBK0.out.below hb)
  have HBW := hide (bOn HB.out hb)
  obtain ⟨lv, v0, v1, v2, v3⟩ := HV0.out.below hb
  clear hb HBK0 HV0 HB
  have HT := hide (take_no HBK.out hk.out hN (by omega) hle)
  clear hle
  go_wp2_with fail
  refine HT.out.mono ?_
  clear HT
  rintro e w2 ⟨rfl, hb2⟩
  have HR := hide (bOn HBW.out hb2)
  clear hb2
  go_wp2
  go_ret
  exact ⟨rfl, HR.out⟩
set_option maxRecDepth 100000 in
set_option maxHeartbeats 1000000 in
theorem move_yes {w : World} {S : Nat → Prop} {bj : Jk} {bb n : Nat} {h : Nat → Kvs} (B : Bk w S bj bb n h) {t a b : Int} {N : Int} (ht : 0 ≤ t ∧ t < 256) (ha : 0 ≤ a ∧ a < 256) (hb : 0 ≤ b ∧ b < 256) (hN : In N) (hn : n ≤ 9000) (hs : chk t [a, b] N = 0) (hle : N ≤ bal (h n) (t, a)) :
    Calls Try.prog 50 #[.pointer (some ⟨bb, 0, none⟩), .int .u8 t, .int .u8 a, .int .u8 b, big N] w fun e w' => e = .returned (.int .i64 0) ∧ ∃ S' n' h', Bk w' S' bj bb n' h' ∧ Mv S S' w w' ∧ Nx n h n' h' (addB (t, b) N (subB (t, a) N (h n))) 2 := by
  obtain ⟨W0, hW⟩ : ∃ W0, (w.alloc (.cells #[.int .u64 (lm N 0), .int .u64 (lm N 1), .int .u64 (lm N 2), .int .u64 (lm N 3)] 55)).alloc (.cells #[.int .u8 a, .int .u8 b] 5) = W0 := ⟨_, rfl⟩
  obtain ⟨g, hg⟩ : ∃ g, w.heap.size = g := ⟨_, rfl⟩
  have HB : Hid (Below w.heap.size w W0) := by rw [← hW]; exact bAl (bAl (bMe w))
  have V0 : Lims W0 g (lm N 0) (lm N 1) (lm N 2) (lm N 3) := by
    rw [← hW, ← hg]
    exact (Lims.new w (lm N 0) (lm N 1) (lm N 2) (lm N 3) 55).past _
  have hc : Calls Try.prog 42 #[big N, .int .u8 t, .slice (some ⟨g + 1, 0, none⟩) 2 2] W0 fun e w' => e = .returned (.int .i64 (chk t [a, b] N)) ∧ Below W0.heap.size W0 w' :=
    check_bk (ps := [a, b]) (fun i hi => by
      have : i = 0 ∨ i = 1 := by simp at hi; omega
      rcases this with rfl | rfl <;> (rw [← hW, ← hg]; simp [go_sem])) (fun i hi => by
      have : i = 0 ∨ i = 1 := by simp at hi; omega
      rcases this with rfl | rfl <;> (first | exact ha | exact hb)) (by rw [← hW, ← hg]; simp) (by simp) hN t
  have HV0 := hide V0
  have HBK0 := hide (B.below HB.out)
  have hk := hide (chk_kin ht.1 hs (p := a) (by simp) ha.1)
  have hk2 := hide (chk_kin ht.1 hs (p := b) (by simp) hb.1)
  rw [hs] at hc
  have NG : Hid (¬ S g) := fun e => by have := B.low g e; omega
  have HC := hide hc
  have Hg := hide hg
  clear B hc V0
  go_enter Try.func50, Try.ntmps50
  go_wp2_with fail
  try rw [hW]
  try rw [hg]
  clear hW hg
  refine HC.out.mono ?_
  clear HC
  rintro e W ⟨rfl, hbb⟩
  have HBK := hide (HBK0.out.below hbb)
  have HBW := hide (bOn HB.out hbb)
  obtain ⟨lv, v0, v1, v2, v3⟩ := HV0.out.below hbb
  clear hbb HBK0 HV0 HB
  have HT := hide (take_bk HBK.out hk.out hN (by omega) hle)
  have HSUM : Hid (In (sup (subB (t, a) N (h n)) t + N)) := by
    have e := sup_subB (HBK.out.good n (Nat.le_refl n)).1.srt hk.out hN hle t
    have := (HBK.out.good n (Nat.le_refl n)).2.2 t
    rw [e, if_pos rfl]
    rw [Int.sub_add_cancel]
    exact this
  clear hle
  go_wp2_with fail
  refine HT.out.mono ?_
  clear HT
  rintro e w2 ⟨rfl, S', n', h', x1, x2, x3⟩
  have X1 := hide x1
  have X2 := hide x2
  have X3 := hide x3
  have lowS := HBK.out.low
  have ng : ¬ S g := fun e => by
    have := fun k hk => (HBK.out.low k hk)
    exact NG.out e
  obtain ⟨_, y0, y1, y2, y3⟩ : Lims w2 g (lm N 0) (lm N 1) (lm N 2) (lm N 3) := by
    have hb := x2.block g lv ng
    exact ⟨Nat.lt_of_lt_of_le lv x2.size, (World.cell?_of_block (w := W) (a := ⟨g, 0, none⟩) hb).trans v0, (World.cell?_of_block (w := W) (a := ⟨g, 1, none⟩) hb).trans v1, (World.cell?_of_block (w := W) (a := ⟨g, 2, none⟩) hb).trans v2, (World.cell?_of_block (w := W) (a := ⟨g, 3, none⟩) hb).trans v3⟩
  have hsum : In (sup (h' n') t + N) := by rw [x3.now]; exact HSUM.out
  have HG := hide (give_bk (k := (t, b)) x1 hk2.out hN (by have := x3.up; omega) hsum)
  clear x1 x2 x3 hsum ng lowS v0 v1 v2 v3 lv
  go_wp2_with fail
  refine HG.out.mono ?_
  clear HG
  rintro e w3 ⟨rfl, S'', n'', h'', z1, z2, z3⟩
  have Z1 := hide z1
  have Z2 := hide z2
  have Z3 := hide z3
  clear z1 z2 z3
  go_wp2
  go_ret
  refine ⟨rfl, S'', n'', h'', Z1.out, ((Mv.of HBW.out).trans X2.out).trans Z2.out, ?_⟩
  have := X3.out.trans Z3.out
  rw [X3.out.now] at this
  exact this
set_option maxRecDepth 100000 in
set_option maxHeartbeats 1000000 in
theorem mint_over {w : World} {S : Nat → Prop} {bj : Jk} {bb n : Nat} {h : Nat → Kvs} (B : Bk w S bj bb n h) {t p : Int} {N : Int} (ht : 0 ≤ t ∧ t < 256) (hp : 0 ≤ p ∧ p < 256) (hN : In N) (hn : n ≤ 9000) (hs : chk t [p] N = 0) (hsum : ¬ In (sup (h n) t + N)) :
    Calls Try.prog 20 #[.pointer (some ⟨bb, 0, none⟩), .int .u8 t, .int .u8 p, big N] w fun e w' => e = .returned (.int .i64 2) ∧ Below w.heap.size w w' := by
  obtain ⟨W0, hW⟩ : ∃ W0, (w.alloc (.cells #[.int .u64 (lm N 0), .int .u64 (lm N 1), .int .u64 (lm N 2), .int .u64 (lm N 3)] 55)).alloc (.cells #[.int .u8 p] 5) = W0 := ⟨_, rfl⟩
  obtain ⟨g, hg⟩ : ∃ g, w.heap.size = g := ⟨_, rfl⟩
  have HB : Hid (Below w.heap.size w W0) := by rw [← hW]; exact bAl (bAl (bMe w))
  have V0 : Lims W0 g (lm N 0) (lm N 1) (lm N 2) (lm N 3) := by
    rw [← hW, ← hg]
    exact (Lims.new w (lm N 0) (lm N 1) (lm N 2) (lm N 3) 55).past _
  have hc : Calls Try.prog 42 #[big N, .int .u8 t, .slice (some ⟨g + 1, 0, none⟩) 1 1] W0 fun e w' => e = .returned (.int .i64 (chk t [p] N)) ∧ Below W0.heap.size W0 w' :=
    check_bk (ps := [p]) (fun i hi => by
      have : i = 0 := by simp at hi; omega
      subst this <;> (rw [← hW, ← hg]; simp [go_sem])) (fun i hi => by
      have : i = 0 := by simp at hi; omega
      subst this <;> (first | exact hp | exact hp)) (by rw [← hW, ← hg]; simp) (by simp) hN t
  have HV0 := hide V0
  have HBK0 := hide (B.below HB.out)
  have hk := hide (chk_kin ht.1 hs (List.mem_singleton.2 rfl) hp.1)
  obtain ⟨M, hM⟩ : ∃ M, sup (h n) t = M := ⟨_, rfl⟩
  have HM := hide hM
  have hMin : In M := hM ▸ (B.good n (Nat.le_refl n)).2.2 t
  rw [hM] at hsum
  rw [hs] at hc
  have HF := hide (fun w' => huge_add_over M N w' hMin hN hsum)
  obtain ⟨R, hR⟩ : ∃ R : Int, 0 = R := ⟨_, rfl⟩
  rw [hR] at HF
  clear hM hR hsum hMin
  have HC := hide hc
  have Hg := hide hg
  clear B hc V0
  go_enter Try.func20, Try.ntmps20
  go_wp2_with fail
  try rw [hW]
  try rw [hg]
  clear hW hg
  refine HC.out.mono ?_
  clear HC
  rintro e W ⟨rfl, hb⟩
  have HBK := hide (HBK0.out.below hb)
  have HBW := hide (bOn HB.out hb)
  obtain ⟨lv, v0, v1, v2, v3⟩ := HV0.out.below hb
  clear hb HBK0 HV0 HB
  have HA : Hid (∀ w', Below W.heap.size W w' → Calls Try.prog 44 #[.pointer (some ⟨bb, 0, none⟩), .int .u8 t] w' fun e w'' => e = .returned (big M) ∧ Below w'.heap.size w' w'') := fun w' hb => HM.out ▸ supply_any (HBK.out.below hb) ht
  have hz : W.heap.size = W.heap.size := rfl
  have HP : Hid (∀ w2, Below (W.alloc (.cells #[.int .u64 0, .int .u64 0, .int .u64 0, .int .u64 0] 55)).drew.heap.size (W.alloc (.cells #[.int .u64 0, .int .u64 0, .int .u64 0, .int .u64 0] 55)).drew w2 → Own w2 (W.heap.size) 0 0 0 0) := fun w2 hb2 => (Own.new W 0 0 0 0 55).of hb2.size (hb2.block _ (by show W.heap.size < (W.alloc _).heap.size; simp))
  go_wp2
  go_region_held3 (fun w' => w'.cell? ⟨g, 0, none⟩ = some (.int .u64 (lm N 0)) ∧ w'.cell? ⟨g, 1, none⟩ = some (.int .u64 (lm N 1)) ∧ w'.cell? ⟨g, 2, none⟩ = some (.int .u64 (lm N 2)) ∧ w'.cell? ⟨g, 3, none⟩ = some (.int .u64 (lm N 3))) (first | with_reducible exact ⟨v0, v1, v2, v3⟩ | with_reducible exact Sw3.out | with_reducible exact Sw2.out | (simp [go_sem, World.cell?_alloc_lt, v0, v1, v2, v3, lv, lv]; done) | (have hs := Sw3.out; have l1 := Nat.lt_of_lt_of_le lv Q3.out.size; have l2 := Nat.lt_of_lt_of_le lv Q3.out.size; have l3 : W.heap.size ≤ w3.heap.size := Q3.out.size; have l4 : W.heap.size ≤ w2.heap.size := Q2.out.size; have l5 : ¬ g = w2.heap.size := (by omega); have l6 : ¬ w2.heap.size = g := (by omega); simp [go_sem, World.cell?_alloc_lt, hs, l1, l2, l5, l6]; done) | (have hs := Sw2.out; have l1 := Nat.lt_of_lt_of_le lv Q2.out.size; have l2 := Nat.lt_of_lt_of_le lv Q2.out.size; simp [go_sem, World.cell?_alloc_lt, hs, l1, l2]; done)) ((first
    | (go_at_call 44; (with_reducible refine (HA.out (W.alloc (.cells #[.int .u64 0, .int .u64 0, .int .u64 0, .int .u64 0] 55)).drew (bAl (bMe W)).drew).mono ?_); rintro e w2 ⟨rfl, hb2⟩; have Q2 : Hid (Below W.heap.size W w2) := (bOn (bAl (bMe W)).drew hb2); have Sw2 := hide (show w2.cell? ⟨g, 0, none⟩ = some (.int .u64 (lm N 0)) ∧ w2.cell? ⟨g, 1, none⟩ = some (.int .u64 (lm N 1)) ∧ w2.cell? ⟨g, 2, none⟩ = some (.int .u64 (lm N 2)) ∧ w2.cell? ⟨g, 3, none⟩ = some (.int .u64 (lm N 3)) from ⟨((bcell Q2.out).1 _ _ lv).trans v0, ((bcell Q2.out).1 _ _ lv).trans v1, ((bcell Q2.out).1 _ _ lv).trans v2, ((bcell Q2.out).1 _ _ lv).trans v3⟩); have P2 := hide (HP.out w2 hb2))
    | (go_at_call 44; (with_reducible refine (HA.out W.drew (bMe W).drew).mono ?_); rintro e w2 ⟨rfl, hb2⟩; have Q2 : Hid (Below W.heap.size W w2) := (bOn (bMe W).drew hb2); have Sw2 := hide (show w2.cell? ⟨g, 0, none⟩ = some (.int .u64 (lm N 0)) ∧ w2.cell? ⟨g, 1, none⟩ = some (.int .u64 (lm N 1)) ∧ w2.cell? ⟨g, 2, none⟩ = some (.int .u64 (lm N 2)) ∧ w2.cell? ⟨g, 3, none⟩ = some (.int .u64 (lm N 3)) from ⟨((bcell Q2.out).1 _ _ lv).trans v0, ((bcell Q2.out).1 _ _ lv).trans v1, ((bcell Q2.out).1 _ _ lv).trans v2, ((bcell Q2.out).1 _ _ lv).trans v3⟩))
    | (go_at_call 43; (with_reducible refine (HF.out (w2.alloc (.cells #[.int .u64 0, .int .u64 0, .int .u64 0, .int .u64 0] 55))).mono ?_); rintro e w3 ⟨rfl, hb3⟩; have Q3 : Hid (Below W.heap.size W w3) := (bOn (bAl Q2.out) hb3); have Sw3 := hide (show w3.cell? ⟨g, 0, none⟩ = some (.int .u64 (lm N 0)) ∧ w3.cell? ⟨g, 1, none⟩ = some (.int .u64 (lm N 1)) ∧ w3.cell? ⟨g, 2, none⟩ = some (.int .u64 (lm N 2)) ∧ w3.cell? ⟨g, 3, none⟩ = some (.int .u64 (lm N 3)) from ⟨((bcell Q3.out).1 _ _ lv).trans v0, ((bcell Q3.out).1 _ _ lv).trans v1, ((bcell Q3.out).1 _ _ lv).trans v2, ((bcell Q3.out).1 _ _ lv).trans v3⟩); have P3 := hide (((Own.new w2 0 0 0 0 55).of hb3.size (hb3.block _ (by simp)))); obtain ⟨p5, p0, p1, p2, p3, p4⟩ := P3.out)
    | (go_at_call 43; (with_reducible refine (HF.out w2).mono ?_); rintro e w3 ⟨rfl, hb3⟩; have Q3 : Hid (Below W.heap.size W w3) := (bOn Q2.out hb3); have Sw3 := hide (show w3.cell? ⟨g, 0, none⟩ = some (.int .u64 (lm N 0)) ∧ w3.cell? ⟨g, 1, none⟩ = some (.int .u64 (lm N 1)) ∧ w3.cell? ⟨g, 2, none⟩ = some (.int .u64 (lm N 2)) ∧ w3.cell? ⟨g, 3, none⟩ = some (.int .u64 (lm N 3)) from ⟨((bcell Q3.out).1 _ _ lv).trans v0, ((bcell Q3.out).1 _ _ lv).trans v1, ((bcell Q3.out).1 _ _ lv).trans v2, ((bcell Q3.out).1 _ _ lv).trans v3⟩); have P3 := hide (P2.out.of hb3.size (hb3.block _ P2.out.lt)); obtain ⟨p5, p0, p1, p2, p3, p4⟩ := P3.out)
    | (go_at_call 43; (with_reducible refine (HF.out w2).mono ?_); rintro e w3 ⟨rfl, hb3⟩; have Q3 : Hid (Below W.heap.size W w3) := (bOn Q2.out hb3); have Sw3 := hide (show w3.cell? ⟨g, 0, none⟩ = some (.int .u64 (lm N 0)) ∧ w3.cell? ⟨g, 1, none⟩ = some (.int .u64 (lm N 1)) ∧ w3.cell? ⟨g, 2, none⟩ = some (.int .u64 (lm N 2)) ∧ w3.cell? ⟨g, 3, none⟩ = some (.int .u64 (lm N 3)) from ⟨((bcell Q3.out).1 _ _ lv).trans v0, ((bcell Q3.out).1 _ _ lv).trans v1, ((bcell Q3.out).1 _ _ lv).trans v2, ((bcell Q3.out).1 _ _ lv).trans v3⟩))))
  all_goals clear HA HF HP
  all_goals first
    | (obtain ⟨w4, hw4⟩ : ∃ w4, (((w3.setCell ⟨W.heap.size, 0, none⟩ (.int .u64 (lm R 0))).setCell ⟨W.heap.size, 1, none⟩ (.int .u64 (lm R 1))).setCell ⟨W.heap.size, 2, none⟩ (.int .u64 (lm R 2))).setCell ⟨W.heap.size, 3, none⟩ (.int .u64 (lm R 3)) = w4 := ⟨_, rfl⟩; rw [hw4]; have ge : W.heap.size ≤ W.heap.size := Nat.le_refl _; have O4 := P3.out.put (lm R 0) (lm R 1) (lm R 2) (lm R 3); have B4 : Below W.heap.size W (put4 w3 (W.heap.size) (lm R 0) (lm R 1) (lm R 2) (lm R 3)) := put_below Q3.out ge; have T4 := hide (show (Below W.heap.size W w4 ∧ (w4.cell? ⟨g, 0, none⟩ = some (.int .u64 (lm N 0)) ∧ w4.cell? ⟨g, 1, none⟩ = some (.int .u64 (lm N 1)) ∧ w4.cell? ⟨g, 2, none⟩ = some (.int .u64 (lm N 2)) ∧ w4.cell? ⟨g, 3, none⟩ = some (.int .u64 (lm N 3))) ∧ w4.cell? ⟨W.heap.size, 0, none⟩ = some (.int .u64 (lm R 0)) ∧ w4.cell? ⟨W.heap.size, 1, none⟩ = some (.int .u64 (lm R 1)) ∧ w4.cell? ⟨W.heap.size, 2, none⟩ = some (.int .u64 (lm R 2)) ∧ w4.cell? ⟨W.heap.size, 3, none⟩ = some (.int .u64 (lm R 3))) from (by rw [← hw4]; exact ⟨B4, ⟨((bcell (hide B4).out).1 _ _ lv).trans v0, ((bcell (hide B4).out).1 _ _ lv).trans v1, ((bcell (hide B4).out).1 _ _ lv).trans v2, ((bcell (hide B4).out).1 _ _ lv).trans v3⟩, O4.c0, O4.c1, O4.c2, O4.c3⟩)); clear hw4 O4 B4)
    | (obtain ⟨w4, hw4⟩ : ∃ w4, (((w3.setCell ⟨w2.heap.size, 0, none⟩ (.int .u64 (lm R 0))).setCell ⟨w2.heap.size, 1, none⟩ (.int .u64 (lm R 1))).setCell ⟨w2.heap.size, 2, none⟩ (.int .u64 (lm R 2))).setCell ⟨w2.heap.size, 3, none⟩ (.int .u64 (lm R 3)) = w4 := ⟨_, rfl⟩; rw [hw4]; have ge : W.heap.size ≤ w2.heap.size := Q2.out.size; have O4 := P3.out.put (lm R 0) (lm R 1) (lm R 2) (lm R 3); have B4 : Below W.heap.size W (put4 w3 (w2.heap.size) (lm R 0) (lm R 1) (lm R 2) (lm R 3)) := put_below Q3.out ge; have T4 := hide (show (Below W.heap.size W w4 ∧ (w4.cell? ⟨g, 0, none⟩ = some (.int .u64 (lm N 0)) ∧ w4.cell? ⟨g, 1, none⟩ = some (.int .u64 (lm N 1)) ∧ w4.cell? ⟨g, 2, none⟩ = some (.int .u64 (lm N 2)) ∧ w4.cell? ⟨g, 3, none⟩ = some (.int .u64 (lm N 3))) ∧ w4.cell? ⟨w2.heap.size, 0, none⟩ = some (.int .u64 (lm R 0)) ∧ w4.cell? ⟨w2.heap.size, 1, none⟩ = some (.int .u64 (lm R 1)) ∧ w4.cell? ⟨w2.heap.size, 2, none⟩ = some (.int .u64 (lm R 2)) ∧ w4.cell? ⟨w2.heap.size, 3, none⟩ = some (.int .u64 (lm R 3))) from (by rw [← hw4]; exact ⟨B4, ⟨((bcell (hide B4).out).1 _ _ lv).trans v0, ((bcell (hide B4).out).1 _ _ lv).trans v1, ((bcell (hide B4).out).1 _ _ lv).trans v2, ((bcell (hide B4).out).1 _ _ lv).trans v3⟩, O4.c0, O4.c1, O4.c2, O4.c3⟩)); clear hw4 O4 B4)
    | (obtain ⟨w4, hw4⟩ : ∃ w4, w3.alloc (.cells #[.int .u64 (lm R 0), .int .u64 (lm R 1), .int .u64 (lm R 2), .int .u64 (lm R 3)] 55) = w4 := ⟨_, rfl⟩; rw [hw4]; have O4 := Lims.new w3 (lm R 0) (lm R 1) (lm R 2) (lm R 3) 55; have B4 : Below W.heap.size W (w3.alloc (.cells #[.int .u64 (lm R 0), .int .u64 (lm R 1), .int .u64 (lm R 2), .int .u64 (lm R 3)] 55)) := bAl Q3.out; have T4 := hide (show (Below W.heap.size W w4 ∧ (w4.cell? ⟨g, 0, none⟩ = some (.int .u64 (lm N 0)) ∧ w4.cell? ⟨g, 1, none⟩ = some (.int .u64 (lm N 1)) ∧ w4.cell? ⟨g, 2, none⟩ = some (.int .u64 (lm N 2)) ∧ w4.cell? ⟨g, 3, none⟩ = some (.int .u64 (lm N 3))) ∧ w4.cell? ⟨w3.heap.size, 0, none⟩ = some (.int .u64 (lm R 0)) ∧ w4.cell? ⟨w3.heap.size, 1, none⟩ = some (.int .u64 (lm R 1)) ∧ w4.cell? ⟨w3.heap.size, 2, none⟩ = some (.int .u64 (lm R 2)) ∧ w4.cell? ⟨w3.heap.size, 3, none⟩ = some (.int .u64 (lm R 3))) from (by rw [← hw4]; exact ⟨B4, ⟨((bcell (hide B4).out).1 _ _ lv).trans v0, ((bcell (hide B4).out).1 _ _ lv).trans v1, ((bcell (hide B4).out).1 _ _ lv).trans v2, ((bcell (hide B4).out).1 _ _ lv).trans v3⟩, O4.c0, O4.c1, O4.c2, O4.c3⟩)); clear hw4 O4 B4)
  all_goals
    have B4 := hide T4.out.1
    clear T4
    go_wp2
    go_ret
    exact ⟨rfl, bOn HBW.out B4.out⟩
set_option maxRecDepth 100000 in
set_option maxHeartbeats 1000000 in
theorem mint_yes {w : World} {S : Nat → Prop} {bj : Jk} {bb n : Nat} {h : Nat → Kvs} (B : Bk w S bj bb n h) {t p : Int} {N : Int} (ht : 0 ≤ t ∧ t < 256) (hp : 0 ≤ p ∧ p < 256) (hN : In N) (hn : n ≤ 9000) (hs : chk t [p] N = 0) (hsum : In (sup (h n) t + N)) :
    Calls Try.prog 20 #[.pointer (some ⟨bb, 0, none⟩), .int .u8 t, .int .u8 p, big N] w fun e w' => e = .returned (.int .i64 0) ∧ ∃ S' n' h', Bk w' S' bj bb n' h' ∧ Mv S S' w w' ∧ Nx n h n' h' (addB (t, p) N (h n)) 1 := by
  obtain ⟨W0, hW⟩ : ∃ W0, (w.alloc (.cells #[.int .u64 (lm N 0), .int .u64 (lm N 1), .int .u64 (lm N 2), .int .u64 (lm N 3)] 55)).alloc (.cells #[.int .u8 p] 5) = W0 := ⟨_, rfl⟩
  obtain ⟨g, hg⟩ : ∃ g, w.heap.size = g := ⟨_, rfl⟩
  have HB : Hid (Below w.heap.size w W0) := by rw [← hW]; exact bAl (bAl (bMe w))
  have V0 : Lims W0 g (lm N 0) (lm N 1) (lm N 2) (lm N 3) := by
    rw [← hW, ← hg]
    exact (Lims.new w (lm N 0) (lm N 1) (lm N 2) (lm N 3) 55).past _
  have hc : Calls Try.prog 42 #[big N, .int .u8 t, .slice (some ⟨g + 1, 0, none⟩) 1 1] W0 fun e w' => e = .returned (.int .i64 (chk t [p] N)) ∧ Below W0.heap.size W0 w' :=
    check_bk (ps := [p]) (fun i hi => by
      have : i = 0 := by simp at hi; omega
      subst this <;> (rw [← hW, ← hg]; simp [go_sem])) (fun i hi => by
      have : i = 0 := by simp at hi; omega
      subst this <;> (first | exact hp | exact hp)) (by rw [← hW, ← hg]; simp) (by simp) hN t
  have HV0 := hide V0
  have HBK0 := hide (B.below HB.out)
  have hk := hide (chk_kin ht.1 hs (List.mem_singleton.2 rfl) hp.1)
  obtain ⟨M, hM⟩ : ∃ M, sup (h n) t = M := ⟨_, rfl⟩
  have HM := hide hM
  have hMin : In M := hM ▸ (B.good n (Nat.le_refl n)).2.2 t
  have HSUM := hide hsum
  rw [hM] at hsum
  rw [hs] at hc
  have HF := hide (fun w' => huge_add_ok M N w' hMin hN hsum)
  obtain ⟨R, hR⟩ : ∃ R : Int, M + N = R := ⟨_, rfl⟩
  rw [hR] at HF
  clear hM hR hsum hMin
  have HC := hide hc
  have Hg := hide hg
  clear B hc V0
  go_enter Try.func20, Try.ntmps20
  go_wp2_with fail
  try rw [hW]
  try rw [hg]
  clear hW hg
  refine HC.out.mono ?_
  clear HC
  rintro e W ⟨rfl, hb⟩
  have HBK := hide (HBK0.out.below hb)
  have HBW := hide (bOn HB.out hb)
  obtain ⟨lv, v0, v1, v2, v3⟩ := HV0.out.below hb
  clear hb HBK0 HV0 HB
  have HA : Hid (∀ w', Below W.heap.size W w' → Calls Try.prog 44 #[.pointer (some ⟨bb, 0, none⟩), .int .u8 t] w' fun e w'' => e = .returned (big M) ∧ Below w'.heap.size w' w'') := fun w' hb => HM.out ▸ supply_any (HBK.out.below hb) ht
  have hz : W.heap.size = W.heap.size := rfl
  have HP : Hid (∀ w2, Below (W.alloc (.cells #[.int .u64 0, .int .u64 0, .int .u64 0, .int .u64 0] 55)).drew.heap.size (W.alloc (.cells #[.int .u64 0, .int .u64 0, .int .u64 0, .int .u64 0] 55)).drew w2 → Own w2 (W.heap.size) 0 0 0 0) := fun w2 hb2 => (Own.new W 0 0 0 0 55).of hb2.size (hb2.block _ (by show W.heap.size < (W.alloc _).heap.size; simp))
  go_wp2
  go_region_held3 (fun w' => w'.cell? ⟨g, 0, none⟩ = some (.int .u64 (lm N 0)) ∧ w'.cell? ⟨g, 1, none⟩ = some (.int .u64 (lm N 1)) ∧ w'.cell? ⟨g, 2, none⟩ = some (.int .u64 (lm N 2)) ∧ w'.cell? ⟨g, 3, none⟩ = some (.int .u64 (lm N 3))) (first | with_reducible exact ⟨v0, v1, v2, v3⟩ | with_reducible exact Sw3.out | with_reducible exact Sw2.out | (simp [go_sem, World.cell?_alloc_lt, v0, v1, v2, v3, lv, lv]; done) | (have hs := Sw3.out; have l1 := Nat.lt_of_lt_of_le lv Q3.out.size; have l2 := Nat.lt_of_lt_of_le lv Q3.out.size; have l3 : W.heap.size ≤ w3.heap.size := Q3.out.size; have l4 : W.heap.size ≤ w2.heap.size := Q2.out.size; have l5 : ¬ g = w2.heap.size := (by omega); have l6 : ¬ w2.heap.size = g := (by omega); simp [go_sem, World.cell?_alloc_lt, hs, l1, l2, l5, l6]; done) | (have hs := Sw2.out; have l1 := Nat.lt_of_lt_of_le lv Q2.out.size; have l2 := Nat.lt_of_lt_of_le lv Q2.out.size; simp [go_sem, World.cell?_alloc_lt, hs, l1, l2]; done)) ((first
    | (go_at_call 44; (with_reducible refine (HA.out (W.alloc (.cells #[.int .u64 0, .int .u64 0, .int .u64 0, .int .u64 0] 55)).drew (bAl (bMe W)).drew).mono ?_); rintro e w2 ⟨rfl, hb2⟩; have Q2 : Hid (Below W.heap.size W w2) := (bOn (bAl (bMe W)).drew hb2); have Sw2 := hide (show w2.cell? ⟨g, 0, none⟩ = some (.int .u64 (lm N 0)) ∧ w2.cell? ⟨g, 1, none⟩ = some (.int .u64 (lm N 1)) ∧ w2.cell? ⟨g, 2, none⟩ = some (.int .u64 (lm N 2)) ∧ w2.cell? ⟨g, 3, none⟩ = some (.int .u64 (lm N 3)) from ⟨((bcell Q2.out).1 _ _ lv).trans v0, ((bcell Q2.out).1 _ _ lv).trans v1, ((bcell Q2.out).1 _ _ lv).trans v2, ((bcell Q2.out).1 _ _ lv).trans v3⟩); have P2 := hide (HP.out w2 hb2))
    | (go_at_call 44; (with_reducible refine (HA.out W.drew (bMe W).drew).mono ?_); rintro e w2 ⟨rfl, hb2⟩; have Q2 : Hid (Below W.heap.size W w2) := (bOn (bMe W).drew hb2); have Sw2 := hide (show w2.cell? ⟨g, 0, none⟩ = some (.int .u64 (lm N 0)) ∧ w2.cell? ⟨g, 1, none⟩ = some (.int .u64 (lm N 1)) ∧ w2.cell? ⟨g, 2, none⟩ = some (.int .u64 (lm N 2)) ∧ w2.cell? ⟨g, 3, none⟩ = some (.int .u64 (lm N 3)) from ⟨((bcell Q2.out).1 _ _ lv).trans v0, ((bcell Q2.out).1 _ _ lv).trans v1, ((bcell Q2.out).1 _ _ lv).trans v2, ((bcell Q2.out).1 _ _ lv).trans v3⟩))
    | (go_at_call 43; (with_reducible refine (HF.out (w2.alloc (.cells #[.int .u64 0, .int .u64 0, .int .u64 0, .int .u64 0] 55))).mono ?_); rintro e w3 ⟨rfl, hb3⟩; have Q3 : Hid (Below W.heap.size W w3) := (bOn (bAl Q2.out) hb3); have Sw3 := hide (show w3.cell? ⟨g, 0, none⟩ = some (.int .u64 (lm N 0)) ∧ w3.cell? ⟨g, 1, none⟩ = some (.int .u64 (lm N 1)) ∧ w3.cell? ⟨g, 2, none⟩ = some (.int .u64 (lm N 2)) ∧ w3.cell? ⟨g, 3, none⟩ = some (.int .u64 (lm N 3)) from ⟨((bcell Q3.out).1 _ _ lv).trans v0, ((bcell Q3.out).1 _ _ lv).trans v1, ((bcell Q3.out).1 _ _ lv).trans v2, ((bcell Q3.out).1 _ _ lv).trans v3⟩); have P3 := hide (((Own.new w2 0 0 0 0 55).of hb3.size (hb3.block _ (by simp)))); obtain ⟨p5, p0, p1, p2, p3, p4⟩ := P3.out)
    | (go_at_call 43; (with_reducible refine (HF.out w2).mono ?_); rintro e w3 ⟨rfl, hb3⟩; have Q3 : Hid (Below W.heap.size W w3) := (bOn Q2.out hb3); have Sw3 := hide (show w3.cell? ⟨g, 0, none⟩ = some (.int .u64 (lm N 0)) ∧ w3.cell? ⟨g, 1, none⟩ = some (.int .u64 (lm N 1)) ∧ w3.cell? ⟨g, 2, none⟩ = some (.int .u64 (lm N 2)) ∧ w3.cell? ⟨g, 3, none⟩ = some (.int .u64 (lm N 3)) from ⟨((bcell Q3.out).1 _ _ lv).trans v0, ((bcell Q3.out).1 _ _ lv).trans v1, ((bcell Q3.out).1 _ _ lv).trans v2, ((bcell Q3.out).1 _ _ lv).trans v3⟩); have P3 := hide (P2.out.of hb3.size (hb3.block _ P2.out.lt)); obtain ⟨p5, p0, p1, p2, p3, p4⟩ := P3.out)
    | (go_at_call 43; (with_reducible refine (HF.out w2).mono ?_); rintro e w3 ⟨rfl, hb3⟩; have Q3 : Hid (Below W.heap.size W w3) := (bOn Q2.out hb3); have Sw3 := hide (show w3.cell? ⟨g, 0, none⟩ = some (.int .u64 (lm N 0)) ∧ w3.cell? ⟨g, 1, none⟩ = some (.int .u64 (lm N 1)) ∧ w3.cell? ⟨g, 2, none⟩ = some (.int .u64 (lm N 2)) ∧ w3.cell? ⟨g, 3, none⟩ = some (.int .u64 (lm N 3)) from ⟨((bcell Q3.out).1 _ _ lv).trans v0, ((bcell Q3.out).1 _ _ lv).trans v1, ((bcell Q3.out).1 _ _ lv).trans v2, ((bcell Q3.out).1 _ _ lv).trans v3⟩))))
  all_goals clear HA HF HP
  all_goals first
    | (obtain ⟨w4, hw4⟩ : ∃ w4, (((w3.setCell ⟨W.heap.size, 0, none⟩ (.int .u64 (lm R 0))).setCell ⟨W.heap.size, 1, none⟩ (.int .u64 (lm R 1))).setCell ⟨W.heap.size, 2, none⟩ (.int .u64 (lm R 2))).setCell ⟨W.heap.size, 3, none⟩ (.int .u64 (lm R 3)) = w4 := ⟨_, rfl⟩; rw [hw4]; have ge : W.heap.size ≤ W.heap.size := Nat.le_refl _; have O4 := P3.out.put (lm R 0) (lm R 1) (lm R 2) (lm R 3); have B4 : Below W.heap.size W (put4 w3 (W.heap.size) (lm R 0) (lm R 1) (lm R 2) (lm R 3)) := put_below Q3.out ge; have T4 := hide (show (Below W.heap.size W w4 ∧ (w4.cell? ⟨g, 0, none⟩ = some (.int .u64 (lm N 0)) ∧ w4.cell? ⟨g, 1, none⟩ = some (.int .u64 (lm N 1)) ∧ w4.cell? ⟨g, 2, none⟩ = some (.int .u64 (lm N 2)) ∧ w4.cell? ⟨g, 3, none⟩ = some (.int .u64 (lm N 3))) ∧ w4.cell? ⟨W.heap.size, 0, none⟩ = some (.int .u64 (lm R 0)) ∧ w4.cell? ⟨W.heap.size, 1, none⟩ = some (.int .u64 (lm R 1)) ∧ w4.cell? ⟨W.heap.size, 2, none⟩ = some (.int .u64 (lm R 2)) ∧ w4.cell? ⟨W.heap.size, 3, none⟩ = some (.int .u64 (lm R 3))) from (by rw [← hw4]; exact ⟨B4, ⟨((bcell (hide B4).out).1 _ _ lv).trans v0, ((bcell (hide B4).out).1 _ _ lv).trans v1, ((bcell (hide B4).out).1 _ _ lv).trans v2, ((bcell (hide B4).out).1 _ _ lv).trans v3⟩, O4.c0, O4.c1, O4.c2, O4.c3⟩)); clear hw4 O4 B4)
    | (obtain ⟨w4, hw4⟩ : ∃ w4, (((w3.setCell ⟨w2.heap.size, 0, none⟩ (.int .u64 (lm R 0))).setCell ⟨w2.heap.size, 1, none⟩ (.int .u64 (lm R 1))).setCell ⟨w2.heap.size, 2, none⟩ (.int .u64 (lm R 2))).setCell ⟨w2.heap.size, 3, none⟩ (.int .u64 (lm R 3)) = w4 := ⟨_, rfl⟩; rw [hw4]; have ge : W.heap.size ≤ w2.heap.size := Q2.out.size; have O4 := P3.out.put (lm R 0) (lm R 1) (lm R 2) (lm R 3); have B4 : Below W.heap.size W (put4 w3 (w2.heap.size) (lm R 0) (lm R 1) (lm R 2) (lm R 3)) := put_below Q3.out ge; have T4 := hide (show (Below W.heap.size W w4 ∧ (w4.cell? ⟨g, 0, none⟩ = some (.int .u64 (lm N 0)) ∧ w4.cell? ⟨g, 1, none⟩ = some (.int .u64 (lm N 1)) ∧ w4.cell? ⟨g, 2, none⟩ = some (.int .u64 (lm N 2)) ∧ w4.cell? ⟨g, 3, none⟩ = some (.int .u64 (lm N 3))) ∧ w4.cell? ⟨w2.heap.size, 0, none⟩ = some (.int .u64 (lm R 0)) ∧ w4.cell? ⟨w2.heap.size, 1, none⟩ = some (.int .u64 (lm R 1)) ∧ w4.cell? ⟨w2.heap.size, 2, none⟩ = some (.int .u64 (lm R 2)) ∧ w4.cell? ⟨w2.heap.size, 3, none⟩ = some (.int .u64 (lm R 3))) from (by rw [← hw4]; exact ⟨B4, ⟨((bcell (hide B4).out).1 _ _ lv).trans v0, ((bcell (hide B4).out).1 _ _ lv).trans v1, ((bcell (hide B4).out).1 _ _ lv).trans v2, ((bcell (hide B4).out).1 _ _ lv).trans v3⟩, O4.c0, O4.c1, O4.c2, O4.c3⟩)); clear hw4 O4 B4)
    | (obtain ⟨w4, hw4⟩ : ∃ w4, w3.alloc (.cells #[.int .u64 (lm R 0), .int .u64 (lm R 1), .int .u64 (lm R 2), .int .u64 (lm R 3)] 55) = w4 := ⟨_, rfl⟩; rw [hw4]; have O4 := Lims.new w3 (lm R 0) (lm R 1) (lm R 2) (lm R 3) 55; have B4 : Below W.heap.size W (w3.alloc (.cells #[.int .u64 (lm R 0), .int .u64 (lm R 1), .int .u64 (lm R 2), .int .u64 (lm R 3)] 55)) := bAl Q3.out; have T4 := hide (show (Below W.heap.size W w4 ∧ (w4.cell? ⟨g, 0, none⟩ = some (.int .u64 (lm N 0)) ∧ w4.cell? ⟨g, 1, none⟩ = some (.int .u64 (lm N 1)) ∧ w4.cell? ⟨g, 2, none⟩ = some (.int .u64 (lm N 2)) ∧ w4.cell? ⟨g, 3, none⟩ = some (.int .u64 (lm N 3))) ∧ w4.cell? ⟨w3.heap.size, 0, none⟩ = some (.int .u64 (lm R 0)) ∧ w4.cell? ⟨w3.heap.size, 1, none⟩ = some (.int .u64 (lm R 1)) ∧ w4.cell? ⟨w3.heap.size, 2, none⟩ = some (.int .u64 (lm R 2)) ∧ w4.cell? ⟨w3.heap.size, 3, none⟩ = some (.int .u64 (lm R 3))) from (by rw [← hw4]; exact ⟨B4, ⟨((bcell (hide B4).out).1 _ _ lv).trans v0, ((bcell (hide B4).out).1 _ _ lv).trans v1, ((bcell (hide B4).out).1 _ _ lv).trans v2, ((bcell (hide B4).out).1 _ _ lv).trans v3⟩, O4.c0, O4.c1, O4.c2, O4.c3⟩)); clear hw4 O4 B4)
  all_goals
    obtain ⟨b4, ⟨y0, y1, y2, y3⟩, _⟩ := T4.out
    have HG := hide (give_bk (k := (t, p)) (HBK.out.below b4) hk.out hN (by omega) HSUM.out)
    have B4 := hide b4
    clear b4 T4
    go_wp2_with fail
    refine HG.out.mono ?_
    clear HG
    rintro e w5 ⟨rfl, hres⟩
    have HR := hide hres
    clear hres
    go_wp2
    go_ret
    obtain ⟨S', n', h', x1, x2, x3⟩ := HR.out
    exact ⟨rfl, S', n', h', x1, (Mv.of (bOn HBW.out B4.out)).trans x2, x3⟩
end Go.Proofs.Ytncnilplmklccaa
