/- The contracts of book's at, Balance and put over this translation (gen-bkat.py). -/
import Derived.Test.YtncnilplmklccaaBkState
import Derived.Test.YtncnilplmklccaaOwn
namespace Go.Proofs.Ytncnilplmklccaa
set_option linter.unusedSimpArgs false
set_option linter.unusedVariables false
open Go.RowKit Go.Lib
attribute [local go_sem] setCell_drewN alloc_drewN

/-- A key's box. -/
structure KBox (w : World) (g : Nat) (k : Kk) : Prop where
  lt : g < w.heap.size
  c0 : w.cell? ⟨g, 0, none⟩ = some (.int .u8 k.1)
  c1 : w.cell? ⟨g, 1, none⟩ = some (.int .u8 k.2)
theorem KBox.new (w : World) (k : Kk) : KBox (w.alloc (.cells #[.int .u8 k.1, .int .u8 k.2] 96)) w.heap.size k := ⟨by simp, by simp [go_sem], by simp [go_sem]⟩
theorem KBox.below {w w' : World} {g : Nat} {k : Kk} (h : KBox w g k) (hb : Below w.heap.size w w') : KBox w' g k :=
  ⟨Nat.lt_of_lt_of_le h.lt hb.size, ((bcell hb).1 _ _ h.lt).trans h.c0, ((bcell hb).1 _ _ h.lt).trans h.c1⟩
theorem KBox.past {w : World} {g : Nat} {k : Kk} (h : KBox w g k) (o : Obj) : KBox (w.alloc o) g k := h.below (bAl (bMe w))
/-- What is under a key: at. -/
theorem get_bk {w : World} {S : Nat → Prop} {bj : Jk} {bb n : Nat} {h : Nat → Kvs} (B : Bk w S bj bb n h) {a : Nat} (hc : w.cell? ⟨bb, 0, none⟩ = some (.pointer (some ⟨a, 0, none⟩))) {k : Kk} (hk : Kok k) :
    Calls Try.prog 61 #[.pointer (some ⟨a, 0, none⟩), .agg #[.int .u8 k.1, .int .u8 k.2]] w fun e w' => ∃ FB, e = .returned (.tuple #[.agg #[.int .u64 (lm (bal (h n) k) 0), .int .u64 (lm (bal (h n) k) 1), .int .u64 (lm (bal (h n) k) 2), .int .u64 (lm (bal (h n) k) 3)], .bool FB]) ∧ Below w.heap.size w w' := by
  obtain ⟨⟨Z, mb, X, ds, hs, e, hh, _, hc'⟩, mem, far, stay, good⟩ := B
  rw [hc] at hc'
  cases hc'
  have hX : X bj.a = h n := by
    have := hh n (Nat.le_refl n)
    rw [← e, List.drop_length, undoN_nil] at this
    rw [← e]
    exact this
  have := get_any hs mem hk
  rw [hX, bal_fv] at this
  exact this.mono fun e w' ⟨q1, q2⟩ => ⟨_, q1, q2⟩
theorem Bk.box {w : World} {S : Nat → Prop} {bj : Jk} {bb n : Nat} {h : Nat → Kvs} (B : Bk w S bj bb n h) : ∃ a, w.cell? ⟨bb, 0, none⟩ = some (.pointer (some ⟨a, 0, none⟩)) := by
  obtain ⟨⟨Z, mb, X, ds, hs, e, hh, _, hc'⟩, mem, far, stay, good⟩ := B
  exact ⟨bj.a, hc'⟩
set_option maxRecDepth 100000 in
set_option maxHeartbeats 4000000 in
theorem at_any' {w : World} {S : Nat → Prop} {bj : Jk} {bb n : Nat} {h : Nat → Kvs} (B : Bk w S bj bb n h) {k : Kk} (hk : Kok k) :
    Calls Try.prog 46 #[.pointer (some ⟨bb, 0, none⟩), .agg #[.int .u8 k.1, .int .u8 k.2]] w fun e w' => e = .returned (big (bal (h n) k)) ∧ Below w.heap.size w w' := by
  obtain ⟨a, ca⟩ := B.box
  obtain ⟨W, hW⟩ : ∃ W, (w.alloc (.cells #[.int .u8 k.1, .int .u8 k.2] 96)).alloc (.cells #[.int .u64 0, .int .u64 0, .int .u64 0, .int .u64 0] 55) = W := ⟨_, rfl⟩
  obtain ⟨g, hg⟩ : ∃ g, w.heap.size = g := ⟨_, rfl⟩
  have lb := B.lt
  have HB : Hid (Below w.heap.size w W) := by rw [← hW]; exact bAl (bAl (bMe w))
  have KB : KBox W g k := by rw [← hW, ← hg]; exact (KBox.new w k).past _
  have OZ : Own W (g + 1) 0 0 0 0 := by rw [← hW, ← hg]; exact ⟨by simp, by simp [go_sem], by simp [go_sem], by simp [go_sem], by simp [go_sem], fun o => by simp [go_sem]⟩
  have hz : W.heap.size = g + 2 := by rw [← hW, ← hg]; simp
  have ca2 : W.cell? ⟨bb, 0, none⟩ = some (.pointer (some ⟨a, 0, none⟩)) := ((bcell HB.out).1 _ _ lb).trans ca
  have BW := B.below HB.out
  have HG : Hid (∀ w', Below W.heap.size W w' → Calls Try.prog 61 #[.pointer (some ⟨a, 0, none⟩), .agg #[.int .u8 k.1, .int .u8 k.2]] w' fun e w'' => ∃ FB, e = .returned (.tuple #[.agg #[.int .u64 (lm (bal (h n) k) 0), .int .u64 (lm (bal (h n) k) 1), .int .u64 (lm (bal (h n) k) 2), .int .u64 (lm (bal (h n) k) 3)], .bool FB]) ∧ Below w'.heap.size w' w'') := fun w' hb => get_bk (BW.below hb) ((bcell hb).1 _ _ BW.lt |>.trans ca2) hk
  have HOZ := hide OZ
  have HP : Hid (∀ w2, Below (W.alloc (.cells #[.int .u64 0, .int .u64 0, .int .u64 0, .int .u64 0] 55)).drew.heap.size (W.alloc (.cells #[.int .u64 0, .int .u64 0, .int .u64 0, .int .u64 0] 55)).drew w2 → Own w2 (g + 2) 0 0 0 0) := fun w2 hb2 => hz ▸ (Own.new W 0 0 0 0 55).of hb2.size (hb2.block _ (by show W.heap.size < (W.alloc _).heap.size; simp))
  have lbW := BW.lt
  obtain ⟨k0, k1⟩ : W.cell? ⟨g, 0, none⟩ = some (.int .u8 k.1) ∧ W.cell? ⟨g, 1, none⟩ = some (.int .u8 k.2) := ⟨KB.c0, KB.c1⟩
  have lgW := KB.lt
  have HW := hide hW
  have Hg := hide hg
  clear B BW ca KB OZ lb
  generalize hN : bal (h n) k = N at *
  clear hN
  go_enter Try.func46, Try.ntmps46
  go_wp2
  try rw [hW]
  try rw [hg]
  clear hW hg
  go_region_held3 (fun w' => w'.cell? ⟨bb, 0, none⟩ = some (.pointer (some ⟨a, 0, none⟩)) ∧ w'.cell? ⟨g, 0, none⟩ = some (.int .u8 k.1) ∧ w'.cell? ⟨g, 1, none⟩ = some (.int .u8 k.2)) (first | with_reducible exact ⟨ca2, k0, k1⟩ | with_reducible exact S2.out | (simp [go_sem, World.cell?_alloc_lt, ca2, k0, k1, lbW, lgW]; done) | (have hs2 := S2.out; simp [go_sem, World.cell?_alloc_lt, hs2.1, hs2.2.1, hs2.2.2, l2]; done) | (have hs2 := S2.out; simp [go_sem, World.cell?_alloc_lt, hs2.1, hs2.2.1, hs2.2.2, l2, l3, l4]; done) | trace_state) (first | (go_at_call 61; (with_reducible refine (HG.out (W.alloc (.cells #[.int .u64 0, .int .u64 0, .int .u64 0, .int .u64 0] 55)).drew (bAl (bMe W)).drew).mono ?_); rintro e w2 ⟨FB, rfl, hb2⟩; have HQ : Hid (Below W.heap.size W w2) := (bOn (bAl (bMe W)).drew hb2); have S2 := hide (show w2.cell? ⟨bb, 0, none⟩ = some (.pointer (some ⟨a, 0, none⟩)) ∧ w2.cell? ⟨g, 0, none⟩ = some (.int .u8 k.1) ∧ w2.cell? ⟨g, 1, none⟩ = some (.int .u8 k.2) from ⟨((bcell HQ.out).1 _ _ lbW).trans ca2, ((bcell HQ.out).1 _ _ lgW).trans k0, ((bcell HQ.out).1 _ _ lgW).trans k1⟩); obtain ⟨o5, o0, o1, o2, o3, o4⟩ := HOZ.out.of HQ.out.size (HQ.out.block _ HOZ.out.lt); have l2 : g < w2.heap.size := Nat.lt_of_lt_of_le lgW HQ.out.size; have l3 : bb < w2.heap.size := Nat.lt_of_lt_of_le lbW HQ.out.size; have l4 : g + 2 ≤ w2.heap.size := Nat.le_trans (Nat.le_of_eq hz.symm) HQ.out.size; obtain ⟨p5, p0, p1, p2, p3, p4⟩ := HP.out w2 hb2) | (go_at_call 61; (with_reducible refine (HG.out W.drew (bMe W).drew).mono ?_); rintro e w2 ⟨FB, rfl, hb2⟩; have HQ : Hid (Below W.heap.size W w2) := (bOn (bMe W).drew hb2); have S2 := hide (show w2.cell? ⟨bb, 0, none⟩ = some (.pointer (some ⟨a, 0, none⟩)) ∧ w2.cell? ⟨g, 0, none⟩ = some (.int .u8 k.1) ∧ w2.cell? ⟨g, 1, none⟩ = some (.int .u8 k.2) from ⟨((bcell HQ.out).1 _ _ lbW).trans ca2, ((bcell HQ.out).1 _ _ lgW).trans k0, ((bcell HQ.out).1 _ _ lgW).trans k1⟩); obtain ⟨o5, o0, o1, o2, o3, o4⟩ := HOZ.out.of HQ.out.size (HQ.out.block _ HOZ.out.lt); have l2 : g < w2.heap.size := Nat.lt_of_lt_of_le lgW HQ.out.size; have l3 : bb < w2.heap.size := Nat.lt_of_lt_of_le lbW HQ.out.size; have l4 : g + 2 ≤ w2.heap.size := Nat.le_trans (Nat.le_of_eq hz.symm) HQ.out.size))
  all_goals clear HP HG
  all_goals go_wp2
  all_goals refine bodyPost_ret (v := big N) (by simp [results, Try.results46, go_sem, o0, o1, o2, o3, o5, World.cell?_alloc_lt, World.size_setCell, l4]) rfl ⟨rfl, ?_⟩
  all_goals
    have q := bOn HB.out HQ.out
    have g1 : w.heap.size ≤ g + 1 := by rw [Hg.out]; omega
    have g2 : w.heap.size ≤ g + 2 := by rw [Hg.out]; omega
    first | with_reducible exact bAl (put_below q g1) | with_reducible exact put_below (put_below q g2) g1 | with_reducible exact put_below (bAl q) g1
theorem balance_any {w : World} {S : Nat → Prop} {bj : Jk} {bb n : Nat} {h : Nat → Kvs} (B : Bk w S bj bb n h) {k : Kk} (hk : Kok k) :
    Calls Try.prog 23 #[.pointer (some ⟨bb, 0, none⟩), .int .u8 k.1, .int .u8 k.2] w fun e w' => e = .returned (big (bal (h n) k)) ∧ Below w.heap.size w w' := by
  have hb0 : Hid (Below w.heap.size w (w.alloc (.cells #[.int .u64 0, .int .u64 0, .int .u64 0, .int .u64 0] 55))) := bAl (bMe w)
  have HA := hide (at_any' (B.below hb0.out) hk)
  generalize hN : bal (h n) k = N at *
  clear B hN
  go_enter Try.func23, Try.ntmps23
  go_wp2_with fail
  refine HA.out.mono ?_
  clear HA
  rintro e w2 ⟨rfl, hb⟩
  obtain ⟨o5, o0, o1, o2, o3, o4⟩ := (Own.new w 0 0 0 0 55).of hb.size (hb.block _ (by simp))
  have HQ := hide (bOn hb0.out hb)
  clear hb hb0
  obtain ⟨g, hg⟩ : ∃ g, w.heap.size = g := ⟨_, rfl⟩
  have hle : w.heap.size ≤ g := Nat.le_of_eq hg
  rw [hg] at o5 o0 o1 o2 o3 o4
  have Hg := hide (And.intro hg hle)
  rw [hg]
  clear hg hle
  go_wp2
  refine bodyPost_ret (v := big N) (by simp [results, Try.results23, go_sem, o0, o1, o2, o3, o5]) rfl ⟨rfl, ?_⟩
  rw [← Hg.out.1] at *
  exact put_below HQ.out (Nat.le_refl _)
end Go.Proofs.Ytncnilplmklccaa
