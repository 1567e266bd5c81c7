/- The contract of stage's Drop over this translation. -/
import Derived.Test.YtncnilplmklccaaBkSet
namespace Go.Proofs.Ytncnilplmklccaa
set_option linter.unusedSimpArgs false
set_option linter.unusedVariables false
set_option linter.unusedSectionVars false
open Go.RowKit Go.Lib
attribute [local go_sem] setCell_drewN alloc_drewN

set_option maxRecDepth 100000 in
set_option maxHeartbeats 2000000 in
theorem dropNone_any {w : World} {S Z : Nat → Prop} {bj : Jb} {A : List Nat} {mb : Nat → Nat} {X : Nat → Kvs} {ds : Deeds} (hs : St w S Z bj A mb X ds) {a : Nat} (ha : a ∈ A) {k : Kk} (hk : Kok k) (hn : getL k (X a) = none) :
    Calls Try.prog 67 #[.pointer (some ⟨a, 0, none⟩), .agg #[.int .u8 k.1, .int .u8 k.2]] w fun e w' => e = .returned (.bool false) ∧ Below w.heap.size w w' := by
  have hb0 : Hid (Below w.heap.size w ((w.alloc (.cells #[.pointer (some ⟨a, 0, none⟩)] 98)).alloc (.cells #[.int .u8 k.1, .int .u8 k.2] 96))) := bAl (bAl (bMe w))
  have hf := find_any (hs.below hb0.out) ha hk
  rw [(fk_none hn).1, (fk_none hn).2.1, (fk_none hn).2.2] at hf
  have HF := hide hf
  clear hs hf
  go_enter Try.func67, Try.ntmps67
  go_wp2_with (go_at_call 69; refine HF.out.mono ?_; clear HF; rintro e w1 ⟨rfl, hb1⟩)
  go_ret
  exact ⟨rfl, bAl (bOn hb0.out hb1)⟩
set_option maxRecDepth 100000 in
set_option maxHeartbeats 2000000 in
theorem dropSome_any {w : World} {S Z : Nat → Prop} {bj : Jb} {A : List Nat} {mb : Nat → Nat} {X : Nat → Kvs} {ds : Deeds} (hs : St w S Z bj A mb X ds) {a : Nat} (ha : a ∈ A) {k : Kk} {v : Nm} (hk : Kok k) (hn : getL k (X a) = some v) (hds : ds.length ≤ 100000) :
    Calls Try.prog 67 #[.pointer (some ⟨a, 0, none⟩), .agg #[.int .u8 k.1, .int .u8 k.2]] w fun e w' => e = .returned (.bool true) ∧ ∃ S' Z', St w' S' Z' bj A mb (upX X a (delL k (X a))) (ds ++ [⟨a, k, some v⟩]) ∧ Mv S S' w w' := by
  have hmf : ∀ (fn : Fn) (first cap : Array Value) (w : World), (Instr.makeFunc fn first cap).run Try.prog w = .ok (.func fn first cap) w := fun _ _ _ _ => rfl
  have HS := hide hs
  have hb0 : Hid (Below w.heap.size w ((w.alloc (.cells #[.pointer (some ⟨a, 0, none⟩)] 98)).alloc (.cells #[.int .u8 k.1, .int .u8 k.2] 96))) := bAl (bAl (bMe w))
  have hf := find_any (hs.below hb0.out) ha hk
  rw [(fk_some hn).1, (fk_some hn).2.1, (fk_some hn).2.2] at hf
  have HF := hide hf
  clear hs hf
  go_enter Try.func67, Try.ntmps67
  go_wp2_with (go_at_call 69; refine HF.out.mono ?_; clear HF; rintro e w1 ⟨rfl, hb1⟩)
  obtain ⟨w2, hw2⟩ : ∃ w2, w1.alloc (.cells #[.int .u8 k.1, .int .u8 k.2, .int .u64 (lm v.1 0), .int .u64 (lm v.1 1), .int .u64 (lm v.1 2), .int .u64 (lm v.1 3)] 128) = w2 := ⟨_, rfl⟩
  rw [hw2]
  obtain ⟨g, hg⟩ : ∃ g, w1.heap.size = g := ⟨_, rfl⟩
  obtain ⟨g0, hg0⟩ : ∃ g0, w.heap.size = g0 := ⟨_, rfl⟩
  have Z1 : Hid (g0 + 2 ≤ g ∧ w2.heap.size = g + 1) := by have := hb1.size; rw [← hw2]; refine ⟨?_, ?_⟩ <;> simp at this ⊢ <;> omega
  have B2 : Hid (Below w.heap.size w w2) := by rw [← hw2]; exact bAl (bOn hb0.out hb1)
  have S2 := hide (HS.out.below B2.out)
  have C2 : Hid (w2.cell? ⟨g0, 0, none⟩ = some (.pointer (some ⟨a, 0, none⟩)) ∧ Cs w2 (g0 + 1) (kC k) ∧ Cs w2 g (xC k v.1)) := by
    have hz : w.heap.size + 1 < w1.heap.size := by have := hb1.size; simp at this; omega
    have hc := bcell hb1
    subst hg hg0
    rw [← hw2]
    have old : ∀ b o, b < w.heap.size + 2 → (w1.alloc (.cells #[.int .u8 k.1, .int .u8 k.2, .int .u64 (lm v.1 0), .int .u64 (lm v.1 1), .int .u64 (lm v.1 2), .int .u64 (lm v.1 3)] 128)).cell? ⟨b, o, none⟩ = ((w.alloc (.cells #[.pointer (some ⟨a, 0, none⟩)] 98)).alloc (.cells #[.int .u8 k.1, .int .u8 k.2] 96)).cell? ⟨b, o, none⟩ := fun b o hb => by
      rw [← hc.1 _ _ (by simp; omega)]
      exact (bcell (bAl (bMe w1))).1 _ _ (by omega)
    refine ⟨?_, .mk2 ?_ ?_, .mk6 ?_ ?_ ?_ ?_ ?_ ?_⟩
    · rw [old _ _ (by omega)]; simp [go_sem]
    · rw [old _ _ (by omega)]; simp [go_sem]
    · rw [old _ _ (by omega)]; simp [go_sem]
    all_goals simp [go_sem]
  have HG := hide hg
  have HG0 := hide hg0
  rw [hg, hg0]
  clear hb1 hw2 hg hg0 hb0
  obtain ⟨c0, ck, c2⟩ := C2.out
  obtain ⟨k0, k1⟩ := ck.two
  have ca := (S2.out.box a ha).2.2.c2
  have cj := (S2.out.box a ha).2.2.c0
  have hm := S2.out.map a ha
  have hL := S2.out.srt a
  have hmd : MapIs encS w2.drew (mb a) (X a) := hm
  have HM := hide hm
  have HT := fun (w3 : World) (hg3 : w2.drew.grownBy w3 (some (mb a))) => hide (show ∀ b o u, w2.cell? ⟨b, o, none⟩ = some u → w3.cell? ⟨b, o, none⟩ = some u from fun b o u h => cell_turned HM.out (grown_drew hg3) h)
  have HCT := hide HT
  clear hm c2 ck HT
  go_region_held3 (fun w' => w'.cell? ⟨g0, 0, none⟩ = some (.pointer (some ⟨a, 0, none⟩)) ∧ w'.cell? ⟨a, 2, none⟩ = some (.map (some (mb a))) ∧ w'.cell? ⟨g0 + 1, 0, none⟩ = some (.int .u8 k.1) ∧ w'.cell? ⟨g0 + 1, 1, none⟩ = some (.int .u8 k.2)) (first | exact ⟨c0, ca, k0, k1⟩ | exact ⟨(HCT.out _ hg3).out _ _ _ c0, (HCT.out _ hg3).out _ _ _ ca, (HCT.out _ hg3).out _ _ _ k0, (HCT.out _ hg3).out _ _ _ k1⟩) ((refine step_mdel rfl _ _ rfl rfl rfl hmd hk ?_; intro w3 hm3 hg3))
  have tc := (HCT.out w3 hg3).out
  have C3 : Hid (w3.cell? ⟨g0, 0, none⟩ = some (.pointer (some ⟨a, 0, none⟩)) ∧ Cs w3 (g0 + 1) (kC k) ∧ Cs w3 g (xC k v.1) ∧ w3.cell? ⟨a, 2, none⟩ = some (.map (some (mb a))) ∧ w3.cell? ⟨a, 0, none⟩ = some (.pointer (some ⟨bj.b, 0, none⟩))) :=
    ⟨tc _ _ _ c0, fun i u hu => tc _ _ _ (C2.out.2.1 i u hu), fun i u hu => tc _ _ _ (C2.out.2.2 i u hu), tc _ _ _ ca, tc _ _ _ cj⟩
  have S3 := hide (S2.out.turn ha hm3 (hL.del kyKey) (grown_drew hg3))
  have Z3 : Hid (w2.heap.size ≤ w3.heap.size) := hg3.size
  clear hm3 hg3 hmd hL HCT tc
  have hlow := HS.out.low
  have z1 := Z1.out
  have z3 := Z3.out
  have hg0 := HG0.out
  have S4 := S3.out.1.boxes (N := fun j => j = g0 ∨ j = g0 + 1 ∨ j = g) (fun j hj => ⟨fun hs => by have := hlow j hs; omega, by omega⟩)
  have M4 : Hid (Mv S (fun j => S j ∨ (j = g0 ∨ j = g0 + 1 ∨ j = g)) w w3) := ((Mv.of B2.out).trans S3.out.2).more fun j hj => by omega
  obtain ⟨vj, us, q1, q2, q3, q4, q5, q6⟩ := S4.didWith
  have hus : us.length ≤ 1000000 := by omega
  have Q6 := hide q6
  have HD := fun fn af ac => hide (did_any (fn := fn) (af := af) (ac := ac) q1 q2 q3 q4 hus)
  have d0 := C3.out.1
  have d6 := C3.out.2.2.2.2
  clear q6 S4 q1 q2 q3 q4 q5 hus hlow z1 z3 hg0 c0 k0 k1 ca cj
  go_wp2_with (go_at_call 40; refine (HD _ _ _).out.mono ?_; clear HD; rintro e w4 ⟨rfl, D⟩)
  go_ret
  obtain ⟨S', p1, p2⟩ := Q6.out w4 _ ⟨a, k, some v⟩ D (.inr ⟨g, g0, g0 + 1, v, rfl, ⟨.inr (by simp), .inr (by simp), .inr (by simp)⟩, rfl, C3.out.2.2.1, C3.out.1, C3.out.2.1⟩) ⟨ha, hk⟩
  exact ⟨rfl, S', _, p1, M4.out.trans p2⟩
end Go.Proofs.Ytncnilplmklccaa
