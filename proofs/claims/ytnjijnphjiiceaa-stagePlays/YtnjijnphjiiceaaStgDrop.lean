/- The contract of stage's Drop over this translation. -/
import Derived.Test.YtnjijnphjiiceaaStgSet
namespace Go.Proofs.Ytnjijnphjiiceaa
set_option linter.unusedSimpArgs false
set_option linter.unusedVariables false
set_option linter.unusedSectionVars false
open Go.RowKit Go.Lib
attribute [local go_sem] setCell_drewN alloc_drewN

set_option maxHeartbeats 2000000 in
theorem dropNone_any {w : World} {S Z : Nat → Prop} {bj : Nat} {A : List Nat} {mb : Nat → Nat} {X : Nat → Kvs} {ds : Deeds} (hs : St w S Z bj A mb X ds) {a : Nat} (ha : a ∈ A) {k : Int} (hk : (Lit.int .i64 k).wf = true) (hn : getL k (X a) = none) :
    Calls Try.prog 12 #[.pointer (some ⟨a, 0, none⟩), .int .i64 k] w fun e w' => e = .returned (.bool false) ∧ Below w.heap.size w w' := by
  have hb0 : Hid (Below w.heap.size w ((w.alloc (.cells #[.pointer (some ⟨a, 0, none⟩)] 28)).alloc (.cells #[.int .i64 k] 3))) := bAl (bAl (bMe w))
  have hf := find_any (hs.below hb0.out) ha hk
  rw [(fk_none hn).1, (fk_none hn).2.1, (fk_none hn).2.2] at hf
  have HF := hide hf
  clear hs hf
  go_enter Try.func12, Try.ntmps12
  go_wp2_with (go_at_call 26; refine HF.out.mono ?_; clear HF; rintro e w1 ⟨rfl, hb1⟩)
  go_ret
  exact ⟨rfl, bAl (bOn hb0.out hb1)⟩
set_option maxHeartbeats 2000000 in
theorem dropSome_any {w : World} {S Z : Nat → Prop} {bj : Nat} {A : List Nat} {mb : Nat → Nat} {X : Nat → Kvs} {ds : Deeds} (hs : St w S Z bj A mb X ds) {a : Nat} (ha : a ∈ A) {k v : Int} (hk : (Lit.int .i64 k).wf = true) (hn : getL k (X a) = some v) (hds : ds.length ≤ 100000) :
    Calls Try.prog 12 #[.pointer (some ⟨a, 0, none⟩), .int .i64 k] w fun e w' => e = .returned (.bool true) ∧ ∃ S' Z', St w' S' Z' bj A mb (upX X a (delL k (X a))) (ds ++ [⟨a, k, some v⟩]) ∧ Mv S S' w w' := by
  have hmf : ∀ (fn : Fn) (first cap : Array Value) (w : World), (Instr.makeFunc fn first cap).run Try.prog w = .ok (.func fn first cap) w := fun _ _ _ _ => rfl
  have HS := hide hs
  have hb0 : Hid (Below w.heap.size w ((w.alloc (.cells #[.pointer (some ⟨a, 0, none⟩)] 28)).alloc (.cells #[.int .i64 k] 3))) := bAl (bAl (bMe w))
  have hf := find_any (hs.below hb0.out) ha hk
  rw [(fk_some hn).1, (fk_some hn).2.1, (fk_some hn).2.2] at hf
  have HF := hide hf
  clear hs hf
  go_enter Try.func12, Try.ntmps12
  go_wp2_with (go_at_call 26; refine HF.out.mono ?_; clear HF; rintro e w1 ⟨rfl, hb1⟩)
  obtain ⟨w2, hw2⟩ : ∃ w2, w1.alloc (.cells #[.int .i64 k, .int .i64 v] 64) = w2 := ⟨_, rfl⟩
  rw [hw2]
  obtain ⟨g, hg⟩ : ∃ g, w1.heap.size = g := ⟨_, rfl⟩
  obtain ⟨g0, hg0⟩ : ∃ g0, w.heap.size = g0 := ⟨_, rfl⟩
  have Z1 : Hid (g0 + 2 ≤ g ∧ w2.heap.size = g + 1) := by have := hb1.size; rw [← hw2]; refine ⟨?_, ?_⟩ <;> simp at this ⊢ <;> omega
  have B2 : Hid (Below w.heap.size w w2) := by rw [← hw2]; exact bAl (bOn hb0.out hb1)
  have S2 := hide (HS.out.below B2.out)
  have C2 : Hid (w2.cell? ⟨g0, 0, none⟩ = some (.pointer (some ⟨a, 0, none⟩)) ∧ w2.cell? ⟨g0 + 1, 0, none⟩ = some (.int .i64 k) ∧ w2.cell? ⟨g, 0, none⟩ = some (.int .i64 (k)) ∧ w2.cell? ⟨g, 1, none⟩ = some (.int .i64 (v))) := by
    have hz : w.heap.size + 1 < w1.heap.size := by have := hb1.size; simp at this; omega
    have hc := bcell hb1
    subst hg hg0
    rw [← hw2]
    have e0 : w1.cell? ⟨w.heap.size, 0, none⟩ = some (.pointer (some ⟨a, 0, none⟩)) := by rw [hc.1 _ _ (by simp; omega)]; simp [go_sem]
    have e1 : w1.cell? ⟨w.heap.size + 1, 0, none⟩ = some (.int .i64 k) := by rw [hc.1 _ _ (by simp)]; simp [go_sem]
    refine ⟨?_, ?_, ?_, ?_⟩
    · exact (bcell (bAl (bMe w1))).1 _ _ (by omega) |>.trans e0
    · exact (bcell (bAl (bMe w1))).1 _ _ (by omega) |>.trans e1
    · simp [go_sem]
    · simp [go_sem]
  have HG := hide hg
  have HG0 := hide hg0
  rw [hg, hg0]
  clear hb1 hw2 hg hg0 hb0
  obtain ⟨c0, c1, c2, c3⟩ := C2.out
  have ca := (S2.out.box a ha).2.2.c2
  have cj := (S2.out.box a ha).2.2.c0
  have hm := S2.out.map a ha
  have hL := S2.out.srt a
  have hmd : MapIs encS w2.drew (mb a) (X a) := hm
  have HM := hide hm
  have CT := fun (w3 : World) (hg3 : w2.drew.grownBy w3 (some (mb a))) => hide (show w3.cell? ⟨g0, 0, none⟩ = some (.pointer (some ⟨a, 0, none⟩)) ∧ w3.cell? ⟨g0 + 1, 0, none⟩ = some (.int .i64 k) ∧ w3.cell? ⟨g, 0, none⟩ = some (.int .i64 k) ∧ w3.cell? ⟨g, 1, none⟩ = some (.int .i64 v) ∧ w3.cell? ⟨a, 2, none⟩ = some (.map (some (mb a))) ∧ w3.cell? ⟨a, 0, none⟩ = some (.pointer (some ⟨bj, 0, none⟩)) from
    ⟨cell_turned HM.out (grown_drew hg3) c0, cell_turned HM.out (grown_drew hg3) c1, cell_turned HM.out (grown_drew hg3) c2, cell_turned HM.out (grown_drew hg3) c3, cell_turned HM.out (grown_drew hg3) ca, cell_turned HM.out (grown_drew hg3) cj⟩)
  have HCT := hide CT
  clear hm c2 c3 CT
  go_region_held3 (fun w' => w'.cell? ⟨g0, 0, none⟩ = some (.pointer (some ⟨a, 0, none⟩)) ∧ w'.cell? ⟨a, 2, none⟩ = some (.map (some (mb a))) ∧ w'.cell? ⟨g0 + 1, 0, none⟩ = some (.int .i64 k)) (first | exact ⟨c0, ca, c1⟩ | exact ⟨(HCT.out _ hg3).out.1, (HCT.out _ hg3).out.2.2.2.2.1, (HCT.out _ hg3).out.2.1⟩) ((refine step_mdel rfl _ _ rfl rfl rfl hmd hk ?_; intro w3 hm3 hg3))
  have C3 := HCT.out w3 hg3
  have S3 := hide (S2.out.turn ha hm3 (hL.del kyInt) (grown_drew hg3))
  have Z3 : Hid (w2.heap.size ≤ w3.heap.size) := hg3.size
  clear hm3 hg3 hmd hL HCT
  have hlow := HS.out.low
  have z1 := Z1.out
  have z3 := Z3.out
  have hg0 := HG0.out
  have S4 := S3.out.1.boxes (N := fun j => j = g0 ∨ j = g0 + 1 ∨ j = g) (fun j hj => ⟨fun hs => by have := hlow j hs; omega, by omega⟩)
  have M4 : Hid (Mv S (fun j => S j ∨ (j = g0 ∨ j = g0 + 1 ∨ j = g)) w w3) := ((Mv.of B2.out).trans S3.out.2).more fun j hj => by omega
  obtain ⟨vj, us, q1, q2, q3, q4, q5, q6⟩ := S4.didWith
  have hus : us.length ≤ 1000000 := by omega
  have Q6 := hide q6
  have HD := fun fn af ac => hide (did_any (fn := fn) (af := af) (ac := ac) q1 q2 q3 q4 hus)
  obtain ⟨d0, d1, d2, d3, d5, d6⟩ := C3.out
  clear q6 S4 q1 q2 q3 q4 q5 hus hlow z1 z3 hg0 c0 c1 ca cj d1 d2 d3 d5
  go_wp2_with (go_at_call 27; refine (HD _ _ _).out.mono ?_; clear HD; rintro e w4 ⟨rfl, D⟩)
  go_ret
  obtain ⟨S', p1, p2⟩ := Q6.out w4 _ ⟨a, k, some v⟩ D (.inr ⟨g, g0, g0 + 1, v, rfl, ⟨.inr (by simp), .inr (by simp), .inr (by simp)⟩, rfl, ⟨C3.out.2.2.1, C3.out.2.2.2.1⟩, C3.out.1, C3.out.2.1⟩) ⟨ha, hk⟩
  exact ⟨rfl, S', _, p1, M4.out.trans p2⟩
end Go.Proofs.Ytnjijnphjiiceaa
