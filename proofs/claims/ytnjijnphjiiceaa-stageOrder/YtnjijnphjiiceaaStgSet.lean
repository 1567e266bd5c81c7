/- The contracts of stage's Set and Drop over this translation. -/
import Derived.Test.YtnjijnphjiiceaaStgUndo
namespace Go.Proofs.Ytnjijnphjiiceaa
set_option linter.unusedSimpArgs false
set_option linter.unusedVariables false
set_option linter.unusedSectionVars false
open Go.RowKit Go.Lib
attribute [local go_sem] setCell_drewN alloc_drewN

/-- Boxes come to a journal's own that never turn. -/
theorem St.boxes {w : World} {S Z N : Nat → Prop} {bj : Nat} {A : List Nat} {mb : Nat → Nat} {X : Nat → Kvs} {ds : Deeds} (h : St w S Z bj A mb X ds) (hN : ∀ k, N k → ¬ S k ∧ k < w.heap.size) : St w (fun k => S k ∨ N k) (fun k => Z k ∨ N k) bj A mb X ds := by
  obtain ⟨low, stat, jS, jZ, jf, ⟨v, us, r1, r2, r3, r4, r5⟩, box, map, inj, srt, mine⟩ := h
  refine ⟨fun k hk => hk.elim (low k) fun e => (hN k e).2, fun k hk => hk.elim (fun e => .inl (stat k e)) .inr, .inl jS, fun hk => hk.elim jZ fun e => (hN _ e).1 jS, jf, ⟨v, us, r1, r2, fun b hb => ?_, r4, fun i d hd => ?_⟩, fun a ha => ?_, map, inj, srt, mine⟩
  · obtain ⟨q1, q2, q3⟩ := r3 b hb
    exact ⟨.inl q1, fun hk => hk.elim q2 fun e => (hN _ e).1 q1, q3⟩
  · obtain ⟨u, hu, hd'⟩ := r5 i d hd
    exact ⟨u, hu, hd'.of (fun _ _ => rfl) fun _ => .inl⟩
  · obtain ⟨b1, b2, b3⟩ := box a ha
    exact ⟨.inl b1, .inl b2, b3⟩
/-- A deed more. -/
theorem St.didWith {w : World} {S Z : Nat → Prop} {bj : Nat} {A : List Nat} {mb : Nat → Nat} {X : Nat → Kvs} {ds : Deeds} (h : St w S Z bj A mb X ds) :
    ∃ v us, w.cell? ⟨bj, 0, none⟩ = some v ∧ w.frozen? ⟨bj, 0, none⟩ = false ∧ FRow w v us ∧ (∀ b, v.ownBlock = some b → b ≠ bj) ∧ us.length = ds.length ∧
      ∀ w' u d, Did w w' bj v (us ++ [u]) → DeedAt w Z d u → d.m ∈ A ∧ (Lit.int .i64 d.k).wf = true → ∃ S', St w' S' Z bj A mb X (ds ++ [d]) ∧ Mv S S' w w' := by
  obtain ⟨low, stat, jS, jZ, jf, ⟨v, us, r1, r2, r3, r4, r5⟩, box, map, inj, srt, mine⟩ := h
  refine ⟨v, us, r1, jf 0, r2, fun b hb => (r3 b hb).2.2, r4, fun w' u d D hd hm => ?_⟩
  have zb : ∀ k, Z k → w'.heap[k]? = w.heap[k]? := fun k hk => D.block k (low k (stat k hk)) (fun e => jZ (e ▸ hk)) fun e => (r3 k e).2.1 hk
  obtain ⟨v', q1, q2, q3⟩ := D.row
  refine ⟨fun k => S k ∨ (w.heap.size ≤ k ∧ k < w'.heap.size), ⟨fun k hk => hk.elim (fun e => Nat.lt_of_lt_of_le (low k e) D.size) And.right, fun k hk => .inl (stat k hk), .inl jS, jZ, fun o => (D.jf o).trans (jf o), ⟨v', us ++ [u], q1, q2, fun b hb => ?_, by simp [r4], fun i x hx => ?_⟩, fun a ha => ?_, fun a ha => ?_, inj, srt, fun x hx => ?_⟩,
    ⟨D.os, D.tape, D.output, D.size, fun k hk hn => D.block k hk (fun e => hn (e ▸ jS)) fun e => hn (r3 k e).1, fun k hk => hk.imp id And.left⟩⟩
  · rcases q3 b hb with e | e
    · obtain ⟨p1, p2, p3⟩ := r3 b e
      exact ⟨.inl p1, p2, p3⟩
    · refine ⟨.inr e, fun hz => ?_, fun hj => ?_⟩
      · have := low b (stat b hz); omega
      · subst hj; have := low b jS; omega
  · by_cases hi : i < ds.length
    · rw [List.getElem?_append_left hi] at hx
      obtain ⟨y, hy, hy'⟩ := r5 i x hx
      exact ⟨y, by rw [List.getElem?_append_left (by omega)]; exact hy, hy'.of zb fun _ => id⟩
    · rw [List.getElem?_append_right (by omega)] at hx
      have h0 : i - ds.length = 0 := by
        have := (List.getElem?_eq_some_iff.1 hx).1
        simp at this
        omega
      rw [h0] at hx
      simp at hx
      subst hx
      refine ⟨u, ?_, hd.of zb fun _ => id⟩
      rw [List.getElem?_append_right (by omega), r4, h0]
      rfl
  · obtain ⟨b1, b2, b3⟩ := box a ha
    exact ⟨b1, .inl b2, b3.of (zb a b1)⟩
  · refine (map a ha).of _ (D.block _ (low _ (box a ha).2.1) ((map a ha).ne r1) fun e => ?_)
    exact r2.noMap e (map a ha) rfl
  · rcases List.mem_append.1 hx with hx | hx
    · exact mine x hx
    · simp at hx; subst hx; exact hm
theorem Mv.more {S S' N : Nat → Prop} {w w' : World} (h : Mv S S' w w') (hN : ∀ k, N k → w.heap.size ≤ k) : Mv S (fun k => S' k ∨ N k) w w' :=
  ⟨h.os, h.tape, h.output, h.size, h.block, fun k hk => hk.elim (h.own k) fun e => .inr (hN k e)⟩
set_option maxHeartbeats 2000000 in
theorem set_any {w : World} {S Z : Nat → Prop} {bj : Nat} {A : List Nat} {mb : Nat → Nat} {X : Nat → Kvs} {ds : Deeds} (hs : St w S Z bj A mb X ds) {a : Nat} (ha : a ∈ A) {k v : Int} (hk : (Lit.int .i64 k).wf = true) (hlen : (X a).length ≤ 1000000) (hds : ds.length ≤ 100000) :
    Calls Try.prog 10 #[.pointer (some ⟨a, 0, none⟩), .int .i64 k, .int .i64 v] w fun e w' => e = .returned (.tuple #[]) ∧ ∃ S' Z', St w' S' Z' bj A mb (upX X a (putL kyInt k v (X a))) (ds ++ [⟨a, k, getL k (X a)⟩]) ∧ Mv S S' w w' := by
  have hmf : ∀ (fn : Fn) (first cap : Array Value) (w : World), (Instr.makeFunc fn first cap).run Try.prog w = .ok (.func fn first cap) w := fun _ _ _ _ => rfl
  have HS := hide hs
  have hb0 : Hid (Below w.heap.size w ((w.alloc (.cells #[.pointer (some ⟨a, 0, none⟩)] 28)).alloc (.cells #[.int .i64 k] 3))) := bAl (bAl (bMe w))
  have HF := hide (find_any (hs.below hb0.out) ha hk)
  clear hs
  go_enter Try.func10, Try.ntmps10
  go_wp2_with (first
    | (go_at_call 25; refine (findable_any _ _).mono ?_; rintro e w' ⟨rfl, rfl⟩)
    | (go_at_call 26; refine HF.out.mono ?_; clear HF; rintro e w1 ⟨rfl, hb1⟩))
  obtain ⟨w2, hw2⟩ : ∃ w2, (w1.alloc (.cells #[.int .i64 (fk k (X a)), .int .i64 (fv k (X a))] 64)).alloc (.cells #[.bool (fh k (X a))] 4) = w2 := ⟨_, rfl⟩
  rw [hw2]
  obtain ⟨g, hg⟩ : ∃ g, w1.heap.size = g := ⟨_, rfl⟩
  obtain ⟨g0, hg0⟩ : ∃ g0, w.heap.size = g0 := ⟨_, rfl⟩
  have Z1 : Hid (g0 + 2 ≤ g ∧ w2.heap.size = g + 2) := by have := hb1.size; rw [← hw2]; refine ⟨?_, ?_⟩ <;> simp at this ⊢ <;> omega
  have B2 : Hid (Below w.heap.size w w2) := by rw [← hw2]; exact bAl (bAl (bOn hb0.out hb1))
  have S2 := hide (HS.out.below B2.out)
  have C2 : Hid (w2.cell? ⟨g0, 0, none⟩ = some (.pointer (some ⟨a, 0, none⟩)) ∧ w2.cell? ⟨g0 + 1, 0, none⟩ = some (.int .i64 k) ∧ w2.cell? ⟨g, 0, none⟩ = some (.int .i64 (fk k (X a))) ∧ w2.cell? ⟨g, 1, none⟩ = some (.int .i64 (fv k (X a))) ∧ w2.cell? ⟨g + 1, 0, none⟩ = some (.bool (fh k (X a)))) := by
    have hz : w.heap.size + 1 < w1.heap.size := by have := hb1.size; simp at this; omega
    have hc := bcell hb1
    subst hg hg0
    rw [← hw2]
    have e0 : w1.cell? ⟨w.heap.size, 0, none⟩ = some (.pointer (some ⟨a, 0, none⟩)) := by rw [hc.1 _ _ (by simp; omega)]; simp [go_sem]
    have e1 : w1.cell? ⟨w.heap.size + 1, 0, none⟩ = some (.int .i64 k) := by rw [hc.1 _ _ (by simp)]; simp [go_sem]
    refine ⟨?_, ?_, ?_, ?_, ?_⟩
    · exact (bcell (bAl (o := .cells #[.bool (fh k (X a))] 4) (bAl (bMe w1)))).1 _ _ (by omega) |>.trans e0
    · exact (bcell (bAl (o := .cells #[.bool (fh k (X a))] 4) (bAl (bMe w1)))).1 _ _ (by omega) |>.trans e1
    · simp [go_sem]
    · simp [go_sem]
    · simp [go_sem]
  have HG := hide hg
  have HG0 := hide hg0
  rw [hg, hg0]
  clear hb1 hw2 hg hg0 hb0
  obtain ⟨c0, c1, c2, c3, c4⟩ := C2.out
  have ca := (S2.out.box a ha).2.2.c2
  have cj := (S2.out.box a ha).2.2.c0
  have hm := S2.out.map a ha
  have hL := S2.out.srt a
  have hmd : MapIs encS w2.drew (mb a) (X a) := hm
  obtain ⟨w3, hrun, r1, r2⟩ := hmd.put encS kyInt hL (by unfold maxLen; omega) (k := k) hk v
  have hg2 : w2.grownBy w3 (some (mb a)) := grown_drew r2.grown
  have hput : (Instr.mapUpdate 60 (.map (some (mb a))) (.int .i64 k) (.agg #[.int .i64 k, .int .i64 v])).run Try.prog w2.drew = .ok () w3 := hrun
  have S3 := hide (S2.out.turn ha r1 (hL.put kyInt) hg2)
  have C3 : Hid (w3.cell? ⟨g0, 0, none⟩ = some (.pointer (some ⟨a, 0, none⟩)) ∧ w3.cell? ⟨g0 + 1, 0, none⟩ = some (.int .i64 k) ∧ w3.cell? ⟨g, 0, none⟩ = some (.int .i64 (fk k (X a))) ∧ w3.cell? ⟨g, 1, none⟩ = some (.int .i64 (fv k (X a))) ∧ w3.cell? ⟨g + 1, 0, none⟩ = some (.bool (fh k (X a))) ∧ w3.cell? ⟨a, 2, none⟩ = some (.map (some (mb a))) ∧ w3.cell? ⟨a, 0, none⟩ = some (.pointer (some ⟨bj, 0, none⟩))) :=
    ⟨cell_turned hm hg2 c0, cell_turned hm hg2 c1, cell_turned hm hg2 c2, cell_turned hm hg2 c3, cell_turned hm hg2 c4, cell_turned hm hg2 ca, cell_turned hm hg2 cj⟩
  have Z3 : Hid (w2.heap.size ≤ w3.heap.size) := hg2.size
  clear hrun r1 r2 hmd hm hg2 c2 c3 c4 hL
  go_region_held3 (fun w' => w'.cell? ⟨g0, 0, none⟩ = some (.pointer (some ⟨a, 0, none⟩)) ∧ w'.cell? ⟨a, 2, none⟩ = some (.map (some (mb a))) ∧ w'.cell? ⟨g0 + 1, 0, none⟩ = some (.int .i64 k)) (first | exact ⟨c0, ca, c1⟩ | exact ⟨C3.out.1, C3.out.2.2.2.2.2.1, C3.out.2.1⟩) (fail)
  have hlow := HS.out.low
  have z1 := Z1.out
  have z3 := Z3.out
  have hg0 := HG0.out
  have S4 := S3.out.1.boxes (N := fun j => j = g0 ∨ j = g0 + 1 ∨ j = g ∨ j = g + 1) (fun j hj => ⟨fun hs => by have := hlow j hs; omega, by omega⟩)
  have M4 : Hid (Mv S (fun j => S j ∨ (j = g0 ∨ j = g0 + 1 ∨ j = g ∨ j = g + 1)) w w3) := ((Mv.of B2.out).trans S3.out.2).more fun j hj => by omega
  obtain ⟨vj, us, q1, q2, q3, q4, q5, q6⟩ := S4.didWith
  have hus : us.length ≤ 1000000 := by omega
  have Q6 := hide q6
  have HD := fun fn af ac => hide (did_any (fn := fn) (af := af) (ac := ac) q1 q2 q3 q4 hus)
  obtain ⟨d0, d1, d2, d3, d4, d5, d6⟩ := C3.out
  clear q6 S4 q1 q2 q3 q4 q5 hus hlow z1 z3 hg0 c0 c1 ca cj d1 d2 d3 d4 d5
  go_wp2_with (go_at_call 27; refine (HD _ _ _).out.mono ?_; clear HD; rintro e w4 ⟨rfl, D⟩)
  go_end0
  obtain ⟨S', p1, p2⟩ := Q6.out w4 _ ⟨a, k, getL k (X a)⟩ D (.inl ⟨g + 1, g, g0, g0 + 1, rfl, ⟨.inr (by simp), .inr (by simp), .inr (by simp), .inr (by simp)⟩, C3.out.2.2.2.2.1, fun x hx => by
    obtain ⟨e1, e2, _⟩ := fk_some (k := k) (L := X a) hx
    have h1 := C3.out.2.2.1
    have h2 := C3.out.2.2.2.1
    rw [e1] at h1
    rw [e2] at h2
    exact ⟨h1, h2⟩, C3.out.1, C3.out.2.1⟩) ⟨ha, hk⟩
  exact ⟨rfl, S', _, p1, M4.out.trans p2⟩
end Go.Proofs.Ytnjijnphjiiceaa
