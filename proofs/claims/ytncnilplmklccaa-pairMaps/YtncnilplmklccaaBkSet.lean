/- The contracts of stage's Set and Drop over this translation. -/
import Derived.Test.YtncnilplmklccaaBkUndo
namespace Go.Proofs.Ytncnilplmklccaa
set_option linter.unusedSimpArgs false
set_option linter.unusedVariables false
set_option linter.unusedSectionVars false
open Go.RowKit Go.Lib
attribute [local go_sem] setCell_drewN alloc_drewN

/-- Boxes come to a journal's own that never turn. -/
theorem St.boxes {w : World} {S Z N : Nat → Prop} {bj : Jb} {A : List Nat} {mb : Nat → Nat} {X : Nat → Kvs} {ds : Deeds} (h : St w S Z bj A mb X ds) (hN : ∀ k, N k → ¬ S k ∧ k < w.heap.size) : St w (fun k => S k ∨ N k) (fun k => Z k ∨ N k) bj A mb X ds := by
  obtain ⟨low, stat, jS, jZ, jf, ext, ⟨v, us, r1, r2, r3, r4, r5⟩, box, map, inj, srt, mine⟩ := h
  refine ⟨fun k hk => hk.elim (low k) fun e => (hN k e).2, fun k hk => hk.elim (fun e => .inl (stat k e)) .inr, .inl jS, fun hk => hk.elim jZ fun e => (hN _ e).1 jS, jf, ext, ⟨v, us, r1, r2, fun b hb => ?_, r4, fun i d hd => ?_⟩, fun a ha => ?_, map, inj, srt, mine⟩
  · obtain ⟨q1, q2, q3⟩ := r3 b hb
    exact ⟨.inl q1, fun hk => hk.elim q2 fun e => (hN _ e).1 q1, q3⟩
  · obtain ⟨u, hu, hd'⟩ := r5 i d hd
    exact ⟨u, hu, hd'.of (fun _ _ => rfl) fun _ => .inl⟩
  · obtain ⟨b1, b2, b3⟩ := box a ha
    exact ⟨.inl b1, .inl b2, b3⟩
/-- A deed more. -/
theorem St.didWith {w : World} {S Z : Nat → Prop} {bj : Jb} {A : List Nat} {mb : Nat → Nat} {X : Nat → Kvs} {ds : Deeds} (h : St w S Z bj A mb X ds) :
    ∃ v us, w.cell? ⟨bj.b, 0, none⟩ = some v ∧ w.frozen? ⟨bj.b, 0, none⟩ = false ∧ FRow w v us ∧ (∀ b, v.ownBlock = some b → b ≠ bj.b) ∧ us.length ≤ ds.length + 100 ∧
      ∀ w' u d, Did w w' bj.b v (us ++ [u]) → DeedAt w Z d u → d.m ∈ A ∧ Kok d.k → ∃ S', St w' S' Z bj A mb X (ds ++ [d]) ∧ Mv S S' w w' := by
  obtain ⟨low, stat, jS, jZ, jf, ext, ⟨v, us, r1, r2, r3, r4, r5⟩, box, map, inj, srt, mine⟩ := h
  refine ⟨v, bj.P ++ us, r1, jf 0, r2, fun b hb => (r3 b hb).2.2, by have := bj.sm; rw [List.length_append]; omega, fun w' u d D hd hm => ?_⟩
  have zb : ∀ k, Z k → w'.heap[k]? = w.heap[k]? := fun k hk => D.block k (low k (stat k hk)) (fun e => jZ (e ▸ hk)) fun e => (r3 k e).2.1 hk
  obtain ⟨v', q1, q2, q3⟩ := D.row
  rw [List.append_assoc] at q2
  refine ⟨fun k => S k ∨ (w.heap.size ≤ k ∧ k < w'.heap.size), ⟨fun k hk => hk.elim (fun e => Nat.lt_of_lt_of_le (low k e) D.size) And.right, fun k hk => .inl (stat k hk), .inl jS, jZ, fun o => (D.jf o).trans (jf o), fun i u hu => (D.ext _ (by omega)).trans (ext i u hu), ⟨v', us ++ [u], q1, q2, fun b hb => ?_, by simp [r4], fun i x hx => ?_⟩, fun a ha => ?_, fun a ha => ?_, inj, srt, fun x hx => ?_⟩,
    ⟨D.os, D.tape, D.output, D.size, fun k hk hn => D.block k hk (fun e => hn (e ▸ jS)) fun e => hn (r3 k e).1, fun k hk => hk.imp id And.left⟩⟩
  · rcases q3 b hb with e | e
    · obtain ⟨p1, p2, p3⟩ := r3 b e
      exact ⟨.inl p1, p2, p3⟩
    · refine ⟨.inr e, fun hz => ?_, fun hj => ?_⟩
      · have := low b (stat b hz); omega
      · rw [hj] at e; have := low _ jS; omega
  · by_cases hi : i < ds.length
    · rw [List.getElem?_append_left hi] at hx
      obtain ⟨y, hy, hy'⟩ := r5 i x hx
      exact ⟨y, by rw [List.getElem?_append_left (by omega)]; exact hy, hy'.of zb fun _ => id⟩
    · rw [List.getElem?_append_right (by omega)] at hx
      have h0 : i - ds.length = 0 := by
        have := (List.getElem?_eq_some_iff.1 hx).1
        simp at this
        omega
      rw [h0] at hx
      simp at hx
      subst hx
      refine ⟨u, ?_, hd.of zb fun _ => id⟩
      rw [List.getElem?_append_right (by omega), r4, h0]
      rfl
  · obtain ⟨b1, b2, b3⟩ := box a ha
    exact ⟨b1, .inl b2, b3.of (zb a b1)⟩
  · refine (map a ha).of _ (D.block _ (low _ (box a ha).2.1) ((map a ha).ne r1) fun e => ?_)
    exact r2.noMap e (map a ha) rfl
  · rcases List.mem_append.1 hx with hx | hx
    · exact mine x hx
    · simp at hx; subst hx; exact hm
theorem Mv.more {S S' N : Nat → Prop} {w w' : World} (h : Mv S S' w w') (hN : ∀ k, N k → w.heap.size ≤ k) : Mv S (fun k => S' k ∨ N k) w w' :=
  ⟨h.os, h.tape, h.output, h.size, h.block, fun k hk => hk.elim (h.own k) fun e => .inr (hN k e)⟩
set_option maxRecDepth 100000 in
set_option maxHeartbeats 4000000 in
theorem set_any {w : World} {S Z : Nat → Prop} {bj : Jb} {A : List Nat} {mb : Nat → Nat} {X : Nat → Kvs} {ds : Deeds} (hs : St w S Z bj A mb X ds) {a : Nat} (ha : a ∈ A) {k : Kk} (v : Nm) (hk : Kok k) (hlen : (X a).length ≤ 1000000) (hds : ds.length ≤ 100000) :
    Calls Try.prog 68 #[.pointer (some ⟨a, 0, none⟩), .agg #[.int .u8 k.1, .int .u8 k.2], .agg #[.int .u64 (lm v.1 0), .int .u64 (lm v.1 1), .int .u64 (lm v.1 2), .int .u64 (lm v.1 3)]] w fun e w' => e = .returned (.tuple #[]) ∧ ∃ S' Z', St w' S' Z' bj A mb (upX X a (putL kyKey k v (X a))) (ds ++ [⟨a, k, getL k (X a)⟩]) ∧ Mv S S' w w' := by
  have hmf : ∀ (fn : Fn) (first cap : Array Value) (w : World), (Instr.makeFunc fn first cap).run Try.prog w = .ok (.func fn first cap) w := fun _ _ _ _ => rfl
  have HS := hide hs
  obtain ⟨⟨K1, K2⟩, hK⟩ : ∃ x, fk k (X a) = x := ⟨_, rfl⟩
  obtain ⟨FN, hN⟩ : ∃ x, fv k (X a) = x := ⟨_, rfl⟩
  obtain ⟨FB, hB⟩ : ∃ x, fh k (X a) = x := ⟨_, rfl⟩
  have KK : Hid (fk k (X a) = (K1, K2) ∧ fv k (X a) = FN ∧ fh k (X a) = FB) := ⟨hK, hN, hB⟩
  have hb0 : Hid (Below w.heap.size w ((((w.alloc (.cells #[.pointer (some ⟨a, 0, none⟩)] 98)).alloc (.cells #[.int .u8 k.1, .int .u8 k.2] 96)).alloc (.cells #[.int .u64 (lm v.1 0), .int .u64 (lm v.1 1), .int .u64 (lm v.1 2), .int .u64 (lm v.1 3)] 55)).alloc (.cells #[.int .u8 k.1, .int .u8 k.2] 96))) := bAl (bAl (bAl (bAl (bMe w))))
  have hf := find_any (hs.below hb0.out) ha hk
  rw [hK, hN, hB] at hf
  have HF := hide hf
  clear hs hf hK hN hB
  go_enter Try.func68, Try.ntmps68
  go_wp2_with (first
    | (go_at_call 74; refine (findable_any _ _).mono ?_; rintro e w' ⟨rfl, rfl⟩)
    | (go_at_call 69; refine HF.out.mono ?_; clear HF; rintro e w1 ⟨rfl, hb1⟩))
  obtain ⟨w2, hw2⟩ : ∃ w2, (w1.alloc (.cells #[.int .u8 K1, .int .u8 K2, .int .u64 (lm FN 0), .int .u64 (lm FN 1), .int .u64 (lm FN 2), .int .u64 (lm FN 3)] 128)).alloc (.cells #[.bool FB] 4) = w2 := ⟨_, rfl⟩
  rw [hw2]
  obtain ⟨g, hg⟩ : ∃ g, w1.heap.size = g := ⟨_, rfl⟩
  obtain ⟨g0, hg0⟩ : ∃ g0, w.heap.size = g0 := ⟨_, rfl⟩
  have Z1 : Hid (g0 + 4 ≤ g ∧ w2.heap.size = g + 2) := by have := hb1.size; rw [← hw2]; refine ⟨?_, ?_⟩ <;> simp at this ⊢ <;> omega
  have B2 : Hid (Below w.heap.size w w2) := by rw [← hw2]; exact bAl (bAl (bOn hb0.out hb1))
  have S2 := hide (HS.out.below B2.out)
  have C2 : Hid (w2.cell? ⟨g0, 0, none⟩ = some (.pointer (some ⟨a, 0, none⟩)) ∧ Cs w2 (g0 + 1) (kC k) ∧ (w2.cell? ⟨g0 + 2, 0, none⟩ = some (.int .u64 (lm v.1 0)) ∧ w2.cell? ⟨g0 + 2, 1, none⟩ = some (.int .u64 (lm v.1 1)) ∧ w2.cell? ⟨g0 + 2, 2, none⟩ = some (.int .u64 (lm v.1 2)) ∧ w2.cell? ⟨g0 + 2, 3, none⟩ = some (.int .u64 (lm v.1 3))) ∧ Cs w2 g [.int .u8 K1, .int .u8 K2, .int .u64 (lm FN 0), .int .u64 (lm FN 1), .int .u64 (lm FN 2), .int .u64 (lm FN 3)] ∧ w2.cell? ⟨g + 1, 0, none⟩ = some (.bool FB)) := by
    have hz : w.heap.size + 3 < w1.heap.size := by have := hb1.size; simp at this; omega
    have hc := bcell hb1
    subst hg hg0
    rw [← hw2]
    have old : ∀ b o, b < w.heap.size + 4 → ((w1.alloc (.cells #[.int .u8 K1, .int .u8 K2, .int .u64 (lm FN 0), .int .u64 (lm FN 1), .int .u64 (lm FN 2), .int .u64 (lm FN 3)] 128)).alloc (.cells #[.bool FB] 4)).cell? ⟨b, o, none⟩ = ((((w.alloc (.cells #[.pointer (some ⟨a, 0, none⟩)] 98)).alloc (.cells #[.int .u8 k.1, .int .u8 k.2] 96)).alloc (.cells #[.int .u64 (lm v.1 0), .int .u64 (lm v.1 1), .int .u64 (lm v.1 2), .int .u64 (lm v.1 3)] 55)).alloc (.cells #[.int .u8 k.1, .int .u8 k.2] 96)).cell? ⟨b, o, none⟩ := fun b o hb => by
      rw [← hc.1 _ _ (by simp; omega)]
      exact (bcell (bAl (o := .cells #[.bool FB] 4) (bAl (bMe w1)))).1 _ _ (by omega)
    refine ⟨?_, .mk2 ?_ ?_, ⟨?_, ?_, ?_, ?_⟩, .mk6 ?_ ?_ ?_ ?_ ?_ ?_, ?_⟩
    · rw [old _ _ (by omega)]; simp [go_sem]
    · rw [old _ _ (by omega)]; simp [go_sem]
    · rw [old _ _ (by omega)]; simp [go_sem]
    · rw [old _ _ (by omega)]; simp [go_sem]
    · rw [old _ _ (by omega)]; simp [go_sem]
    · rw [old _ _ (by omega)]; simp [go_sem]
    · rw [old _ _ (by omega)]; simp [go_sem]
    all_goals simp [go_sem]
  have HG := hide hg
  have HG0 := hide hg0
  rw [hg, hg0]
  clear hb1 hw2 hg hg0 hb0
  obtain ⟨c0, ck, ⟨v0, v1, v2, v3⟩, c3, c4⟩ := C2.out
  obtain ⟨k0, k1⟩ := ck.two
  have ca := (S2.out.box a ha).2.2.c2
  have cj := (S2.out.box a ha).2.2.c0
  have hm := S2.out.map a ha
  have hL := S2.out.srt a
  have hmd : MapIs encS w2.drew (mb a) (X a) := hm
  obtain ⟨w3, hrun, r1, r2⟩ := hmd.put encS kyKey hL (by unfold maxLen; omega) (k := k) (kok hk) v
  have hg2 : w2.grownBy w3 (some (mb a)) := grown_drew r2.grown
  have hput : (Instr.mapUpdate 119 (.map (some (mb a))) (.agg #[.int .u8 k.1, .int .u8 k.2]) (.agg #[.int .u8 k.1, .int .u8 k.2, .int .u64 (lm v.1 0), .int .u64 (lm v.1 1), .int .u64 (lm v.1 2), .int .u64 (lm v.1 3)])).run Try.prog w2.drew = .ok () w3 := hrun
  have S3 := hide (S2.out.turn ha r1 (hL.put kyKey) hg2)
  have tc : ∀ b o u, w2.cell? ⟨b, o, none⟩ = some u → w3.cell? ⟨b, o, none⟩ = some u := fun b o u h => cell_turned hm hg2 h
  have C3 : Hid (w3.cell? ⟨g0, 0, none⟩ = some (.pointer (some ⟨a, 0, none⟩)) ∧ Cs w3 (g0 + 1) (kC k) ∧ (w3.cell? ⟨g0 + 2, 0, none⟩ = some (.int .u64 (lm v.1 0)) ∧ w3.cell? ⟨g0 + 2, 1, none⟩ = some (.int .u64 (lm v.1 1)) ∧ w3.cell? ⟨g0 + 2, 2, none⟩ = some (.int .u64 (lm v.1 2)) ∧ w3.cell? ⟨g0 + 2, 3, none⟩ = some (.int .u64 (lm v.1 3))) ∧ Cs w3 g [.int .u8 K1, .int .u8 K2, .int .u64 (lm FN 0), .int .u64 (lm FN 1), .int .u64 (lm FN 2), .int .u64 (lm FN 3)] ∧ w3.cell? ⟨g + 1, 0, none⟩ = some (.bool FB) ∧ w3.cell? ⟨a, 2, none⟩ = some (.map (some (mb a))) ∧ w3.cell? ⟨a, 0, none⟩ = some (.pointer (some ⟨bj.b, 0, none⟩))) :=
    ⟨tc _ _ _ c0, fun i u hu => tc _ _ _ (ck i u hu), ⟨tc _ _ _ v0, tc _ _ _ v1, tc _ _ _ v2, tc _ _ _ v3⟩, fun i u hu => tc _ _ _ (c3 i u hu), tc _ _ _ c4, tc _ _ _ ca, tc _ _ _ cj⟩
  have Z3 : Hid (w2.heap.size ≤ w3.heap.size) := hg2.size
  have HT := hide tc
  clear hrun r1 r2 hmd hm hg2 c3 c4 hL tc ck
  go_region_held3 (fun w' => w'.cell? ⟨g0, 0, none⟩ = some (.pointer (some ⟨a, 0, none⟩)) ∧ w'.cell? ⟨a, 2, none⟩ = some (.map (some (mb a))) ∧ w'.cell? ⟨g0 + 1, 0, none⟩ = some (.int .u8 k.1) ∧ w'.cell? ⟨g0 + 1, 1, none⟩ = some (.int .u8 k.2) ∧ w'.cell? ⟨g0 + 2, 0, none⟩ = some (.int .u64 (lm v.1 0)) ∧ w'.cell? ⟨g0 + 2, 1, none⟩ = some (.int .u64 (lm v.1 1)) ∧ w'.cell? ⟨g0 + 2, 2, none⟩ = some (.int .u64 (lm v.1 2)) ∧ w'.cell? ⟨g0 + 2, 3, none⟩ = some (.int .u64 (lm v.1 3))) (first | exact ⟨c0, ca, k0, k1, v0, v1, v2, v3⟩ | exact ⟨HT.out _ _ _ c0, HT.out _ _ _ ca, HT.out _ _ _ k0, HT.out _ _ _ k1, HT.out _ _ _ v0, HT.out _ _ _ v1, HT.out _ _ _ v2, HT.out _ _ _ v3⟩) (fail)
  have hlow := HS.out.low
  have z1 := Z1.out
  have z3 := Z3.out
  have hg0 := HG0.out
  have S4 := S3.out.1.boxes (N := fun j => j = g0 ∨ j = g0 + 1 ∨ j = g ∨ j = g + 1) (fun j hj => ⟨fun hs => by have := hlow j hs; omega, by omega⟩)
  have M4 : Hid (Mv S (fun j => S j ∨ (j = g0 ∨ j = g0 + 1 ∨ j = g ∨ j = g + 1)) w w3) := ((Mv.of B2.out).trans S3.out.2).more fun j hj => by omega
  obtain ⟨vj, us, q1, q2, q3, q4, q5, q6⟩ := S4.didWith
  have hus : us.length ≤ 1000000 := by omega
  have Q6 := hide q6
  have HD := fun fn af ac => hide (did_any (fn := fn) (af := af) (ac := ac) q1 q2 q3 q4 hus)
  have d0 := C3.out.1
  have d6 := C3.out.2.2.2.2.2.2
  clear q6 S4 q1 q2 q3 q4 q5 hus hlow z1 z3 hg0 c0 ca cj k0 k1 v0 v1 v2 v3 HT hput
  go_wp2_with (go_at_call 40; refine (HD _ _ _).out.mono ?_; clear HD; rintro e w4 ⟨rfl, D⟩)
  go_end0
  obtain ⟨S', p1, p2⟩ := Q6.out w4 _ ⟨a, k, getL k (X a)⟩ D (.inl ⟨g + 1, g, g0, g0 + 1, rfl, ⟨.inr (by simp), .inr (by simp), .inr (by simp), .inr (by simp)⟩, by have := C3.out.2.2.2.2.1; rw [← KK.out.2.2] at this; exact this, fun x hx => by
    obtain ⟨e1, e2, _⟩ := fk_some (k := k) (L := X a) hx
    have h1 := C3.out.2.2.2.1
    rw [KK.out.1] at e1
    rw [KK.out.2.1] at e2
    subst e2
    subst e1
    exact h1, C3.out.1, C3.out.2.1⟩) ⟨ha, hk⟩
  exact ⟨rfl, S', _, p1, M4.out.trans p2⟩
end Go.Proofs.Ytncnilplmklccaa
