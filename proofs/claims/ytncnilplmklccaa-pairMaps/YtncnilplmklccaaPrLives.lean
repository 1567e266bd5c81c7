/- The contracts of pair's Try and of what it defers over this translation. The contract of pair's New over this translation. A pair where nothing is under way: each call as a law from that fact to that fact; the chapter's example. -/
import Derived.Test.YtncnilplmklccaaPrSmall
/- The contracts of pair's Try and of what it defers over this translation. -/
namespace Go.Proofs.Ytncnilplmklccaa
set_option linter.unusedSimpArgs false
set_option linter.unusedVariables false
open Go.RowKit Go.Lib
attribute [local go_sem] setCell_drewN alloc_drewN

/-- The frame below stays as it is. -/
theorem postS {P : Program} {fn : Func} {c₀ : Frame} {cs : List Frame} {R : Ending → FrameMode → World → Prop} {e : Exit} {a : Act} {w : World} (hu : c₀.mode = .returning) (h : bodyPost P fn (fun e w => R e .returning w) e a w) : bodyPostS P fn c₀ cs R e a (c₀ :: cs) w := by
  have hc : ({ c₀ with mode := .returning } : Frame) = c₀ := by rw [← hu]
  unfold bodyPost at h
  unfold bodyPostS
  split at h <;> simp_all
  all_goals first
    | exact ⟨.returning, hc.symm, h.2⟩
    | exact ⟨.returning, h⟩
theorem Kp.drew {Fr : Nat → Prop} {w w' : World} (k : Kp Fr w.drew w') : Kp Fr w w' := k
set_option maxHeartbeats 4000000 in
theorem endNo_any {W w : World} {bp n n' : Nat} {H' : Nat → Nat → Kvs} {N : List Int} {Fr : Nat → Prop} {ge gp gm gf : Nat} {E : Int} (p : Pr W w bp [] n' H' N Fr) (hn : n ≤ n') (hn9 : n' ≤ 9000) (fp : Fr gp) (fm : Fr gm)
    (ce : w.cell? ⟨ge, 0, none⟩ = some (.int .i64 E)) (cp : w.cell? ⟨gp, 0, none⟩ = some (.pointer (some ⟨bp, 0, none⟩))) (cm : w.cell? ⟨gm, 0, none⟩ = some (.int .i64 n)) (hE : E ≠ 0) :
    CallsD Try.prog 35 #[.pointer (some ⟨ge, 0, none⟩), .pointer (some ⟨gp, 0, none⟩), .pointer (some ⟨gm, 0, none⟩), .pointer (some ⟨gf, 0, none⟩)] .returning w fun e u' w' => e = .returned (.tuple #[]) ∧ u' = .returning ∧ Pr W w' bp [] n H' N Fr ∧ Kp Fr w w' := by
  have HB := hide (back14_any (p.below (bMe w).drew) hn hn9)
  clear p
  refine callsD_of_wpS Try.func35 rfl fun c₀ cs hu => ?_
  apply wpS_seq
  apply wpS_region
  simp [wpOpsS, go_sem, recoverD, hu, Try.ntmps35, Exit.thenS]
  refine wpS_of_wp (Code.wp_mono (fun _ _ _ => postS hu) ?_)
  simp only [Array.replicate_succ, Array.replicate_zero, List.push_toArray, List.append_toArray, List.nil_append, List.cons_append]
  simp
  go_wp2
  go_region_held3 (fun w' => w'.cell? ⟨gp, 0, none⟩ = some (.pointer (some ⟨bp, 0, none⟩)) ∧ w'.cell? ⟨gm, 0, none⟩ = some (.int .i64 n)) (first | exact ⟨cp, cm⟩ | exact ⟨(k2.cell fp).trans cp, (k2.cell fm).trans cm⟩) ((go_at_call 36; refine HB.out.mono ?_; rintro e w2 ⟨rfl, p2, k2⟩))
  go_wp2
  refine bodyPost_ret (results_none rfl _ _ _) rfl ?_
  exact ⟨rfl, p2, k2⟩
set_option maxHeartbeats 4000000 in
theorem endYes_any {W w : World} {bp n' f : Nat} {H' : Nat → Nat → Kvs} {N : List Int} {P : List Value} {Fr : Nat → Prop} {ge gp gm gf : Nat} {x : Int} (p : Pr W w bp P n' H' N Fr) (fp : Fr gp) (fg : Fr gf) (hf : f < 16) (hx : N[f]? = some x) (hx1 : 0 ≤ x ∧ x + 1 < 18446744073709551616)
    (ce : w.cell? ⟨ge, 0, none⟩ = some (.int .i64 0)) (cp : w.cell? ⟨gp, 0, none⟩ = some (.pointer (some ⟨bp, 0, none⟩))) (cf : w.cell? ⟨gf, 0, none⟩ = some (.int .u8 f)) :
    CallsD Try.prog 35 #[.pointer (some ⟨ge, 0, none⟩), .pointer (some ⟨gp, 0, none⟩), .pointer (some ⟨gm, 0, none⟩), .pointer (some ⟨gf, 0, none⟩)] .returning w fun e u' w' => e = .returned (.tuple #[]) ∧ u' = .returning ∧ Pr W w' bp [] 0 (fun s _ => H' s n') (N.set f (x + 1)) Fr ∧ Kp Fr w w' := by
  have hcx := p.cell hx
  have hfar := p.far
  have hwr : IntKind.u64.wrap (x + 1) = x + 1 := by rw [IntKind.wrap_u64]; omega
  obtain ⟨p2, k2⟩ := p.nonce hf (x := x + 1) (by omega)
  have hfr := hfar.2.2.2 (3 + f)
  have ngp : gp ≠ bp := fun e => hfar.1 (e ▸ fp)
  have ngf : gf ≠ bp := fun e => hfar.1 (e ▸ fg)
  have hf1 : (f : Int) < 16 := by omega
  have HK := hide (keep14_any (p2.below (bMe _).drew))
  have K2 := hide k2
  clear p p2 k2 hfar
  refine callsD_of_wpS Try.func35 rfl fun c₀ cs hu => ?_
  apply wpS_seq
  apply wpS_region
  simp [wpOpsS, go_sem, recoverD, hu, Try.ntmps35, Exit.thenS]
  refine wpS_of_wp (Code.wp_mono (fun _ _ _ => postS hu) ?_)
  simp only [Array.replicate_succ, Array.replicate_zero, List.push_toArray, List.append_toArray, List.nil_append, List.cons_append]
  simp
  go_wp2
  go_region
  go_wp2_with (go_at_call 37; refine HK.out.mono ?_; rintro e w3 ⟨rfl, p3, k3⟩)
  go_end0
  exact ⟨rfl, p3, K2.out.trans k3⟩
theorem tryArg_any {w : World} {bp f : Nat} {nn : Int} {dv : Value} (hf : 16 ≤ f) (hf2 : f < 256) :
    Calls Try.prog 11 #[.pointer (some ⟨bp, 0, none⟩), .int .u8 f, .int .u64 nn, dv] w fun e w' => e = .returned (.int .i64 1) ∧ Below w.heap.size w w' := by
  have h1 : (16 : Int) ≤ (f : Int) := by omega
  have h2 : (f : Int) < 256 := by omega
  have HB := hide (fun o1 o2 o3 => bAl (o := o3) (bAl (o := o2) (bAl (o := o1) (bMe w))))
  go_enter_defers Try.func11, Try.ntmps11
  go_wp2
  simp [bodyPostD, Leaves, settle, results, Try.results11, go_sem]
  exact HB.out _ _ _
theorem tryNonce_any {w : World} {bp f : Nat} {nn x : Int} {dv : Value} (hf : f < 16) (hc : w.cell? ⟨bp, 3 + f, none⟩ = some (.int .u64 x)) (hn : nn ≠ x) :
    Calls Try.prog 11 #[.pointer (some ⟨bp, 0, none⟩), .int .u8 f, .int .u64 nn, dv] w fun e w' => e = .returned (.int .i64 9) ∧ Below w.heap.size w w' := by
  have h1 : (f : Int) < 16 := by omega
  have HB := hide (fun o1 o2 o3 => bAl (o := o3) (bAl (o := o2) (bAl (o := o1) (bMe w))))
  have lb := cell_lt hc
  have HN := hide (fun (w1 : World) (hb : Below w.heap.size w w1) => nonce_any (w := w1) hf (((bcell hb).1 _ _ lb).trans hc))
  clear hc
  go_enter_defers Try.func11, Try.ntmps11
  go_wp2_with (go_at_call 13; refine (HN.out _ (HB.out _ _ _)).mono ?_; rintro e w1 ⟨rfl, rfl⟩)
  simp [bodyPostD, Leaves, settle, results, Try.results11, go_sem]
  exact HB.out _ _ _
set_option maxRecDepth 100000 in
set_option maxHeartbeats 4000000 in
/-- What Try calls, and what it defers, together. -/
theorem try_any {w : World} {bp f n df : Nat} {x : Int} {dc : Array Value} {T : Int → World → Prop} (he : ∀ w, (callFunc df dc).run Try.prog w = .ok (.enter df dc) w) (hf : f < 16) (hc : w.cell? ⟨bp, 3 + f, none⟩ = some (.int .u64 x))
    (HM : ∀ w1, Below w.heap.size w w1 → Calls Try.prog 34 #[.pointer (some ⟨bp, 0, none⟩)] w1 fun e w' => e = .returned (.int .i64 (n : Int)) ∧ w' = w1)
    (HD : ∀ w4, Below w.heap.size w w4 → w4.heap.size = w.heap.size + 4 → w4.cell? ⟨w.heap.size, 0, none⟩ = some (.pointer (some ⟨bp, 0, none⟩)) → w4.cell? ⟨w.heap.size + 1, 0, none⟩ = some (.int .u8 f) → w4.cell? ⟨w.heap.size + 3, 0, none⟩ = some (.int .i64 (n : Int)) → w4.cell? ⟨w.heap.size + 2, 0, none⟩ = some (.int .i64 1) → w4.frozen? ⟨w.heap.size + 2, 0, none⟩ = false →
      Calls Try.prog df dc w4 fun e w5 => ∃ E, e = .returned (.int .i64 E) ∧ (w5.cell? ⟨w.heap.size + 2, 0, none⟩ = some (.int .i64 1) ∧ w5.frozen? ⟨w.heap.size + 2, 0, none⟩ = false) ∧
        CallsD Try.prog 35 #[.pointer (some ⟨w.heap.size + 2, 0, none⟩), .pointer (some ⟨w.heap.size, 0, none⟩), .pointer (some ⟨w.heap.size + 3, 0, none⟩), .pointer (some ⟨w.heap.size + 1, 0, none⟩)] .returning (w5.setCell ⟨w.heap.size + 2, 0, none⟩ (.int .i64 E)) fun e' u' w7 => e' = .returned (.tuple #[]) ∧ u' = .returning ∧ w7.cell? ⟨w.heap.size + 2, 0, none⟩ = some (.int .i64 E) ∧ T E w7) :
    Calls Try.prog 11 #[.pointer (some ⟨bp, 0, none⟩), .int .u8 f, .int .u64 x, .func (.func df) #[] dc] w fun e w7 => ∃ E, e = .returned (.int .i64 E) ∧ T E w7 := by
  have h1 : (f : Int) < 16 := by omega
  have hmf : ∀ (fn : Fn) (first cap : Array Value) (w : World), (Instr.makeFunc fn first cap).run Try.prog w = .ok (.func fn first cap) w := fun _ _ _ _ => rfl
  have HB := hide (fun o1 o2 o3 => bAl (o := o3) (bAl (o := o2) (bAl (o := o1) (bMe w))))
  have lb := cell_lt hc
  have HN := hide (fun (w1 : World) (hb : Below w.heap.size w w1) => nonce_any (w := w1) hf (((bcell hb).1 _ _ lb).trans hc))
  have HMM := hide HM
  have HDD := hide HD
  clear hc HM HD
  go_enter_defers Try.func11, Try.ntmps11
  go_wp2_with fail
  refine (HN.out _ (HB.out _ _ _)).mono ?_
  rintro e w1 ⟨rfl, rfl⟩
  go_wp2_with fail
  refine (HMM.out _ (HB.out _ _ _)).mono ?_
  rintro e w1 ⟨rfl, rfl⟩
  go_wp2_with fail
  refine (HDD.out _ (bAl (HB.out _ _ _)) (by simp) (by simp [go_sem]) (by simp [go_sem]) (by simp [go_sem]) (by simp [go_sem]) (by simp [go_sem])).mono ?_
  rintro e w5 ⟨E, rfl, ⟨c2, f2⟩, hD⟩
  have HE := hide hD
  clear hD
  go_wp2
  refine leaves_cons (f := 35) (args := #[.pointer (some ⟨w.heap.size + 2, 0, none⟩), .pointer (some ⟨w.heap.size, 0, none⟩), .pointer (some ⟨w.heap.size + 3, 0, none⟩), .pointer (some ⟨w.heap.size + 1, 0, none⟩)]) (by simp) (by simp [go_sem]) ?_
  refine HE.out.mono ?_
  rintro e u' w7 ⟨rfl, rfl, c7, hT⟩
  simp [Leaves, settle, results, Try.results11, go_sem, c7]
  exact hT
theorem Pr.congr {W w : World} {bp n : Nat} {P : List Value} {H H' : Nat → Nat → Kvs} {N : List Int} {Fr : Nat → Prop} (p : Pr W w bp P n H N Fr) (h : ∀ s m, s < 2 → m ≤ n → H s m = H' s m) : Pr W w bp P n H' N Fr := by
  obtain ⟨⟨S, Z, mb, X, ds, a, bb, hP, hst, hne, hl, hh, s1, s2⟩, good, nl, nb, low, be⟩ := p
  exact ⟨⟨S, Z, mb, X, ds, a, bb, hP, hst, hne, hl, fun s hs => ⟨fun m hm => ((hh s hs).1 m hm).trans (h s m hs hm), (hh s hs).2⟩, s1, s2⟩, fun s m hs hm => h s m hs hm ▸ good s m hs hm, nl, nb, low, be⟩
/-- Try, of a function that does deeds to the pair: all, or nothing. -/
theorem tryGo_any {W w : World} {bp n f df : Nat} {dc : Array Value} {H : Nat → Nat → Kvs} {N : List Int} {F : Nat → Prop} {x : Int} {D : Int → Nat → (Nat → Nat → Kvs) → World → World → Prop} (he : ∀ w, (callFunc df dc).run Try.prog w = .ok (.enter df dc) w) (p : Pr W w bp [] n H N F) (hf : f < 16) (hx : N[f]? = some x) (hx1 : x + 1 < 18446744073709551616)
    (HD : ∀ w4, Below w.heap.size w w4 → w4.heap.size = w.heap.size + 4 → Pr W w4 bp [] n H N (fun k => F k ∨ (w.heap.size ≤ k ∧ k < w.heap.size + 4)) → Calls Try.prog df dc w4 fun e w5 => ∃ E n' H', e = .returned (.int .i64 E) ∧ Pr W w5 bp [] n' H' N (fun k => F k ∨ (w.heap.size ≤ k ∧ k < w.heap.size + 4)) ∧ n ≤ n' ∧ n' ≤ 9000 ∧ (∀ s m, s < 2 → m ≤ n → H' s m = H s m) ∧ (∀ k, w.heap.size ≤ k → k < w.heap.size + 4 → w5.heap[k]? = w4.heap[k]?) ∧ D E n' H' w4 w5) :
    Calls Try.prog 11 #[.pointer (some ⟨bp, 0, none⟩), .int .u8 f, .int .u64 x, .func (.func df) #[] dc] w fun e w7 => ∃ E n' H' w4 w5, e = .returned (.int .i64 E) ∧ Below w.heap.size w w4 ∧ D E n' H' w4 w5 ∧ Kp F w5 w7 ∧ (E = 0 → Pr W w7 bp [] 0 (fun s _ => H' s n') (N.set f (x + 1)) F) ∧ (E ≠ 0 → Pr W w7 bp [] n H N F) := by
  have hx0 := p.nb x (List.mem_of_getElem? hx)
  refine (try_any (n := n) (T := fun E w7 => ∃ n' H' w4 w5, Below w.heap.size w w4 ∧ D E n' H' w4 w5 ∧ Kp F w5 w7 ∧ (E = 0 → Pr W w7 bp [] 0 (fun s _ => H' s n') (N.set f (x + 1)) F) ∧ (E ≠ 0 → Pr W w7 bp [] n H N F)) he hf (p.cell hx) (fun w1 hb => ?_) (fun w4 hb hz c0 c1 c3 c2 f2 => ?_)).mono ?_
  · refine (mark14_any (p.below hb)).mono ?_
    rintro e w' ⟨rfl, rfl⟩
    exact ⟨by simp, rfl⟩
  · refine (HD w4 hb hz (p.add hb fun k hk => ⟨hk.1, by omega⟩)).mono ?_
    rintro e w5 ⟨E, n', H', rfl, p5, h1, h2, h3, kp, d⟩
    have kc : ∀ i o, i < 4 → w5.cell? ⟨w.heap.size + i, o, none⟩ = w4.cell? ⟨w.heap.size + i, o, none⟩ := fun i o hi => World.cell?_of_block (w := w4) (a := ⟨w.heap.size + i, o, none⟩) (kp (w.heap.size + i) (by omega) (by omega))
    have d2 : w5.cell? ⟨w.heap.size + 2, 0, none⟩ = some (.int .i64 1) := (kc 2 0 (by omega)).trans c2
    have d0 : w5.cell? ⟨w.heap.size, 0, none⟩ = some (.pointer (some ⟨bp, 0, none⟩)) := (kc 0 0 (by omega)).trans c0
    have d1 : w5.cell? ⟨w.heap.size + 1, 0, none⟩ = some (.int .u8 f) := (kc 1 0 (by omega)).trans c1
    have d3 : w5.cell? ⟨w.heap.size + 3, 0, none⟩ = some (.int .i64 (n : Int)) := (kc 3 0 (by omega)).trans c3
    have hf2 : w5.frozen? ⟨w.heap.size + 2, 0, none⟩ = false := (World.frozen?_of_block (w := w4) (a := ⟨w.heap.size + 2, 0, none⟩) (kp (w.heap.size + 2) (by omega) (by omega))).trans f2
    refine ⟨E, rfl, ⟨d2, hf2⟩, ?_⟩
    obtain ⟨w6, hw6⟩ : ∃ w6, w5.setCell ⟨w.heap.size + 2, 0, none⟩ (.int .i64 E) = w6 := ⟨_, rfl⟩
    have ho : ∀ k, k ≠ w.heap.size + 2 → w6.heap[k]? = w5.heap[k]? := fun k hk => by rw [← hw6]; exact Below.heap_setCell _ _ _ _ hk
    have hz6 : w6.heap.size = w5.heap.size := by rw [← hw6]; simp [World.setCell]
    have e2 : w6.cell? ⟨w.heap.size + 2, 0, none⟩ = some (.int .i64 E) := by rw [← hw6]; simp [go_sem, d2]
    have ec : ∀ i o, i ≠ 2 → w6.cell? ⟨w.heap.size + i, o, none⟩ = w5.cell? ⟨w.heap.size + i, o, none⟩ := fun i o hi => World.cell?_of_block (w := w5) (a := ⟨w.heap.size + i, o, none⟩) (ho (w.heap.size + i) (by omega))
    have e0 := (ec 0 0 (by omega)).trans d0
    have e1 := (ec 1 0 (by omega)).trans d1
    have e3 := (ec 3 0 (by omega)).trans d3
    have hWw := p.be.size
    have p6 : Pr W w6 bp [] n' H' N (fun k => F k ∨ (w.heap.size ≤ k ∧ k < w.heap.size + 4)) := p5.turn (F := fun k => k = w.heap.size + 2) (fun k hk => ⟨.inr (by omega), by omega⟩) (fun k v hk hv b e => by subst hk; rw [d2] at hv; cases hv; cases e) (by rw [hz6]; exact Nat.le_refl _) (fun k _ hk => ho k hk) (by rw [← hw6]; exact p5.be.setCell (by simp; omega) _)
    have K56 : Kp F w5 w6 := ⟨by rw [hz6]; exact Nat.le_refl _, fun k hk => ho k (by have := p.low k hk; omega)⟩
    rw [hw6]
    by_cases hE : E = 0
    · subst hE
      refine (endYes_any (gm := w.heap.size + 3) p6 (.inr (by omega)) (.inr (by omega)) hf hx ⟨hx0.1, hx1⟩ e2 e0 e1).mono ?_
      rintro e u' w7 ⟨rfl, rfl, p7, k7⟩
      exact ⟨rfl, rfl, (k7.cell (.inr (by omega))).trans e2, n', H', w4, w5, hb, d, K56.trans (k7.sub fun _ => .inl), fun _ => p7.sub fun _ => .inl, fun h => absurd rfl h⟩
    · refine (endNo_any (gf := w.heap.size + 1) p6 h1 h2 (.inr (by omega)) (.inr (by omega)) e2 e0 e3 hE).mono ?_
      rintro e u' w7 ⟨rfl, rfl, p7, k7⟩
      exact ⟨rfl, rfl, (k7.cell (.inr (by omega))).trans e2, n', H', w4, w5, hb, d, K56.trans (k7.sub fun _ => .inl), fun h => absurd h hE, fun _ => (p7.congr h3).sub fun _ => .inl⟩
  · rintro e w7 ⟨E, rfl, n', H', w4, w5, q1, q2, q3, q4, q5⟩
    exact ⟨E, n', H', w4, w5, rfl, q1, q2, q3, q4, q5⟩
end Go.Proofs.Ytncnilplmklccaa

/- The contract of pair's New over this translation. -/
namespace Go.Proofs.Ytncnilplmklccaa
set_option linter.unusedSimpArgs false
set_option linter.unusedVariables false
open Go.RowKit Go.Lib
attribute [local go_sem] setCell_drewN alloc_drewN

/-- The maps of k books, and what stands behind their journal. -/
def nA (a : Nat → Nat) : Nat → List Nat
  | 0 => []
  | k + 1 => a k :: nA a k
def nE (bb : Nat → Nat) (k : Nat) : List Value := (if 0 < k then .pointer (some ⟨bb 0, 0, none⟩) else .pointer none) :: (if 1 < k then .pointer (some ⟨bb 1, 0, none⟩) else .pointer none) :: (List.replicate 16 (0 : Int)).map (fun n => .int .u64 n)
/-- k books were made of a new pair's journal. -/
structure NewS (w0 w : World) (k : Nat) : Prop where
  ex : ∃ (S Z : Nat → Prop) (mb : Nat → Nat) (X : Nat → Kvs) (a bb : Nat → Nat) (hP : ([] : List Value).length ≤ 100), St w S Z ⟨w0.heap.size, [], nE bb k, hP⟩ (nA a k) mb X [] ∧ (∀ s, s < k → w.cell? ⟨bb s, 0, none⟩ = some (.pointer (some ⟨a s, 0, none⟩)) ∧ ¬ S (bb s) ∧ X (a s) = [] ∧ a s < w.heap.size ∧ w0.heap.size ≤ bb s) ∧ (∀ s t, s < t → t < k → a s ≠ a t) ∧ ∀ j, S j → w0.heap.size ≤ j
  be : Below w0.heap.size w0 w
theorem NewS.next {w0 w : World} {k : Nat} (h : NewS w0 w k) (hk : k < 2) :
    w.frozen? ⟨w0.heap.size, 1 + k, none⟩ = false ∧ w.cell? ⟨w0.heap.size, 1 + k, none⟩ = some (.pointer none) ∧
    Calls Try.prog 25 #[.pointer (some ⟨w0.heap.size, 0, none⟩)] w fun e w1 => ∃ b, e = .returned (.pointer (some ⟨b, 0, none⟩)) ∧ w1.frozen? ⟨w0.heap.size, 1 + k, none⟩ = false ∧ w1.cell? ⟨w0.heap.size, 1 + k, none⟩ = some (.pointer none) ∧ NewS w0 (w1.setCell ⟨w0.heap.size, 1 + k, none⟩ (.pointer (some ⟨b, 0, none⟩))) (k + 1) := by
  obtain ⟨⟨S, Z, mb, X, a, bb, hP, hs, hc, hne, hS⟩, be⟩ := h
  have hE : ∀ bb : Nat → Nat, (nE bb k)[k]? = some (.pointer none) := fun bb => by rcases (show k = 0 ∨ k = 1 by omega) with rfl | rfl <;> simp [nE]
  have h0 := hs.jf (1 + k)
  have h1 := hs.ext k _ (hE bb)
  rw [Nat.add_comm k 1] at h1
  refine ⟨h0, h1, (bnew_any hs).mono ?_⟩
  rintro e w1 ⟨b, a', S', Z', mb', rfl, ⟨l1, l2, l3⟩, cb, nb, hs', M, hb⟩
  have g1 := hs'.ext k _ (hE bb)
  rw [Nat.add_comm k 1] at g1
  refine ⟨b, rfl, hs'.jf _, g1, ?_⟩
  obtain ⟨q1, q2⟩ := hs'.extSet (i := k) (hE bb) (.pointer (some ⟨b, 0, none⟩))
  rw [Nat.add_comm k 1] at q1 q2
  have lj : w0.heap.size < w.heap.size := hs.low _ hs.jS
  have hA : nA (fun s => if s = k then a' else a s) (k + 1) = a' :: nA a k := by
    rcases (show k = 0 ∨ k = 1 by omega) with rfl | rfl <;> simp [nA]
  have hEE : (nE bb k).set k (.pointer (some ⟨b, 0, none⟩)) = nE (fun s => if s = k then b else bb s) (k + 1) := by
    rcases (show k = 0 ∨ k = 1 by omega) with rfl | rfl <;> simp [nE]
  have sz : (w1.setCell ⟨w0.heap.size, 1 + k, none⟩ (.pointer (some ⟨b, 0, none⟩))).heap.size = w1.heap.size := by simp [World.setCell]
  refine ⟨⟨S', Z', mb', upX X a' [], (fun s => if s = k then a' else a s), (fun s => if s = k then b else bb s), hP, ?_, fun s hs2 => ?_, fun s t hst htk => ?_, fun j hj => ?_⟩, ?_⟩
  · rw [hA, ← hEE]; exact q1
  · by_cases e : s = k
    · subst e
      simp only [if_true]
      refine ⟨(World.cell?_of_block (w := w1) (a := ⟨b, 0, none⟩) (q2.block b l2 nb)).trans cb, nb, upX_same _ _ _, ?_, by omega⟩
      rw [sz]
      have := hs'.low a' (hs'.stat _ (hs'.box a' (List.mem_cons_self)).1)
      exact this
    · simp only [e, if_false]
      obtain ⟨p1, p2, p3, p4, p5⟩ := hc s (by omega)
      have hn : ¬ S' (bb s) := fun e2 => by
        rcases M.own _ e2 with e3 | e3
        · exact p2 e3
        · have := cell_lt p1; omega
      have c1 : w1.cell? ⟨bb s, 0, none⟩ = some (.pointer (some ⟨a s, 0, none⟩)) := ((bcell hb).1 _ _ (cell_lt p1)).trans p1
      exact ⟨(World.cell?_of_block (w := w1) (a := ⟨bb s, 0, none⟩) (q2.block _ (cell_lt c1) hn)).trans c1, hn, by rw [upX_other X (show a s ≠ a' by omega)]; exact p3, by rw [sz]; have := hb.size; omega, p5⟩
  · by_cases e : t = k
    · subst e
      have e2 : ¬ s = t := by omega
      simp only [e2, if_true, if_false]
      have := (hc s hst).2.2.2.1
      omega
    · have e2 : ¬ s = k := by omega
      simp only [e, e2, if_false]
      exact hne s t hst (by omega)
  · rcases M.own j hj with e | e
    · exact hS j e
    · omega
  · exact (bOn be hb).setCell (Nat.le_refl _) _
theorem NewS.done {W w0 w : World} (h : NewS w0 w 2) (hW : Below W.heap.size W w0) {Fr : Nat → Prop} (hF : ∀ k, Fr k → k < w0.heap.size) : Pr W w w0.heap.size [] 0 (fun _ _ => []) (List.replicate 16 0) Fr ∧ Kp Fr w0 w := by
  obtain ⟨⟨S, Z, mb, X, a, bb, hP, hs, hc, hne, hS⟩, be⟩ := h
  refine ⟨⟨⟨S, Z, mb, X, [], a, bb, hP, hs, hne 0 1 (by omega) (by omega), rfl, fun s h2 => ?_, fun k hk => Nat.le_trans hW.size (hS k hk), fun k hk => ?_⟩, fun s m _ _ => ⟨Good.nil, fun t => ?_⟩, by simp, fun x hx => ?_, fun k hk => Nat.lt_of_lt_of_le (hF k hk) be.size, bOn hW be⟩, be.size, fun k hk => be.block k (hF k hk)⟩
  · obtain ⟨q1, q2, q3, _⟩ := hc s h2
    refine ⟨fun m hm => ?_, q1, q2⟩
    rw [List.drop_nil, undoN_nil]
    exact q3
  · have := hF k hk
    have h0 := (hc 0 (by omega)).2.2.2.2
    have h1 := (hc 1 (by omega)).2.2.2.2
    exact ⟨fun hk2 => by have := hS k hk2; omega, by omega, by omega⟩
  · rw [sup_nil]; exact In.zero
  · have := (List.mem_replicate.1 hx).2; omega
set_option maxHeartbeats 4000000 in
theorem new14_any {W w : World} (hW : Below W.heap.size W w) {Fr : Nat → Prop} (hF : ∀ k, Fr k → k < w.heap.size) :
    Calls Try.prog 8 #[] w fun e w' => e = .returned (.pointer (some ⟨w.heap.size, 0, none⟩)) ∧ Pr W w' w.heap.size [] 0 (fun _ _ => []) (List.replicate 16 0) Fr ∧ Kp Fr w w' := by
  obtain ⟨w1, hw1⟩ : ∃ w1, w.alloc (.cells #[.slice none 0 0, .pointer none, .pointer none, .int .u64 0, .int .u64 0, .int .u64 0, .int .u64 0, .int .u64 0, .int .u64 0, .int .u64 0, .int .u64 0, .int .u64 0, .int .u64 0, .int .u64 0, .int .u64 0, .int .u64 0, .int .u64 0, .int .u64 0, .int .u64 0] 66) = w1 := ⟨_, rfl⟩
  have N0 : Hid (NewS w w1 0) := by
    rw [← hw1]
    refine hide ⟨⟨_, _, fun _ => 0, _, fun _ => 0, fun _ => 0, by simp, St.fresh (nE (fun _ => 0) 0) (fun _ => 0) (by simp [go_sem]) (fun o => by simp [go_sem]) (fun i v hv => ?_), fun s h => absurd h (Nat.not_lt_zero _), fun s t _ h => absurd h (Nat.not_lt_zero _), fun j hj => by subst hj; exact Nat.le_refl _⟩, bAl (bMe w)⟩
    have hi : i < 18 := by have := (List.getElem?_eq_some_iff.1 hv).1; simpa [nE] using this
    rw [World.cell?_alloc_at _ _ _ _ rfl]
    rw [← hv]
    rcases (show i = 0 ∨ i = 1 ∨ i = 2 ∨ i = 3 ∨ i = 4 ∨ i = 5 ∨ i = 6 ∨ i = 7 ∨ i = 8 ∨ i = 9 ∨ i = 10 ∨ i = 11 ∨ i = 12 ∨ i = 13 ∨ i = 14 ∨ i = 15 ∨ i = 16 ∨ i = 17 by omega) with rfl | rfl | rfl | rfl | rfl | rfl | rfl | rfl | rfl | rfl | rfl | rfl | rfl | rfl | rfl | rfl | rfl | rfl <;> rfl
  go_enter Try.func8, Try.ntmps8
  go_wp2
  try rw [hw1]
  clear hw1
  go_loopw [5] (fun i wr => ∃ k : Nat, k ≤ 2 ∧ i = .int .i64 k ∧ NewS w wr k) (fun i _ => (2 - intOf i).toNat)
  case atStart => exact ⟨0, by omega, rfl, N0.out⟩
  case round =>
    obtain ⟨k, hk, rfl, hn⟩ := hrel
    by_cases hlt : k < 2
    · obtain ⟨f1, c1, hC⟩ := (NewS.next ⟨hn.ex, hn.be⟩ hlt)
      have HC := hide ((NewS.next (w := wr.drew) ⟨by obtain ⟨S, Z, mb, X, a, bb, hP, hs, hc, hne, hS⟩ := hn.ex; exact ⟨S, Z, mb, X, a, bb, hP, hs.below (bMe wr).drew, hc, hne, hS⟩, hn.be.drew⟩ hlt).2.2)
      clear hn hC
      have hk2 : (k : Int) < 2 := by omega
      go_wp2
      go_region_with (go_at_call 25; refine HC.out.mono ?_; rintro e w2 ⟨b, rfl, f2, c2, n2⟩)
      all_goals
        go_wp2
        go_roundw
        case rel => exact ⟨k + 1, by omega, by simp, n2⟩
        case measure => simp [intOf]; omega
    · obtain rfl : k = 2 := by omega
      have HN := hide (hn.done hW hF)
      clear hn
      go_wp2
      go_ret
      exact ⟨rfl, HN.out⟩
end Go.Proofs.Ytncnilplmklccaa

/- A pair where nothing is under way: each call as a law from that fact to that fact; the chapter's example. -/
namespace Go.Proofs.Ytncnilplmklccaa
set_option linter.unusedSimpArgs false
set_option linter.unusedVariables false
open Go.RowKit Go.Lib
attribute [local go_sem] setCell_drewN alloc_drewN

/-- The pair, with no deed under way: side s's book has L s, account i's next nonce is N's. -/
abbrev PQ (W w : World) (bp : Nat) (L : Nat → Kvs) (N : List Int) (Fr : Nat → Prop) : Prop := Pr W w bp [] 0 (fun s _ => L s) N Fr
theorem Pr.kp {W w w' : World} {bp n : Nat} {P : List Value} {H : Nat → Nat → Kvs} {N : List Int} {Fr : Nat → Prop} (p : Pr W w bp P n H N Fr) (hb : Below w.heap.size w w') : Kp Fr w w' := ⟨hb.size, fun k hk => hb.block k (p.low k hk)⟩
/-- Try, of a function that does nothing and answers OK. -/
theorem tryOk_any {W w : World} {bp f df : Nat} {L : Nat → Kvs} {N : List Int} {F : Nat → Prop} {x : Int} (he : ∀ w, (callFunc df #[]).run Try.prog w = .ok (.enter df #[]) w) (hd : ∀ w, Calls Try.prog df #[] w fun e w' => e = .returned (.int .i64 0) ∧ w' = w) (p : PQ W w bp L N F) (hf : f < 16) (hx : N[f]? = some x) (hx1 : x + 1 < 18446744073709551616) :
    Calls Try.prog 11 #[.pointer (some ⟨bp, 0, none⟩), .int .u8 f, .int .u64 x, .func (.func df) #[] #[]] w fun e w' => e = .returned (.int .i64 0) ∧ PQ W w' bp L (N.set f (x + 1)) F ∧ Kp F w w' := by
  refine (tryGo_any (D := fun E n' H' w4 w5 => E = 0 ∧ n' = 0 ∧ H' = (fun s _ => L s) ∧ w5 = w4) he p hf hx hx1 (fun w4 hb hz p4 => (hd w4).mono ?_)).mono ?_
  · rintro e w5 ⟨rfl, rfl⟩
    exact ⟨0, 0, _, rfl, p4, Nat.le_refl _, by omega, fun _ _ _ _ => rfl, fun _ _ _ => rfl, rfl, rfl, rfl, rfl⟩
  · rintro e w7 ⟨E, n', H', w4, w5, rfl, hb, ⟨rfl, rfl, rfl, rfl⟩, k, q, _⟩
    exact ⟨rfl, q rfl, (p.kp hb).trans k⟩
theorem lives14do_any (w : World) : Calls Try.prog 24 #[] w fun e w' => e = .returned (.int .i64 0) ∧ w' = w := by
  go_enter Try.func24, Try.ntmps24
  go_wp2
  go_ret
  exact ⟨rfl, rfl⟩
theorem enters_lives : ∀ w, (callFunc 24 #[]).run Try.prog w = .ok (.enter 24 #[]) w := fun w => enters_of Try.func24 (by kernel_rfl) rfl #[] w
set_option maxHeartbeats 1000000 in
theorem lives14_any (w : World) : Calls Try.prog 6 #[] w fun e w' => e = .returned (.bool true) ∧ Below w.heap.size w w' := by
  have HN := hide (new14_any (bMe w) (Fr := fun _ => False) (fun k h => h.elim))
  obtain ⟨bp, hbp⟩ : ∃ bp, w.heap.size = bp := ⟨_, rfl⟩
  rw [hbp] at HN
  rw [hbp]
  go_enter Try.func6, Try.ntmps6
  go_wp2_with fail
  refine HN.out.mono ?_
  clear HN
  rintro e w1 ⟨rfl, p1, _⟩
  obtain ⟨bj, b0, Fr', cb, _⟩ := p1.side (s := 0) (by omega)
  have C := hide (book14_any (s := 0) (by omega) cb)
  have C2 := hide (tryOk_any enters_lives lives14do_any p1 (f := 0) (x := 0) (by omega) rfl (by omega))
  clear p1 cb
  go_wp2_with fail
  refine C.out.mono ?_
  clear C
  rintro e w2 ⟨rfl, rfl⟩
  go_wp2_with fail
  refine C2.out.mono ?_
  clear C2
  rintro e w3 ⟨rfl, p3, _⟩
  have C := hide (tryNonce_any (nn := 0) (x := 1) (dv := .func (.func 24) #[] #[]) (f := 0) (by omega) (p3.cell rfl) (by omega))
  have P3 := hide p3
  clear p3
  go_wp2_with fail
  refine C.out.mono ?_
  clear C
  rintro e w4 ⟨rfl, hb4⟩
  have C2 := hide (tryOk_any enters_lives lives14do_any (P3.out.below hb4) (f := 0) (x := 1) (by omega) rfl (by omega))
  clear hb4 P3
  go_wp2_with fail
  refine C2.out.mono ?_
  clear C2
  rintro e w5 ⟨rfl, p5, _⟩
  have C := hide (nonce_any (a := 0) (by omega) (p5.cell (f := 0) rfl))
  have P5 := hide p5.be
  clear p5
  go_wp2_with fail
  refine C.out.mono ?_
  clear C
  rintro e w6 ⟨rfl, rfl⟩
  go_wp2
  go_ret
  rw [← hbp]
  exact ⟨rfl, P5.out⟩
end Go.Proofs.Ytncnilplmklccaa
