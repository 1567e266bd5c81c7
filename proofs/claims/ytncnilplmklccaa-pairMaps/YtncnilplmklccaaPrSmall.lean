/- The contracts of pair's Journal, Book and Nonce over this translation; a pair's journal: Mark, Back, Keep; its nonces. -/
import Derived.Test.YtncnilplmklccaaPrState
namespace Go.Proofs.Ytncnilplmklccaa
set_option linter.unusedSimpArgs false
set_option linter.unusedVariables false
open Go.RowKit Go.Lib
attribute [local go_sem] setCell_drewN alloc_drewN

theorem journal14_any (w : World) (bp : Nat) : Calls Try.prog 15 #[.pointer (some ⟨bp, 0, none⟩)] w fun e w' => e = .returned (.pointer (some ⟨bp, 0, none⟩)) ∧ w' = w := by
  go_enter Try.func15, Try.ntmps15
  go_wp2
  go_ret
  exact ⟨rfl, rfl⟩
theorem book14_any {w : World} {bp s : Nat} {v : Value} (hs : s < 2) (hc : w.cell? ⟨bp, 1 + s, none⟩ = some v) :
    Calls Try.prog 19 #[.pointer (some ⟨bp, 0, none⟩), .int .u8 s] w fun e w' => e = .returned v ∧ w' = w := by
  rcases (show s = 0 ∨ s = 1 by omega) with rfl | rfl
  · go_enter Try.func19, Try.ntmps19
    go_wp2
    go_ret
    exact ⟨rfl, rfl⟩
  · go_enter Try.func19, Try.ntmps19
    go_wp2
    go_ret
    exact ⟨rfl, rfl⟩
theorem bookNo_any {w : World} {bp s : Nat} (hs : 2 ≤ s) (hs2 : s < 256) :
    Calls Try.prog 19 #[.pointer (some ⟨bp, 0, none⟩), .int .u8 s] w fun e w' => e = .returned (.pointer none) ∧ w' = w := by
  have h1 : (2 : Int) ≤ (s : Int) := by omega
  have h2 : (s : Int) < 256 := by omega
  go_enter Try.func19, Try.ntmps19
  go_wp2
  go_ret
  exact ⟨rfl, rfl⟩
theorem nonce_any {w : World} {bp a : Nat} {v : Value} (ha : a < 16) (hc : w.cell? ⟨bp, 3 + a, none⟩ = some v) :
    Calls Try.prog 13 #[.pointer (some ⟨bp, 0, none⟩), .int .u8 a] w fun e w' => e = .returned v ∧ w' = w := by
  have h1 : (a : Int) < 16 := by omega
  go_enter Try.func13, Try.ntmps13
  go_wp2
  go_ret
  exact ⟨rfl, rfl⟩
theorem nonceNo_any {w : World} {bp a : Nat} (ha : 16 ≤ a) (ha2 : a < 256) :
    Calls Try.prog 13 #[.pointer (some ⟨bp, 0, none⟩), .int .u8 a] w fun e w' => e = .returned (.int .u64 0) ∧ w' = w := by
  have h1 : (16 : Int) ≤ (a : Int) := by omega
  have h2 : (a : Int) < 256 := by omega
  go_enter Try.func13, Try.ntmps13
  go_wp2
  go_ret
  exact ⟨rfl, rfl⟩
/-- One of the cells behind a journal is written. -/
theorem St.extSet {w : World} {S Z : Nat → Prop} {bj : Jb} {A : List Nat} {mb : Nat → Nat} {X : Nat → Kvs} {ds : Deeds} (h : St w S Z bj A mb X ds) {i : Nat} {u : Value} (hi : bj.E[i]? = some u) (v : Value) :
    St (w.setCell ⟨bj.b, i + 1, none⟩ v) S Z ⟨bj.b, bj.P, bj.E.set i v, bj.sm⟩ A mb X ds ∧ Mv S S w (w.setCell ⟨bj.b, i + 1, none⟩ v) := by
  obtain ⟨low, stat, jS, jZ, jf, ext, ⟨q, us, r1, r2, r3, r4, r5⟩, box, map, inj, srt, mine⟩ := h
  have hz : (w.setCell ⟨bj.b, i + 1, none⟩ v).heap.size = w.heap.size := by simp [World.setCell]
  have ho : ∀ k, k ≠ bj.b → (w.setCell ⟨bj.b, i + 1, none⟩ v).heap[k]? = w.heap[k]? := fun k hk => Below.heap_setCell _ _ _ _ hk
  have c0 := ext i u hi
  have zo : ∀ k, Z k → (w.setCell ⟨bj.b, i + 1, none⟩ v).heap[k]? = w.heap[k]? := fun k hk => ho k fun e => jZ (e ▸ hk)
  refine ⟨⟨fun k hk => by rw [hz]; exact low k hk, stat, jS, jZ, fun o => by simp [go_sem, jf], fun j x hx => ?_, ⟨q, us, by simp [go_sem, r1], r2.of (fun b hb => ho b (r3 b hb).2.2), r3, r4, fun j d hd => ?_⟩, fun a ha => ?_, fun a ha => ?_, inj, srt, mine⟩, ⟨rfl, rfl, rfl, by rw [hz]; exact Nat.le_refl _, fun k _ hk => ho k (by rintro rfl; exact hk jS), fun k hk => .inl hk⟩⟩
  · have hli := (List.getElem?_eq_some_iff.1 hi).1
    rw [List.getElem?_set] at hx
    by_cases e : i = j
    · subst e
      simp [hli] at hx
      subst hx
      simp [go_sem, c0]
    · simp [e] at hx
      have c1 := ext j x hx
      have e2 : ¬ j = i := fun e2 => e e2.symm
      simp [go_sem, c1, e, e2]
  · obtain ⟨y, hy, hd'⟩ := r5 j d hd
    exact ⟨y, hy, hd'.of zo fun _ => id⟩
  · obtain ⟨b1, b2, b3⟩ := box a ha
    exact ⟨b1, b2, b3.of (zo a b1)⟩
  · exact (map a ha).of _ (ho _ ((map a ha).ne r1))
theorem Mv.kp {S S' Fr : Nat → Prop} {w w' : World} (m : Mv S S' w w') (low : ∀ k, Fr k → k < w.heap.size) (far : ∀ k, Fr k → ¬ S k) : Kp Fr w w' := ⟨m.size, fun k hk => m.block k (low k hk) (far k hk)⟩
/-- An account's next nonce. -/
theorem Pr.cell {W w : World} {bp n : Nat} {P : List Value} {H : Nat → Nat → Kvs} {N : List Int} {Fr : Nat → Prop} (p : Pr W w bp P n H N Fr) {f : Nat} {x : Int} (hx : N[f]? = some x) : w.cell? ⟨bp, 3 + f, none⟩ = some (.int .u64 x) := by
  obtain ⟨⟨S, Z, mb, X, ds, a, bb, hP, hst, _⟩, _⟩ := p
  have := hst.ext (f + 2) (.int .u64 x) (by simp [pE, hx])
  rw [show 3 + f = f + 2 + 1 by omega]
  exact this
theorem Pr.far {W w : World} {bp n : Nat} {P : List Value} {H : Nat → Nat → Kvs} {N : List Int} {Fr : Nat → Prop} (p : Pr W w bp P n H N Fr) : ¬ Fr bp ∧ W.heap.size ≤ bp ∧ bp < w.heap.size ∧ ∀ o, w.frozen? ⟨bp, o, none⟩ = false := by
  obtain ⟨⟨S, Z, mb, X, ds, a, bb, hP, hst, hne, hl, hh, s1, s2⟩, _⟩ := p
  exact ⟨fun e => (s2 _ e).1 hst.jS, s1 _ hst.jS, hst.low _ hst.jS, hst.jf⟩
theorem Pr.nonce {W w : World} {bp n : Nat} {P : List Value} {H : Nat → Nat → Kvs} {N : List Int} {Fr : Nat → Prop} (p : Pr W w bp P n H N Fr) {f : Nat} (hf : f < 16) {x : Int} (hx : 0 ≤ x ∧ x < 18446744073709551616) :
    Pr W (w.setCell ⟨bp, 3 + f, none⟩ (.int .u64 x)) bp P n H (N.set f x) Fr ∧ Kp Fr w (w.setCell ⟨bp, 3 + f, none⟩ (.int .u64 x)) := by
  obtain ⟨⟨S, Z, mb, X, ds, a, bb, hP, hst, hne, hl, hh, s1, s2⟩, good, nl, nb, low, be⟩ := p
  obtain ⟨y, hy⟩ : ∃ y, N[f]? = some y := ⟨N[f]'(by omega), by simp⟩
  obtain ⟨q1, q2⟩ := hst.extSet (i := f + 2) (u := .int .u64 y) (by simp [pE, hy]) (.int .u64 x)
  rw [show f + 2 + 1 = 3 + f by omega] at q1 q2
  have eE : (pE (bb 0) (bb 1) N).set (f + 2) (.int .u64 x) = pE (bb 0) (bb 1) (N.set f x) := by simp [pE, List.map_set]
  refine ⟨⟨⟨S, Z, mb, X, ds, a, bb, hP, ?_, hne, hl, fun s hs => ?_, s1, s2⟩, good, by simpa using nl, fun z hz => ?_, fun k hk => Nat.lt_of_lt_of_le (low k hk) q2.size, q2.below be s1⟩, q2.kp low fun k hk => (s2 k hk).1⟩
  · rw [← eE]; exact q1
  · obtain ⟨p1, p2, p3⟩ := hh s hs
    exact ⟨p1, (World.cell?_of_block (w := w) (a := ⟨bb s, 0, none⟩) (q2.block _ (cell_lt p2) p3)).trans p2, p3⟩
  · rcases List.mem_or_eq_of_mem_set hz with e | rfl
    · exact nb z e
    · exact hx
theorem mark14_any {W w : World} {bp n : Nat} {P : List Value} {H : Nat → Nat → Kvs} {N : List Int} {Fr : Nat → Prop} (p : Pr W w bp P n H N Fr) :
    Calls Try.prog 34 #[.pointer (some ⟨bp, 0, none⟩)] w fun e w' => e = .returned (.int .i64 (P.length + n : Nat)) ∧ w' = w := by
  obtain ⟨⟨S, Z, mb, X, ds, a, bb, hP, hst, hne, rfl, _⟩, _⟩ := p
  exact mark_any hst
theorem back14_any {W w : World} {bp n : Nat} {H : Nat → Nat → Kvs} {N : List Int} {Fr : Nat → Prop} (p : Pr W w bp [] n H N Fr) {m : Nat} (hm : m ≤ n) (hn : n ≤ 9000) :
    Calls Try.prog 36 #[.pointer (some ⟨bp, 0, none⟩), .int .i64 (m : Int)] w fun e w' => e = .returned (.bool true) ∧ Pr W w' bp [] m H N Fr ∧ Kp Fr w w' := by
  obtain ⟨⟨S, Z, mb, X, ds, a, bb, hP, hst, hne, hl, hh, s1, s2⟩, good, nl, nb, low, be⟩ := p
  have e0 : ∀ s, s < 2 → X (a s) = H s n := fun s hs => by have := (hh s hs).1 n (Nat.le_refl n); rwa [List.drop_of_length_le (by omega)] at this
  have hmem : ∀ s, s < 2 → a s ∈ [a 1, a 0] := fun s hs => by rcases (show s = 0 ∨ s = 1 by omega) with rfl | rfl <;> simp
  refine (back_any hst.only rfl m (by omega) (by omega) (fun c => ?_)).mono ?_
  · by_cases e : c ∈ [a 1, a 0]
    · simp only [e, if_true]
      simp at e
      rcases e with rfl | rfl
      · rw [e0 1 (by omega)]; have := (good 1 n (by omega) (Nat.le_refl n)).1.few; omega
      · rw [e0 0 (by omega)]; have := (good 0 n (by omega) (Nat.le_refl n)).1.few; omega
    · simp only [e, if_false]; exact Nat.zero_le _
  · rintro e w' ⟨rfl, q1, q2⟩
    refine ⟨rfl, ⟨⟨S, Z, mb, _, _, a, bb, hP, q1, hne, by rw [List.length_take]; omega, fun s hs => ?_, s1, s2⟩, fun s k hs hk => good s k hs (by omega), nl, nb, fun k hk => Nat.lt_of_lt_of_le (low k hk) q2.size, q2.below be s1⟩, q2.kp low fun k hk => (s2 k hk).1⟩
    obtain ⟨p1, p2, p3⟩ := hh s hs
    refine ⟨fun k hk => ?_, (World.cell?_of_block (w := w) (a := ⟨bb s, 0, none⟩) (q2.block _ (cell_lt p2) p3)).trans p2, p3⟩
    rw [← undoN_append, ← p1 k (by omega)]
    rw [show List.drop k (List.take m ds) ++ List.drop m ds = List.drop k ds from ?_]
    · exact undoN_at _ _ _ _ (by simp only [hmem s hs, if_true])
    · rw [List.drop_take]
      have : List.drop m ds = List.drop (m - k) (List.drop k ds) := by rw [List.drop_drop]; congr 1; omega
      rw [this, List.take_append_drop]
theorem keep14_any {W w : World} {bp n : Nat} {P : List Value} {H : Nat → Nat → Kvs} {N : List Int} {Fr : Nat → Prop} (p : Pr W w bp P n H N Fr) :
    Calls Try.prog 37 #[.pointer (some ⟨bp, 0, none⟩)] w fun e w' => e = .returned (.tuple #[]) ∧ Pr W w' bp [] 0 (fun s _ => H s n) N Fr ∧ Kp Fr w w' := by
  obtain ⟨⟨S, Z, mb, X, ds, a, bb, hP, hst, hne, hl, hh, s1, s2⟩, good, nl, nb, low, be⟩ := p
  have e0 : ∀ s, s < 2 → X (a s) = H s n := fun s hs => by have := (hh s hs).1 n (Nat.le_refl n); rwa [List.drop_of_length_le (by omega)] at this
  refine (keep_any hst).mono ?_
  rintro e w' ⟨rfl, q1, q2⟩
  refine ⟨rfl, ⟨⟨S, Z, mb, X, [], a, bb, by simp, q1, hne, rfl, fun s hs => ?_, s1, s2⟩, fun s k hs hk => good s n hs (Nat.le_refl n), nl, nb, fun k hk => Nat.lt_of_lt_of_le (low k hk) q2.size, q2.below be s1⟩, q2.kp low fun k hk => (s2 k hk).1⟩
  obtain ⟨p1, p2, p3⟩ := hh s hs
  exact ⟨fun k hk => by rw [List.drop_nil, undoN_nil, e0 s hs], (World.cell?_of_block (w := w) (a := ⟨bb s, 0, none⟩) (q2.block _ (cell_lt p2) p3)).trans p2, p3⟩
end Go.Proofs.Ytncnilplmklccaa
