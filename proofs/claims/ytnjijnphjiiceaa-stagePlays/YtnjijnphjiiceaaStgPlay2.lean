/- A round of StagePlays: each call, seen from all that it holds (gen-stgplay2.py wrote the second map's laws out of the first one's). -/
import Derived.Test.YtnjijnphjiiceaaStgIs
import Derived.Test.YtnjijnphjiiceaaStgPlay
import Derived.Test.YtnjijnphjiiceaaStgLives
import Derived.Test.YtnjijnphjiiceaaStgActs
namespace Go.Proofs.Ytnjijnphjiiceaa
set_option linter.unusedSimpArgs false
set_option linter.unusedVariables false
set_option linter.unusedSectionVars false
open Go.RowKit Go.Lib
attribute [local go_sem] setCell_drewN alloc_drewN

theorem infoArrS : (Try.prog.info? 33).map (fun i => (i.zero, i.size, i.bytes)) = some (some (.agg #[.slice none 0 0, .slice none 0 0]), 2, 48) := by kernel_rfl
/-- An act's box. -/
structure ActB (w : World) (ga : Nat) (x : AcS) : Prop where
  c0 : w.cell? ⟨ga, 0, none⟩ = some (.int .u8 x.k)
  c1 : w.cell? ⟨ga, 1, none⟩ = some (.int .i64 x.K)
  c2 : w.cell? ⟨ga, 2, none⟩ = some (.int .i64 x.V)
  c3 : w.cell? ⟨ga, 3, none⟩ = some (.int .i64 x.N)
theorem ActB.of {w w' : World} {ga : Nat} {x : AcS} (h : ActB w ga x) (hb : w'.heap[ga]? = w.heap[ga]?) : ActB w' ga x :=
  ⟨(World.cell?_of_block (w := w) (a := ⟨ga, 0, none⟩) hb).trans h.c0, (World.cell?_of_block (w := w) (a := ⟨ga, 1, none⟩) hb).trans h.c1, (World.cell?_of_block (w := w) (a := ⟨ga, 2, none⟩) hb).trans h.c2, (World.cell?_of_block (w := w) (a := ⟨ga, 3, none⟩) hb).trans h.c3⟩
/-- What stands behind each act. -/
def Play (w0 w : World) (gm gn bj a0 a1 : Nat) (X : Nat → Kvs) (ds : Deeds) (vw : Value) : Prop :=
  ∃ S Z mb N H v0 v1, St w S Z bj [a1, a0] mb X ds ∧ Hold w0 w S N gm gn a0 a1 v0 v1 (X a0) (X a1) vw H (hisL a0 a1 X ds) ∧ (∀ k, S k → w0.heap.size ≤ k) ∧ Below w0.heap.size w0 w
/-- What stands within a round. E: rows beside. -/
def Rnd (w0 w : World) (gm gn ga bj a0 a1 : Nat) (X : Nat → Kvs) (ds : Deeds) (v0 v1 : Value) (L0 L1 : Kvs) (vw : Value) (R : List (Kvs × Kvs)) (x : AcS) (E : List (Value × Kvs)) : Prop :=
  ∃ S Z mb N H, St w S Z bj [a1, a0] mb X ds ∧ Hold w0 w S N gm gn a0 a1 v0 v1 L0 L1 vw H R ∧ (N ga ∧ ActB w ga x) ∧ (∀ e ∈ E, RowN w N e.1 e.2) ∧ (∀ k, S k → w0.heap.size ≤ k) ∧ Below w0.heap.size w0 w
/-- The cells that a region looks at. -/
structure CR (gm gn ga a0 a1 : Nat) (v0 v1 : Value) (x : AcS) (w : World) : Prop where
  m0 : w.cell? ⟨gm, 0, none⟩ = some (.pointer (some ⟨a0, 0, none⟩))
  m1 : w.cell? ⟨gm, 1, none⟩ = some (.pointer (some ⟨a1, 0, none⟩))
  n0 : w.cell? ⟨gn, 0, none⟩ = some v0
  n1 : w.cell? ⟨gn, 1, none⟩ = some v1
  c1 : w.cell? ⟨ga, 1, none⟩ = some (.int .i64 x.K)
  c2 : w.cell? ⟨ga, 2, none⟩ = some (.int .i64 x.V)
theorem bound_up {Y : Nat → Kvs} {d s : Nat} (h : ∀ b, (Y b).length + d ≤ s) (a : Nat) {L : Kvs} (hL : L.length ≤ (Y a).length + 1) : ∀ b, (upX Y a L b).length + (d + 1) ≤ s + 2 := fun b => by
  by_cases e : b = a
  · rw [e, upX_same]; have := h a; omega
  · rw [upX_other _ e]; have := h b; omega
theorem delL_lt {k v : Int} {L : Kvs} (h : getL k L = some v) : (delL k L).length < L.length :=
  List.length_filter_lt_length_iff_exists.2 ⟨_, getL_some_mem h, by simp⟩
section
variable {w0 w : World} {gm gn ga bj a0 a1 : Nat} {X : Nat → Kvs} {ds : Deeds} {v0 v1 : Value} {L0 L1 : Kvs} {vw : Value} {R : List (Kvs × Kvs)} {x : AcS} {E : List (Value × Kvs)}
theorem Play.start (h : Play w0 w gm gn bj a0 a1 X ds vw) (x : AcS) (t : TypeId) : ∃ v0 v1, Rnd w0 (w.alloc (.cells #[.int .u8 x.k, .int .i64 x.K, .int .i64 x.V, .int .i64 x.N] t)) gm gn w.heap.size bj a0 a1 X ds v0 v1 (X a0) (X a1) vw (hisL a0 a1 X ds) x [] := by
  obtain ⟨S, Z, mb, N, H, v0, v1, h1, h2, h3, h4⟩ := h
  have hb : Below w.heap.size w (w.alloc (.cells #[.int .u8 x.k, .int .i64 x.K, .int .i64 x.V, .int .i64 x.N] t)) := bAl (bMe w)
  have h' := h2.below hb
  have hs : (w.alloc (.cells #[.int .u8 x.k, .int .i64 x.K, .int .i64 x.V, .int .i64 x.N] t)).heap.size = w.heap.size + 1 := by simp
  refine ⟨v0, v1, S, Z, mb, fun k => N k ∨ k = w.heap.size, H, h1.below hb, ⟨h'.cm0, h'.cm1, h'.cn0, h'.cn1, h'.fn, h'.r0.of (fun _ _ => rfl) fun _ e => .inl e, h'.r1.of (fun _ _ => rfl) fun _ e => .inl e, h'.row, h'.len, fun i y hy => ?_, fun k hk => ?_, h'.sepS, h'.sepW, h'.lo⟩, ⟨.inr rfl, ⟨by simp [go_sem], by simp [go_sem], by simp [go_sem], by simp [go_sem]⟩⟩, fun e he => by simp at he, h3, h4.trans (hb.mono h4.size)⟩
  · obtain ⟨z, e, r1, r2⟩ := h'.hist i y hy
    exact ⟨z, e, r1.of (fun _ _ => rfl) fun _ e => .inl e, r2.of (fun _ _ => rfl) fun _ e => .inl e⟩
  · rcases hk with hk | rfl
    · exact h'.sepN k hk
    · refine ⟨by omega, fun e => by have := h1.low _ e; omega, fun e => by have := h2.sepS.2.2.2.2; omega, fun e => by have := (World.ownsRow.lt h2.row _ e).2; omega⟩
theorem Play.fin (h : Play w0 w gm gn bj a0 a1 X ds vw) {k : Int} (hk : (Lit.int .i64 k).wf = true) (hl : (X a0).length ≤ 10000) : ∃ ao cap, w.cell? ⟨gm, 0, none⟩ = some (.pointer (some ⟨a0, 0, none⟩)) ∧
    (Calls Try.prog 17 #[.pointer (some ⟨a0, 0, none⟩), .int .i64 k] w fun e w' => e = .returned (.tuple #[.int .i64 (fv k (X a0)), .bool (fh k (X a0))]) ∧ Below w.heap.size w w') ∧
    ∀ w', Below w.heap.size w w' → w'.cell? ⟨gn, 0, none⟩ = some (.slice ao (X a0).length cap) ∧ Calls Try.prog 18 #[.slice ao (X a0).length cap, .int .i64 k] w' fun e w'' => e = .returned (.tuple #[.int .i64 (fv k (X a0)), .bool (fh k (X a0))]) ∧ Below w'.heap.size w' w'' := by
  obtain ⟨S, Z, mb, N, H, v0, v1, h1, h2, h3, h4⟩ := h
  have hp := h2.r0.1
  have hc := h2.cn0
  obtain ⟨ao, cap, rfl, _, _⟩ := hp.form
  exact ⟨ao, cap, h2.cm0, get_any h1 (by simp) hk, fun w' hb => ⟨(World.cell?_of_block (w := w) (a := ⟨gn, 0, none⟩) (hb.block gn h2.sepS.2.2.2.2)).trans hc, rget_any (hp.below hb) hl k⟩⟩
theorem Play.bel (h : Play w0 w gm gn bj a0 a1 X ds vw) : Below w0.heap.size w0 w := by
  obtain ⟨S, Z, mb, N, H, v0, v1, h1, h2, h3, h4⟩ := h
  exact h4
theorem Rnd.play (h : Rnd w0 w gm gn ga bj a0 a1 X ds v0 v1 (X a0) (X a1) vw (hisL a0 a1 X ds) x E) : Play w0 w gm gn bj a0 a1 X ds vw := by
  obtain ⟨S, Z, mb, N, H, h1, h2, _, _, h3, h4⟩ := h
  exact ⟨S, Z, mb, N, H, v0, v1, h1, h2, h3, h4⟩
theorem Rnd.bel (h : Rnd w0 w gm gn ga bj a0 a1 X ds v0 v1 L0 L1 vw R x E) : Below w0.heap.size w0 w := by
  obtain ⟨S, Z, mb, N, H, h1, h2, h3, h4, h5, h6⟩ := h
  exact h6
theorem Rnd.srt (h : Rnd w0 w gm gn ga bj a0 a1 X ds v0 v1 L0 L1 vw R x E) (a : Nat) : Srt kyInt (X a) := by
  obtain ⟨S, Z, mb, N, H, h1, _⟩ := h
  exact h1.srt a
theorem Rnd.mine (h : Rnd w0 w gm gn ga bj a0 a1 X ds v0 v1 L0 L1 vw R x E) : ∀ d ∈ ds, (Lit.int .i64 d.k).wf = true := by
  obtain ⟨S, Z, mb, N, H, h1, _⟩ := h
  exact fun d hd => (h1.mine d hd).2
/-- The cells that a round looks at. -/
theorem Rnd.cells (h : Rnd w0 w gm gn ga bj a0 a1 X ds v0 v1 L0 L1 vw R x E) : (w.cell? ⟨gm, 0, none⟩ = some (.pointer (some ⟨a0, 0, none⟩)) ∧ w.cell? ⟨gm, 1, none⟩ = some (.pointer (some ⟨a1, 0, none⟩))) ∧ (w.cell? ⟨gn, 0, none⟩ = some v0 ∧ w.cell? ⟨gn, 1, none⟩ = some v1 ∧ w.frozen? ⟨gn, 0, none⟩ = false ∧ w.frozen? ⟨gn, 1, none⟩ = false) ∧
    w.cell? ⟨ga, 0, none⟩ = some (.int .u8 x.k) ∧ w.cell? ⟨ga, 1, none⟩ = some (.int .i64 x.K) ∧ w.cell? ⟨ga, 2, none⟩ = some (.int .i64 x.V) ∧ w.cell? ⟨ga, 3, none⟩ = some (.int .i64 x.N) := by
  obtain ⟨S, Z, mb, N, H, h1, h2, ⟨_, h3⟩, h4, h5, h6⟩ := h
  exact ⟨⟨h2.cm0, h2.cm1⟩, ⟨h2.cn0, h2.cn1, h2.fn 0, h2.fn 1⟩, h3.c0, h3.c1, h3.c2, h3.c3⟩
theorem Rnd.cr (h : Rnd w0 w gm gn ga bj a0 a1 X ds v0 v1 L0 L1 vw R x E) : CR gm gn ga a0 a1 v0 v1 x w := by
  obtain ⟨⟨m0, m1⟩, ⟨n0, n1, _, _⟩, _, c1, c2, _⟩ := h.cells
  exact ⟨m0, m1, n0, n1, c1, c2⟩
/-- Blocks that aren't one. -/
theorem Rnd.apart (h : Rnd w0 w gm gn ga bj a0 a1 X ds v0 v1 L0 L1 vw R x E) : gm ≠ gn ∧ ga ≠ gn ∧ gm < w.heap.size ∧ gn < w.heap.size ∧ ga < w.heap.size := by
  obtain ⟨S, Z, mb, N, H, h1, h2, ⟨hg, h3⟩, h4, h5, h6⟩ := h
  obtain ⟨e1, e2, e3, e4⟩ := h2.sepN ga hg
  exact ⟨fun e => h2.sepS.2.2.1 e.symm, e3, h2.sepS.2.2.2.1, h2.sepS.2.2.2.2, e1⟩
theorem Rnd.mv' {w' : World} {X' : Nat → Kvs} {ds' : Deeds} {S S' Z' N : Nat → Prop} {mb : Nat → Nat} {H : List (Value × Value)} (h2 : Hold w0 w S N gm gn a0 a1 v0 v1 L0 L1 vw H R) (h3 : N ga ∧ ActB w ga x) (h4 : ∀ e ∈ E, RowN w N e.1 e.2) (h5 : ∀ k, S k → w0.heap.size ≤ k) (h6 : Below w0.heap.size w0 w)
    (q1 : St w' S' Z' bj [a1, a0] mb X' ds') (q2 : Mv S S' w w') : Rnd w0 w' gm gn ga bj a0 a1 X' ds' v0 v1 L0 L1 vw R x E := by
  have hN : ∀ k, N k → w'.heap[k]? = w.heap[k]? := fun k hk => q2.block k (h2.sepN k hk).1 (h2.sepN k hk).2.1
  obtain ⟨g1, g2⟩ := q2.go h6 h5
  exact ⟨S', Z', mb, N, H, q1, h2.mv q2, ⟨h3.1, h3.2.of (hN ga h3.1)⟩, fun e he => (h4 e he).of hN fun _ e => e, g2, g1⟩
theorem Rnd.below {w' : World} (h : Rnd w0 w gm gn ga bj a0 a1 X ds v0 v1 L0 L1 vw R x E) (hb : Below w.heap.size w w') : Rnd w0 w' gm gn ga bj a0 a1 X ds v0 v1 L0 L1 vw R x E := by
  obtain ⟨S, Z, mb, N, H, h1, h2, h3, h4, h5, h6⟩ := h
  exact Rnd.mv' h2 h3 h4 h5 h6 (h1.below hb) (Mv.of hb)
theorem Rnd.less (h : Rnd w0 w gm gn ga bj a0 a1 X ds v0 v1 L0 L1 vw R x E) : Rnd w0 w gm gn ga bj a0 a1 X ds v0 v1 L0 L1 vw R x [] := by
  obtain ⟨S, Z, mb, N, H, h1, h2, h3, h4, h5, h6⟩ := h
  exact ⟨S, Z, mb, N, H, h1, h2, h3, fun e he => by simp at he, h5, h6⟩
theorem Rnd.wide {w' : World} (h : Rnd w0 w gm gn ga bj a0 a1 X ds v0 v1 L0 L1 vw R x E) (hb : Below w.heap.size w w') {u : Value} {M : Kvs} (hu : PRow w' w.heap.size u M) : Rnd w0 w' gm gn ga bj a0 a1 X ds v0 v1 L0 L1 vw R x [(u, M)] := by
  obtain ⟨S, Z, mb, N, H, h1, h2, h3, h4, h5, h6⟩ := h
  obtain ⟨N', n1, n2, n3⟩ := h2.wide hb h1.low hu
  exact ⟨S, Z, mb, N', H, h1.below hb, n2, ⟨n1 _ h3.1, h3.2.of (hb.block _ (h2.sepN _ h3.1).1)⟩, fun e he => by simp at he; subst he; exact n3, h5, h6.trans (hb.mono h6.size)⟩
theorem Rnd.mark (h : Rnd w0 w gm gn ga bj a0 a1 X ds v0 v1 L0 L1 vw R x E) :
    Calls Try.prog 15 #[.pointer (some ⟨bj, 0, none⟩)] w fun e w' => e = .returned (.int .i64 ds.length) ∧ w' = w := by
  obtain ⟨S, Z, mb, N, H, h1, _⟩ := h
  exact mark_any h1
theorem Rnd.keep (h : Rnd w0 w gm gn ga bj a0 a1 X ds v0 v1 L0 L1 vw R x E) :
    Calls Try.prog 14 #[.pointer (some ⟨bj, 0, none⟩)] w fun e w' => e = .returned (.tuple #[]) ∧ Rnd w0 w' gm gn ga bj a0 a1 X [] v0 v1 L0 L1 vw R x E := by
  obtain ⟨S, Z, mb, N, H, h1, h2, h3, h4, h5, h6⟩ := h
  refine (keep_any h1).mono ?_
  rintro e w' ⟨rfl, q1, q2⟩
  exact ⟨rfl, Rnd.mv' h2 h3 h4 h5 h6 q1 q2⟩
theorem Rnd.backNo (h : Rnd w0 w gm gn ga bj a0 a1 X ds v0 v1 L0 L1 vw R x E) (n : Int) (hn : n < 0 ∨ (ds.length : Int) < n) (hds : ds.length ≤ 100000) :
    Calls Try.prog 13 #[.pointer (some ⟨bj, 0, none⟩), .int .i64 n] w fun e w' => e = .returned (.bool false) ∧ w' = w := by
  obtain ⟨S, Z, mb, N, H, h1, _⟩ := h
  exact backNo_any h1 n hn hds
theorem Rnd.back (h : Rnd w0 w gm gn ga bj a0 a1 X ds v0 v1 L0 L1 vw R x E) (n : Nat) (hn : n ≤ ds.length) (hds : ds.length ≤ 100000) (hX : ∀ a, (X a).length ≤ 100000) :
    Calls Try.prog 13 #[.pointer (some ⟨bj, 0, none⟩), .int .i64 n] w fun e w' => e = .returned (.bool true) ∧ Rnd w0 w' gm gn ga bj a0 a1 (undoN kyInt (ds.drop n) X) (ds.take n) v0 v1 L0 L1 vw R x E := by
  obtain ⟨S, Z, mb, N, H, h1, h2, h3, h4, h5, h6⟩ := h
  refine (back_any h1 n hn hds hX).mono ?_
  rintro e w' ⟨rfl, q1, q2⟩
  exact ⟨rfl, Rnd.mv' h2 h3 h4 h5 h6 q1 q2⟩
theorem Rnd.none (h : Rnd w0 w gm gn ga bj a0 a1 X ds v0 v1 L0 L1 vw R x E) : Rnd w0 w gm gn ga bj a0 a1 X ds v0 v1 L0 L1 (.slice none 0 0) [] x E := by
  obtain ⟨S, Z, mb, N, H, h1, h2, h3, h4, h5, h6⟩ := h
  exact ⟨S, Z, mb, N, [], h1, h2.none, h3, h4, h5, h6⟩
theorem Rnd.form (h : Rnd w0 w gm gn ga bj a0 a1 X ds v0 v1 L0 L1 vw R x E) : ∃ ao cap, vw = .slice ao R.length cap ∧ R.length ≤ cap := by
  obtain ⟨S, Z, mb, N, H, h1, h2, h3, h4, h5, h6⟩ := h
  rw [← h2.len]
  exact h2.form
theorem Rnd.cut {ao : Option Addr} {cap : Nat} (h : Rnd w0 w gm gn ga bj a0 a1 X ds v0 v1 L0 L1 (.slice ao R.length cap) R x E) {n : Nat} (hn : n ≤ R.length) : Rnd w0 w gm gn ga bj a0 a1 X ds v0 v1 L0 L1 (.slice ao n cap) (R.take n) x E := by
  obtain ⟨S, Z, mb, N, H, h1, h2, h3, h4, h5, h6⟩ := h
  rw [← h2.len] at h2 hn
  exact ⟨S, Z, mb, N, H.take n, h1, h2.cut hn, h3, h4, h5, h6⟩
/-- What was, out of the row. -/
theorem Rnd.was {ao : Option Addr} {cap : Nat} (h : Rnd w0 w gm gn ga bj a0 a1 X ds v0 v1 L0 L1 (.slice ao R.length cap) R x E) {n : Nat} {y : Kvs × Kvs} (hy : R[n]? = some y) :
    ∃ g b0 k0 b1 k1, ao = some ⟨g, 0, Option.none⟩ ∧ g ≠ gn ∧ w.cell? ⟨g, n * 2, Option.none⟩ = some (.slice b0 y.1.length k0) ∧ w.cell? ⟨g, n * 2 + 1, Option.none⟩ = some (.slice b1 y.2.length k1) ∧ Rnd w0 w gm gn ga bj a0 a1 X ds v0 v1 L0 L1 (.slice ao R.length cap) R x [(.slice b0 y.1.length k0, y.1), (.slice b1 y.2.length k1, y.2)] := by
  obtain ⟨S, Z, mb, N, H, h1, h2, h3, h4, h5, h6⟩ := h
  rw [← h2.len] at h2
  obtain ⟨g, u0, u1, e1, e2, e3, e4, e5, e6⟩ := h2.get hy
  obtain ⟨b0, k0, rfl, _, _⟩ := e5.1.form
  obtain ⟨b1, k1, rfl, _, _⟩ := e6.1.form
  refine ⟨g, b0, k0, b1, k1, e1, e2, e3, e4, S, Z, mb, N, H, h1, by rw [← h2.len]; exact h2, h3, fun e he => ?_, h5, h6⟩
  simp at he
  rcases he with rfl | rfl
  · exact e5
  · exact e6
/-- What is now is remembered. -/
theorem Rnd.more (h : Rnd w0 w gm gn ga bj a0 a1 X ds v0 v1 L0 L1 vw R x E) : ∃ xs, xs.length = R.length * 2 ∧ w.ownsRow w0.heap.size 33 2 vw R.length xs ∧
    ∀ w' vw' o, w'.ownsRow w0.heap.size 33 2 vw' (R.length + 1) (xs ++ [v0, v1]) → (w.alloc o).grownBy w' vw.ownBlock → (vw'.ownBlock = vw.ownBlock ∨ vw'.ownBlock = some (w.alloc o).heap.size) → Rnd w0 w' gm gn ga bj a0 a1 X ds v0 v1 L0 L1 vw' (R ++ [(L0, L1)]) x E := by
  obtain ⟨S, Z, mb, N, H, h1, h2, h3, h4, h5, h6⟩ := h
  refine ⟨hC H, by rw [hC_length, h2.len], by rw [← h2.len]; exact h2.row, fun w' vw' o r1 r2 r4 => ?_⟩
  rw [← h2.len] at r1
  obtain ⟨q1, q2, q3⟩ := h2.more h1.low r1 r2 r4
  have hb : Below w0.heap.size w0 w' := (bAl (o := o) h6).grown r2 (Nat.le_trans h6.size (by simp)) (fun k e => (World.ownsRow.lt h2.row k e).1)
  have hs : w.heap.size ≤ w'.heap.size := by have := r2.size; rw [World.size_alloc] at this; omega
  exact ⟨S, Z, mb, N, _, h1.of hs q2, q1, ⟨h3.1, h3.2.of (q3 ga h3.1)⟩, fun e he => (h4 e he).of q3 fun _ e => e, h5, hb⟩
theorem oneCellS {w : World} {N : Nat → Prop} {v : Value} {L : Kvs} (h : RowN w N v L) : v.oneCell' = true := by
  obtain ⟨ao, cap, rfl, _⟩ := h.1.form
  rfl
theorem Rnd.cell2 (h : Rnd w0 w gm gn ga bj a0 a1 X ds v0 v1 L0 L1 vw R x E) : ∀ u ∈ [v0, v1], u.oneCell' = true := by
  obtain ⟨S, Z, mb, N, H, h1, h2, h3, h4, h5, h6⟩ := h
  intro u hu
  simp at hu
  rcases hu with rfl | rfl
  · exact oneCellS h2.r0
  · exact oneCellS h2.r1
/-- The first map's. -/
theorem Rnd.put0 (h : Rnd w0 w gm gn ga bj a0 a1 X ds v0 v1 L0 L1 vw R x E) {u : Value} {M : Kvs} (hu : (u, M) ∈ E) : Rnd w0 (w.setCell ⟨gn, 0, Option.none⟩ u) gm gn ga bj a0 a1 X ds u v1 M L1 vw R x E := by
  obtain ⟨S, Z, mb, N, H, h1, h2, h3, h4, h5, h6⟩ := h
  have hN : ∀ k, N k → (w.setCell ⟨gn, 0, Option.none⟩ u).heap[k]? = w.heap[k]? := fun k hk => Below.heap_setCell _ _ _ _ (h2.sepN k hk).2.2.1
  exact ⟨S, Z, mb, N, H, h2.st h1 0 u, h2.put0 (h4 _ hu), ⟨h3.1, h3.2.of (hN ga h3.1)⟩, fun e he => (h4 e he).of hN fun _ e => e, h5, h6.setCell h2.lo u⟩
theorem Rnd.row0 (h : Rnd w0 w gm gn ga bj a0 a1 X ds v0 v1 L0 L1 vw R x E) : ∃ ao cap, v0 = .slice ao L0.length cap ∧ L0.length ≤ cap ∧ (ao = Option.none → cap = 0) ∧ PRow w 0 (.slice ao L0.length cap) L0 := by
  obtain ⟨S, Z, mb, N, H, h1, h2, h3, h4, h5, h6⟩ := h
  have hp := h2.r0.1
  obtain ⟨ao, cap, rfl, e1, e2⟩ := hp.form
  exact ⟨ao, cap, rfl, e1, e2, hp⟩
theorem Rnd.rset0 {ao : Option Addr} {cap : Nat} (h : Rnd w0 w gm gn ga bj a0 a1 X ds (.slice ao L0.length cap) v1 L0 L1 vw R x E) (hs : Srt kyInt L0) (hl : L0.length ≤ 10000) (K V : Int) :
    Calls Try.prog 9 #[.slice ao L0.length cap, .int .i64 K, .int .i64 V] w fun e w' => ∃ ao' cap', e = .returned (.slice ao' (putL kyInt K V L0).length cap') ∧ Rnd w0 w' gm gn ga bj a0 a1 X ds (.slice ao L0.length cap) v1 L0 L1 vw R x [(.slice ao' (putL kyInt K V L0).length cap', putL kyInt K V L0)] := by
  obtain ⟨ao', cap', e, _, _, hp⟩ := h.row0
  rw [← e] at hp
  refine (rset_any hp hl K V).mono ?_
  rintro e w' ⟨u, rfl, q1, q2⟩
  rw [accS_put K V L0 [] hs, List.nil_append] at q1
  obtain ⟨ao2, cap2, rfl, _, _⟩ := q1.form
  exact ⟨_, _, rfl, h.wide q2 q1⟩
theorem Rnd.rdrop0 {ao : Option Addr} {cap : Nat} (h : Rnd w0 w gm gn ga bj a0 a1 X ds (.slice ao L0.length cap) v1 L0 L1 vw R x E) (hl : L0.length ≤ 10000) (K : Int) :
    Calls Try.prog 11 #[.slice ao L0.length cap, .int .i64 K] w fun e w' => ∃ ao' cap', e = .returned (.tuple #[.slice ao' (delL K L0).length cap', .bool (decide ((delL K L0).length < L0.length))]) ∧ Rnd w0 w' gm gn ga bj a0 a1 X ds (.slice ao L0.length cap) v1 L0 L1 vw R x [(.slice ao' (delL K L0).length cap', delL K L0)] := by
  obtain ⟨ao', cap', e, _, _, hp⟩ := h.row0
  rw [← e] at hp
  refine (rdrop_any hp hl K).mono ?_
  rintro e w' ⟨ao2, cap2, rfl, q1, q2⟩
  exact ⟨_, _, rfl, h.wide q2 q1⟩
theorem Rnd.rget0 {ao : Option Addr} {cap : Nat} (h : Rnd w0 w gm gn ga bj a0 a1 X ds (.slice ao L0.length cap) v1 L0 L1 vw R x E) (hl : L0.length ≤ 10000) (K : Int) :
    Calls Try.prog 18 #[.slice ao L0.length cap, .int .i64 K] w fun e w' => e = .returned (.tuple #[.int .i64 (fv K L0), .bool (fh K L0)]) ∧ Below w.heap.size w w' := by
  obtain ⟨ao', cap', e, _, _, hp⟩ := h.row0
  rw [← e] at hp
  exact rget_any hp hl K
theorem Rnd.set0 (h : Rnd w0 w gm gn ga bj a0 a1 X ds v0 v1 L0 L1 vw R x E) {K V : Int} (hk : (Lit.int .i64 K).wf = true) (hlen : (X a0).length ≤ 1000000) (hds : ds.length ≤ 100000) :
    Calls Try.prog 10 #[.pointer (some ⟨a0, 0, Option.none⟩), .int .i64 K, .int .i64 V] w fun e w' => e = .returned (.tuple #[]) ∧ Rnd w0 w' gm gn ga bj a0 a1 (upX X a0 (putL kyInt K V (X a0))) (ds ++ [⟨a0, K, getL K (X a0)⟩]) v0 v1 L0 L1 vw R x E := by
  obtain ⟨S, Z, mb, N, H, h1, h2, h3, h4, h5, h6⟩ := h
  refine (set_any h1 (by simp) hk hlen hds).mono ?_
  rintro e w' ⟨rfl, S', Z', q1, q2⟩
  exact ⟨rfl, Rnd.mv' h2 h3 h4 h5 h6 q1 q2⟩
theorem Rnd.dropNone0 (h : Rnd w0 w gm gn ga bj a0 a1 X ds v0 v1 L0 L1 vw R x E) {K : Int} (hk : (Lit.int .i64 K).wf = true) (hn : getL K (X a0) = Option.none) :
    Calls Try.prog 12 #[.pointer (some ⟨a0, 0, Option.none⟩), .int .i64 K] w fun e w' => e = .returned (.bool false) ∧ Rnd w0 w' gm gn ga bj a0 a1 X ds v0 v1 L0 L1 vw R x E := by
  have h' := h
  obtain ⟨S, Z, mb, N, H, h1, h2, h3, h4, h5, h6⟩ := h'
  refine (dropNone_any h1 (by simp) hk hn).mono ?_
  rintro e w' ⟨rfl, q2⟩
  exact ⟨rfl, h.below q2⟩
theorem Rnd.dropSome0 (h : Rnd w0 w gm gn ga bj a0 a1 X ds v0 v1 L0 L1 vw R x E) {K V : Int} (hk : (Lit.int .i64 K).wf = true) (hn : getL K (X a0) = some V) (hds : ds.length ≤ 100000) :
    Calls Try.prog 12 #[.pointer (some ⟨a0, 0, Option.none⟩), .int .i64 K] w fun e w' => e = .returned (.bool true) ∧ Rnd w0 w' gm gn ga bj a0 a1 (upX X a0 (delL K (X a0))) (ds ++ [⟨a0, K, some V⟩]) v0 v1 L0 L1 vw R x E := by
  obtain ⟨S, Z, mb, N, H, h1, h2, h3, h4, h5, h6⟩ := h
  refine (dropSome_any h1 (by simp) hk hn hds).mono ?_
  rintro e w' ⟨rfl, S', Z', q1, q2⟩
  exact ⟨rfl, Rnd.mv' h2 h3 h4 h5 h6 q1 q2⟩
theorem Rnd.is0 {ao : Option Addr} {cap : Nat} (h : Rnd w0 w gm gn ga bj a0 a1 X ds (.slice ao L0.length cap) v1 L0 L1 vw R x E) (hX : X a0 = L0) (hlen : L0.length ≤ 1000) (hK : KW X) {m : Int} (hm : m ≤ 9223372036854775807) :
    Calls Try.prog 16 #[.pointer (some ⟨a0, 0, Option.none⟩), .slice ao L0.length cap, .int .i64 m] w fun e w' => e = .returned (.bool true) ∧ Rnd w0 w' gm gn ga bj a0 a1 X ds (.slice ao L0.length cap) v1 L0 L1 vw R x E := by
  obtain ⟨ao', cap', e, e1, e2, hp⟩ := h.row0
  rw [← e] at hp
  simp only [Value.slice.injEq, true_and] at e
  obtain ⟨rfl, rfl⟩ := e
  have h' := h
  obtain ⟨S, Z, mb, N, H, h1, h2, h3, h4, h5, h6⟩ := h'
  refine (is_any h1 (a := a0) (by simp) hX hp hlen e1 e2 hm (by rw [← hX]; exact hK a0)).mono ?_
  rintro e w' ⟨rfl, q2⟩
  exact ⟨rfl, h.below q2⟩
theorem Rnd.get0 (h : Rnd w0 w gm gn ga bj a0 a1 X ds v0 v1 L0 L1 vw R x E) {K : Int} (hk : (Lit.int .i64 K).wf = true) :
    Calls Try.prog 17 #[.pointer (some ⟨a0, 0, Option.none⟩), .int .i64 K] w fun e w' => e = .returned (.tuple #[.int .i64 (fv K (X a0)), .bool (fh K (X a0))]) ∧ Below w.heap.size w w' := by
  obtain ⟨S, Z, mb, N, H, h1, h2, h3, h4, h5, h6⟩ := h
  exact get_any h1 (by simp) hk
/-- The second map's. -/
theorem Rnd.put1 (h : Rnd w0 w gm gn ga bj a0 a1 X ds v0 v1 L0 L1 vw R x E) {u : Value} {M : Kvs} (hu : (u, M) ∈ E) : Rnd w0 (w.setCell ⟨gn, 1, Option.none⟩ u) gm gn ga bj a0 a1 X ds v0 u L0 M vw R x E := by
  obtain ⟨S, Z, mb, N, H, h1, h2, h3, h4, h5, h6⟩ := h
  have hN : ∀ k, N k → (w.setCell ⟨gn, 1, Option.none⟩ u).heap[k]? = w.heap[k]? := fun k hk => Below.heap_setCell _ _ _ _ (h2.sepN k hk).2.2.1
  exact ⟨S, Z, mb, N, H, h2.st h1 1 u, h2.put1 (h4 _ hu), ⟨h3.1, h3.2.of (hN ga h3.1)⟩, fun e he => (h4 e he).of hN fun _ e => e, h5, h6.setCell h2.lo u⟩
theorem Rnd.row1 (h : Rnd w0 w gm gn ga bj a0 a1 X ds v0 v1 L0 L1 vw R x E) : ∃ ao cap, v1 = .slice ao L1.length cap ∧ L1.length ≤ cap ∧ (ao = Option.none → cap = 0) ∧ PRow w 0 (.slice ao L1.length cap) L1 := by
  obtain ⟨S, Z, mb, N, H, h1, h2, h3, h4, h5, h6⟩ := h
  have hp := h2.r1.1
  obtain ⟨ao, cap, rfl, e1, e2⟩ := hp.form
  exact ⟨ao, cap, rfl, e1, e2, hp⟩
theorem Rnd.rset1 {ao : Option Addr} {cap : Nat} (h : Rnd w0 w gm gn ga bj a0 a1 X ds v0 (.slice ao L1.length cap) L0 L1 vw R x E) (hs : Srt kyInt L1) (hl : L1.length ≤ 10000) (K V : Int) :
    Calls Try.prog 9 #[.slice ao L1.length cap, .int .i64 K, .int .i64 V] w fun e w' => ∃ ao' cap', e = .returned (.slice ao' (putL kyInt K V L1).length cap') ∧ Rnd w0 w' gm gn ga bj a0 a1 X ds v0 (.slice ao L1.length cap) L0 L1 vw R x [(.slice ao' (putL kyInt K V L1).length cap', putL kyInt K V L1)] := by
  obtain ⟨ao', cap', e, _, _, hp⟩ := h.row1
  rw [← e] at hp
  refine (rset_any hp hl K V).mono ?_
  rintro e w' ⟨u, rfl, q1, q2⟩
  rw [accS_put K V L1 [] hs, List.nil_append] at q1
  obtain ⟨ao2, cap2, rfl, _, _⟩ := q1.form
  exact ⟨_, _, rfl, h.wide q2 q1⟩
theorem Rnd.rdrop1 {ao : Option Addr} {cap : Nat} (h : Rnd w0 w gm gn ga bj a0 a1 X ds v0 (.slice ao L1.length cap) L0 L1 vw R x E) (hl : L1.length ≤ 10000) (K : Int) :
    Calls Try.prog 11 #[.slice ao L1.length cap, .int .i64 K] w fun e w' => ∃ ao' cap', e = .returned (.tuple #[.slice ao' (delL K L1).length cap', .bool (decide ((delL K L1).length < L1.length))]) ∧ Rnd w0 w' gm gn ga bj a0 a1 X ds v0 (.slice ao L1.length cap) L0 L1 vw R x [(.slice ao' (delL K L1).length cap', delL K L1)] := by
  obtain ⟨ao', cap', e, _, _, hp⟩ := h.row1
  rw [← e] at hp
  refine (rdrop_any hp hl K).mono ?_
  rintro e w' ⟨ao2, cap2, rfl, q1, q2⟩
  exact ⟨_, _, rfl, h.wide q2 q1⟩
theorem Rnd.rget1 {ao : Option Addr} {cap : Nat} (h : Rnd w0 w gm gn ga bj a0 a1 X ds v0 (.slice ao L1.length cap) L0 L1 vw R x E) (hl : L1.length ≤ 10000) (K : Int) :
    Calls Try.prog 18 #[.slice ao L1.length cap, .int .i64 K] w fun e w' => e = .returned (.tuple #[.int .i64 (fv K L1), .bool (fh K L1)]) ∧ Below w.heap.size w w' := by
  obtain ⟨ao', cap', e, _, _, hp⟩ := h.row1
  rw [← e] at hp
  exact rget_any hp hl K
theorem Rnd.set1 (h : Rnd w0 w gm gn ga bj a0 a1 X ds v0 v1 L0 L1 vw R x E) {K V : Int} (hk : (Lit.int .i64 K).wf = true) (hlen : (X a1).length ≤ 1000000) (hds : ds.length ≤ 100000) :
    Calls Try.prog 10 #[.pointer (some ⟨a1, 0, Option.none⟩), .int .i64 K, .int .i64 V] w fun e w' => e = .returned (.tuple #[]) ∧ Rnd w0 w' gm gn ga bj a0 a1 (upX X a1 (putL kyInt K V (X a1))) (ds ++ [⟨a1, K, getL K (X a1)⟩]) v0 v1 L0 L1 vw R x E := by
  obtain ⟨S, Z, mb, N, H, h1, h2, h3, h4, h5, h6⟩ := h
  refine (set_any h1 (by simp) hk hlen hds).mono ?_
  rintro e w' ⟨rfl, S', Z', q1, q2⟩
  exact ⟨rfl, Rnd.mv' h2 h3 h4 h5 h6 q1 q2⟩
theorem Rnd.dropNone1 (h : Rnd w0 w gm gn ga bj a0 a1 X ds v0 v1 L0 L1 vw R x E) {K : Int} (hk : (Lit.int .i64 K).wf = true) (hn : getL K (X a1) = Option.none) :
    Calls Try.prog 12 #[.pointer (some ⟨a1, 0, Option.none⟩), .int .i64 K] w fun e w' => e = .returned (.bool false) ∧ Rnd w0 w' gm gn ga bj a0 a1 X ds v0 v1 L0 L1 vw R x E := by
  have h' := h
  obtain ⟨S, Z, mb, N, H, h1, h2, h3, h4, h5, h6⟩ := h'
  refine (dropNone_any h1 (by simp) hk hn).mono ?_
  rintro e w' ⟨rfl, q2⟩
  exact ⟨rfl, h.below q2⟩
theorem Rnd.dropSome1 (h : Rnd w0 w gm gn ga bj a0 a1 X ds v0 v1 L0 L1 vw R x E) {K V : Int} (hk : (Lit.int .i64 K).wf = true) (hn : getL K (X a1) = some V) (hds : ds.length ≤ 100000) :
    Calls Try.prog 12 #[.pointer (some ⟨a1, 0, Option.none⟩), .int .i64 K] w fun e w' => e = .returned (.bool true) ∧ Rnd w0 w' gm gn ga bj a0 a1 (upX X a1 (delL K (X a1))) (ds ++ [⟨a1, K, some V⟩]) v0 v1 L0 L1 vw R x E := by
  obtain ⟨S, Z, mb, N, H, h1, h2, h3, h4, h5, h6⟩ := h
  refine (dropSome_any h1 (by simp) hk hn hds).mono ?_
  rintro e w' ⟨rfl, S', Z', q1, q2⟩
  exact ⟨rfl, Rnd.mv' h2 h3 h4 h5 h6 q1 q2⟩
theorem Rnd.is1 {ao : Option Addr} {cap : Nat} (h : Rnd w0 w gm gn ga bj a0 a1 X ds v0 (.slice ao L1.length cap) L0 L1 vw R x E) (hX : X a1 = L1) (hlen : L1.length ≤ 1000) (hK : KW X) {m : Int} (hm : m ≤ 9223372036854775807) :
    Calls Try.prog 16 #[.pointer (some ⟨a1, 0, Option.none⟩), .slice ao L1.length cap, .int .i64 m] w fun e w' => e = .returned (.bool true) ∧ Rnd w0 w' gm gn ga bj a0 a1 X ds v0 (.slice ao L1.length cap) L0 L1 vw R x E := by
  obtain ⟨ao', cap', e, e1, e2, hp⟩ := h.row1
  rw [← e] at hp
  simp only [Value.slice.injEq, true_and] at e
  obtain ⟨rfl, rfl⟩ := e
  have h' := h
  obtain ⟨S, Z, mb, N, H, h1, h2, h3, h4, h5, h6⟩ := h'
  refine (is_any h1 (a := a1) (by simp) hX hp hlen e1 e2 hm (by rw [← hX]; exact hK a1)).mono ?_
  rintro e w' ⟨rfl, q2⟩
  exact ⟨rfl, h.below q2⟩
theorem Rnd.get1 (h : Rnd w0 w gm gn ga bj a0 a1 X ds v0 v1 L0 L1 vw R x E) {K : Int} (hk : (Lit.int .i64 K).wf = true) :
    Calls Try.prog 17 #[.pointer (some ⟨a1, 0, Option.none⟩), .int .i64 K] w fun e w' => e = .returned (.tuple #[.int .i64 (fv K (X a1)), .bool (fh K (X a1))]) ∧ Below w.heap.size w w' := by
  obtain ⟨S, Z, mb, N, H, h1, h2, h3, h4, h5, h6⟩ := h
  exact get_any h1 (by simp) hk
end
end Go.Proofs.Ytnjijnphjiiceaa
