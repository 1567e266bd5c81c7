/- Cells in memory that a call holds as its own. Numbers and truths in memory; a box of numbers. A deed of a pair (sponsionlaw14.one). -/
import Derived.Test.YtncnilplmklccaaGreatPackWriter
import Derived.Test.YtncnilplmklccaaGreatPrLives
import Derived.Test.YtncnilplmklccaaGreatBkPlay
/- Cells in memory that a call holds as its own. -/
namespace Go.Proofs.YtncnilplmklccaaGreat
open Go.RowKit Go.Lib

/-- Block g of w holds these cells, and may be written. -/
structure VRow (w : World) (g : Nat) (vs : List Value) : Prop where
  lt : g < w.heap.size
  range : w.rangeAt g 0 vs
  fr : ∀ o, w.frozen? ⟨g, o, none⟩ = false
theorem VRow.of {w w' : World} {g : Nat} {vs : List Value} (h : VRow w g vs) (hs : w.heap.size ≤ w'.heap.size) (hb : w'.heap[g]? = w.heap[g]?) : VRow w' g vs :=
  ⟨Nat.lt_of_lt_of_le h.lt hs, fun j v hv => (World.cell?_of_block (w := w) (a := ⟨g, 0 + j, none⟩) hb).trans (h.range j v hv), fun o => (World.frozen?_of_block (w := w) (a := ⟨g, o, none⟩) hb).trans (h.fr o)⟩
theorem VRow.after {w w1 w' : World} {g : Nat} {vs : List Value} (h : VRow w g vs) (hb : Below w1.heap.size w1 w') (e : w1.heap = w.heap) : VRow w' g vs :=
  h.of (by rw [← e]; exact hb.size) (by rw [hb.block g (by rw [e]; exact h.lt), e])
theorem VRow.past {w : World} {g : Nat} {vs : List Value} (h : VRow w g vs) (o : Obj) : VRow (w.alloc o) g vs := h.of (by simp) (Below.heap_alloc _ _ _ h.lt)
theorem VRow.wrote {w w' : World} {g g' : Nat} {vs : List Value} {ao ao' : Option Addr} (h : VRow w g vs) (hb : Wrote g' ao ao' w w') (hne : g ≠ g') (hr : blk ao ≠ some g) : VRow w' g vs :=
  h.of hb.size (hb.block g h.lt hne hr)
theorem VRow.cell {w : World} {g : Nat} {vs : List Value} (h : VRow w g vs) (j : Nat) {v : Value} (hv : vs[j]? = some v) : w.cell? ⟨g, j, none⟩ = some v := by
  have := h.range j v hv; rwa [Nat.zero_add] at this
theorem VRow.box (w : World) (vs : List Value) (t : TypeId) {g : Nat} (e : w.heap.size = g) : VRow (w.alloc (.cells vs.toArray t)) g vs := by
  subst e
  refine ⟨by simp, fun j v hv => ?_, fun o => World.frozen?_alloc_at _ _ _ _ rfl⟩
  rw [World.cell?_alloc_at _ _ _ _ rfl, Nat.zero_add]
  simpa using hv
/-- A box of zero values, and cells stored into it. -/
theorem VRow.made (w : World) (zs : Array Value) (t : TypeId) (vs : List Value) (hl : zs.size = vs.length) : VRow ((w.alloc (.cells zs t)).setCells w.heap.size 0 vs) w.heap.size vs ∧ Below w.heap.size w ((w.alloc (.cells zs t)).setCells w.heap.size 0 vs) := by
  have ht : (w.alloc (.cells zs t)).there w.heap.size 0 vs.length := by
    intro j hj
    rw [Nat.zero_add]
    exact ⟨by rw [World.cell?_alloc_at _ _ _ _ rfl]; simp; omega, World.frozen?_alloc_at _ _ _ _ rfl⟩
  refine ⟨⟨?_, World.rangeAt_setCells_same _ _ _ _ ht, fun o => ?_⟩, setCells_below (bAl (bMe w)) (Nat.le_refl _) _ _⟩
  · rw [setCells_size]; simp
  · rw [World.frozen?_setCells]; exact World.frozen?_alloc_at _ _ _ _ rfl
theorem VRow.there (w : World) (zs : Array Value) (t : TypeId) (n : Nat) (hl : zs.size = n) : (w.alloc (.cells zs t)).there w.heap.size 0 n := by
  subst hl
  intro j hj
  rw [Nat.zero_add]
  exact ⟨by rw [World.cell?_alloc_at _ _ _ _ rfl]; simp [hj], World.frozen?_alloc_at _ _ _ _ rfl⟩

theorem storing_new (w : World) (zs : Array Value) (t : TypeId) (vs : List Value) (hl : zs.size = vs.length) (h1 : ∀ v ∈ vs, v.oneCell' = true) : (storeCells ⟨w.heap.size, 0, none⟩ vs).run Tryz.prog (w.alloc (.cells zs t)) = .ok () ((w.alloc (.cells zs t)).setCells w.heap.size 0 vs) := by
  have ht := VRow.there w zs t vs.length hl
  have := run_storeCells_cells (P := Tryz.prog) w.heap.size 0 vs 0 (w.alloc (.cells zs t)) (fun j hj => (ht j hj).1) (fun j hj => (ht j hj).2) h1
  rwa [Nat.zero_add] at this
end Go.Proofs.YtncnilplmklccaaGreat

/- Numbers and truths in memory; a box of numbers. -/
namespace Go.Proofs.YtncnilplmklccaaGreat
set_option linter.unusedSimpArgs false
set_option linter.unusedVariables false
open Go.RowKit Go.Lib

/-- Values, at an address. -/
def Vls (w : World) (ao : Option Addr) (vs : List Value) : Prop :=
  vs = [] ∨ ∃ b off, ao = some ⟨b, off, none⟩ ∧ b < w.heap.size ∧ ∀ (j : Nat) v, vs[j]? = some v → w.cell? ⟨b, off + j, none⟩ = some v
theorem Vls.get {w : World} {ao : Option Addr} {vs : List Value} (h : Vls w ao vs) {j : Nat} {v : Value} (hx : vs[j]? = some v) : ∃ b off, ao = some ⟨b, off, none⟩ ∧ b < w.heap.size ∧ w.cell? ⟨b, off + j, none⟩ = some v := by
  rcases h with rfl | ⟨b, off, e, hl, hc⟩
  · simp at hx
  · exact ⟨b, off, e, hl, hc j v hx⟩
/-- The same, where only what came behind it turned. -/
theorem Vls.got {W w : World} {ao : Option Addr} {vs : List Value} (h : Vls W ao vs) (hb : Below W.heap.size W w) {j : Nat} {v : Value} (hx : vs[j]? = some v) : ∃ b off, ao = some ⟨b, off, none⟩ ∧ b < W.heap.size ∧ w.cell? ⟨b, off + j, none⟩ = some v := by
  obtain ⟨b, off, e, hl, hc⟩ := h.get hx
  exact ⟨b, off, e, hl, ((bcell hb).1 _ _ hl).trans hc⟩
/-- Numbers and truths as values. -/
def uV (N : List Int) : List Value := N.map (fun n => .int .u64 n)
def bV (N : List Int) : List Value := N.map (fun n => .int .u8 n)
def iV (N : List Int) : List Value := N.map (fun n => .int .i64 n)
def tV (B : List Bool) : List Value := B.map Value.bool
theorem uV_get {N : List Int} {j : Nat} {x : Int} (h : N[j]? = some x) : (uV N)[j]? = some (.int .u64 x) := by simp [uV, h]
theorem bV_get {N : List Int} {j : Nat} {x : Int} (h : N[j]? = some x) : (bV N)[j]? = some (.int .u8 x) := by simp [bV, h]
theorem iV_get {N : List Int} {j : Nat} {x : Int} (h : N[j]? = some x) : (iV N)[j]? = some (.int .i64 x) := by simp [iV, h]
theorem tV_get {N : List Bool} {j : Nat} {x : Bool} (h : N[j]? = some x) : (tV N)[j]? = some (.bool x) := by simp [tV, h]
/-- One cell of a box is another. -/
theorem VRow.put {w : World} {g : Nat} {vs : List Value} (h : VRow w g vs) {j : Nat} (hj : j < vs.length) (v : Value) : VRow (w.setCell ⟨g, j, none⟩ v) g (vs.set j v) := by
  refine ⟨by simpa [World.setCell] using h.lt, fun i x hx => ?_, fun o => by simp [go_sem, h.fr]⟩
  have hc := h.cell j (List.getElem?_eq_getElem hj)
  rw [Nat.zero_add]
  rw [List.getElem?_set] at hx
  by_cases e : j = i
  · subst e
    simp [hj] at hx
    subst hx
    simp [go_sem, hc]
  · simp [e] at hx
    have c1 := h.cell i hx
    have e2 : ¬ i = j := fun e2 => e e2.symm
    simp [go_sem, c1, e, e2]
theorem Pr.box {W w : World} {bp n : Nat} {P : List Value} {H : Nat → Nat → Kvs} {N : List Int} {Fr : Nat → Prop} (p : Pr W w bp P n H N Fr) {g : Nat} (hg : Fr g) (hW : W.heap.size ≤ g) {v u : Value} (h0 : w.cell? ⟨g, 0, none⟩ = some u) (hu : ∀ b, u ≠ .pointer (some b)) (o : Nat) : Pr W (w.setCell ⟨g, o, none⟩ v) bp P n H N Fr :=
  p.turn (F := fun k => k = g) (fun k hk => by subst hk; exact ⟨hg, hW⟩) (fun k x hk hx => by subst hk; rw [h0] at hx; cases hx; exact hu) (by simp [World.setCell]) (fun k _ hk => Below.heap_setCell _ _ _ _ hk) (p.be.setCell hW v)
end Go.Proofs.YtncnilplmklccaaGreat

/- A deed of a pair (sponsionlaw14.one). -/
namespace Go.Proofs.YtncnilplmklccaaGreat
set_option linter.unusedSimpArgs false
set_option linter.unusedVariables false
open Go.RowKit Go.Lib
attribute [local go_sem] setCell_drewN alloc_drewN

/-- A deed: an act of a side's book. -/
structure Dd where
  s : Int
  a : Ac
structure Dd.Ok (x : Dd) : Prop where
  s : 0 ≤ x.s ∧ x.s < 256
  a : x.a.Ok
/-- Its side, its cells. -/
def Dd.sd (x : Dd) : Nat := (x.s % 2).toNat
theorem Dd.sd_lt (x : Dd) : x.sd < 2 := by unfold Dd.sd; omega
abbrev ddV (x : Dd) : List Value := [.int .u8 x.s, .int .u8 x.a.k, .int .u8 x.a.t, .int .u8 x.a.f, .int .u8 x.a.o, .int .u64 (lm x.a.n 0), .int .u64 (lm x.a.n 1), .int .u64 (lm x.a.n 2), .int .u64 (lm x.a.n 3)]
/-- Its answer, and what it makes of the side's book. -/
def dE (L : Nat → Kvs) (x : Dd) : Int := if x.a.k % 3 = 0 then mintE (L x.sd) x.a.t x.a.f x.a.n else if x.a.k % 3 = 1 then burnE (L x.sd) x.a.t x.a.f x.a.n else moveE (L x.sd) x.a.t x.a.f x.a.o x.a.n
def dL (L : Nat → Kvs) (x : Dd) : Kvs := if x.a.k % 3 = 0 then mintL (L x.sd) x.a.t x.a.f x.a.n else if x.a.k % 3 = 1 then burnL (L x.sd) x.a.t x.a.f x.a.n else moveL (L x.sd) x.a.t x.a.f x.a.o x.a.n
/-- The pair behind a deed. -/
def DdDone (W w : World) (bp : Nat) (P : List Value) (n : Nat) (H : Nat → Nat → Kvs) (N : List Int) (Fr : Nat → Prop) (x : Dd) (e : Ending) (w' : World) : Prop :=
  e = .returned (.int .i64 (dE (fun i => H i n) x)) ∧ ∃ n' H', Pr W w' bp P n' H' N Fr ∧ Kp Fr w w' ∧ Px n H n' H' (upS (fun i => H i n) x.sd (dL (fun i => H i n) x)) 2
set_option maxHeartbeats 4000000 in
theorem one14_any {W w : World} {bp n : Nat} {P : List Value} {H : Nat → Nat → Kvs} {N : List Int} {Fr : Nat → Prop} (p : Pr W w bp P n H N Fr) {x : Dd} (hx : x.Ok) (hn : n ≤ 9000) :
    Calls Tryz.prog 10 #[.pointer (some ⟨bp, 0, none⟩), .agg #[.int .u8 x.s, .int .u8 x.a.k, .int .u8 x.a.t, .int .u8 x.a.f, .int .u8 x.a.o, .int .u64 (lm x.a.n 0), .int .u64 (lm x.a.n 1), .int .u64 (lm x.a.n 2), .int .u64 (lm x.a.n 3)]] w fun e w' => DdDone W w bp P n H N Fr x e w' := by
  obtain ⟨w1, hw1⟩ : ∃ w1, w.alloc (.cells #[.int .u8 x.s, .int .u8 x.a.k, .int .u8 x.a.t, .int .u8 x.a.f, .int .u8 x.a.o, .int .u64 (lm x.a.n 0), .int .u64 (lm x.a.n 1), .int .u64 (lm x.a.n 2), .int .u64 (lm x.a.n 3)] 47) = w1 := ⟨_, rfl⟩
  have hb1 : Below w.heap.size w w1 := by rw [← hw1]; exact bAl (bMe w)
  have V : VRow w1 w.heap.size (ddV x) := by rw [← hw1]; exact VRow.box w (ddV x) _ rfl
  have hsd : x.s.tmod 2 = (x.sd : Int) := by rw [Int.tmod_eq_emod_of_nonneg hx.s.1]; unfold Dd.sd; omega
  have p1 := p.below hb1
  have K1 := p.kp hb1
  have hg := V.lt
  obtain ⟨g, hgg⟩ : ∃ g, w.heap.size = g := ⟨_, rfl⟩
  rw [hgg] at V
  obtain ⟨bj, b, Fr', cb, B, _, hre⟩ := p1.side x.sd_lt
  have HB := hide (book14_any x.sd_lt cb)
  have e0 := V.cell 0 rfl
  have e1 := V.cell 1 rfl
  have e2 := V.cell 2 rfl
  have e3 := V.cell 3 rfl
  have e4 := V.cell 4 rfl
  have e5 := V.cell 5 rfl
  have e6 := V.cell 6 rfl
  have e7 := V.cell 7 rfl
  have e8 := V.cell 8 rfl
  rcases (show x.a.k % 3 = 0 ∨ x.a.k % 3 = 1 ∨ x.a.k % 3 = 2 by omega) with hk | hk | hk
  · have hkt : x.a.k.tmod 3 = 0 := by rw [Int.tmod_eq_emod_of_nonneg hx.a.k.1]; exact hk
    have HC := hide (mint_l B hx.a.t hx.a.f hx.a.n hn)
    have hE : dE (fun i => H i n) x = mintE (H x.sd n) x.a.t x.a.f x.a.n := by unfold dE; simp [hk]
    have hL : dL (fun i => H i n) x = mintL (H x.sd n) x.a.t x.a.f x.a.n := by unfold dL; simp [hk]
    have HD : Hid (∀ w2 n' h', BS W w2 bj b n' h' Fr' → Kp Fr' w1 w2 → Nx n (H x.sd) n' h' (mintL (H x.sd n) x.a.t x.a.f x.a.n) 2 → DdDone W w bp P n H N Fr x (.returned (.int .i64 (mintE (H x.sd n) x.a.t x.a.f x.a.n))) w2) := fun w2 n' h' b' k' nx => by
      obtain ⟨H', q1, q2, q3⟩ := hre b' k' nx
      unfold DdDone
      rw [hE, hL]
      exact ⟨rfl, n', H', q1, K1.trans q2, q3⟩
    clear hE hL hre B cb p1 p K1 V hg hb1 hk
    go_enter Tryz.func10, Tryz.ntmps10
    go_wp2_with fail
    refine HB.out.mono ?_
    rintro e w2 ⟨rfl, rfl⟩
    go_wp2_with fail
    refine HC.out.mono ?_
    rintro e w3 ⟨rfl, n', h', b', k', nx⟩
    have HR := hide (HD.out w3 n' h' b' k' nx)
    clear b' k' nx HC HD
    go_wp2
    go_ret
    exact HR.out
  · have hkt : x.a.k.tmod 3 = 1 := by rw [Int.tmod_eq_emod_of_nonneg hx.a.k.1]; exact hk
    have HC := hide (burn_l B hx.a.t hx.a.f hx.a.n hn)
    have hE : dE (fun i => H i n) x = burnE (H x.sd n) x.a.t x.a.f x.a.n := by unfold dE; simp [hk]
    have hL : dL (fun i => H i n) x = burnL (H x.sd n) x.a.t x.a.f x.a.n := by unfold dL; simp [hk]
    have HD : Hid (∀ w2 n' h', BS W w2 bj b n' h' Fr' → Kp Fr' w1 w2 → Nx n (H x.sd) n' h' (burnL (H x.sd n) x.a.t x.a.f x.a.n) 2 → DdDone W w bp P n H N Fr x (.returned (.int .i64 (burnE (H x.sd n) x.a.t x.a.f x.a.n))) w2) := fun w2 n' h' b' k' nx => by
      obtain ⟨H', q1, q2, q3⟩ := hre b' k' nx
      unfold DdDone
      rw [hE, hL]
      exact ⟨rfl, n', H', q1, K1.trans q2, q3⟩
    clear hE hL hre B cb p1 p K1 V hg hb1 hk
    go_enter Tryz.func10, Tryz.ntmps10
    go_wp2_with fail
    refine HB.out.mono ?_
    rintro e w2 ⟨rfl, rfl⟩
    go_wp2_with fail
    refine HC.out.mono ?_
    rintro e w3 ⟨rfl, n', h', b', k', nx⟩
    have HR := hide (HD.out w3 n' h' b' k' nx)
    clear b' k' nx HC HD
    go_wp2
    go_ret
    exact HR.out
  · have hkt : x.a.k.tmod 3 = 2 := by rw [Int.tmod_eq_emod_of_nonneg hx.a.k.1]; exact hk
    have HC := hide (move_l B hx.a.t hx.a.f hx.a.o hx.a.n hn)
    have hE : dE (fun i => H i n) x = moveE (H x.sd n) x.a.t x.a.f x.a.o x.a.n := by unfold dE; simp [hk]
    have hL : dL (fun i => H i n) x = moveL (H x.sd n) x.a.t x.a.f x.a.o x.a.n := by unfold dL; simp [hk]
    have HD : Hid (∀ w2 n' h', BS W w2 bj b n' h' Fr' → Kp Fr' w1 w2 → Nx n (H x.sd) n' h' (moveL (H x.sd n) x.a.t x.a.f x.a.o x.a.n) 2 → DdDone W w bp P n H N Fr x (.returned (.int .i64 (moveE (H x.sd n) x.a.t x.a.f x.a.o x.a.n))) w2) := fun w2 n' h' b' k' nx => by
      obtain ⟨H', q1, q2, q3⟩ := hre b' k' nx
      unfold DdDone
      rw [hE, hL]
      exact ⟨rfl, n', H', q1, K1.trans q2, q3⟩
    clear hE hL hre B cb p1 p K1 V hg hb1 hk
    go_enter Tryz.func10, Tryz.ntmps10
    go_wp2_with fail
    refine HB.out.mono ?_
    rintro e w2 ⟨rfl, rfl⟩
    go_wp2_with fail
    refine HC.out.mono ?_
    rintro e w3 ⟨rfl, n', h', b', k', nx⟩
    have HR := hide (HD.out w3 n' h' b' k' nx)
    clear b' k' nx HC HD
    go_wp2
    go_ret
    exact HR.out
end Go.Proofs.YtncnilplmklccaaGreat
