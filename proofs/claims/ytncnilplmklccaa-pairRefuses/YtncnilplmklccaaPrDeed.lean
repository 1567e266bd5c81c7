/- A deed of a pair (sponsionlaw14.one). -/
import Derived.Test.YtncnilplmklccaaPrMem
import Derived.Test.YtncnilplmklccaaFrameBk
namespace Go.Proofs.Ytncnilplmklccaa
set_option linter.unusedSimpArgs false
set_option linter.unusedVariables false
open Go.RowKit Go.Lib
attribute [local go_sem] setCell_drewN alloc_drewN

/-- A deed: an act of a side's book. -/
structure Dd where
  s : Int
  a : Ac
structure Dd.Ok (x : Dd) : Prop where
  s : 0 ≤ x.s ∧ x.s < 256
  a : x.a.Ok
/-- Its side, its cells. -/
def Dd.sd (x : Dd) : Nat := (x.s % 2).toNat
theorem Dd.sd_lt (x : Dd) : x.sd < 2 := by unfold Dd.sd; omega
abbrev ddV (x : Dd) : List Value := [.int .u8 x.s, .int .u8 x.a.k, .int .u8 x.a.t, .int .u8 x.a.f, .int .u8 x.a.o, .int .u64 (lm x.a.n 0), .int .u64 (lm x.a.n 1), .int .u64 (lm x.a.n 2), .int .u64 (lm x.a.n 3)]
/-- Its answer, and what it makes of the side's book. -/
def dE (L : Nat → Kvs) (x : Dd) : Int := if x.a.k % 3 = 0 then mintE (L x.sd) x.a.t x.a.f x.a.n else if x.a.k % 3 = 1 then burnE (L x.sd) x.a.t x.a.f x.a.n else moveE (L x.sd) x.a.t x.a.f x.a.o x.a.n
def dL (L : Nat → Kvs) (x : Dd) : Kvs := if x.a.k % 3 = 0 then mintL (L x.sd) x.a.t x.a.f x.a.n else if x.a.k % 3 = 1 then burnL (L x.sd) x.a.t x.a.f x.a.n else moveL (L x.sd) x.a.t x.a.f x.a.o x.a.n
/-- The pair behind a deed. -/
def DdDone (W w : World) (bp : Nat) (P : List Value) (n : Nat) (H : Nat → Nat → Kvs) (N : List Int) (Fr : Nat → Prop) (x : Dd) (e : Ending) (w' : World) : Prop :=
  e = .returned (.int .i64 (dE (fun i => H i n) x)) ∧ ∃ n' H', Pr W w' bp P n' H' N Fr ∧ Kp Fr w w' ∧ Px n H n' H' (upS (fun i => H i n) x.sd (dL (fun i => H i n) x)) 2
set_option maxHeartbeats 4000000 in
theorem one14_any {W w : World} {bp n : Nat} {P : List Value} {H : Nat → Nat → Kvs} {N : List Int} {Fr : Nat → Prop} (p : Pr W w bp P n H N Fr) {x : Dd} (hx : x.Ok) (hn : n ≤ 9000) :
    Calls Try.prog 27 #[.pointer (some ⟨bp, 0, none⟩), .agg #[.int .u8 x.s, .int .u8 x.a.k, .int .u8 x.a.t, .int .u8 x.a.f, .int .u8 x.a.o, .int .u64 (lm x.a.n 0), .int .u64 (lm x.a.n 1), .int .u64 (lm x.a.n 2), .int .u64 (lm x.a.n 3)]] w fun e w' => DdDone W w bp P n H N Fr x e w' := by
  obtain ⟨w1, hw1⟩ : ∃ w1, w.alloc (.cells #[.int .u8 x.s, .int .u8 x.a.k, .int .u8 x.a.t, .int .u8 x.a.f, .int .u8 x.a.o, .int .u64 (lm x.a.n 0), .int .u64 (lm x.a.n 1), .int .u64 (lm x.a.n 2), .int .u64 (lm x.a.n 3)] 71) = w1 := ⟨_, rfl⟩
  have hb1 : Below w.heap.size w w1 := by rw [← hw1]; exact bAl (bMe w)
  have V : VRow w1 w.heap.size (ddV x) := by rw [← hw1]; exact VRow.box w (ddV x) _ rfl
  have hsd : x.s.tmod 2 = (x.sd : Int) := by rw [Int.tmod_eq_emod_of_nonneg hx.s.1]; unfold Dd.sd; omega
  have p1 := p.below hb1
  have K1 := p.kp hb1
  have hg := V.lt
  obtain ⟨g, hgg⟩ : ∃ g, w.heap.size = g := ⟨_, rfl⟩
  rw [hgg] at V
  obtain ⟨bj, b, Fr', cb, B, _, hre⟩ := p1.side x.sd_lt
  have HB := hide (book14_any x.sd_lt cb)
  have e0 := V.cell 0 rfl
  have e1 := V.cell 1 rfl
  have e2 := V.cell 2 rfl
  have e3 := V.cell 3 rfl
  have e4 := V.cell 4 rfl
  have e5 := V.cell 5 rfl
  have e6 := V.cell 6 rfl
  have e7 := V.cell 7 rfl
  have e8 := V.cell 8 rfl
  rcases (show x.a.k % 3 = 0 ∨ x.a.k % 3 = 1 ∨ x.a.k % 3 = 2 by omega) with hk | hk | hk
  · have hkt : x.a.k.tmod 3 = 0 := by rw [Int.tmod_eq_emod_of_nonneg hx.a.k.1]; exact hk
    have HC := hide (mint_l B hx.a.t hx.a.f hx.a.n hn)
    have hE : dE (fun i => H i n) x = mintE (H x.sd n) x.a.t x.a.f x.a.n := by unfold dE; simp [hk]
    have hL : dL (fun i => H i n) x = mintL (H x.sd n) x.a.t x.a.f x.a.n := by unfold dL; simp [hk]
    have HD : Hid (∀ w2 n' h', BS W w2 bj b n' h' Fr' → Kp Fr' w1 w2 → Nx n (H x.sd) n' h' (mintL (H x.sd n) x.a.t x.a.f x.a.n) 2 → DdDone W w bp P n H N Fr x (.returned (.int .i64 (mintE (H x.sd n) x.a.t x.a.f x.a.n))) w2) := fun w2 n' h' b' k' nx => by
      obtain ⟨H', q1, q2, q3⟩ := hre b' k' nx
      unfold DdDone
      rw [hE, hL]
      exact ⟨rfl, n', H', q1, K1.trans q2, q3⟩
    clear hE hL hre B cb p1 p K1 V hg hb1 hk
    go_enter Try.func27, Try.ntmps27
    go_wp2_with fail
    refine HB.out.mono ?_
    rintro e w2 ⟨rfl, rfl⟩
    go_wp2_with fail
    refine HC.out.mono ?_
    rintro e w3 ⟨rfl, n', h', b', k', nx⟩
    have HR := hide (HD.out w3 n' h' b' k' nx)
    clear b' k' nx HC HD
    go_wp2
    go_ret
    exact HR.out
  · have hkt : x.a.k.tmod 3 = 1 := by rw [Int.tmod_eq_emod_of_nonneg hx.a.k.1]; exact hk
    have HC := hide (burn_l B hx.a.t hx.a.f hx.a.n hn)
    have hE : dE (fun i => H i n) x = burnE (H x.sd n) x.a.t x.a.f x.a.n := by unfold dE; simp [hk]
    have hL : dL (fun i => H i n) x = burnL (H x.sd n) x.a.t x.a.f x.a.n := by unfold dL; simp [hk]
    have HD : Hid (∀ w2 n' h', BS W w2 bj b n' h' Fr' → Kp Fr' w1 w2 → Nx n (H x.sd) n' h' (burnL (H x.sd n) x.a.t x.a.f x.a.n) 2 → DdDone W w bp P n H N Fr x (.returned (.int .i64 (burnE (H x.sd n) x.a.t x.a.f x.a.n))) w2) := fun w2 n' h' b' k' nx => by
      obtain ⟨H', q1, q2, q3⟩ := hre b' k' nx
      unfold DdDone
      rw [hE, hL]
      exact ⟨rfl, n', H', q1, K1.trans q2, q3⟩
    clear hE hL hre B cb p1 p K1 V hg hb1 hk
    go_enter Try.func27, Try.ntmps27
    go_wp2_with fail
    refine HB.out.mono ?_
    rintro e w2 ⟨rfl, rfl⟩
    go_wp2_with fail
    refine HC.out.mono ?_
    rintro e w3 ⟨rfl, n', h', b', k', nx⟩
    have HR := hide (HD.out w3 n' h' b' k' nx)
    clear b' k' nx HC HD
    go_wp2
    go_ret
    exact HR.out
  · have hkt : x.a.k.tmod 3 = 2 := by rw [Int.tmod_eq_emod_of_nonneg hx.a.k.1]; exact hk
    have HC := hide (move_l B hx.a.t hx.a.f hx.a.o hx.a.n hn)
    have hE : dE (fun i => H i n) x = moveE (H x.sd n) x.a.t x.a.f x.a.o x.a.n := by unfold dE; simp [hk]
    have hL : dL (fun i => H i n) x = moveL (H x.sd n) x.a.t x.a.f x.a.o x.a.n := by unfold dL; simp [hk]
    have HD : Hid (∀ w2 n' h', BS W w2 bj b n' h' Fr' → Kp Fr' w1 w2 → Nx n (H x.sd) n' h' (moveL (H x.sd n) x.a.t x.a.f x.a.o x.a.n) 2 → DdDone W w bp P n H N Fr x (.returned (.int .i64 (moveE (H x.sd n) x.a.t x.a.f x.a.o x.a.n))) w2) := fun w2 n' h' b' k' nx => by
      obtain ⟨H', q1, q2, q3⟩ := hre b' k' nx
      unfold DdDone
      rw [hE, hL]
      exact ⟨rfl, n', H', q1, K1.trans q2, q3⟩
    clear hE hL hre B cb p1 p K1 V hg hb1 hk
    go_enter Try.func27, Try.ntmps27
    go_wp2_with fail
    refine HB.out.mono ?_
    rintro e w2 ⟨rfl, rfl⟩
    go_wp2_with fail
    refine HC.out.mono ?_
    rintro e w3 ⟨rfl, n', h', b', k', nx⟩
    have HR := hide (HD.out w3 n' h' b' k' nx)
    clear b' k' nx HC HD
    go_wp2
    go_ret
    exact HR.out
end Go.Proofs.Ytncnilplmklccaa
