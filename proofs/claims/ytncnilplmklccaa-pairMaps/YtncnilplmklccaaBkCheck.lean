/- The contract of book's check over this translation. -/
import Derived.Test.YtncnilplmklccaaBkState
namespace Go.Proofs.Ytncnilplmklccaa
set_option linter.unusedSimpArgs false
set_option linter.unusedVariables false
open Go.RowKit Go.Lib
attribute [local go_sem] setCell_drewN alloc_drewN eqInt

/-- What is wrong first: no such token or place, or nothing at all. -/
def chk (t : Int) (ps : List Int) (N : Int) : Int := if 4 ≤ t then 1 else if ps.any (fun p => decide (18 ≤ p)) = true then 1 else if N = 0 then 3 else 0
theorem ret_i64' {a b : Int} (h : a = b) : Ending.returned (.int .i64 a) = .returned (.int .i64 b) := by rw [h]
theorem chk_place {t : Int} {ps : List Int} {N : Int} (ht : t < 4) {i : Nat} (hi : i < ps.length) (h : 18 ≤ ps[i]) : chk t ps N = 1 := by
  unfold chk
  rw [if_neg (by omega), if_pos]
  rw [List.any_eq_true]
  exact ⟨ps[i], List.getElem_mem hi, by simpa using h⟩
theorem chk_num {t : Int} {ps : List Int} {N : Int} (ht : t < 4) (h : ∀ j (h : j < ps.length), ps[j] < 18) : chk t ps N = if N = 0 then 3 else 0 := by
  unfold chk
  rw [if_neg (by omega), if_neg]
  rw [List.any_eq_true]
  rintro ⟨p, hp, hp2⟩
  obtain ⟨j, hj, rfl⟩ := List.mem_iff_getElem.1 hp
  have := h j hj
  simp at hp2
  omega
set_option maxRecDepth 100000 in
set_option maxHeartbeats 1000000 in
theorem check_bk {w : World} {b : Nat} {ps : List Int} (hps : ∀ i (h : i < ps.length), w.cell? ⟨b, i, none⟩ = some (.int .u8 ps[i])) (hpb : ∀ i (h : i < ps.length), 0 ≤ ps[i] ∧ ps[i] < 256) (hb : b < w.heap.size) (hl : ps.length ≤ 100) {N : Int} (hN : In N) (t : Int) :
    Calls Try.prog 42 #[big N, .int .u8 t, .slice (some ⟨b, 0, none⟩) ps.length ps.length] w fun e w' => e = .returned (.int .i64 (chk t ps N)) ∧ Below w.heap.size w w' := by
  have HPS := hide hps
  have HPB := hide hpb
  clear hps hpb
  have hb0 : Hid (Below w.heap.size w (w.alloc (.cells #[.int .u64 (lm N 0), .int .u64 (lm N 1), .int .u64 (lm N 2), .int .u64 (lm N 3)] 55))) := bAl (bMe w)
  have nb : b ≠ w.heap.size := Nat.ne_of_lt hb
  by_cases ht : 4 ≤ t
  · have HC := hide (show chk t ps N = 1 from if_pos ht)
    go_enter Try.func42, Try.ntmps42
    go_wp2
    go_ret
    exact ⟨ret_i64' HC.out.symm, hb0.out⟩
  · have ht4 : t < 4 := by omega
    have H1 := fun i hi h => hide (chk_place (N := N) ht4 (ps := ps) (i := i) hi h)
    have H2 := fun h => hide (chk_num (N := N) ht4 (ps := ps) h)
    have HH1 := hide H1
    have HH2 := hide H2
    clear H1 H2
    have hll : (ps.length : Int) ≤ 100 := by omega
    have HEQ := hide (big_eq hN In.zero)
    go_enter Try.func42, Try.ntmps42
    go_wp2
    go_loopw [13] (fun q wr => ∃ i : Nat, i ≤ ps.length ∧ q = .int .i64 i ∧ wr = w.alloc (.cells #[.int .u64 (lm N 0), .int .u64 (lm N 1), .int .u64 (lm N 2), .int .u64 (lm N 3)] 55) ∧ Hid (∀ j (h : j < ps.length), j < i → ps[j] < 18)) (fun q _ => ps.length - (intOf q).toNat)
    case atStart => exact ⟨0, by omega, rfl, rfl, fun j h h2 => by omega⟩
    case round =>
      obtain ⟨i, hi, rfl, rfl, hall⟩ := hrel
      by_cases hlt : i < ps.length
      · have hlt' : (i : Int) < (ps.length : Int) := by omega
        have c := HPS.out i hlt
        have hr := HPB.out i hlt
        have K1 := fun h => HH1.out i hlt h
        have KK1 := hide K1
        clear K1
        generalize hp : ps[i] = p at *
        have HP := hide hp
        have hw : wrap64 p = p := by simp only [wrap64]; omega
        clear hp
        by_cases hpp : 18 ≤ p
        · have HC := KK1.out hpp
          go_wp2
          go_ret
          exact ⟨ret_i64' HC.out.symm, hb0.out⟩
        · go_wp2
          exact ⟨⟨i + 1, by omega, by simp, trivial, fun j h h2 => by
            by_cases e : j = i
            · subst e; have := HP.out; omega
            · exact hall.out j h (by omega)⟩, by simp [intOf]; omega⟩
      · obtain rfl : i = ps.length := by omega
        have HC := HH2.out (fun j hj => hall.out j hj hj)
        cases hs : same4 (lm N 0) (lm N 1) (lm N 2) (lm N 3) 0 0 0 0
        · have h0 : ¬ N = 0 := fun e => by have := HEQ.out; rw [lm_zero, lm_zero, lm_zero, lm_zero, hs] at this; simp [e] at this
          have HC2 := hide (HC.out.trans (if_neg h0))
          clear h0 HC
          go_wp2
          go_ret
          exact ⟨ret_i64' HC2.out.symm, hb0.out⟩
        · have h0 : N = 0 := by have := HEQ.out; rw [lm_zero, lm_zero, lm_zero, lm_zero, hs] at this; simpa using this
          have HC2 := hide (HC.out.trans (if_pos h0))
          clear h0 HC
          go_wp2
          go_ret
          exact ⟨ret_i64' HC2.out.symm, hb0.out⟩
end Go.Proofs.Ytncnilplmklccaa
