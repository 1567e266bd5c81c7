/- Contracts of sponsionlaw06's lives and few over this translation. -/
import Derived.Test.YtgjckinihmbdeaaDomText
import Derived.Lib.SlBytesConst
namespace Go.Proofs.Ytgjckinihmbdeaa
open Go.RowKit Go.Lib
attribute [local go_sem] setCell_drewN alloc_drewN

theorem ab_at (w : World) (t : TypeId) : At (w.alloc (.cells #[.int .u8 97, .int .u8 98] t (2, 3))) (some ⟨w.heap.size, 0, none⟩) [97, 98] := by
  have hb : (w.alloc (.cells #[.int .u8 97, .int .u8 98] t (2, 3))).heap[w.heap.size]? = some (.cells #[.int .u8 97, .int .u8 98] t (2, 3)) := by
    show (w.heap.push _)[w.heap.size]? = _
    simp
  refine .inr ⟨_, _, rfl, by simp, fun j hj => ?_⟩
  rcases (by simp at hj; omega : j = 0 ∨ j = 1) with rfl | rfl <;> (unfold World.cell?; rw [hb]; rfl)
theorem nil_part (w : World) : PtOk w ⟨none, 0, []⟩ := ⟨At.nil _ _, by simp, by simp [maxLen], fun x hx => by simp at hx⟩
theorem ab_text : dtext 1 [[97, 98], []] = [1, 0, 0, 0, 2, 97, 98, 0, 0, 0, 0] := by decide
set_option maxRecDepth 100000 in
set_option maxHeartbeats 4000000 in
theorem lives6_any (w : World) : Calls Try.prog 4 #[] w fun e w' => e = .returned (.bool true) ∧ Below w.heap.size w w' := by
  have P : Hid (PtOk (w.alloc (.cells #[.int .u8 97, .int .u8 98] 5 (2, 3))) ⟨some ⟨w.heap.size, 0, none⟩, 2, [97, 98]⟩) := ⟨ab_at w _, by simp, by simp [maxLen], fun x hx => by simp at hx; omega⟩
  have hcv := run_convert_bytes_const (P := Try.prog) w 25 5 #[.int .u8 97, .int .u8 98] 2 2 Try.underlying25 Try.underlying5
  go_enter Try.func4, Try.ntmps4
  go_wp2_with fail
  have hz : (w.alloc (.cells #[.int .u8 97, .int .u8 98] 5 (2, 3))).heap.size = w.heap.size + 1 := by simp
  have B : Hid (Below w.heap.size w (w.alloc (.cells #[.int .u8 97, .int .u8 98] 5 (2, 3)))) := bAl (bMe w)
  clear hcv
  generalize w.alloc (.cells #[.int .u8 97, .int .u8 98] 5 (2, 3)) = w1 at *
  have H := hide (two_parts ⟨some ⟨w.heap.size, 0, none⟩, 2, [97, 98]⟩ ⟨none, 0, []⟩ P.out (nil_part w1) 25 hz)
  replace B := hide (bAl (o := .cells #[.slice (some ⟨w.heap.size, 0, none⟩) 2 2, .slice none 0 0] 25) B.out)
  refine (text_any 1 (by omega) (by omega) (some ⟨w.heap.size + 1, 0, none⟩) 2 [⟨some ⟨w.heap.size, 0, none⟩, 2, [97, 98]⟩, ⟨none, 0, []⟩] H.out (fun q hq e => by simp at hq; rcases hq with rfl | rfl <;> simp at e ⊢) (by simp [dtext, lsOf, ptexts, ptext, be_length]) (by simp)).mono ?_
  rintro e w2 ⟨v, rfl, hv, hb⟩
  have ht : dtext 1 (lsOf [⟨some ⟨w.heap.size, 0, none⟩, 2, [97, 98]⟩, ⟨none, 0, []⟩]) = [1, 0, 0, 0, 2, 97, 98, 0, 0, 0, 0] := ab_text
  rw [ht] at hv
  obtain ⟨bo, bc, rfl, k1, k2, k3⟩ := hv.cell
  have hs : (convert 25 9 (.slice bo 11 bc)).run Try.prog w2 = .ok (.string ⟨#[1, 0, 0, 0, 2, 97, 98, 0, 0, 0, 0]⟩) w2 := k3.str bc
  replace B := hide (bOn B.out hb)
  clear hv hb k1 k2 k3 ht
  go_wp2
  go_ret
  exact ⟨rfl, B.out⟩
/-- Are parts few, and little? -/
def fewP (ps : List Prt) : Bool := decide (ps.length ≤ 6 ∧ ∀ p ∈ ps, p.l.length ≤ 100)
theorem fewP_no {ps : List Prt} {k : Nat} {p : Prt} (hk : ps[k]? = some p) (h : 100 < p.l.length) : fewP ps = false := by
  unfold fewP; rw [decide_eq_false_iff_not]; intro ⟨_, h2⟩; have := h2 p (List.mem_of_getElem? hk); omega
theorem fewP_is {ps : List Prt} (h : ∀ p ∈ ps, p.l.length ≤ 100) : fewP ps = decide ((ps.length : Int) ≤ 6) := by
  unfold fewP
  rw [Bool.eq_iff_iff]; simp only [decide_eq_true_eq]
  exact ⟨fun ⟨h1, _⟩ => by omega, fun h1 => ⟨by omega, h⟩⟩
theorem ret_boolP {a b : Bool} (h : a = b) : Ending.returned (.bool a) = .returned (.bool b) := by rw [h]
set_option maxHeartbeats 4000000 in
theorem fewP_any {w : World} {ao : Option Addr} {cap : Nat} {ps : List Prt} (hp : Parts w ao ps) (hps : ps.length ≤ maxLen) :
    Calls Try.prog 5 #[.slice ao ps.length cap] w fun e w' => e = .returned (.bool (fewP ps)) ∧ w' = w := by
  unfold maxLen at hps
  have hpi : (ps.length : Int) ≤ 9223372036854775807 := by omega
  have HP := hide hp
  clear hp
  go_enter Try.func5, Try.ntmps5
  go_wp2
  go_loop [7] (fun i => ∃ k : Nat, k ≤ ps.length ∧ i = .int .i64 k ∧ Hid (∀ p ∈ ps.take k, p.l.length ≤ 100)) (fun i => ps.length - (intOf i).toNat)
  case atStart => exact ⟨0, by omega, rfl, fun p hp => by simp at hp⟩
  case round =>
    obtain ⟨k, hk, rfl, HALL⟩ := hrel
    by_cases hlt : k < ps.length
    · have hki : (k : Int) < (ps.length : Int) := by omega
      obtain ⟨p, hp⟩ : ∃ p, ps[k]? = some p := ⟨ps[k], by simp [hlt]⟩
      have ck : ∃ b off, ao = some ⟨b, off, none⟩ ∧ w.cell? ⟨b, off + k, none⟩ = some (.slice p.ao p.l.length p.cap) ∧ PtOk w p := by
        rcases HP.out with h0 | ⟨b, off, e, hl, hc⟩
        · rw [h0] at hlt; simp at hlt
        · exact ⟨b, off, e, hc k p hp⟩
      obtain ⟨b, off, rfl, ck, hok⟩ := ck
      have HPK := hide hp
      clear hp
      by_cases hl : p.l.length ≤ 100
      · have hli : ¬ (100 : Int) < (p.l.length : Int) := by omega
        have HN : Hid (∀ q ∈ ps.take (k + 1), q.l.length ≤ 100) := by
          intro q hq
          rw [List.take_add_one, HPK.out] at hq
          simp at hq
          rcases hq with hq | rfl
          · exact HALL.out q hq
          · exact hl
        go_wp2
        go_round
        case rel => exact ⟨k + 1, by omega, by go_num, HN⟩
        case measure => simp [intOf]; omega
      · have hli : (100 : Int) < (p.l.length : Int) := by omega
        have HF : Hid (fewP ps = false) := fewP_no HPK.out (by omega)
        go_wp2
        go_ret
        exact ⟨ret_boolP HF.out.symm, rfl⟩
    · obtain rfl : k = ps.length := by omega
      have HF : Hid (fewP ps = decide ((ps.length : Int) ≤ 6)) := fewP_is (by have := HALL.out; rwa [List.take_length] at this)
      go_wp2
      go_ret
      exact ⟨ret_boolP HF.out.symm, rfl⟩
end Go.Proofs.Ytgjckinihmbdeaa
