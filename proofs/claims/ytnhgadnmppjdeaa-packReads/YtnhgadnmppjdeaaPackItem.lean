/- Items (sponsionlaw04.Item) in memory; lives and few of sponsionlaw04. -/
import Derived.Test.YtnhgadnmppjdeaaRef4
import Derived.Test.YtnhgadnmppjdeaaPackMore
import Derived.Test.YtnhgadnmppjdeaaVRow
import Derived.LaidEqlPtr
namespace Go.Proofs.Ytnhgadnmppjdeaa
open Go.RowKit Go.Lib
attribute [local go_sem] setCell_drewN alloc_drewN

/-- What an item has: its kind, limb, number, sum, bytes (and where they lie), and two ints. -/
structure Itm where
  kd : Int
  x : Int
  a : Int
  h : Nat → Int
  bo : Option Addr
  bc : Nat
  bl : List Int
  n : Int
  e : Int
def itmV (t : Itm) : List Value := [.int .u8 t.kd, .int .u64 t.x, .int .u64 (lm t.a 0), .int .u64 (lm t.a 1), .int .u64 (lm t.a 2), .int .u64 (lm t.a 3)] ++ (rowV 32 t.h ++ [.slice t.bo t.bl.length t.bc, .int .i64 t.n, .int .i64 t.e])
theorem itmV_length (t : Itm) : (itmV t).length = 41 := by simp [itmV, rowV_length]
theorem itmV_one (t : Itm) : ∀ v ∈ itmV t, v.oneCell' = true := by
  intro v hv
  unfold itmV at hv
  rcases List.mem_append.1 hv with hv | hv
  · simp at hv; rcases hv with rfl | rfl | rfl | rfl | rfl | rfl <;> rfl
  · rcases List.mem_append.1 hv with hv | hv
    · exact rowV_one 32 t.h v hv
    · simp at hv; rcases hv with rfl | rfl | rfl <;> rfl
theorem itmV_tail (t : Itm) (j : Nat) : (itmV t)[38 + j]? = [Value.slice t.bo t.bl.length t.bc, .int .i64 t.n, .int .i64 t.e][j]? := by
  unfold itmV
  rw [List.getElem?_append_right (by simp; omega), List.getElem?_append_right (by rw [rowV_length]; simp; omega), rowV_length]
  congr 1
  simp
  omega
theorem itmV_hash (t : Itm) {j : Nat} (hj : j < 32) : (itmV t)[6 + j]? = some (.int .u8 (t.h j)) := by
  unfold itmV
  rw [List.getElem?_append_right (by simp), List.getElem?_append_left (by rw [rowV_length]; simp; omega)]
  simp [rowV_get hj]
/-- An item may be. -/
structure Itm.Ok (t : Itm) : Prop where
  kd : 0 ≤ t.kd ∧ t.kd < 256
  x : 0 ≤ t.x ∧ t.x < 18446744073709551616
  a : In t.a
  h : ∀ j, 0 ≤ t.h j ∧ t.h j < 256
  bl : Byt t.bl
  n : -9223372036854775808 ≤ t.n ∧ t.n ≤ 9223372036854775807
  e : -9223372036854775808 ≤ t.e ∧ t.e ≤ 9223372036854775807
  bc : t.bl.length ≤ t.bc ∧ t.bc ≤ maxLen
  bo : t.bo = none → t.bc = 0
/-- A slice of items in memory. -/
structure Its (w : World) (ao : Option Addr) (n cap : Nat) (t : Nat → Itm) : Prop where
  cap : n ≤ cap ∧ cap ≤ maxLen
  here : 0 < n → ∃ b off, ao = some ⟨b, off, none⟩ ∧ b < w.heap.size ∧ ∀ i, i < n → w.rangeAt b (off + i * 41) (itmV (t i))
  bl : ∀ i, i < n → At w (t i).bo (t i).bl
  ok : ∀ i, (t i).Ok
theorem Its.below {w w' : World} {ao : Option Addr} {n cap : Nat} {t : Nat → Itm} (h : Its w ao n cap t) (hb : Below w.heap.size w w') : Its w' ao n cap t := by
  refine ⟨h.cap, fun hn => ?_, fun i hi => (h.bl i hi).below hb, h.ok⟩
  obtain ⟨b, off, e, hl, hc⟩ := h.here hn
  exact ⟨b, off, e, Nat.lt_of_lt_of_le hl hb.size, fun i hi j v hv => (hb.cell (p := ⟨b, off + i * 41 + j, none⟩) hl).trans (hc i hi j v hv)⟩
/-- Are they few, and little? -/
def fewB (n : Nat) (t : Nat → Itm) : Bool := decide (n ≤ 30 ∧ ∀ i, i < n → (t i).bl.length ≤ 100)
theorem few_no {n k : Nat} {t : Nat → Itm} (hk : k < n) (h : 100 < (t k).bl.length) : fewB n t = false := by
  unfold fewB; rw [decide_eq_false_iff_not]; intro ⟨_, h2⟩; have := h2 k hk; omega
theorem few_is {n : Nat} {t : Nat → Itm} (h : ∀ i, i < n → (t i).bl.length ≤ 100) : fewB n t = decide ((n : Int) ≤ 30) := by
  unfold fewB
  rw [Bool.eq_iff_iff]; simp only [decide_eq_true_eq]
  exact ⟨fun ⟨h1, _⟩ => by omega, fun h1 => ⟨by omega, h⟩⟩
theorem info_itm (t : Itm) : (Try.prog.info? 35).map (·.size) = some (itmV t).length := by rw [itmV_length]; kernel_rfl
theorem info_itm' (t : Itm) : (Try.prog.info? 35).map (·.size) = some (itmV t).toArray.size := by rw [List.size_toArray]; exact info_itm t

theorem info_wtr : ∃ i, Try.prog.info? 28 = some i := by
  have h : (Try.prog.info? 28).isSome = true := by kernel_rfl
  exact Option.isSome_iff_exists.1 h
theorem same_wtr (g : Nat) (w : World) : (binOp .eql 25 (.pointer (some ⟨g, 0, none⟩)) (.pointer (some ⟨g, 0, none⟩))).run Try.prog w = .ok (.bool true) w := by
  obtain ⟨i, hi⟩ := info_wtr
  exact run_eql_ptr_same w _ Try.underlying25 hi
theorem other_wtr (g : Nat) (w : World) : (binOp .neq 25 (.pointer (some ⟨g, 0, none⟩)) (.pointer (some ⟨g, 0, none⟩))).run Try.prog w = .ok (.bool false) w := by
  obtain ⟨i, hi⟩ := info_wtr
  have h : ∀ d : Nat, (Op.equalIn (d + 1) 25 (.pointer (some ⟨g, 0, none⟩)) (.pointer (some ⟨g, 0, none⟩))).run Try.prog w = .ok true w := fun d => by
    simp [Op.equalIn, run_underlying Try.underlying25, sizeOf, typeInfo, hi, run_sameAddr_same]
  simp only [binOp]
  simp [Op.equal, Op.maxDepth, h 9999]
attribute [local go_sem] same_wtr other_wtr
set_option maxHeartbeats 4000000 in
theorem lives4_any (w : World) : Calls Try.prog 6 #[] w fun e w' => e = .returned (.bool true) ∧ Below w.heap.size w w' := by
  go_enter Try.func6, Try.ntmps6
  go_wp2_with fail
  have W := hide (Wtr.new w 28)
  have B : Hid (Below w.heap.size w (w.alloc (.cells #[.slice none 0 0] 28))) := bAl (bMe w)
  generalize w.alloc (.cells #[.slice none 0 0] 28) = w1 at *
  refine (u32_any W.out 258 (by omega) (by omega) (by simp)).mono ?_
  rintro e w2 ⟨rfl, ao, cap, hw, hr⟩
  rw [show ([] ++ be 258 4) = [0, 0, 1, 2] from rfl] at hw
  have W2 := hide hw
  replace B := hide (hr.below B.out (Nat.le_refl _) (fun k e => by cases e))
  clear hw hr W
  go_wp2_with fail
  refine (wbytes_any W2.out (by simp)).mono ?_
  rintro e w3 ⟨v, rfl, hb, hb2⟩
  obtain ⟨bo, bc, rfl, _, _, ha⟩ := hb.cell
  have hcv : (convert 26 9 (.slice bo 4 bc)).run Try.prog w3 = .ok (.string ⟨#[0, 0, 1, 2]⟩) w3 := ha.str bc
  replace B := hide (bOn B.out hb2)
  clear hb hb2 ha
  go_wp2
  go_ret
  exact ⟨rfl, B.out⟩
theorem ret_bool {a b : Bool} (h : a = b) : Ending.returned (.bool a) = .returned (.bool b) := by rw [h]
theorem copied (w : World) (t : Itm) : VRow ((w.alloc (.cells #[.int .u8 0, .int .u64 0, .int .u64 0, .int .u64 0, .int .u64 0, .int .u64 0, .int .u8 0, .int .u8 0, .int .u8 0, .int .u8 0, .int .u8 0, .int .u8 0, .int .u8 0, .int .u8 0, .int .u8 0, .int .u8 0, .int .u8 0, .int .u8 0, .int .u8 0, .int .u8 0, .int .u8 0, .int .u8 0, .int .u8 0, .int .u8 0, .int .u8 0, .int .u8 0, .int .u8 0, .int .u8 0, .int .u8 0, .int .u8 0, .int .u8 0, .int .u8 0, .int .u8 0, .int .u8 0, .int .u8 0, .int .u8 0, .int .u8 0, .int .u8 0, .slice none 0 0, .int .i64 0, .int .i64 0] 35)).setCells w.heap.size 0 (itmV t)) w.heap.size (itmV t) ∧ Below w.heap.size w ((w.alloc (.cells #[.int .u8 0, .int .u64 0, .int .u64 0, .int .u64 0, .int .u64 0, .int .u64 0, .int .u8 0, .int .u8 0, .int .u8 0, .int .u8 0, .int .u8 0, .int .u8 0, .int .u8 0, .int .u8 0, .int .u8 0, .int .u8 0, .int .u8 0, .int .u8 0, .int .u8 0, .int .u8 0, .int .u8 0, .int .u8 0, .int .u8 0, .int .u8 0, .int .u8 0, .int .u8 0, .int .u8 0, .int .u8 0, .int .u8 0, .int .u8 0, .int .u8 0, .int .u8 0, .int .u8 0, .int .u8 0, .int .u8 0, .int .u8 0, .int .u8 0, .int .u8 0, .slice none 0 0, .int .i64 0, .int .i64 0] 35)).setCells w.heap.size 0 (itmV t)) :=
  VRow.made w _ _ _ (by rw [itmV_length]; rfl)
set_option maxHeartbeats 4000000 in
theorem few_any {w : World} {ao : Option Addr} {n cap : Nat} {t : Nat → Itm} (h : Its w ao n cap t) :
    Calls Try.prog 7 #[.slice ao n cap] w fun e w' => e = .returned (.bool (fewB n t)) ∧ Below w.heap.size w w' := by
  have H := hide h
  clear h
  go_enter Try.func7, Try.ntmps7
  go_wp2
  go_loopw [7] (fun i wr => ∃ k : Nat, k ≤ n ∧ i = .int .i64 k ∧ (∀ j, j < k → (t j).bl.length ≤ 100) ∧ Below w.heap.size w wr) (fun i _ => n - (intOf i).toNat)
  case atStart => exact ⟨0, by omega, rfl, fun j hj => by omega, bMe w⟩
  case round =>
    obtain ⟨k, hk, rfl, hall, hb⟩ := hrel
    have HB := hide hb; have HALL := hide hall
    clear hb hall
    by_cases hlt : k < n
    · have hki : (k : Int) < (n : Int) := by omega
      have hnm : n ≤ 9223372036854775807 := by have := H.out.cap; unfold maxLen at this; omega
      obtain ⟨b, off, rfl, hbl, hc⟩ := H.out.here (by omega)
      have R0 : Hid (wr.rangeAt b (off + k * 41) (itmV (t k))) := fun j v hv => (HB.out.cell (p := ⟨b, off + k * 41 + j, none⟩) hbl).trans (hc k hlt j v hv)
      have HC := hide hc
      clear hc
      go_wp2_with (refine wpList_load_mid rfl 35 _ rfl b (off + k * 41) rfl (itmV (t k)) _ R0.out Try.underlying35 rfl (info_itm _) ?_)
      rw [storing_new wr _ 35 (itmV (t k)) (by rw [itmV_length]; rfl) (itmV_one _)]
      obtain ⟨V, B2⟩ := copied wr (t k)
      have HV := hide V; replace HB := hide (bOn HB.out B2)
      clear V B2
      generalize (wr.alloc (.cells #[.int .u8 0, .int .u64 0, .int .u64 0, .int .u64 0, .int .u64 0, .int .u64 0, .int .u8 0, .int .u8 0, .int .u8 0, .int .u8 0, .int .u8 0, .int .u8 0, .int .u8 0, .int .u8 0, .int .u8 0, .int .u8 0, .int .u8 0, .int .u8 0, .int .u8 0, .int .u8 0, .int .u8 0, .int .u8 0, .int .u8 0, .int .u8 0, .int .u8 0, .int .u8 0, .int .u8 0, .int .u8 0, .int .u8 0, .int .u8 0, .int .u8 0, .int .u8 0, .int .u8 0, .int .u8 0, .int .u8 0, .int .u8 0, .int .u8 0, .int .u8 0, .slice none 0 0, .int .i64 0, .int .i64 0] 35)).setCells wr.heap.size 0 (itmV (t k)) = w2 at *
      have c38 := HV.out.cell 38 (itmV_tail (t k) 0)
      by_cases hl : (t k).bl.length ≤ 100
      · have hli : ¬ (100 : Int) < ((t k).bl.length : Int) := by omega
        go_wp2
        go_roundw
        case rel => exact ⟨k + 1, by omega, by go_num, fun j hj => by
          by_cases e : j = k
          · subst e; exact hl
          · exact HALL.out j (by omega), HB.out⟩
        case measure => simp [intOf]; omega
      · have hli : (100 : Int) < ((t k).bl.length : Int) := by omega
        have HF : Hid (fewB n t = false) := few_no hlt (by omega)
        go_wp2
        go_ret
        exact ⟨ret_bool HF.out.symm, HB.out⟩
    · obtain rfl : k = n := by omega
      have HF : Hid (fewB k t = decide ((k : Int) ≤ 30)) := few_is HALL.out
      go_wp2
      go_ret
      exact ⟨ret_bool HF.out.symm, HB.out⟩
end Go.Proofs.Ytnhgadnmppjdeaa
