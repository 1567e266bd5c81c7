/- Contracts of digest.ending and New over this translation. -/
import Derived.Test.YtjkhboejhcbdpaaDoorDigAdd
import Derived.OwnWalk
namespace Go.Proofs.YtjkhboejhcbdpaaDoor
open Go.RowKit Go.Lib
attribute [local go_sem] setCell_drewN alloc_drewN

/-- What comes behind so many bytes. -/
def endL (n : Nat) : List Int := 128 :: (List.replicate (noughts n) 0 ++ lenB n)
theorem endL_length (n : Nat) : (endL n).length = 1 + noughts n + 8 := by unfold endL lenB; simp; omega
theorem padded_is (l : List Int) : padded l = l ++ endL l.length := rfl
/-- The same by its places, as far as it is written. -/
def endF (n no i j : Nat) : Int := if j = 0 then 128 else if 1 + no ≤ j ∧ j < 1 + no + i then (n * 8 : Int) / 256 ^ (7 - (j - (1 + no))) % 256 else 0
theorem end_next (n no i j : Nat) (hi : i < 8) (v : Int) (hv : v = (n * 8 : Int) / 256 ^ (7 - i) % 256) : (if j = 1 + no + i then v else endF n no i j) = endF n no (i + 1) j := by
  unfold endF
  by_cases e : j = 1 + no + i
  · rw [if_pos e, if_neg (by omega), if_pos (by omega), hv, show j - (1 + no) = i by omega]
  · rw [if_neg e]
    by_cases e0 : j = 0
    · rw [if_pos e0, if_pos e0]
    · rw [if_neg e0, if_neg e0]
      by_cases e1 : 1 + no ≤ j ∧ j < 1 + no + i
      · rw [if_pos e1, if_pos (by omega)]
      · rw [if_neg e1, if_neg (by omega)]
theorem end_zero (n no j : Nat) : (if j = 0 then (128 : Int) else 0) = endF n no 0 j := by
  unfold endF
  by_cases e : j = 0
  · rw [if_pos e, if_pos e]
  · rw [if_neg e, if_neg e, if_neg (by omega)]
theorem lenB_get (n j : Nat) (hj : j < 8) : (lenB n).getD j 0 = (n * 8 : Int) / 256 ^ (7 - j) % 256 := by
  unfold lenB; simp [hj]
theorem end_all (n j : Nat) (hj : j < (endL n).length) : endF n (noughts n) 8 j = (endL n).getD j 0 := by
  rw [endL_length] at hj
  unfold endF endL
  by_cases e0 : j = 0
  · subst e0; rfl
  · rw [if_neg e0]
    obtain ⟨k, rfl⟩ : ∃ k, j = k + 1 := ⟨j - 1, by omega⟩
    rw [List.getD_cons_succ]
    by_cases e1 : k < noughts n
    · rw [if_neg (by omega), List.getD_eq_getElem?_getD, List.getElem?_append_left (by simp; omega)]
      simp [e1]
    · rw [if_pos (by omega), List.getD_eq_getElem?_getD, List.getElem?_append_right (by simp; omega), ← List.getD_eq_getElem?_getD, List.length_replicate, lenB_get _ _ (by omega)]
      rw [show k + 1 - (1 + noughts n) = k - noughts n by omega]
/-- 'make' of so many bytes. -/
theorem make_byte {ops : Array Oper} {rest : List Oper} {o : Oper} {a : Act} {Q : Exit → Act → World → Prop} (hgd : o.guard = none) (l c : Operand) (hop : o.op = Op.makeSlice 67 l c) {w : World}
    (L C : Int) (n : Nat) (hl : a.eval l = .int .i64 L) (hc : a.eval c = .int .i64 C) (hL : L = (n : Int)) (hC : C = (n : Int)) (hn : n ≤ 4194304)
    (hK : ∀ w', Hid (BRow w' w.heap.size n (fun _ => 0) ∧ Below w.heap.size w w') → wpList Tryd.prog ops Q rest (a.put o.dst (.slice (some ⟨w.heap.size, 0, none⟩) n n)) w') :
    wpList Tryd.prog ops Q (o :: rest) a w := by
  obtain ⟨i0, hi, hz0, hz1, hz2⟩ := info_byte
  refine wpList_make_full w hgd l c 67 hop w.heap.size 5 i0 (.int .u8 0) 1 Tryd.underlying67 hi hz0 hz1 .i64 .i64 L C n hl hc hL hC (by rw [hz2]; omega) (by unfold maxLen; omega) (Nat.le_refl _) ?_
  intro w' h1 h2
  have e : (madeCells (Value.int .u8 0).cells (n * 1)).toList = bv (List.replicate n 0) := by
    unfold bv
    rw [Nat.mul_one, List.map_replicate]
    exact toList_madeCells_one (.int .u8 0) n
  rw [e] at h1
  refine hK w' ⟨⟨(h1.lt w.heap.size rfl).2, fun j hj => ?_, fun o => World.ownsRow.frozenAt h1 o⟩, (Below.refl _ _).grown h2 (Nat.le_refl _) (fun k hk => by cases hk)⟩
  rw [World.ownsRow.cellAt h1 j (by omega), bv_get (by simpa using hj)]
  simp [hj]
set_option maxRecDepth 100000 in
set_option maxHeartbeats 8000000 in
theorem ending_any (n : Nat) (w : World) (hn : n ≤ 1000000) :
    Calls Tryd.prog 49 #[.int .u64 n] w fun e w' => ∃ k, k = (endL n).length ∧ e = .returned (.slice (some ⟨w.heap.size, 0, none⟩) k k) ∧ At w' (some ⟨w.heap.size, 0, none⟩) (endL n) ∧ Below w.heap.size w w' := by
  have hni : (n : Int) ≤ 1000000 := by omega
  obtain ⟨no, hno⟩ : ∃ no, noughts n = no := ⟨_, rfl⟩
  have hno64 : no < 64 := by rw [← hno]; unfold noughts; omega
  have hnoi : (119 - (n : Int) % 64) % 64 = (no : Int) := by rw [← hno]; unfold noughts; omega
  have HNO := hide hno
  have hno6 : (no : Int) < 64 := by omega
  clear hno
  go_enter Tryd.func49, Tryd.ntmps49
  go_wp2_with (at_make; refine make_byte rfl _ _ rfl _ _ (1 + no + 8) rfl rfl (by omega) (by omega) (by omega) ?_)
  intro w1 h1
  have R := hide h1.out.1; have B := hide h1.out.2
  clear h1
  have c0 := R.out.cell 0 (by omega)
  have f0 := R.out.fr 0
  go_wp2
  have R2 : Hid (BRow (w1.setCell ⟨w.heap.size, 0, none⟩ (.int .u8 128)) w.heap.size (1 + no + 8) (endF n no 0)) := (R.out.set 0 (by omega) 128).congr (fun j _ => end_zero n no j)
  replace B := hide (B.out.setCell (p := ⟨w.heap.size, 0, none⟩) (Nat.le_refl _) (.int .u8 128))
  clear R c0 f0
  generalize w1.setCell ⟨w.heap.size, 0, none⟩ (.int .u8 128) = w2 at *
  go_loopg [17] 8 (fun gk t wr => ∃ i : Nat, gk + i = 8 ∧ t = .int .i64 i ∧ BRow wr w.heap.size (1 + no + 8) (endF n no i) ∧ Below w.heap.size w wr)
  case atStart => exact ⟨0, by omega, rfl, R2.out, B.out⟩
  case round =>
    clear R2 B
    obtain ⟨i, hi, rfl, hr, hb⟩ := hrel
    have R := hide hr; have B := hide hb; have HI := hide hi
    clear hr hb hi
    by_cases hlt : i < 8
    · have hii : (i : Int) < 8 := by omega
      have ci := R.out.cell (1 + no + i) (by omega)
      have fi := R.out.fr (1 + no + i)
      rcases (by omega : i = 0 ∨ i = 1 ∨ i = 2 ∨ i = 3 ∨ i = 4 ∨ i = 5 ∨ i = 6 ∨ i = 7) with rfl | rfl | rfl | rfl | rfl | rfl | rfl | rfl
      · rw [Nat.add_zero] at ci fi
        go_wp2
        go_roundg (8 - 0 - 1)
        case measure => have := HI.out; omega
        case rel =>
          refine ⟨0 + 1, by omega, by go_num, ?_, bOn (B.out.setCell (by simp only []; exact Nat.le_refl _) _) (bMe _)⟩
          refine (R.out.set (1 + no) (by omega) _).congr (fun j hj => ?_)
          exact end_next n no 0 j (by omega) _ (by simp only [Nat.reduceSub, Int.reducePow] <;> omega)
      · go_wp2
        go_roundg (8 - 1 - 1)
        case measure => have := HI.out; omega
        case rel =>
          refine ⟨1 + 1, by omega, by go_num, ?_, bOn (B.out.setCell (by simp only []; exact Nat.le_refl _) _) (bMe _)⟩
          refine (R.out.set (1 + no + 1) (by omega) _).congr (fun j hj => ?_)
          exact end_next n no 1 j (by omega) _ (by simp only [Nat.reduceSub, Int.reducePow] <;> omega)
      · go_wp2
        go_roundg (8 - 2 - 1)
        case measure => have := HI.out; omega
        case rel =>
          refine ⟨2 + 1, by omega, by go_num, ?_, bOn (B.out.setCell (by simp only []; exact Nat.le_refl _) _) (bMe _)⟩
          refine (R.out.set (1 + no + 2) (by omega) _).congr (fun j hj => ?_)
          exact end_next n no 2 j (by omega) _ (by simp only [Nat.reduceSub, Int.reducePow] <;> omega)
      · go_wp2
        go_roundg (8 - 3 - 1)
        case measure => have := HI.out; omega
        case rel =>
          refine ⟨3 + 1, by omega, by go_num, ?_, bOn (B.out.setCell (by simp only []; exact Nat.le_refl _) _) (bMe _)⟩
          refine (R.out.set (1 + no + 3) (by omega) _).congr (fun j hj => ?_)
          exact end_next n no 3 j (by omega) _ (by simp only [Nat.reduceSub, Int.reducePow] <;> omega)
      · go_wp2
        go_roundg (8 - 4 - 1)
        case measure => have := HI.out; omega
        case rel =>
          refine ⟨4 + 1, by omega, by go_num, ?_, bOn (B.out.setCell (by simp only []; exact Nat.le_refl _) _) (bMe _)⟩
          refine (R.out.set (1 + no + 4) (by omega) _).congr (fun j hj => ?_)
          exact end_next n no 4 j (by omega) _ (by simp only [Nat.reduceSub, Int.reducePow] <;> omega)
      · go_wp2
        go_roundg (8 - 5 - 1)
        case measure => have := HI.out; omega
        case rel =>
          refine ⟨5 + 1, by omega, by go_num, ?_, bOn (B.out.setCell (by simp only []; exact Nat.le_refl _) _) (bMe _)⟩
          refine (R.out.set (1 + no + 5) (by omega) _).congr (fun j hj => ?_)
          exact end_next n no 5 j (by omega) _ (by simp only [Nat.reduceSub, Int.reducePow] <;> omega)
      · go_wp2
        go_roundg (8 - 6 - 1)
        case measure => have := HI.out; omega
        case rel =>
          refine ⟨6 + 1, by omega, by go_num, ?_, bOn (B.out.setCell (by simp only []; exact Nat.le_refl _) _) (bMe _)⟩
          refine (R.out.set (1 + no + 6) (by omega) _).congr (fun j hj => ?_)
          exact end_next n no 6 j (by omega) _ (by simp only [Nat.reduceSub, Int.reducePow] <;> omega)
      · go_wp2
        go_roundg (8 - 7 - 1)
        case measure => have := HI.out; omega
        case rel =>
          refine ⟨7 + 1, by omega, by go_num, ?_, bOn (B.out.setCell (by simp only []; exact Nat.le_refl _) _) (bMe _)⟩
          refine (R.out.set (1 + no + 7) (by omega) _).congr (fun j hj => ?_)
          exact end_next n no 7 j (by omega) _ (by simp only [Nat.reduceSub, Int.reducePow] <;> omega)
    · obtain rfl : i = 8 := by have := HI.out; omega
      go_wp2
      go_ret
      refine ⟨1 + no + 8, by rw [endL_length, HNO.out], rfl, .inr ⟨w.heap.size, 0, rfl, R.out.lt, fun j hj => ?_⟩, B.out⟩
      rw [Nat.zero_add, R.out.cell j (by rw [endL_length, HNO.out] at hj; exact hj), ← end_all n j hj, HNO.out]
/-- A State of nothing. -/
theorem eight_nil : eight [] = start8 := rfl
theorem fresh_box : #[.int .u32 1779033703, .int .u32 3144134277, .int .u32 1013904242, .int .u32 2773480762, .int .u32 1359893119, .int .u32 2600822924, .int .u32 528734635, .int .u32 1541459225, .int .u8 0, .int .u8 0, .int .u8 0, .int .u8 0, .int .u8 0, .int .u8 0, .int .u8 0, .int .u8 0, .int .u8 0, .int .u8 0, .int .u8 0, .int .u8 0, .int .u8 0, .int .u8 0, .int .u8 0, .int .u8 0, .int .u8 0, .int .u8 0, .int .u8 0, .int .u8 0, .int .u8 0, .int .u8 0, .int .u8 0, .int .u8 0, .int .u8 0, .int .u8 0, .int .u8 0, .int .u8 0, .int .u8 0, .int .u8 0, .int .u8 0, .int .u8 0, .int .u8 0, .int .u8 0, .int .u8 0, .int .u8 0, .int .u8 0, .int .u8 0, .int .u8 0, .int .u8 0, .int .u8 0, .int .u8 0, .int .u8 0, .int .u8 0, .int .u8 0, .int .u8 0, .int .u8 0, .int .u8 0, .int .u8 0, .int .u8 0, .int .u8 0, .int .u8 0, .int .u8 0, .int .u8 0, .int .u8 0, .int .u8 0, .int .u8 0, .int .u8 0, .int .u8 0, .int .u8 0, .int .u8 0, .int .u8 0, .int .u8 0, .int .u8 0, .int .u64 0] = (sbV (s8 start8) (fun _ => 0) 0).toArray := rfl
theorem zero_box : #[.int .u32 0, .int .u32 0, .int .u32 0, .int .u32 0, .int .u32 0, .int .u32 0, .int .u32 0, .int .u32 0, .int .u8 0, .int .u8 0, .int .u8 0, .int .u8 0, .int .u8 0, .int .u8 0, .int .u8 0, .int .u8 0, .int .u8 0, .int .u8 0, .int .u8 0, .int .u8 0, .int .u8 0, .int .u8 0, .int .u8 0, .int .u8 0, .int .u8 0, .int .u8 0, .int .u8 0, .int .u8 0, .int .u8 0, .int .u8 0, .int .u8 0, .int .u8 0, .int .u8 0, .int .u8 0, .int .u8 0, .int .u8 0, .int .u8 0, .int .u8 0, .int .u8 0, .int .u8 0, .int .u8 0, .int .u8 0, .int .u8 0, .int .u8 0, .int .u8 0, .int .u8 0, .int .u8 0, .int .u8 0, .int .u8 0, .int .u8 0, .int .u8 0, .int .u8 0, .int .u8 0, .int .u8 0, .int .u8 0, .int .u8 0, .int .u8 0, .int .u8 0, .int .u8 0, .int .u8 0, .int .u8 0, .int .u8 0, .int .u8 0, .int .u8 0, .int .u8 0, .int .u8 0, .int .u8 0, .int .u8 0, .int .u8 0, .int .u8 0, .int .u8 0, .int .u8 0, .int .u64 0] = (sbV (fun _ => 0) (fun _ => 0) 0).toArray := rfl
theorem SB.box (w : World) (h bl : Nat → Int) (n : Nat) (t : TypeId) {g : Nat} (e : w.heap.size = g) : SB (w.alloc (.cells (sbV h bl n).toArray t)) g h bl n := by
  subst e
  refine SB.mk' (by simp) (fun j v hv => ?_) (fun o => World.frozen?_alloc_at _ _ _ _ rfl)
  rw [Nat.zero_add, World.cell?_alloc_at _ _ _ _ rfl]
  simpa using hv
theorem zeroS (w : World) : (zeroValue 95).run Tryd.prog w = .ok (.agg #[.int .u32 0, .int .u32 0, .int .u32 0, .int .u32 0, .int .u32 0, .int .u32 0, .int .u32 0, .int .u32 0, .int .u8 0, .int .u8 0, .int .u8 0, .int .u8 0, .int .u8 0, .int .u8 0, .int .u8 0, .int .u8 0, .int .u8 0, .int .u8 0, .int .u8 0, .int .u8 0, .int .u8 0, .int .u8 0, .int .u8 0, .int .u8 0, .int .u8 0, .int .u8 0, .int .u8 0, .int .u8 0, .int .u8 0, .int .u8 0, .int .u8 0, .int .u8 0, .int .u8 0, .int .u8 0, .int .u8 0, .int .u8 0, .int .u8 0, .int .u8 0, .int .u8 0, .int .u8 0, .int .u8 0, .int .u8 0, .int .u8 0, .int .u8 0, .int .u8 0, .int .u8 0, .int .u8 0, .int .u8 0, .int .u8 0, .int .u8 0, .int .u8 0, .int .u8 0, .int .u8 0, .int .u8 0, .int .u8 0, .int .u8 0, .int .u8 0, .int .u8 0, .int .u8 0, .int .u8 0, .int .u8 0, .int .u8 0, .int .u8 0, .int .u8 0, .int .u8 0, .int .u8 0, .int .u8 0, .int .u8 0, .int .u8 0, .int .u8 0, .int .u8 0, .int .u8 0, .int .u64 0]) w := by kernel_rfl
set_option maxRecDepth 100000 in
set_option maxHeartbeats 8000000 in
theorem new_any (w : World) :
    Calls Tryd.prog 37 #[] w fun e w' => e = .returned (.pointer (some ⟨w.heap.size, 0, none⟩)) ∧ SS w' w.heap.size [] (fun _ => 0) ∧ Below w.heap.size w w' := by
  have hz := zeroS w
  go_enter Tryd.func37, Tryd.ntmps37
  go_wp2
  go_ret
  refine ⟨rfl, ⟨?_, fun j hj => by simp at hj⟩, bAl (bMe w)⟩
  rw [fresh_box, eight_nil]
  exact SB.box w _ _ _ _ rfl
end Go.Proofs.YtjkhboejhcbdpaaDoor
