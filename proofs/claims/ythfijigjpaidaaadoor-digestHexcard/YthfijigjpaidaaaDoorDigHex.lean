/- The contract of digest.Hex over this translation. -/
import Derived.Test.YthfijigjpaidaaaDoorDigLives
import Derived.Test.YthfijigjpaidaaaDoorHashEq
import Derived.Laws.BytesArg
namespace Go.Proofs.YthfijigjpaidaaaDoor
open Go.RowKit Go.Lib
attribute [local go_sem] setCell_drewN alloc_drewN

/-- A digit's letter. -/
def dg (n : Int) : Int := if n < 10 then 48 + n else 87 + n
theorem dg_bd {n : Int} (h : 0 ≤ n ∧ n < 16) : 48 ≤ dg n ∧ dg n < 103 := by unfold dg; split <;> omega
/-- A sum's digits. -/
def hexL (f : Nat → Int) : Nat → List Int
  | 0 => []
  | k + 1 => hexL f k ++ [dg (f k / 16), dg (f k % 16)]
theorem hexL_length (f : Nat → Int) : ∀ k, (hexL f k).length = 2 * k
  | 0 => rfl
  | k + 1 => by unfold hexL; rw [List.length_append, hexL_length f k]; simp; omega
theorem idx_row (f : Nat → Int) (k : Nat) (hk : k < 32) (w : World) : (Instr.index 25 (.agg (rowV 32 f).toArray) (.int .i64 k)).run Tryd.prog w = .ok (.int .u8 (f k)) w := by
  have hz : (sizeOf 5).run Tryd.prog w = .ok 1 w := by kernel_rfl
  have hc : 0 ≤ (k : Int) ∧ (k : Int) < ((32 : Nat) : Int) := by omega
  unfold Instr.index
  simp only [asIntOf, Sem.run_bind, Sem.run_pure, Result.andThen_ok, run_underlying Tryd.underlying25, if_pos hc, hz]
  exact part_byte f k hk w
theorem idx_dig (n : Nat) (hn : n < 16) (w : World) : (Instr.index 9 (.string ⟨#[48, 49, 50, 51, 52, 53, 54, 55, 56, 57, 97, 98, 99, 100, 101, 102]⟩) (.int .u8 n)).run Tryd.prog w = .ok (.int .u8 (dg n)) w := by
  rcases (by omega : n = 0 ∨ n = 1 ∨ n = 2 ∨ n = 3 ∨ n = 4 ∨ n = 5 ∨ n = 6 ∨ n = 7 ∨ n = 8 ∨ n = 9 ∨ n = 10 ∨ n = 11 ∨ n = 12 ∨ n = 13 ∨ n = 14 ∨ n = 15) with rfl | rfl | rfl | rfl | rfl | rfl | rfl | rfl | rfl | rfl | rfl | rfl | rfl | rfl | rfl | rfl <;> kernel_rfl
theorem two5 (w : World) (x y : Int) (t : TypeId) : At (w.alloc (.cells #[.int .u8 x, .int .u8 y] t)) (some ⟨w.heap.size, 0, none⟩) [x, y] := by
  refine .inr ⟨_, _, rfl, by simp, fun j hj => ?_⟩
  rw [World.cell?_alloc_at _ _ _ _ rfl]
  rcases (by simp at hj; omega : j = 0 ∨ j = 1) with rfl | rfl <;> rfl
/-- 'make' of an empty row with room. -/
theorem make_room {ops : Array Oper} {rest : List Oper} {o : Oper} {a : Act} {Q : Exit → Act → World → Prop} (hgd : o.guard = none) (l c : Operand) (hop : o.op = Op.makeSlice 22 l c) {w : World}
    (C : Int) (n : Nat) (hl : a.eval l = .int .i64 0) (hc : a.eval c = .int .i64 C) (hC : C = (n : Int)) (hn : n ≤ 4194304)
    (hK : ∀ w', Hid (Bs w' w.heap.size (.slice (some ⟨w.heap.size, 0, none⟩) 0 n) [] ∧ Below w.heap.size w w') → wpList Tryd.prog ops Q rest (a.put o.dst (.slice (some ⟨w.heap.size, 0, none⟩) 0 n)) w') :
    wpList Tryd.prog ops Q (o :: rest) a w := by
  obtain ⟨i0, hi, hz0, hz1, hz2⟩ := info_byte
  refine wpList_make_own w hgd l c 22 hop w.heap.size 5 i0 (.int .u8 0) 1 Tryd.underlying22 hi hz0 hz1 .i64 .i64 C n hl hc hC (by rw [hz2]; omega) (by unfold maxLen; omega) (Nat.le_refl _) ?_
  intro w' h1 h2
  exact hK w' ⟨h1, (Below.refl _ _).grown h2 (Nat.le_refl _) (fun k hk => by cases hk)⟩
theorem At.strH {w : World} {ao : Option Addr} {l : List Int} (h : At w ao l) (cap : Nat) : (convert 22 9 (.slice ao l.length cap)).run Tryd.prog w = .ok (.string (strOfNums l)) w := by
  rcases h with rfl | ⟨b, off, rfl, hl, hc⟩
  · cases ao with
    | none => exact run_convert_bytes_nil w 22 5 Tryd.underlying22 Tryd.underlying5 0 cap 9 Tryd.underlying9
    | some a =>
      rw [run_convert_bytes_string w _ _ 5 _ _ cap Tryd.underlying22 Tryd.underlying5 Tryd.underlying9]
      exact run_bytesToString w a 0 cap [] (run_loadCells_list (P := Tryd.prog) w a [] (fun j v hv => by simp at hv))
  · exact run_convert_bytes_arg w 22 5 Tryd.underlying22 Tryd.underlying5 b off l.length cap l rfl hc 9 Tryd.underlying9
theorem and15 {x : Int} (h : 0 ≤ x ∧ x < 256) : bits .and .u8 x 15 = x % 16 := by
  obtain ⟨n, rfl⟩ := Int.eq_ofNat_of_zero_le h.1
  have hn : n < 256 := by omega
  rw [show (15 : Int) = ((15 : Nat) : Int) from rfl, u8_and_nat n 15 hn (by decide), show (15 : Nat) = 2 ^ 4 - 1 from rfl, Nat.and_two_pow_sub_one_eq_mod]
  simp
set_option maxRecDepth 100000 in
set_option maxHeartbeats 8000000 in
theorem hex_any (f : Nat → Int) (w : World) (hf : ∀ j, 0 ≤ f j ∧ f j < 256) :
    Calls Tryd.prog 13 #[.agg (rowV 32 f).toArray] w fun e w' => e = .returned (.string (strOfNums (hexL f 32))) ∧ Below w.heap.size w w' := by
  have HF := hide hf
  clear hf
  have BX := hide (BRow.box w 32 f 25 (g := w.heap.size) rfl)
  have B0 : Hid (Below w.heap.size w (w.alloc (.cells (rowV 32 f).toArray 25))) := bAl (bMe w)
  go_enter Tryd.func13, Tryd.ntmps13
  go_wp2_with (at_make; refine make_room rfl _ _ rfl _ 64 rfl rfl rfl (by omega) ?_)
  intro w1 h1
  have hb1 : Below (w.alloc (.cells (rowV 32 f).toArray 25)).heap.size (w.alloc (.cells (rowV 32 f).toArray 25)) w1 := by simpa using h1.out.2
  have V := hide h1.out.1; have B := hide (bOn B0.out hb1)
  replace BX := hide (BX.out.after hb1 rfl)
  clear h1 hb1 B0
  go_wp2_with (refine wpList_load_mid rfl 25 _ rfl w.heap.size 0 rfl (rowV 32 f) _ BX.out.range Tryd.underlying25 rfl (info_hash32 _) ?_)
  replace V := hide (V.out.mono (show w.heap.size ≤ _ by simp))
  clear BX
  go_loopg [3, 8] 32 (fun gk t3 t8 wr => ∃ (k : Nat), gk + k = 32 ∧ t8 = .int .i64 k ∧ Bs wr w.heap.size t3 (hexL f k) ∧ Below w.heap.size w wr)
  case atStart => exact ⟨0, by omega, rfl, V.out, B.out⟩
  case round =>
    clear V B
    obtain ⟨k, hk, rfl, hv, hb⟩ := hrel
    have V := hide hv; have B := hide hb; have HK := hide hk
    obtain ⟨ao3, cap3, rfl, -, -, hat⟩ := hv.cell
    have HAT := hide hat
    clear hv hb hk hat
    have hll := hexL_length f k
    by_cases hlt : k < 32
    · have hki : (k : Int) < 32 := by omega
      have ix := fun w => idx_row f k hlt w
      obtain ⟨f0, f1⟩ := HF.out k
      have ha := and15 ⟨f0, f1⟩
      obtain ⟨hi, hhi⟩ : ∃ hi : Nat, f k / 16 = (hi : Int) := ⟨(f k / 16).toNat, by omega⟩
      obtain ⟨lo, hlo⟩ : ∃ lo : Nat, f k % 16 = (lo : Int) := ⟨(f k % 16).toNat, by omega⟩
      have i1 := fun w => idx_dig hi (by omega) w
      have i2 := fun w => idx_dig lo (by omega) w
      have HN : Hid (hexL f (k + 1) = hexL f k ++ [dg hi, dg lo]) := by
        show _ = _
        rw [← hhi, ← hlo]; rfl
      rw [hlo] at ha
      obtain ⟨L, hL⟩ : ∃ L, hexL f k = L := ⟨_, rfl⟩
      rw [hL] at V HN hll
      rw [hL]
      have HLL := hide hll
      have hL5 : L.length ≤ 64 := by omega
      clear hL hll hlo
      generalize f k = x at *
      generalize dg hi = d1 at *
      generalize dg lo = d2 at *
      go_wp2
      go_region_law (refine step_app rfl (.tmp 11) (.tmp 18) rfl (.slice ao3 L.length cap3) L [d1, d2] _ _ _ (by simp [Act.eval]) (by simp [Act.eval]; rfl) rfl (B := w.heap.size) (V.out.below (bAl (bMe wr)).drew) ((two5 wr d1 d2 _).of (Nat.le_refl _) (fun _ _ _ => rfl)) (fun e => by simp at e) (by simp; omega) (by have := B.out.size; simp; omega) ?_; intro v' w1 hb1 hg1 hn1)
      all_goals
        have V2 := hide hb1
        have B2 := hide ((V.out.below (bAl (bMe wr)).drew).grown (bAl B.out).drew (Nat.le_refl _) hg1)
        clear hb1 hg1 hn1
        go_wp2
        go_roundg (32 - k - 1)
        case measure => have := HK.out; omega
        case rel => exact ⟨k + 1, by omega, by go_num, by rw [HN.out]; exact V2.out, B2.out⟩
    · obtain rfl : k = 32 := by have := HK.out; omega
      have hs := HAT.out.strH cap3
      clear HAT V hll
      obtain ⟨L, hL⟩ : ∃ L, hexL f 32 = L := ⟨_, rfl⟩
      have HLL := hide hL
      rw [hL] at hs
      rw [hL]
      clear hL
      go_wp2
      go_ret
      exact ⟨by rw [HLL.out]; rfl, B.out⟩
end Go.Proofs.YthfijigjpaidaaaDoor
