/- The walk of sponsionlaw05.DigestHex over this translation. -/
import Derived.Test.YthfijigjpaidaaaDoorDigHex
import Derived.Laws.RangeString
namespace Go.Proofs.YthfijigjpaidaaaDoor
open Go.RowKit Go.Lib
attribute [local go_sem] setCell_drewN alloc_drewN

theorem hex_get (f : Nat → Int) : ∀ (n k : Nat), k < n → (hexL f n).getD (2 * k) 0 = dg (f k / 16) ∧ (hexL f n).getD (2 * k + 1) 0 = dg (f k % 16)
  | n + 1, k, h => by
    have hl := hexL_length f n
    show (hexL f n ++ [dg (f n / 16), dg (f n % 16)]).getD (2 * k) 0 = _ ∧ (hexL f n ++ [dg (f n / 16), dg (f n % 16)]).getD (2 * k + 1) 0 = _
    by_cases e : k < n
    · have ih := hex_get f n k e
      rw [List.getD_eq_getElem?_getD, List.getD_eq_getElem?_getD, List.getElem?_append_left (by omega), List.getElem?_append_left (by omega), ← List.getD_eq_getElem?_getD, ← List.getD_eq_getElem?_getD]
      exact ih
    · obtain rfl : k = n := by omega
      rw [List.getD_eq_getElem?_getD, List.getD_eq_getElem?_getD, List.getElem?_append_right (by omega), List.getElem?_append_right (by omega), hl, Nat.sub_self, show 2 * k + 1 - 2 * k = 1 by omega]
      exact ⟨rfl, rfl⟩
theorem str_at (l : List Int) (j : Nat) (hj : j < l.length) (hb : 0 ≤ l.getD j 0 ∧ l.getD j 0 < 256) (h : j < (strOfNums l).size) : (((strOfNums l)[j]'h).toNat : Int) = l.getD j 0 := by
  have e : (strOfNums l)[j]'h = UInt8.ofNat (l[j]).toNat := by
    show ((l.map fun n => UInt8.ofNat n.toNat).toArray)[j]'(by simpa using hj) = _
    rw [List.getElem_toArray, List.getElem_map]
  have e2 : l.getD j 0 = l[j] := by simp [hj]
  rw [e, e2]
  rw [e2] at hb
  rw [UInt8.toNat_ofNat']
  omega
theorem idx_str (s : ByteArray) (j : Nat) (h : j < s.size) (c : Int) (hc : ((s[j]'h).toNat : Int) = c) (w : World) : (Instr.index 9 (.string s) (.int .i64 j)).run Tryd.prog w = .ok (.int .u8 c) w := by
  subst hc
  unfold Instr.index
  have e : s[(j : Int).toNat]? = some (s[j]'h) := by simp [h]
  simp only [asIntOf, Sem.run_bind, Sem.run_pure, Result.andThen_ok, run_underlying Tryd.underlying9, if_pos (Int.natCast_nonneg j), e]
set_option maxRecDepth 100000 in
set_option maxHeartbeats 8000000 in
theorem digestHex_walk (f : Nat → Int) (w : World) (hf : ∀ j, 0 ≤ f j ∧ f j < 256) (ht : Tab w 1) :
    Calls Tryd.prog 5 #[.agg (rowV 32 f).toArray] w fun e w' => e = .returned (.bool true) ∧ Below w.heap.size w w' := by
  have HF := hide hf; have HT := hide ht
  clear hf ht
  have R := hide (BRow.box w 32 f 25 (g := w.heap.size) rfl)
  have B : Hid (Below w.heap.size w (w.alloc (.cells (rowV 32 f).toArray 25))) := bAl (bMe w)
  go_enter Tryd.func5, Tryd.ntmps5
  go_wp2_with fail
  generalize w.alloc (.cells (rowV 32 f).toArray 25) = w1 at *
  refine (lives5_any w1 (HT.out.below B.out)).mono ?_
  rintro e w2 ⟨rfl, hb⟩
  replace R := hide (R.out.after hb rfl); replace B := hide (bOn B.out hb)
  clear hb HT
  go_wp2_with (refine wpList_load_mid rfl 25 _ rfl w.heap.size 0 rfl (rowV 32 f) _ R.out.range Tryd.underlying25 rfl (info_hash32 _) ?_)
  refine (hex_any f w2 HF.out).mono ?_
  rintro e w3 ⟨rfl, hb⟩
  replace R := hide (R.out.after hb rfl); replace B := hide (bOn B.out hb)
  clear hb
  have hsz : (strOfNums (hexL f 32)).size = 64 := by rw [strOfNums_size, hexL_length]
  have HG : Hid (∀ k, k < 32 → (hexL f 32).getD (2 * k) 0 = dg (f k / 16) ∧ (hexL f 32).getD (2 * k + 1) 0 = dg (f k % 16)) := fun k hk => hex_get f 32 k hk
  have hll : (hexL f 32).length = 64 := hexL_length f 32
  obtain ⟨H, hH⟩ : ∃ H, hexL f 32 = H := ⟨_, rfl⟩
  rw [hH] at hsz HG hll
  rw [hH]
  have HLL := hide hll
  have HSA := hide (fun j hj hb h => str_at H j hj hb h)
  clear hH hll
  obtain ⟨s, hs⟩ : ∃ s, strOfNums H = s := ⟨_, rfl⟩
  have HSE := hide hs
  rw [hs] at hsz
  rw [hs]
  clear hs
  go_wp2
  have HSC : Hid (∀ j, j < H.length → (0 ≤ H.getD j 0 ∧ H.getD j 0 < 256) → ∀ s', strOfNums H = s' → ∀ h : j < s'.size, ((s'[j]'h).toNat : Int) = H.getD j 0) := by
    rintro j h1 h2 _ rfl h
    exact HSA.out j h1 h2 h
  clear HSA
  go_loopg [4] 64 (fun gk _ wr => ∃ pos : Nat, gk + pos = 64 ∧ wr = w3.iter s pos)
  case atStart => exact ⟨0, by omega, rfl⟩
  case round =>
    obtain ⟨pos, hp, rfl⟩ := hrel
    have HP := hide hp
    clear hp
    by_cases hlt : pos < 64
    · have hpi : (pos : Int) < 64 := by omega
      have hps : pos < s.size := by omega
      obtain ⟨q, hq⟩ : ∃ q, pos / 2 = q := ⟨_, rfl⟩
      have hqi : (pos : Int) / 2 = (q : Int) := by omega
      have hq32 : (q : Int) < 32 := by omega
      have cq : ∀ p, (w3.iter s p).cell? ⟨w.heap.size, q, none⟩ = some (.int .u8 (f q)) := fun p => (R.out.past (.stringIter s p)).cell q (by omega)
      obtain ⟨x0, x1⟩ := HF.out q
      have hll := HLL.out
      rcases (by omega : pos % 2 = 0 ∨ pos % 2 = 1) with hm | hm
      · have hr : (pos : Int) % 2 = 0 := by omega
        obtain ⟨hh, hhe⟩ : ∃ hh, f q / 16 = hh := ⟨_, rfl⟩
        have hh0 : 0 ≤ hh ∧ hh < 16 := by omega
        have hget : H.getD pos 0 = dg hh := by
          rw [← hhe]
          have := HG.out q (by omega)
          rw [show pos = 2 * q + 0 by omega]
          exact this.1
        have hbd := dg_bd hh0
        have hc := HSC.out pos (by omega) (by rw [hget]; omega) s HSE.out hps
        rw [hget] at hc
        have hx := fun w => idx_str s pos hps (dg hh) hc w
        have hnx := fun ty => run_next_ascii (P := Tryd.prog) w3 s pos ty hps (by omega)
        obtain ⟨h00, h01⟩ := hh0
        clear hget hbd hc
        generalize f q = x at *
        by_cases h10 : hh < 10
        · have hd : dg hh = 48 + hh := by unfold dg; rw [if_pos h10]
          rw [hd] at hx
          clear hd
          go_wp2
          go_roundg (64 - pos - 1)
          case measure => have := HP.out; omega
          case rel => exact ⟨pos + 1, by omega, rfl⟩
        · have hd : dg hh = 87 + hh := by unfold dg; rw [if_neg h10]
          rw [hd] at hx
          clear hd
          go_wp2
          go_roundg (64 - pos - 1)
          case measure => have := HP.out; omega
          case rel => exact ⟨pos + 1, by omega, rfl⟩
      · have hr : (pos : Int) % 2 = 1 := by omega
        obtain ⟨hh, hhe⟩ : ∃ hh, f q % 16 = hh := ⟨_, rfl⟩
        have hh0 : 0 ≤ hh ∧ hh < 16 := by omega
        have hget : H.getD pos 0 = dg hh := by
          rw [← hhe]
          have := HG.out q (by omega)
          rw [show pos = 2 * q + 1 by omega]
          exact this.2
        have hbd := dg_bd hh0
        have hc := HSC.out pos (by omega) (by rw [hget]; omega) s HSE.out hps
        rw [hget] at hc
        have hx := fun w => idx_str s pos hps (dg hh) hc w
        have hnx := fun ty => run_next_ascii (P := Tryd.prog) w3 s pos ty hps (by omega)
        obtain ⟨h00, h01⟩ := hh0
        clear hget hbd hc
        generalize f q = x at *
        by_cases h10 : hh < 10
        · have hd : dg hh = 48 + hh := by unfold dg; rw [if_pos h10]
          rw [hd] at hx
          clear hd
          go_wp2
          go_roundg (64 - pos - 1)
          case measure => have := HP.out; omega
          case rel => exact ⟨pos + 1, by omega, rfl⟩
        · have hd : dg hh = 87 + hh := by unfold dg; rw [if_neg h10]
          rw [hd] at hx
          clear hd
          go_wp2
          go_roundg (64 - pos - 1)
          case measure => have := HP.out; omega
          case rel => exact ⟨pos + 1, by omega, rfl⟩
    · obtain rfl : pos = 64 := by have := HP.out; omega
      have hnx := fun ty => run_next_end (P := Tryd.prog) w3 s 64 ty (by omega)
      go_wp2
      go_ret
      exact ⟨rfl, bOn B.out (bAl (bMe w3))⟩
end Go.Proofs.YthfijigjpaidaaaDoor
