/- Contracts of sponsionref05's down, both and Padded over this translation. -/
import Derived.Test.YtjkhboejhcbdpaaDoorPackBase
import Derived.Test.YtjkhboejhcbdpaaDoorSha
import Derived.Deep.LoopGhost
namespace Go.Proofs.YtjkhboejhcbdpaaDoor
open Go.RowKit Go.Lib
attribute [local go_sem] setCell_drewN alloc_drewN

theorem rotr_zero (x : Int) : rotr x 0 = x := by unfold rotr; simp [Int.emod_one]
theorem rotr_U {x : Int} (hx : U32 x) {n : Nat} (hn : n ≤ 32) : U32 (rotr x n) := by
  unfold U32 at hx
  unfold U32 rotr
  rcases (by omega : n = 0 ∨ n = 1 ∨ n = 2 ∨ n = 3 ∨ n = 4 ∨ n = 5 ∨ n = 6 ∨ n = 7 ∨ n = 8 ∨ n = 9 ∨ n = 10 ∨ n = 11 ∨ n = 12 ∨ n = 13 ∨ n = 14 ∨ n = 15 ∨ n = 16 ∨ n = 17 ∨ n = 18 ∨ n = 19 ∨ n = 20 ∨ n = 21 ∨ n = 22 ∨ n = 23 ∨ n = 24 ∨ n = 25 ∨ n = 26 ∨ n = 27 ∨ n = 28 ∨ n = 29 ∨ n = 30 ∨ n = 31 ∨ n = 32) with rfl | rfl | rfl | rfl | rfl | rfl | rfl | rfl | rfl | rfl | rfl | rfl | rfl | rfl | rfl | rfl | rfl | rfl | rfl | rfl | rfl | rfl | rfl | rfl | rfl | rfl | rfl | rfl | rfl | rfl | rfl | rfl | rfl <;> simp only [Nat.reduceSub, Int.reducePow] <;> omega
theorem rotr_succ (x : Int) {n : Nat} (hn : n < 32) : rotr x (n + 1) = rotr x n / 2 + rotr x n % 2 * 2147483648 := by
  unfold rotr
  rcases (by omega : n = 0 ∨ n = 1 ∨ n = 2 ∨ n = 3 ∨ n = 4 ∨ n = 5 ∨ n = 6 ∨ n = 7 ∨ n = 8 ∨ n = 9 ∨ n = 10 ∨ n = 11 ∨ n = 12 ∨ n = 13 ∨ n = 14 ∨ n = 15 ∨ n = 16 ∨ n = 17 ∨ n = 18 ∨ n = 19 ∨ n = 20 ∨ n = 21 ∨ n = 22 ∨ n = 23 ∨ n = 24 ∨ n = 25 ∨ n = 26 ∨ n = 27 ∨ n = 28 ∨ n = 29 ∨ n = 30 ∨ n = 31) with rfl | rfl | rfl | rfl | rfl | rfl | rfl | rfl | rfl | rfl | rfl | rfl | rfl | rfl | rfl | rfl | rfl | rfl | rfl | rfl | rfl | rfl | rfl | rfl | rfl | rfl | rfl | rfl | rfl | rfl | rfl | rfl <;> simp only [Nat.reduceSub, Nat.reduceAdd, Int.reducePow] <;> omega
theorem ret_i {k : IntKind} {a b : Int} (h : a = b) : Ending.returned (.int k a) = .returned (.int k b) := by rw [h]
theorem val_i {k : IntKind} {a b : Int} (h : a = b) : Value.int k a = .int k b := by rw [h]
set_option maxHeartbeats 4000000 in
theorem turn_any (x : Int) (n : Nat) (w : World) (hx : U32 x) (hn : n ≤ 32) :
    Calls Tryd.prog 46 #[.int .u32 x, .int .i64 n, .bool true] w fun e w' => e = .returned (.int .u32 (rotr x n)) ∧ w' = w := by
  have hni : (n : Int) ≤ 32 := by omega
  have H := hide hx
  clear hx
  go_enter Tryd.func46, Tryd.ntmps46
  go_wp2
  go_loop [0, 9] (fun t0 ti => ∃ k : Nat, k ≤ n ∧ ti = .int .i64 k ∧ t0 = .int .u32 (rotr x k)) (fun _ t => n - (intOf t).toNat)
  case atStart => exact ⟨0, by omega, rfl, val_i (rotr_zero x).symm⟩
  case round =>
    obtain ⟨k, hk, rfl, rfl⟩ := hrel
    by_cases hlt : k < n
    · have hki : (k : Int) < (n : Int) := by omega
      obtain ⟨y0, y1⟩ := rotr_U H.out (n := k) (by omega)
      have HS := hide (rotr_succ x (n := k) (by omega))
      generalize rotr x k = y at *
      by_cases h1 : y % 2 = 1
      · go_wp2
        go_round
        case rel => exact ⟨k + 1, by omega, by go_num, val_i (by rw [HS.out, h1]; first | rfl | omega)⟩
        case measure => simp [intOf]; omega
      · have h0 : y % 2 = 0 := by omega
        go_wp2
        go_round
        case rel => exact ⟨k + 1, by omega, by go_num, val_i (by rw [HS.out, h0]; first | rfl | omega)⟩
        case measure => simp [intOf]; omega
    · obtain rfl : k = n := by omega
      go_wp2
      go_ret
      exact ⟨rfl, rfl⟩
set_option maxHeartbeats 4000000 in
theorem move_any (x : Int) (n : Nat) (w : World) (hx : U32 x) (hn : n ≤ 32) :
    Calls Tryd.prog 46 #[.int .u32 x, .int .i64 n, .bool false] w fun e w' => e = .returned (.int .u32 (x / 2 ^ n)) ∧ w' = w := by
  have hni : (n : Int) ≤ 32 := by omega
  obtain ⟨x0, x1⟩ := hx
  go_enter Tryd.func46, Tryd.ntmps46
  go_wp2
  go_loop [0, 9] (fun t0 ti => ∃ k : Nat, k ≤ n ∧ ti = .int .i64 k ∧ t0 = .int .u32 (x / 2 ^ k)) (fun _ t => n - (intOf t).toNat)
  case atStart => exact ⟨0, by omega, rfl, by simp⟩
  case round =>
    obtain ⟨k, hk, rfl, rfl⟩ := hrel
    by_cases hlt : k < n
    · have hki : (k : Int) < (n : Int) := by omega
      have y0 : 0 ≤ x / 2 ^ k := Int.ediv_nonneg x0 (Int.le_of_lt (Int.pow_pos (by decide)))
      have y1 : x / 2 ^ k < 4294967296 := Int.lt_of_le_of_lt (Int.ediv_le_self _ x0) x1
      have HS : Hid (x / 2 ^ (k + 1) = x / 2 ^ k / 2) := by show _ = _; rw [Int.pow_succ, Int.ediv_ediv_of_nonneg (Int.le_of_lt (Int.pow_pos (by decide)))]
      generalize x / 2 ^ k = y at *
      go_wp2
      all_goals
        go_round
        case rel => exact ⟨k + 1, by omega, by go_num, val_i HS.out.symm⟩
        case measure => simp [intOf]; omega
    · obtain rfl : k = n := by omega
      go_wp2
      go_ret
      exact ⟨rfl, rfl⟩
theorem both_any (a b c : Int) (w : World) (ha : U32 a) (hb : U32 b) (hc : U32 c) :
    Calls Tryd.prog 45 #[.int .u32 a, .int .u32 b, .int .u32 c] w fun e w' => e = .returned (.int .u32 (xr3 a b c)) ∧ w' = w := by
  have e1 := xr_is ha hb
  have e2 := xr_is (xr_U ha hb) hc
  have HE : Hid (xr (xr a b) c = xr3 a b c) := rfl
  go_enter Tryd.func45, Tryd.ntmps45
  go_wp2
  go_ret
  exact ⟨ret_i HE.out, rfl⟩
/-- An empty row of bytes; a row of one. -/
theorem empty5 (w : World) : Bs (w.alloc (.cells #[] 5)) w.heap.size (.slice (some ⟨w.heap.size, 0, none⟩) 0 0) [] :=
  World.ownsRow_lit w #[] 0 (Nat.le_refl _) (by simp [maxLen]) rfl
theorem one5 (w : World) (x : Int) (t : TypeId) : At (w.alloc (.cells #[.int .u8 x] t)) (some ⟨w.heap.size, 0, none⟩) [x] := by
  refine .inr ⟨_, _, rfl, by simp, fun j hj => ?_⟩
  obtain rfl : j = 0 := by simp at hj; omega
  rw [World.cell?_alloc_at _ _ _ _ rfl]; simp
theorem Bs.grown {B : Nat} {a w w1 : World} {v : Value} {l : List Int} (h : Bs w B v l) (hb : Below a.heap.size a w) (hB : a.heap.size ≤ B) (hg : w.grownBy w1 v.ownBlock) : Below a.heap.size a w1 :=
  hb.grown hg hb.size (fun k e => Nat.le_trans hB (h.lt k e).1)
theorem lenB_snoc (n i : Nat) : (List.range (i + 1)).map (fun i => (n * 8 : Int) / 256 ^ (7 - i) % 256) = (List.range i).map (fun i => (n * 8 : Int) / 256 ^ (7 - i) % 256) ++ [(n * 8 : Int) / 256 ^ (7 - i) % 256] := by
  rw [List.range_succ, List.map_append]; rfl
set_option maxHeartbeats 4000000 in
theorem padded_any {w : World} (so : Option Addr) (c : Nat) (l : List Int) (hs : At w so l) (hso : so = none → c = 0) (hl : l.length ≤ 100000) :
    Calls Tryd.prog 44 #[.slice so l.length c] w fun e w' => ∃ v, e = .returned v ∧ Bs w' w.heap.size v (padded l) ∧ Below w.heap.size w w' := by
  have HS := hide hs; have HSO := hide hso
  clear hs hso
  have hli : (l.length : Int) ≤ 100000 := by omega
  go_enter Tryd.func44, Tryd.ntmps44
  go_wp2_with (at_builtin; refine wpList_app rfl _ _ rfl (.slice (some ⟨w.heap.size, 0, none⟩) 0 0) [] l _ _ _ rfl rfl rfl (empty5 w) (HS.out.below (bAl (bMe w))) HSO.out (by simp; omega) (by simp) ?_)
  intro v1 w1 hb1 hg1 hn1
  have B := hide ((empty5 w).grown (bAl (bMe w)) (Nat.le_refl _) hg1)
  have V := hide hb1
  obtain ⟨ao1, cap1, rfl, -, -, -⟩ := hb1.cell
  clear hb1 hg1 hn1
  go_wp2_with (at_builtin; refine wpList_app rfl _ _ rfl (.slice ao1 l.length cap1) l [128] _ _ _ rfl rfl rfl (V.out.below (bAl (bMe w1))) (one5 w1 128 _) (fun e => by simp at e) (by simp; omega) (by have := B.out.size; simp; omega) ?_)
  intro v2 w2 hb2 hg2 hn2
  replace B := hide ((V.out.below (bAl (o := (.cells #[.int .u8 128] 5)) (bMe w1))).grown (bAl B.out) (Nat.le_refl _) hg2)
  replace V := hide hb2
  clear hb2 hg2 hn2
  go_wp2
  have hno : Hid (noughts l.length < 64 ∧ (l.length + 1 + noughts l.length) % 64 = 56 ∧ ∀ j, j < noughts l.length → (l.length + 1 + j) % 64 ≠ 56) := by
    unfold noughts
    exact ⟨by omega, by omega, fun j hj => by omega⟩
  go_loopg [3] (noughts l.length) (fun gk t3 wr => ∃ j : Nat, gk + j = noughts l.length ∧ Bs wr w.heap.size t3 (l ++ [128] ++ List.replicate j 0) ∧ Below w.heap.size w wr)
  case atStart => exact ⟨0, by omega, by simpa using V.out, B.out⟩
  case round =>
    clear V B
    obtain ⟨j, hj, hv, hb⟩ := hrel
    have V := hide hv; have B := hide hb; have HJ := hide hj
    obtain ⟨ao3, cap3, rfl, -, -, -⟩ := hv.cell
    clear hv hb hj
    have hlen : (l ++ [128] ++ List.replicate j 0).length = l.length + 1 + j := by simp; omega
    have hj64 : j ≤ 64 := by have := HJ.out; have := hno.out.1; omega
    obtain ⟨L, hL⟩ : ∃ L, l ++ [128] ++ List.replicate j 0 = L := ⟨_, rfl⟩
    rw [hL] at V hlen
    rw [hL]
    have HL := hide hL; have HLEN := hide hlen
    have hL5 : L.length ≤ 200000 := by omega
    clear hL hlen
    by_cases hlt : j < noughts l.length
    · have hmod : ((L.length : Int) % 64 != 56) = true := by have := hno.out.2.2 j hlt; have := HLEN.out; simp; omega
      go_wp2_with (at_builtin; refine wpList_app rfl _ _ rfl (.slice ao3 L.length cap3) L [0] _ _ _ rfl rfl rfl (V.out.below (bAl (bMe wr))) (one5 wr 0 _) (fun e => by simp at e) (by simp; omega) (by have := B.out.size; simp; omega) ?_)
      intro v4 w4 hb4 hg4 hn4
      replace B := hide ((V.out.below (bAl (o := (.cells #[.int .u8 0] 5)) (bMe wr))).grown (bAl B.out) (Nat.le_refl _) hg4)
      replace V := hide hb4
      clear hb4 hg4 hn4
      go_wp2
      go_roundg (noughts l.length - j - 1)
      case measure => have := HJ.out; omega
      case rel =>
        refine ⟨j + 1, by omega, ?_, B.out⟩
        have := V.out
        rw [← HL.out] at this
        rw [List.replicate_succ', ← List.append_assoc]
        exact this
    · obtain rfl : j = noughts l.length := by have := HJ.out; omega
      have hmod : ((L.length : Int) % 64 != 56) = false := by have := hno.out.2.1; have := HLEN.out; simp; omega
      clear hlt
      go_wp2
      go_loopg [3, 5] 8 (fun gk t3 t5 wr => ∃ i : Nat, gk + i = 8 ∧ t5 = .int .u64 (if i < 8 then 256 ^ (7 - i) else 0) ∧ Bs wr w.heap.size t3 (L ++ (List.range i).map (fun i => (l.length * 8 : Int) / 256 ^ (7 - i) % 256)) ∧ Below w.heap.size w wr)
      case atStart => exact ⟨0, by omega, rfl, by simpa using V.out, B.out⟩
      case round =>
        clear V B
        obtain ⟨i, hi, rfl, hv, hb⟩ := hrel
        have V := hide hv; have B := hide hb; have HI := hide hi
        obtain ⟨ao5, cap5, rfl, -, -, -⟩ := hv.cell
        clear hv hb hi
        have HSN := hide (lenB_snoc l.length i)
        have hlen2 : (L ++ (List.range i).map (fun i => (l.length * 8 : Int) / 256 ^ (7 - i) % 256)).length = L.length + i := by simp
        obtain ⟨M, hM⟩ : ∃ M, L ++ (List.range i).map (fun i => (l.length * 8 : Int) / 256 ^ (7 - i) % 256) = M := ⟨_, rfl⟩
        rw [hM] at V hlen2
        rw [hM]
        have HM := hide hM
        have hM5 : M.length ≤ 200010 := by have := HI.out; omega
        clear hM hlen2
        by_cases hlt : i < 8
        · rw [if_pos hlt]
          have hp : ∃ p : Int, (256 : Int) ^ (7 - i) = p ∧ 0 < p ∧ p ≤ 72057594037927936 ∧ p / 256 = (if i + 1 < 8 then 256 ^ (7 - (i + 1)) else 0) := by
            rcases (by omega : i = 0 ∨ i = 1 ∨ i = 2 ∨ i = 3 ∨ i = 4 ∨ i = 5 ∨ i = 6 ∨ i = 7) with rfl | rfl | rfl | rfl | rfl | rfl | rfl | rfl <;> exact ⟨_, rfl, by decide, by decide, by decide⟩
          obtain ⟨p, hpe, p0, p1, hpn⟩ := hp
          rw [hpe] at HSN ⊢
          have HPN := hide hpn
          clear hpe hpn
          have q0 : 0 ≤ (l.length * 8 : Int) / p := Int.ediv_nonneg (by omega) (by omega)
          have q1 : (l.length * 8 : Int) / p ≤ 800000 := Int.le_trans (Int.ediv_le_self _ (by omega)) (by omega)
          go_wp2_with (at_builtin; refine wpList_app rfl _ _ rfl (.slice ao5 M.length cap5) M [(l.length * 8 : Int) / p % 256] _ _ _ rfl rfl rfl (V.out.below (bAl (bMe wr))) (one5 wr _ _) (fun e => by simp at e) (by simp; omega) (by have := B.out.size; simp; omega) ?_)
          intro v6 w6 hb6 hg6 hn6
          replace B := hide ((V.out.below (bAl (o := (.cells #[.int .u8 ((l.length * 8 : Int) / p % 256)] 5)) (bMe wr))).grown (bAl B.out) (Nat.le_refl _) hg6)
          replace V := hide hb6
          clear hb6 hg6 hn6
          go_wp2
          go_roundg (8 - i - 1)
          case measure => have := HI.out; omega
          case rel =>
            refine ⟨i + 1, by omega, val_i HPN.out, ?_, B.out⟩
            have := V.out
            rw [← HM.out, List.append_assoc, ← HSN.out] at this
            exact this
        · obtain rfl : i = 8 := by have := HI.out; omega
          rw [if_neg hlt]
          go_wp2
          go_ret
          refine ⟨_, rfl, ?_, B.out⟩
          have e : M = padded l := by
            rw [← HM.out, ← HL.out]
            unfold padded lenB
            simp
          rw [← e]
          exact V.out
end Go.Proofs.YtjkhboejhcbdpaaDoor
