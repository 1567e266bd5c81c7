/- Contracts of package sponsionref01's functions over this translation: rows of digits in memory, and the numbers that they say. -/
import Derived.Test.YtodjfenbbbdofaaChecked
import Derived.Test.YtodjfenbbbdofaaNums
import Derived.Test.YtodjfenbbbdofaaHide
import Derived.WalkKit
import Derived.WalkSpells
import Derived.WalkLawsBesides
import Derived.RegionTactic
import Derived.Deep.QuietTactic
import Derived.BigQuiet
import Derived.Deep.Light
import Derived.OpenShut
namespace Go.Proofs.Ytodjfenbbbdofaa
open Go.RowKit

/-- A slice value that holds the row of digits zs, in the world w. -/
def Digs (w : World) (ao : Option Addr) (n cap : Nat) (zs : List Int) : Prop :=
  n = zs.length ∧ n ≤ cap ∧ n ≤ 1048576 ∧ ((ao = none ∧ zs = [] ∧ cap = 0) ∨ ∃ b off, ao = some ⟨b, off, none⟩ ∧ b < w.heap.size ∧ ∀ j, j < zs.length → w.cell? ⟨b, off + j, none⟩ = some (.int .i64 (zs.getD j 0)))

theorem Digs.below {w w' : World} {ao : Option Addr} {n cap : Nat} {zs : List Int} (h : Digs w ao n cap zs) (hb : Below w.heap.size w w') : Digs w' ao n cap zs := by
  obtain ⟨h1, h2, h3, h4⟩ := h
  refine ⟨h1, h2, h3, ?_⟩
  rcases h4 with h4 | ⟨b, off, e, hb', hc⟩
  · exact .inl h4
  · exact .inr ⟨b, off, e, Nat.lt_of_lt_of_le hb' hb.size, fun j hj => (hb.cell (p := ⟨b, off + j, none⟩) hb').trans (hc j hj)⟩

theorem at_in (b off n cap : Nat) (d : Int) (k : Nat) (w : World) (hk : k < n)
    (hc : w.cell? ⟨b, off + k, none⟩ = some (.int .i64 d)) :
    Calls Try.prog 35 #[.slice (some ⟨b, off, none⟩) n cap, .int .i64 k] w fun e w' => e = .returned (.int .i64 d) ∧ w' = w := by
  have hlt : (k : Int) < (n : Int) := by omega
  go_enter Try.func35, Try.ntmps35
  go_wp2
  go_ret
  exact ⟨rfl, rfl⟩
theorem at_out (ao : Option Addr) (n cap : Nat) (k : Nat) (w : World) (hk : n ≤ k) :
    Calls Try.prog 35 #[.slice ao n cap, .int .i64 k] w fun e w' => e = .returned (.int .i64 0) ∧ w' = w := by
  have hlt : ¬ (k : Int) < (n : Int) := by omega
  go_enter Try.func35, Try.ntmps35
  go_wp2
  go_ret
  exact ⟨rfl, rfl⟩
theorem at_any {ao : Option Addr} {n cap : Nat} {zs : List Int} {w : World} (h : Digs w ao n cap zs) (k : Nat) :
    Calls Try.prog 35 #[.slice ao n cap, .int .i64 k] w fun e w' => e = .returned (.int .i64 (zs.getD k 0)) ∧ w' = w := by
  obtain ⟨h1, h2, h3, h4⟩ := h
  by_cases hk : k < zs.length
  · rcases h4 with ⟨_, rfl, _⟩ | ⟨b, off, rfl, hb', hc⟩
    · simp at hk
    · exact at_in b off n cap _ k w (by omega) (hc k hk)
  · have e : zs.getD k 0 = 0 := by rw [List.getD_eq_getElem?_getD, List.getElem?_eq_none (by omega)]; rfl
    rw [e]
    exact at_out ao n cap k w (by omega)

theorem trim_val {zs : List Int} (ho : Ok zs) (k : Nat) (hk : k ≤ zs.length) (hz : ∀ j, k ≤ j → zs.getD j 0 = 0) (ht : 0 < k → zs.getD (k - 1) 0 ≠ 0) :
    Ok (zs.take k) ∧ Trimmed (zs.take k) ∧ val (zs.take k) = val zs ∧ (zs.take k).length = k ∧ ∀ j, j < k → (zs.take k).getD j 0 = zs.getD j 0 := by
  have hl : (zs.take k).length = k := by rw [List.length_take]; omega
  have hg : ∀ j, j < k → (zs.take k).getD j 0 = zs.getD j 0 := by
    intro j hj
    rw [List.getD_eq_getElem?_getD, List.getD_eq_getElem?_getD, List.getElem?_take_of_lt hj]
  refine ⟨ho.take k, ?_, val_dropped k hz, hl, hg⟩
  intro hne
  have : 0 < k := by
    rcases Nat.eq_zero_or_pos k with h | h
    · subst h; simp at hne
    · exact h
  rw [hl, hg (k - 1) (by omega)]
  exact ht this

set_option maxHeartbeats 400000 in
theorem trim_walk (b off n cap : Nat) (d : Nat → Int) (w : World) (h2 : n ≤ cap) (h3 : n ≤ 1048576)
    (hc : ∀ j, j < n → w.cell? ⟨b, off + j, none⟩ = some (.int .i64 (d j))) :
    Calls Try.prog 31 #[.slice (some ⟨b, off, none⟩) n cap] w fun e w' => ∃ k : Nat, k ≤ n ∧ e = .returned (.slice (some ⟨b, off, none⟩) k cap) ∧ (∀ j, k ≤ j → j < n → d j = 0) ∧ (0 < k → d (k - 1) ≠ 0) ∧ w' = w := by
  go_enter Try.func31, Try.ntmps31
  go_wp2
  go_loop [3] (fun t => ∃ k : Nat, k ≤ n ∧ t = .int .i64 k ∧ ∀ j, k ≤ j → j < n → d j = 0) (fun t => (intOf t).toNat)
  case atStart => exact ⟨n, Nat.le_refl _, rfl, fun j h1 h2 => absurd h2 (by omega)⟩
  case round =>
    obtain ⟨k, hk, rfl, hz⟩ := hrel
    have HZ : Hid (∀ j, k ≤ j → j < n → d j = 0) := hz
    clear hz
    by_cases h0 : k = 0
    · subst h0
      clear hc
      go_wp2
      go_ret
      exact ⟨0, Nat.zero_le _, rfl, HZ.out, fun h => absurd h (by omega), rfl⟩
    · obtain ⟨m, rfl⟩ : ∃ m, k = m + 1 := ⟨k - 1, by omega⟩
      have hcm := hc m (by omega)
      have HC : Hid (∀ j, j < n → w.cell? ⟨b, off + j, none⟩ = some (.int .i64 (d j))) := hc
      clear hc h0
      generalize hd : d m = dm at hcm
      by_cases hdm : dm = 0
      · have Hd : Hid (d m = dm) := hd
        clear hd
        subst hdm
        go_wp2
        go_round
        case rel => exact ⟨m, by omega, by go_num, fun j h1 h2 => by
          by_cases e : j = m
          · subst e; exact Hd.out
          · exact HZ.out j (by omega) h2⟩
        case measure => simp [intOf]
      · have Hd : Hid (d m = dm) := hd
        have hb : (dm == 0) = false := by rw [beq_eq_false_iff_ne]; exact hdm
        have Hdm : Hid (dm ≠ 0) := hdm
        clear hd hdm
        go_wp2
        go_ret
        exact ⟨m + 1, hk, rfl, HZ.out, fun _ => by simp; rw [Hd.out]; exact Hdm.out, rfl⟩

theorem trim_nil (w : World) : Calls Try.prog 31 #[.slice none 0 0] w fun e w' => e = .returned (.slice none 0 0) ∧ w' = w := by
  go_enter Try.func31, Try.ntmps31
  go_wp2
  refine wp_loop_rounds 1 ?_
  rw [rounds_succ]
  go_wp2
  go_ret
  exact ⟨rfl, rfl⟩

theorem trim_any {ao : Option Addr} {n cap : Nat} {zs : List Int} {w : World} (h : Digs w ao n cap zs) (ho : Ok zs) :
    Calls Try.prog 31 #[.slice ao n cap] w fun e w' => ∃ ao' n' cap' ys, e = .returned (.slice ao' n' cap') ∧ Digs w' ao' n' cap' ys ∧ Ok ys ∧ Trimmed ys ∧ val ys = val zs ∧ ys.length ≤ zs.length ∧ ao' = ao ∧ w' = w := by
  obtain ⟨h1, h2, h3, h4⟩ := h
  rcases h4 with ⟨rfl, rfl, rfl⟩ | ⟨b, off, rfl, hb', hc⟩
  · subst h1
    refine (trim_nil w).mono ?_
    rintro e w' ⟨rfl, rfl⟩
    exact ⟨none, 0, 0, [], rfl, ⟨rfl, Nat.le_refl _, Nat.zero_le _, .inl ⟨rfl, rfl, rfl⟩⟩, Ok.nil, fun h => absurd rfl h, rfl, Nat.le_refl _, rfl, rfl⟩
  · refine (trim_walk b off n cap (fun j => zs.getD j 0) w h2 h3 (fun j hj => hc j (by omega))).mono ?_
    rintro e w' ⟨k, hk, rfl, hz, ht, rfl⟩
    obtain ⟨a1, a2, a3, a4, a5⟩ := trim_val ho k (by omega) (fun j hj => by
      by_cases hjn : j < n
      · exact hz j hj hjn
      · rw [List.getD_eq_getElem?_getD, List.getElem?_eq_none (by omega)]; rfl) ht
    exact ⟨_, _, _, zs.take k, rfl, ⟨a4.symm, by omega, by omega, .inr ⟨b, off, rfl, hb', fun j hj => by rw [a5 j (by omega)]; exact hc j (by omega)⟩⟩, a1, a2, a3, by omega, rfl, rfl⟩

/-- A slice value that holds a number's digits, without noughts at the end; at most L of them. -/
def Num (w : World) (ao : Option Addr) (n cap : Nat) (N : Int) (L : Nat) : Prop := ∃ zs, Digs w ao n cap zs ∧ Ok zs ∧ Trimmed zs ∧ val zs = N ∧ n ≤ L
theorem Num.below {w w' : World} {ao : Option Addr} {n cap : Nat} {N : Int} {L : Nat} (h : Num w ao n cap N L) (hb : Below w.heap.size w w') : Num w' ao n cap N L := by
  obtain ⟨zs, h1, h2⟩ := h
  exact ⟨zs, h1.below hb, h2⟩
theorem Num.nonneg {w : World} {ao : Option Addr} {n cap : Nat} {N : Int} {L : Nat} (h : Num w ao n cap N L) : 0 ≤ N := by
  obtain ⟨zs, h1, h2, _, rfl, _⟩ := h
  exact val_nonneg h2
theorem Num.nil (w : World) (L : Nat) : Num w none 0 0 0 L := ⟨[], ⟨rfl, Nat.le_refl _, by omega, .inl ⟨rfl, rfl, rfl⟩⟩, Ok.nil, fun h => absurd rfl h, rfl, Nat.zero_le _⟩

/-- Memory that was made since w, or none. -/
def New (w : World) (ao : Option Addr) : Prop := ∀ a, ao = some a → w.heap.size ≤ a.block

/-- Two rows that agree above a place, and differ there, differ so in all. -/
theorem cmp_lt {xs ys : List Int} (hx : Ok xs) (hy : Ok ys) (k : Nat) (he : val xs - val (xs.take (k + 1)) = val ys - val (ys.take (k + 1))) (hlt : xs.getD k 0 < ys.getD k 0) : val xs < val ys := by
  rw [val_take, val_take] at he
  have h1 := val_take_lt hx k
  have h2 := val_nonneg (hy.take k)
  have h3 := Int.mul_le_mul_of_nonneg_right (show xs.getD k 0 + 1 ≤ ys.getD k 0 by omega) (Int.le_of_lt (pw_pos k))
  rw [Int.add_mul] at h3
  omega
theorem cmp_down {xs ys : List Int} (k : Nat) (he : val xs - val (xs.take (k + 1)) = val ys - val (ys.take (k + 1))) (hq : xs.getD k 0 = ys.getD k 0) : val xs - val (xs.take k) = val ys - val (ys.take k) := by
  rw [val_take, val_take, hq] at he
  omega

set_option maxHeartbeats 400000 in
theorem cmp_any {ao bo : Option Addr} {n m cap cap' : Nat} {xs ys : List Int} {w : World} (hx : Digs w ao n cap xs) (hy : Digs w bo m cap' ys) (ox : Ok xs) (oy : Ok ys) :
    Calls Try.prog 19 #[.slice ao n cap, .slice bo m cap'] w fun e w' => (∃ c : Int, e = .returned (.int .i64 c) ∧ ((c = -1 ∧ val xs < val ys) ∨ (c = 0 ∧ val xs = val ys) ∨ (c = 1 ∧ val ys < val xs))) ∧ w' = w := by
  have ln : n = xs.length := hx.1
  have lm : m = ys.length := hy.1
  have bn := hx.2.2.1
  have bm := hy.2.2.1
  have HX := hide hx; have HY := hide hy; have HOX := hide ox; have HOY := hide oy
  have Hln := hide ln; have Hlm := hide lm
  clear hx hy ox oy ln lm
  go_enter Try.func19, Try.ntmps19
  go_wp2
  all_goals
    go_loop [5] (fun t => ∃ k : Nat, t = .int .i64 (k - 1 : Int) ∧ k ≤ 1048576 ∧ val xs - val (xs.take k) = val ys - val (ys.take k)) (fun t => (intOf t + 1).toNat)
    case atStart => exact ⟨_, rfl, by omega, by have := Hln.out; have := Hlm.out; rw [val_take_all xs _ (by omega), val_take_all ys _ (by omega)]; omega⟩
    case round =>
      obtain ⟨k, rfl, hk, hv⟩ := hrel
      have HV := hide hv
      clear hv
      by_cases h0 : k = 0
      · subst h0
        go_wp2
        go_ret
        have e := HV.out
        simp only [List.take_zero, val] at e
        exact ⟨⟨0, rfl, .inr (.inl ⟨rfl, by omega⟩)⟩, rfl⟩
      · obtain ⟨j, rfl⟩ : ∃ j, k = j + 1 := ⟨k - 1, by omega⟩
        clear h0
        have ix : (((j + 1 : Nat) : Int) - 1) = (j : Int) := by omega
        rw [ix]
        clear ix
        obtain ⟨x, ex, cx⟩ : ∃ x, Hid (x = xs.getD j 0) ∧ Hid (Calls Try.prog 35 #[.slice ao n cap, .int .i64 j] w fun e w' => e = .returned (.int .i64 x) ∧ w' = w) := ⟨_, rfl, at_any HX.out j⟩
        obtain ⟨y, ey, cy⟩ : ∃ y, Hid (y = ys.getD j 0) ∧ Hid (Calls Try.prog 35 #[.slice bo m cap', .int .i64 j] w fun e w' => e = .returned (.int .i64 y) ∧ w' = w) := ⟨_, rfl, at_any HY.out j⟩
        rcases Int.lt_trichotomy x y with hxy | hxy | hxy
        · go_wp2_with fail
          refine cx.out.mono ?_
          rintro e w1 ⟨rfl, rfl⟩
          go_wp2_with fail
          refine cy.out.mono ?_
          rintro e w1 ⟨rfl, rfl⟩
          go_wp2_with fail
          go_ret
          exact ⟨⟨-1, rfl, .inl ⟨rfl, cmp_lt HOX.out HOY.out j HV.out (by rw [← ex.out, ← ey.out]; exact hxy)⟩⟩, rfl⟩
        · subst hxy
          go_wp2_with fail
          refine cx.out.mono ?_
          rintro e w1 ⟨rfl, rfl⟩
          go_wp2_with fail
          refine cy.out.mono ?_
          rintro e w1 ⟨rfl, rfl⟩
          go_wp2_with fail
          refine cx.out.mono ?_
          rintro e w1 ⟨rfl, rfl⟩
          go_wp2_with fail
          refine cy.out.mono ?_
          rintro e w1 ⟨rfl, rfl⟩
          go_wp2_with fail
          go_round
          case rel => exact ⟨j, by go_num, by omega, cmp_down j HV.out (ex.out.symm.trans ey.out)⟩
          case measure => simp [intOf]
        · go_wp2_with fail
          refine cx.out.mono ?_
          rintro e w1 ⟨rfl, rfl⟩
          go_wp2_with fail
          refine cy.out.mono ?_
          rintro e w1 ⟨rfl, rfl⟩
          go_wp2_with fail
          refine cx.out.mono ?_
          rintro e w1 ⟨rfl, rfl⟩
          go_wp2_with fail
          refine cy.out.mono ?_
          rintro e w1 ⟨rfl, rfl⟩
          go_wp2_with fail
          go_ret
          exact ⟨⟨1, rfl, .inr (.inr ⟨rfl, cmp_lt HOY.out HOX.out j HV.out.symm (by rw [← ex.out, ← ey.out]; exact hxy)⟩)⟩, rfl⟩

theorem Try.info3 : (Try.prog.info? 3).map (fun i => (i.zero, i.size, i.bytes)) = some (some (.int .i64 0), 1, 8) := by kernel_rfl

/-- A row that the call itself made, read as digits. -/
theorem owns_digs {w : World} {B n : Nat} {v : Value} {zs : List Int} (h : w.ownsRow B 3 1 v n (zs.map (Value.int .i64))) (hl : zs.length ≤ 1048576) :
    ∃ ao cap, v = .slice ao zs.length cap ∧ Digs w ao zs.length cap zs := by
  have hn : n = zs.length := by have := h.1; simp at this; omega
  subst hn
  rcases h.2 with ⟨rfl, e⟩ | ⟨g, cap, cur, rfl, hb, hg, hcap, hm, hs, ht⟩
  · exact ⟨none, 0, by rw [e], rfl, by omega, hl, .inl ⟨rfl, List.length_eq_zero_iff.1 e, rfl⟩⟩
  · refine ⟨_, cap, rfl, rfl, hcap, hl, .inr ⟨g, 0, rfl, ?_, ?_⟩⟩
    · exact (Array.getElem?_eq_some_iff.1 hg).1
    · intro j hj
      have := World.ownsRow.cellAt h j (by omega)
      rw [Nat.zero_add, this, List.getElem?_map, List.getElem?_eq_getElem hj, List.getD_eq_getElem?_getD, List.getElem?_eq_getElem hj]
      rfl

/-- One digit appended: what is owned, and that nothing old has turned. -/
theorem append_step {w wr w1 : World} {o : Obj} {v v' : Value} {zs : List Int} {d : Int} (hnx : Below w.heap.size w wr) (hown : wr.ownsRow w.heap.size 3 1 v zs.length (zs.map (Value.int .i64)))
    (hown' : w1.ownsRow w.heap.size 3 1 v' (zs.length + 1) (zs.map (Value.int .i64) ++ [.int .i64 d])) (hgrow : (wr.alloc o).grownBy w1 v.ownBlock) :
    Below w.heap.size w w1 ∧ w1.ownsRow w.heap.size 3 1 v' (zs ++ [d]).length ((zs ++ [d]).map (Value.int .i64)) := by
  have hs := hnx.size
  refine ⟨(hnx.alloc hs o).grown hgrow (by simp; omega) (fun k hk => (hown.lt k hk).1), ?_⟩
  simpa using hown'

theorem one_cell (d : Int) : ∀ u ∈ [Value.int .i64 d], u.oneCell' = true := by intro u hu; simp at hu; subst hu; rfl

/-- The value v holds the ints zs, in a row that was made since w; what lay in w is as it was. -/
def Made (w wr : World) (v : Value) (zs : List Int) : Prop := wr.ownsRow w.heap.size 3 1 v zs.length (zs.map (Value.int .i64)) ∧ Below w.heap.size w wr
theorem Made.nil (w : World) : Made w w (.slice none 0 0) [] := ⟨World.ownsRow_nil _ _ _ _, Below.refl _ _⟩
theorem Made.new {w wr : World} {ao : Option Addr} {n cap : Nat} {zs : List Int} (h : Made w wr (.slice ao n cap) zs) : New w ao := by
  intro a e
  subst e
  exact (h.1.lt a.block rfl).1
theorem Made.digs {w wr : World} {v : Value} {zs : List Int} (h : Made w wr v zs) (hl : zs.length ≤ 1048576) : ∃ ao cap, v = .slice ao zs.length cap ∧ Digs wr ao zs.length cap zs := owns_digs h.1 hl

/-- One int appended to a row that the call itself made. -/
theorem app_int {ops : Array Oper} {rest : List Oper} {o : Oper} {a : Act} {Q : Exit → Act → World → Prop} (hgd : o.guard = none) (s x : Operand)
    (ho : o.op = .call { callee := .builtin .append, args := #[s, x], argTypes := #[47, 47] }) {w wr : World} (v : Value) (zs : List Int) (d : Int) (hs : a.eval s = v)
    (hx : a.eval x = .slice (some ⟨wr.heap.size, 0, none⟩) 1 1) (hm : Made w wr v zs) (hl : zs.length ≤ 1048576)
    (h : ∀ v' w1, Made w w1 v' (zs ++ [d]) → wpList Try.prog ops Q rest (a.put o.dst v') w1) :
    wpList Try.prog ops Q (o :: rest) a (wr.alloc (.cells #[.int .i64 d] 3)) := by
  obtain ⟨i0, hi, hz0, hz1, hz2⟩ := info_parts Try.info3
  obtain ⟨hown, hnx⟩ := hm
  refine wpList_append_own _ hgd s x 47 ho w.heap.size 3 i0 (.int .i64 0) 1 8 Try.underlying47 hi hz0 hz1 hz2 rfl (by decide) v zs.length _ hs (hown.alloc _) ⟨wr.heap.size, 0, none⟩ 1 1 [.int .i64 d] hx rfl (cell_one_new _ _ _) (one_cell _) (by unfold maxLen; omega) (by omega) (by have := hnx.size; simp; omega) ?_
  intro v' w1 hown' hgrow _
  obtain ⟨b1, b2⟩ := append_step hnx hown hown' hgrow
  exact h v' w1 ⟨b2, b1⟩

theorem of_step {X y : Int} {zs : List Int} (hX : X < 18446744073709551616) (ho : Ok zs) (hy : 0 < y) (hv : val zs + y * pw zs.length = X) :
    Ok (zs ++ [y % 65536]) ∧ val (zs ++ [y % 65536]) + y / 65536 * pw (zs ++ [y % 65536]).length = X ∧ (y / 65536 = 0 → Trimmed (zs ++ [y % 65536])) ∧ zs.length < 4 := by
  have hp := pw_pos zs.length
  refine ⟨ho.append (Ok.one (by omega)), ?_, ?_, ?_⟩
  · rw [val_snoc, List.length_append, List.length_singleton, pw_succ, ← hv]
    have e : y * pw zs.length = (y / 65536 * 65536 + y % 65536) * pw zs.length := by congr 1; omega
    rw [e, Int.add_mul, Int.mul_assoc, Int.mul_comm 65536]
    omega
  · intro h0 _
    rw [List.length_append, List.length_singleton, Nat.add_sub_cancel, List.getD_eq_getElem?_getD, List.getElem?_append_right (Nat.le_refl _)]
    simp
    omega
  · have h0 := val_nonneg ho
    have h1 := Int.mul_le_mul_of_nonneg_right (show 1 ≤ y by omega) (Int.le_of_lt hp)
    by_cases hc : zs.length < 4
    · exact hc
    · have h2 := pw_mono (show 4 ≤ zs.length by omega)
      have h3 : pw 4 = 18446744073709551616 := by decide
      omega

theorem split_digit (x P : Int) : x * P = x / 65536 * (P * 65536) + x % 65536 * P := by
  have e : x * P = (x / 65536 * 65536 + x % 65536) * P := by congr 1; omega
  rw [e, Int.add_mul, Int.mul_assoc, Int.mul_comm 65536]

theorem add_step {xs ys zs : List Int} {k : Nat} {c : Int} (hx : Ok xs) (hy : Ok ys) (hz : Ok zs) (hk : zs.length = k) (hc : 0 ≤ c ∧ c ≤ 1)
    (hv : val zs + c * pw k = val (xs.take k) + val (ys.take k)) :
    let x := xs.getD k 0 + ys.getD k 0 + c
    Ok (zs ++ [x % 65536]) ∧ val (zs ++ [x % 65536]) + x / 65536 * pw (k + 1) = val (xs.take (k + 1)) + val (ys.take (k + 1)) ∧ 0 ≤ x / 65536 ∧ x / 65536 ≤ 1 := by
  intro x
  have h1 := hx.getD k
  have h2 := hy.getD k
  refine ⟨hz.append (Ok.one (by omega)), ?_, by omega, by omega⟩
  rw [val_snoc, val_take, val_take, hk, pw_succ]
  have e := split_digit x (pw k)
  have e2 : x * pw k = xs.getD k 0 * pw k + ys.getD k 0 * pw k + c * pw k := by rw [← Int.add_mul, ← Int.add_mul]
  omega

set_option maxHeartbeats 1000000 in
theorem add_raw {ao bo : Option Addr} {n m cap cap' : Nat} {xs ys : List Int} {w : World} (hx : Digs w ao n cap xs) (hy : Digs w bo m cap' ys) (ox : Ok xs) (oy : Ok ys) (bn : n < 1048576) (bm : m < 1048576) :
    Calls Try.prog 16 #[.slice ao n cap, .slice bo m cap'] w fun e w' => ∃ ao' n' cap' zs, e = .returned (.slice ao' n' cap') ∧ Digs w' ao' n' cap' zs ∧ Ok zs ∧ Trimmed zs ∧ val zs = val xs + val ys ∧ Below w.heap.size w w' ∧ New w ao' := by
  have HX := hide hx; have HY := hide hy; have HOX := hide ox; have HOY := hide oy
  have Hln : Hid (n = xs.length) := hx.1
  have Hlm : Hid (m = ys.length) := hy.1
  clear hx hy ox oy
  obtain ⟨M, hM⟩ : ∃ M, M = max n m := ⟨_, rfl⟩
  have HM := hide hM
  have bM : M < 1048576 := by omega
  clear hM
  go_enter Try.func16, Try.ntmps16
  go_wp2
  go_loopw [5, 6, 7] (fun v c i wr => ∃ (k : Nat) (cc : Int) (zs : List Int), c = .int .i64 cc ∧ i = .int .i64 k ∧ 0 ≤ cc ∧ cc ≤ 1 ∧ Made w wr v zs ∧ Ok zs ∧ zs.length = k ∧ val zs + cc * pw k = val (xs.take k) + val (ys.take k) ∧ k ≤ M + 1 ∧ (k = M + 1 → cc = 0))
    (fun _ _ i _ => M + 1 - (intOf i).toNat)
  case atStart => exact ⟨0, 0, [], rfl, rfl, by omega, by omega, Made.nil _, Ok.nil, rfl, by simp [val], by omega, by omega⟩
  case round =>
    obtain ⟨k, cc, zs, rfl, rfl, hc0, hc1, hm, ho, hl, hv, hk, hlast⟩ := hrel
    have HO := hide ho; have HL := hide hl; have HV := hide hv; have HK := hide hlast
    clear ho hl hv hlast
    obtain ⟨x, ex, cx⟩ : ∃ x, Hid (x = xs.getD k 0) ∧ Hid (Calls Try.prog 35 #[.slice ao n cap, .int .i64 k] wr fun e w' => e = .returned (.int .i64 x) ∧ w' = wr) := ⟨_, rfl, at_any (HX.out.below hm.2) k⟩
    obtain ⟨y, ey, cy⟩ : ∃ y, Hid (y = ys.getD k 0) ∧ Hid (Calls Try.prog 35 #[.slice bo m cap', .int .i64 k] wr fun e w' => e = .returned (.int .i64 y) ∧ w' = wr) := ⟨_, rfl, at_any (HY.out.below hm.2) k⟩
    have bx : 0 ≤ x ∧ x < 65536 := by rw [ex.out]; exact HOX.out.getD k
    have bY : 0 ≤ y ∧ y < 65536 := by rw [ey.out]; exact HOY.out.getD k
    obtain ⟨bx0, bx1⟩ := bx
    obtain ⟨by0, by1⟩ := bY
    have hx1 : 0 ≤ x + y + cc := by omega
    have st := add_step HOX.out HOY.out HO.out HL.out ⟨hc0, hc1⟩ HV.out
    rw [← ex.out, ← ey.out] at st
    obtain ⟨s1, s2, s3, s4⟩ := st
    have H1 := hide s1; have H2 := hide s2; have H3 := hide s3; have H4 := hide s4
    clear s1 s2 s3 s4
    have Hcc : Hid (¬ k < M → (x + y + cc) / 65536 = 0) := by
      intro h
      have e1 : x = 0 := by rw [ex.out, List.getD_eq_getElem?_getD, List.getElem?_eq_none (by have := Hln.out; have := HM.out; omega)]; rfl
      have e2 : y = 0 := by rw [ey.out, List.getD_eq_getElem?_getD, List.getElem?_eq_none (by have := Hlm.out; have := HM.out; omega)]; rfl
      omega
    have hkM : Hid (0 < cc → k ≤ M) := by
      intro h
      by_cases e : k = M + 1
      · have := HK.out e; omega
      · omega
    have hMx := HM.out
    have hl' : zs.length ≤ 1048576 := by have := HL.out; omega
    by_cases hgo : k < M ∨ (¬ k < M ∧ 0 < cc)
    · have hkM2 : k ≤ M := by
        rcases hgo with h | ⟨_, h⟩
        · omega
        · exact hkM.out h
      have Hgo : Hid (k < M ∨ ¬ k < M) := by exact Decidable.em _
      rcases hgo with hg | ⟨hg, hcp⟩ <;> by_cases hnm : n < m
      all_goals
        try (have hq1 : k < m := by omega)
        try (have hq2 : k < n := by omega)
        try (have hq3 : ¬ k < m := by omega)
        try (have hq4 : ¬ k < n := by omega)
        clear hMx hg
        go_wp2_with fail
        refine cx.out.mono ?_
        rintro e w1 ⟨rfl, rfl⟩
        go_wp2_with fail
        refine cy.out.mono ?_
        rintro e w1 ⟨rfl, rfl⟩
        go_wp2_with (at_builtin; refine app_int rfl _ _ rfl _ zs ((x + y + cc) % 65536) rfl rfl hm hl' ?_)
        intro v' w2 hm'
        go_wp2
        go_roundw
        case rel => exact ⟨k + 1, (x + y + cc) / 65536, zs ++ [(x + y + cc) % 65536], rfl, by go_num, H3.out, H4.out, hm', H1.out, by rw [List.length_append, HL.out]; rfl, H2.out, by omega, fun h => Hcc.out (by omega)⟩
        case measure => simp [intOf]; omega
    · have hcz : cc = 0 := by omega
      have hge : ¬ k < M := by omega
      by_cases hnm : n < m
      all_goals
        have hq3 : ¬ k < m := by omega
        have hq4 : ¬ k < n := by omega
        have Hge := hide hge
        clear hMx hgo hge
        subst hcz
        go_wp2_with fail
        obtain ⟨ao1, cap1, rfl, hd⟩ := hm.digs hl'
        refine (trim_any hd HO.out).mono ?_
        rintro e w2 ⟨ao2, n2, cap2, vs, rfl, t1, t2, t3, t4, t5, t6, rfl⟩
        have T4 := hide t4
        clear t4 t5
        subst t6
        go_wp2
        go_ret
        have := Hln.out; have := Hlm.out; have := HM.out; have := Hge.out
        refine ⟨_, _, _, vs, rfl, t1, t2, t3, ?_, hm.2, hm.new⟩
        rw [T4.out]
        have e := HV.out
        rw [val_take_all xs _ (by omega), val_take_all ys _ (by omega)] at e
        omega

theorem add_new {ao bo : Option Addr} {n m cap cap' : Nat} {A B : Int} {L : Nat} {w : World} (hx : Num w ao n cap A L) (hy : Num w bo m cap' B L) (hL : L < 1048576) :
    Calls Try.prog 16 #[.slice ao n cap, .slice bo m cap'] w fun e w' => ∃ ao' n' cap', e = .returned (.slice ao' n' cap') ∧ Num w' ao' n' cap' (A + B) (L + 1) ∧ Below w.heap.size w w' ∧ New w ao' := by
  obtain ⟨xs, dx, ox, tx, rfl, lx⟩ := hx
  obtain ⟨ys, dy, oy, ty, rfl, ly⟩ := hy
  refine (add_raw dx dy ox oy (by omega) (by omega)).mono ?_
  rintro e w' ⟨ao', n', cap', zs, rfl, h1, h2, h3, h4, h5, h6⟩
  refine ⟨_, _, _, rfl, ⟨zs, h1, h2, h3, h4, ?_⟩, h5, h6⟩
  have e := h1.1
  rw [e]
  apply trimmed_short h2 h3
  rw [h4, pw_succ]
  have a1 := val_lt ox
  have a2 := val_lt oy
  have b1 := pw_mono (show xs.length ≤ L by have := dx.1; omega)
  have b2 := pw_mono (show ys.length ≤ L by have := dy.1; omega)
  have := pw_pos L
  omega
theorem add_any {ao bo : Option Addr} {n m cap cap' : Nat} {A B : Int} {L : Nat} {w : World} (hx : Num w ao n cap A L) (hy : Num w bo m cap' B L) (hL : L < 1048576) :
    Calls Try.prog 16 #[.slice ao n cap, .slice bo m cap'] w fun e w' => ∃ ao' n' cap', e = .returned (.slice ao' n' cap') ∧ Num w' ao' n' cap' (A + B) (L + 1) ∧ Below w.heap.size w w' := by
  refine (add_new hx hy hL).mono ?_
  rintro e w' ⟨ao', n', cap', h1, h2, h3, _⟩
  exact ⟨ao', n', cap', h1, h2, h3⟩
/-- A number that is less has no more digits. -/
theorem Num.short {w w' : World} {ao bo : Option Addr} {n m cap cap' : Nat} {A B : Int} {L M : Nat} (h : Num w ao n cap A L) (hb : Num w' bo m cap' B M) (hle : A ≤ B) : Num w ao n cap A M := by
  obtain ⟨xs, dx, ox, tx, rfl, lx⟩ := h
  obtain ⟨ys, dy, oy, ty, rfl, ly⟩ := hb
  refine ⟨xs, dx, ox, tx, rfl, ?_⟩
  have := trimmed_len ox tx oy hle
  have := dx.1
  have := dy.1
  omega
theorem Num.upto {w : World} {ao : Option Addr} {n cap : Nat} {A : Int} {L : Nat} (h : Num w ao n cap A L) (M : Nat) (hlt : A < pw M) : Num w ao n cap A M := by
  obtain ⟨xs, dx, ox, tx, rfl, lx⟩ := h
  exact ⟨xs, dx, ox, tx, rfl, by rw [dx.1]; exact trimmed_short ox tx M hlt⟩
theorem Num.mono {w : World} {ao : Option Addr} {n cap : Nat} {A : Int} {L : Nat} (h : Num w ao n cap A L) {M : Nat} (hle : L ≤ M) : Num w ao n cap A M := by
  obtain ⟨xs, dx, ox, tx, rfl, lx⟩ := h
  exact ⟨xs, dx, ox, tx, rfl, by omega⟩
theorem cmp_num {ao bo : Option Addr} {n m cap cap' : Nat} {A B : Int} {L M : Nat} {w : World} (hx : Num w ao n cap A L) (hy : Num w bo m cap' B M) :
    Calls Try.prog 19 #[.slice ao n cap, .slice bo m cap'] w fun e w' => (∃ c : Int, e = .returned (.int .i64 c) ∧ ((c = -1 ∧ A < B) ∨ (c = 0 ∧ A = B) ∨ (c = 1 ∧ B < A))) ∧ w' = w := by
  obtain ⟨xs, dx, ox, tx, rfl, lx⟩ := hx
  obtain ⟨ys, dy, oy, ty, rfl, ly⟩ := hy
  exact cmp_any dx dy ox oy

theorem Made.drewN {w wr : World} {v : Value} {zs : List Int} (h : Made w wr v zs) (q : Nat) : Made w (wr.drewN q) v zs := ⟨h.1, below_drewN h.2 q⟩

theorem sub_step {xs ys zs : List Int} {k : Nat} {c x c' : Int} (hz : Ok zs) (hk : zs.length = k) (hv : val zs - c * pw k = val (xs.take k) - val (ys.take k))
    (hx : x - c' * 65536 = xs.getD k 0 - ys.getD k 0 - c) (hx0 : 0 ≤ x ∧ x < 65536) :
    Ok (zs ++ [x]) ∧ val (zs ++ [x]) - c' * pw (k + 1) = val (xs.take (k + 1)) - val (ys.take (k + 1)) := by
  refine ⟨hz.append (Ok.one hx0), ?_⟩
  rw [val_snoc, val_take, val_take, hk, pw_succ]
  have e : (x - c' * 65536) * pw k = (xs.getD k 0 - ys.getD k 0 - c) * pw k := by rw [hx]
  rw [Int.sub_mul, Int.sub_mul, Int.sub_mul, Int.mul_assoc, Int.mul_comm 65536] at e
  omega

theorem sub_end {xs ys zs : List Int} {c : Int} (hz : Ok zs) (hk : zs.length = xs.length) (hl : ys.length ≤ xs.length) (hc : 0 ≤ c ∧ c ≤ 1) (hle : val ys ≤ val xs)
    (hv : val zs - c * pw xs.length = val (xs.take xs.length) - val (ys.take xs.length)) : val zs = val xs - val ys := by
  rw [List.take_length, val_take_all ys _ hl] at hv
  have h1 := val_lt hz
  rw [hk] at h1
  rcases (by omega : c = 0 ∨ c = 1) with rfl | rfl <;> omega

set_option maxHeartbeats 1000000 in
theorem sub_raw {ao bo : Option Addr} {n m cap cap' : Nat} {xs ys : List Int} {w : World} (hx : Digs w ao n cap xs) (hy : Digs w bo m cap' ys) (ox : Ok xs) (oy : Ok ys) (hl : ys.length ≤ xs.length) (hle : val ys ≤ val xs) :
    Calls Try.prog 58 #[.slice ao n cap, .slice bo m cap'] w fun e w' => ∃ ao' n' cap' zs, e = .returned (.slice ao' n' cap') ∧ Digs w' ao' n' cap' zs ∧ Ok zs ∧ Trimmed zs ∧ val zs = val xs - val ys ∧ Below w.heap.size w w' ∧ New w ao' := by
  have HX := hide hx; have HY := hide hy; have HOX := hide ox; have HOY := hide oy; have HLE := hide hle; have HLL := hide hl
  have Hln : Hid (n = xs.length) := hx.1
  have bn : n ≤ 1048576 := hx.2.2.1
  clear hx hy ox oy hle hl
  go_enter Try.func58, Try.ntmps58
  go_wp2
  go_loopw [5, 6, 7] (fun v c i wr => ∃ (k : Nat) (cc : Int) (zs : List Int), c = .int .i64 cc ∧ i = .int .i64 k ∧ 0 ≤ cc ∧ cc ≤ 1 ∧ Made w wr v zs ∧ Ok zs ∧ zs.length = k ∧ val zs - cc * pw k = val (xs.take k) - val (ys.take k) ∧ k ≤ n)
    (fun _ _ i _ => n - (intOf i).toNat)
  case atStart => exact ⟨0, 0, [], rfl, rfl, by omega, by omega, Made.nil _, Ok.nil, rfl, by simp [val], by omega⟩
  case round =>
    obtain ⟨k, cc, zs, rfl, rfl, hc0, hc1, hm, ho, hl, hv, hk⟩ := hrel
    have HO := hide ho; have HL := hide hl; have HV := hide hv
    clear ho hl hv
    have hl' : zs.length ≤ 1048576 := by have := HL.out; omega
    by_cases hkn : k < n
    · obtain ⟨y, ey, cy⟩ : ∃ y, Hid (y = ys.getD k 0) ∧ Hid (∀ q, Calls Try.prog 35 #[.slice bo m cap', .int .i64 k] (wr.drewN q) fun e w' => e = .returned (.int .i64 y) ∧ w' = wr.drewN q) := ⟨_, rfl, fun q => at_any ((HY.out.below hm.2).below (below_drewN (Below.refl _ _) q)) k⟩
      obtain ⟨x, ex⟩ : ∃ x, Hid (x = xs.getD k 0) := ⟨_, rfl⟩
      obtain ⟨b, off, rfl, hc⟩ : ∃ b off, ao = some ⟨b, off, none⟩ ∧ wr.cell? ⟨b, off + k, none⟩ = some (.int .i64 x) := by
        obtain ⟨_, _, _, h4⟩ := HX.out.below hm.2
        rcases h4 with ⟨_, rfl, _⟩ | ⟨b, off, e, _, hc⟩
        · have := Hln.out; simp at this; omega
        · exact ⟨b, off, e, by rw [ex.out]; exact hc k (by have := Hln.out; omega)⟩
      have bx : 0 ≤ x ∧ x < 65536 := by rw [ex.out]; exact HOX.out.getD k
      have bY : 0 ≤ y ∧ y < 65536 := by rw [ey.out]; exact HOY.out.getD k
      obtain ⟨bx0, bx1⟩ := bx
      obtain ⟨by0, by1⟩ := bY
      have hki : (k : Int) < (n : Int) := by omega
      by_cases hneg : x - y - cc < 0
      · obtain ⟨s1, s2⟩ := sub_step (xs := xs) (ys := ys) (x := x - y - cc + 65536) (c' := 1) HO.out HL.out HV.out (by rw [← ex.out, ← ey.out]; omega) (by omega)
        have H2 := hide s2
        clear s2
        go_wp2_with fail
        go_quiet ((go_at_call 35; exact Calls.quiet_of_same (cy.out _)))
        obtain ⟨wq, hq⟩ : ∃ wq, wq = wr.drewN nq := ⟨_, rfl⟩
        have hm2 := hm.drewN nq
        rw [← hq] at hm2 ⊢
        clear hq hm hc cy
        go_wp2_with (at_builtin; refine app_int rfl _ _ rfl _ zs (x - y - cc + 65536) rfl rfl hm2 hl' ?_)
        intro v' w2 hm'
        clear hm2
        go_wp2
        go_roundw
        case rel => exact ⟨k + 1, 1, zs ++ [x - y - cc + 65536], rfl, by go_num, by omega, by omega, hm', s1, by rw [List.length_append, HL.out]; rfl, H2.out, by omega⟩
        case measure => simp [intOf]; omega
      · obtain ⟨s1, s2⟩ := sub_step (xs := xs) (ys := ys) (x := x - y - cc) (c' := 0) HO.out HL.out HV.out (by rw [← ex.out, ← ey.out]; omega) (by omega)
        have H2 := hide s2
        clear s2
        go_wp2_with fail
        go_quiet ((go_at_call 35; exact Calls.quiet_of_same (cy.out _)))
        obtain ⟨wq, hq⟩ : ∃ wq, wq = wr.drewN nq := ⟨_, rfl⟩
        have hm2 := hm.drewN nq
        rw [← hq] at hm2 ⊢
        clear hq hm hc cy
        go_wp2_with (at_builtin; refine app_int rfl _ _ rfl _ zs (x - y - cc) rfl rfl hm2 hl' ?_)
        intro v' w2 hm'
        clear hm2
        go_wp2
        go_roundw
        case rel => exact ⟨k + 1, 0, zs ++ [x - y - cc], rfl, by go_num, by omega, by omega, hm', s1, by rw [List.length_append, HL.out]; rfl, H2.out, by omega⟩
        case measure => simp [intOf]; omega
    · have hkk : k = n := by omega
      have Hkk := hide hkk
      clear hkk
      have hki : ¬ (k : Int) < (n : Int) := by omega
      go_wp2_with fail
      obtain ⟨ao1, cap1, rfl, hd⟩ := hm.digs hl'
      refine (trim_any hd HO.out).mono ?_
      rintro e w2 ⟨ao2, n2, cap2, vs, rfl, t1, t2, t3, t4, t5, t6, rfl⟩
      have T4 := hide t4
      clear t4 t5
      subst t6
      go_wp2
      go_ret
      refine ⟨_, _, _, vs, rfl, t1, t2, t3, ?_, hm.2, hm.new⟩
      rw [T4.out]
      have e1 := Hkk.out
      have e2 := Hln.out
      exact sub_end HO.out (by rw [HL.out, e1, e2]) HLL.out ⟨hc0, hc1⟩ HLE.out (by have := HV.out; rw [e1, e2] at this; exact this)

theorem sub_new {ao bo : Option Addr} {n m cap cap' : Nat} {A B : Int} {L M : Nat} {w : World} (hx : Num w ao n cap A L) (hy : Num w bo m cap' B M) (hle : B ≤ A) :
    Calls Try.prog 58 #[.slice ao n cap, .slice bo m cap'] w fun e w' => ∃ ao' n' cap', e = .returned (.slice ao' n' cap') ∧ Num w' ao' n' cap' (A - B) L ∧ Below w.heap.size w w' ∧ New w ao' := by
  obtain ⟨xs, dx, ox, tx, rfl, lx⟩ := hx
  obtain ⟨ys, dy, oy, ty, rfl, ly⟩ := hy
  refine (sub_raw dx dy ox oy (trimmed_len oy ty ox hle) hle).mono ?_
  rintro e w' ⟨ao', n', cap', zs, rfl, h1, h2, h3, h4, h5, h6⟩
  refine ⟨_, _, _, rfl, ⟨zs, h1, h2, h3, h4, ?_⟩, h5, h6⟩
  have e := h1.1
  have := dx.1
  have := trimmed_len h2 h3 ox (by rw [h4]; have := val_nonneg oy; omega)
  omega

theorem sub_any {ao bo : Option Addr} {n m cap cap' : Nat} {A B : Int} {L M : Nat} {w : World} (hx : Num w ao n cap A L) (hy : Num w bo m cap' B M) (hle : B ≤ A) :
    Calls Try.prog 58 #[.slice ao n cap, .slice bo m cap'] w fun e w' => ∃ ao' n' cap', e = .returned (.slice ao' n' cap') ∧ Num w' ao' n' cap' (A - B) L ∧ Below w.heap.size w w' := by
  refine (sub_new hx hy hle).mono ?_
  rintro e w' ⟨ao', n', cap', h1, h2, h3, _⟩
  exact ⟨ao', n', cap', h1, h2, h3⟩

theorem Made.cell {w wr : World} {g N cap : Nat} {zs : List Int} (h : Made w wr (.slice (some ⟨g, 0, none⟩) N cap) zs) (hN : N = zs.length) (j : Nat) (hj : j < zs.length) : wr.cell? ⟨g, j, none⟩ = some (.int .i64 (zs.getD j 0)) := by
  subst hN
  rw [World.ownsRow.cellAt h.1 j (by omega), List.getElem?_map, List.getElem?_eq_getElem hj, List.getD_eq_getElem?_getD, List.getElem?_eq_getElem hj]
  rfl
theorem Made.frozen {w wr : World} {g N cap : Nat} {zs : List Int} (h : Made w wr (.slice (some ⟨g, 0, none⟩) N cap) zs) (hN : N = zs.length) (j : Nat) : wr.frozen? ⟨g, j, none⟩ = false := by
  subst hN
  exact World.ownsRow.frozenAt h.1 j
theorem Made.store {w wr : World} {g N cap : Nat} {zs : List Int} (h : Made w wr (.slice (some ⟨g, 0, none⟩) N cap) zs) (hN : N = zs.length) (j : Nat) (d : Int) : Made w (wr.setCell ⟨g, j, none⟩ (.int .i64 d)) (.slice (some ⟨g, 0, none⟩) N cap) (zs.set j d) := by
  subst hN
  obtain ⟨h1, h2⟩ := World.ownsRow.stored h.1 j (.int .i64 d)
  have hb := (h.1.lt g rfl).1
  refine ⟨?_, h.2.setCell hb _⟩
  rw [List.length_set, List.map_set]
  exact h1
/-- 'make' of so many noughts. -/
theorem make_int {ops : Array Oper} {rest : List Oper} {o : Oper} {a : Act} {Q : Exit → Act → World → Prop} (hgd : o.guard = none) (l c : Operand) (hop : o.op = Op.makeSlice 47 l c) {w wr : World}
    (L C : Int) (n : Nat) (hl : a.eval l = .int .i64 L) (hc : a.eval c = .int .i64 C) (hL : L = (n : Int)) (hC : C = (n : Int)) (hn : n ≤ 4194304) (hb : Below w.heap.size w wr)
    (hK : ∀ w', Made w w' (.slice (some ⟨wr.heap.size, 0, none⟩) n n) (List.replicate n 0) → wpList Try.prog ops Q rest (a.put o.dst (.slice (some ⟨wr.heap.size, 0, none⟩) n n)) w') :
    wpList Try.prog ops Q (o :: rest) a wr := by
  obtain ⟨i0, hi, hz0, hz1, hz2⟩ := info_parts Try.info3
  refine wpList_make_full wr hgd l c 47 hop w.heap.size 3 i0 (.int .i64 0) 1 Try.underlying47 hi hz0 hz1 .i64 .i64 L C n hl hc hL hC (by rw [hz2]; omega) (by unfold maxLen; omega) hb.size ?_
  intro w' h1 h2
  refine hK w' ⟨?_, hb.grown h2 hb.size (fun k hk => by cases hk)⟩
  have e : (madeCells (Value.int .i64 0).cells (n * 1)).toList = (List.replicate n 0).map (Value.int .i64) := by
    rw [Nat.mul_one, List.map_replicate]
    exact toList_madeCells_one (.int .i64 0) n
  rw [e] at h1
  rw [List.length_replicate]
  exact h1
/-- A digit of a row, in memory. -/
theorem Digs.cell {w : World} {ao : Option Addr} {n cap : Nat} {zs : List Int} (h : Digs w ao n cap zs) (k : Nat) (hk : k < n) : ∃ b off, ao = some ⟨b, off, none⟩ ∧ b < w.heap.size ∧ ∀ j, j < n → w.cell? ⟨b, off + j, none⟩ = some (.int .i64 (zs.getD j 0)) := by
  obtain ⟨h1, _, _, h4⟩ := h
  rcases h4 with ⟨_, rfl, _⟩ | ⟨b, off, e, h5, hc⟩
  · simp at h1; omega
  · exact ⟨b, off, e, h5, fun j hj => hc j (by omega)⟩

theorem mul_step {ys zs : List Int} {i k : Nat} {c ai V : Int} (hy : Ok ys) (hz : Ok zs) (hik : i + k < zs.length) (hc : 0 ≤ c ∧ c < 65536) (ha : 0 ≤ ai ∧ ai < 65536)
    (hv : val zs + c * pw (i + k) = V + ai * val (ys.take k) * pw i) :
    let x := zs.getD (i + k) 0 + ai * ys.getD k 0 + c
    0 ≤ x ∧ x < 4294967296 ∧ Ok (zs.set (i + k) (x % 65536)) ∧ val (zs.set (i + k) (x % 65536)) + x / 65536 * pw (i + (k + 1)) = V + ai * val (ys.take (k + 1)) * pw i ∧ 0 ≤ x / 65536 ∧ x / 65536 < 65536 := by
  intro x
  have h1 := hz.getD (i + k)
  have h2 := hy.getD k
  have p0 : 0 ≤ ai * ys.getD k 0 := Int.mul_nonneg ha.1 h2.1
  have p1 : ai * ys.getD k 0 ≤ 65535 * 65535 := Int.mul_le_mul (by omega) (by omega) h2.1 (by omega)
  have hx0 : 0 ≤ x := by omega
  have hx1 : x < 4294967296 := by omega
  refine ⟨hx0, hx1, hz.set _ (by omega), ?_, by omega, by omega⟩
  rw [val_set _ _ _ hik, val_take, ← Nat.add_assoc, pw_succ]
  have e := split_digit x (pw (i + k))
  have e2 : x * pw (i + k) = zs.getD (i + k) 0 * pw (i + k) + ai * ys.getD k 0 * pw (i + k) + c * pw (i + k) := by rw [← Int.add_mul, ← Int.add_mul]
  have e3 : ai * ys.getD k 0 * pw (i + k) = ai * (ys.getD k 0 * pw k) * pw i := by rw [pw_add, Int.mul_comm (pw i), ← Int.mul_assoc, Int.mul_assoc ai]
  rw [Int.mul_add, Int.add_mul, ← e3, Int.sub_mul]
  omega

theorem mul_row {xs ys zs : List Int} {i : Nat} {c : Int} (hz : Ok zs) (hi : i + ys.length < zs.length) (hc : 0 ≤ c ∧ c < 65536) (h0 : ∀ j, i + ys.length ≤ j → zs.getD j 0 = 0)
    (hv : val zs + c * pw (i + ys.length) = val (xs.take i) * val ys + xs.getD i 0 * val (ys.take ys.length) * pw i) :
    Ok (zs.set (i + ys.length) c) ∧ val (zs.set (i + ys.length) c) = val (xs.take (i + 1)) * val ys ∧ ∀ j, i + 1 + ys.length ≤ j → (zs.set (i + ys.length) c).getD j 0 = 0 := by
  refine ⟨hz.set _ hc, ?_, ?_⟩
  · rw [val_set _ _ _ hi, h0 _ (Nat.le_refl _), val_take, Int.add_mul]
    rw [List.take_length] at hv
    have : xs.getD i 0 * val ys * pw i = xs.getD i 0 * pw i * val ys := by rw [Int.mul_right_comm]
    rw [Int.sub_zero]
    omega
  · intro j hj
    rw [List.getD_eq_getElem?_getD, List.getElem?_set_ne (by omega), ← List.getD_eq_getElem?_getD]
    exact h0 j (by omega)
theorem rep_zero (n j : Nat) : (List.replicate n (0 : Int)).getD j 0 = 0 := by
  rw [List.getD_eq_getElem?_getD, List.getElem?_replicate]; split <;> rfl
theorem set_zero_far {zs : List Int} {a j : Nat} {d : Int} (h0 : ∀ j, a ≤ j → zs.getD j 0 = 0) (hj : j < a) : ∀ j', a ≤ j' → (zs.set j d).getD j' 0 = 0 := by
  intro j' h
  rw [List.getD_eq_getElem?_getD, List.getElem?_set_ne (by omega), ← List.getD_eq_getElem?_getD]
  exact h0 j' h

/-- A row of ints that was written out. -/
theorem Digs.lit (w : World) (zs : List Int) (hl : zs.length ≤ 1048576) : Digs (w.alloc (.cells (zs.map (Value.int .i64)).toArray 3)) (some ⟨w.heap.size, 0, none⟩) zs.length zs.length zs := by
  refine ⟨rfl, Nat.le_refl _, hl, .inr ⟨w.heap.size, 0, rfl, by simp, ?_⟩⟩
  intro j hj
  rw [World.cell?_alloc_at _ _ _ _ rfl]
  simp [hj]
theorem Num.lit (w : World) (zs : List Int) (hl : zs.length ≤ 1048576) (ho : Ok zs) (ht : Trimmed zs) : Num (w.alloc (.cells (zs.map (Value.int .i64)).toArray 3)) (some ⟨w.heap.size, 0, none⟩) zs.length zs.length (val zs) zs.length :=
  ⟨zs, Digs.lit w zs hl, ho, ht, rfl, Nat.le_refl _⟩
theorem below_lit (w : World) (o : Obj) : Below w.heap.size w (w.alloc o) := (Below.refl _ _).alloc (Nat.le_refl _) o
theorem lit5 (w : World) : Num (w.alloc (.cells #[.int .i64 0, .int .i64 0, .int .i64 0, .int .i64 0, .int .i64 1] 3)) (some ⟨w.heap.size, 0, none⟩) 5 5 18446744073709551616 5 :=
  Num.lit w [0, 0, 0, 0, 1] (by decide) (by intro d hd; simp at hd; omega) (by intro _; decide)
theorem lit1 (w : World) : Num (w.alloc (.cells #[.int .i64 1] 3)) (some ⟨w.heap.size, 0, none⟩) 1 1 1 1 :=
  Num.lit w [1] (by decide) (by intro d hd; simp at hd; omega) (by intro _; decide)
theorem lit0 (w : World) : Num (w.alloc (.cells #[] 3)) (some ⟨w.heap.size, 0, none⟩) 0 0 0 0 :=
  Num.lit w [] (by decide) Ok.nil (fun h => absurd rfl h)

/-- What was there is there, step by step. -/
theorem Below.on {a b c : World} (h : Below a.heap.size a b) (k : Below b.heap.size b c) : Below a.heap.size a c := h.trans (k.mono h.size)

end Go.Proofs.Ytodjfenbbbdofaa
