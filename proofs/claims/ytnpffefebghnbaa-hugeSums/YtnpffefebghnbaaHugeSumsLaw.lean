/- The walk of HugeSums over this translation. -/
import Derived.Test.YtnpffefebghnbaaHugeAddsLaw
import Derived.Test.YtnpffefebghnbaaHugeSum
namespace Go.Proofs.Ytnpffefebghnbaa
open Go.RowKit Go.Lib
attribute [local go_sem] setCell_drewN alloc_drewN eqInt

theorem infoInt : (Try.prog.info? 24).map (fun i => (i.zero, i.size, i.bytes)) = some (some (.agg #[.int .u64 0, .int .u64 0, .int .u64 0, .int .u64 0]), 4, 32) := by kernel_rfl
/-- A number's cells. -/
def cells4 (x : Int) : List Value := [.int .u64 (lm x 0), .int .u64 (lm x 1), .int .u64 (lm x 2), .int .u64 (lm x 3)]
def row4 (l : List Int) : List Value := l.flatMap cells4
theorem row4_length (l : List Int) : (row4 l).length = l.length * 4 := by
  induction l with
  | nil => rfl
  | cons x r ih =>
    show (cells4 x ++ row4 r).length = _
    rw [List.length_append, ih, List.length_cons, show (cells4 x).length = 4 from rfl]
    omega
theorem row4_snoc (l : List Int) (x : Int) : row4 (l ++ [x]) = row4 l ++ cells4 x := by
  unfold row4; rw [List.flatMap_append]; simp
theorem row4_get (l : List Int) (i k : Nat) (hi : i < l.length) (hk : k < 4) : (row4 l)[i * 4 + k]? = some (.int .u64 (lm (l.getD i 0) k)) := by
  induction l generalizing i with
  | nil => simp at hi
  | cons x r ih =>
    show (cells4 x ++ row4 r)[i * 4 + k]? = _
    cases i with
    | zero =>
      rw [List.getElem?_append_left (by rw [show (cells4 x).length = 4 from rfl]; omega)]
      match k, hk with
      | 0, _ => rfl
      | 1, _ => rfl
      | 2, _ => rfl
      | 3, _ => rfl
    | succ i =>
      rw [List.getElem?_append_right (by rw [show (cells4 x).length = 4 from rfl]; omega), show (cells4 x).length = 4 from rfl, show (i + 1) * 4 + k - 4 = i * 4 + k by omega, ih i (by simpa using hi)]
      simp
/-- The value v holds the numbers l, in a row that was made since w; what lay in w is as it was. -/
def MadeI (w wr : World) (v : Value) (l : List Int) : Prop := wr.ownsRow w.heap.size 24 4 v l.length (row4 l) ∧ Below w.heap.size w wr
theorem MadeI.after {w wr w' : World} {v : Value} {l : List Int} (h : MadeI w wr v l) (hb : Below wr.heap.size wr w') : MadeI w w' v l := by
  refine ⟨⟨h.1.1, ?_⟩, bOn h.2 hb⟩
  rcases h.1.2 with h0 | ⟨g, cap, cur, hv, hg, hh, r⟩
  · exact .inl h0
  · exact .inr ⟨g, cap, cur, hv, hg, by rw [hb.block g (Array.getElem?_eq_some_iff.1 hh).1]; exact hh, r⟩
theorem MadeI.isl {w wr : World} {v : Value} {l : List Int} (h : MadeI w wr v l) (hl : l.length ≤ 1048576) : ∃ ao cap, v = .slice ao l.length cap ∧ ISl wr ao l.length cap (fun i => l.getD i 0) := by
  rcases h.1.2 with ⟨rfl, e⟩ | ⟨g, cap, cur, rfl, hb, hg, hcap, hm, hs, ht⟩
  · exact ⟨none, 0, by rw [e], by omega, hl, fun h => absurd h (by omega)⟩
  · refine ⟨_, cap, rfl, hcap, hl, fun _ => ⟨g, 0, rfl, (Array.getElem?_eq_some_iff.1 hg).1, fun i hi => ?_⟩⟩
    have key : ∀ k, k < 4 → wr.cell? ⟨g, 0 + i * 4 + k, none⟩ = some (.int .u64 (lm (l.getD i 0) k)) := by
      intro k hk
      rw [Nat.zero_add, World.ownsRow.cellAt h.1 (i * 4 + k) (by omega), row4_get l i k hi hk]
    exact ⟨key 0 (by omega), key 1 (by omega), key 2 (by omega), key 3 (by omega)⟩
theorem four_new (w : World) (x : Int) (t : TypeId) : ∀ j u, (cells4 x)[j]? = some u → (w.alloc (.cells #[.int .u64 (lm x 0), .int .u64 (lm x 1), .int .u64 (lm x 2), .int .u64 (lm x 3)] t)).cell? ((⟨w.heap.size, 0, none⟩ : Addr).add j) = some u := by
  intro j u hj
  rw [Addr.add_mid, Nat.zero_add, World.cell?_alloc_at _ _ _ _ rfl]
  rw [← hj]
  unfold cells4
  simp
theorem four_one (x : Int) : ∀ u ∈ cells4 x, u.oneCell' = true := by
  intro u hu
  unfold cells4 at hu
  simp at hu
  rcases hu with rfl | rfl | rfl | rfl <;> rfl
/-- One number appended to a row that the call itself made. -/
theorem app_big {ops : Array Oper} {rest : List Oper} {o : Oper} {a : Act} {Q : Exit → Act → World → Prop} (hgd : o.guard = none) (s x : Operand)
    (ho : o.op = .call { callee := .builtin .append, args := #[s, x], argTypes := #[42, 42] }) {w wr : World} (v : Value) (l : List Int) (d : Int) (hs : a.eval s = v)
    (hx : a.eval x = .slice (some ⟨wr.heap.size, 0, none⟩) 1 1) (hm : MadeI w wr v l) (hl : l.length ≤ 1048576)
    (h : ∀ v' w1, MadeI w w1 v' (l ++ [d]) → (wr.alloc (.cells #[.int .u64 (lm d 0), .int .u64 (lm d 1), .int .u64 (lm d 2), .int .u64 (lm d 3)] 24)).grownBy w1 v.ownBlock → wpList Try.prog ops Q rest (a.put o.dst v') w1) :
    wpList Try.prog ops Q (o :: rest) a (wr.alloc (.cells #[.int .u64 (lm d 0), .int .u64 (lm d 1), .int .u64 (lm d 2), .int .u64 (lm d 3)] 24)) := by
  obtain ⟨i0, hi, hz0, hz1, hz2⟩ := info_parts infoInt
  obtain ⟨hown, hnx⟩ := hm
  refine wpList_append_own _ hgd s x 42 ho w.heap.size 24 i0 (.agg #[.int .u64 0, .int .u64 0, .int .u64 0, .int .u64 0]) 4 32 Try.underlying42 hi hz0 hz1 hz2 rfl (by decide) v l.length _ hs (hown.alloc _) ⟨wr.heap.size, 0, none⟩ 1 1 (cells4 d) hx rfl (four_new _ _ _) (four_one _) (by unfold maxLen; omega) (by omega) (by have := hnx.size; simp; omega) ?_
  intro v' w1 hown' hgrow _
  have hsz := hnx.size
  refine h v' w1 ⟨?_, (hnx.alloc hsz _).grown hgrow (by simp; omega) (fun k hk => (hown.lt k hk).1)⟩ hgrow
  rw [row4_snoc, List.length_append]
  exact hown'
theorem Num.grown {w w1 : World} {ao : Option Addr} {n cap : Nat} {N : Int} {L : Nat} {row : Option Nat} (h : Num w ao n cap N L) (hg : w.grownBy w1 row) (hoff : ∀ a k, ao = some a → row = some k → a.block ≠ k) : Num w1 ao n cap N L := by
  obtain ⟨zs, ⟨h1, h2, h3, h4⟩, r⟩ := h
  refine ⟨zs, ⟨h1, h2, h3, ?_⟩, r⟩
  rcases h4 with h4 | ⟨b, off, rfl, hb, hc⟩
  · exact .inl h4
  · refine .inr ⟨b, off, rfl, Nat.lt_of_lt_of_le hb hg.size, fun j hj => ?_⟩
    have e : w1.heap[b]? = w.heap[b]? := hg.block b hb (fun e => hoff _ b rfl e.symm rfl)
    exact (World.cell?_of_block (w := w) (a := ⟨b, off + j, none⟩) e).trans (hc j hj)
theorem sums_shift (g : Nat → Int) (n : Nat) : sums g (n + 1) = g 0 + sums (fun i => g (i + 1)) n := by
  induction n with
  | zero => simp [sums]
  | succ n ih =>
    show sums g (n + 1) + g (n + 1) = g 0 + (sums (fun i => g (i + 1)) n + g (n + 1))
    rw [ih]; omega
theorem sums_congr {f g : Nat → Int} {n : Nat} (h : ∀ i, i < n → f i = g i) : sums f n = sums g n := by
  induction n with
  | zero => rfl
  | succ n ih =>
    show sums f n + f n = sums g n + g n
    rw [ih (fun i hi => h i (by omega)), h n (by omega)]
theorem sums_rev (f : Nat → Int) (n : Nat) : sums (fun i => f (n - 1 - i)) n = sums f n := by
  induction n with
  | zero => rfl
  | succ n ih =>
    rw [sums_shift]
    have : sums (fun i => f (n + 1 - 1 - (i + 1))) n = sums (fun i => f (n - 1 - i)) n := sums_congr (fun i _ => by congr 1; omega)
    rw [this, ih]
    show f (n + 1 - 1 - 0) + sums f n = sums f n + f n
    rw [show n + 1 - 1 - 0 = n by omega]; omega
/-- The numbers, the last one first. -/
def bks (f : Nat → Int) (n k : Nat) : List Int := (List.range k).map fun i => f (n - 1 - i)
theorem bks_length (f : Nat → Int) (n k : Nat) : (bks f n k).length = k := by simp [bks]
theorem bks_snoc (f : Nat → Int) (n k : Nat) : bks f n k ++ [f (n - 1 - k)] = bks f n (k + 1) := by
  unfold bks; rw [List.range_succ, List.map_append]; rfl
theorem bks_get (f : Nat → Int) (n k i : Nat) (h : i < k) : (bks f n k).getD i 0 = f (n - 1 - i) := by
  unfold bks; simp [h]
theorem sums_lt {f : Nat → Int} (h : ∀ i, In (f i)) (k : Nat) (hk : k ≤ 30) : sums f k < pw 17 := by
  have : ∀ j, sums f j ≤ j * 115792089237316195423570985008687907853269984665640564039457584007913129639936 := by
    intro j
    induction j with
    | zero => simp [sums]
    | succ j ih =>
      have := (h j).2
      unfold sums
      rw [Int.natCast_succ, Int.add_mul]
      omega
  have := this k
  rw [show pw 17 = 7588550360256754183279148073529370729071901715047420004889892225542594864082845696 by decide]
  omega

set_option maxHeartbeats 4000000 in
theorem hugeSums_long (ao : Option Addr) (n cap : Nat) (w : World) (hn : 30 < n) :
    Calls Try.prog 5 #[.slice ao n cap] w fun e w' => e = .returned (.bool true) ∧ Below w.heap.size w w' := by
  have hni : (30 : Int) < (n : Int) := by omega
  go_enter Try.func5, Try.ntmps5
  go_wp2_with fail
  refine (lives2_any _).mono ?_
  rintro e w1 ⟨rfl, hb1⟩
  have B := hide hb1
  clear hb1
  go_wp2_with fail
  refine (lives2_any _).mono ?_
  rintro e w2 ⟨rfl, hb2⟩
  replace B := hide (bOn B.out hb2)
  clear hb2
  go_wp2
  go_ret
  exact ⟨rfl, B.out⟩

set_option maxHeartbeats 4000000 in
theorem hugeSums_part (ao : Option Addr) (n cap : Nat) (f : Nat → Int) (w : World) (hs : ISl w ao n cap f) (hf : ∀ i, In (f i)) (hn : n ≤ 30) :
    Calls Try.prog 5 #[.slice ao n cap] w fun e w' => e = .returned (.bool true) ∧ Below w.heap.size w w' := by
  have HS := hide hs; have HF := hide hf
  clear hs hf
  have hni : ¬ (30 : Int) < (n : Int) := by omega
  go_enter Try.func5, Try.ntmps5
  go_wp2_with fail
  refine (lives2_any _).mono ?_
  rintro e w1 ⟨rfl, hb1⟩
  have B := hide hb1
  clear hb1
  go_wp2
  go_loopw [3, 4, 20] (fun v3 v4 t wr => ∃ (k : Nat) (xo : Option Addr) (xn xc : Nat), k ≤ n ∧ t = .int .i64 k ∧ v3 = .slice xo xn xc ∧ Num wr xo xn xc (sums f k) 17 ∧ MadeI w wr v4 (bks f n k)) (fun _ _ t _ => n - (intOf t).toNat)
  case atStart => exact ⟨0, none, 0, 0, Nat.zero_le _, rfl, rfl, Num.nil _ _, ⟨World.ownsRow_nil _ _ _ _, B.out⟩⟩
  case round =>
    obtain ⟨k, xo, xn, xc, hk, rfl, rfl, nx, hm⟩ := hrel
    have NX := hide nx; have HM := hide hm
    clear nx hm
    by_cases hlt : k < n
    · have hki : (k : Int) < (n : Int) := by omega
      obtain ⟨b, off, rfl, hbl, hcell⟩ := HS.out.2.2 (by omega)
      obtain ⟨c0, c1, c2, c3⟩ := hcell k hlt
      obtain ⟨d0, d1, d2, d3⟩ := hcell (n - 1 - k) (by omega)
      have HB := hide HM.out.2
      replace c0 := (HB.out.cell (p := ⟨b, off + k * 4, none⟩) hbl).trans c0
      replace c1 := (HB.out.cell (p := ⟨b, off + k * 4 + 1, none⟩) hbl).trans c1
      replace c2 := (HB.out.cell (p := ⟨b, off + k * 4 + 2, none⟩) hbl).trans c2
      replace c3 := (HB.out.cell (p := ⟨b, off + k * 4 + 3, none⟩) hbl).trans c3
      have HC := hide hcell
      have D0 := hide d0; have D1 := hide d1; have D2 := hide d2; have D3 := hide d3
      clear hcell d0 d1 d2 d3
      go_wp2_with fail
      refine (row_of (f k) _ (HF.out k)).mono ?_
      rintro e w2 ⟨yo, yn, yc, rfl, ny, hb2⟩
      have NY := hide ny
      replace HM := hide (HM.out.after hb2); replace NX := hide (NX.out.below hb2)
      clear ny hb2 c0 c1 c2 c3
      go_wp2_with fail
      refine (add_new NX.out (NY.out.mono (by omega)) (by omega)).mono ?_
      rintro e w3 ⟨zo, zn, zc, rfl, nz, hb3, hnew⟩
      have hoff : Hid (∀ a q, zo = some a → Value.ownBlock u4 = some q → a.block ≠ q) := by
        intro a q e1 e2 e3
        have h1 := hnew a e1
        have h2 := HM.out.1.lt q e2
        omega
      have NZ : Hid (Num w3 zo zn zc (sums f (k + 1)) 17) := nz.upto 17 (sums_lt HF.out (k + 1) (by omega))
      replace HM := hide (HM.out.after hb3)
      replace HB := hide HM.out.2
      clear nz hb3 hnew NX NY
      have d0 := (HB.out.cell (p := ⟨b, off + (n - 1 - k) * 4, none⟩) hbl).trans D0.out
      have d1 := (HB.out.cell (p := ⟨b, off + (n - 1 - k) * 4 + 1, none⟩) hbl).trans D1.out
      have d2 := (HB.out.cell (p := ⟨b, off + (n - 1 - k) * 4 + 2, none⟩) hbl).trans D2.out
      have d3 := (HB.out.cell (p := ⟨b, off + (n - 1 - k) * 4 + 3, none⟩) hbl).trans D3.out
      have hl' : (bks f n k).length ≤ 1048576 := by rw [bks_length]; omega
      go_wp2_with (at_builtin; refine app_big rfl _ _ rfl _ (bks f n k) (f (n - 1 - k)) rfl rfl HM.out hl' ?_)
      intro v' w4 hm' hgrow
      have NZ4 := hide ((NZ.out.below (bAl (o := (.cells #[.int .u64 (lm (f (n - 1 - k)) 0), .int .u64 (lm (f (n - 1 - k)) 1), .int .u64 (lm (f (n - 1 - k)) 2), .int .u64 (lm (f (n - 1 - k)) 3)] 24)) (bMe w3))).grown hgrow hoff.out)
      rw [bks_snoc] at hm'
      have HM4 := hide hm'
      clear hm' hgrow d0 d1 d2 d3
      go_wp2
      go_roundw
      case rel => exact ⟨k + 1, zo, zn, zc, by omega, by go_num, rfl, NZ4.out, HM4.out⟩
      case measure => simp [intOf]; omega
    · obtain rfl : k = n := by omega
      obtain ⟨bo, bc, rfl, isl⟩ := HM.out.isl (by rw [bks_length]; omega)
      rw [bks_length] at isl
      have IS := hide isl
      have B0 := hide HM.out.2
      have hfb : ∀ i, In ((bks f k k).getD i 0) := by
        intro i
        by_cases hi : i < k
        · rw [bks_get f k k i hi]; exact HF.out _
        · rw [List.getD_eq_getElem?_getD, List.getElem?_eq_none (by rw [bks_length]; omega)]; exact In.zero
      have HFB := hide hfb
      have ES : Hid (sums (fun i => (bks f k k).getD i 0) k = sums f k) := by
        show _ = _
        rw [sums_congr (g := fun i => f (k - 1 - i)) (fun i hi => bks_get f k k i hi), sums_rev]
      rw [bks_length]
      clear isl hfb HM B
      go_wp2_with fail
      refine (sum_any (HS.out.below B0.out) HF.out).mono ?_
      rintro e w5 ⟨s, c, rfl, hs, hb5⟩
      have HSUM := hide hs
      replace NX := hide (NX.out.below hb5); replace IS := hide (IS.out.below hb5); have B := hide (bOn B0.out hb5)
      clear hs hb5 B0
      go_wp2_with fail
      refine (sum_any (IS.out.below (bAl (o := (.cells #[.int .u64 (lm s 0), .int .u64 (lm s 1), .int .u64 (lm s 2), .int .u64 (lm s 3)] 24)) (bMe w5))) HFB.out).mono ?_
      rintro e w6 ⟨s', c', rfl, hs', hb6⟩
      have eq : s' = s ∧ c' = c := by
        rw [ES.out] at hs'
        rcases HSUM.out with ⟨h1, h2, h3⟩ | ⟨h1, h2, h3⟩ <;> rcases hs' with ⟨g1, g2, g3⟩ | ⟨g1, g2, g3⟩
        · exact ⟨g2.trans h2.symm, g3.trans h3.symm⟩
        · exact absurd h1 g1
        · exact absurd g1 h1
        · exact ⟨g2.trans h2.symm, g3.trans h3.symm⟩
      obtain ⟨rfl, rfl⟩ := eq
      clear hs'
      replace NX := hide (NX.out.below (bOn (bAl (o := (.cells #[.int .u64 (lm s' 0), .int .u64 (lm s' 1), .int .u64 (lm s' 2), .int .u64 (lm s' 3)] 24)) (bMe w5)) hb6))
      have S := hide ((Own.new w5 (lm s' 0) (lm s' 1) (lm s' 2) (lm s' 3) 24).after hb6 rfl)
      replace B := hide (bOn (bAl (o := (.cells #[.int .u64 (lm s' 0), .int .u64 (lm s' 1), .int .u64 (lm s' 2), .int .u64 (lm s' 3)] 24)) B.out) hb6)
      clear hb6
      obtain ⟨s5, s0, s1, s2, s3, _⟩ := S.out
      have hsa := same_self (a := s')
      go_wp2_with fail
      refine (is_any (NX.out.below (bAl (o := (.cells #[.int .u64 (lm s' 0), .int .u64 (lm s' 1), .int .u64 (lm s' 2), .int .u64 (lm s' 3)] 24)) (bMe w6))) HSUM.out).mono ?_
      rintro e w7 ⟨rfl, hb7⟩
      have S7 := hide ((S.out.past (.cells #[.int .u64 (lm s' 0), .int .u64 (lm s' 1), .int .u64 (lm s' 2), .int .u64 (lm s' 3)] 24)).after hb7 rfl)
      have T7 := hide ((Own.new w6 (lm s' 0) (lm s' 1) (lm s' 2) (lm s' 3) 24).after hb7 rfl)
      replace B := hide (bOn (bAl (o := (.cells #[.int .u64 (lm s' 0), .int .u64 (lm s' 1), .int .u64 (lm s' 2), .int .u64 (lm s' 3)] 24)) B.out) hb7)
      clear hb7 s0 s1 s2 s3 s5
      obtain ⟨s5, s0, s1, s2, s3, _⟩ := S7.out
      obtain ⟨t5, t0, t1, t2, t3, _⟩ := T7.out
      go_wp2
      go_ret
      exact ⟨rfl, B.out⟩
theorem hugeSums_walk (ao : Option Addr) (n cap : Nat) (f : Nat → Int) (w : World) (hs : n ≤ 30 → ISl w ao n cap f) (hf : ∀ i, In (f i)) :
    Calls Try.prog 5 #[.slice ao n cap] w fun e w' => e = .returned (.bool true) ∧ Below w.heap.size w w' := by
  by_cases hn : n ≤ 30
  · exact hugeSums_part _ _ _ f w (hs hn) hf hn
  · exact hugeSums_long _ _ _ w (by omega)
end Go.Proofs.Ytnpffefebghnbaa
